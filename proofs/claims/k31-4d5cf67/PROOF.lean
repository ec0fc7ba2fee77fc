import PyProof.Rows.All
import Wide.All
import OpenK.AllK
import Wide.FinOn
import Lean
import PyProof.EqAt
import PyProof.EqKinds
import PyProof.TupleCall
import PyProof.CodeObj
import PyProof.LongRange
import PyProof.Walks
import PyProof.ListMulRoad
import PyProof.ReprRoads
import PyProof.NeData
import PyProof.P3In
import PyProof.ZipIter
import PyProof.Draws
import PyProof.TupleIter
import PyProof.Rows.StrRules
import PyProof.CompUse
import PyProof.ListRange
import KE.KDictLaws
import PyProof.EnumFor
import PyProof.EnumMake
import PyProof.EnumStmt
import PyProof.ConsumeWalk
import KE.KMinKey
import PyProof.ListNew
import PyProof.Rows.SetFrom
import PyProof.WalksMore
import KE.KDictList
import PyProof.DictWalks
import KE.KDictOf
import KE.KDictSum
import KE.KItemsList
import KE.KLam
import KE.KSortKey
import PyProof.AttrMissSeq
import PySem.Challenge.RW_rimehold_k31_out_of_turn
set_option Elab.async false
set_option linter.all false
set_option maxRecDepth 100000
set_option maxHeartbeats 4000000
set_option exponentiation.threshold 3000
set_option hygiene false
set_option compiler.extract_closed false
set_option genSizeOf false
local macro_rules|`(zk)=>`((.tup (op.map dP)))
local macro_rules|`(zj)=>`((model prog w))
local macro_rules|`(zi)=>`((model X.prog X.w))
local macro_rules|`(zh)=>`((by simp;lia))
local macro_rules|`(zg)=>`((by simp))
local macro_rules|`(zf)=>`((dC (.int 1)))
local macro_rules|`(ze)=>`((dC (.int 0)))
local macro_rules|`(zd)=>`((by decide))
local macro_rules|`(zb)=>`((hs rs ks ps hd))
local macro_rules|`(za)=>`((by lia))
local macro_rules|`(zc)=>`(rfl)
local macro_rules|`(zm)=>`(Prop)
open Lean Parser.Tactic in
def zP:Nat->Syntax->MacroM (TSyntax `rcasesPat)
|0,_=>Macro.throwUnsupported
|n+1,s=>match s with
|`(#[$xs,*])=>do
  let ys<-xs.getElems.mapM fun x=>do`(rcasesPatLo|$(<-zP n x):rcasesPat)
  `(rcasesPat|⟨$ys,*⟩)
|`(_)=>`(rcasesPat|_)
|`($i:ident)=>if i.getId==`rfl then`(rcasesPat|rfl)else`(rcasesPat|$i:ident)
|_=>Macro.throwUnsupported
local macro_rules|`(tactic|let#[$xs,*]:=$e)=>do let p<-zP 9 (<-`(#[$xs,*]));`(tactic|obtain $p:rcasesPat:=$e)
local macro_rules|`(#[$x,$xs,*])=>`(⟨$x,$xs,*⟩)
local macro_rules|`(tactic|erw[$[$r:term],*]$[$l:location]?)=>`(tactic|simp only[$[$r:term],*]$[$l]?)
local macro_rules|`(tactic|ext $[$r:ident]*)=>`(tactic|rename_i $[$r:ident]*)
set_option hygiene true
noncomputable section
local macro_rules|`(tactic|show $a:term)=>`(tactic|exact $a)
open PySem renaming wpAny_bind->ai,wpAny_pure->ao,sizeLine_eq->bj,wpAny_newObj_type->eG,wpAny_call_entry->hG,wpAny_holding->ku,wpAny_field->nh,wpAny_mono->nM,mem_of_lookup->pM,strLen_append->qt,wpAny_truthy_bool->qQ,wpAny_rule->qT,wpAny_callSpecial?_slot->qU,wpAny_setField->qV,wpAny_Call_Name_kw->tJ,wpAny_attempt->uE,codeAny_builtin->vj,wpAny_seqItems->vk,wpAny_setField_rec->vm,wpAny_askSetting->vn,wpAny_fieldsOf->vo,wpAny_typeOf->wm,wpAny_setState_of->wo,wpAny_standAt->xH,wpAny_load->xI,codeAny_mono->xK,call_meets->xM,not_mem_of_deeper->xO,wpAny_of_eq->xQ,wpAny_pyIter_slot->xR,wpAny_isInstance->xS,wpAny_pyIter_list->Ep,wpAny_passesOwn->Er,wpAny_newList->Es,tupleKind_room_in1->Et,call_meetsIn->Eu,wpAny_handled->Ew,wpAny_throw->Ex,wpAny_onRaise->Ey,isSubtype_stop->Ez,intKind_is->EA,wpAny_setEntries_of->EB,wpAny_Name->Iu,plainId_quiet->Iv,wpAny_dictEntries->Iw,wpAny_dictEpoch->Iy,wpAny_isOneOf_valiter->Iz,wpAny_loadName_local->Q5,wpAny_execs_nil->Q6,wpAny_call->Q7,concat_meets->Q8,noFill_tuple_add->Q9,seq_tuple_add->Wj,seqIndex_of->Wk,typeIs_int->Wl,fitsIndex_both->Wm,pushCells_keeps->Wn,wpAny_runValue->Wo,wpAny_Call_method->Wq,call_repr_slot->Wr,wpAny_updateSeq_pair->Ws,wpAny_letGo->Wt,wpAny_newTuple->Wu,wpAny_pyIter_tuple->Wv,fits_of_scanBound->Ww,wpAny_typeNameOfWhole_valiter->Wx,wpAny_typeNameOf_valiter->Wy,wpAny_typeNameOfWhole_keyiter->Wz,wpAny_typeNameOf_keyiter->WA,wpAny_isOneOf_keyiter->WB,piled_cons->WC,wpAny_eqBool_int->ZT,wpAny_loadName_cell->ZU,wpAny_Constant_int->ZV,wpAny_Compare1->ZW,wpAny_isTrue_Compare1->ZX,wpAny_execs_cons->ZY,wpAny_assign_Name->ZZ,wpAny_bindName->Z0,wpAny_pyIter_range->Z1,rangeSize_one->Z2,intBits_le_64->Z3,name_of_addr->Z4,wpAny_sequenceKey->Z5,wpAny_Slice->Z6,wpAny_alloc->Z7,wpAny_getItem_list_slice->Z8,wpAny_specialOf->Z9,wpAny_Dict_empty->aaa,tupleText_mem_le->aab,listText_mem_le->aac,listText_nil->aad,dictText_mem_le->aae,wpAny_storeSet_of->aaf,codeAny_of_tree->aag,sub_set_self->aah,entryFor_alias->aai,wpAny_setEpoch_of->aaj,wpAny_updateSeq->aak,wpAny_notOrdered_dict->aal,wpAny_pyIter_keyiter->aam,wpAny_evalAll_nil->aan,call_list_seq->aao
open Nat renaming le_refl->aC,le_trans->cj,ne_of_lt->cw,zero_le->dJ,lt_of_lt_of_le->kA,lt_irrefl->kI,le_of_lt->nZ,lt_succ_self->n6,le_succ->qW,lt_succ_of_lt->tK,sub_self->uF,ne_of_gt->wq,le_of_not_lt->wu,lt_or_ge->wx,le_add_right->xT,lt_of_le_of_lt->xV,zero_add->xW,le_succ_of_le->xX,le_of_eq->EC,not_lt_zero->IC,lt_trans->ID,sub_zero->IE,succ_le_succ->WD,min_eq_left->WE,succ_mul->aap,max_eq_right->aaq,mod_lt->aar,add_sub_cancel->aas,log2_lt->aat
open Bool renaming and_eq_true->aF,false_ne_true->dM,eq_iff_iff->nj,not_eq_true'->tL,or_eq_true->xY,false_eq_true->ED,false_and->IG,and_self->IH,false_or->WG,true_or->aau
open List renaming length_map->aK,map_cons->aM,mem_cons_of_mem->a8,mem_cons_self->bA,map_map->bB,length_cons->bE,size_toArray->bX,length_append->cW,getElem?_eq_getElem->dO,getElem?_append_left->dZ,mem_cons->ba,getElem?_map->kJ,nil_append->kK,append_nil->nq,lookup_cons->nu,getElem?_set_ne->nN,append_assoc->nO,all_eq_true->dF,not_mem_nil->nP,filterMap_cons->n8,mem_append_right->n9,getElem?_append_right->pb,getElem?_set_self->pN,map_append->pO,prefix_refl->qu,mem_append_left->qX,length_set->qY,getElem?_eq_none->qZ,map_congr_left->rf,length_nil->rh,find?_cons->rW,mem_of_getElem?->tM,any_cons->tO,getElem_mem->tQ,length_filter_le->uG,all_cons->vp,ext_getElem?->vq,filter_cons_of_neg->vt,filter_cons_of_pos->vv,mem_map_of_mem->vw,length_take->wy,nodup_append->vz,zip_cons_cons->wz,any_eq_true->kB,filter_map->wB,forIn_cons->xZ,prefix_append->ya,length_range->yb,filter_cons->yc,pairwise_map->rX,eq_nil_of_length_eq_zero->yd,exists_cons_of_length_pos->ye,all_map->yf,any_eq_false->EE,length_drop->EF,nodup_cons->rY,mergeSort_perm->EG,forIn_nil->EH,mem_map->a9,mem_of_find?_eq_some->EI,getD_eq_getElem?_getD->EJ,reverse_cons->II,foldl_cons->IJ,cons_append->IK,mem_singleton->di,take_length->IL,pairwise_mergeSort->IM,any_map->IP,take_of_length_le->IQ,mem_filter->cX,find?_some->IT,filter_sublist->IU,find?_append->IV,length_filterMap_le->IW,of_mem_zip->WH,length_replicate->WI,replicate_succ->WJ,zipIdx_cons->WK,length_eraseIdx_of_lt->WL,set_append_left->WM,find?_isSome->WN,getElem?_replicate->aav,getElem?_take_of_lt->aaw,take_sublist->aax,filterMap_map->aay,flatten_cons->aaz,length_singleton->aaA,drop_zero->aaB,nodup_nil->aaC,zipIdx_nil->aaD,forIn_toArray->aaE,map_snd_zip->aaF,mapM_toArray->aaG,getElem_of_mem->aaH,pairwise_lt_range->aaI,getElem?_eq_none_iff->IX,zip_nil_left->aaJ,range_succ_eq_map->aaK,map_nil->aaL,getElem?_cons_zero->aaM,set_set->aaN,map_id->aaO,length_zip->aaP,find?_map->aaQ,take_append->aaR,find?_eq_none->IZ,length_flatten->aaS,sum_cons->aaT,filter_congr->aaU,isEmpty_iff->aaV,head?_cons->aaW,filterMap_nil->aaX
open PySem.Heap renaming get?_push_of_some->aU,lt_size->bq,get?_push_size->bF,get?_update_self->rZ,size_push->vA,get?_none_of_le->EK,get?_update_other->I0,size_update->aaY
open Option renaming bind_some->bT,map_some->pd,isSome_map->qv,getD_none->WO,getD_some->WQ,isNone_iff_eq_none->aaZ
open PyProof.Rows renaming wpS_bind->cM,wpS_pure->eQ,step_dedup->ph,size_push'->vB,listItems_at->yh,wpS_get->yi,wpS_forRange->yj,callWith_type1->Ka,slot_tuple_getitem->yk,listUpdate_at->Kb,mirror_perm->Kc,wpS_reverse->Kd,wpS_mono->Kf,assignInOrder_cons->WR,tail_any->WS,subscriptTail_builtinR->WT,kind_sorted->WU,plain_sorted->WV,entry_sorted->WW,args_sorted1->WX,slot_list_sort->WY,entry_list_sort->WZ,args_list_sort->W2,wpS_lift->W3,wpS_modify->W4,mem_zip_self->W5,seqEpoch_at->W6,pairsOf_size->W7,assignInOrder_nil->aa0,slicePart_none->aa1,entry_tuple_getitem->aa2,args_tuple_getitem->aa3,tupleItemsOf_->aa4,getItem_tuple->aa5,get?_update_seq->aa6,list_sort_tree->aa7,sortedAll_at->aa8,sortedAll_old->aa9,lt_int->aba,pairsOf_toList->abb,callWith_builtin1->aet,evalArgs_empty->aeu
open Int renaming toNat_natCast->nv,eq_ofNat_of_zero_le->EL,mul_one->Kg,le_refl->Kh,emod_lt_of_pos->W8,zero_add->W9,le_antisymm->abd,emod_nonneg->abe,ediv_nonneg->abf,mul_add->abg,mul_ediv_add_emod->abh
open Array renaming length_toList->pB,getElem?_toList->qw,getElem?_eq_none->EM,toList_append->Xa,toList_push->Xb,getElem_toList->abi,toList_extract->abj,getElem?_eq_getElem->abk
open PySem.Obj renaming data_mapFields->pP,isFreed_of_fields->wC,cls_mapFields->ym
open PySem.W renaming kia_one->se,kla_obj->Ki,kitx_list->abl,kitx_dict->abm,cellsFrom_some->abn
open PySem.Calls renaming spliced_nil->wD,spliced_cons->wF,callWith_builtin->Kj,evalArgs_plain->Xc,call_function_entry->Xd
open PyProof.Rows.KeyOrd renaming kle_refl->yn,kle_trans->Kk,kle_of_klt->Kl,kle_antisymm->abo
open PySem.F renaming slot_tuple_iterator_next->Km,slot_zip_next->EN,plainAttrs_list->Kn,slot_tuple_add->Xe,entry_tuple_add->Xf,args_tuple_add_2->Xg,slot_dict_get->Xh,plainAttrs_dict->Xi,slot_int_rmul->abp,slot_dict_delitem->abq,slot_dict_pop->abr,entry_dict_get->abt,args_dict_get_2->abu,entry_tuple_iterator_next->abv,args_tuple_iterator_next_1->abw,slot_zip_iter->abx,entry_zip_next->aby,args_zip_next_1->abz,slot_set_iter->abA,plain_list_iadd->abB,slot_dict_valueiterator_next->Xj,slot_dict_values_iter->abC,slot_list_insert->abD,slot_dict_iter->abE,slot_dict_keyiterator_next->Xk,slot_dict_values->abF
open PySem.SeqAt.EqAt renaming int_int->Xl,str_str->Xm,int_str->abG,str_int->abH,none_bool->aev,none_int->aew,none_str->aex,bool_none->aey,bool_bool->aez,bool_int->aeA,bool_str->aeB,int_none->aeC,int_bool->aeD,str_none->aeE,str_bool->aeF
open PySem.PyData renaming shownKv_eq->Xn
open PySem.Around renaming under_plainId->Xo
open PyProof.Rows.LSm renaming kept_iter->abI
open PySem.Code renaming quiet_builtin->abJ
open PySem.ReprEntriesK renaming of_two->abK
open PyProof.Rows.F renaming entry_set_update_loop->abL,plain_set_update_loop->abM
open Function renaming comp_def->abN
open PySem.EqNone renaming eq_none_none->aeG,eq_none_bool->aeH,eq_none_int->aeI,eq_none_str->aeJ,eq_bool_none->aeK,eq_int_none->aeL,eq_str_none->aeM,ne_none_none->aeN,ne_none_bool->aeO,ne_none_int->aeP,ne_none_str->aeQ,ne_bool_none->aeR,ne_int_none->aeS,ne_str_none->aeT
open PySem.EqMixed renaming eq_bool_str->aeU,eq_int_str->aeV,eq_str_bool->aeW,eq_str_int->aeX,ne_bool_str->aeY,ne_int_str->aeZ,ne_str_bool->ae0,ne_str_int->ae1
open PySem.AutoSeq1 renaming list_extend_list_list_0->ae2,list_insert_list_int_val_1->ae3,sub_tuple_tuple->ae4
open PySem.MeetsSeq renaming list_pop_at->ae5
open PySem.AutoListH renaming list___mul___list_int_3->ae6
open PySem.SeqAt.RcNeAt renaming lists_lengths->ae7
open List.Pairwise renaming imp_of_mem->ae8
open PySem.SetTable renaming fits_plain_off->ae9
open List.Perm renaming append_left->afa,of_eq->afb,eq_of_pairwise->afc
open Option renaming some->ae,none->ag
open Bool renaming true->ah,false->af
open PySem renaming Value->ay,Shared->aN,Heap->aT,Addr->aq,Expr->aD,Around->kU,Stmt->dW,Program->eR,World->cQ,Scope->kL
open PySem PySem.Spec PyProof.Rows
namespace L2
noncomputable abbrev Key:=Sum Int Str
noncomputable def wG:Key->ay->Bool
 |.inl k,v=>Value.isInt k v
 |.inr x,v=>Value.isStrOf x v
noncomputable def afd (w:cQ):Key->Int
 |.inl k=>hashInt k
 |.inr x=>hashStr w x
theorem fZ:∀ {k}{v},wG k v=ah->(∃ i t,k=Sum.inl i /\ v=Value.int i t) \/ (∃ x t,k=Sum.inr x /\ v=Value.str x t)
 | .inl i,v,h=>by
   let#[t,e]:=Value.isInt_shape h;show .inl #[i,t,rfl,e]
 | .inr x,v,h=>by
   let#[t,e]:=Value.isStrOf_shape h;show .inr #[x,t,rfl,e]
theorem J1 (i) (t):wG (.inl i) (.int i t)=ah:=by simp[wG,Value.isInt]
theorem J2 (x) (t):wG (.inr x) (.str x t)=ah:=by simp[wG,Value.isStrOf]
theorem Sk (a b):decide ((Sum.inl a:Key)=Sum.inl b)=(a==b):=by
 by_cases e:a=b
 .subst e;simp
 .rw[decide_eq_false λq=>e<|Sum.inl.inj q];show(beq_eq_false_iff_ne.mpr e).symm
theorem Sl (a b):decide ((Sum.inr a:Key)=Sum.inr b)=decide (a=b):=by
 by_cases e:a=b
 .simp
 .rw[decide_eq_false λq=>e<|Sum.inr.inj q,decide_eq_false e]
theorem Sn (a:Int) (b:Str):decide ((Sum.inl a)=Sum.inr b)=af:=decide_eq_false λq=>nomatch q
theorem So (a:Str) (b:Int):decide ((Sum.inr a)=Sum.inl b)=af:=decide_eq_false λq=>nomatch q
def kM (prog) (w):PySem.KeyKind prog w Key where
 is:=wG
 hash:=afd w
 inj:=λv a b ha hb=>by
  rcases fZ ha with⟨i,t,rfl,rfl⟩|⟨x,t,rfl,rfl⟩
  .rcases fZ hb with⟨j,u,rfl,e⟩|⟨y,u,rfl,e⟩
   .injection e with e1 _;rw[e1]
   .show nomatch e
  .rcases fZ hb with⟨j,u,rfl,e⟩|⟨y,u,rfl,e⟩
   .show nomatch e
   .injection e with e1 _;rw[e1]
 byValue:=λk v h=>by
  rcases fZ h with⟨i,t,rfl,rfl⟩|⟨x,t,rfl,rfl⟩<;>rfl
 pyHash:=λhv h=>by
  rcases fZ hv with⟨i,t,rfl,rfl⟩|⟨x,t,rfl,rfl⟩
  .show wpAny_pyHash_int h
  .show wpAny_pyHash_str h
 eqBool:=λhu hv h=>by
  rcases fZ hu with⟨i,t,rfl,rfl⟩|⟨x,t,rfl,rfl⟩
  .rcases fZ hv with⟨j,u,rfl,rfl⟩|⟨y,u,rfl,rfl⟩
   .rw[Sk]at h;show ZT h
   .rw[Sn]at h;show abG i t y u _ _ _ _ h
  .rcases fZ hv with⟨j,u,rfl,rfl⟩|⟨y,u,rfl,rfl⟩
   .rw[So]at h;show abH x t j u _ _ _ _ h
   .rw[Sl]at h;show wpAny_eqBool_str h
 «strs»:=λk x t v h=>by
  rcases fZ h with⟨i,u,rfl,e⟩|⟨y,u,rfl,e⟩
  .show nomatch e
  .injection e with e1 _;subst e1;cases v<;>rfl
inductive V where
 |az|bl (b:Bool)|int (i:Int)|str (x:Str)|qx (b:Array UInt8)|vC (b:UInt64)|ref (a:aq)|ty (n:String)
 deriving DecidableEq
noncomputable def RelV:V->ay->zm
 |.az,u=>u=Value.none
 |.bl b,u=>u=Value.bool b
 |.int i,u=>∃ t,u=Value.int i t
 |.str x,u=>∃ t,u=Value.str x t
 |.qx b,u=>∃ t,u=Value.bytes b t
 |.vC b,u=>∃ t,u=Value.float b t
 |.ref a,u=>u=Value.ref a
 |.ty n,u=>u=Value.type n
abbrev Vals:List V->List ay->zm:=Paired RelV
theorem Vals.length (r:Vals xs us):xs.length=us.length:=Paired.length r
theorem Vals.get:∀ {xs}{us}{i:Nat}{x},Vals xs us->xs[i]?=ae x->∃ u,us[i]?=ae u /\ RelV x u
 |_,_,_,_,.nil,e=>by simp at e
 |_,_,0,_,.cons r _,e=>by simp at e;subst e;show#[_,rfl,r]
 | _,_,i+1,x,.cons _ t,e=>by
   let#[u,h1,h2]:=Vals.get t (by simpa using e);show#[u,by simpa using h1,h2]
theorem Vals.set (r:RelV x u):∀ {xs}{us} (i),Vals xs us->Vals (xs.set i x) (us.set i u)
 |_,_,_,.nil=>.nil
 |_,_,0,.cons _ t=>.cons r t
 |_,_,i+1,.cons q t=>.cons q<|Vals.set r i t
theorem Vals.append:∀ {xs ys}{us ws},Vals xs us->Vals ys ws->Vals (xs++ys) (us++ws)
 |_,_,_,_,.nil,s=>s
 |_,_,_,_,.cons r t,s=>.cons r<|Vals.append t s
theorem Vals.take:∀ {xs}{us} (n),Vals xs us->Vals (xs.take n) (us.take n)
 |_,_,0,_=>.nil
 |_,_,_+1,.nil=>.nil
 |_,_,n+1,.cons r t=>.cons r<|Vals.take n t
theorem Vals.drop:∀ {xs}{us} (n),Vals xs us->Vals (xs.drop n) (us.drop n)
 |_,_,0,r=>r
 |_,_,_+1,.nil=>.nil
 |_,_,n+1,.cons _ t=>Vals.drop n t
def pQ:Option V->Option ay->zm
 |some v,ae u=>RelV v u
 |none,ag=>True
 |_,_=>False
def KV {κ}:List (κ×V)->List (κ×ay)->zm:=Paired λ(p) (q)=>p.1=q.1 /\ RelV p.2 q.2
noncomputable def kV:Key->V
 |.inl i=>.int i
 |.inr x=>.str x
inductive HO where
 /-- a list -/
 |lst (xs:List V)
 /-- a tuple (never changes) -/
 |tup (xs:List V)
 /-- a dict afe keys are ints and texts;one afe keys are tuples of ints and texts (the empty one is both) -/
 |dK (aj:List<|Key×V)|dT (aj:List<|List Key×V)
 /-- a set of ints: its members,its size -/
 |set (S:Int->Bool) (n:Nat)
 /-- an instance of the class at C,its dict at dx,its attributes -/
 |ins (C dx:aq) (fs:List<|Str×V)
 /-- the dict of the instance at x -/
 |own (x:aq)
 /-- the dict of an exception -/
 |xd (fs:List<|Str×V)
 /-- a bound method,f of x -/
 |met (f x:aq)
 /-- a range object lo,lo+1,.. below hi -/
 |Ko (lo hi:Int)
 /-- a thing that is known to the object (the ajy;a dict while a loop walks it): read,never written while it is so -/
 |bQ (o:Obj) (u:HO)
 /-- a code aff table -/
 |hO (ps:Array ay)
 /-- any other thing,by what is ah of its one object (a def of ajz own: ajA a S n:=HO.ext λh=>..) -/
 |ext (φ:aT->zm)
noncomputable abbrev Hp:=aq->Option HO
noncomputable def upd (H:Hp) (a:aq) (o:HO):Hp:=λb=>if b=a then ae o else H b
theorem fw:upd H a o a=ae o:=by unfold upd;rw[if_pos rfl]
theorem fA (h:b≠a):upd H a o b=H b:=by unfold upd;rw[if_neg h]
theorem UJ {H:Hp}(h:H a=ae o) (h':H b=ae u) (d:o≠u):a≠b:=by
 intro e;subst e;rw[h]at h';show d<|Option.some.inj h'
theorem f7 {H:Hp}(h:H a=ae o) (h':H b=ag):a≠b:=by
 intro e;subst e;rw[h]at h';cases h'
section
variable (P:eR) (w:cQ)
noncomputable def cJ (H:Hp) (h:aT) (a:aq):HO->zm
 |.lst xs=>xs.length<=sizeLine /\ ∃ (its:List ay) (n:Nat),Vals xs its /\ h.get? a=ae { cls:=.type "list",data:=.seq its.toArray n }
 |.tup xs=>xs.length<=sizeLine /\ ∃ its,Vals xs its /\ IsTup h a its.toArray
 |.dK aj=>aj.length<=sizeLine /\ (a==sysModules)=af /\ ∃ vs,KV aj vs /\ h.DictOf (kM P w) a vs
 |.dT aj=>aj.length<=sizeLine /\ (a==sysModules)=af /\ ∃ xs,
  Paired (λ(p) (q)=>p.1=q.1 /\ H q.2.1=ae (.tup<|p.1.map kV) /\ RelV p.2 q.2.2) aj xs /\
  ∃ o es ep,h.get? a=ae o /\ o.ExactDict /\ o.data=.dict es ep /\ es.toList=xs.map (entryOfKey<|tupleKind<|kM P w) /\ (xs.map (·.1)).Nodup
 |.set S n=>h.SetOf (intKind P w) a S n
 |.ins C dx fs=>H dx=ae (.own a) /\ fs.length<=1000 /\ dx≠a /\ h.get? a=ae (PySem.W.instObj C dx) /\
  ∃ mA,h.Ns1 dx mA /\ (∀ f,pQ (fs.lookup f)<|mA f) /\ PySem.Within mA (fs.map (·.1))
 |.own _=>∃ o,h.get? a=ae o
 |.xd fs=>∃ mA,h.Ns1 a mA /\ ∀ f,pQ (fs.lookup f) (mA f)
 |.Ko lo hi=>∃ t u v,h.get? a=ae { cls:=.type "range",data:=.fields (List.toArray [.int lo t,.int hi u,.int 1 v]) }
 |.bQ o u=>h.get? a=ae o /\ cJ H h a u
 |.hO ps=>h.get? a=ae { cls:=.none,data:=.fields ps }
 |.met f x=>h.get? a=ae (PySem.W.methodObj (.ref f)<|.ref x)
 |.ext φ=>φ h /\ (∃ o,h.get? a=ae o) /\ ∀ h1 h2,φ h1->(∀ o,h1.get? a=ae o->h2.get? a=ae o)->φ h2
def c8 (H:Hp) (h:aT):zm:=∀ a o,H a=ae o->cJ P w H h a o
end

theorem cJ.lt (x:cJ P w H h a o):a<h.objs.size:=by
 cases o with
 |lst xs=>let#[_,_,_,_,e]:=x;show bq e
 |tup xs=>let#[_,_,_,p]:=x;show p.lt
 |dK aj=>let#[_,_,_,_,o,_,_,e,_]:=x;show bq e
 |dT aj=>let#[_,_,_,_,o,_,_,e,_]:=x;show bq e
 |set S n=>let#[o,_,_,_,e,_]:=x;show bq e
 |ins C dx fs=>let#[_,_,_,e,_]:=x;show bq e
 |own y=>let#[_,e]:=x;show bq e
 |xd fs=>let#[_,#[_,_,_,e,_],_]:=x;show bq e
 |Ko lo hi=>let#[_,_,_,e]:=x;show bq e
 |bQ ob u=>let#[e,_]:=x;show bq e
 |hO ps=>show bq<|x
 |met f y=>show bq<|x
 |ext φ=>let#[_,#[_,e],_]:=x;show bq e
theorem Paired.Xp:∀ {l₁}{l₂},Paired F l₁ l₂->(∀ a b,F a b->G a b)->Paired G l₁ l₂
 |_,_,.nil,_=>.nil
 |_,_,.cons r t,f=>.cons (f _ _ r)<|Paired.Xp t f
theorem cJ.nQ (x:cJ P w H h a o) (k:∀ b u,(b=a \/ H b=ae (.own a))->h.get? b=ae u->h'.get? b=ae u)
 (ho:∀ b,H b=ae (.own a)->H' b=ae (.own a)) (ht:∀ b xs,H b=ae (.tup xs)->H' b=ae (.tup xs)):cJ P w H' h' a o:=by
 induction o with
 |lst xs=>let#[z,its,n,r,e]:=x;show#[z,its,n,r,k _ _ (.inl zc) e]
 |tup xs=>let#[z,its,r,ob,e,c]:=x;show#[z,its,r,ob,k _ _ (.inl zc) e,c]
 |dK aj=>let#[z,y,vs,r,ob,es,ep,e,c]:=x;show#[z,y,vs,r,ob,es,ep,k _ _ (.inl zc) e,c]
 |dT aj=>
   let#[z,y,xs,r,ob,es,ep,e,c]:=x;show#[z,y,xs,Paired.Xp r λp q z=>#[z.1,ht _ _ z.2.1,z.2.2],ob,es,ep,k _ _ (.inl zc) e,c]
 |set S n=>let#[ob,es,ep,t,e,c]:=x;show#[ob,es,ep,t,k _ _ (.inl zc) e,c]
 |ins C dx fs=>
   let#[d,z,ne,e,mA,#[od,es,ep,e2,c],r]:=x;show#[ho _ d,z,ne,k _ _ (.inl zc) e,mA,#[od,es,ep,k _ _ (.inr d) e2,c],r]
 |own y=>let#[ob,e]:=x;show#[ob,k _ _ (.inl zc) e]
 |xd fs=>let#[mA,#[od,es,ep,e,c],r]:=x;show#[mA,#[od,es,ep,k _ _ (.inl zc) e,c],r]
 |Ko lo hi=>let#[t,u,v,e]:=x;show#[t,u,v,k _ _ (.inl zc) e]
 |bQ ob u ih=>let#[e,q]:=x;show#[k _ _ (.inl zc) e,ih q]
 |hO ps=>
   show k a _ (.inl zc) x
 |met f y=>
   show k a _ (.inl zc) x
 |ext φ=>let#[p,#[o,e],st]:=x;show#[st _ _ p λo q=>k _ _ (.inl zc) q,#[o,k _ _ (.inl zc) e],st]
theorem c8.lt (x:c8 P w H h) (e:H a=ae o):a<h.objs.size:=(x a o e).lt
theorem c8.fresh (x:c8 P w H h) (e:h.objs.size<=a):H a=ag:=by
 cases q:H a with
 |none=>rfl
 |some u=>show absurd (kA (x.lt q) e)<|kI _
theorem c8.kept (x:c8 P w H h) (k:∀ b u,h.get? b=ae u->h'.get? b=ae u):c8 P w H h':=λa o e=>
 (x a o e).nQ (λb u _ q=>k b u q) (λ_ q=>q) λ_ _ q=>q
theorem c8.laid (x:c8 P w H h) (k:∀ b u,h.get? b=ae u->h'.get? b=ae u) (hp:h.objs.size<=a) (new:cJ P w (upd H a o) h' a o):c8 P w (upd H a o) h':=λb u e=>by
 have hn:=x.fresh hp;by_cases hb:b=a
 .subst hb;rw[fw]at e;cases e;show new
 .rw[fA hb]at e;show(x b u e).nQ (λc v _ q=>k c v q) (λc q=>by rw[fA<|f7 q hn];show q) λc xs q=>by rw[fA<|f7 q hn];show q
def Rd (H:Hp) (a:aq) (u:HO):zm:=H a=ae u \/ ∃ o,H a=ae (.bQ o u)
theorem Rd.ok (r:Rd H a u) (x:c8 P w H h):cJ P w H h a u:=by
 rcases r with r|⟨o,r⟩
 .show x a u r
 .let#[_,q]:=x a _ r;show q
noncomputable def EO:Option HO->zm
 |some (.lst _)=>True
 |some (.dK _)=>True
 |some (.dT _)=>True
 |some (.set _ _)=>True
 |some (.ins _ _ _)=>True
 |some (.ext _)=>True
 |_=>False

theorem c8.write (ok:c8 P w H h) (mu:EO<|H x) (he:e=x \/ H e=ae (.own x)) (k:∀ b u,b≠e->h.get? b=ae u->h'.get? b=ae u) (yo:∃ u,h'.get? e=ae u)
 (new:cJ P w (upd H x o') h' x o'):c8 P w (upd H x o') h':=λb u q=>by
 have abO:∀ c y,H c=ae (.own y)->c≠x:=λc y r z=>by subst z;rw[r]at mu;show mu
 by_cases hb:b=x
 .subst hb;rw[fw]at q;cases q;show new
 .rw[fA hb]at q;by_cases wH:b=e
  .have q':H b=ae (.own x):=by
    rcases he with z|z
    .show absurd (wH.trans z) hb
    .rw[wH];show z
   rw[q]at q';cases q';let#[v,hv]:=yo;show#[v,by rw[wH];show hv]
  .refine(ok b u q).nQ (λc v hc r=>k c v ?_ r) (λc r=>by rw[fA<|abO c b r];show r) λc xs r=>by rw[fA<|(λc xs r z=>by subst z;rw[r]at mu;show mu) c xs r];show r
   rcases hc with rfl|hc
   .show wH
   .rintro rfl;rcases he with z|z
    .show abO c b hc z
    .rw[hc]at z;cases z;show hb zc
structure Un (fs ex:List aq) (H H':Hp) (h h':aT):zm where
 keep:∀ b o,h.get? b=ae o->H b=ag->b∉fs->b∉ex->h'.get? b=ae o
 slot:∀ b o,h.get? b=ae o->H b=ag->b∈fs->b∉ex->∃ sl,h'.get? b=ae { o with slots:=sl }
 free:∀ b o,h.get? b=ae o->H b=ag->b∉ex->H' b=ag
 there:∀ b o,h.get? b=ae o->b∉ex->∃ o',h'.get? b=ae o'
 qy:∀ b xs,H b=ae (.tup xs)->H' b=ae (.tup xs)
 rj:∀ b o u,H b=ae (.bQ o u)->H' b=ae (.bQ o u)
 sf:∀ b ps,H b=ae (.hO ps)->∃ more,H' b=ae (.hO<|ps++more)

theorem Un.any (u:Un fs ex H H1 h h1) (q:h.get? b=ae ob) (n:H b=ag) (hx:b∉ex):∃ sl,h1.get? b=ae { ob with slots:=sl }:=by
 by_cases hb:b∈fs
 .show u.slot b ob q n hb hx
 .show#[ob.slots,u.keep b ob q n hb hx]
theorem Un.kept (k:∀ b u,h.get? b=ae u->h'.get? b=ae u):Un fs ex H H h h' :=
 #[λb ob q _ _ _=>k b ob q,λb ob q _ _ _=>#[ob.slots,k b ob q],λ_ _ _ n _=>n,λb ob q _=>#[ob,k b ob q],λ_ _ q=>q,λ_ _ _ q=>q,λ_ ps q=>#[#[],by rw[q];simp]]
theorem Un.refl:Un fs ex H H h h:=Un.kept λ_ _ q=>q
theorem Un.laid (k:∀ b u,h.get? b=ae u->h'.get? b=ae u) (hp:h.objs.size<=a) (hn:H a=ag):Un fs ex H (upd H a o) h h' where
 keep:=λb u q _ _ _=>k b u q
 slot:=λb u q _ _ _=>#[u.slots,k b u q]
 free:=λb u q n _=>by rw[fA<|cw<|kA (bq q) hp];show n
 there:=λb u q _=>#[u,k b u q]
 qy:=λb xs q=>by rw[fA<|f7 q hn];show q
 rj:=λb u xs q=>by rw[fA<|f7 q hn];show q
 sf:=λb ps q=>#[#[],by rw[fA<|f7 q hn,q];simp]
theorem Un.write (mu:EO<|H x) (he:e=x \/ H e=ae (.own x)) (k:∀ b u,b≠e->h.get? b=ae u->h'.get? b=ae u) (yo:∃ u,h'.get? e=ae u):Un fs ex H (upd H x o) h h':=by
 have hx:∀ b,H b=ag->b≠x:=λb n z=>by subst z;rw[n]at mu;show mu
 have hb:∀ b,H b=ag->b≠e:=λb n z=>by
  subst z;rcases he with r|r
  .show hx b n r
  .rw[n]at r;cases r
 have hm:∀ b u,H b=ae u->¬ EO (ae u)->b≠x:=λb u q nm z=>by subst z;rw[q]at mu;show nm mu
 refine#[λb u q n _ _=>k b u (hb b n) q,λb u q n _ _=>#[u.slots,k b u (hb b n) q],λb u q n _=>by rw[fA<|hx b n];show n,λb u q _=>?_,
  λb xs q=>by rw[fA<|hm b _ q λz=>z];show q,λb u xs q=>by rw[fA<|hm b _ q λz=>z];show q,λb ps q=>#[#[],by rw[fA<|hm b _ q λz=>z,q];simp]]
 by_cases wH:b=e
 .subst wH;show yo
 .show#[u,k b u wH q]
noncomputable def afg (h:aT) (H:Hp):List aq:=(List.range h.objs.size).filter λa=>(H a).isSome
def ER (h:aT) (H:Hp):aT:=PySem.W.hideAll h<|afg h H
theorem Ol (e:(ER h H).get? b=ae o):h.get? b=ae o /\ H b=ag:=by
 have e':=PySem.W.of_hideAll _ e;refine#[e',?_];cases q:H b with
 |none=>rfl
 |some x=>
   have z:(ER h H).get? b=ag:=PySem.W.hideAll_none _ (cX.mpr #[List.mem_range.mpr<|bq e',by simp[q]]);rw[z]at e;cases e
structure Mod (K:PySem.W.Frag) (mg:Str->Option ay) (base:aT):zm where
 wI:K.In base
 glob:base.Ns mainGlobals mg
 blt:∃ mb,base.Ns builtinsNs mb /\ ∀ x:Str,x ≠ "__name__"->mb x=bootBuiltins x
 nolimit:base.NoLimit
structure Cx where
 prog:eR
 w:cQ
 K:PySem.W.Frag
 mg:Str->Option ay
 base:aT
 A:kU
 N:List Str
 s₀:aN
 H₀:Hp
 env:Env
 outer:List Env
 stack:List Env
 ex:List aq
 fn:Str->Bool
 calm:Bool
 pn:List (aq×Obj)
 xe:ay->aN->zm
noncomputable def qz (l:List Env):List aq:=l.filterMap (·.frame)
abbrev Cx.fs (X:Cx):List aq:=qz X.outer
def yp (sc:kL) (x:Str):zm:=sc.names.lookup x=ae .local \/ sc.names.lookup x=ae .cell \/ sc.names.lookup x=ae .free
def Loc (sc:kL) (x:Str):zm:=sc.names.lookup x=ae .local \/ sc.names.lookup x=ae .cell
def Look (env:Env) (h:aT) (m:Str->Option ay) (x:Str) (u:ay):zm:=
 (env.kindOf x=ae .local /\ m x=ae u) \/ ((env.kindOf x=ae .cell \/ env.kindOf x=ae .free) /\ ∃ c,env.cells.lookup x=ae c /\ h.IsCell c (ae u))
structure Cx.Ok (X:Cx):zm where
 mod:Mod X.K X.mg X.base
 kind:X.env.scope.kind=.function
 glob:X.env.globals=mainGlobals
 blt:X.env.builtins=builtinsNs
 above:X.s₀.heap.objs.size<=X.env.locals
 inj:∀ x y c,X.env.cells.lookup x=ae c->X.env.cells.lookup y=ae c->x=y
 has:∀ x,(X.env.kindOf x=ae .cell \/ X.env.kindOf x=ae .free)->∃ c,X.env.cells.lookup x=ae c
 ES:∀ x c,X.fn x=ah->X.env.cells.lookup x=ae c->X.s₀.heap.objs.size<=c
 hd:X.calm=ah->X.A.handled=ag
 frames:X.A.frames=ae X.stack
 Kq:X.stack=X.outer \/ (X.stack=X.env::X.outer /\ X.env.frame=ae X.env.locals)
 Kr:∀ b∈X.ex,b≠X.env.locals /\ ∀ x c,X.env.cells.lookup x=ae c->c≠b
 bs:∀ b o,X.base.get? b=ae o->X.s₀.heap.get? b=ae o /\ X.H₀ b=ag
 wJ:X.base.objs.size<=X.s₀.heap.objs.size
 ET:∀ b o,X.base.get? b=ae o->b∉X.ex
 EU:∀ b∈X.ex,b∉X.fs
 sj:X.s₀.heap.FunFrames X.base X.outer
 yq:∀ b∈X.fs,X.H₀ b=ag
structure Inv (X:Cx) (pins:List<|aq×Obj) (σ:List<|Option V) (H:Hp) (s:aN):zm where
 ok:X.Ok
 os:s.os=X.s₀.os
 bare:AllBare s.gens
 base:Un X.fs X.ex X.H₀ H X.s₀.heap s.heap
 loc:∃ m,s.heap.Ns X.env.locals m /\ ∀ (i:Nat) (x:Str) (v:V),X.N[i]?=ae x->σ[i]?=ae (ae v)->yp X.env.scope x->∃ u,RelV v u /\ Look X.env s.heap m x u
 cell:∀ x c,X.env.cells.lookup x=ae c->∃ v,s.heap.IsCell c v
 free:H X.env.locals=ag
 rn:∀ x c,X.env.cells.lookup x=ae c->H c=ag
 pin:∀ p∈X.pn++pins,s.heap.get? p.1=ae p.2 /\ H p.1=ag /\ p.1≠X.env.locals /\ p.1∉X.fs /\ ∀ v,p.2.data≠.cell v
 aB:c8 X.prog X.w H s.heap
 len:σ.length=X.N.length
section
variable {X:Cx}
theorem Cx.Ok.afh (ok:X.Ok) (e:X.base.get? b=ae o):b∉X.fs:=λhb=>by
 have:=(ok.sj.mem hb).1;rw[e]at this;cases this
theorem Inv.bs (I:Inv X pins σ H s):∀ b o,X.base.get? b=ae o->s.heap.get? b=ae o /\ H b=ag:=λb o e=>
 #[I.base.keep b o (I.ok.bs b o e).1 (I.ok.bs b o e).2 (I.ok.afh e)<|I.ok.ET b o e,I.base.free b o (I.ok.bs b o e).1 (I.ok.bs b o e).2<|I.ok.ET b o e]
theorem Inv.bk (I:Inv X pins σ H s):∀ b o,X.base.get? b=ae o->s.heap.get? b=ae o:=λb o e=>(I.bs b o e).1
theorem Inv.mod (I:Inv X pins σ H s):Mod X.K X.mg X.base:=I.ok.mod
theorem Inv.ny (I:Inv X pins σ H s):X.K.In s.heap:=I.ok.mod.wI.keeps I.bk
theorem Inv.lt (I:Inv X pins σ H s):X.env.locals<s.heap.objs.size:=let ⟨_,hn,_⟩:=I.loc;hn.lt
theorem Inv.sz (I:Inv X pins σ H s):X.s₀.heap.objs.size<=s.heap.objs.size:=cj I.ok.above<|nZ I.lt
theorem Inv.afi (I:Inv X pins σ H s) (h:s.heap.objs.size<=a):a∉X.fs:=λhb=>by
 let#[_,o,ho,_]:=I.ok.sj.mem hb;show absurd (kA (bq ho)<|cj I.sz h)<|kI _
theorem Inv.wK (I:Inv X pins σ H s):∀ x c,X.env.cells.lookup x=ae c->c≠X.env.locals:=λx c e z=>by
 let#[v,o,ho,hd]:=I.cell x c e;let#[m,#[o',es,ep,pC,afj,_],_]:=I.loc;rw[z,pC]at ho;cases ho;rw[afj]at hd;cases hd
theorem Inv.sj (I:Inv X pins σ H s):s.heap.FunFrames X.base X.outer:=by
 have all:∀ (l),(∀ b∈qz l,b∈X.fs)->X.s₀.heap.FunFrames X.base l->s.heap.FunFrames X.base l:=by
  intro l;induction l with
  |nil=>intro _ _;trivial
  |cons env r ih=>
    intro hs hl;let#[hk,#[L,o,hf,hn,ho,hd],hr]:=hl;have hL:=hs L (by unfold qz;rw[n8,hf];show bA);let#[sl,e]:=I.base.slot L o ho (I.ok.yq L hL) hL λz=>I.ok.EU L z hL;show#[hk,#[L,_,hf,hn,e,hd],ih (λb hb=>hs b (by unfold qz;rw[n8,hf];show a8 _ hb)) hr]
 show all X.outer (λ_ hb=>hb) I.ok.sj
theorem Inv.stack (I:Inv X pins σ H s):s.heap.FunFrames X.base X.stack:=by
 rcases I.ok.Kq with e|⟨e,hf⟩
 .rw[e];show I.sj
 .rw[e];let#[m,hn,_]:=I.loc;show .cons (by rw[I.ok.kind];decide) hf hn (EK<|cj I.ok.wJ I.ok.above) I.sj
theorem Inv.Xq (I:Inv X pins σ H s):∀ b∈qz X.stack,b∈X.env.locals::X.fs:=λb hb=>by
 rcases I.ok.Kq with e|⟨e,hf⟩
 .rw[e]at hb;show a8 _ hb
 .rw[e]at hb;unfold qz at hb;rw[n8,hf]at hb;show hb
theorem Inv.abP (I:Inv X pins σ H s):∀ b∈qz X.stack,H b=ag:=λb hb=>by
 rcases ba.mp (I.Xq b hb) with e|hb
 .rw[e];show I.free
 .let#[_,o,ho,_]:=I.ok.sj.mem hb;show I.base.free b o ho (I.ok.yq b hb) λz=>I.ok.EU b z hb
theorem Inv.step {ch:List aq}(I:Inv X pins σ H s)
 (tR:∀ b∈ch,(b∈X.ex \/ X.s₀.heap.objs.size<=b) /\ b≠X.env.locals /\ (∀ x c,X.env.cells.lookup x=ae c->c≠b) /\ ∀ p∈X.pn++pins,p.1≠b)
 (keep:∀ b o,b≠X.env.locals->b∉X.fs->b∉ch->s.heap.get? b=ae o->H b=ag->h'.get? b=ae o)
 (slot:∀ b o,b≠X.env.locals->b∈X.fs->b∉ch->s.heap.get? b=ae o->H b=ag->∃ sl,h'.get? b=ae { o with slots:=sl }) (free:∀ b o,b∉ch->s.heap.get? b=ae o->H b=ag->H' b=ag)
 (there:∀ b o,b∉ch->s.heap.get? b=ae o->∃ o',h'.get? b=ae o')
 (qy:∀ b xs,H b=ae (.tup xs)->H' b=ae (.tup xs)) (rj:∀ b o u,H b=ae (.bQ o u)->H' b=ae (.bQ o u)) (sf:∀ b ps,H b=ae (.hO ps)->∃ more,H' b=ae (.hO<|ps++more))
 (ns:∀ m,s.heap.Ns X.env.locals m->h'.Ns X.env.locals m) (aB:c8 X.prog X.w H' h') (hg:AllBare g') :
 Inv X pins σ H' { s with heap:=h',gens:=g',drawn:=d',toks:=t' }:=by
 have abQ:∀ b o,X.s₀.heap.get? b=ae o->b≠X.env.locals:=λb o e=>cw<|kA (bq e) I.ok.above;have vD:∀ b o,X.s₀.heap.get? b=ae o->b∉X.ex->b∉ch:=λb o e hx hb=>by
  rcases(tR b hb).1 with z|z
  .show hx z
  .show absurd (kA (bq e) z)<|kI _
 have cellK:∀ x c,X.env.cells.lookup x=ae c->∀ v,s.heap.IsCell c v->h'.IsCell c v:=λx c e v ⟨o,ho,hd⟩=>by
  have sq:=λz=>(tR c z).2.2.1 x c e zc;by_cases hc:c∈X.fs
  .let#[sl,q]:=slot c o (I.wK x c e) hc sq ho<|I.rn x c e;show#[_,q,hd]
  .show#[o,keep c o (I.wK x c e) hc sq ho<|I.rn x c e,hd]
 refine#[I.ok,I.os,hg,#[λb o e n hb hx=>(keep b o (abQ b o e) hb (vD b o e hx) (I.base.keep b o e n hb hx)<|I.base.free b o e n hx),λb o e n hb hx=>?_,λb o e n hx=>?_,λb o e hx=>?_,λb xs e=>qy b xs<|I.base.qy b xs e,λb o xs e=>rj b o xs<|I.base.rj b o xs e,λb ps e=>?_],?_,λx c e=>?_,?_,λx c e=>?_,λp hp=>?_,aB,I.len]
 .let#[sl,e1]:=I.base.slot b o e n hb hx;let#[afk,e2]:=slot b _ (abQ b o e) hb (vD b o e hx) e1<|I.base.free b o e n hx;show#[afk,e2]
 .let#[o',e1]:=I.base.there b o e hx;show free b o' (vD b o e hx) e1<|I.base.free b o e n hx
 .let#[o',e1]:=I.base.there b o e hx;show there b o' (vD b o e hx) e1
 .let#[m1,e1]:=I.base.sf b ps e;let#[m2,e2]:=sf b _ e1;show#[m1++m2,by rw[e2,Array.append_assoc]]
 .let#[m,hn,hl]:=I.loc;refine#[m,ns m hn,λi x v e1 e2 e3=>?_];let#[u,r,l]:=hl i x v e1 e2 e3;refine#[u,r,?_];rcases l with l|⟨k,c,e,z⟩
  .show .inl l
  .show .inr #[k,c,e,cellK x c e _ z]
 .let#[v,z]:=I.cell x c e;show#[v,cellK x c e v z]
 .let#[m,#[o,_,_,ho,_],_]:=I.loc;show free _ o (λz=>(tR _ z).2.1 zc) ho I.free
 .let#[v,o,ho,hd]:=I.cell x c e;show free c o (λz=>(tR c z).2.2.1 x c e zc) ho<|I.rn x c e
 .let#[e,n,ne,nf,d]:=I.pin p hp;have sq:=λz=>(tR p.1 z).2.2.2 p hp zc;show#[keep p.1 p.2 ne nf sq e n,free p.1 p.2 sq e n,ne,nf,d]
theorem Inv.un (I:Inv X pins σ H s) (u:Un X.fs [] H H' s.heap h') (aB:c8 X.prog X.w H' h'):Inv X pins σ H' { s with heap:=h',toks:=t' }:=by
 let#[m,#[o,es,ep,ho,r],_]:=id I.loc;let#[sl,hL]:=u.any ho I.free zg;show I.step (ch:=[]) (λ_ z=>nomatch z) (λb o _ hb _ e n=>u.keep b o e n hb zg) (λb o _ hb _ e n=>u.slot b o e n hb zg) (λb o _ e n=>u.free b o e n zg) (λb o _ e=>u.there b o e zg) u.qy u.rj u.sf (λm' hm=>by
  let#[o',es',tT,pC,r']:=hm;rw[ho]at pC;cases pC;show#[_,es',tT,hL,r']) aB I.bare
theorem Inv.call (I:Inv X pins σ H s) (u:Un (qz X.stack) ch H H' s.heap h') (aB:c8 X.prog X.w H' h') (hg:AllBare g')
 (tR:∀ b∈ch,(b∈X.ex \/ X.s₀.heap.objs.size<=b) /\ b≠X.env.locals /\ (∀ x c,X.env.cells.lookup x=ae c->c≠b) /\ ∀ p∈X.pn++pins,p.1≠b) :
 Inv X pins σ H' { s with heap:=h',gens:=g',drawn:=d',toks:=t' }:=by
 let#[m,#[o,es,ep,ho,r],_]:=id I.loc;let#[sl,hL]:=u.any ho I.free λz=>(tR _ z).2.1 zc;show I.step tR (λb o hL hb hc e n=>u.keep b o e n (λz=>(ba.mp<|I.Xq b z).elim hL hb) hc) (λb o _ _ hc e n=>u.any e n hc) (λb o hc e n=>u.free b o e n hc) (λb o hc e=>u.there b o e hc) u.qy u.rj u.sf (λm' hm=>by
  let#[o',es',tT,pC,r']:=hm;rw[ho]at pC;cases pC;show#[_,es',tT,hL,r']) aB hg
theorem Inv.turned (I:Inv X pins σ H s) (k:∀ b o,b≠it->s.heap.get? b=ae o->h'.get? b=ae o) (hn:H it=ag) (hL:it≠X.env.locals)
 (h1:it∈X.ex \/ X.s₀.heap.objs.size<=it) (h2:∀ x c,X.env.cells.lookup x=ae c->c≠it) (h3:∀ p∈X.pn++pins,p.1≠it):Inv X pins σ H { s with heap:=h',toks:=t' }:=by
 have abR:∀ b u,H b=ae u->b≠it:=λb u e z=>by rw[z,hn]at e;cases e
 refine I.step (ch:=[it]) (λb hb=>?_) (λb o _ _ hc e _=>k b o (λz=>hc (by simp[z])) e) (λb o _ _ hc e _=>#[o.slots,k b o (λz=>hc (by simp[z])) e]) (λ_ _ _ _ n=>n)
  (λb o hc e=>#[o,k b o (λz=>hc (by simp[z])) e]) (λ_ _ e=>e) (λ_ _ _ e=>e) (λb ps e=>#[#[],by rw[e];simp]) (λm hm=>?_) (λb u e=>?_) I.bare
 .have e:b=it:=by simpa using hb
  subst e;show#[h1,hL,h2,h3]
 .let#[o,es,ep,ho,r]:=hm;show#[o,es,ep,k _ o (Ne.symm hL) ho,r]
 .refine(I.aB b u e).nQ (λc v hc q=>k c v ?_ q) (λ_ q=>q) λ_ _ q=>q;rcases hc with z|z
  .rw[z];show abR b u e
  .show abR c _ z
theorem Inv.tok (I:Inv X pins σ H s) (t):Inv X pins σ H { s with toks:=t }:=I.un Un.refl I.aB
theorem Inv.kept (I:Inv X pins σ H s) (k:∀ b u,s.heap.get? b=ae u->h'.get? b=ae u):Inv X pins σ H { s with heap:=h',toks:=t' }:=I.un (Un.kept k)<|I.aB.kept k
theorem Inv.laid (I:Inv X pins σ H s) (k:∀ b u,s.heap.get? b=ae u->h'.get? b=ae u) (hp:s.heap.objs.size<=a) (new:cJ X.prog X.w (upd H a o) h' a o) :
 Inv X pins σ (upd H a o) { s with heap:=h',toks:=t' }:=I.un (Un.laid k hp<|I.aB.fresh hp)<|I.aB.laid k hp new
theorem Inv.write (I:Inv X pins σ H s) (mu:EO<|H x) (he:e=x \/ H e=ae (.own x)) (k:∀ b u,b≠e->s.heap.get? b=ae u->h'.get? b=ae u) (yo:∃ u,h'.get? e=ae u)
 (new:cJ X.prog X.w (upd H x o) h' x o):Inv X pins σ (upd H x o) { s with heap:=h',toks:=t' }:=I.un (Un.write mu he k yo)<|I.aB.write mu he k yo new
theorem Inv.abS (I:Inv X pins σ H s) (h:∀ p∈afl,s.heap.get? p.1=ae p.2 /\ H p.1=ag /\ p.1≠X.env.locals /\ p.1∉X.fs /\ ∀ v,p.2.data≠.cell v):Inv X afl σ H s:=
 #[I.ok,I.os,I.bare,I.base,I.loc,I.cell,I.free,I.rn,λp hp=>(List.mem_append.mp hp).elim (λz=>I.pin p<|qX _ z)<|h p,I.aB,I.len]
theorem Dz {N:List Str}(hN:N.Nodup) {j:Nat}(a:N[i]?=ae x) (b:N[j]?=ae x):i=j:=by
 let#[h1,e1]:=List.getElem?_eq_some_iff.mp a;let#[h2,e2]:=List.getElem?_eq_some_iff.mp b;show(List.getElem_inj hN).mp (e1.trans e2.symm)
theorem B6 (I:Inv X pins σ H s) (hN:X.N.Nodup) (hi:X.N[i]?=ae x) (hx:Loc X.env.scope x) (r:RelV v u)
 (h:∀ s',Inv X pins (σ.set i<|ae v) H s'->(∃ a,Heap.SameBut a s.heap s'.heap /\ (a=X.env.locals \/ X.env.cells.lookup x=ae a))->Q () s') (hf:X.fn x=ah \/ X.env.scope.names.lookup x=ae .local:=by first|show .inl zc|show .inr zc|assumption):wpAny M A (storeName X.env x u) Q E s:=by
 let#[m,hn,hl]:=id I.loc;have afm:(X.env.scope.kind==.class||(X.env.scope.kind==.module&&X.env.locals != X.env.globals))=af:=by rw[I.ok.kind];rfl
 have abT:i<σ.length:=by rw[I.len];show(List.getElem?_eq_some_iff.mp hi).1
 have wK:=I.wK;have tracked:∀ {a}{h'},(∃ o,s.heap.get? a=ae o /\ H a=ag)->Heap.SameBut a s.heap h'->c8 X.prog X.w H h':=λ{a h'} ha hs b ob e=>by
  let#[_,_,abU]:=ha;refine(I.aB b ob e).nQ (λc w' hc q=>(hs.2 c ?_).trans q) (λ_ q=>q) λ_ _ q=>q;rintro rfl;rcases hc with rfl|hc
  .rw[abU]at e;cases e
  .rw[abU]at hc;cases hc
 rcases hx with hk|hk
 .refine wpAny_storeName_local hk hn (λh' afn hs=>?_) afm;let#[oL,_,_,Ks,_]:=id hn;refine h _ #[I.ok,I.os,I.bare,#[λb o e n hb hx=>?_,λb o e n hb hx=>?_,I.base.free,λb o e hx=>?_,I.base.qy,I.base.rj,I.base.sf],#[_,afn,λj y v' e1 e2 e3=>?_],λy c e=>?_,I.free,I.rn,λp hp=>?_,tracked #[oL,Ks,I.free] hs,by simpa using I.len] #[_,hs,.inl zc]
  .show(hs.2 b<|cw<|kA (bq e) I.ok.above).trans (I.base.keep b o e n hb hx)
  .let#[sl,e1]:=I.base.slot b o e n hb hx;show#[sl,(hs.2 b<|cw<|kA (bq e) I.ok.above).trans e1]
  .let#[o',e1]:=I.base.there b o e hx;show#[o',(hs.2 b<|cw<|kA (bq e) I.ok.above).trans e1]
  .by_cases hj:j=i
   .subst hj;rw[hi]at e1;cases e1;rw[pN abT]at e2;cases e2;show#[u,r,.inl #[hk,by simp]]
   .rw[nN<|Ne.symm hj]at e2;let#[u',r',q]:=hl j y v' e1 e2 e3;refine#[u',r',?_];rcases q with⟨k,e⟩|⟨k,c,e,z⟩
    .refine .inl #[k,?_];have:y≠x:=λe=>hj<|Dz hN e1<|e▸hi;simp[this,e]
    .show .inr #[k,c,e,z.sameBut hs<|wK y c e]
  .let#[w',z]:=I.cell y c e;show#[w',z.sameBut hs<|wK y c e]
  .let#[e,n,ne,nf,d]:=I.pin p hp;show#[(hs.2 p.1 ne).trans e,n,ne,nf,d]
 .have Xr:X.fn x=ah:=by
   rcases hf with z|z
   .show z
   .rw[z]at hk;cases hk
  let#[c,hc]:=I.ok.has x<|.inl hk;let#[w',z]:=I.cell x c hc;refine wpAny_storeName_cell I.ok.kind hk hc z λh' abV hs=>?_;let#[oc,qA,afo]:=id z;refine h { s with heap:=h' } #[I.ok,I.os,I.bare,#[λb o e n hb hx=>?_,λb o e n hb hx=>?_,I.base.free,λb o e hx=>?_,I.base.qy,I.base.rj,I.base.sf],#[m,hn.sameBut hs<|Ne.symm<|wK x c hc,λj y v' e1 e2 e3=>?_],λy c' e=>?_,I.free,I.rn,λp hp=>?_,tracked #[oc,qA,I.rn x c hc] hs,by simpa using I.len] #[c,hs,.inr hc]
  .show(hs.2 b<|cw<|kA (bq e)<|I.ok.ES x c Xr hc).trans (I.base.keep b o e n hb hx)
  .let#[sl,e1]:=I.base.slot b o e n hb hx;show#[sl,(hs.2 b<|cw<|kA (bq e)<|I.ok.ES x c Xr hc).trans e1]
  .let#[o',e1]:=I.base.there b o e hx;show#[o',(hs.2 b<|cw<|kA (bq e)<|I.ok.ES x c Xr hc).trans e1]
  .by_cases hj:j=i
   .subst hj;rw[hi]at e1;cases e1;rw[pN abT]at e2;cases e2;show#[u,r,.inr #[.inl hk,c,hc,abV]]
   .rw[nN<|Ne.symm hj]at e2;let#[u',r',q]:=hl j y v' e1 e2 e3;refine#[u',r',?_];rcases q with q|⟨k,c',e,z'⟩
    .show .inl q
    .refine .inr #[k,c',e,z'.sameBut hs ?_];rintro rfl;show hj<|Dz hN e1<|I.ok.inj _ _ _ e hc▸hi
  .by_cases hV:c'=c
   .subst hV;show#[_,abV]
   .let#[w2,z2]:=I.cell y c' e;show#[w2,z2.sameBut hs hV]
  .let#[e,n,ne,nf,d]:=I.pin p hp;refine#[(hs.2 p.1 ?_).trans e,n,ne,nf,d];intro q;rw[q,qA]at e;have q':=Option.some.inj e;show d w' (by rw[<-q'];show afo)
theorem ls (I:Inv X pins σ H s) (hN:X.N.Nodup) (hi:X.N[i]?=ae x) (hx:Loc X.env.scope x) (r:RelV v u)
 (h:∀ s',Inv X pins (σ.set i<|ae v) H s'->Q () s') (hf:X.fn x=ah \/ X.env.scope.names.lookup x=ae .local:=by first|show .inl zc|show .inr zc|assumption):wpAny M A (storeName X.env x u) Q E s:=
 B6 I hN hi hx r (λs' I' _=>h s' I') hf
theorem Inv.afp (I:Inv X pins σ H s) (ho:s'.os=s.os) (u:Un (qz X.stack) ch H H' s.heap s'.heap) (aB:c8 X.prog X.w H' s'.heap) (hg:AllBare s'.gens)
 (tR:∀ b∈ch,(b∈X.ex \/ X.s₀.heap.objs.size<=b) /\ b≠X.env.locals /\ (∀ x c,X.env.cells.lookup x=ae c->c≠b) /\ ∀ p∈X.pn++pins,p.1≠b):Inv X pins σ H' s':=by
 let#[h',g',d',t',o']:=s';subst ho;show I.call u aB hg tR
end
abbrev XK:=ay->Option aq->Hp->zm
noncomputable abbrev St:=List<|Option V
abbrev VK:=V->Hp->zm
abbrev TE:=St->Hp->VK->zm
abbrev TT:=St->Hp->(Bool->Hp->zm)->zm
abbrev TA:=St->Hp->(List V->Hp->zm)->zm
structure Ends where
 nx:St->Hp->zm
 rt:VK
 bk:St->Hp->zm:=λ_ _=>False
 ct:St->Hp->zm:=λ_ _=>False
abbrev TS:=Ends->St->Hp->zm
def EP (X:Cx) (pins:List<|aq×Obj) (σ:St) (Q:VK) (u:ay) (s':aN):zm:=∃ v H',Inv X pins σ H' s' /\ RelV v u /\ Q v H'
def TP (X:Cx) (pins:List<|aq×Obj) (σ:St) (Q:Bool->Hp->zm) (b:Bool) (s':aN):zm:=∃ H',Inv X pins σ H' s' /\ Q b H'
def AP (X:Cx) (pins:List<|aq×Obj) (σ:St) (Q:List V->Hp->zm) (us:List ay) (s':aN):zm:=∃ vs H',Inv X pins σ H' s' /\ Vals vs us /\ Q vs H'
def SP (X:Cx) (pins:List<|aq×Obj) (D:Ends) (f:Flow) (s':aN):zm:=
 match f with
 |.next=>∃ σ' H',Inv X pins σ' H' s' /\ D.nx σ' H'
 |.brk=>∃ σ' H',Inv X pins σ' H' s' /\ D.bk σ' H'
 |.cont=>∃ σ' H',Inv X pins σ' H' s' /\ D.ct σ' H'
 |.ret u=>∃ v σ' H',Inv X pins σ' H' s' /\ RelV v u /\ D.rt v H'
def PE (X:Cx) (e:aD) (t:TE):zm:=
 ∀ (pins) (s) (σ:St) (H) (Q),Inv X pins σ H s->t σ H Q->wpAny zi X.A (eval e X.env) (EP X pins σ Q) X.xe s
def PT (X:Cx) (e:aD) (t:TT):zm:=
 ∀ (pins) (s) (σ:St) (H) (Q),Inv X pins σ H s->t σ H Q->wpAny zi X.A (isTrue e X.env<|eval e X.env) (TP X pins σ Q) X.xe s
def PW (X:Cx) (e:aD) (t:TT):zm:=
 ∀ (whole) (pins) (s) (σ:St) (H) (Q),Inv X pins σ H s->t σ H Q->wpAny zi X.A (isTrue e X.env whole) (TP X pins σ Q) X.xe s
theorem PW.pt (h:PW X e t):PT X e t:=h _
def PA (X:Cx) (es:List aD) (t:TA):zm:=
 ∀ (pos) (pins) (s) (σ:St) (H) (Q),Inv X pins σ H s->t σ H Q->wpAny zi X.A (spliced<|backTo pos<|starEach es X.env) (AP X pins σ Q) X.xe s
def PS (X:Cx) (st:dW) (t:TS):zm:=
 ∀ (pins) (s) (σ:St) (H) (D),Inv X pins σ H s->t D σ H->wpAny zi X.A (exec st X.env) (SP X pins D) X.xe s
def kW (X:Cx) (st:List dW) (t:TS):zm:=
 ∀ (pins) (s) (σ:St) (H) (D),Inv X pins σ H s->t D σ H->wpAny zi X.A (execs st X.env) (SP X pins D) X.xe s
theorem dG (h:wpAny M A t Q E s) (hQ:∀ a s,Q a s->Q' a s):wpAny M A t Q' E s:=nM h hQ λ_ _ x=>x
theorem br {X:Cx}{pins:List (aq×Obj)}{σ:St}{Q:VK}{t:Sem ay}{Q':ay->aN->zm}{M:Model}{A:kU}{E:ay->aN->zm}{s:aN}(h:wpAny M A t (EP X pins σ Q) E s) (k:∀ v s x H,Inv X pins σ H s->RelV x v->Q x H->Q' v s):wpAny M A t Q' E s:=dG h λv s ⟨x,H,I,r,q⟩=>k v s x H I r q
theorem qB {X:Cx}{pins:List (aq×Obj)}{σ:St}{Q:List V->Hp->zm}{t:Sem (List ay)}{Q':List ay->aN->zm}{M:Model}{A:kU}{E:ay->aN->zm}{s:aN}(h:wpAny M A t (AP X pins σ Q) E s) (k:∀ v s x H,Inv X pins σ H s->Vals x v->Q x H->Q' v s):wpAny M A t Q' E s:=dG h λv s ⟨x,H,I,r,q⟩=>k v s x H I r q
theorem Kt {α β:Type}{X:Cx}{pins:List (aq×Obj)}{σ:St}{Q:β->Hp->zm}{R:β->α->zm}{t:Sem α}{Q':α->aN->zm}{M:Model}{A:kU}{E:ay->aN->zm}{s:aN}(h:wpAny M A t (λv s=>∃ x H,Inv X pins σ H s /\ R x v /\ Q x H) E s) (k:∀ v s x H,Inv X pins σ H s->R x v->Q x H->Q' v s):wpAny M A t Q' E s:=dG h λv s ⟨x,H,I,r,q⟩=>k v s x H I r q
theorem EV {X:Cx}{pins:List (aq×Obj)}{σ:St}{Q:Bool->Hp->zm}{t:Sem Bool}{Q':Bool->aN->zm}{M:Model}{A:kU}{E:ay->aN->zm}{s:aN}(h:wpAny M A t (TP X pins σ Q) E s) (k:∀ v s H,Inv X pins σ H s->Q v H->Q' v s):wpAny M A t Q' E s:=dG h λv s ⟨H,I,q⟩=>k v s H I q

def afq (i:Nat):TE:=λσ H Q=>∃ v,σ[i]?=ae (ae v) /\ Q v H
def tC (v:V):TE:=λ_ H Q=>Q v H
theorem L4 (hN:X.N[i]?=ae x) (hv:yp X.env.scope x) (hd:(x==("__debug__"))=af:=by decide) (pD:(x==("__classdict__"))=af:=by decide):PE X (.Name x pos) (afq i):=by
 intro pins s σ H Q I h;let#[v,e,h]:=h;let#[m,hn,hl]:=I.loc;let#[u,r,l]:=hl i x v hN e hv;have fin:EP X pins σ Q u s:=#[v,H,I,r,h];rcases l with⟨hk,hm⟩|⟨hk,c,hc,vE⟩
 .show Iu (Q5 I.ok.kind hk hn hm fin) hd
 .rcases hk with hk|hk
  .show Iu (ZU I.ok.kind hk hc vE fin) hd
  .show Iu (wpAny_loadName_free I.ok.kind hk hc vE fin pD) hd
theorem L5:PE X (.Constant (.int i) j pos) (tC<|.int i):=λ_ _ _ H _ I h=>ZV #[.int i,H,I.tok _,#[_,rfl],h]
theorem UK:PE X (.Constant (.bool b) j pos) (tC<|.bl b):=λ_ _ _ H _ I h=>Constant_bool #[.bl b,H,I,rfl,h]
theorem Sq:PE X (.Constant .none j pos) (tC .az):=λ_ _ _ H _ I h=>Constant_none #[.az,H,I,rfl,h]
theorem AQ:PE X (.Constant (.str x) j pos) (tC<|.str x):=λ_ _ _ H _ I h=>Calls.Constant_str #[.str x,H,I.tok _,#[_,rfl],h]
def Gl (X:Cx) (x:Str):zm:=X.env.kindOf x=ae .globalImplicit
theorem GK (I:Inv X pins σ H s) (hg:Gl X x) (hm:X.mg x=ae u) (h:Q u s)
 (hd:(x==("__debug__"))=af:=by decide):wpAny zi X.A (eval (.Name x pos) X.env) Q E s:=
 Calls.Name_function_global I.ok.kind hg (Calls.loadGlobal_global (by rw[I.ok.glob];show I.mod.glob.keeps I.bk) hm h) hd
theorem iI (I:Inv X pins σ H s) (hg:Gl X x) (hm:X.mg x=ag) (hv:bootBuiltins x=ae u) (h:Q u s)
 (hn:x ≠ "__name__":=by decide) (hd:(x==("__debug__"))=af:=by decide):wpAny zi X.A (eval (.Name x pos) X.env) Q E s:=by
 let#[mb,h1,h2]:=I.mod.blt;show Calls.Name_function_global I.ok.kind hg (Calls.loadGlobal_builtin (by rw[I.ok.glob];show I.mod.glob.keeps I.bk) hm (by rw[I.ok.blt];show h1.keeps I.bk) ((h2 x hn).trans hv) h) hd
theorem Om (hg:Gl X x) (hm:X.mg x=ae u) (r:RelV v u) (hd:(x==("__debug__"))=af:=by decide):PE X (.Name x pos) (tC v):=
 λ_ _ _ H _ I h=>GK I hg hm #[v,H,I,r,h] hd
theorem On (hg:Gl X x) (hm:X.mg x=ag) (hv:bootBuiltins x=ae u) (r:RelV v u) (hn:x ≠ "__name__":=by decide) (hd:(x==("__debug__"))=af:=by decide):PE X (.Name x pos) (tC v):=
 λ_ _ _ H _ I h=>iI I hg hm hv #[v,H,I,r,h] hn hd

def PC (X:Cx) (op:CmpOp) (a b:aD) (t:TE):zm:=
 ∀ (pins) (s) (σ:St) (H) (Q),Inv X pins σ H s->t σ H Q ->
  wpAny zi X.A (eval a X.env) (λv s₁=>wpAny zi X.A (eval b X.env) (λu s₂=>wpAny zi X.A (compareOp op v u) (EP X pins σ Q) X.xe s₂) X.xe s₁) X.xe s
theorem abW (b) (h:op≠.In) (h2:op≠.NotIn):behindInMarks op b=af:=by
 have e1:(op==CmpOp.In)=af:=by cases op<;>first|rfl|show absurd zc h
 have e2:(op==CmpOp.NotIn)=af:=by cases op<;>first|rfl|show absurd zc h2
 cases b<;>simp[behindInMarks,e1,e2]
def afr (ta:TE):TE:=λσ H Q=>ta σ H λx H1=>Q (.bl<|decide (x=.az)) H1
def afs (ta:TE):TE:=λσ H Q=>ta σ H λx H1=>Q (.bl<|!decide (x=.az)) H1
theorem RelV.abX (r:RelV x v):(v==Value.none)=decide (x=.az):=by
 cases x with
 |int _=>let#[t,rfl]:=r;rfl
 |str _=>let#[t,rfl]:=r;rfl
 |qx _=>let#[t,rfl]:=r;rfl
 |vC _=>let#[t,rfl]:=r;rfl
 |_=>cases r;rfl
theorem L6 (ha:PE X a ta):PC X .Is a (.Constant .none j pos') (afr ta):=by
 intro pins s σ H Q I h;show br (ha pins s σ H _ I h) λv s1 x H1 I1 r1 q1=>(Constant_none (is_none_gen #[.bl _,H1,I1,by rw[r1.abX];rfl,q1]))
theorem GL (ha:PE X a ta):PC X .IsNot a (.Constant .none j pos') (afs ta):=by
 intro pins s σ H Q I h;show br (ha pins s σ H _ I h) λv s1 x H1 I1 r1 q1=>(Constant_none (isnot_none_gen #[.bl _,H1,I1,by rw[r1.abX];rfl,q1]))
noncomputable def tB (t:TE):TT:=λσ H Q=>t σ H λx H1=>∃ c,x=.bl c /\ Q c H1
theorem AR (h:PC X op a b t) (h1:behindInMarks op b=af:=by first|show abW _ (by decide) (by decide)|rfl):PE X (.Compare a [op] [b] pos) t:=λpins s σ H Q I hw=>ZW (h pins s σ H Q I hw) h1
theorem AS (h:PC X op a b t) (h1:behindInMarks op b=af:=by first|show abW _ zd zd|rfl):PT X (.Compare a [op] [b] pos) (tB t):=by
 intro pins s σ H Q I hw;refine ZX (dG (h pins s σ H _ I hw) λv s1 h1=>dG h1 λu s2 h2=>br h2 λc s3 x H1 I1 r1 q1=>?_) h1;let#[d,rfl,q]:=q1;cases r1;show qQ #[H1,I1,q]
theorem Sr (h:PE X e t) (he:∀ whole,isTrue e X.env whole=(do let v <-whole;standAt e.pos;holding [v] (truthy v)):=by intro _;rfl):PT X e (tB t):=by
 intro pins s σ H Q I hw;refine isTrue_plain (br (h pins s σ H _ I hw) λv s1 x H1 I1 r1 q1=>?_)<|he _;let#[d,rfl,q]:=q1;cases r1;show qQ #[H1,I1,q]

noncomputable def aft (t u:TT):TT:=λσ H Q=>t σ H λc H1=>if c=ah then u σ H1 Q else Q af H1
noncomputable def afu (t u:TT):TT:=λσ H Q=>t σ H λc H1=>if c=ah then Q ah H1 else u σ H1 Q
noncomputable def afv (t:TT):TT:=λσ H Q=>t σ H λc H1=>Q (!c) H1
theorem Oo (ha:PT X a tA):PW X (.BoolOp .And [a] pos) tA:=by
 intro wh pins s σ H Q I h;refine isTrue_and<|dG (ha pins s σ H Q I h) λc s1 e=>?_;cases c with
 |true=>show isTrue_and_nil e
 |false=>show e
theorem Ss (ha:PT X a tA):PW X (.BoolOp .Or [a] pos) tA:=by
 intro wh pins s σ H Q I h;refine isTrue_or<|dG (ha pins s σ H Q I h) λc s1 e=>?_;cases c with
 |false=>show isTrue_or_nil e
 |true=>show e
theorem Su (ha:PT X a tA) (hb:PW X (.BoolOp .And (b::rest) pos) Xt):PW X (.BoolOp .And (a::b::rest) pos) (aft tA Xt):=by
 intro wh pins s σ H Q I h;refine isTrue_and<|EV (ha pins s σ H _ I h) λc s1 H1 I1 q1=>?_;cases c with
 |true=>show hb wh pins s1 σ H1 Q I1 q1
 |false=>show#[H1,I1,q1]
theorem UL (ha:PT X a tA) (hb:PW X (.BoolOp .Or (b::rest) pos) Xt):PW X (.BoolOp .Or (a::b::rest) pos) (afu tA Xt):=by
 intro wh pins s σ H Q I h;refine isTrue_or<|EV (ha pins s σ H _ I h) λc s1 H1 I1 q1=>?_;cases c with
 |true=>show#[H1,I1,q1]
 |false=>show hb wh pins s1 σ H1 Q I1 q1
theorem Sv (ha:PT X a tA):PT X (.UnaryOp .Not a pos) (afv tA):=by
 intro pins s σ H Q I h;show isTrue_not<|ha pins s σ H _ I h
def afw (ta tb:TE):TE:=λσ H Q=>ta σ H λx H1=>∃ c,x=.bl c /\ if c=ah then tb σ H1 Q else Q (.bl af) H1
def afx (ta:TE):TE:=λσ H Q=>ta σ H λx H1=>∃ c,x=.bl c /\ Q (.bl<|!c) H1
theorem Sw (h:PE X a t):PE X (.BoolOp op [a] pos) t:=λpins s σ H Q I hw=>BoolOp_one<|h pins s σ H Q I hw
theorem Sy (ha:PE X a ta) (hb:PE X (.BoolOp .And (b::rest) pos) tb):PE X (.BoolOp .And (a::b::rest) pos) (afw ta tb):=by
 intro pins s σ H Q I h;refine BoolOp_and<|br (ha pins s σ H _ I h) λv s1 x H1 I1 r1 q1=>?_;let#[c,rfl,q1]:=q1;cases r1;refine qQ ?_;cases c with
 |true=>show hb pins s1 σ H1 Q I1 q1
 |false=>show#[.bl af,H1,I1,rfl,q1]
theorem Sz (ha:PE X a ta):PE X (.UnaryOp .Not a pos) (afx ta):=by
 intro pins s σ H Q I h;refine UnaryOp_<|br (ha pins s σ H _ I h) λv s1 x H1 I1 r1 q1=>?_;let#[c,rfl,q1]:=q1;cases r1;show not_of<|qQ #[.bl<|!c,H1,I1,rfl,q1]
def afy (t:TT) (ta tb:TE):TE:=λσ H Q=>t σ H λc H1=>if c=ah then ta σ H1 Q else tb σ H1 Q
theorem L7 (hc:PT X c tA) (ha:PE X a ta) (hb:PE X b tb):PE X (.IfExp c a b pos) (afy tA ta tb):=by
 intro pins s σ H Q I h;refine wpAny_IfExp<|EV (hc pins s σ H _ I h) λd s1 H1 I1 q1=>?_;cases d with
 |true=>show ha pins s1 σ H1 Q I1 q1
 |false=>show hb pins s1 σ H1 Q I1 q1
def cy (K:PySem.W.Frag) (H:Hp) (a:aq) (xs:List V):zm:=
 Rd H a (.lst xs) \/
  ∃ (o:Obj) (its:Array ay) (n:Nat),K.lookup a=ae o /\ o.cls=.type "list" /\ o.dict=ag /\ o.data=.seq its n /\ its.size<=sizeLine /\ Vals xs its.toList
def dH (K:PySem.W.Frag) (H:Hp) (a:aq) (xs:List V):zm:=
 Rd H a (.tup xs) \/
  ∃ (o:Obj) (its:Array ay) (n:Nat),K.lookup a=ae o /\ o.cls=.type "tuple" /\ o.data=.seq its n /\ its.size<=sizeLine /\ Vals xs its.toList
noncomputable def afz:ay->Option V
 |.none=>ae .az
 |.bool b=>ae<|.bl b
 |.int i _=>ae<|.int i
 |.str x _=>ae<|.str x
 |.bytes b _=>ae<|.qx b
 |.float b _=>ae<|.vC b
 |.ref a=>ae<|.ref a
 |.type n=>ae<|.ty n
 |_=>ag
theorem RelV.abs (r:RelV x u):afz u=ae x:=by
 cases x with
 |int _=>let#[t,rfl]:=r;rfl
 |str _=>let#[t,rfl]:=r;rfl
 |qx _=>let#[t,rfl]:=r;rfl
 |vC _=>let#[t,rfl]:=r;rfl
 |_=>cases r;rfl
theorem RelV.inj (r:RelV x u) (q:RelV y u):x=y:=Option.some.inj<|r.abs.symm.trans q.abs
theorem Vals.inj:∀ {xs ys}{us},Vals xs us->Vals ys us->xs=ys
 |_,_,_,.nil,.nil=>rfl
 |_,_,_,.cons r t,.cons r' t'=>by rw[r.inj r',Vals.inj t t']

theorem cy.of {K}(h:H a=ae (.lst xs)):cy K H a xs:=.inl<|.inl h
theorem dH.of {K}(h:H a=ae (.tup xs)):dH K H a xs:=.inl<|.inl h
theorem Inv.list (I:Inv X pins σ H s) (h:cy X.K H a xs):∃ its,Vals xs its /\ PlainL s.heap a its.toArray /\ xs.length<=sizeLine:=by
 rcases h with h|⟨o,its,n,hk,hc,hd,hs,hz,r⟩
 .let#[z,its,n,r,e]:=h.ok I.aB;show#[its,r,#[_,n,e,rfl,rfl,rfl],z]
 .refine#[its.toList,r,#[o,n,I.ny a o hk,hc,hd,by simpa using hs],?_];have e:=r.length;simp[pB]at e;lia
theorem Inv.tuple (I:Inv X pins σ H s) (h:dH X.K H a xs):∃ its,Vals xs its /\ IsTup s.heap a its.toArray /\ xs.length<=sizeLine:=by
 rcases h with h|⟨o,its,n,hk,hc,hs,hz,r⟩
 .let#[z,its,r,p]:=h.ok I.aB;show#[its,r,p,z]
 .refine#[its.toList,r,#[o,I.ny a o hk,hc,n,by simpa using hs],?_];have e:=r.length;simp[pB]at e;lia
theorem Inv.abY (I:Inv X pins σ H s) (h:cy X.K H a xs) (h':cy X.K H a ys):xs=ys:=by
 let#[its,r,#[o,n,e,_,_,d],_]:=I.list h;let#[tU,r',#[o',n',e',_,_,d'],_]:=I.list h';rw[e]at e';cases e';rw[d]at d';injection d' with d1 _;have:its=tU:=by simpa using congrArg Array.toList d1
 subst this;show r.inj r'
theorem Inv.abZ (I:Inv X pins σ H s) (h:dH X.K H a xs) (h':dH X.K H a ys):xs=ys:=by
 let#[its,r,#[o,e,_,n,d],_]:=I.tuple h;let#[tU,r',#[o',e',_,n',d'],_]:=I.tuple h';rw[e]at e';cases e';rw[d]at d';injection d' with d1 _;have:its=tU:=by simpa using congrArg Array.toList d1
 subst this;show r.inj r'
noncomputable abbrev Cx.tV (X:Cx) (E:ay->aN->zm):Cx:={ X with xe:=E }
abbrev Cx.EW (X:Cx):Cx:=X.tV λ_ _=>False
theorem Cx.Ok.tV {X:Cx}(ok:X.Ok) (E):(X.tV E).Ok:=
 #[ok.mod,ok.kind,ok.glob,ok.blt,ok.above,ok.inj,ok.has,ok.ES,ok.hd,ok.frames,ok.Kq,ok.Kr,ok.bs,ok.wJ,ok.ET,ok.EU,ok.sj,ok.yq]
theorem Cx.Ok.vF {X:Cx}(ok:(X.tV E).Ok):X.Ok:=
 #[ok.mod,ok.kind,ok.glob,ok.blt,ok.above,ok.inj,ok.has,ok.ES,ok.hd,ok.frames,ok.Kq,ok.Kr,ok.bs,ok.wJ,ok.ET,ok.EU,ok.sj,ok.yq]

theorem Inv.tV (I:Inv X pins σ H s) (E):Inv (X.tV E) pins σ H s:=#[I.ok.tV E,I.os,I.bare,I.base,I.loc,I.cell,I.free,I.rn,I.pin,I.aB,I.len]
theorem Inv.vF (I:Inv (X.tV E) pins σ H s):Inv X pins σ H s:=#[I.ok.vF,I.os,I.bare,I.base,I.loc,I.cell,I.free,I.rn,I.pin,I.aB,I.len]
theorem SP.vF (h:SP (X.tV E) pins D f s'):SP X pins D f s':=by
 cases f with
 |ret u=>let#[v,σ',H',I,r,q]:=h;show#[v,σ',H',I.vF,r,q]
 |_=>let#[σ',H',I,q]:=h;show#[σ',H',I.vF,q]
theorem kW.EW {st}(h:kW X.EW st t):kW X st t:=λpins s σ H D I hw=>
 nM (h pins s σ H D (I.tV _) hw) (λ_ _ q=>q.vF) λ_ _ z=>False.elim z
section
variable {st:dW}
def afA:TS:=λD σ H=>D.nx σ H
def afB (t u:TS):TS:=λD σ H=>t { D with nx:=u D } σ H
theorem Op:kW X [] afA:=λ_ _ σ H _ I h=>Q6 #[σ,H,I,h]
theorem L8 (h1:PS X st t) (h2:kW X rest u):kW X (st::rest) (afB t u):=by
 intro pins s σ H D I h;refine ZY<|dG (h1 pins s σ H { D with nx:=u D } I h) λf s1 q=>?_;cases f with
 |next=>
   let#[σ',H',I',q]:=q;show h2 pins s1 σ' H' D I' q
 |ret v=>show q
 |_=>show q
theorem Oq (h1:PS X st t):kW X [st] t:=by
 intro pins s σ H D I h;refine ZY<|dG (h1 pins s σ H D I h) λf s1 q=>?_;cases f with
 |next=>show Q6 q
 |ret v=>show q
 |_=>show q
def afC:TS:=λD σ H=>D.bk σ H
def afD:TS:=λD σ H=>D.ct σ H
theorem L9:PS X (.Break pos) afC:=λ_ _ σ H _ I h=>wpAny_Break #[σ,H,I,h]
theorem DA:PS X (.Continue pos) afD:=λ_ _ σ H _ I h=>wpAny_Continue #[σ,H,I,h]
theorem Inv.quiet (I:Inv X pins σ H s):interactive X.env=af:=by simp[interactive,I.ok.kind]
def afE (te:TE):TS:=λD σ H=>te σ H λ_ H1=>D.nx σ H1
theorem Os (he:PE X e te) (hs:swapsWith e ag pos.line X.env=pure af:=by rfl):PS X (.Expr e pos) (afE te):=by
 intro pins s σ H D I h;show wpAny_Expr_any (br (he pins s σ H _ I h) λv s1 x H1 I1 r1 q1=>#[σ,H1,I1,q1]) I.quiet hs
def afF (te:TE):TS:=λD σ H=>te σ H D.rt
theorem SA (he:PE X e te):PS X (.Return (ae e) pos) (afF te):=by
 intro pins s σ H D I h;show wpAny_Return_some<|br (he pins s σ H _ I h) λv s1 x H1 I1 r1 q1=>#[x,σ,H1,I1,r1,q1]
def afG (c:TT) (t u:TS):TS:=λD σ H=>c σ H λb H1=>if b=ah then t D σ H1 else u D σ H1
theorem UM (hc:PT X c tc) (ha:kW X a t) (hb:kW X b u):PS X (.If c a b pos) (afG tc t u):=by
 intro pins s σ H D I h;refine wpAny_If<|EV (hc pins s σ H _ I h) λd s1 H1 I1 q1=>?_;cases d with
 |true=>show ha pins s1 σ H1 D I1 q1
 |false=>show hb pins s1 σ H1 D I1 q1
end
abbrev TG:=V->St->Hp->(St->Hp->zm)->zm
abbrev yr:=List V->St->Hp->(St->Hp->zm)->zm
def PG (X:Cx) (target:aD) (t:TG):zm:=
 ∀ (pins) (s) (σ:St) (H) (v) (u) (Q),Inv X pins σ H s->RelV v u->t v σ H Q ->
  wpAny zi X.A (assign target X.env u) (λ_ s'=>∃ σ' H',Inv X pins σ' H' s' /\ Q σ' H') X.xe s
def tW (X:Cx) (ts:List aD) (t:yr):zm:=
 ∀ (pins) (s) (σ:St) (H) (vs) (us) (Q),Inv X pins σ H s->Vals vs us->t vs σ H Q ->
  wpAny zi X.A (assignInOrder ((assignEach ts X.env).map (·.2)) us) (λ_ s'=>∃ σ' H',Inv X pins σ' H' s' /\ Q σ' H') X.xe s
abbrev ab0:=V->V->V->Hp->(Hp->zm)->zm
def ab1 (X:Cx) (t:ab0):zm:=
 ∀ (pins) (s) (σ:St) (H) (o i v) (ov iv u) (Q),Inv X pins σ H s->RelV o ov->RelV i iv->RelV v u->t o i v H Q ->
  wpAny zi X.A (setItem ov iv u) (λ_ s'=>∃ H',Inv X pins σ H' s' /\ Q H') X.xe s
abbrev Xu:=V->V->Hp->VK->zm
def ab2 (X:Cx) (op:Operator) (t:Xu):zm:=
 ∀ (pins) (s) (σ:St) (H) (x y) (v u) (Q),Inv X pins σ H s->RelV x v->RelV y u->t x y H Q ->
  wpAny zi X.A (inplaceOp op v u) (EP X pins σ Q) X.xe s

def Xv (i:Nat):TG:=λv σ H Q=>Q (σ.set i<|ae v) H
theorem CL (hN:X.N.Nodup) (hi:X.N[i]?=ae x) (hx:Loc X.env.scope x) (hf:X.fn x=ah \/ X.env.scope.names.lookup x=ae .local:=by first|show .inl zc|show .inr zc|assumption):PG X (.Name x pos) (Xv i):=by
 intro pins s σ H v u Q I r h;show ZZ<|ls I hN hi hx r (λs' I'=>#[_,H,I',h]) hf
noncomputable def afH:yr:=λvs σ H Q=>vs=[] /\ Q σ H
noncomputable def afI (t:TG) (u:yr):yr:=λvs σ H Q=>∃ v r,vs=v::r /\ t v σ H λσ' H'=>u r σ' H' Q
theorem GM:tW X [] afH:=by
 intro pins s σ H vs us Q I r h;let#[e,h]:=h;subst e;cases r;show aa0 #[σ,H,I,h]
theorem AT (h1:PG X e t) (h2:tW X es u)
 (hs:(assignEach (e::es) X.env).map (·.2)=assign e X.env::(assignEach es X.env).map (·.2):=by rfl):tW X (e::es) (afI t u):=by
 intro pins s σ H vs us Q I r h;let#[v,vr,e1,h]:=h;subst e1;cases r with
 |cons r rr=>
   rw[hs];show WR<|dG (h1 pins s σ H _ _ _ I r h) λ_ s1 ⟨σ1,H1,I1,q1⟩=>(h2 pins s1 σ1 H1 _ _ Q I1 rr q1)
def afJ (K:PySem.W.Frag) (n:Nat) (t:yr):TG:=λv σ H Q=>∃ a xs,v=.ref a /\ dH K H a xs /\ xs.length=n /\ t xs σ H Q
theorem Ma (hc:X.calm=ah) (h:tW X es t)
 (hn:(assignEach es X.env).length=n:=by rfl) (EX:(assignEach es X.env).findIdx? (·.1)=ag:=by rfl):PG X (.Tuple es k pos) (afJ X.K n t):=by
 intro pins s σ H v u Q I r hw;let#[a,xs,e1,hq,hl,hw]:=hw;subst e1;cases r;let#[its,rv,ht,hz]:=I.tuple hq;refine assign_Tuple_tuple (I.ok.hd hc) ht (by simp[hn,<-hl,rv.length]) EX λh' hx=>?_;show h pins _ σ H xs _ Q (I.kept λb o e=>hx b o (cw<|bq e) e) (by simpa using rv) hw
def afK (to ti:TE) (t:ab0):TG:=λv σ H Q=>to σ H λo H1=>ti σ H1 λi H2=>t o i v H2 λH3=>Q σ H3
theorem SC (ho:PE X o to) (hi:PE X i ti) (hs:ab1 X t)
 (ha:∀ v,assign (.Subscript o i pos) X.env v=(do
  let ov <-holding [v] (eval o X.env)
  let iv <-holding [v,ov] (eval i X.env)
  standAt pos
  holding [v,ov,iv] (setItem ov iv v)
  release [v,ov,iv] []):=by intro _;rfl):PG X (.Subscript o i pos) (afK to ti t):=by
 intro pins s σ H v u Q I r h;refine ai<|ku<|br (ho pins s σ H _ I h) λov s1 x H1 I1 r1 q1=>?_;refine ai<|ku<|br (hi pins s1 σ H1 _ I1 q1) λiv s2 y H2 I2 r2 q2=>?_;show ai<|xH<|ai<|ku<|dG (hs pins s2 σ H2 x y v ov iv u _ I2 r1 r2 r q2) λ_ s3 ⟨H3,I3,q3⟩=>(wpAny_release #[σ,H3,I3,q3])
def Xw (te:TE) (g:TG):TS:=λD σ H=>te σ H λx H1=>g x σ H1 D.nx
theorem Mb (he:PE X e te) (hg:PG X tg g) (hs:swapsWithSole [tg] e pos.line X.env=pure af:=by rfl) (hw:swappedStores [tg] e X.env=pure ag:=by rfl)
 (h1:(assignEach [tg] X.env).map (·.2)=[assign tg X.env]:=by rfl):PS X (.Assign [tg] e pos) (Xw te g):=by
 intro pins s σ H D I h;refine wpAny_Assign_stores (br (he pins s σ H _ I h) λv s1 x H1 I1 r1 q1=>?_) hs hw;rw[h1];show dG (hg pins s1 σ H1 x v _ I1 r1 q1) λ_ s2 q=>q
theorem SD (hN:X.N.Nodup) (hi:X.N[i]?=ae x) (hx:Loc X.env.scope x) (he:PE X e te) (hs:swapsWith e (ae<|.Name x pos') pos.line X.env=pure af:=by rfl) (hf:X.fn x=ah \/ X.env.scope.names.lookup x=ae .local:=by first|show .inl zc|show .inr zc|assumption) :
 PS X (.Assign [.Name x pos'] e pos) (Xw te<|Xv i):=by
 intro pins s σ H D I h;show wpAny_Assign_Name (br (he pins s σ H _ I h) λv s1 y H1 I1 r1 q1=>(ls I1 hN hi hx r1 (λs2 I2=>#[_,H1,I2,q1]) hf)) hs
def ab3 (i j:Nat) (ta:TA):TS:=λD σ H=>ta σ H λvs H1=>∃ v w,vs=[v,w] /\ D.nx ((σ.set i<|ae v).set j<|ae w) H1
theorem SE (hc:X.calm=ah) (hN:X.N.Nodup) (hi:X.N[i]?=ae x) (hj:X.N[j]?=ae y) (EY:i≠j)
 (hx:X.env.scope.names.lookup x=ae .local) (hy:X.env.scope.names.lookup y=ae .local) (ha:PA X [a,b] ta)
 (hw:swappedStores [.Tuple [.Name x px,.Name y py] kt pt] (.Tuple [a,b] k2 vG) X.env=pure (ae [x,y]))
 (hs:swapsWithSole [.Tuple [.Name x px,.Name y py] kt pt] (.Tuple [a,b] k2 vG) pos.line X.env=pure af:=by rfl) :
 PS X (.Assign [.Tuple [.Name x px,.Name y py] kt pt] (.Tuple [a,b] k2 vG) pos) (ab3 i j ta):=by
 intro pins s σ H D I h;refine ai<|xH ?_;refine ai<|ao ?_;refine ai<|Tuple_<|qB (ha _ pins s σ H _ I h) λus s1 vs H1 I1 r1 q1=>?_;let#[v,w,e1,q1]:=q1;subst e1;obtain⟨u1,u2,rfl,rv,kN⟩:∃ u1 u2,us=[u1,u2] /\ RelV v u1 /\ RelV w u2:=by
  cases r1 with
  |cons p q=>
    cases q with
    |cons p' q'=>
      cases q';show#[_,_,rfl,p,p']
 refine eG ?_ (by change 2<=sizeLine;decide);have I2:Inv X pins σ H1 { s1 with heap:=s1.heap.push { cls:=.type "tuple",data:=.seq [u1,u2].toArray } }:=I1.kept λb o e=>aU _ e;rw[hw];refine ai<|ao ?_;change wpAny zi X.A (do rule "assign.swapped-stores";let items <-unpackItems (.ref s1.heap.objs.size) 2 ag;assignInOrder [λv=>bindName X.env y v,λv=>bindName X.env x v] items.reverse;pure Flow.next) _ _ _;refine ai<|qT<|ai<|unpackItems_tuple (items:=(List.toArray [u1,u2])) (I.ok.hd hc) (IsTup.new s1.heap _) λh' afL=>?_;have I3:=I2.kept (t':=s1.toks) λb o e=>afL b o (cw<|bq e) e;change wpAny _ _ (assignInOrder [λv=>bindName X.env y v,λv=>bindName X.env x v] [u2,u1] >>= λ_=>pure Flow.next) _ _ _;refine ai<|WR<|Z0<|ls I3 hN hj (.inl hy) kN (λs2 I4=>?_)<|.inr hy;refine WR<|Z0<|ls I4 hN hi (.inl hx) rv (λs3 I5=>aa0<|ao ?_)<|.inr hx;rw[List.set_comm _ _<|Ne.symm EY]at I5;show#[_,H1,I5,q1]
def ab4 (i:Nat) (te:TE) (ti:Xu):TS:=λD σ H=>∃ x,σ[i]?=ae (ae x) /\ te σ H λy H1=>ti x y H1 λz H2=>D.nx (σ.set i<|ae z) H2
theorem SF (hN:X.N.Nodup) (hi:X.N[i]?=ae x) (hx:Loc X.env.scope x) (he:PE X e te) (ho:ab2 X op ti) (hf:X.fn x=ah \/ X.env.scope.names.lookup x=ae .local:=by first|show .inl zc|show .inr zc|assumption) :
 PS X (.AugAssign (.Name x pos') op e pos) (ab4 i te ti):=by
 intro pins s σ H D I h;let#[v,e1,h]:=h;let#[m,hn,hl]:=I.loc;let#[u,r,l]:=hl i x v hi e1 (by rcases hx with k|k;show .inl k;show .inr (.inl k));refine wpAny_AugAssign_Name ?_;have go:wpAny (model X.prog X.w) X.A (eval e X.env) (λw s₂=>wpAny zi X.A (inplaceOp op u w) (λr s₃=>wpAny zi X.A (storeName X.env x r) (λ_=>SP X pins D .next) X.xe s₃) X.xe s₂) X.xe s:=by
  refine br (he pins s σ H _ I h) λw s1 y H1 I1 r1 q1=>?_;show br (ho pins s1 σ H1 v y u w _ I1 r r1 q1) λz s2 zv H2 I2 r2 q2=>(ls I2 hN hi hx r2 (λs3 I3=>#[_,H2,I3,q2]) hf)
 rcases l with⟨hk,hm⟩|⟨hk,c,hc,vE⟩
 .show Q5 I.ok.kind hk hn hm go
 .rcases hk with hk|hk
  .show ZU I.ok.kind hk hc vE go
  .rcases hx with k|k
   .have:X.env.scope.names.lookup x=ae .free:=hk;rw[k]at this;cases this
   .have:X.env.scope.names.lookup x=ae .free:=hk;rw[k]at this;cases this
noncomputable def ab5 (f:Int->Int->Int):Xu:=λx y H Q=>∃ i j,x=.int i /\ y=.int j /\ Q (.int<|f i j) H
theorem SG:ab2 X .Add (ab5 λi j=>i+j):=by
 intro pins s σ H x y v u Q I r1 r2 h;let#[i,j,e1,e2,q]:=h;subst e1;subst e2;let#[t,rfl]:=r1;let#[t',rfl]:=r2;show iadd_int #[.int _,H,I.tok _,#[_,rfl],q]

structure It where
 go:Nat->Hp->zm
 EZ:Nat->Hp->V->Hp->zm
 stop:Nat->Hp->zm
def rq (X:Cx) (pins:List<|aq×Obj) (H:Hp) (b:aq):zm:=
 H b=ag /\ b≠X.env.locals /\ b∉X.fs /\ (b∈X.ex \/ X.s₀.heap.objs.size<=b) /\ (∀ x c,X.env.cells.lookup x=ae c->c≠b) /\ ∀ p∈X.pn++pins,p.1≠b
theorem Inv.wL (I:Inv X pins σ H s) (hb:s.heap.objs.size<=b) (hn:H' b=ag):rq X pins H' b:=by
 refine#[hn,wq<|kA I.lt hb,I.afi hb,.inr<|cj I.sz hb,λx c e z=>?_,λp hp z=>(absurd (kA (bq (I.pin p hp).1) (by rw[z];show hb))<|kI _)]
 .let#[v,q]:=I.cell x c e;show absurd (kA q.lt (by rw[z];show hb))<|kI _
structure Turn (P:eR) (w:cQ) (K:PySem.W.Frag) (tg:aD) (J:It) (fp:List aq) (it:aq) (tn:Nat->aT->zm):zm where
 mem:it∈fp
 obj:∀ i h,tn i h->∀ b∈fp,∃ o,h.get? b=ae o /\ ∀ v,o.data≠.cell v
 keep:∀ i h h',tn i h->(∀ b∈fp,∀ o,h.get? b=ae o->h'.get? b=ae o)->tn i h'
 item:∀ (X:Cx),X.prog=P->X.w=w->X.K=K->X.calm=ah->∀ (i:Nat) (pins:List<|aq×Obj) (s:aN) (σ:St) (H:Hp) (E:ay->aN->zm),Inv X pins σ H s->(∀ b∈fp,rq X pins H b)->tn i s.heap->J.go i H ->
  wpAny (model P w) X.A (pyNext<|.ref it) (λr s1=>∃ u,r=ae u /\
   wpAny (model P w) X.A (letOwnedTupleGo tg (.ref it) u) (λ_ s2=>∃ x H',Inv X pins σ H' s2 /\ RelV x u /\ J.EZ i H x H' /\ tn (i+1) s2.heap /\ ∀ b∈fp,H' b=ag) E s1) E s
 done:∀ (X:Cx),X.prog=P->X.w=w->X.K=K->X.calm=ah->∀ (i:Nat) (pins:List<|aq×Obj) (s:aN) (σ:St) (H:Hp) (E:ay->aN->zm),Inv X pins σ H s->(∀ b∈fp,rq X pins H b)->tn i s.heap->J.stop i H ->
  wpAny (model P w) X.A (pyNext<|.ref it) (λr s1=>r=ag /\ Inv X pins σ H s1) E s
 self:∀ (A:kU) (i:Nat) (s:aN) (Q:ay->aN->zm) (E:ay->aN->zm),tn i s.heap->Q (.ref it) s->wpAny (model P w) A (pyIter<|.ref it) Q E s
abbrev TI:=St->Hp->(It->Hp->zm)->zm
def Xx (X:Cx) (pins:List<|aq×Obj) (σ:St) (tg:aD) (R:It->Hp->zm) (Xy:ay) (s2:aN):zm:=
 ∃ (it:aq) (fp:List aq) (tn:Nat->aT->zm) (J:It) (H':Hp),Xy=.ref it /\ Inv X pins σ H' s2 /\ Turn X.prog X.w X.K tg J fp it tn /\ tn 0 s2.heap /\ (∀ b∈fp,rq X pins H' b) /\ R J H'
def PI (X:Cx) (tg iter:aD) (wi:TI):zm:=
 ∀ (pins) (s) (σ:St) (H) (R),Inv X pins σ H s->wi σ H R ->
  wpAny zi X.A (eval iter X.env) (λv s1=>wpAny zi X.A (pyIter v) (Xx X pins σ tg R) X.xe s1) X.xe s
theorem DB (ho:s.heap.get? it=ae o) (hc:o.cls=.type n) (hd:o.data=.fields vs)
 (hn:["enumerate","zip","dict_itemiterator","dict_reverseitemiterator","odict_iterator","itertools.zip_longest","itertools.pairwise"].contains n=af) (hQ:Q () s):wpAny M A (letOwnedTupleGo tg (.ref it) u) Q E s:=by
 cases tg<;>first
  |show ao hQ
  |(cases u<;>first
   |show ao hQ
   | (refine ai (xI ho ?_)
      rw[hc,hd];change wpAny M A (if (["enumerate","zip","dict_itemiterator","dict_reverseitemiterator","odict_iterator","itertools.zip_longest","itertools.pairwise"].contains n&&vs[0]?==ae _)=ah then _ else _) Q E s;rw[if_neg (by intro h;rw[hn,IG]at h;cases h)];show ao hQ))
noncomputable def Ku (K:PySem.W.Frag) (a:aq):It:=
 #[λi H=>∃ xs x,cy K H a xs /\ xs[i]?=ae x,λi H x H'=>H'=H /\ ∀ xs,cy K H a xs->xs[i]?=ae x,λi H=>∃ xs,cy K H a xs /\ xs.length<=i]
noncomputable def Xz (K:PySem.W.Frag) (a:aq):It:=
 #[λi H=>∃ xs x,dH K H a xs /\ xs[i]?=ae x,λi H x H'=>H'=H /\ ∀ xs,dH K H a xs->xs[i]?=ae x,λi H=>∃ xs,dH K H a xs /\ xs.length<=i]
noncomputable def wM (lo:Int) (n:Nat):It:=#[λi _=>i<n,λi H x H'=>H'=H /\ x=.int (lo+i),λi _=>n<=i]
theorem B7 {K} (a it):Turn P w K tg (Ku K a) [it] it (λi h=>h.IsListIter it a i) where
 mem:=by simp
 obj:=λi h st b hb=>by
  have e:b=it:=by simpa using hb
  subst e;let#[o,e,c,d]:=st;show#[o,e,λv z=>by rw[d]at z;cases z]
 keep:=λi h h' st k=>st.at λo e=>k it zg o e
 item:=by
  intro X hP hw hK hc i pins s σ H E I hf st hg;subst hP hw hK;let#[xs,x,hq,hx]:=hg;let#[its,rv,p,hz]:=I.list hq;let#[u,hu,ru]:=rv.get hx;let#[f0,f1,f2,f3,f4,f5]:=hf it zg;refine wpAny_pyNext_list_item st p.isList (by simpa using hu) λh' pR sb=>?_;have I1:Inv X pins σ H { s with heap:=h' }:=I.turned (λb o hb e=>(sb.2 b hb).trans e) f0 f1 f3 f4 f5;let#[o,e,c,d]:=id pR;show#[u,rfl,DB e c d zd #[x,H,I1,ru,#[rfl,λys hy=>by rw[I.abY hy hq];show hx],pR,λb hb=>(hf b hb).1]]
 done:=by
  intro X hP hw hK hc i pins s σ H E I hf st hg;subst hP hw hK;let#[xs,hq,hx]:=hg;let#[its,rv,p,hz]:=I.list hq;let#[f0,f1,f2,f3,f4,f5]:=hf it zg;have hl:=rv.length;show wpAny_pyNext_list_end (I.ok.hd hc) st p.isList zh λh' eb=>#[rfl,I.turned (λb o hb e=>eb b o hb e) f0 f1 f3 f4 f5]
 self:=λ_ _ _ _ _ st h=>wpAny_pyIter_listiter st h
theorem FR {K} (a it):Turn P w K tg (Xz K a) [it] it (λi h=>h.IsTupleIter it a i) where
 mem:=by simp
 obj:=λi h st b hb=>by
  have e:b=it:=by simpa using hb
  subst e;let#[o,e,c,d]:=st;show#[o,e,λv z=>by rw[d]at z;cases z]
 keep:=λi h h' st k=>st.at λo e=>k it zg o e
 item:=by
  intro X hP hw hK hc i pins s σ H E I hf st hg;subst hP hw hK;let#[xs,x,hq,hx]:=hg;let#[its,rv,p,hz]:=I.tuple hq;let#[u,hu,ru]:=rv.get hx;let#[f0,f1,f2,f3,f4,f5]:=hf it zg;refine wpAny_pyNext_tuple_item st (p) (by simpa using hu) λh' pR sb=>?_;have I1:Inv X pins σ H { s with heap:=h' }:=I.turned (λb o hb e=>(sb.2 b hb).trans e) f0 f1 f3 f4 f5;let#[o,e,c,d]:=id pR;show#[u,rfl,DB e c d zd #[x,H,I1,ru,#[rfl,λys hy=>by rw[I.abZ hy hq];show hx],pR,λb hb=>(hf b hb).1]]
 done:=by
  intro X hP hw hK hc i pins s σ H E I hf st hg;subst hP hw hK;let#[xs,hq,hx]:=hg;let#[its,rv,p,hz]:=I.tuple hq;let#[f0,f1,f2,f3,f4,f5]:=hf it zg;have hl:=rv.length;show wpAny_pyNext_tuple_end (I.ok.hd hc) st (p) zh λh' eb=>#[rfl,I.turned (λb o hb e=>eb b o hb e) f0 f1 f3 f4 f5]
 self:=λ_ _ _ _ _ st h=>wpAny_pyIter_tupleiter st h
theorem AU {K} (it) (lo) (n):Turn P w K tg (wM lo n) [it] it (λi h=>IsRangeIter h it (lo+(i)*1) ((n)-(i)) 1) where
 mem:=by simp
 obj:=λi h st b hb=>by
  have e:b=it:=by simpa using hb
  subst e;show#[_,st,λv z=>by
   have z':=z;cases z']
 keep:=λi h h' st k=>k it zg _ st
 item:=by
  intro X hP hw hK hc i pins s σ H E I hf st hg;subst hP hw hK;let#[f0,f1,f2,f3,f4,f5]:=hf it zg;have W:=Walks.range (prog:=X.prog) (w:=X.w) (I.ok.hd hc) it lo 1 n;refine W.item i s _ _ hg st λv h' tk hv pR kk=>?_;let#[t,rfl]:=hv;have I1:Inv X pins σ H { s with heap:=h',toks:=tk }:=I.turned (λb o hb e=>kk b o (by simpa using hb) e) f0 f1 f3 f4 f5;refine#[_,rfl,DB pR zc zc (by decide) #[.int<|lo+i,H,I1,#[t,?_],#[rfl,rfl],pR,λb hb=>(hf b hb).1]];rw[Kg]
 done:=by
  intro X hP hw hK hc i pins s σ H E I hf st hg;let#[f0,f1,f2,f3,f4,f5]:=hf it zg;show wpAny_pyNext_range_end (I.ok.hd hc) st (by have:n<=i:=hg;lia) λh' eb=>#[rfl,I.turned (λb o hb e=>eb b o hb e) f0 f1 f3 f4 f5]
 self:=λ_ _ _ _ _ st h=>wpAny_pyIter_rangeiter st h

def ab6 (K:PySem.W.Frag) (tl:TE):TI:=λσ H R=>tl σ H λx H1=>∃ a,x=.ref a /\ (∃ xs,cy K H1 a xs) /\ R (Ku K a) H1
theorem Ov (hl:PE X l tl):PI X tg l (ab6 X.K tl):=by
 intro pins s σ H R I h;refine br (hl pins s σ H _ I h) λv s1 x H1 I1 r1 q1=>?_;let#[a,e,#[xs,hq],q]:=q1;subst e;cases r1;let#[its,rv,p,hz]:=I1.list hq;refine Ep p.isList ?_;refine#[s1.heap.objs.size,[s1.heap.objs.size],_,_,H1,rfl,I1.kept λb o e=>aU _ e,B7 a _,#[_,bF _ zc,rfl,rfl],λb hb=>?_,q];have e:b=s1.heap.objs.size:=by simpa using hb
 subst e;show I1.wL (aC _)<|I1.aB.fresh<|aC _
theorem Mc {lo hi}(I:Inv X pins σ H s) (h1:-(2 ^ 62)<=lo) (h2:lo<2 ^ 62) (h3:-(2 ^ 62)<=hi) (h4:hi<2 ^ 62)
 (q:R (wM lo (hi-lo).toNat) H):wpAny zi X.A (pyIter<|.ref s.heap.objs.size) (Xx X pins σ tg R) E { s with heap:=s.heap.push { cls:=.type "range",data:=.fields (List.toArray [.int lo t,.int hi u,.int 1 v]) },toks:=tk }:=by
 refine Z1 (IsRange.new ..) (small_one h1 h2 h3 h4) ?_;have I1:Inv X pins σ H { s with heap:=s.heap.push { cls:=.type "range",data:=.fields (List.toArray [.int lo t,.int hi u,.int 1 v]) },toks:=tk }:=I.kept λb o e=>aU _ e;refine#[(s.heap.push { cls:=.type "range",data:=.fields (List.toArray [.int lo t,.int hi u,.int 1 v]) }).objs.size,[(s.heap.push { cls:=.type "range",data:=.fields (List.toArray [.int lo t,.int hi u,.int 1 v]) }).objs.size],_,_,H,rfl,
  I1.kept λb o e=>aU _ e,AU _ lo (hi-lo).toNat,?_,λb hb=>?_,q]
 .have e1:lo+((0))*1=lo:=by simp
  have e2:(((hi-lo).toNat))-((0))=Builtin.Range.rangeSize lo hi 1:=by rw[Z2];split<;>lia
  change IsRangeIter _ _ (lo+((0))*1) ((((hi-lo).toNat))-((0))) 1;rw[e1,e2];show bF _ zc
 .have e:b=(s.heap.push { cls:=.type "range",data:=.fields (List.toArray [.int lo t,.int hi u,.int 1 v]) }).objs.size:=by simpa using hb
  subst e;show I1.wL (aC _)<|I1.aB.fresh<|aC _
def afM (ta:TA):TI:=λσ H R=>ta σ H λvs H1=>∃ j,vs=[.int j] /\ -(2 ^ 62)<=j /\ j<2 ^ 62 /\ R (wM 0 j.toNat) H1
theorem J3 (hg:Gl X "range") (hm:X.mg "range"=ag) (ha:PA X [a] ta) (hs:starEach [a] X.env=[(af,eval a X.env)]:=by rfl):PI X tg (.Call (.Name "range" p) [a] [] pos) (afM ta):=by
 intro pins s σ H R I h;refine Call_<|iI I hg hm boot_range<|Ka (qB (ha pos pins s σ H _ I h) λus s1 vs H1 I1 r1 q1=>?_) hs zc;let#[j,e,q1,q2,q]:=q1;subst e;cases r1 with
 |cons r rr=>
   cases rr;let#[t,rfl]:=r;show call_range_1<|Mc I1 za za q1 q2 (by simpa using q)
def Kv (wi:TI) (g:TG) (tb:TS):TS:=λD σ H=>wi σ H λJ H1=>∃ W:Nat->Nat->St->Hp->zm,(∃ m,W 0 m σ H1) /\ ∀ i m σ H,W i m σ H ->
 (J.stop i H /\ D.nx σ H) \/ (J.go i H /\ ∃ N,(∀ σ' H',N σ' H'->∃ m',m'<m /\ W (i+1) m' σ' H') /\ ∀ x H',J.EZ i H x H'->g x σ H' λσ2 H2=>tb { D with nx:=N,ct:=N,bk:=D.nx } σ2 H2)
noncomputable def E3 (fp:List aq) (h:aT):List (aq×Obj):=fp.filterMap λb=>(h.get? b).map λo=>(b,o)
theorem jI (hb:b∈fp) (e:h.get? b=ae o):(b,o)∈E3 fp h:=List.mem_filterMap.mpr #[b,hb,by rw[e];rfl]
theorem J4 (hp:p∈E3 fp h):p.1∈fp /\ h.get? p.1=ae p.2:=by
 let#[b,hb,e]:=List.mem_filterMap.mp hp;cases q:h.get? b with
 |none=>rw[q]at e;cases e
 |some o=>
   rw[q]at e;have e':=Option.some.inj e;subst e';show#[hb,q]
theorem Inv.pinned (I:Inv X pins σ H s) (hf:∀ b∈fp,rq X pins H b) (ho:∀ b∈fp,∃ o,s.heap.get? b=ae o /\ ∀ v,o.data≠.cell v):Inv X (pins++E3 fp s.heap) σ H s:=
 I.abS λp hp=>(List.mem_append.mp hp).elim (λz=>I.pin p<|n9 _ z) λz=>by
  let#[hb,e]:=J4 z;let#[f0,f1,f2,_]:=hf p.1 hb;let#[o,e',d]:=ho p.1 hb;rw[e]at e';cases e';show#[e,f0,f1,f2,d]
theorem Inv.Kw (I:Inv X (pins++pl) σ H s):Inv X pins σ H s:=I.abS λp hp=>I.pin p<|n9 _<|qX _ hp
theorem FS (hp:PassesOwn zi X.A X.env X.xe) (hc:X.calm=ah) (hi:PI X tg iter wi) (hg:PG X tg g) (hb:kW X body tb)
 (hs:∀ x,foldedSetIterable iter X.env x=pure x:=by intro _;rfl):PS X (.For tg iter body [] pos) (Kv wi g tb):=by
 intro pins s σ H D I h;refine wpAny_For (dG (hi pins s σ H _ I h) λv s1 h1=>dG h1 λXy s2 h2=>?_) hs;let#[it,fp,tn,J,H2,e,I2,T,Kx,f2,W,#[m0,w0],turn]:=h2;subst e;have stat:∀ {H'},(∀ b∈fp,H' b=ag)->∀ b∈fp,rq X pins H' b:=λhn b hb=>#[hn b hb,(f2 b hb).2];refine codeAny_forLoop_any (λn s'=>∃ i σ' H',Inv X pins σ' H' s' /\ tn i s'.heap /\ (∀ b∈fp,H' b=ag) /\ W i n σ' H') ?_ m0 #[0,σ,H2,I2,Kx,λb hb=>(f2 b hb).1,w0];rintro n s3 ⟨i,σ3,H3,I3,E4,ab7,w3⟩;rcases turn i n σ3 H3 w3 with⟨stop,qn⟩|⟨go,N,hN,step⟩
 .refine Er hp<|dG (T.done X zc zc zc hc i pins s3 σ3 H3 X.xe I3 (stat ab7) E4 stop) ?_;rintro r s4 ⟨hr,I4⟩;subst hr;show Q6 #[σ3,H3,I4,qn]
 .refine Er hp<|dG (T.item X zc zc zc hc i pins s3 σ3 H3 X.xe I3 (stat ab7) E4 go) ?_;rintro r s4 ⟨u,hr,h4⟩;subst hr;refine Er hp<|dG h4 ?_;rintro _ s5 ⟨x,H5,I5,r5,y5,yt,Ky⟩;have afN:=I5.pinned (stat Ky)<|T.obj _ _ yt;refine Er hp<|dG (hg _ s5 σ3 H5 x u _ afN r5<|step x H5 y5) ?_;rintro _ s6 ⟨σ6,H6,I6,q6⟩;refine Er hp<|dG (hb _ s6 σ6 H6 _ I6 q6) λf s7 q7=>?_;have again:∀ {σ7}{H7},Inv X (pins++E3 fp s5.heap) σ7 H7 s7->N σ7 H7->∃ m,m<n /\ ∃ i σ' H',Inv X pins σ' H' s7 /\ tn i s7.heap /\ (∀ b∈fp,H' b=ag) /\ W i m σ' H':=λ{σ7 H7} I7 n7=>by
   let#[m',hm,w7]:=hN σ7 H7 n7;refine#[m',hm,i+1,σ7,H7,I7.Kw,T.keep _ _ _ yt λb hb o e=>(I7.pin (b,o)<|n9 _<|n9 _<|jI hb e).1,λb hb=>?_,w7];let#[o,e,d]:=T.obj _ _ yt b hb;show(I7.pin (b,o)<|n9 _<|n9 _<|jI hb e).2.1
  cases f with
  |brk=>let#[σ7,H7,I7,q7]:=q7;show#[σ7,H7,I7.Kw,q7]
  |ret v=>let#[x7,σ7,H7,I7,r7,q7]:=q7;show#[x7,σ7,H7,I7.Kw,r7,q7]
  |_=>let#[σ7,H7,I7,n7]:=q7;show again I7 n7
abbrev R2:=V->V->Hp->VK->zm
def cE (X:Cx) (f:ay->ay->Sem ay) (r:R2):zm:=
 ∀ (pins) (s) (σ:St) (H) (x y) (v u) (Q),Inv X pins σ H s->RelV x v->RelV y u->r x y H Q ->
  wpAny zi X.A (f v u) (EP X pins σ Q) X.xe s
def XA (X:Cx) (f:ay->Sem ay) (r:V->Hp->VK->zm):zm:=
 ∀ (pins) (s) (σ:St) (H) (x) (v) (Q),Inv X pins σ H s->RelV x v->r x H Q ->
  wpAny zi X.A (f v) (EP X pins σ Q) X.xe s
def pS (X:Cx) (f:ay) (r:List V->Hp->VK->zm):zm:=
 ∀ (pins) (s) (σ:St) (H) (xs) (us) (Q),Inv X pins σ H s->Vals xs us->r xs H Q ->
  wpAny zi X.A (call f us) (EP X pins σ Q) X.xe s
def E5 (r:R2) (ta tb:TE):TE:=λσ H Q=>ta σ H λx H1=>tb σ H1 λy H2=>r x y H2 Q
def afO (r:V->Hp->VK->zm) (ta:TE):TE:=λσ H Q=>ta σ H λx H1=>r x H1 Q
def rI (C:Int->Int->zm) (g:Int->Int->V):R2:=λx y H Q=>∃ i j,x=.int i /\ y=.int j /\ C i j /\ Q (g i j) H
def wN (g:Int->Int->V):R2:=λx y H Q=>∃ i j,x=.int i /\ y=.int j /\ Q (g i j) H
def rU (g:Int->V):V->Hp->VK->zm:=λx H Q=>∃ i,x=.int i /\ Q (g i) H

theorem XB (ha:PE X a ta) (hb:PE X b tb) {R:V->V->Hp->zm}(I:Inv X pins σ H s)
 (h:ta σ H λx H1=>tb σ H1 λy H2=>R x y H2) {f:ay->ay->Sem ay}
 (hf:∀ v u s2 x y H2,Inv X pins σ H2 s2->RelV x v->RelV y u->R x y H2->wpAny zi X.A (f v u) Q X.xe s2) :
 wpAny zi X.A (eval a X.env) (λv s₁=>wpAny zi X.A (eval b X.env) (λu s₂=>wpAny zi X.A (f v u) Q X.xe s₂) X.xe s₁) X.xe s:=by
 refine br (ha pins s σ H _ I h) λv s1 x H1 I1 r1 q1=>?_;show br (hb pins s1 σ H1 _ I1 q1) λu s2 y H2 I2 r2 q2=>(hf v u s2 x y H2 I2 r1 r2 q2)
theorem UN (ho:cE X (binaryOp op) r) (ha:PE X a ta) (hb:PE X b tb):PE X (.BinOp a op b pos) (E5 r ta tb):=by
 intro pins s σ H Q I h;show wpAny_BinOp<|XB ha hb I h λv u s2 x y H2 I2 rx ry q=>ho pins s2 σ H2 x y v u Q I2 rx ry q
theorem RP (ho:XA X (unaryOp op) r) (ha:PE X a ta):PE X (.UnaryOp op a pos) (afO r ta):=by
 intro pins s σ H Q I h;show UnaryOp_<|br (ha pins s σ H _ I h) λv s1 x H1 I1 r1 q1=>ho pins s1 σ H1 x v Q I1 r1 q1
theorem Kz {g:Int->Int->Int}
 (rule:∀ (i j) (t u) (s) (Q) (E),C i j->Q (.int (g i j) s.toks) { s with toks:=s.toks+1 }->wpAny zi X.A (f (.int i t)<|.int j u) Q E s) :
 cE X f (rI C λi j=>.int<|g i j):=by
 intro pins s σ H x y v u Q I rx ry h;let#[i,j,rfl,rfl,hc,q]:=h;let#[t,rfl]:=rx;let#[t',rfl]:=ry;show rule i j t t' s _ _ hc #[.int _,H,I.tok _,#[_,rfl],q]
theorem ab8 {g:Int->Int->Int}
 (rule:∀ (i j) (t u) (s) (Q) (E),Q (.int (g i j) s.toks) { s with toks:=s.toks+1 }->wpAny zi X.A (f (.int i t)<|.int j u) Q E s) :
 cE X f (wN λi j=>.int<|g i j):=by
 intro pins s σ H x y v u Q I rx ry h;let#[i,j,rfl,rfl,q]:=h;let#[t,rfl]:=rx;let#[t',rfl]:=ry;show rule i j t t' s _ _ #[.int _,H,I.tok _,#[_,rfl],q]
theorem KA {g:Int->Int->Bool}
 (rule:∀ (i j) (t u) (s) (Q) (E),Q (.bool<|g i j) s->wpAny zi X.A (f (.int i t)<|.int j u) Q E s) :
 cE X f (wN λi j=>.bl<|g i j):=by
 intro pins s σ H x y v u Q I rx ry h;let#[i,j,rfl,rfl,q]:=h;let#[t,rfl]:=rx;let#[t',rfl]:=ry;show rule i j t t' s _ _ #[.bl _,H,I,rfl,q]
def KC (i j:Int):zm:=0<=j /\ j<=1000000 /\ i.natAbs<2 ^ 64
def wO (i j:Int):zm:=(-(2 ^ 64)<i /\ i<2 ^ 64) \/ (-(2 ^ 64)<j /\ j<2 ^ 64)
theorem wO.ok (h:wO i j):IntMulOk i j:=by
 rcases h with⟨h1,h2⟩|⟨h1,h2⟩
 .show .of_left<|Z3 h1 h2
 .show .of_right<|Z3 h1 h2
theorem SH:cE X (binaryOp .Add) (wN λi j=>.int<|i+j):=ab8 λ_ _ _ _ _ _ _ q=>add_int q
theorem SI:cE X (binaryOp .Mult) (rI wO λi j=>.int<|i*j):=Kz λ_ _ _ _ _ _ _ hc q=>mul_int q hc.ok
theorem afP {g:Int->Int}
 (rule:∀ (i) (t) (s) (Q) (E),Q (.int (g i) s.toks) { s with toks:=s.toks+1 }->wpAny zi X.A (f<|.int i t) Q E s) :
 XA X f (rU λi=>.int<|g i):=by
 intro pins s σ H x v Q I rx h;let#[i,rfl,q]:=h;let#[t,rfl]:=rx;show rule i t s _ _ #[.int _,H,I.tok _,#[_,rfl],q]
theorem Md:XA X (unaryOp .USub) (rU λi=>.int<|-i):=afP λ_ _ _ _ _ q=>neg_int q
noncomputable def ab9:V->V->Bool
 |.az,.az=>ah|.az,.int _=>ah|.int _,.az=>ah|.az,.bl _=>ah|.bl _,.az=>ah|.az,.str _=>ah|.str _,.az=>ah
 |.int _,.int _=>ah|.bl _,.bl _=>ah|.str _,.str _=>ah|.qx _,.qx _=>ah
 |.int _,.str _=>ah|.str _,.int _=>ah|.bl _,.str _=>ah|.str _,.bl _=>ah
 |_,_=>af
def aca:R2:=λx y H Q=>ab9 x y=ah /\ Q (.bl<|decide (x=y)) H
def acb:R2:=λx y H Q=>ab9 x y=ah /\ Q (.bl<|!decide (x=y)) H
theorem GN:decide (V.int i=V.int j)=(i==j):=by
 rw[nj];simp
theorem Me:decide (V.bl i=V.bl j)=(i==j):=by
 rw[nj];simp
theorem GO:decide (V.str i=V.str j)=(i==j):=by
 rw[nj];simp
theorem GP:decide (V.qx i=V.qx j)=(i.toList==j.toList):=by
 rw[nj];cases i;cases j;simp

theorem fW (I:Inv X pins σ H s) (q:Q (.bl k) H) (e:k=k'):EP X pins σ Q (.bool k') s:=by
 subst e;show#[.bl k,H,I,rfl,q]
theorem UO:cE X (compareOp .Eq) aca:=by
 intro pins s σ H x y v u Q I rx ry h;let#[hs,q]:=h;cases x with
 |az=>
   cases rx;cases y with
   |az=>cases ry;show aeG<|fW I q zg
   |bl j=>cases ry;show aeH<|fW I q zg
   |int j=>let#[t',rfl]:=ry;show aeI<|fW I q zg
   |str j=>let#[t',rfl]:=ry;show aeJ<|fW I q zg
   |_=>show absurd (hs) dM
 |bl i=>
   cases rx;cases y with
   |az=>cases ry;show aeK<|fW I q zg
   |bl j=>cases ry;show eq_bool<|fW I q Me
   |str j=>let#[t',rfl]:=ry;show aeU<|fW I q zg
   |_=>show absurd (hs) dM
 |int i=>
   let#[t,rfl]:=rx;cases y with
   |az=>cases ry;show aeL<|fW I q zg
   |int j=>let#[t',rfl]:=ry;show eq_int<|fW I q GN
   |str j=>let#[t',rfl]:=ry;show aeV<|fW I q zg
   |_=>show absurd (hs) dM
 |str i=>
   let#[t,rfl]:=rx;cases y with
   |az=>cases ry;show aeM<|fW I q zg
   |bl j=>cases ry;show aeW<|fW I q zg
   |int j=>let#[t',rfl]:=ry;show aeX<|fW I q zg
   |str j=>let#[t',rfl]:=ry;show eq_str<|fW I q GO
   |_=>show absurd (hs) dM
 |qx i=>
   let#[t,rfl]:=rx;cases y with
   |qx j=>let#[t',rfl]:=ry;show PySem.W.eq_bytes<|fW I q GP
   |_=>show absurd (hs) dM
 |_=>cases y<;>show absurd (show af=ah from hs) dM
theorem UP:cE X (compareOp .NotEq) acb:=by
 intro pins s σ H x y v u Q I rx ry h;let#[hs,q]:=h;cases x with
 |az=>
   cases rx;cases y with
   |az=>cases ry;show aeN<|fW I q zg
   |bl j=>cases ry;show aeO<|fW I q zg
   |int j=>let#[t',rfl]:=ry;show aeP<|fW I q zg
   |str j=>let#[t',rfl]:=ry;show aeQ<|fW I q zg
   |_=>show absurd (hs) dM
 |bl i=>
   cases rx;cases y with
   |az=>cases ry;show aeR<|fW I q zg
   |bl j=>cases ry;show ne_bool<|fW I q<|congrArg not Me
   |str j=>let#[t',rfl]:=ry;show aeY<|fW I q zg
   |_=>show absurd (hs) dM
 |int i=>
   let#[t,rfl]:=rx;cases y with
   |az=>cases ry;show aeS<|fW I q zg
   |int j=>let#[t',rfl]:=ry;show ne_int<|fW I q<|congrArg not GN
   |str j=>let#[t',rfl]:=ry;show aeZ<|fW I q zg
   |_=>show absurd (hs) dM
 |str i=>
   let#[t,rfl]:=rx;cases y with
   |az=>cases ry;show aeT<|fW I q zg
   |bl j=>cases ry;show ae0<|fW I q zg
   |int j=>let#[t',rfl]:=ry;show ae1<|fW I q zg
   |str j=>let#[t',rfl]:=ry;show ne_str<|fW I q<|congrArg not GO
   |_=>show absurd (hs) dM
 |qx i=>
   let#[t,rfl]:=rx;cases y with
   |qx j=>let#[t',rfl]:=ry;show PySem.W.ne_bytes<|fW I q<|congrArg not GP
   |_=>show absurd (hs) dM
 |_=>cases y<;>show absurd (show af=ah from hs) dM
theorem UQ:cE X (compareOp .Lt) (wN λi j=>.bl<|decide (i<j)):=KA λ_ _ _ _ _ _ _ q=>lt_int q
theorem cE.or (h:cE X f r) (h':cE X f r'):cE X f (λx y H Q=>r x y H Q \/ r' x y H Q):=by
 intro pins s σ H x y v u Q I rx ry q;rcases q with q|q
 .show h pins s σ H x y v u Q I rx ry q
 .show h' pins s σ H x y v u Q I rx ry q
theorem Ow (ho:cE X (compareOp op) r) (ha:PE X a ta) (hb:PE X b tb) (hm:behindInMarks op b=af):PE X (.Compare a [op] [b] pos) (E5 r ta tb):=by
 intro pins s σ H Q I h;show ZW (XB ha hb I h λv u s2 x y H2 I2 rx ry q=>ho pins s2 σ H2 x y v u Q I2 rx ry q) hm
noncomputable def acd (t:TE):TT:=λσ H Q=>t σ H λx H'=>∃ k,x=.bl k /\ Q k H'
theorem Ox (ho:cE X (compareOp op) r) (ha:PE X a ta) (hb:PE X b tb) (hm:behindInMarks op b=af):PT X (.Compare a [op] [b] pos) (acd<|E5 r ta tb):=by
 intro pins s σ H Q I h;refine ZX (br (ha pins s σ H _ I h) λv s1 x H1 I1 r1 q1=>br (hb pins s1 σ H1 _ I1 q1) λu s2 y H2 I2 r2 q2=>br (ho pins s2 σ H2 x y v u _ I2 r1 r2 q2) λc s3 z H3 I3 r3 hh=>?_) hm;let#[k,e,q3]:=hh;subst e;cases r3;show qQ #[H3,I3,q3]
def XC (r r':R2) (ta tb tc:TE):TE:=λσ H Q=>ta σ H λx H1=>tb σ H1 λy H2=>r x y H2 λz H3=>∃ k,z=.bl k /\
 (if k=ah then tc σ H3 λw' H4=>r' y w' H4 Q else Q (.bl af) H3)
theorem Mf (ho:cE X (compareOp op) r) (pC:cE X (compareOp kX) r') (ha:PE X a ta) (hb:PE X b tb) (hc:PE X c tc)
 (hm:lastMarks [op,kX] [b,c]=af:=by with_unfolding_all rfl):PE X (.Compare a [op,kX] [b,c] pos) (XC r r' ta tb tc):=by
 intro pins s σ H Q I h;refine Compare_chain (br (ha pins s σ H _ I h) λv s1 x H1 I1 r1 q1=>chain_link<|br (hb pins s1 σ H1 _ I1 q1) λu s2 y H2 I2 r2 q2=>br (ho pins s2 σ H2 x y v u _ I2 r1 r2 q2) λd s3 z H3 I3 r3 hh=>?_) hm;let#[k,e,q3]:=hh;subst e;cases r3;refine qQ ?_;cases k with
 |false=>show ite_ff #[.bl af,H3,I3,rfl,q3]
 |true=>show ite_tt<|chain_last<|br (hc pins s3 σ H3 _ I3 q3) λw' s4 z' H4 I4 r4 q4=>pC pins s4 σ H4 y z' u w' Q I4 r2 r4 q4
theorem Mg (ho:cE X (compareOp op) r) (pC:cE X (compareOp kX) r') (ha:PE X a ta) (hb:PE X b tb) (hc:PE X c tc)
 (hm:lastMarks [op,kX] [b,c]=af:=by with_unfolding_all rfl):PT X (.Compare a [op,kX] [b,c] pos) (acd<|XC r r' ta tb tc):=by
 intro pins s σ H Q I h;refine isTrue_chain (br (ha pins s σ H _ I h) λv s1 x H1 I1 r1 q1=>test_link<|br (hb pins s1 σ H1 _ I1 q1) λu s2 y H2 I2 r2 q2=>br (ho pins s2 σ H2 x y v u _ I2 r1 r2 q2) λd s3 z H3 I3 r3 hh=>?_) hm;let#[k,e,q3]:=hh;subst e;cases r3;refine qQ ?_;cases k with
 |false=>
   let#[k',e',q']:=q3;cases e';show ite_ff #[H3,I3,q']
 |true=>
   refine ite_tt<|test_last<|br (hc pins s3 σ H3 _ I3 q3) λw' s4 z' H4 I4 r4 q4=>br (pC pins s4 σ H4 y z' u w' _ I4 r2 r4 q4) λd' s5 z2 H5 I5 r5 hh=>?_;let#[k2,e2,q5]:=hh;subst e2;cases r5;show qQ #[H5,I5,q5]
theorem yu:(sizeLine)<2 ^ 63:=by decide
theorem FT:cE X (binaryOp .Add) (λx y H Q=>∃ i j,x=.str i /\ y=.str j /\ i.length+j.length<=sizeLine /\ Q (.str<|i++j) H):=by
 intro pins s σ H x y v u Q I rx ry h;let#[i,j,rfl,rfl,hz,q]:=h;let#[t,rfl]:=rx;let#[t',rfl]:=ry;show add_str (λt' tk=>#[.str _,H,I.tok _,#[_,rfl],q]) hz
theorem vals1 (r:Vals [x] us):∃ u,us=[u] /\ RelV x u:=by
 cases r with
 |cons r1 r2=>cases r2;show#[_,rfl,r1]
theorem vals2 (r:Vals [x,y] us):∃ u w',us=[u,w'] /\ RelV x u /\ RelV y w':=by
 cases r with
 |cons r1 r2=>
   cases r2 with
   |cons r3 r4=>cases r4;show#[_,_,rfl,r1,r3]
structure XD (h:aT) (x dx C:aq) (mA:Str->Option ay):zm where
 obj:h.get? x=ae (PySem.W.instObj C dx)
 ns:h.Ns1 dx mA
 ne:dx≠x
theorem J5 {h:aT}(n:h.Ns1 dx mA):∃ od,h.get? dx=ae od /\ ∀ name,PySem.W.lookIn name od=ae (mA name):=by
 let#[o,es,ep,ho,hd,hk,_,hm]:=n;refine#[o,ho,λname=>?_];have e:=hm name;unfold nsFind findBy at e;rw[<-Array.find?_toList]at e;unfold PySem.W.lookIn;rw[hd];dsimp only;split
 .ext y q;rw[q]at e;show congrArg ae e
 .ext q;rw[q]at e;have a:es.toList.any (·.refKey)=af:=by
   rw[EE];intro y hy;let#[z,t,XE]:=hk y<|Array.mem_toList_iff.mp hy;simp[DictEntry.refKey,XE]
  rw[if_neg (by rw[a];show dM)];show congrArg ae e
theorem XD.look (I:XD h x dx C mA):∃ od,PySem.W.InstAt h x (PySem.W.instObj C dx) C (ae od) /\ ∀ name,PySem.W.lookIn name od=ae (mA name):=
 let ⟨od,ho,hl⟩:=J5 I.ns
 #[od,#[I.obj,rfl,rfl,ho],hl]

theorem pQ.some_of (r:pQ (ae v) o):∃ u,o=ae u /\ RelV v u:=by
 cases o with
 |none=>show(r).elim
 |some u=>show#[u,rfl,r]

theorem Oy (aB:c8 P w H h) (e:H a=ae (.ins C dx fs)):∃ mA,XD h a dx C mA /\ (∀ f,pQ (fs.lookup f)<|mA f) /\ PySem.Within mA (fs.map (·.1)) /\ fs.length<=1000 /\ H dx=ae (.own a):=by
 let#[d,z,ne,ob,mA,n,r,q]:=(aB a _ e);show#[mA,#[ob,n,ne],r,q,z,d]
structure XF (K:PySem.W.Frag) (C:aq):zm where
 pg:PySem.W.plainGet K C Str.empty=ah
 hd:PySem.W.hasDictIn K C=ah
 po:PySem.W.plainOver K C=ah
 sa:PySem.W.findIn K (.ref C) "__setattr__"=ae (ae<|.builtin "object.__setattr__")
theorem XF.get {K}(c:XF K C) (f):PySem.W.plainGet K C f=ah:=c.pg



inductive pT (K:PySem.W.Frag) (H:Hp):V->ay->zm where
 |az:pT K H .az (.type "NoneType")
 |bl (x:Bool):pT K H (.bl x) (.type "bool")
 |int (i:Int):pT K H (.int i) (.type "int")
 |str (x:Str):pT K H (.str x) (.type "str")
 |vC (x:UInt64):pT K H (.vC x) (.type "float")
 |lst {a:aq}{xs:List V}(e:H a=ae (.lst xs)):pT K H (.ref a) (.type "list")
 |bQ {a:aq}{o:Obj}{xs:List V}(e:H a=ae (.bQ o<|.lst xs)):pT K H (.ref a) (.type "list")
 |tup {a:aq}{xs:List V}(e:H a=ae (.tup xs)):pT K H (.ref a) (.type "tuple")
 |dK {a:aq}{aj:List (Key×V)}(e:H a=ae (.dK aj)):pT K H (.ref a) (.type "dict")
 |dT {a:aq}{aj:List (List Key×V)}(e:H a=ae (.dT aj)):pT K H (.ref a) (.type "dict")
 |ins {a C dx:aq}{fs:List (Str×V)}(e:H a=ae (.ins C dx fs)) (cl:XF K C) (ha:PySem.W.findIn K (.ref C) "__class__"=ae (ae<|.builtin "object.__class__"))
  (hn:PySem.W.specialIn K (.builtin "object.__class__") "__get__"=ae (ae<|.builtin "getset_descriptor.__get__")) (ace:PySem.W.takesIn K (.builtin "object.__class__")=ae ah)
  (hm:PySem.W.mroIn K C (.type "object")=ae ah):pT K H (.ref a) (.ref C)
theorem J6 (I:Inv X pins σ H s) (rx:RelV x u) (ty:pT X.K H x t) (e:PySem.W.kitOne X.K t c=ae b) (h:∀ tk,Q (.bool b) { s with toks:=tk }) :
 wpAny zi A (call (.builtin "isinstance") [u,c]) Q E s:=by
 cases ty with
 |az=>cases (rx);show se PySem.W.kitx_none I.ny True.intro e (λz=>nomatch z) h
 |bl y=>cases (rx);show se PySem.W.kitx_bool I.ny True.intro e (λz=>nomatch z) h
 |int i=>let#[t,q]:=(rx);cases q;show se PySem.W.kitx_int I.ny True.intro e (λz=>nomatch z) h
 |str y=>let#[t,q]:=(rx);cases q;show se PySem.W.kitx_str I.ny True.intro e (λz=>nomatch z) h
 |vC y=>let#[t,q]:=(rx);cases q;show se PySem.W.kitx_float I.ny True.intro e (λz=>nomatch z) h
 |@lst a xs ea=>
   cases (rx);let#[_,_,n,_,h1]:=(I.aB a _ ea);show se abl I.ny #[_,h1,rfl] e (λz=>nomatch z) h
 |@bQ a ob xs ea=>
   cases (rx);let#[_,_,_,n,_,h1]:=(I.aB a _ ea);show se abl I.ny #[_,h1,rfl] e (λz=>nomatch z) h
 |@tup a xs ea=>
   cases (rx);let#[_,_,_,p]:=(I.aB a _ ea);let#[o,h1,h2,_]:=p;show se PySem.W.kitx_tuple I.ny #[o,h1,h2] e (λz=>nomatch z) h
 |@dK a aj ea=>
   cases (rx);let#[_,_,vs,_,p]:=(I.aB a _ ea);let#[o,es,ep,h1,h2,_]:=p;show se abm I.ny #[o,h1,h2.1] e (λz=>nomatch z) h
 |@dT a aj ea=>
   cases (rx);let#[_,_,xs,_,o,es,ep,h1,h2,_]:=(I.aB a _ ea);show se abm I.ny #[o,h1,h2.1] e (λz=>nomatch z) h
 |@ins a C dx fs ea cl ha hn ace hm=>
   cases (rx);let#[mA,O,_]:=Oy I.aB ea;let#[od,J,_]:=O.look;show se (PySem.W.kitx_own (cl.get _) cl.hd ha hn ace hm) I.ny J e (λz=>nomatch z) h
structure eS (k:Nat) (A:kU):zm where
 hd:A.handled=ag
 dp:A.depth+3*k+5<recursionLimit
 un:A.units+16*k+200<cLine
 gd:A.guards=ae []
theorem eS.mono (r:eS k A) (h:j<=k):eS j A:=#[r.hd,by have:=r.dp;lia,by have:=r.un;lia,r.gd]
theorem eS.deeper (r:eS (k+1) A) (env):eS k (A.deeper env):=
 #[r.hd,by have:=r.dp;change A.depth+1+3*k+5<_;lia,by have:=r.un;change A.units+3+16*k+200<_;lia,by first|show r.gd|(first|rfl|simp[guardIds])]
theorem eS.depth (r:eS k A):A.depth<recursionLimit:=by have:=r.dp;lia
theorem eS.units (r:eS k A):A.units+64<cLine:=by have:=r.un;lia
def E6:TA:=λ_ H Q=>Q [] H
def yw (ta:TE) (tr:TA):TA:=λσ H Q=>ta σ H λx H1=>tr σ H1 λxs H2=>Q (x::xs) H2

theorem i5:PA X [] E6:=λ_ _ _ _ H Q I h=>wD #[[],H,I,.nil,h]
theorem gU (ha:PE X e te) (hr:PA X es t) (hs:starEach (e::es) X.env=(af,eval e X.env)::starEach es X.env:=by rfl):PA X (e::es) (yw te t):=by
 intro pos pins s σ H Q I h;rw[hs];change wpAny _ _ (spliced ((af,eval e X.env)::backTo pos _)) _ _ s;show wF<|br (ha pins s σ H _ I h) λu s1 x H1 I1 r1 q1=>(qB (hr pos pins s1 σ H1 _ I1 q1) λus s2 xs H2 I2 r2 q2=>#[x::xs,H2,I2,.cons r1 r2,q2])
def afQ (t:TA):TE:=λσ H Q=>t σ H λxs H1=>xs.length<=sizeLine /\ ∀ p,H1 p=ag->Q (.ref p) (upd H1 p<|.tup xs)
def afR (t:TA):TE:=λσ H Q=>t σ H λxs H1=>xs.length<=sizeLine /\ ∀ p,H1 p=ag->Q (.ref p) (upd H1 p<|.lst xs)
theorem FU (h:PA X es t):PE X (.Tuple es x1 pos) (afQ t):=by
 intro pins s σ H Q I hq;refine wpAny_Tuple_spliced (qB (h pos pins s σ H _ I hq) λus s1 xs H1 I1 r ⟨z,q⟩=>#[by rw[<-r.length];show z,?_]);show#[.ref s1.heap.objs.size,upd H1 s1.heap.objs.size<|.tup xs,I1.laid (λb u e=>aU _ e) (aC _)<|#[z,us,r,#[_,bF _ zc,rfl,_,rfl]],rfl,q _<|I1.aB.fresh<|aC _]
theorem Mh (h:PA X es t):PE X (.List es pos) (afR t):=by
 intro pins s σ H Q I hq;refine wpAny_List_spliced (qB (h pos pins s σ H _ I hq) λus s1 xs H1 I1 r ⟨z,q⟩=>#[by rw[<-r.length];show z,?_]);show#[.ref s1.heap.objs.size,upd H1 s1.heap.objs.size<|.lst xs,I1.laid (λb u e=>aU _ e) (aC _)<|#[z,us,0,r,bF _ zc],rfl,q _<|I1.aB.fresh<|aC _]
abbrev Sp:=List V->Hp->VK->XK->zm
abbrev yx:=List Env->Hp->aN->XK->ay->aN->zm
structure XG (P:eR) (w:cQ) (K:PySem.W.Frag) (mg:Str->Option ay) (base:aT) (A:kU) (outer:List Env) (s:aN) (H:Hp):zm where
 frames:A.frames=ae outer
 mod:Mod K mg base
 bs:∀ b o,base.get? b=ae o->s.heap.get? b=ae o /\ H b=ag
 wJ:base.objs.size<=s.heap.objs.size
 sj:s.heap.FunFrames base outer
 yq:∀ b∈qz outer,H b=ag
 aB:c8 P w H s.heap
 bare:AllBare s.gens
def CE (outer:List Env) (P:eR) (w:cQ) (H:Hp) (s:aN) (Q:VK) (u:ay) (s':aN):zm:=
 ∃ v H',s'.os=s.os /\ AllBare s'.gens /\ Un (qz outer) [] H H' s.heap s'.heap /\ c8 P w H' s'.heap /\ RelV v u /\ Q v H'
def CR (CX:yx) (outer:List Env) (P:eR) (w:cQ) (H:Hp) (s:aN) (Q:VK) (E:XK) (r:Result) (s':aN):zm:=
 match r with
 |.ok (.ret u)=>CE outer P w H s Q u s'
 |.ok _=>False
 |.error e=>CX outer H s E e s'
structure rz (P:eR) (w:cQ) (K:PySem.W.Frag) (mg:Str->Option ay) (base:aT) (CX:yx) (k:Nat) (f:aq) (fd:FuncData) (ps:List Str) (sp:Sp):zm where
 len:∀ vs H Q E,sp vs H Q E->vs.length=ps.length
 run:∀ (A:kU) (outer:List Env) (s:aN) (H:Hp) (args:Args) (us:List ay) (vs:List V) (Q:VK) (E:XK),eS k A->XG P w K mg base A outer s H->BindsTo s fd args (ps.zip us)->Vals vs us->sp vs H Q E ->
  codeAny (model P w) A (.call (.ref f) args) (CR CX outer P w H s Q E) s
theorem rz.mono {K}(F:rz P w K mg base CX j f fd ps sp) (h:j<=k) :
 rz P w K mg base CX k f fd ps sp:=#[F.len,λA outer s H args us vs Q E hr=>F.run A outer s H args us vs Q E<|hr.mono h]

theorem Inv.afS (I:Inv X pins σ H s):XG X.prog X.w X.K X.mg X.base X.A X.stack s H:=
 #[I.ok.frames,I.ok.mod,I.bs,cj I.ok.wJ I.sz,I.stack,I.abP,I.aB,I.bare]
theorem Inv.after (I:Inv X pins σ H s) (h:CE X.stack X.prog X.w H s Q u s'):EP X pins σ Q u s':=by
 let#[v,H',os,bare,un,aB,r,q]:=h;let#[hh,g,d,t,XH]:=s';obtain rfl:XH=s.os:=os;show#[v,H',I.call un aB bare λb z=>absurd z zg,r,q]
def acf (sp:Sp) (E7:List V) (E:XK) (t:TA):TE:=λσ H Q=>t σ H λvs H1=>sp (vs++E7) H1 Q E
def Binds (K:PySem.W.Frag) (fd:FuncData) (ps:List Str) (ds:List ay):zm:=
 ∀ (s) (us),K.In s.heap->(us++ds).length=ps.length->BindsTo s fd #[us,[]] (ps.zip<|us++ds)
theorem Binds.all {K}(h:∀ us,us.length=ps.length->bindArgs fd #[us,[]]=pure (ps.zip us)):Binds K fd ps []:=λs us _ hl=>by
 rw[nq]at hl ⊢;show .of_eq<|h us hl
def Passes (CX:yx) (X:Cx) (E:XK):zm:=∀ (pins) (σ:St) (H) (s) (e) (s'),Inv X pins σ H s->CX X.stack H s E e s'->X.xe e s'

theorem SJ (F:rz X.prog X.w X.K X.mg X.base CX k f fd ps sp) (hr:eS k X.A) (hb:Binds X.K fd ps ds) (hd:Vals E7 ds) (hx:Passes CX X E)
 (I:Inv X pins σ H s) (r:Vals vs us) (h:sp (vs++E7) H Q E):wpAny zi X.A (call (.ref f) us) (EP X pins σ Q) X.xe s:=by
 have r2:=r.append hd;refine Q7<|xK (F.run X.A X.stack s H _ _ _ Q E hr I.afS (hb s us I.ny (by rw[<-r2.length];show F.len _ _ _ _ h)) r2 h) λr s' hq=>?_;cases r with
 |error e=>show hx pins σ H s e s' I hq
 |ok fl=>
   cases fl with
   |ret u=>show I.after hq
   |_=>show False.elim hq
theorem Oz (F:rz X.prog X.w X.K X.mg X.base CX k f fd ps sp) (hr:eS k X.A) (hg:Gl X x) (hm:X.mg x=ae (.ref f)) (hk:PySem.W.keepIn X.K (.ref f)=ah) (hb:Binds X.K fd ps ds) (hd:Vals E7 ds) (hx:Passes CX X E)
 (ha:PA X (e::es) t) (d6:(x==("__debug__"))=af:=by decide) (he:starEach (e::es) X.env=(af,eval e X.env)::starEach es X.env:=by rfl) (nS:(backTo pos<|starEach es X.env).any (·.1)=af:=by rfl) :
 PE X (.Call (.Name x p) (e::es) [] pos) (acf sp E7 E t):=by
 intro pins s σ H Q I h;refine tJ<|GK I hg hm ?_ d6;show PySem.W.callWith_K I.ok.mod.wI hk (qB (ha pos pins s σ H _ I h) λus s1 vs H1 I1 r q=>#[I1.ny,(SJ F hr hb hd hx I1 r q)]) he nS


structure E8 (N P:List Str) (sc:kL):zm where
 kind:sc.kind=.function
 co:sc.isCoroutine=af
 gen:sc.isGenerator=af
 nd:N.Nodup
 pre:N.take P.length=P
 par:∀ x∈P,sc.names.lookup x=ae .local \/ sc.names.lookup x=ae .cell
 afT:∀ y∈sc.names,y.2≠.free
theorem B8 {kindOf}:∀ {binds}{m},(∀ v,(x,v)∉binds)->bindL kindOf binds m x=m x
 |[],_,_=>rfl
 | (n,v)::r,m,h=>by
   unfold bindL;rw[B8 λw hw=>h w<|a8 _ hw];split
   .have:x≠n:=by rintro rfl;show h v bA
    simp[this]
   .rfl
theorem B9 {kindOf}:∀ {binds}{m},(∀ v,(x,v)∉binds)->bindC kindOf binds m x=m x
 |[],_,_=>rfl
 | (n,v)::r,m,h=>by
   unfold bindC;rw[B9 λw hw=>h w<|a8 _ hw];split
   .rfl
   .have:x≠n:=by rintro rfl;show h v bA
    simp[this]
theorem Ca {kindOf}:∀ {P:List Str}{vs}{i:Nat}{m},P.Nodup->P[i]?=ae x->vs[i]?=ae v->kindOf x=ae .local ->
 bindL kindOf (P.zip vs) m x=ae v
 |[],_,_,_,_,h,_,_=>by simp at h
 |_::_,[],_,_,_,_,h,_=>by simp at h
 | p::P,w::vs,0,m,nd,h1,h2,hk=>by
   simp at h1 h2;subst h1;subst h2;change bindL kindOf ((p,w)::P.zip vs) m p=_;unfold bindL;rw[B8 λv hv=>(rY.mp nd).1 (WH hv).1,if_pos hk];simp
 | p::P,w::vs,i+1,m,nd,h1,h2,hk=>by
   unfold bindL;show Ca (rY.mp nd).2 (by simpa using h1) (by simpa using h2) hk
theorem Cb {kindOf}:∀ {P:List Str}{vs}{i:Nat}{m},P.Nodup->P[i]?=ae x->vs[i]?=ae v->kindOf x≠ae .local ->
 bindC kindOf (P.zip vs) m x=ae v
 |[],_,_,_,_,h,_,_=>by simp at h
 |_::_,[],_,_,_,_,h,_=>by simp at h
 | p::P,w::vs,0,m,nd,h1,h2,hk=>by
   simp at h1 h2;subst h1;subst h2;change bindC kindOf ((p,w)::P.zip vs) m p=_;unfold bindC;rw[B9 λv hv=>(rY.mp nd).1 (WH hv).1,if_neg hk];simp
 | p::P,w::vs,i+1,m,nd,h1,h2,hk=>by
   unfold bindC;show Cb (rY.mp nd).2 (by simpa using h1) (by simpa using h2) hk
noncomputable def start (N:List Str) (vs:List V):St:=vs.map ae++List.replicate (N.length-vs.length) ag
noncomputable def yy (CX:yx) (P:eR) (w:cQ) (K:PySem.W.Frag) (mg:Str->Option ay) (base:aT) (N:List Str) (qual:Str) (scope:kL) (f:aq) (cd:ay) (A:kU) (outer:List Env) (s:aN) (H:Hp) (E:XK):Cx where
 prog:=P
 w:=w
 K:=K
 mg:=mg
 base:=base
 A:=A.deeper<|envOfC qual scope s.heap.objs.size f cd
 N:=N
 s₀:=s
 H₀:=H
 env:=envOfC qual scope s.heap.objs.size f cd
 outer:=outer
 stack:=envOfC qual scope s.heap.objs.size f cd::outer
 ex:=[]
 calm:=ah
 fn:=λ_=>ah
 pn:=[]
 xe:=λe s'=>wpAny (model P w) (A.deeper<|envOfC qual scope s.heap.objs.size f cd) (leaving (envOfC qual scope s.heap.objs.size f cd) e) (λ_ XI=>CX outer H s E e XI) (λe' XI=>CX outer H s E e' XI) s'
theorem AV {sc:kL}(h:sc.names.lookup x=ae .cell):∃ c,(cellsFrom n sc.names []).lookup x=ae c:=by
 show Option.isSome_iff_exists.mp<|abn sc.names n []<|.inl h
theorem J7 {K}
 (S:E8 N ps scope) (hd:A.handled=ag) (e0:XG P w K mg base A outer s H) (hl:vs.length=ps.length) (r:Vals vs us)
 (x:InCallC s s.heap.objs.size (bindL (envOfC qual scope s.heap.objs.size f cd).kindOf (ps.zip us) λ_=>ag) (cellsFrom (s.heap.objs.size+1) scope.names []) (bindC (envOfC qual scope s.heap.objs.size f cd).kindOf (ps.zip us) λ_=>ag) s1) :
 Inv (yy CX P w K mg base N qual scope f cd A outer s H E) [] (start N vs) H s1:=by
 have nS:ps.length<=N.length:=by have:=congrArg List.length S.pre;rw[wy]at this;lia
 let#[h1,tk,rfl,hk]:=x.done;have XJ:∀ b,b∉(yy CX P w K mg base N qual scope f cd A outer s H E).ex:=λb z=>absurd (show b∈([]) from z) zg;refine#[#[e0.mod,S.kind,rfl,rfl,aC _,λy z c h1 h2=>?_,λy hy=>?_,λy c _ h=>?_,λ_=>hd,Around.frames_deeper e0.frames,.inr #[rfl,rfl],λb z=>absurd z<|XJ b,e0.bs,e0.wJ,λb _ _=>XJ b,λb z=>absurd z<|XJ b,e0.sj,e0.yq],
  rfl,e0.bare,Un.kept hk,#[_,x.toInCall.ns,λi y v h1 h2 h3=>?_],λy c h=>#[_,x.cell y c h],e0.aB.fresh<|aC _,λy c h=>?_,λp hp=>absurd (show p∈([]) from hp) zg,e0.aB.kept hk,?_]
 .show Z4 x.apart (pM h1)<|pM h2
 .rcases hy with hy|hy
  .show AV hy
  .show absurd zc<|S.afT _<|pM hy
 .show nZ<|x.above y c<|pM h
 .have hi:i<vs.length:=by
   unfold start at h2;by_cases hi:i<vs.length
   .show hi
   .rw[pb (by simpa using hi)]at h2;rw[aav]at h2;split at h2<;>cases h2
  have ha:vs[i]?=ae v:=by
   unfold start at h2;rw[dZ (by simpa using hi),kJ]at h2;cases e:vs[i]? with
   |none=>rw[e]at h2;cases h2
   |some a=>rw[e]at h2;cases h2;rfl
  let#[u,hu,rv]:=r.get ha;have hp:ps[i]?=ae y:=by
   rw[<-S.pre,aaw za];show h1
  have acg:ps.Nodup:=by rw[<-S.pre];show S.nd.sublist<|aax _ _
  refine#[u,rv,?_];rcases S.par y (tM hp) with k|k
  .show .inl #[k,Ca acg hp hu k]
  .let#[c,e]:=AV k;refine .inr #[.inl k,c,e,?_];have q:=x.cell y c e;rw[Cb acg hp hu (by change scope.names.lookup y≠_;rw[k];decide)]at q;show q
 .show e0.aB.fresh<|nZ<|x.above y c<|pM h
 .unfold start;change _=N.length;rw[cW,aK,WI];lia
theorem UR {K:PySem.W.Frag}{kV}(lk:K.lookup f=ae #[oc,od,.func<|PySem.W.fnOf name qual params body scope dV kV doc pm an eD ct,sr]) (pD:PySem.W.codeIn K eD qual=ah) (S:E8 N ps scope)
 (len:∀ vs H Q E,sp vs H Q E->vs.length=ps.length)
 (E9:∀ (A) (outer) (s) (H) (vs) (Q) (E),eS k (A.deeper<|envOfC qual scope s.heap.objs.size f eD)->sp vs H Q E ->
  ∃ t,kW (yy CX P w K mg base N qual scope f eD A outer s H E) body t /\ t { nx:=λ_ H'=>Q .az H',rt:=Q } (start N vs) H) :
 rz P w K mg base CX (k+1) f (PySem.W.fnOf name qual params body scope dV kV doc pm an eD ct) ps sp:=by
 refine#[len,λA outer s H args us vs Q E hr e0 hb r yz=>?_];have KX:=e0.mod.wI.keeps λb o e=>(e0.bs b o e).1;refine codeAny_call_function hr.depth (KX _ _ lk) zc S.co S.gen zc (PySem.W.codeRec_of KX pD)<|hb _ _ _ _ ?_;refine wpAny_newFunctionEnv_cells S.kind (λ⟨n,v⟩ hy=>by
  rcases S.par n (WH hy).1 with q|q
  .show .inl q
  .show .inr #[q,abn _ _ _<|.inl q]) λenv he s1 x=>?_
 subst he;refine#[(e0.mod.nolimit.keeps λb o e=>(e0.bs b o e).1).keeps x.toInCall.keep,codeAny_func ?_];let#[t,ht,hq]:=E9 A outer s H vs Q E (hr.deeper _) yz;refine nM (ht [] s1 _ H _ (J7 S hr.hd e0 (len _ _ _ _ yz) r x) hq) (λfl s' hs=>?_) λe s' hs=>hs;have fin:∀ {σ'}{H'}{v}{u},Inv (yy CX P w K mg base N qual scope f eD A outer s H E) [] σ' H' s'->RelV v u->Q v H'->CE outer P w H s Q u s' :=
  λ{σ' H' v u} J rv q=>#[v,H',J.os,J.bare,J.base,J.aB,rv,q]
 cases fl with
 |ret u=>
   let#[v,σ',H',J,rv,q]:=hs;show fin J rv q
 |next=>
   let#[σ',H',J,q]:=hs;show fin (v:=V.az) J zc q
 |brk=>
   let#[_,_,_,q]:=hs;show False.elim q
 |cont=>
   let#[_,_,_,q]:=hs;show False.elim q
section
variable {id:String}
def Hb (r:List V->Hp->VK->zm) (t:TA):TE:=λσ H Q=>t σ H λvs H1=>r vs H1 Q
theorem lu (hc:pS X (.builtin id) r) (hg:Gl X x) (hm:X.mg x=ag) (hv:bootBuiltins x=ae (.builtin id)) (ha:PA X (e::es) t) (hn:x ≠ "__name__":=by decide) (d6:(x==("__debug__"))=af:=by decide)
 (he:starEach (e::es) X.env=(af,eval e X.env)::starEach es X.env:=by rfl) (nS:(backTo pos<|starEach es X.env).any (·.1)=af:=by rfl):PE X (.Call (.Name x p) (e::es) [] pos) (Hb r t):=by
 intro pins s σ H Q I h;show tJ<|iI I hg hm hv (aet (qB (ha pos pins s σ H _ I h) λus s1 vs H1 I1 r1 q1=>hc pins s1 σ H1 vs us Q I1 r1 q1) he nS) hn d6
theorem J8 (hc:pS X (.type T) r) (hg:Gl X x) (hm:X.mg x=ag) (hv:bootBuiltins x=ae (.type T)) (ha:PA X (e::es) t) (hn:x ≠ "__name__":=by decide) (d6:(x==("__debug__"))=af:=by decide)
 (he:starEach (e::es) X.env=(af,eval e X.env)::starEach es X.env:=by rfl) (nS:(backTo pos<|starEach es X.env).any (·.1)=af:=by rfl):PE X (.Call (.Name x p) (e::es) [] pos) (Hb r t):=by
 intro pins s σ H Q I h;show tJ<|iI I hg hm hv (Ka (qB (ha pos pins s σ H _ I h) λus s1 vs H1 I1 r1 q1=>hc pins s1 σ H1 vs us Q I1 r1 q1) he nS) hn d6
end
end L2
namespace HT
noncomputable def lexLt:List Int->List Int->Bool
 |[],[]=>af
 |[],_::_=>ah
 |_::_,[]=>af
 |x::xs,y::ys=>if x=y then lexLt xs ys else decide (x<y)
theorem gx (x y) (xs ys):lexLt (x::xs) (y::ys)=if x=y then lexLt xs ys else decide (x<y):=rfl
section
open PySem.SeqAt
open PySem.AutoSeq1 (wpAny_loadPart')
open PySem.MeetsSeq PySem.MeetsSeq2 PySem.MeetsSeq3
end

theorem OA (ht:IsTup s.heap t vs.toArray) (hb:IsTup s.heap b ws.toArray) (hv:vs≠[])
 (h1:ws=[]->Q (.ref t) s) (h2:ws≠[]->Q (.ref s.heap.objs.size) { s with heap:=s.heap.push { cls:=.type "tuple",data:=.seq (vs++ws).toArray } })
 (sx:vs.length+ws.length<=sizeLine):wpAny zj A (binaryOp .Add (.ref t)<|.ref b) Q E s:=by
 let#[#[cls,dd,data,sl],ho,hc,n,hd]:=id ht;let#[#[ach,vH,data2,tX],tY,hZ,n2,hd2]:=id hb;subst hc hd hZ hd2;have e:vs.toArray++ws.toArray=(vs++ws).toArray:=by simp
 by_cases hw:ws=[]
 .show Q8 #[_,ho,rfl] #[_,tY,rfl] Q9 Wj Xe Xf (Xg _ _)
   (tuple_addW1 t b vs.toArray ws.toArray n n2 dd vH sl tX (by simpa using hv) (by simp[hw])) #[ho,tY,h1 hw]
 .refine Q8 #[_,ho,rfl] #[_,tY,rfl] Q9 Wj Xe Xf (Xg _ _)
   (tuple_addW2 t b vs.toArray ws.toArray n n2 dd vH sl tX (by simpa using hv) (by simpa using hw) (by show sx)) #[ho,tY,?_]
  rw[e];show h2 hw
noncomputable def bf (n d:Nat):Option Int->Nat
 |none=>d
 |some v=>if v<0 then (v+(n)).toNat else min v.toNat n
theorem DC (n d):bf n d ag=d:=rfl
theorem OB (n d k:Nat):bf n d (ae<|k)=min k n:=by
 change (if (k)<0 then ((k)+(n:Int)).toNat else min (k:Int).toNat n)=min k n;rw[if_neg za,nv]
theorem V1 (n d) (hd:d<=n) (o):bf n d o<=n:=by
 cases o with
 |none=>show hd
 |some v=>
   change (if v<0 then (v+(n)).toNat else min v.toNat n)<=n;by_cases hv:v<0
   .lia
   .rw[if_neg hv];show Nat.min_le_right _ _
theorem GQ (v:Int) (n d:Nat):(if v<0 then max (v+(n)) 0 else min v (n))=((bf n d<|ae v)):=by
 change (if v<0 then max _ 0 else min v (n))=(((if v<0 then (v+(n)).toNat else min v.toNat n)));by_cases hv:v<0
 .lia
 .lia
theorem FV (lo hi) (n:Nat):Builtin.Slice.sliceAdjust lo hi 1 (n)=(((bf n 0 lo):Int),((bf n n hi):Int)):=by
 refine Prod.ext ?_ ?_
 .cases lo with
  |none=>rfl
  |some v=>show GQ v n 0
 .cases hi with
  |none=>rfl
  |some v=>show GQ v n n
theorem FW (i j:Nat):Builtin.Slice.slicePlaces (i) (j) 1=j-i:=by
 unfold Builtin.Slice.slicePlaces;split<;>lia
theorem AW (p:IsPart v o) (h:Q o s):wpAny zj A (Builtin.Slice.slicePartIndex v) Q E s:=by
 cases p with
 |none=>show aa1 h
 |int i t=>show slicePart_int h
theorem jt {lo}{Q:Int×Int×Nat->aN->zm}(hs:s.heap.IsSliceOf sl vl vu .none) (pl:IsPart vl lo) (pu:IsPart vu hi)
 (h:Q (((bf n 0 lo)),1,bf n n hi-bf n 0 lo) s):wpAny zj A (Builtin.Slice.sliceApplied (.ref sl)<|pure<|n) Q E s:=by
 let#[os,wQ,KD,qC]:=id hs;refine ai<|ai<|nh wQ qC zc<|ai<|nh wQ qC (x:=vu) zc<|ai<|nh wQ qC zc<|ao ?_;refine ai<|aa1 ?_;refine ai<|AW pl<|ai<|AW pu<|ai<|ao ?_;change wpAny _ _ (match Builtin.Slice.sliceAdjust lo hi 1 (n) with|(lo,hi)=>pure (lo,(1:Int),Builtin.Slice.slicePlaces lo hi 1)) _ _ s;rw[FV lo hi n];change wpAny _ _ (pure (((bf n 0 lo):Int),(1),Builtin.Slice.slicePlaces ((bf n 0 lo)) ((bf n n hi)) 1)) _ _ s;rw[FW];show ao h
theorem Mi (xs:Array ay) (i k:Nat):((List.range k).filterMap λ(m:Nat)=>xs[((i)+(m:Int)*1).toNat]?).toArray=((xs.toList.drop i).take k).toArray:=by
 have e:(λ(m:Nat)=>xs[((i)+(m:Int)*1).toNat]?)=λm=>xs[i+m]?:=by
  funext m;have:((i)+(m:Int)*1).toNat=i+m:=by lia
  rw[this]
 rw[e];have:=pick_run xs i k;rw[aay]at this;have e2:((λx=>xs[x]?)∘λx=>i+x)=λm=>xs[i+m]?:=rfl;rw[e2]at this;rw[this]
theorem oh {lo}(ht:IsTup s.heap t items) (hs:s.heap.IsSliceOf sl vl vu .none) (pl:IsPart vl lo) (pu:IsPart vu hi)
 (hw:¬ (bf items.size 0 lo=0 /\ bf items.size items.size hi=items.size))
 (h:Q (.ref s.heap.objs.size) { s with heap:=s.heap.push { cls:=.type "tuple",data:=.seq ((items.toList.drop<|bf items.size 0 lo).take<|bf items.size items.size hi-bf items.size 0 lo).toArray } })
 (sx:items.size<=sizeLine):wpAny zj A (getItem (.ref t)<|.ref sl) Q E s:=by
 have KG:sizeOk (.seq ((items.toList.drop<|bf items.size 0 lo).take<|bf items.size items.size hi-bf items.size 0 lo).toArray):=by
  change ((items.toList.drop<|bf items.size 0 lo).take<|bf items.size items.size hi-bf items.size 0 lo).toArray.size<=sizeLine;rw[bX,wy,EF,pB];lia
 let#[os,wQ,KD,qC]:=id hs;have afU:s.TypeIs (.ref sl) "slice":=#[os,wQ,KD];unfold getItem;try with_reducible refine ku ?_
 first|refine ai (ao ?_)|skip
 refine ai<|Z5 ht.typeIs zd ?_;refine ai (qU ht.typeIs yk
  (hG yk ht.typeIs aa2 ?_<|aa3 _ _))
 change wpAny _ _ (Builtin.Tuple.tupleItemsOf (.ref t) >>= _) _ _ s;refine ai<|aa4 ht ?_;refine ai<|wm afU ?_;rw[if_pos zd];refine ai<|jt hs pl pu ?_;have afV:¬ ((((bf items.size 0 lo):Int)==0&&(1:Int)==1&&(bf items.size items.size hi-bf items.size 0 lo)==items.size)=ah):=by
  intro q;rw[aF,aF]at q;have q1:=eq_of_beq q.1.1;have q2:=eq_of_beq q.2;show hw #[by lia,by lia]
 change wpAny _ _ (if (((bf items.size 0 lo):Int)==0&&(1)==1&&(bf items.size items.size hi-bf items.size 0 lo)==items.size)=ah then _ else _) _ _ s;rw[if_neg afV,Mi];first
  |show ai<|eG (ao #[_,rfl,ao h]) KG
  |show ai<|eG (ai<|ao<|ao #[_,rfl,ao h]) KG
  |show ai<|ai<|eG (ao<|ao #[_,rfl,ao h]) KG
  |show ai<|ai<|eG (ao #[_,rfl,ao h]) KG
end HT
namespace L2
abbrev TO:=St->Hp->(Option Int->Hp->zm)->zm
def PO (X:Cx) (e:Option aD) (t:TO):zm:=
 ∀ (pins) (s) (σ:St) (H) (Q),Inv X pins σ H s->t σ H Q ->
  wpAny zi X.A (evalPart e X.env) (λu s'=>∃ o H',Inv X pins σ H' s' /\ IsPart u o /\ Q o H') X.xe s
noncomputable def afW:TO:=λ_ H Q=>Q ag H
noncomputable def afX (t:TE):TO:=λσ H Q=>t σ H λx H1=>∃ i,x=.int i /\ Q (ae i) H1
theorem AY:∀ {us},Vals (ns.map V.int) us->IntsAre us ns:=by
 induction ns with
 |nil=>intro us r;cases r;show .nil
 |cons n ns ih=>
   intro us r;cases r with
   |cons r1 r2=>
     let#[t,e]:=r1;subst e;show .cons n t<|ih r2
section
variable {lo:Option aD}
theorem OC:PO X ag afW:=by
 intro pins s σ H Q I h;show ao #[ag,H,I,.none,h]
theorem OD (h:PE X e te):PO X (ae e) (afX te):=by
 intro pins s σ H Q I hw;refine br (h pins s σ H _ I hw) λu s1 x H1 I1 r1 q1=>?_;let#[i,rfl,q]:=q1;let#[t,rfl]:=r1;show#[ae i,H1,I1,.int i t,q]
def vI (X:Cx) (r:V->Option Int->Option Int->Hp->VK->zm):zm:=
 ∀ (pins) (s) (σ:St) (H) (x) (v vl vu) (lo hi) (sl) (Q),Inv X pins σ H s->RelV x v->s.heap.IsSliceOf sl vl vu .none->IsPart vl lo->IsPart vu hi->r x lo hi H Q ->
  ∃ T id,typeLookup (.type T) "__getitem__"=pure (ae<|.builtin id) /\ s.TypeIs v T /\ wpAny zi X.A (getItem v<|.ref sl) (EP X pins σ Q) X.xe s
theorem vI.or (h:vI X r) (h':vI X r'):vI X (λx lo hi H Q=>r x lo hi H Q \/ r' x lo hi H Q):=by
 intro pins s σ H x v vl vu lo hi sl Q I rx hs pl pu q;rcases q with q|q
 .show h pins s σ H x v vl vu lo hi sl Q I rx hs pl pu q
 .show h' pins s σ H x v vl vu lo hi sl Q I rx hs pl pu q
def afY (r:V->Option Int->Option Int->Hp->VK->zm) (te:TE) (tl th:TO):TE:=λσ H Q=>te σ H λx H1=>tl σ H1 λl H2=>th σ H2 λu H3=>r x l u H3 Q
theorem Mj (hr:vI X r) (he:PE X e te) (hl:PO X lo tl) (hu:PO X hi th):PE X (.Subscript e (.Slice lo hi ag p2) pos) (afY r te tl th):=by
 intro pins s σ H Q I h;refine Subscript_<|br (he pins s σ H _ I h) λv s1 x H1 I1 r1 q1=>?_;refine Z6<|Kt (hl pins s1 σ H1 _ I1 q1) λvl s2 l H2 I2 pl q2=>Kt (hu pins s2 σ H2 _ I2 q2) λvu s3 u H3 I3 pu q3=>?_;refine ao ?_;let#[T,id,hT,ht,hg]:=hr pins { s3 with heap:=s3.heap.push { cls:=.type "slice",data:=.fields (List.toArray [vl,vu,.none]) } } σ H3 x v vl vu l u s3.heap.objs.size Q (I3.kept λb ob q=>aU _ q) r1 (Heap.IsSliceOf.new ..) pl pu q3;show WS ht hT hg (by with_unfolding_all rfl)
def yA (xs:List V) (lo hi:Option Int):List V:=(xs.drop<|HT.bf xs.length 0 lo).take<|HT.bf xs.length xs.length hi-HT.bf xs.length 0 lo
theorem An (xs) (lo hi):(yA xs lo hi).length<=xs.length:=by
 unfold yA;rw[wy,EF];lia
def aci (K:PySem.W.Frag):V->Option Int->Option Int->Hp->VK->zm:=λx lo hi H Q=>∃ a xs,x=.ref a /\ dH K H a xs /\
 ¬ (HT.bf xs.length 0 lo=0 /\ HT.bf xs.length xs.length hi=xs.length) /\ ∀ p,H p=ag->Q (.ref p) (upd H p<|.tup<|yA xs lo hi)
theorem SK:vI X (aci X.K):=by
 intro pins s σ H x v vl vu lo hi sl Q I rx hs pl pu h;let#[a,xs,rfl,hx,hw,q]:=h;cases rx;let#[its,r,ht,hz]:=I.tuple hx;have hlen:its.toArray.size=xs.length:=by show r.length.symm
 refine#["tuple",_,yk.lookup,ht.typeIs,?_];refine HT.oh ht hs pl pu (by rw[hlen];show hw) ?_ (by rw[hlen];show hz);rw[hlen];refine#[.ref s.heap.objs.size,_,I.laid (λb ob q=>aU _ q) (aC _) ?_,rfl,q _<|I.aB.fresh<|aC _];show#[cj (An xs lo hi) hz,_,(r.drop _).take _,IsTup.new _ _]
def acj (K:PySem.W.Frag):R2:=λx y H Q=>∃ a b xs ys,x=.ref a /\ y=.ref b /\ dH K H a xs /\ dH K H b ys /\ xs≠[] /\ xs.length+ys.length<=sizeLine /\
 (ys=[]->Q (.ref a) H) /\ (ys≠[]->∀ p,H p=ag->Q (.ref p) (upd H p<|.tup<|xs++ys))
theorem Vals.XM (r:Vals xs us):us=[] ↔ xs=[]:=by
 cases r with
 |_=>simp
theorem OE:cE X (binaryOp .Add) (acj X.K):=by
 intro pins s σ H x y v u Q I rx ry h;let#[a,b,xs,ys,rfl,rfl,ha,hb,hx,hz,q1,q2]:=h;cases rx;cases ry;let#[its,r1,p1,_]:=I.tuple ha;let#[tZ,r2,p2,_]:=I.tuple hb;refine HT.OA p1 p2 (λz=>hx<|r1.XM.mp z) (λz=>#[.ref a,H,I,rfl,q1<|r2.XM.mp z]) (λz=>?_) (by rw[<-r1.length,<-r2.length];show hz);refine#[.ref s.heap.objs.size,_,I.laid (λb ob q=>aU _ q) (aC _) ?_,rfl,q2 (λw=>z<|r2.XM.mpr w) _<|I.aB.fresh<|aC _];show#[by rw[cW];show hz,_,r1.append r2,IsTup.new _ _]
end
noncomputable def cR (n:Nat) (i:Int):Option Nat:=if 0<=i then (if i<n then ae i.toNat else ag) else if -(n)<=i then ae (i+n).toNat else ag
def bM {α:Type}(xs:List α) (i:Int):Option α:=(cR xs.length i).bind λj=>xs[j]?
theorem AG (h:cR n i=ae j):seqIndex? i n=ae j /\ j<n /\ -(n)<=i /\ i<n:=by
 unfold cR at h;by_cases h0:0<=i
 .rw[if_pos h0]at h;by_cases h1:i<n
  .rw[if_pos h1]at h;show#[by rw[Wk h0 h1,(Option.some.inj h)],by lia,by lia,h1]
  .rw[if_neg h1]at h;cases h
 .rw[if_neg h0]at h;by_cases h1:-(n)<=i
  .rw[if_pos h1]at h;show#[by rw[seqIndex_neg za h1,(Option.some.inj h)],by lia,h1,by lia]
  .rw[if_neg h1]at h;cases h
theorem CM (h:bM xs i=ae v):∃ j,seqIndex? i xs.length=ae j /\ xs[j]?=ae v /\ j<xs.length /\ -(xs.length)<=i /\ i<xs.length:=by
 unfold bM at h;cases e:cR xs.length i with
 |none=>rw[e]at h;cases h
 |some j=>
   rw[e]at h;let#[h1,h2,h3,h4]:=AG e;show#[j,h1,h,h2,h3,h4]
theorem CN {j:Nat}(h:xs[j]?=ae v):bM xs (j)=ae v:=by
 have hj:=(List.getElem?_eq_some_iff.mp h).1;have e:cR xs.length (j)=ae j:=by
  unfold cR;rw[if_pos za,if_pos za];simp
 unfold bM;rw[e];show h
def XO (b:aD):zm:=∀ o i,subscripted b af o i=operate [o,i] (getItem o i)
def vJ (X:Cx) (r:R2):zm:=
 ∀ (value slice) (pins) (s) (σ:St) (H) (x y) (v u) (Q),Inv X pins σ H s->RelV x v->RelV y u->r x y H Q ->
  subscripted slice af v u=operate [v,u] (getItem v u)->wpAny zi X.A (subscriptTail value slice v u) (EP X pins σ Q) X.xe s
def afZ (X:Cx) (id:String) (r:V->List V->Hp->VK->zm):zm:=
 ∀ (pins) (s) (σ:St) (H) (x) (xs) (v) (us) (Q),Inv X pins σ H s->RelV x v->Vals xs us->r x xs H Q ->
  wpAny zi X.A (call (.builtin id) (v::us)) (EP X pins σ Q) X.xe s
section

theorem vJ.or (h:vJ X r) (h':vJ X r'):vJ X (λx y H Q=>r x y H Q \/ r' x y H Q):=by
 intro value slice pins s σ H x y v u Q I rx ry q hs;rcases q with q|q
 .show h value slice pins s σ H x y v u Q I rx ry q hs
 .show h' value slice pins s σ H x y v u Q I rx ry q hs
theorem RQ (hr:vJ X r) (ha:PE X a ta) (hb:PE X b tb) (hs:XO b):PE X (.Subscript a b pos) (E5 r ta tb):=by
 intro pins s σ H Q I h;show Subscript_<|XB ha hb I h λv u s2 x y H2 I2 rx ry q=>hr a b pins s2 σ H2 x y v u Q I2 rx ry q<|hs _ _
def ack (K:PySem.W.Frag):R2:=λx y H Q=>∃ p xs i v,x=.ref p /\ y=.int i /\ cy K H p xs /\ bM xs i=ae v /\ Q v H
def acm (K:PySem.W.Frag):R2:=λx y H Q=>∃ p xs i v,x=.ref p /\ y=.int i /\ dH K H p xs /\ bM xs i=ae v /\ Q v H
def acn:R2:=λx y H Q=>∃ z i c,x=.str z /\ y=.int i /\ z.length<=sizeLine /\ bM z.cps.toList i=ae c /\ Q (.str ⟨(List.toArray [c])⟩) H
theorem GR:vJ X (ack X.K):=by
 intro value slice pins s σ H x y v u Q I rx ry h hs;let#[p,xs,i,z,rfl,rfl,hq,he,q]:=h;cases rx;let#[t,rfl]:=ry;let#[its,r,pl,hz]:=I.list hq;let#[j,h1,h2,h3,h4,h5]:=CM he;let#[w,ew,kN]:=r.get h2;have hl:=r.length;have hn:=yu;have fin:EP X pins σ Q w s:=#[z,H,I,kN,q];by_cases h0:0<=i
 .have hj:i.toNat=j:=by
   rw[Wk h0 h5]at h1;show Option.some.inj h1
  show item_listR pl.isList h0 za (by rw[hj];simpa using ew) fin hs
 .have hj:(i+(its.toArray.size)).toNat=j:=by
   rw[seqIndex_neg za h4]at h1;rw[bX,<-hl];show Option.some.inj h1
  show WT pl.isList.typeIs slot_list_getitem.lookup
   (wpAny_getItem_list_neg pl.isList za (by rw[bX]<;>lia) za (by rw[hj];simpa using ew) #[rfl,fin]) hs
theorem SL:vJ X (acm X.K):=by
 intro value slice pins s σ H x y v u Q I rx ry h hs;let#[p,xs,i,z,rfl,rfl,hq,he,q]:=h;cases rx;let#[t,rfl]:=ry;let#[its,r,pl,hz]:=I.tuple hq;let#[j,h1,h2,h3,h4,h5]:=CM he;let#[w,ew,kN]:=r.get h2;have hn:=yu;show WT pl.typeIs slot_tuple_getitem.lookup
  (aa5 pl za za (by rw[bX,<-r.length];show h1) (by simpa using ew) #[rfl,#[z,H,I,kN,q]]) hs
theorem SM:vJ X acn:=by
 intro value slice pins s σ H x y v u Q I rx ry h hs;let#[z,i,c,rfl,rfl,hz,he,q]:=h;let#[t,rfl]:=rx;let#[t',rfl]:=ry;let#[j,h1,h2,h3,h4,h5]:=CM he;have hl:z.cps.toList.length=z.length:=by simp[Str.length]
 rw[hl]at h1 h4 h5;have hn:=yu;show WS (typeIs_str s z t) slot_str_getitem.lookup (getItem_str (by
  rw[(decide_eq_false za),(decide_eq_false za),Bool.or_false]) (by rw[h1];simpa using h2) #[.str ⟨(List.toArray [c])⟩,H,I.tok _,#[_,rfl],q]) hs
def af0 (K:PySem.W.Frag):R2:=λx y H Q=>ack K x y H Q \/ acm K x y H Q \/ acn x y H Q
theorem FX (its:List ay) (n j) (u):Obj.mapSeq (·.setIfInBounds j u) { cls:=.type "list",data:=.seq its.toArray n }={ cls:=.type "list",data:=.seq (its.set j u).toArray n }:=by
 simp[Obj.mapSeq]
theorem Inv.lst {pins}{σ:St}{H}{s}{p}{xs}(I:Inv X pins σ H s) (h:H p=ae (.lst xs)) :
 ∃ (its:List ay) (n:Nat),Vals xs its /\ s.heap.get? p=ae { cls:=.type "list",data:=.seq its.toArray n } /\ xs.length<=sizeLine:=by
 let#[z,its,n,r,e]:=I.aB p _ h;show#[its,n,r,e,z]
theorem Inv.af1 {its:List ay}(I:Inv X pins σ H s) (h:H p=ae (.lst xs))
 (ho:s.heap.get? p=ae { cls:=.type "list",data:=.seq its.toArray n }) (hf:f { cls:=.type "list",data:=.seq its.toArray n }={ cls:=.type "list",data:=.seq tU.toArray n' }) (r:Vals ys tU) (hz:ys.length<=sizeLine) (t) :
 Inv X pins σ (upd H p<|.lst ys) { s with heap:=s.heap.update p f,toks:=t }:=by
 have e:(s.heap.update p f).get? p=ae { cls:=.type "list",data:=.seq tU.toArray n' }:=by
  rw[rZ f ho (by rw[hf]<;>rfl),hf]
 show I.write (by rw[h];trivial) (.inl zc) (λb u hb q=>(I0 _ _<|Ne.symm hb).trans q) #[_,e]<|#[hz,tU,n',r,e]
def af2:V->V->V->Hp->(Hp->zm)->zm:=λo i v H Q=>∃ p xs k j,o=.ref p /\ i=.int k /\ H p=ae (.lst xs) /\ cR xs.length k=ae j /\ Q (upd H p<|.lst<|xs.set j v)
theorem Mk:ab1 X af2:=by
 intro pins s σ H o i v ov iv u Q I ro ri rv h;let#[p,xs,k,j,rfl,rfl,hp,hj,q]:=h;cases ro;let#[t,rfl]:=ri;let#[its,n,r,ho,hz]:=I.lst hp;let#[h1,h2,h3,h4]:=AG hj;have hl:=r.length;have hn:=yu;have I' :=
  I.af1 hp ho (FX its n j u) (r.set rv j) (by rw[qY];show hz) s.toks
 by_cases h0:0<=k
 .have hk:k.toNat=j:=by
   rw[Wk h0 h4]at h1;show Option.some.inj h1
  show PySem.W.ki_setAt ho h0 za (by rw[bX,<-hl];show h4) (by rw[hk];show#[_,I',q])
 .have hk:(k+(its.toArray.size)).toNat=j:=by
   rw[seqIndex_neg za h3]at h1;rw[bX,<-hl];show Option.some.inj h1
  show PySem.W.ki_setBack ho za (by rw[bX,<-hl];show h3) za (by rw[hk];show#[_,I',q])
theorem CO (lo hi) (n):(sliceBounds lo hi ag n).1=((HT.bf n 0 lo)) /\ (sliceBounds lo hi ag n).2.1=((HT.bf n n hi)) /\ (sliceBounds lo hi ag n).2.2=1:=by
 refine#[?_,?_,rfl]
 .cases lo with
  |none=>simp[sliceBounds,HT.bf]
  |some i=>
    erw[sliceBounds,HT.bf,WO,show (1:Int)>0 by decide,if_true];by_cases h:i<0
    .erw[h]<;>lia
    .erw[h]<;>lia
 .cases hi with
  |none=>simp[sliceBounds,HT.bf]
  |some i=>
    erw[sliceBounds,HT.bf,WO,show (1:Int)>0 by decide,if_true];by_cases h:i<0
    .erw[h,if_true]<;>lia
    .erw[h,if_false]<;>lia
theorem BX (its:List ay) (lo hi):slicePick its.toArray lo hi ag=((its.drop<|HT.bf its.length 0 lo).take<|HT.bf its.length its.length hi-HT.bf its.length 0 lo).toArray:=by
 let#[h1,h2,h3]:=CO lo hi its.toArray.size;unfold slicePick;rw[h1,h2,h3];erw[sliceRange_one,pick_run]<;>rfl
def af3 (K:PySem.W.Frag):V->Option Int->Option Int->Hp->VK->zm:=λx lo hi H Q=>∃ a xs,x=.ref a /\ cy K H a xs /\ ∀ p,H p=ag->Q (.ref p) (upd H p<|.lst<|yA xs lo hi)
noncomputable def vK:V->Bool
 |.az=>ah
 |.bl _=>ah
 |.int _=>ah
 |.str _=>ah
 |_=>af
noncomputable def uH:V->V->Bool
 |.az,.az=>ah
 |.bl a,.bl b=>a==b
 |.bl a,.int b=>(if a then 1 else 0)==b
 |.int a,.bl b=>a==(if b then 1 else 0)
 |.int a,.int b=>a==b
 |.str a,.str b=>a==b
 |_,_=>af
def wR (x:V) (u:ay):Bool:=match u with
 |.none=>uH .az x
 |.bool b=>uH (.bl b) x
 |.int i _=>uH (.int i) x
 |.str z _=>uH (.str z) x
 |_=>af
theorem Ml (r:RelV y u) (f:vK y=ah):wR x u=uH y x:=by
 cases y with
 |az=>cases r;rfl
 |bl b=>cases r;rfl
 |int i=>let#[t,rfl]:=r;rfl
 |str z=>let#[t,rfl]:=r;rfl
 |_=>show absurd (f) dM
theorem oj:∀ {xs}{us},Vals xs us->xs.all vK=ah->us.any (wR x)=xs.any λy=>uH y x
 |_,_,.nil,_=>rfl
 | y::xs,u::us,.cons r t,f=>by
   rw[vp,aF]at f;rw[tO,tO,Ml r f.1,oj t f.2]
theorem lw (rx:RelV x v) (fx:vK x=ah):∀ {xs}{us},Vals xs us->xs.all vK=ah->∀ u∈us,SeqAt.EqAt A s u v (wR x u)
 |_,_,.nil,_=>λu hu=>by cases hu
 | y::xs,u::us,.cons r t,f=>λu' hu=>by
   rw[vp,aF]at f;rcases ba.mp hu with rfl|hu
   .rw[Ml r f.1];show(λry rx fy fx=>by
    cases y with
    |az=>
      cases ry;cases x with
      |az=>cases rx;show SeqAt.EqAt.same _
      |bl b=>cases rx;show aev b
      |int b=>let#[t,rfl]:=rx;show aew b t
      |str b=>let#[t,rfl]:=rx;show aex b t
      |_=>show absurd (fx) dM
    |bl a=>
      cases ry;cases x with
      |az=>cases rx;show aey a
      |bl b=>cases rx;show aez a b
      |int b=>let#[t,rfl]:=rx;show aeA a b t
      |str b=>let#[t,rfl]:=rx;show aeB a b t
      |_=>show absurd (fx) dM
    |int a=>
      let#[t',rfl]:=ry;cases x with
      |az=>cases rx;show aeC a t'
      |bl b=>cases rx;show aeD a t' b
      |int b=>let#[t,rfl]:=rx;show Xl a t' b t
      |str b=>let#[t,rfl]:=rx;show abG a t' b t
      |_=>show absurd (fx) dM
    |str a=>
      let#[t',rfl]:=ry;cases x with
      |az=>cases rx;show aeE a t'
      |bl b=>cases rx;show aeF a t' b
      |int b=>let#[t,rfl]:=rx;show abH a t' b t
      |str b=>let#[t,rfl]:=rx;show Xm a t' b t
      |_=>show absurd (fx) dM
    |_=>show absurd (fy) dM) r rx f.1 fx
   .show lw rx fx t f.2 u' hu
def KH (x:V) (xs:List V):Bool:=xs.any λy=>uH y x
def KI (K:PySem.W.Frag) (neg:Bool):R2:=λx y H Q=>∃ p xs,y=.ref p /\ (cy K H p xs \/ dH K H p xs) /\ vK x=ah /\ xs.all vK=ah /\ Q (.bl (if neg then !KH x xs else KH x xs)) H
theorem J9:cE X (compareOp .In) (KI X.K af):=by
 intro pins s σ H x y v u Q I rx ry h;let#[p,xs,rfl,hq,fx,fs,q]:=h;cases ry;rcases hq with hq|hq
 .let#[its,r,pl,hz]:=I.list hq;refine SeqAt.in_listAt _ pl.isList (λw hw=>lw rx fx r fs w (by simpa using hw)) #[.bl _,H,I,rfl,?_];rw[show its.toArray.any _=its.any (wR x) by simp,oj r fs];show q
 .let#[its,r,pl,hz]:=I.tuple hq;refine SeqAt.in_tupleAt _ pl (λw hw=>lw rx fx r fs w (by simpa using hw)) #[.bl _,H,I,rfl,?_];rw[show its.toArray.any _=its.any (wR x) by simp,oj r fs];show q
theorem CP:cE X (compareOp .NotIn) (KI X.K ah):=by
 intro pins s σ H x y v u Q I rx ry h;let#[p,xs,rfl,hq,fx,fs,q]:=h;cases ry;rcases hq with hq|hq
 .let#[its,r,pl,hz]:=I.list hq;refine SeqAt.notIn_listAt _ pl.isList (λw hw=>lw rx fx r fs w (by simpa using hw)) #[.bl _,H,I,rfl,?_];rw[show its.toArray.any _=its.any (wR x) by simp,oj r fs];show q
 .let#[its,r,pl,hz]:=I.tuple hq;refine SeqAt.notIn_tupleAt _ pl (λw hw=>lw rx fx r fs w (by simpa using hw)) #[.bl _,H,I,rfl,?_];rw[show its.toArray.any _=its.any (wR x) by simp,oj r fs];show q
theorem om:pS X (.builtin "len") (λxs H Q=>∃ p ys,xs=[.ref p] /\ (cy X.K H p ys \/ dH X.K H p ys) /\ Q (.int ys.length) H):=by
 intro pins s σ H xs us Q I r h;let#[p,ys,rfl,hq,q]:=h;let#[u,rfl,rx]:=vals1 r;cases rx;have hn:=yu;rcases hq with hq|hq
 .let#[its,r',pl,hz]:=I.list hq;have hlen:=r'.length;show Calls.call_len_list pl.isList (by simp[bX]<;>lia) #[.int ys.length,H,I.tok _,#[s.toks+1,by rw[bX,hlen]],q]
 .let#[its,r',pl,hz]:=I.tuple hq;have hlen:=r'.length;show len_tuple pl (by simp[bX]<;>lia) #[.int ys.length,H,I.tok _,#[s.toks+1,by rw[bX,hlen]],q]
def aco (K:PySem.W.Frag) (T:String) (x:V) (H:Hp):zm:=match x with
 |.str _=>T="str"
 |.int _=>T="int"
 |.ref p=>(T="list" /\ ∃ xs,cy K H p xs) \/ (T="tuple" /\ ∃ o,K.lookup p=ae o /\ o.cls=.type "tuple" /\ o.dict=ag) \/
  (T="dict" /\ ((∃ aj,H p=ae (.dK aj)) \/ ∃ aj,H p=ae (.dT aj))) \/ (T="set" /\ ∃ S n,H p=ae (.set S n))
 |_=>False
theorem SN (I:Inv X pins σ H s) (r:RelV x v) (ty:aco X.K T x H) :
 s.TypeIs v T /\ ∀ a,v=.ref a->∃ ob,s.heap.get? a=ae ob /\ ob.dict=ag:=by
 cases x with
 |str z=>
   let#[t,rfl]:=r;cases (ty);show#[typeIs_str s z t,λ_ e=>nomatch e]
 |int i=>
   let#[t,rfl]:=r;cases (ty);show#[Wl s i t,λ_ e=>nomatch e]
 |ref p=>
   cases r;rcases ty with⟨rfl,xs,hq⟩|⟨rfl,o,hk,hc,hd⟩|⟨rfl,hk⟩|⟨rfl,S,n,hk⟩
   .let#[its,_,pl,_]:=I.list hq;refine#[pl.isList.typeIs,λa e=>?_];cases e;let#[o,n,e,c,hd,_]:=pl;show#[o,e,hd]
   .refine#[#[o,I.ny p o hk,hc],λa e=>?_];cases e;show#[o,I.ny _ o hk,hd]
   .have z:∃ o,s.heap.get? p=ae o /\ o.ExactDict:=by
     rcases hk with⟨aj,hk⟩|⟨aj,hk⟩
     .let#[_,_,_,_,o,_,_,e,ex,_]:=I.aB p _ hk;show#[o,e,ex]
     .let#[_,_,_,_,o,_,_,e,ex,_]:=I.aB p _ hk;show#[o,e,ex]
    let#[o,e,ex]:=z;refine#[#[o,e,ex.1],λa e2=>?_];cases e2;show#[o,e,ex.2.1]
   .let#[o,_,_,_,e,ex,_]:=I.aB p _ hk;refine#[#[o,e,ex.1],λa e2=>?_];cases e2;show#[o,e,ex.2.1]
 |_=>show False.elim ty
def Hc (K:PySem.W.Frag) (T:String) (r:V->List V->Hp->VK->zm) (to:TE) (t:TA):TE:=λσ H Q=>to σ H λx H1=>aco K T x H1 /\ t σ H1 λxs H2=>r x xs H2 Q
variable {id:String}
theorem GS (pa:PlainAttrs T) (slot:Slot T name id) (af4:typeOf (.builtin id)=pure (.type "method_descriptor")) (hm:afZ X id r) (ho:PE X o to) (ha:PA X (e::es) t)
 (uI:attributeBase o name X.env (eval o X.env)=eval o X.env:=by rfl)
 (uJ:((backTo kY<|starEach (e::es) X.env).all (λx=>!x.1)&&(backToKw kY<|keywordEach [] X.env).all (λx=>x.1.isSome)
  && decide ((e::es).length+([]:List Keyword).length+(if ([]:List Keyword).isEmpty then 0 else 1)<30))=ah:=by rfl)
 (uK:(apos.endLine==kY.line)=ah:=by rfl) (hs:starEach (e::es) X.env=(af,eval e X.env)::starEach es X.env:=by rfl) (af5:(backTo kY<|starEach es X.env).any (·.1)=af:=by rfl) :
 PE X (.Call (.Attribute o name apos) (e::es) [] kY) (Hc X.K T r to t):=by
 intro pins s σ H Q I h;refine wpAny_Call_method_late uI uJ uK zc<|br (ho pins s σ H _ I h) λv s1 x H1 I1 r1 hh=>?_;let#[ty,q1]:=hh;let#[h1,h2]:=SN I1 r1 ty;refine#[T,id,pa,slot,af4,h1,h2,?_];have hA:=ha kY pins s1 σ H1 _ I1 q1;rw[hs]at hA ⊢;show Kj (by change (af||(backTo kY _).any _)=af;rw[af5]<;>rfl)<|Xc<|qB hA λus s2 vs H2 I2 r2 q2=>hm pins s2 σ H2 x vs v us Q I2 r1 r2 q2
end
def XQ (X:Cx) (id:String) (r:V->List V->Hp->VK->zm):zm:=
 ∀ (pins) (s) (σ:St) (H) (x) (xs) (v) (us) (Q),Inv X pins σ H s->RelV x v->Vals xs us->r x xs H Q ->
  wpAny zi X.A (call (.builtin id) (v::us)) (EP X pins σ Q) X.xe s
theorem Vals.one (h:Vals [x] us):∃ u,us=[u] /\ RelV x u:=by
 cases h with|cons r t=>cases t;show#[_,rfl,r]
theorem Vals.two (h:Vals [x,y] us):∃ u v,us=[u,v] /\ RelV x u /\ RelV y v:=by
 cases h with|cons r t=>let#[v,rfl,q]:=Vals.one t;show#[_,_,rfl,r,q]
theorem SO {α:Type}{r:α->α->zm}{l:List α}(h:l.length<2):l.Pairwise r:=by
 rcases l with _|⟨x,_|_⟩
 .show .nil
 .show List.pairwise_singleton ..
 .show absurd h zg
theorem Vals.eraseIdx:∀ {xs}{us} (i),Vals xs us->Vals (xs.eraseIdx i) (us.eraseIdx i)
 |_,_,_,.nil=>.nil
 |_,_,0,.cons _ t=>t
 |_,_,i+1,.cons r t=>.cons r<|Vals.eraseIdx i t
theorem Vals.reverse (h:Vals xs us):Vals xs.reverse us.reverse:=by
 induction h with
 |nil=>show .nil
 |cons r t ih=>rw[II,II];show Vals.append ih<|.cons r .nil
theorem Vals.rep (h:Vals xs us):∀ k,Vals (List.replicate k xs).flatten (List.replicate k us).flatten
 |0=>.nil
 | k+1=>by
   show Vals.append h<|Vals.rep h k
theorem Cc {α:Type}:∀ (l:List α) (i),(l.eraseIdx i).length<=l.length
 |[],_=>aC _
 |_::_,0=>qW _
 |_::r,i+1=>WD<|Cc r i
theorem Cd (its):∀ (k) (acc:List ay),
 List.foldl (λx1 x2=>x1++x2) acc.toArray (List.replicate k its.toArray)=(acc++(List.replicate k its).flatten).toArray
 |0,acc=>by simp
 | k+1,acc=>by
   have e:acc.toArray++its.toArray=(acc++its).toArray:=by simp
   have e2:(acc++its)++(List.replicate k its).flatten=acc++(List.replicate (k+1) its).flatten:=by
    rw[WJ,aaz,nO]
   rw[<-e2,<-Cd its k _,<-e,WJ,IJ]

theorem Inv.KJ {its:List ay}(I:Inv X pins σ H s) (hH:H l=ae (.lst xs))
 (e:s.heap.get? l=ae { cls:=.type "list",data:=.seq its.toArray n }) (hf:f its.toArray=tU.toArray) (hv:Vals ys tU) (hz:ys.length<=sizeLine) :
 Inv X pins σ (upd H l<|.lst ys) { s with heap:=s.heap.update l (Obj.mapSeq f),toks:=t' }:=by
 have q:=PySem.IsL.update e f;rw[hf]at q;show I.write (by rw[hH];show trivial) (.inl zc) (λb' u hb hu=>(I0 s.heap _<|Ne.symm hb).trans hu) #[_,q]<|#[hz,tU,_,hv,q]
theorem Inv.acp (I:Inv X pins σ H s) (hv:Vals ys its) (hz:ys.length<=sizeLine) :
 Inv X pins σ (upd H s.heap.objs.size<|.lst ys) { s with heap:=s.heap.push { cls:=.type "list",data:=.seq its.toArray },toks:=t' }:=
 I.laid (λ_ _ q=>aU _ q) (aC _) #[hz,its,0,hv,bF _ zc]
theorem Inv.fresh (I:Inv X pins σ H s):H s.heap.objs.size=ag:=I.aB.fresh<|aC _
theorem Inv.vL (I:Inv X pins σ H s) (hH:H l=ae (.lst xs)):xs.length<=sizeLine /\ ∃ (its:List ay) (n:Nat),Vals xs its /\ xs.length=its.length /\ s.heap.get? l=ae { cls:=.type "list",data:=.seq its.toArray n }:=by
 let#[z,its,n,r,e]:=I.aB l _ hH;show#[z,its,n,r,r.length,e]
theorem acq (h:n<=sizeLine):Builtin.List.listTooLong n=af:=by
 show decide_eq_false za

def acr:V->List V->Hp->VK->zm:=λx vs H Q=>∃ l xs y,x=.ref l /\ vs=[y] /\ H l=ae (.lst xs) /\ xs.length<sizeLine /\ Q .az (upd H l<|.lst<|xs++[y])
theorem Ce:XQ X "list.append" acr:=by
 intro pins s σ H x vs v us Q I rx rv h;let#[l,xs,y,rfl,rfl,hH,hz,q]:=h;cases rx;let#[u,rfl,ru]:=rv.one;let#[z,its,n,r,hl,e]:=I.vL hH;refine xM F.slot_list_append #[_,e,rfl] F.entry_list_append (F.args_list_append_2 _ _) (PySem.list_append l its.toArray n u (by rw[bX];lia)) #[e,?_];refine#[.az,_,I.KJ hH e zg (r.append<|.cons ru .nil) ?_,rfl,q];rw[cW,aaA];lia
def acs:V->List V->Hp->VK->zm:=λx vs H Q=>∃ l b xs zs,x=.ref l /\ vs=[.ref b] /\ H l=ae (.lst xs) /\ H b=ae (.lst zs) /\ xs.length+zs.length<=sizeLine /\ Q .az (upd H l<|.lst<|xs++zs)
theorem Lc:XQ X "list.extend" acs:=by
 intro pins s σ H x vs v us Q I rx rv h;let#[l,b,xs,zs,rfl,rfl,hH,hB,hz,q]:=h;cases rx;let#[u,rfl,ru]:=rv.one;cases ru;let#[z,its,n,r,hl,e]:=I.vL hH;let#[z2,tZ,n2,r2,sy,e2]:=I.vL hB;have sx:its.toArray.size+tZ.toArray.size<=sizeLine:=by rw[bX,bX];lia
 have XR:¬ (!its.toArray.isEmpty&&Builtin.List.listTooLong (its.toArray.size+tZ.toArray.size))=ah:=by
  rw[acq sx,Bool.and_false];show dM
 refine xM F.slot_list_extend #[_,e,rfl] F.entry_list_extend (F.args_list_extend_2 _ _)
  (ae2 l its.toArray n b tZ.toArray n2 XR za za) #[e,e2,?_]
 refine#[.az,_,I.KJ hH e zg (r.append r2) ?_,rfl,q];rw[cW];lia
def acu:V->List V->Hp->VK->zm:=λx vs H Q=>∃ l xs i k y,x=.ref l /\ vs=[.int i] /\ H l=ae (.lst xs) /\ -(2 ^ 63)<=i /\ i<2 ^ 63 /\ seqIndex? i xs.length=ae k /\ xs[k]?=ae y /\ Q y (upd H l<|.lst<|xs.eraseIdx k)
theorem Mm:XQ X "list.pop" acu:=by
 intro pins s σ H x vs v us Q I rx rv h;let#[l,xs,i,k,y,rfl,rfl,hH,h1,h2,hk,hy,q]:=h;cases rx;let#[u,rfl,ru]:=rv.one;let#[t,rfl]:=ru;let#[z,its,n,r,hl,e]:=I.vL hH;let#[w,hw,kN]:=r.get hy;refine xM F.slot_list_pop #[_,e,rfl] F.entry_list_pop (F.args_list_pop_2 _ _)
  (ae5 l its.toArray n i t k w (Wm h1 h2) (by rw[bX,<-hl];show hk) (by rw[<-qw];show hw) (by rw[bX];lia)) #[e,?_]
 refine#[y,_,I.KJ hH e ?_ (r.eraseIdx k) ?_,kN,q]
 .rw[List.eraseIdxIfInBounds_toArray]
 .have:=Cc xs k;lia
def acv:R2:=λx y H Q=>∃ l b xs zs,x=.ref l /\ y=.ref b /\ H l=ae (.lst xs) /\ H b=ae (.lst zs) /\ xs.length+zs.length<=sizeLine /\ ∀ p,H p=ag->Q (.ref p) (upd H p<|.lst<|xs++zs)
theorem SQ:cE X (binaryOp .Add) acv:=by
 intro pins s σ H x y v u Q I rx ry h;let#[l,b,xs,zs,rfl,rfl,hH,hB,hz,q]:=h;cases rx;cases ry;let#[z,its,n,r,hl,e]:=I.vL hH;let#[z2,tZ,n2,r2,sy,e2]:=I.vL hB;refine PySem.P.add_list e e2 ?_ (by rw[bX,bX];lia);have ea:its.toArray++tZ.toArray=(its++tZ).toArray:=by simp
 rw[ea];show#[.ref _,_,I.acp (r.append r2) (by rw[cW];lia),rfl,q _ I.fresh]
def acw:R2:=λx y H Q=>∃ l k xs,x=.ref l /\ y=.int k /\ H l=ae (.lst xs) /\ -(2 ^ 63)<=k /\ k<2 ^ 63 /\ xs.length*k.toNat<=sizeLine /\
 ∀ p,H p=ag->Q (.ref p) (upd H p<|.lst (List.replicate k.toNat xs).flatten)
theorem OF {α:Type}(xs:List α) (k):(List.replicate k xs).flatten.length=k*xs.length:=by
 induction k with
 |zero=>simp
 |succ k ih=>rw[WJ,aaz,cW,ih,aap,Nat.add_comm]
theorem SR:cE X (binaryOp .Mult) acw:=by
 intro pins s σ H x y v u Q I rx ry h;let#[l,k,xs,rfl,rfl,hH,h1,h2,hz,q]:=h;cases rx;let#[t,rfl]:=ry;let#[z,its,n,r,hl,e]:=I.vL hH;have hlen:its.toArray.size*k.toNat<=sizeLine:=by rw[bX,<-hl];show hz
 have af6:¬ its.toArray.size*k.toNat>(2 ^ 63-1) / 8:=by
  have:(sizeLine)<=(2 ^ 63-1) / 8:=by decide
  lia
 have af7:¬ (!Builtin.List.listFitsIndex k)=ah:=by
  rw[Wm h1 h2];show dM
 have XR:¬ Builtin.List.listTooLong (its.toArray.size*k.toNat)=ah:=by
  rw[acq hlen];show dM
 have af8:List.foldl (λx1 x2=>x1++x2) #[] (List.replicate (if its.toArray.isEmpty=ah then 0 else k.toNat) its.toArray)=(List.replicate k.toNat its).flatten.toArray:=by
  have f0:=λm=>by
   have:=Cd its m [];rw[kK]at this;show this
  rw[f0];cases its with
  |nil=>simp
  |cons a r'=>rw[if_neg zg]
 refine wpAny_binaryOp_repeat_ref zd #[_,e,rfl] (λs'=>Wl s' k t) noFill_list_mul F.fills_int_mul abp repeat_list F.slot_int_index.lookup
  (xM abp (Wl s k t) F.entry_int_rmul (F.args_int_rmul_2 _ _) (int___rmul___int_list k t l its.toArray n)
   #[e,rfl,#[_,e,rfl],xM F.slot_list_mul #[_,e,rfl] F.entry_list_mul (F.args_list_mul_2 _ _) (ae6 l its.toArray n k t af7 af6 XR) #[e,?_]])
 rw[af8];show#[.ref _,_,I.acp (r.rep k.toNat) (by rw[OF,Nat.mul_comm];show hz),rfl,q _ I.fresh]


end L2
namespace sC
open PySem.W PySem.Calls
theorem AD:∀ (ns) (vs),WellAll P h vs (ns.map WData.int)->IntsAre vs ns:=by
 intro ns;induction ns with
 |nil=>
   intro vs w;cases w;show .nil
 |cons n ns ih=>
   intro vs w;cases w with
   |cons a b=>
     cases a;show .cons _ _<|ih _ b
theorem Ld {l:OpenLaw}(hn:l.most=ae n)
 (KL:l.row.toRowW.claim.pre args=ah) (XS:WellAll P h vals args) :
 ∃ a vs ns,vals=[Value.ref a] /\ args=[WData.list<|ns.map WData.int] /\ h.get? a=ae { cls:=.type "list",data:=.seq vs.toArray } /\ IntsAre vs ns /\ ns.length<=n:=by
 have hc:l.pre.holds [] { args:=args }=ah:=(pre_splitW KL).2;let#[d,r,rfl,h1,h2]:=hasAllW_cons (pre_splitW KL).1;obtain rfl:=hasAllW_nil h2;let#[xs,rfl,h3]:=hasW_list h1;let#[ns,rfl]:=items_int h3;have hlen:ns.length<=n:=by
  have h4:(WTm.not<|.lt (.lit<|.int<|n)<|.len<|.arg 0).holds [] { args:=[.list<|ns.map .int] }=ah:=by
   have h4:=(holds_andW hc).1;rw[hn]at h4;show h4
  have h5:=condW_of h4<|w_not<|w_lt w_lit<|w_len_list<|w_arg zc;refine wu λq=>?_;first
   |(show absurd h5 (rfl))
   |(simp at h5;lia)
 cases XS with
 |cons w1 w2=>
   cases w2;cases w1 with
   |list ho Hd=>show#[_,_,ns,rfl,rfl,ho,AD ns _ Hd,hlen]
theorem Le (l:OpenLaw) (args):l.row.toRowW.claim.post args (.bool ah) args=ah:=
 postW_of
  (by first|rfl|decide|simp[WShape.armsAll])
  (w_eq_bool (w_res zc) w_lit) zc
theorem af9 {l:OpenLaw}
 (hn:l.most=ae n) (XT:d.params.defaults=[])
 (call:∀ (w) (s₀ s₁) (mg mb) (fa) (o) (pm cd doc) (a) (vs) (ns),
  Ground q loose [] XP w s₀ mg mb s₁.heap->YP w s₁.heap ->
  s₁.heap.get? fa=ae o->o.data=.func (docDef d.name d.params d.body d.scope pm cd doc)->s₁.heap.CodeRec cd d.name->mg d.name=ae (.ref fa) ->
  s₁.heap.get? a=ae { cls:=.type "list",data:=.seq vs.toArray }->IntsAre vs ns->ns.length<=n->s₁.gens=#[] ->
  codeAny (model l.prog w) callerA (.call (.ref fa) #[[.ref a],[]]) (λr s'=>r=.ok (.ret<|.bool ah) /\ OldK s₁.heap s'.heap /\ s'.os=s₁.os /\ AllBare s'.gens) s₁) :
 WalkO q loose XP YP l.row.toRowW d [] (λf vs=>PySem.call f vs):=by
 intro w s₀ s₁ mg mb G Y fa o pm cd doc dV kV ho hd pD hD hmg hg args vals as KL ajB ajC XS ajD;obtain rfl:dV=.none:=Dflts.none hD XT;obtain rfl:kV=.none:=Dflts.noKw hD;let#[a,vs,ns,rfl,rfl,KN,hints,hlen]:=Ld hn KL XS;refine enter_call<|xK (call w s₀ s₁ mg mb fa o pm cd doc a vs ns G Y ho (fd_plain hd) pD hmg KN hints hlen hg) λr s' hq=>?_;let#[rfl,h2,h3,h4]:=hq;show#[.inl #[.bool ah,.bool ah,[],rfl,λ_=>rfl,.bool ah,Le l _,λ_=>#[List.Pairwise.nil,λ_ hm=>(nomatch hm)]],h2,h3,h4]

noncomputable def KO (h:aT):aT:={ h with objs:=#[] }
theorem aga (h) (b):(KO h).get? b=ag:=by
 cases e:(KO h).get? b with
 |none=>rfl
 |some o=>show absurd (bq e)<|IC _
noncomputable def ledger (h:aT) (L d:aq):List (aq×Obj):=(List.range h.objs.size).filterMap λa=>if a=L \/ a=d then ag else (h.get? a).map λo=>(a,o)
theorem KR:(a,o)∈ledger h L d ↔ a≠L /\ a≠d /\ h.get? a=ae o:=by
 unfold ledger;rw[List.mem_filterMap];constructor
 .rintro⟨b,_,e⟩;split at e
  .cases e
  .ext hb;let#[o',ho,e']:=Option.map_eq_some_iff.mp e;cases e';show#[λq=>hb<|.inl q,λq=>hb<|.inr q,ho]
 .rintro⟨n1,n2,ho⟩;refine#[a,List.mem_range.mpr<|bq ho,?_];rw[if_neg λq=>q.elim n1 n2,ho]<;>rfl
theorem agb (n:h.Ns L m):Fr (KO h) L h m:=
 #[n,λb o e=>(by cases e),dJ _]
end sC
namespace L2
theorem Cg:∀ {vs}{ns},IntsAre vs ns->Vals (ns.map V.int) vs
 |_,_,.nil=>.nil
 |_,_,.cons n t h=>.cons #[t,rfl]<|Cg h
noncomputable abbrev ajE {K:PySem.W.Frag}{h}(_:K.In h):PySem.W.Frag:=K
noncomputable def jc (s:dW):Arguments:=match s with
 |.FunctionDef _ a _ _ _ _ _ _ _ _=>a
 |_=>{ posonlyargs:=[],args:=[],vararg:=ag,kwonlyargs:=[],kw_defaults:=[],kwarg:=ag,defaults:=[] }
noncomputable def iB (s:dW):List dW:=match s with
 |.FunctionDef _ _ b _ _ _ _ _ _ _=>b
 |_=>[]
noncomputable def fQ (s:dW):kL:=match s with
 |.FunctionDef _ _ _ _ _ _ sc _ _ _=>sc
 |_=>{ kind:=.function,names:=[],isGenerator:=af,isCoroutine:=af }
abbrev XU:yx:=λ_ _ _ _ _ _=>False
noncomputable abbrev E0:XK:=λ_ _ _=>False
structure qD (K:PySem.W.Frag) (x qual:Str) (st:dW) (f:aq) (fd:FuncData):zm where
 ex:∃ (oc:ay) (od:Option aq) (kV doc pm:ay) (an:Option aq) (eD ct:ay) (sr:Array<|Option ay),
  fd=PySem.W.fnOf x qual (jc st) (iB st) (fQ st) .none kV doc pm an eD ct /\ K.lookup f=ae #[oc,od,.func fd,sr] /\ PySem.W.codeIn K eD qual=ah
 kp:PySem.W.keepIn K (.ref f)=ah
section
variable {K:PySem.W.Frag}
theorem qD.binds {st}(F:qD K x qual st f fd)
 (h:∀ (kV doc pm) (an) (eD ct) (us),us.length=ps.length->bindArgs (PySem.W.fnOf x qual (jc st) (iB st) (fQ st) .none kV doc pm an eD ct) #[us,[]]=pure (ps.zip us)):Binds K fd ps []:=by
 let#[oc,od,kV,doc,pm,an,eD,ct,sr,rfl,lk,pD]:=F.ex;show .all<|h kV doc pm an eD ct
theorem Mn {st}{kV}(l:K.lookup f=ae #[oc,od,.func<|PySem.W.fnOf x qual (jc st) (iB st) (fQ st) .none kV doc pm an eD ct,sr])
 (c:PySem.W.codeIn K eD qual=ah) (k:PySem.W.keepIn K (.ref f)=ah):qD K x qual st f (PySem.W.fnOf x qual (jc st) (iB st) (fQ st) .none kV doc pm an eD ct):=#[#[oc,od,kV,doc,pm,an,eD,ct,sr,rfl,l,c],k]
end

noncomputable def kO (cells:List<|Str×aq):List (Str×NameKind)->List (Str×aq)->List (Str×aq)
 |[],acc=>acc
 |(n,k)::r,acc=>kO cells r (if k==.free then (match cells.lookup n with|some c=>(n,c)::acc|none=>acc) else acc)
theorem jJ:∀ (names) (acc),(∀ y∈names,y.2=.free->∃ c,env.cells.lookup y.1=ae c) ->
 (forIn names acc λ(x) (r)=>(match x with
  |(name,kind)=>if (kind==NameKind.free)=ah then (do let a <-cellOf env name;pure (ForInStep.yield ((name,a)::r))) else pure (ForInStep.yield r)))=(pure (kO env.cells names acc):Sem _)
 |[],acc,_=>rfl
 | (n,k)::r,acc,h=>by
   rw[xZ];by_cases hk:k=.free
   .subst hk;let#[c,e]:=h (n,.free) bA zc;have e':=e;have e1:cellOf env n=pure c:=by unfold cellOf;rw[e']
    dsimp only;rw[if_pos zd,e1];have z:kO env.cells ((n,NameKind.free)::r) acc=kO env.cells r ((n,c)::acc):=by
     change kO env.cells r _=_;rw[if_pos zd,e']
    rw[z,<-(jJ r _ λy hy=>h y<|a8 _ hy)];rfl
   .dsimp only;have hb:(k==NameKind.free)=af:=by simpa using hk
    rw[if_neg (by rw[hb];decide)];have z:kO env.cells ((n,k)::r) acc=kO env.cells r acc:=by
     change kO env.cells r _=_;rw[if_neg (by rw[hb];decide)]
    rw[z,<-(jJ r acc λy hy=>h y<|a8 _ hy)];rfl
theorem DD:∀ (names) (acc),(∀ x c,acc.lookup x=ae c->cells.lookup x=ae c)->∀ x c,(kO cells names acc).lookup x=ae c->cells.lookup x=ae c
 |[],_,h=>h
 | (n,k)::r,acc,h=>by
   refine DD r _ ?_;intro x c e;by_cases hk:(k==NameKind.free)=ah
   .rw[if_pos hk]at e;cases q:cells.lookup n with
    |none=>rw[q]at e;show h x c e
    |some a=>
      rw[q]at e;have e':=e;rw[nu]at e';cases hx:x==n with
      |true=>rw[hx]at e';rw[eq_of_beq hx,q];show e'
      |false=>rw[hx]at e';show h x c e'
   .rw[if_neg hk]at e;show h x c e
theorem DH:∀ (names) (acc) (x),((∃ c,acc.lookup x=ae c) \/ ((x,NameKind.free)∈names /\ ∃ c,cells.lookup x=ae c))->∃ c,(kO cells names acc).lookup x=ae c
 |[],_,x,h=>h.elim id λz=>nomatch z.1
 | (n,k)::r,acc,x,h=>by
   refine DH r _ x ?_;rcases h with⟨c,e⟩|⟨hm,c,e⟩
   .left;by_cases hk:(k==NameKind.free)=ah
    .rw[if_pos hk];cases q:cells.lookup n with
     |none=>show#[c,e]
     |some a=>
       rw[nu];cases hx:x==n with
       |true=>show#[a,rfl]
       |false=>show#[c,e]
    .rw[if_neg hk];show#[c,e]
   .rcases ba.mp hm with z|z
    .have z1:=congrArg Prod.fst z;have z2:NameKind.free=k:=congrArg Prod.snd z;subst z1;subst z2;left;rw[if_pos zd,e];show#[c,by rw[nu,beq_self_eq_true]]
    .show .inr #[z,c,e]
theorem mN {env:Env}:∀ (names:List<|Str×NameKind) (x) (k'),
 (names.map λ(n,k)=>if (k==NameKind.free&&env.scope.kind==.function&&env.kindOf n==ae .cell) then (n,NameKind.cell) else (n,k)).lookup x=ae k' ->
 ∃ k,names.lookup x=ae k /\ (k'=k \/ (k=.free /\ k'=.cell))
 |[],_,_,h=>by simp at h
 | (n,k)::r,x,k',h=>by
   have h':List.lookup x ((if (k==NameKind.free&&env.scope.kind==.function&&env.kindOf n==ae .cell)=ah then (n,NameKind.cell) else (n,k))::(r.map λ(n,k)=>if (k==NameKind.free&&env.scope.kind==.function&&env.kindOf n==ae .cell) then (n,NameKind.cell) else (n,k)))=ae k':=h;by_cases hc:(k==NameKind.free&&env.scope.kind==.function&&env.kindOf n==ae .cell)=ah
   .rw[if_pos hc,nu]at h';rw[nu];cases hx:x==n with
    |true=>
      rw[hx]at h';have hk:k=.free:=by
       cases hq:(k==NameKind.free) with
       |true=>show eq_of_beq hq
       |false=>rw[hq]at hc;simp at hc
      show#[k,rfl,.inr #[hk,(Option.some.inj h').symm]]
    |false=>rw[hx]at h';show mN r x k' h'
   .rw[if_neg hc,nu]at h';rw[nu];cases hx:x==n with
    |true=>rw[hx]at h';show#[k,rfl,.inl (Option.some.inj h').symm]
    |false=>rw[hx]at h';show mN r x k' h'
theorem jK {env:Env}:∀ (names:List<|Str×NameKind) (x:Str),names.lookup x=ae .free ->
 (names.map λ(n,k)=>if (k==NameKind.free&&env.scope.kind==.function&&env.kindOf n==ae .cell) then (n,NameKind.cell) else (n,k)).lookup x=ae .cell \/
 (names.map λ(n,k)=>if (k==NameKind.free&&env.scope.kind==.function&&env.kindOf n==ae .cell) then (n,NameKind.cell) else (n,k)).lookup x=ae .free
 |[],_,h=>by simp at h
 | (n,k)::r,x,h=>by
   change List.lookup x ((if (k==NameKind.free&&env.scope.kind==.function&&env.kindOf n==ae .cell)=ah then (n,NameKind.cell) else (n,k))::_)=_ \/ List.lookup x ((if (k==NameKind.free&&env.scope.kind==.function&&env.kindOf n==ae .cell)=ah then (n,NameKind.cell) else (n,k))::_)=_;rw[nu]at h;by_cases hc:(k==NameKind.free&&env.scope.kind==.function&&env.kindOf n==ae .cell)=ah
   .rw[if_pos hc,nu];cases hx:x==n with
    |true=>show .inl zc
    |false=>rw[hx]at h;show jK r x h
   .rw[if_neg hc,nu];cases hx:x==n with
    |true=>rw[hx]at h;show .inr h
    |false=>rw[hx]at h;show jK r x h
theorem iu:∀ (names) (n) (acc),cellsFrom n names acc=cellsFrom n names []++acc
 |[],_,_=>rfl
 | (x,k)::r,n,acc=>by
   unfold cellsFrom;split
   .rw[iu r _ _,iu r _ [(x,n)],nO];rfl
   .show iu r n acc
theorem oV:∀ (names) (n) {x}{c},(x,c)∈cellsFrom n names []->(x,NameKind.cell)∈names
 |[],_,_,_,h=>nomatch h
 | (y,k)::r,n,x,c,h=>by
   unfold cellsFrom at h;split at h
   .ext hk;rw[iu]at h;rcases List.mem_append.mp h with h|h
    .show a8 _<|oV r _ h
    .cases di.mp h;rw[<-eq_of_beq hk];show bA
   .show a8 _<|oV r _ h
theorem AZ {α:Type}:∀ {l:List (Str×α)}{x}{a b},(l.map (·.1)).Nodup->(x,a)∈l->(x,b)∈l->a=b
 | (y,c)::l,x,a,b,h,ha,hb=>by
   rw[aM,rY]at h;rcases ba.mp ha with e|ha<;>rcases ba.mp hb with e'|hb
   .rw[<-e']at e;show(Prod.mk.inj e).2
   .show absurd (a9.mpr #[_,hb,(Prod.mk.inj e).1]) h.1
   .show absurd (a9.mpr #[_,ha,(Prod.mk.inj e').1]) h.1
   .show AZ h.2 ha hb
theorem jL {α:Type}:∀ {l m:List (Str×α)},(l++m).lookup x=match l.lookup x with|some a=>ae a|none=>m.lookup x
 |[],m=>rfl
 | (y,a)::l,m=>by
   rw[IK,nu,nu];cases x==y with
   |true=>rfl
   |false=>show jL
theorem FY
 (h:Q { scope:=scope,locals:=s.heap.objs.size,globals:=globals,cells:=cellsFrom (s.heap.objs.size+1) scope.names cl,qual:=qual,func:=ag,code:=env.code,frame:=env.frame,builtins:=env.builtins }
  { s with heap:=pushCells (s.heap.push { cls:=.type "dict",data:=.dict #[] }) scope.names }) :
 wpAny M A (newFunctionEnv scope globals cl [] qual ag .none<|ae env) Q E s:=by
 refine ai<|Z7<|ai<|wpAny_layCells _ (λname kind cells=>by cases hk:kind==NameKind.cell<;>simp[hk]) _ _ _ _ ?_;rw[vA ..];show ai<|ao<|ao h
noncomputable abbrev Cx.comp (X:Cx) (N:List Str) (scope:kL) (cl:List<|Str×aq) (s:aN) (H:Hp) (C:aq) (fp:List aq):Cx:=
 { X with N:=N,s₀:=s,H₀:=H,env:=compEnvC scope cl C X.env,outer:=X.stack,stack:=X.stack,ex:=fp,fn:=λx=>decide (scope.names.lookup x=ae .cell),pn:=[],xe:=λ_ _=>False }
structure t9 (X:Cx) (N:List Str) (src:List<|Option Nat) (scope:kL):zm where
 kind:scope.kind=.function
 nk:(scope.names.map (·.1)).Nodup
 names:∀ y∈scope.names,y.2=.local->scope.names.lookup y.1=ae .local
 has:∀ y∈scope.names,y.2=.free->X.env.kindOf y.1=ae .cell \/ X.env.kindOf y.1=ae .free
 agc:src.length=N.length
 agd:∀ (j i:Nat) (x:Str),src[j]?=ae (ae i)->N[j]?=ae x->X.N[i]?=ae x /\ scope.names.lookup x=ae .free
noncomputable def vM (src:List<|Option Nat) (σ:St):St:=src.map λo=>o.bind λi=>(σ[i]?).bind id
def PF (X:Cx) (ifs:List aD) (t:TT):zm:=
 ∀ (pins) (s) (σ:St) (H) (Q),Inv X pins σ H s->t σ H Q ->
  wpAny zi X.A (forIn ifs ah λc r=>if r=ah then do let ok <-isTrue c X.env (eval c X.env);pure (ForInStep.yield ok) else pure (ForInStep.yield r)) (TP X pins σ Q) X.xe s
theorem SS:PF X [] (λ_ H Q=>Q ah H):=λ_ _ _ H _ I h=>wpAny_tests_nil #[H,I,h]
theorem SU (h:PT X c t):PF X [c] t:=λpins s σ H Q I hw=>wpAny_tests_one<|h pins s σ H Q I hw
def acx (J:It) (g:TG) (tf:TT) (te:TE) (D:aq) (Q:VK) (σ0:St) (H0:Hp):zm:=
 ∃ W:Nat->Nat->St->Hp->zm,(∃ m,W 0 m σ0 H0) /\ ∀ i m σ' H',W i m σ' H' ->
  (J.stop i H' /\ Q (.ref D) H') \/ (J.go i H' /\ ∃ N:St->Hp->zm,(∀ σ2 H2,N σ2 H2->∃ m',m'<m /\ W (i+1) m' σ2 H2) /\ ∀ x H2,J.EZ i H' x H2->g x σ' H2 λσ2 H3=>tf σ2 H3 λb H4=>
   if b=ah then te σ2 H4 λy H5=>∃ ys,H5 D=ae (.lst ys) /\ ys.length<sizeLine /\ N σ2 (upd H5 D<|.lst<|ys++[y]) else N σ2 H4)
def He (src:List<|Option Nat) (wi:TI) (g:TG) (tf:TT) (te:TE):TE:=λσ H Q=>wi σ H λJ H1=>∀ D,H1 D=ag->acx J g tf te D Q (vM src σ) (upd H1 D<|.lst [])

noncomputable abbrev yB (P:eR) (w:cQ) (A:kU) (env:Env) (R:Result->aN->zm):ay->aN->zm:=
 notedBy (model P w) A env λx z=>R (.error x) z
noncomputable abbrev age (ifs:List aD) (env:Env):Sem Bool:=
 forIn ifs ah λc r=>if r=ah then do let ok <-isTrue c env (eval c env);pure (ForInStep.yield ok) else pure (ForInStep.yield r)
theorem CQ
 (J:Nat->aN->zm) (N:ay->Nat->aN->zm)
 (hN:∀ v n z,N v n z->wpAny zj A (letOwnedTupleGo tg it v) (λ_ z1=>
  wpAny zj A (assign tg env v) (λ_ z2=>
  wpAny zj A (age ifs env) (λb z3=>
   if b=ah then wpAny zj A (eval elt env) (λy z4=>
    wpAny zj A (call (.builtin "list.append") [acc,y])
     (λ_ z5=>∃ k,k<n /\ J k z5) (yB prog w A env R) z4) (yB prog w A env R) z3
   else ∃ k,k<n /\ J k z3)
   (yB prog w A env R) z2) (yB prog w A env R) z1) (yB prog w A env R) z)
 (go:∀ n z,J n z->wpAny zj A (pyNext it)
  (λr z1=>match r with|none=>R (.ok .next) z1|some v=>N v n z1) (yB prog w A env R) z)
 (n) (h:J n s) :
 codeAny zj A (.compLoop (.ListComp elt [#[tg,iter,ifs,0]] scope pos) 0 it acc env) R s:=by
 refine codeAny_loop zc J (λk z hz=>?_) n h;refine wpAny_noted ?_;rw[compTurn_list];refine ai<|xH<|ai ?_;refine nM (go k z hz) (λr z1 h1=>?_) λ_ _ q=>q;cases r with
 |none=>show ao h1
 |some v=>
   refine ai<|nM (hN v k z1 h1) (λ_ z2 h2=>ai ?_) λ_ _ q=>q;refine nM h2 (λ_ z3 h3=>ai ?_) λ_ _ q=>q;refine nM h3 (λb z4 h4=>?_) λ_ _ q=>q;cases b with
   |false=>show ao #[rfl,h4]
   |true=>
     show ai<|ai<|nM h4 (λy z5 h5=>ai<|nM h5 (λ_ z6 h6=>ao<|ao #[rfl,h6]) λ_ _ q=>q) λ_ _ q=>q

theorem t9.cells (S:t9 X N src scope) (ok:X.Ok):∀ y∈scope.names,y.2=.free->∃ c,X.env.cells.lookup y.1=ae c:=
 λy hy hf=>ok.has y.1<|S.has y hy hf
theorem DI:∀ (names) (acc),(x,c)∉acc->(x,c)∈kO cells names acc->(x,NameKind.free)∈names
 |[],_,h,e=>absurd e h
 | (n,k)::r,acc,h,e=>by
   by_cases hx:x=n /\ k=.free
   .let#[rfl,rfl]:=hx;show bA
   .refine a8 _<|DI r _ ?_ e;by_cases hk:(k==NameKind.free)=ah
    .rw[if_pos hk];cases q:cells.lookup n with
     |none=>show h
     |some a=>
       intro z;rcases ba.mp z with z|z
       .show hx #[(Prod.mk.inj z).1,eq_of_beq hk]
       .show h z
    .rw[if_neg hk];show h
theorem Mo
 (S:t9 X N src scope) (I:Inv X pins σ H s) (XW:∀ b∈fp,rq X pins H b /\ b<s.heap.objs.size) (hh:s'={ s with heap:=pushCells (s.heap.push { cls:=.type "dict",data:=.dict #[] }) scope.names }) :
 Inv (X.comp N scope (cellsFrom (s.heap.objs.size+1) scope.names<|kO X.env.cells scope.names []) s H s.heap.objs.size fp) [] (vM src σ) H s':=by
 subst hh;have hk:∀ b o,s.heap.get? b=ae o->(pushCells (s.heap.push { cls:=.type "dict",data:=.dict #[] }) scope.names).get? b=ae o:=λb o e=>Wn _ _ b o<|aU _ e;have ok:=cellsFrom_ok scope.names (s.heap.push { cls:=.type "dict",data:=.dict #[] }) _ [] #[λ_ _ hm=>(nomatch hm),List.Pairwise.nil] (by rw[vA];show aC _);rw[vA]at ok;have split:∀ x c,(cellsFrom _ scope.names<|kO X.env.cells scope.names []).lookup x=ae c->(cellsFrom _ scope.names []).lookup x=ae c \/ (kO X.env.cells scope.names []).lookup x=ae c:=λx c e=>by
  rw[iu,jL]at e;cases q:(cellsFrom (s.heap.objs.size+1) scope.names []).lookup x with
  |some a=>rw[q]at e;show .inl e
  |none=>rw[q]at e;show .inr e
 have own:∀ x c,(cellsFrom _ scope.names []).lookup x=ae c->s.heap.objs.size<c /\ (pushCells _ scope.names).IsCell c ag:=λx c e=>by
  let#[a,b]:=ok.empty x c<|pM e;show#[b,a]
 have acy:∀ x,scope.names.lookup x=ae .free->(cellsFrom _ scope.names<|kO X.env.cells scope.names []).lookup x=(kO X.env.cells scope.names []).lookup x:=λx e=>by
  rw[iu,jL];cases q:(cellsFrom (s.heap.objs.size+1) scope.names []).lookup x with
  |some a=>show absurd (AZ S.nk (pM e)<|oV _ _<|pM q) zd
  |none=>rfl
 have low:∀ x c,X.env.cells.lookup x=ae c->c<s.heap.objs.size:=λx c e=>by
  let#[v,o,ho,_]:=I.cell x c e;show bq ho
 have sub:=DD (cells:=X.env.cells) scope.names [] (λx c e=>by simp at e);have agf:∀ x,((relabel scope X.env).names.lookup x=ae .cell \/ (relabel scope X.env).names.lookup x=ae .free)->scope.names.lookup x=ae .free \/ scope.names.lookup x=ae .cell:=λx hx=>by
  have go:∀ k',(k'=NameKind.cell \/ k'=NameKind.free)->(relabel scope X.env).names.lookup x=ae k'->scope.names.lookup x=ae .free \/ scope.names.lookup x=ae .cell:=λk' uL e=>by
   let#[k,e1,q]:=mN scope.names x k' e;rcases q with q|⟨q,_⟩
   .subst q;rcases uL with z|z
    .subst z;show .inr e1
    .subst z;show .inl e1
   .subst q;show .inl e1
  show hx.elim (go _<|.inl zc)<|go _<|.inr zc
 have acz:∀ x,scope.names.lookup x=ae .free->∃ c,(kO X.env.cells scope.names []).lookup x=ae c /\ X.env.cells.lookup x=ae c:=λx e=>by
  have hm:=pM e;let#[c,e1]:=DH scope.names [] x<|.inr #[hm,S.cells I.ok (x,.free) hm zc];show#[c,e1,sub x c e1]
 refine#[#[I.ok.mod,(S.kind),I.ok.glob,I.ok.blt,aC _,λx y c e1 e2=>?_,λx hx=>?_,λx c e=>?_,I.ok.hd,I.ok.frames,.inl zc,λb hb=>?_,I.bs,cj I.ok.wJ I.sz,λb o e hb=>?_,λb hb=>?_,I.stack,I.abP],
  rfl,I.bare,Un.kept hk,#[_,((Heap.Ns.new s.heap<|.type "dict").keeps<|Wn _ _),λj x v e1 e2 e3=>?_],λx c e=>?_,I.aB.fresh<|aC _,λx c e=>?_,λp hp=>absurd (hp) zg,I.aB.kept hk,?_]
 .rcases split x c e1 with q1|q1<;>rcases split y c e2 with q2|q2
  .show Z4 ok.apart (pM q1)<|pM q2
  .show absurd (ID (own x c q1).1<|low y c<|sub y c q2)<|kI _
  .show absurd (ID (own y c q2).1<|low x c<|sub x c q1)<|kI _
  .show I.ok.inj x y c (sub x c q1)<|sub y c q2
 .rcases agf x hx with k|k
  .let#[c,e1,_]:=acz x k;show#[c,(acy x k).trans e1]
  .let#[c,e1]:=AV k;refine#[c,?_];change (cellsFrom (s.heap.objs.size+1) scope.names<|kO X.env.cells scope.names []).lookup x=ae c;rw[iu,jL,e1]
 .intro hl;rcases split x c hl with q|q
  .show nZ (own x c q).1
  .show absurd (AZ S.nk (pM<|of_decide_eq_true e)<|DI _ _ zg<|pM q) zd
 .let#[f,hl]:=XW b hb;refine#[cw hl,λx c e=>?_];rcases split x c e with q|q
  .show wq<|ID hl (own x c q).1
  .show f.2.2.2.2.1 x c<|sub x c q
 .let#[f,_]:=XW b hb;let#[_,_,_,f4,_]:=f;rcases f4 with z|z
  .show I.ok.ET b o e z
  .show absurd (kA (bq (I.ok.bs b o e).1) z)<|kI _
 .let#[f,_]:=XW b hb;intro hz;rcases ba.mp (I.Xq b hz) with e|e
  .show f.2.1 e
  .show f.2.2.1 e
 .have hs:∃ i,src[j]?=ae (ae i) /\ σ[i]?=ae (ae v):=by
   have uM:(src.map λo=>o.bind λi=>(σ[i]?).bind id)[j]?=ae (ae v):=e2;rw[kJ]at uM;cases q:src[j]? with
   |none=>rw[q]at uM;cases uM
   |some o=>
     rw[q]at uM;cases o with
     |none=>cases uM
     |some i=>
       refine#[i,rfl,?_];have KS:(σ[i]?).bind id=ae v:=Option.some.inj uM;cases z:σ[i]? with
       |none=>rw[z]at KS;cases KS
       |some o'=>
         rw[z]at KS;have:o'=ae v:=KS;rw[this]
  let#[i,agg,hσ]:=hs;let#[hN,KU]:=S.agd j i x agg e1;have acA:=S.has (x,.free) (pM KU) zc;let#[m,_,hl]:=I.loc;let#[u,r,lk]:=hl i x v hN hσ<|.inr acA;refine#[u,r,?_];rcases lk with⟨k,_⟩|⟨_,c,ec,vE⟩
  .rcases acA with z|z
   .rw[z]at k;cases k
   .rw[z]at k;cases k
  .let#[c',wU,uM]:=acz x KU;have:c'=c:=by rw[ec]at uM;show(Option.some.inj uM).symm
   subst this;refine .inr #[(jK scope.names x KU),c',(acy x KU).trans wU,?_]
   .let#[o,ho,hd]:=vE;show#[o,hk _ _ ho,hd]
 .rcases split x c e with q|q
  .show#[ag,(own x c q).2]
  .let#[v,o,ho,hd]:=I.cell x c<|sub x c q;show#[v,o,hk _ _ ho,hd]
 .rcases split x c e with q|q
  .show I.aB.fresh<|nZ (own x c q).1
  .show I.rn x c<|sub x c q
 .change (vM src σ).length=N.length;unfold vM;rw[aK];show S.agc
theorem Ch
 (hc:X.calm=ah) (S:t9 X N src scope) (hi:PI X tg iter wi)
 (hg:∀ cl s H C fp,PG (X.comp N scope cl s H C fp) tg g) (hf:∀ cl s H C fp,PF (X.comp N scope cl s H C fp) ifs tf) (he:∀ cl s H C fp,PE (X.comp N scope cl s H C fp) elt te)
 (hs:∀ x,foldedSetIterable iter X.env x=pure x) (I:Inv X pins σ H s) (h:He src wi g tf te σ H Q)
 (agh:∀ (D C:aq) (s3 s6) (H3 H5) m,Inv X pins σ H3 s3->s3.heap.objs.size=C->H5 C=ag->s6.heap.Ns C m->(∀ h',Heap.SameBut C s6.heap h'->Inv X pins σ H5 { s6 with heap:=h' })->Q (.ref D) H5->∀ {r},compPost zi X.A X.xe use Q' (.ref D) C (.ok r) s6) :
 wpAny zi X.A (comprehension (.ListComp elt [#[tg,iter,ifs,0]] scope pos) scope X.env (firstIterPos [#[tg,iter,ifs,0]] pos) (newList []) af (firstIter [#[tg,iter,ifs,0]] X.env) use) Q' X.xe s:=by
 refine wpAny_comprehension_free (g:=#[tg,iter,ifs,0]) (gs:=[]) zc hs ((λh=>by
  have q:=jJ scope.names [] h;unfold closureFor;first
   |show q
   |(dsimp only;rw[q];rfl)
   |(rfl))<|S.cells I.ok) S.kind S.names<|dG (hi pins s σ H _ I h) λxv s1 h1=>dG h1 λXy s2 h2=>?_
 let#[it,fp,tn,J,H2,e,I2,T,Kx,f2,hW]:=h2;subst e;refine eG ?_;generalize hD:s2.heap.objs.size=D;have agi:H2 D=ag:=I2.aB.fresh<|EC hD;have I3:Inv X pins σ (upd H2 D<|.lst []) { s2 with heap:=s2.heap.push { cls:=.type "list",dict:=ag,data:=.seq ([]:List ay).toArray } }:=by
  subst hD;show I2.laid (t':=s2.toks) (λb u e=>aU _ e) (aC _) #[dJ _,[],0,.nil,bF _ zc]
 let#[W,#[m0,w0],turn]:=hW D agi;have up:∀ b o,s2.heap.get? b=ae o->(s2.heap.push { cls:=.type "list",dict:=ag,data:=.seq ([]:List ay).toArray }).get? b=ae o:=λb u e=>aU _ e;have agj:=T.obj _ _ Kx;have E4:tn 0 (s2.heap.push { cls:=.type "list",dict:=ag,data:=.seq ([]:List ay).toArray }):=T.keep _ _ _ Kx λb _ o e=>up b o e;have acB:∀ b∈fp,b<s2.heap.objs.size:=λb hb=>by let#[o,e,_]:=agj b hb;show bq e
 have f3:∀ b∈fp,rq X pins (upd H2 D<|.lst []) b:=λb hb=>#[by rw[fA (by rw[<-hD];show cw (acB b hb))];show(f2 b hb).1,(f2 b hb).2];generalize agk:({ s2 with heap:=s2.heap.push { cls:=.type "list",dict:=ag,data:=.seq ([]:List ay).toArray } }:aN)=s3 at I3 ⊢;have acC:s3.heap=s2.heap.push { cls:=.type "list",dict:=ag,data:=.seq ([]:List ay).toArray }:=by rw[<-agk]
 rw[<-acC]at E4;have agl:∀ b∈fp,b<s3.heap.objs.size:=λb hb=>by rw[acC,vA];show tK<|acB b hb
 generalize ajF:upd H2 D (.lst [])=H3 at I3 f3 w0;refine FY ?_;generalize acD:pushCells (s3.heap.push { cls:=.type "dict",data:=.dict #[] }) scope.names=h₁;have k1:∀ b o,s3.heap.get? b=ae o->h₁.get? b=ae o:=λb o e=>by rw[<-acD];show Wn _ _ b o<|aU _ e
 have IY:=Mo S I3 (λb hb=>#[f3 b hb,agl b hb]) (s':={ s3 with heap:=h₁ }) (by rw[acD]);have acE:tn 0 h₁:=T.keep _ _ _ E4 λb _ o e=>k1 b o e;generalize vN:cellsFrom (s3.heap.objs.size+1) scope.names (kO X.env.cells scope.names [])=cl at IY ⊢;generalize hC:s3.heap.objs.size=C at IY ⊢;have XX:∀ {H':Hp},(∀ b∈fp,H' b=ag)->∀ b∈fp,rq (X.comp N scope cl s3 H3 C fp) [] H' b:=λhn b hb=>by
  refine#[hn b hb,?_,?_,.inl hb,?_,λp hp=>absurd (show p∈([]:List<|aq×Obj) from hp) zg]
  .show(IY.ok.Kr b hb).1
  .show IY.ok.EU b hb
  .intro x c e z;show(IY.ok.Kr b hb).2 x c e z
 have fin:∀ (σ':St) (H':Hp) (s':aN),Inv (X.comp N scope cl s3 H3 C fp) [] σ' H' s'->∀ h',Heap.SameBut C s'.heap h'->Inv X pins σ H' { s' with heap:=h' }:=λσ' H' s' I' h' vO=>by
  have KW:H' C=ag:=I'.free;have kp:∀ b o,b≠C->s'.heap.get? b=ae o->h'.get? b=ae o:=λb o hb e=>vO.extBut b o hb e;have agm:s3.heap.get? C=ag:=by rw[<-hC];show EK<|aC _
  have vD:∀ b o,s3.heap.get? b=ae o->b≠C:=λb o e z=>by rw[z,agm]at e;cases e
  have U:=I'.base;refine I3.afp (s':={ s' with heap:=h' }) (ch:=fp) I'.os #[λb o e n hb hx=>kp b o (vD b o e)<|U.keep b o e n hb hx,λb o e n hb hx=>?_,U.free,λb o e hx=>?_,U.qy,U.rj,U.sf] ?_ I'.bare λb hb=>?_
  .let#[sl,e1]:=U.slot b o e n hb hx;show#[sl,kp b _ (vD b o e) e1]
  .let#[o',e1]:=U.there b o e hx;show#[o',kp b o' (vD b o e) e1]
  .intro b ob e;refine(I'.aB b ob e).nQ (λc w' hV q=>kp c w' (λz=>?_) q) (λ_ q=>q) λ_ _ q=>q;rcases hV with z1|z1
   .rw[<-z1,z,KW]at e;cases e
   .rw[z,KW]at z1;cases z1
  .show#[(f3 b hb).2.2.2.1,(f3 b hb).2.1,λx c e=>(f3 b hb).2.2.2.2.1 x c e,(f3 b hb).2.2.2.2.2]
 have loop:∀ s4:aN,s4={ s3 with heap:=h₁ } ->
  codeAny zi X.A (.compLoop (.ListComp elt [#[tg,iter,ifs,0]] scope pos) 0 (.ref it) (.ref D)<|compEnvC scope cl C X.env) (compPost zi X.A X.xe use Q' (.ref D) C) s4:=by
  rintro s4 rfl;refine CQ (λn s'=>∃ i σ' H',Inv (X.comp N scope cl s3 H3 C fp) [] σ' H' s' /\ tn i s'.heap /\ (∀ b∈fp,H' b=ag) /\ W i n σ' H') _ (λ_ _ _ q=>q) ?_ m0 #[0,_,H3,IY,acE,λb hb=>(f3 b hb).1,w0];rintro n s5 ⟨i,σ5,H5,I5,yt,Ky,w5⟩;have wV:∀ {α:Type}{t:Sem α}{Q1:α->aN->zm}{E1:ay->aN->zm}{ss:aN},wpAny zi X.A t Q1 (λ_ _=>False) ss->wpAny zi X.A t Q1 E1 ss:=λhw=>nM hw (λ_ _ q=>q) λ_ _ z=>False.elim z;rcases turn i n σ5 H5 w5 with⟨stop,q5⟩|⟨go,NN,hN,step⟩
  .refine wV<|dG (T.done (X.comp N scope cl s3 H3 C fp) zc zc zc hc i [] s5 σ5 H5 (λ_ _=>False) I5 (XX Ky) yt stop) ?_;rintro r s6 ⟨hr,I6⟩;subst hr;let#[m6,Hf,_]:=I6.loc;show agh D C s3 s6 H3 H5 m6 I3 hC I6.free Hf (fin σ5 H5 s6 I6) q5
  .refine wV<|dG (T.item (X.comp N scope cl s3 H3 C fp) zc zc zc hc i [] s5 σ5 H5 (λ_ _=>False) I5 (XX Ky) yt go) ?_;rintro r s6 ⟨u,hr,h6⟩;subst hr;refine wV<|dG h6 ?_;rintro _ s7 ⟨x,H7,I7,r7,y7,XY,agn⟩;have ago:=I7.pinned (XX agn)<|T.obj _ _ XY;refine wV<|dG (hg cl s3 H3 C fp _ s7 σ5 H7 x u _ ago r7<|step x H7 y7) ?_;rintro _ s8 ⟨σ8,H8,I8,q8⟩;refine wV<|EV (hf cl s3 H3 C fp _ s8 σ8 H8 _ I8 q8) λb s9 H9 I9 q9=>?_;have again:∀ {σ9:St}{HA:Hp}{sA:aN},Inv (X.comp N scope cl s3 H3 C fp) ([]++E3 fp s7.heap) σ9 HA sA->NN σ9 HA->∃ m,m<n /\ ∃ i σ' H',Inv (X.comp N scope cl s3 H3 C fp) [] σ' H' sA /\ tn i sA.heap /\ (∀ b∈fp,H' b=ag) /\ W i m σ' H':=λ{σ9 HA sA} IA nA=>by
    let#[m',hm,wA]:=hN σ9 HA nA;refine#[m',hm,i+1,σ9,HA,IA.Kw,T.keep _ _ _ XY λb hb o e=>(IA.pin (b,o)<|n9 _<|n9 _<|jI hb e).1,λb hb=>?_,wA];let#[o,e,d]:=T.obj _ _ XY b hb;show(IA.pin (b,o)<|n9 _<|n9 _<|jI hb e).2.1
   cases b with
   |false=>
     rw[if_neg zd]at q9;rw[if_neg zd];show again I9 q9
   |true=>
     rw[if_pos rfl]at q9;rw[if_pos rfl];refine wV<|br (he cl s3 H3 C fp _ s9 σ8 H9 _ I9 q9) λyv sA y HA IA rA hh=>?_;let#[ys,agp,agq,nA]:=hh;refine wV<|dG (Ce _ sA σ8 HA (.ref D) [y] (.ref D) [yv] (λ_ HB=>NN σ8 HB) IA zc (.cons rA .nil) #[D,ys,y,rfl,rfl,agp,agq,nA]) λr sB hB=>?_;let#[_,HB,IB,_,nB]:=hB;show again IB nB
 show codeAny_compStart_list (loop _ zc)<|T.self _ 0 _ _ _ acE<|loop _ zc
theorem OG
 (hc:X.calm=ah) (S:t9 X N src scope) (hi:PI X tg iter wi)
 (hg:∀ cl s H C fp,PG (X.comp N scope cl s H C fp) tg g) (hf:∀ cl s H C fp,PF (X.comp N scope cl s H C fp) ifs tf) (he:∀ cl s H C fp,PE (X.comp N scope cl s H C fp) elt te)
 (hs:∀ x,foldedSetIterable iter X.env x=pure x:=by intro _;rfl):PE X (.ListComp elt [#[tg,iter,ifs,0]] scope pos) (He src wi g tf te):=by
 intro pins s σ H Q I h;rw[eval_ListComp];show Ch hc S hi hg hf he hs I h λD C s3 s6 H3 H5 m6 _ _ _ Hf fin q5=>#[m6,Hf,λh' vO=>#[.ref D,H5,fin h' vO,rfl,q5]]
open PySem.W PySem.Builtin PySem.Builtin.ObjectAttr PySem.Builtin.Getset_descriptor

def acF (x C:aq) (h:aT):zm:=∃ ox,h.get? x=ae ox /\ ox.cls=.ref C
theorem acF.type (I:acF x C h):Looks M h (typeOf<|.ref x) (.ref C):=by
 let#[ox,e,hc]:=I;show hc▸(Looks.ld e).andThen .now
structure ajG (K:Frag) (C:aq):zm where
 ga:findIn K (.ref C) "__getattribute__"=ae (ae<|.builtin "BaseException.__getattribute__")
 gt:findIn K (.ref C) "__getattr__"=ae ag
 cl:findIn K (.ref C) "__class__"=ae (ae<|.builtin "object.__class__")
 gs:specialIn K (.builtin "object.__class__") "__get__"=ae (ae<|.builtin "getset_descriptor.__get__")
 tk:takesIn K (.builtin "object.__class__")=ae ah
 mo:mroIn K C (.type "object")=ae ah
 mb:mroIn K C (.type "BaseException")=ae ah
 cd:(clsIn K C).isSome=ah
def agr (B:aT) (l:List Env) (ea:aq) (cls a0:ay) (h:aT):zm:=
 Heap.FlyingW B l ea cls a0 h \/ (B.StaysIn h /\ B.get? ea=ag /\ h.FunFrames B l /\
  h.get? ea=ae { cls:=cls,data:=.fields (List.toArray [a0,.none,.none,.none,.bool af,.none]) })

def vP (P:eR) (w:cQ):yx:=λouter H s E e s'=>∃ (ea C:aq) (a0:ay) (B:aT) (H':Hp),
 e=.ref ea /\ s'.os=s.os /\ AllBare s'.gens /\ Un (qz outer) [] H H' s.heap s'.heap /\ c8 P w H' s'.heap /\ agr B outer ea (.ref C) a0 s'.heap /\
 (∀ b u o,H' b=ae u->s'.heap.get? b=ae o->B.get? b=ae o) /\ (∀ b o,s.heap.get? b=ae o->b∉qz outer->∃ o',B.get? b=ae o') /\ E (.ref C) ag H'




inductive acG (K:Frag) (H:Hp):V->ay->zm where
 |of {x:V}{t:ay}(h:pT K H x t):acG K H x t
noncomputable def ags:V->ay->zm
 |.ref a,c=>c=.ref a
 |.ty n,c=>c=.type n
 |_,_=>False
def agt (K:Frag):List V->Hp->VK->zm:=λvs H Q=>∃ x c t cv b,vs=[x,c] /\ acG K H x t /\ ags c cv /\ kitOne K t cv=ae b /\ Q (.bl b) H
theorem Lf:pS X (.builtin "isinstance") (agt X.K):=by
 intro pins s σ H xs us Q I rv h;let#[x,c,t,cv,b,rfl,ty,hc,e,q]:=h;cases rv with
 |cons r1 r2=>
   cases r2 with
   |cons r3 r4=>
     cases r4;ext u1 u2;have ec:u2=cv:=by
      cases c with
      |ref a=>show(r3).trans (hc).symm
      |ty n=>show(r3).trans (hc).symm
      |_=>show hc.elim
     subst ec;cases ty with
     |of ty=>show J6 I r1 ty e λtk=>#[.bl b,H,I.tok tk,rfl,q]


end L2
namespace L2.DL
inductive D where
 |az|bl (b:Bool)|int (i:Int)|str (x:Str)|tup (l:List D)|lst (l:List D)|au (l:List<|Key×D)
inductive W where
 |d (x:D)|b (n:Nat)|s (l:List Int)|x (i:Nat)|t (l:List Nat)|m (l:List<|Str×Nat)
inductive Bx where
 |lst (l:List D)|au (l:List<|Key×D)|dead|dT (l:List<|List Key×D)|fD (l:List<|Key×D)
 /-- a code aff table: where,the ajH place,its name -/
 |tb (P:aq) (pos:Pos) (q:Str)
mutual
noncomputable def Den (F:Hp):D->V->zm
 |.az,v=>v=.az
 |.bl b,v=>v=.bl b
 |.int i,v=>v=.int i
 |.str x,v=>v=.str x
 |.tup l,v=>∃ a vs,v=.ref a /\ F a=ae (.tup vs) /\ aE F l vs
 |.lst l,v=>∃ a vs,v=.ref a /\ F a=ae (.lst vs) /\ aE F l vs
 |.au l,v=>∃ a aj,v=.ref a /\ F a=ae (.dK aj) /\ aO F l aj
noncomputable def aE (F:Hp):List D->List V->zm
 |[],vs=>vs=[]
 |d::l,vs=>∃ v r,vs=v::r /\ Den F d v /\ aE F l r
noncomputable def aO (F:Hp):List (Key×D)->List (Key×V)->zm
 |[],r=>r=[]
 |(k,d)::l,r=>∃ v r',r=(k,v)::r' /\ Den F d v /\ aO F l r'
end
def Sub (F F':Hp):zm:=∀ a u,F a=ae u->F' a=ae u
theorem Sub.refl (F):Sub F F:=λ_ _ h=>h
theorem Sub.trans (a:Sub F G) (b:Sub G H):Sub F H:=λx u h=>b x u<|a x u h
def yC (F F':Hp):zm:=∀ a u,(∀ o v,u≠.bQ o v)->F a=ae u->F' a=ae u
theorem Sub.d (s:Sub F F'):yC F F':=λa u _ h=>s a u h
mutual
theorem Den.eU {F F':Hp}(s:yC F F'):∀ (d:D) {v:V},Den F d v->Den F' d v
 |.az,_,h=>h
 |.bl _,_,h=>h
 |.int _,_,h=>h
 |.str _,_,h=>h
 | .tup l,_,h=>by
   let#[a,vs,e,h1,h2]:=h;show#[a,vs,e,s _ _ (λ_ _ z=>nomatch z) h1,aE.eU s l h2]
 | .lst l,_,h=>by
   let#[a,vs,e,h1,h2]:=h;show#[a,vs,e,s _ _ (λ_ _ z=>nomatch z) h1,aE.eU s l h2]
 | .au l,_,h=>by
   let#[a,vs,e,h1,h2]:=h;show#[a,vs,e,s _ _ (λ_ _ z=>nomatch z) h1,aO.eU s l h2]
theorem aE.eU {F F':Hp}(s:yC F F'):∀ (l:List D) {vs:List V},aE F l vs->aE F' l vs
 |[],_,h=>h
 | d::l,_,h=>by
   let#[v,r,e,h1,h2]:=h;show#[v,r,e,Den.eU s d h1,aE.eU s l h2]
theorem aO.eU {F F':Hp}(s:yC F F'):∀ (l:List<|Key×D) {vs:List (Key×V)},aO F l vs->aO F' l vs
 |[],_,h=>h
 | (k,d)::l,_,h=>by
   let#[v,r,e,h1,h2]:=h;show#[v,r,e,Den.eU s d h1,aO.eU s l h2]
end
theorem Den.mono (s:Sub F F') (d) (h:Den F d v):Den F' d v:=Den.eU s.d d h
theorem aE.mono (s:Sub F F') (l) (h:aE F l vs):aE F' l vs:=aE.eU s.d l h
theorem aO.mono (s:Sub F F') (l) (h:aO F l vs):aO F' l vs:=aO.eU s.d l h
theorem aE.length:∀ {l}{vs},aE F l vs->l.length=vs.length
 | [],_,h=>by
   rw[h];rfl
 | d::l,_,h=>by
   let#[v,r,e,_,h2]:=h;rw[e,bE,bE,h2.length]
theorem aE.get:∀ {l}{vs}{i:Nat}{d},aE F l vs->l[i]?=ae d->∃ v,vs[i]?=ae v /\ Den F d v
 |[],_,_,_,_,e=>by simp at e
 | x::l,_,0,d,h,e=>by
   let#[v,r,q,h1,_]:=h;simp at e;subst e;subst q;show#[v,rfl,h1]
 | x::l,_,i+1,d,h,e=>by
   let#[v,r,q,_,h2]:=h;subst q;let#[u,e1,e2]:=aE.get h2 (by simpa using e);show#[u,by simpa using e1,e2]
theorem aE.nil:aE F [] []:=rfl
theorem aE.cons {F}{d}{v}{l}{vs}(h:Den F d v) (t:aE F l vs):aE F (d::l) (v::vs):=#[v,vs,rfl,h,t]
theorem aE.append:∀ {l l'}{vs yD},aE F l vs->aE F l' yD->aE F (l++l') (vs++yD)
 | [],_,_,_,h,t=>by
   rw[h];show t
 | d::l,_,_,_,h,t=>by
   let#[v,r,q,h1,h2]:=h;subst q;show .cons h1<|h2.append t
theorem aE.take:∀ {l}{vs} (n),aE F l vs->aE F (l.take n) (vs.take n)
 |l,_,0,_=>by rfl
 | [],_,n+1,h=>by
   rw[h];show rfl
 | d::l,_,n+1,h=>by
   let#[v,r,q,h1,h2]:=h;subst q;show .cons h1<|h2.take n
theorem aE.drop:∀ {l}{vs} (n),aE F l vs->aE F (l.drop n) (vs.drop n)
 |l,_,0,h=>h
 | [],_,n+1,h=>by
   rw[h];show rfl
 | d::l,_,n+1,h=>by
   let#[v,r,q,h1,h2]:=h;subst q;show h2.drop n
theorem aE.reverse:∀ {l}{vs},aE F l vs->aE F l.reverse vs.reverse
 | [],_,h=>by
   rw[h];show rfl
 | d::l,_,h=>by
   let#[v,r,q,h1,h2]:=h;subst q;rw[II,II];show h2.reverse.append<|.cons h1 .nil
theorem aE.set (hd:Den F d v):∀ {l}{vs} (i),aE F l vs->aE F (l.set i d) (vs.set i v)
 | [],_,_,h=>by
   rw[h];show rfl
 | _::l,_,0,h=>by
   let#[v',r,q,h1,h2]:=h;subst q;show .cons hd h2
 | _::l,_,i+1,h=>by
   let#[v',r,q,h1,h2]:=h;subst q;show .cons h1<|aE.set hd i h2
theorem aE.eraseIdx:∀ {l}{vs} (i),aE F l vs->aE F (l.eraseIdx i) (vs.eraseIdx i)
 | [],_,_,h=>by
   rw[h];show rfl
 | _::l,_,0,h=>by
   let#[v',r,q,h1,h2]:=h;subst q;show h2
 | _::l,_,i+1,h=>by
   let#[v',r,q,h1,h2]:=h;subst q;show .cons h1<|h2.eraseIdx i
structure Fr where
 H₀:Hp
 n₀:Nat
 F₀:Hp
noncomputable def vQ (r:List aq):List Nat->List aq->zm
 |[],as=>as=[]
 |n::l,as=>∃ a t,as=a::t /\ r[n]?=ae a /\ vQ r l t
theorem vQ.mono (p:r <+: r'):∀ {l}{as},vQ r l as->vQ r' l as
 |[],_,h=>h
 | n::l,_,h=>by
   let#[a,t,e,h1,h2]:=h;refine#[a,t,e,?_,h2.mono p];let#[u,rfl]:=p;rw[dZ (List.getElem?_eq_some_iff.mp h1).1];show h1
def bY (F:Hp):List (List Key×D)->List (List Key×V)->zm
 |[],r=>r=[]
 |(k,d)::l,r=>∃ v r',r=(k,v)::r' /\ Den F d v /\ bY F l r'
theorem bY.eU (s:yC F F'):∀ (l) {vs},bY F l vs->bY F' l vs
 |[],_,h=>h
 | (k,d)::l,_,h=>by
   let#[v,r,e,h1,h2]:=h;show#[v,r,e,Den.eU s d h1,bY.eU s l h2]
theorem bY.mono (s:Sub F F') (l) (h:bY F l vs):bY F' l vs:=bY.eU s.d l h
def ck (F:Hp) (XZ:List aq):W->V->zm
 |.d x,v=>Den F x v
 |.b n,v=>∃ a,v=.ref a /\ XZ[n]?=ae a
 |.s l,v=>∃ a o,v=.ref a /\ F a=ae (.bQ o<|.lst<|l.map V.int)
 |.x _,_=>False
 |.t l,v=>∃ c as,v=.ref c /\ F c=ae (.tup<|as.map V.ref) /\ vQ XZ l as
 |.m l,v=>∃ c as,v=.ref c /\ F c=ae (.dK<|List.zipWith (λk a=>(.inr k.1,V.ref a)) l as) /\ vQ XZ (l.map (·.2)) as
theorem ck.mono (s:Sub F F') (p:r <+: r'):∀ (w) {v},ck F r w v->ck F' r' w v
 |.d x,_,h=>Den.mono s x h
 | .b n,_,h=>by
   let#[a,e,h]:=h;refine#[a,e,?_];let#[t,rfl]:=p;rw[dZ (List.getElem?_eq_some_iff.mp h).1];show h
 |.s l,_,h=>let ⟨a,o,e,h⟩:=h;#[a,o,e,s _ _ h]
 |.x _,_,h=>h
 |.t l,_,h=>let ⟨c,as,e,h1,h2⟩:=h;#[c,as,e,s _ _ h1,h2.mono p]
 |.m l,_,h=>let ⟨c,as,e,h1,h2⟩:=h;#[c,as,e,s _ _ h1,h2.mono p]
noncomputable def wW (c:aq) (q:Str):HO:=.ext λh=>h.CodeRec (.ref c) q
def ua (F H:Hp) (a:aq):Bx->zm
 |.lst l=>F a=ag /\ ∃ vs,H a=ae (.lst vs) /\ aE F l vs
 |.au l=>F a=ag /\ ∃ aj,H a=ae (.dK aj) /\ aO F l aj
 |.dead=>∃ u,H a=ae u
 |.dT l=>F a=ag /\ ∃ aj,H a=ae (.dT aj) /\ bY F l aj
 |.fD l=>∃ o aj,F a=ae (.bQ o<|.dK aj) /\ H a=ae (.bQ o<|.dK aj) /\ aO F l aj
 |.tb P pos q=>a=P /\ F a=ag /\ ∃ ps,H a=ae (.hO ps) /\ TriplesOk ps.toList /\ ∀ cv,codeAmong pos ps.toList=ae cv->∃ c',cv=.ref c' /\ F c'=ae (wW c' q)
noncomputable abbrev bu:=List<|Option W
noncomputable abbrev xB (n:Nat):Option W:=ae<|.b n
noncomputable abbrev xN (i:Int):Option W:=ae<|.d<|.int i
noncomputable abbrev xJ (l:List Int):Option W:=ae<|.d<|.lst<|l.map D.int
structure Rel (T:Fr) (F:Hp) (r:List aq) (σ:St) (H:Hp) (env:bu) (bx:List Bx):zm where
 fh:Sub F H
 slot:∀ (i:Nat) (w:W),env[i]?=ae (ae w)->∃ v,σ[i]?=ae (ae v) /\ ck F r w v
 len:r.length=bx.length
 nd:r.Nodup
 box:∀ (n:Nat) (c:Bx) (a:aq),bx[n]?=ae c->r[n]?=ae a->ua F H a c
 keep:∀ a u,T.H₀ a=ae u->a∉r->H a=ae u
 new:∀ (n:Nat) (a:aq),T.n₀<=n->r[n]?=ae a->T.H₀ a=ag
 n0:T.n₀<=r.length
 sl:env.length<=σ.length
 fs:∀ a u,F a=ae u->(∃ vs,u=.tup vs) \/ T.F₀ a=ae u \/ T.H₀ a=ag \/ a∈r
structure bC (F:Hp) (r:List aq) (F':Hp) (r':List aq):zm where
 s:Sub F F'
 p:r <+: r'
theorem bC.refl (F) (r):bC F r F r:=#[Sub.refl F,qu r]
theorem bC.trans (a:bC F r F' r') (b:bC F' r' agu agv):bC F r agu agv:=#[a.s.trans b.s,a.p.trans b.p]
theorem bC.den (g:bC F r F' r') (h:ck F r w v):ck F' r' w v:=h.mono g.s g.p w
inductive O (α:Type) where
 |val (a:α) (bx:List Bx)|exc (c:Nat) (bx:List Bx)|bad
abbrev DE (α):=bu->List Bx->O α
noncomputable def fC {α β}(m:O α) (k:α->List Bx->O β):O β:=
 match m with
 |.val a bx=>k a bx
 |.exc c bx=>.exc c bx
 |.bad=>.bad
structure Xs where
 E:XK
 cl:Nat->aq
noncomputable def End {α β:Type}(T:Fr) (Z:Xs) (Rl:Hp->List aq->α->β->zm) (F:Hp) (r:List aq) (σ:St) (env:bu) (Q:β->Hp->zm):O α->zm
 |.val d bx'=>∀ F' r' v H',bC F r F' r'->Rel T F' r' σ H' env bx'->Rl F' r' d v->Q v H'
 |.exc c bx'=>∀ F' r' H',bC F r F' r'->Rel T F' r' [] H' [] bx'->Z.E (.ref<|Z.cl c) ag H'
 |.bad=>False
theorem End.weak (g:bC F r F' r'):∀ {o:O α},End T Z Rl F r σ env Q o->End T Z Rl F' r' σ env Q o
 |.val _ _,h=>λF2 r2 v H2 g2=>h F2 r2 v H2<|g.trans g2
 |.exc _ _,h=>λF2 r2 H2 g2=>h F2 r2 H2<|g.trans g2
 |.bad,h=>h
theorem End.bind {R2:Hp->List aq->α'->β'->zm}(h:End T Z R2 F r σ env Q<|fC m k)
 (c:∀ d bx1 F1 r1 v H1,bC F r F1 r1->Rel T F1 r1 σ H1 env bx1->R1 F1 r1 d v->End T Z R2 F1 r1 σ env Q (k d bx1)->Q1 v H1):End T Z R1 F r σ env Q1 m:=by
 cases m with
 |val d bx=>show λF' r' v H' g R q=>c d bx F' r' v H' g R q<|End.weak g h
 |exc n bx=>show h
 |bad=>show h
theorem Rel.drop (R:Rel T F r σ H env bx):Rel T F r [] H [] bx:=
 #[R.fh,λi w e=>by simp at e,R.len,R.nd,R.box,R.keep,R.new,R.n0,aC _,R.fs]
def tD (T:Fr) (Z:Xs) (m:DE W):TE:=λσ H Q=>∃ F r env bx,Rel T F r σ H env bx /\ End T Z ck F r σ env Q (m env bx)
def PD (X:Cx) (T:Fr) (Z:Xs) (e:aD) (m:DE W):zm:=PE X e<|tD T Z m
abbrev agw:Hp->List aq->Bool->Bool->zm:=λ_ _ a b=>a=b
def wX (T:Fr) (Z:Xs) (m:DE Bool):TT:=λσ H Q=>∃ F r env bx,Rel T F r σ H env bx /\ End T Z agw F r σ env Q (m env bx)
def wY (X:Cx) (T:Fr) (Z:Xs) (e:aD) (m:DE Bool):zm:=PT X e<|wX T Z m
def nz (F:Hp) (r:List aq):List W->List V->zm
 |[],vs=>vs=[]
 |w::l,vs=>∃ v t,vs=v::t /\ ck F r w v /\ nz F r l t
theorem nz.mono (g:bC F r F' r'):∀ {l}{vs},nz F r l vs->nz F' r' l vs
 |[],_,h=>h
 | w::l,_,h=>by
   let#[v,t,e,h1,h2]:=h;show#[v,t,e,g.den h1,h2.mono g]
def KY (T:Fr) (Z:Xs) (m:DE<|List W):TA:=λσ H Q=>∃ F r env bx,Rel T F r σ H env bx /\ End T Z nz F r σ env Q (m env bx)
def rC (X:Cx) (T:Fr) (Z:Xs) (es:List aD) (m:DE<|List W):zm:=PA X es<|KY T Z m
theorem bK {T:Fr}{σ:St}{H:Hp}{B:Hp->List aq->bu->List Bx->zm}{G:zm}(k:∀ F r env bx,Rel T F r σ H env bx->B F r env bx->G):(∃ F r env bx,Rel T F r σ H env bx /\ B F r env bx)->G:=λ⟨F,r,env,bx,R,h⟩=>k F r env bx R h
theorem Hg {δ:Type}{T:Fr}{σ:St}{H:Hp}{C:Hp->List aq->δ->zm}{B:Hp->List aq->bu->List Bx->δ->zm}{G:zm}(k:∀ F r env bx w,Rel T F r σ H env bx->C F r w->B F r env bx w->G):(∃ F r env bx w,Rel T F r σ H env bx /\ C F r w /\ B F r env bx w)->G:=λ⟨F,r,env,bx,w,R,d,h⟩=>k F r env bx w R d h
theorem PE.imp (h:PE X e t) (f:∀ σ H Q,t' σ H Q->t σ H Q):PE X e t':=λpins s σ H Q I q=>h pins s σ H Q I<|f σ H Q q
theorem PT.imp (h:PT X e t) (f:∀ σ H Q,t' σ H Q->t σ H Q):PT X e t':=λpins s σ H Q I q=>h pins s σ H Q I<|f σ H Q q
theorem PW.imp (h:PW X e t) (f:∀ σ H Q,t' σ H Q->t σ H Q):PW X e t':=λwhole pins s σ H Q I q=>h whole pins s σ H Q I<|f σ H Q q
theorem PA.imp (h:PA X e t) (f:∀ σ H Q,t' σ H Q->t σ H Q):PA X e t':=λpos pins s σ H Q I q=>h pos pins s σ H Q I<|f σ H Q q
theorem PS.imp (h:PS X e t) (f:∀ Q σ H,t' Q σ H->t Q σ H):PS X e t':=λpins s σ H Q I q=>h pins s σ H Q I<|f Q σ H q
theorem kW.imp (h:kW X e t) (f:∀ Q σ H,t' Q σ H->t Q σ H):kW X e t':=λpins s σ H Q I q=>h pins s σ H Q I<|f Q σ H q

noncomputable def dV (i:Nat):DE W:=λenv bx=>match env[i]? with|some (ae w)=>.val w bx|_=>.bad
theorem Mq (i) (hN:X.N[i]?=ae x:=by rfl) (hv:yp X.env.scope x:=by first|show Or.inl zc|show Or.inr _|show Or.inr _) (hd:(x==("__debug__"))=af:=by decide)
 (pD:(x==("__classdict__"))=af:=by decide):PD X T Z (.Name x pos) (dV i):=by
 refine PE.imp (L4 hN hv hd pD) λσ H Q=>bK λF r env bx R h=>?_;unfold dV at h;split at h
 .ext w e;let#[v,e1,e2]:=R.slot i w e;show#[v,e1,h F r v H (.refl F r) R e2]
 .show h.elim
noncomputable def dC (d:D):DE W:=λ_ bx=>.val (.d d) bx
theorem DJ (h:PE X e<|tC v) (hd:∀ F,Den F d v):PD X T Z e (dC d):=
 PE.imp h λσ H Q=>bK λF r env bx R h=>h F r v H (.refl F r) R<|hd F
noncomputable def fj:DE (List W):=λ_ bx=>.val [] bx
def fe (m:DE W) (k:DE<|List W):DE (List W):=λenv bx=>fC (m env bx) λw bx1=>fC (k env bx1) λl bx2=>.val (w::l) bx2
theorem mj:rC X T Z [] fj:=PA.imp i5 λσ H Q=>bK λF r env bx R h=>h F r [] H (.refl F r) R zc

theorem ia (h:F p=ag):Sub F (upd F p o):=λa u e=>by rw[fA<|f7 e h];show e
theorem Rel.sD (R:Rel T F r σ H env bx) (h:H p=ag):F p=ag:=by
 cases e:F p with
 |none=>rfl
 |some u=>rw[R.fh p u e]at h;cases h
theorem ua.there:∀ {c},ua F H a c->∃ u,H a=ae u
 |.lst _,h=>let ⟨_,vs,e,_⟩:=h;#[_,e]
 |.au _,h=>let ⟨_,vs,e,_⟩:=h;#[_,e]
 |.dead,h=>h
 |.dT _,h=>let ⟨_,vs,e,_⟩:=h;#[_,e]
 |.fD _,h=>let ⟨_,_,_,e,_⟩:=h;#[_,e]
 |.tb _ _ _,h=>let ⟨_,_,_,e,_⟩:=h;#[_,e]
theorem Rel.eI (R:Rel T F r σ H env bx) {n:Nat}(e:r[n]?=ae a):∃ c,bx[n]?=ae c /\ ua F H a c:=by
 have h:=(List.getElem?_eq_some_iff.mp e).1;rw[R.len]at h;show#[_,dO h,R.box n _ a (dO h) e]
theorem Rel.yE (R:Rel T F r σ H env bx) (h:H p=ag):p∉r:=λhp=>by
 let#[n,e]:=List.mem_iff_getElem?.mp hp;let#[c,_,k]:=R.eI e;let#[u,k]:=k.there;rw[h]at k;cases k
theorem ua.grow (s:Sub F F') (hf:F a=ag->F' a=ag) (hh:∀ u,H a=ae u->H' a=ae u):∀ {c},ua F H a c->ua F' H' a c
 |.lst _,h=>let ⟨h1,vs,h2,h3⟩:=h;#[hf h1,vs,hh _ h2,aE.mono s _ h3]
 |.au _,h=>let ⟨h1,vs,h2,h3⟩:=h;#[hf h1,vs,hh _ h2,aO.mono s _ h3]
 |.dead,h=>let ⟨u,h⟩:=h;#[u,hh u h]
 |.dT _,h=>let ⟨h1,vs,h2,h3⟩:=h;#[hf h1,vs,hh _ h2,bY.mono s _ h3]
 |.fD _,h=>let ⟨o,vs,h1,h2,h3⟩:=h;#[o,vs,s _ _ h1,hh _ h2,aO.mono s _ h3]
 |.tb _ _ _,h=>let ⟨h0,h1,ps,h2,h3,h4⟩:=h;#[h0,hf h1,ps,hh _ h2,h3,λcv e=>let ⟨c,e1,e2⟩:=h4 cv e;#[c,e1,s _ _ e2]]
theorem Rel.yF (R:Rel T F r σ H env bx) (h:H p=ag):Rel T (upd F p o) r σ (upd H p o) env bx:=by
 have s:=ia (o:=o)<|R.sD h;refine#[λa u e=>?_,λi w e=>?_,R.len,R.nd,λn c a e1 e2=>?_,λa u e hn=>?_,R.new,R.n0,R.sl,λa u e=>?_]
 .by_cases ha:a=p
  .subst ha;rw[fw]at e ⊢;show e
  .rw[fA ha]at e ⊢;show R.fh a u e
 .let#[v,e1,e2]:=R.slot i w e;show#[v,e1,e2.mono s<|qu r]
 .have k:=R.box n c a e1 e2;let#[u,hu]:=k.there;have ha:=f7 hu h;show k.grow s (λz=>by rw[fA ha];show z) (λu z=>by rw[fA ha];show z)
 .have k:=R.keep a u e hn;rw[fA<|f7 k h];show k
 .by_cases ha:a=p
  .subst ha;refine .inr<|.inr<|.inl ?_;cases q:T.H₀ a with
   |none=>rfl
   |some u=>rw[R.keep a u q<|R.yE h]at h;cases h
  .rw[fA ha]at e;show R.fs a u e
theorem Rel.uN (R:Rel T F r σ H env bx) (h:H p=ag):bC F r (upd F p o) r:=#[ia<|R.sD h,qu r]
theorem Rel.KZ (R:Rel T F r σ H env bx) (h:H p=ag) (hc:ua F (upd H p o) p c):Rel T F (r++[p]) σ (upd H p o) env (bx++[c]):=by
 have hs:∀ a u,H a=ae u->upd H p o a=ae u:=λa u e=>by rw[fA<|f7 e h];show e
 refine#[λa u e=>hs a u<|R.fh a u e,λi w e=>?_,by rw[cW,cW,R.len];rfl,?_,λn c' a e1 e2=>?_,λa u e hn=>(hs a u<|R.keep a u e λz=>hn<|qX _ z),λn a hn e=>?_,by rw[cW];show cj R.n0 (xT _ _),R.sl,λa u e=>(R.fs a u e).imp id<|Or.imp id<|Or.imp id λz=>qX _ z]
 .let#[v,e1,e2]:=R.slot i w e;show#[v,e1,e2.mono (Sub.refl F)<|ya r [p]]
 .rw[vz];refine#[R.nd,by simp,λa ha b hb=>?_];rw[di]at hb;subst hb;show λz=>R.yE h<|z▸ha
 .by_cases hn:n<r.length
  .rw[dZ hn]at e2;rw[dZ (by rw[<-R.len];show hn)]at e1;show(R.box n c' a e1 e2).grow (Sub.refl F) id (hs a)
  .rw[pb za]at e2;rw[pb (by rw[<-R.len];lia)]at e1;have hl:n-r.length=0:=by
    cases q:n-r.length with
    |zero=>rfl
    |succ k=>rw[q]at e2;simp at e2
   have nT:n-bx.length=0:=by rw[<-R.len];show hl
   rw[hl]at e2;rw[nT]at e1;simp at e1 e2;subst e1 e2;show hc
 .by_cases hl:n<r.length
  .rw[dZ hl]at e;show R.new n a hn e
  .have hp:a=p:=by
    rw[pb za]at e;cases q:n-r.length with
    |zero=>rw[q]at e;simp at e;show e.symm
    |succ k=>rw[q]at e;simp at e
   subst hp;cases q:T.H₀ a with
   |none=>rfl
   |some u=>rw[R.keep a u q<|R.yE h]at h;cases h
theorem lA {α:Type}{l:List α}(h:l.Nodup) {j:Nat}{x}(a:l[i]?=ae x) (b:l[j]?=ae x):i=j:=(List.getElem?_inj (List.getElem?_eq_some_iff.mp a).1 h).mp<|a.trans b.symm
theorem Rel.write (R:Rel T F r σ H env bx) (e:r[n]?=ae a) (hF:F a=ag) (hc:ua F (upd H a o) a c):Rel T F r σ (upd H a o) env (bx.set n c):=by
 refine#[λb u q=>?_,R.slot,by rw[qY];show R.len,R.nd,λm c' b e1 e2=>?_,λb u q hn=>?_,R.new,R.n0,R.sl,R.fs]
 .by_cases hb:b=a
  .subst hb;rw[hF]at q;cases q
  .rw[fA hb];show R.fh b u q
 .by_cases hm:m=n
  .subst hm;rw[e]at e2;cases e2;rw[pN (by rw[<-R.len];show(List.getElem?_eq_some_iff.mp e).1)]at e1;cases e1;show hc
  .rw[nN<|Ne.symm hm]at e1;have hb:b≠a:=λz=>hm<|lA R.nd e2<|z▸e;show(R.box m c' b e1 e2).grow (Sub.refl F) id λu z=>by rw[fA hb];show z
 .rw[fA λz=>hn (by rw[z];show(List.mem_iff_getElem?.mpr #[n,e]))];show R.keep b u q hn
theorem Rel.freeze (R:Rel T F r σ H env bx) (e:r[n]?=ae a) (hF:F a=ag) (hH:H a=ae o):Rel T (upd F a o) r σ H env (bx.set n .dead) /\ bC F r (upd F a o) r:=by
 have s:=ia (o:=o) hF;refine#[#[λb u q=>?_,λi w q=>?_,by rw[qY];show R.len,R.nd,λm c' b e1 e2=>?_,R.keep,R.new,R.n0,R.sl,λb u q=>?_],s,qu r]
 .by_cases hb:b=a
  .subst hb;rw[fw]at q;cases q;show hH
  .rw[fA hb]at q;show R.fh b u q
 .let#[v,e1,e2]:=R.slot i w q;show#[v,e1,e2.mono s<|qu r]
 .by_cases hm:m=n
  .subst hm;rw[e]at e2;cases e2;rw[pN (by rw[<-R.len];show(List.getElem?_eq_some_iff.mp e).1)]at e1;cases e1;show#[_,hH]
  .rw[nN<|Ne.symm hm]at e1;have hb:b≠a:=λz=>hm<|lA R.nd e2<|z▸e;show(R.box m c' b e1 e2).grow s (λz=>by rw[fA hb];show z) λu z=>z
 .by_cases hb:b=a
  .subst hb;show .inr<|.inr<|.inr<|List.mem_iff_getElem?.mpr #[n,e]
  .rw[fA hb]at q;show R.fs b u q
def pU (F H:Hp):D->V->zm
 |.lst l,v=>∃ a vs,v=.ref a /\ H a=ae (.lst vs) /\ aE F l vs
 |.au l,v=>∃ a aj,v=.ref a /\ H a=ae (.dK aj) /\ aO F l aj
 |.tup l,v=>∃ a vs,v=.ref a /\ F a=ae (.tup vs) /\ aE F l vs
 |.az,v=>v=.az
 |.bl b,v=>v=.bl b
 |.int i,v=>v=.int i
 |.str x,v=>v=.str x
noncomputable def bN (bx:List Bx):W->Option D
 |.d x=>ae x
 | .b n=>match bx[n]? with
   |some (.lst l)=>ae<|.lst l
   |some (.au l)=>ae<|.au l
   |_=>ag
 |_=>ag
theorem Den.rD (s:Sub F H):∀ {d}{v},Den F d v->pU F H d v
 |.az,_,h=>h
 |.bl _,_,h=>h
 |.int _,_,h=>h
 |.str _,_,h=>h
 |.tup l,_,h=>h
 |.lst l,_,h=>let ⟨a,vs,e,h1,h2⟩:=h;#[a,vs,e,s _ _ h1,h2]
 |.au l,_,h=>let ⟨a,vs,e,h1,h2⟩:=h;#[a,vs,e,s _ _ h1,h2]
theorem Rel.rD (R:Rel T F r σ H env bx) (h:ck F r w v) (e:bN bx w=ae d):pU F H d v:=by
 cases w with
 |d x=>
   cases e;show Den.rD R.fh h
 |b n=>
   let#[a,rfl,ha]:=h;let#[c,hc,k]:=R.eI ha;simp[bN,hc]at e;cases c with
   |lst l=>cases e;let#[_,vs,k1,k2]:=k;show#[a,vs,rfl,k1,k2]
   |au l=>cases e;let#[_,vs,k1,k2]:=k;show#[a,vs,rfl,k1,k2]
   |_=>cases e
 |s l=>cases e
 |x i=>show h.elim
 |_=>cases e
def K0 (F H:Hp):List D->List V->zm
 |[],vs=>vs=[]
 |d::l,vs=>∃ v t,vs=v::t /\ pU F H d v /\ K0 F H l t
def d7 (bx:List Bx):List W->Option (List D)
 |[]=>ae []
 |w::l=>(bN bx w).bind λd=>(d7 bx l).map λt=>d::t
theorem Rel.X0 (R:Rel T F r σ H env bx):∀ {ws}{vs}{ds},nz F r ws vs->d7 bx ws=ae ds->K0 F H ds vs
 |[],_,_,h,e=>by cases e;show h
 | w::l,_,ds,h,e=>by
   let#[v,t,q,h1,h2]:=h;unfold d7 at e;cases e1:bN bx w with
   |none=>rw[e1]at e;cases e
   |some d=>
     rw[e1]at e;cases e2:d7 bx l with
     |none=>rw[e2]at e;cases e
     |some t'=>
       rw[e2]at e;cases e;show#[v,t,q,R.rD h1 e1,R.X0 h2 e2]
inductive Res where
 |old (d:D)|tup (l:List D)|lst (l:List D)|au (l:List<|Key×D)
noncomputable def Res.toD:Res->D
 |.old d=>d|.tup l=>.tup l|.lst l=>.lst l|.au l=>.au l
def wZ (F H:Hp):Res->V->Hp->zm
 |.old d,v,H'=>H'=H /\ Den F d v
 |.tup l,v,H'=>(H'=H /\ Den F (.tup l) v) \/ ∃ p vs,v=.ref p /\ H p=ag /\ H'=upd H p (.tup vs) /\ aE F l vs
 |.lst l,v,H'=>∃ p vs,v=.ref p /\ H p=ag /\ H'=upd H p (.lst vs) /\ aE F l vs
 |.au l,v,H'=>∃ p vs,v=.ref p /\ H p=ag /\ H'=upd H p (.dK vs) /\ aO F l vs
theorem Rel.res (R:Rel T F r σ H env bx):∀ {q},wZ F H q v H'->∃ F',bC F r F' r /\ Rel T F' r σ H' env bx /\ Den F' q.toD v
 | .old d,h=>by
   let#[rfl,h]:=h;show#[F,.refl F r,R,h]
 | .tup l,h=>by
   rcases h with⟨rfl,h⟩|⟨p,vs,rfl,hp,rfl,h⟩
   .show#[F,.refl F r,R,h]
   show#[_,R.uN hp,R.yF hp,p,vs,rfl,fw,aE.mono (R.uN hp).s l h]
 | .lst l,h=>by
   let#[p,vs,rfl,hp,rfl,h]:=h;show#[_,R.uN hp,R.yF hp,p,vs,rfl,fw,aE.mono (R.uN hp).s l h]
 | .au l,h=>by
   let#[p,vs,rfl,hp,rfl,h]:=h;show#[_,R.uN hp,R.yF hp,p,vs,rfl,fw,aO.mono (R.uN hp).s l h]
theorem Rel.resB (R:Rel T F r σ H env bx) (h:wZ F H (.lst l) v H'):∃ r',bC F r F r' /\ Rel T F r' σ H' env (bx++[.lst l]) /\ ck F r' (.b bx.length) v:=by
 let#[p,vs,rfl,hp,rfl,h]:=h;refine#[r++[p],#[Sub.refl F,ya r [p]],R.KZ hp #[R.sD hp,vs,fw,h],p,rfl,?_];rw[<-R.len,pb<|aC _,uF];rfl
theorem Rel.agx (R:Rel T F r σ H env bx) (h:wZ F H (.au l) v H'):∃ r',bC F r F r' /\ Rel T F r' σ H' env (bx++[.au l]) /\ ck F r' (.b bx.length) v:=by
 let#[p,vs,rfl,hp,rfl,h]:=h;refine#[r++[p],#[Sub.refl F,ya r [p]],R.KZ hp #[R.sD hp,vs,fw,h],p,rfl,?_];rw[<-R.len,pb<|aC _,uF];rfl
def cq (b:Bool):Option Res->List Bx->O W
 |none,_=>.bad
 | some q,bx=>match b,q with
   |true,.lst l=>.val (.b bx.length)<|bx++[.lst l]
   |true,.au l=>.val (.b bx.length)<|bx++[.au l]
   |_,_=>.val (.d q.toD) bx
theorem gN (R:Rel T F r σ H env bx) (h:End T Z ck F r σ env Q<|cq b (ae q) bx) (k:wZ F H q v H'):Q v H':=by
 have one:End T Z ck F r σ env Q (.val (.d q.toD) bx)->Q v H':=λh=>by
  let#[F',g,R',d]:=R.res k;show h F' r v H' g R' d
 cases b with
 |false=>show one h
 |true=>
   cases q with
   |old d=>show one h
   |tup l=>show one h
   |lst l=>
     let#[r',g,R',d]:=R.resB k;show h F r' v H' g R' d
   |au l=>
     let#[r',g,R',d]:=R.agx k;show h F r' v H' g R' d
def pE (q:R2) (g:D->D->Option Res):zm:=∀ (F H) (x y) (v w) (Q) (s),Sub F H->pU F H x v->pU F H y w->g x y=ae s->(∀ u H',wZ F H s u H'->Q u H')->q v w H Q
def rF (q:List V->Hp->VK->zm) (g:List D->Option Res):zm:=∀ (F H) (xs) (vs) (Q) (s),Sub F H->K0 F H xs vs->g xs=ae s->(∀ u H',wZ F H s u H'->Q u H')->q vs H Q
def d2 (b:Bool) (g:D->D->Option Res) (ma mb:DE W):DE W:=λenv bx=>fC (ma env bx) λx bx1=>fC (mb env bx1) λy bx2=>cq b ((bN bx2 x).bind λp=>(bN bx2 y).bind λq=>g p q) bx2
theorem GT (hg:pE q g) (σ) (H) (Q) (h:tD T Z (d2 b g ma mb) σ H Q):E5 q (tD T Z ma) (tD T Z mb) σ H Q:=by
 let#[F,r,env,bx,R,h]:=h;refine#[F,r,env,bx,R,End.bind h λx bx1 F1 r1 v H1 g1 R1 d1 h1=>?_];refine#[F1,r1,env,bx1,R1,End.bind h1 λy bx2 F2 r2 w H2 g2 R2 X1 h2=>?_];cases e1:bN bx2 x with
 |none=>rw[e1]at h2;show h2.elim
 |some p=>
   cases e2:bN bx2 y with
   |none=>rw[e1,e2]at h2;show h2.elim
   |some z=>
     cases e3:g p z with
     |none=>rw[e1,e2]at h2;simp[bT,e3]at h2;show h2.elim
     |some s=>
       rw[e1,e2]at h2;simp[bT,e3]at h2;show hg F2 H2 p z v w Q s R2.fh (R2.rD (g2.den d1) e1) (R2.rD X1 e2) e3 λu H' k=>gN R2 h2 k
def dN (b:Bool) (g:List D->Option Res) (k:DE<|List W):DE W:=λenv bx=>fC (k env bx) λws bx1=>cq b ((d7 bx1 ws).bind g) bx1
theorem Mr (hg:rF q g) (σ) (H) (Q) (h:tD T Z (dN b g k) σ H Q):Hb q (KY T Z k) σ H Q:=by
 let#[F,r,env,bx,R,h]:=h;refine#[F,r,env,bx,R,End.bind h λws bx1 F1 r1 vs H1 g1 R1 d1 h1=>?_];cases e1:d7 bx1 ws with
 |none=>rw[e1]at h1;show h1.elim
 |some ds=>
   rw[e1]at h1;cases e2:g ds with
   |none=>simp[bT,e2]at h1;show h1.elim
   |some s=>
     simp[bT,e2]at h1;show hg F1 H1 ds vs Q s R1.fh (R1.X0 d1 e1) e2 λu H' k=>gN R1 h1 k

def dB (m:DE W):DE Bool:=λenv bx=>fC (m env bx) λw bx1=>match w with|.d (.bl k)=>.val k bx1|_=>.bad
theorem Lg (h:wX T Z (dB ma) σ H Q):tB (tD T Z ma) σ H Q:=by
 let#[F,r,env,bx,R,h]:=h;refine#[F,r,env,bx,R,End.bind h λw bx1 F1 r1 v H1 g1 R1 d1 h1=>?_];split at h1
 .ext k;show#[k,d1,h1 F1 r1 k H1 (.refl F1 r1) R1 zc]
 .show h1.elim
theorem aE.isEmpty (h:aE F l vs):l.isEmpty=vs.isEmpty:=by
 have:=h.length;cases l<;>cases vs<;>simp_all
theorem aO.length:∀ {l}{vs},aO F l vs->l.length=vs.length
 | [],_,h=>by
   rw[h];rfl
 | (k,d)::l,_,h=>by
   let#[v,r,e,_,h2]:=h;rw[e,bE,bE,h2.length]
def d3 (g g':D->D->Option Res) (ma mb mc:DE W):DE W:=λenv bx=>fC (ma env bx) λx bx1=>fC (mb env bx1) λy bx2=>
 fC (cq af ((bN bx2 x).bind λp=>(bN bx2 y).bind λq=>g p q) bx2) λz bU=>match z with
  |.d (.bl ah)=>fC (mc env bU) λw dQ=>cq af ((bN dQ y).bind λp=>(bN dQ w).bind λq=>g' p q) dQ
  |.d (.bl af)=>.val (.d<|.bl af) bU
  |_=>.bad
theorem acH (hg:pE q g) (R:Rel T F r σ H env bx) (dx:ck F r x v) (dy:ck F r y w)
 (h:End T Z ck F r σ env Q<|cq af ((bN bx x).bind λp=>(bN bx y).bind λq=>g p q) bx):q v w H Q:=by
 cases e1:bN bx x with
 |none=>rw[e1]at h;show h.elim
 |some p=>
   cases e2:bN bx y with
   |none=>rw[e1,e2]at h;show h.elim
   |some z=>
     cases e3:g p z with
     |none=>rw[e1,e2]at h;simp[bT,e3]at h;show h.elim
     |some s=>
       rw[e1,e2]at h;simp[bT,e3]at h;show hg F H p z v w Q s R.fh (R.rD dx e1) (R.rD dy e2) e3 λu H' k=>gN R h k
theorem GU (hg:pE q g) (Hh:pE q' g') (h:tD T Z (d3 g g' ma mb mc) σ H Q):XC q q' (tD T Z ma) (tD T Z mb) (tD T Z mc) σ H Q:=by
 let#[F,r,env,bx,R,h]:=h;refine#[F,r,env,bx,R,End.bind h λx bx1 F1 r1 v H1 g1 R1 d1 h1=>?_];refine#[F1,r1,env,bx1,R1,End.bind h1 λy bx2 F2 r2 w H2 g2 R2 d2 h2=>?_];refine acH hg R2 (g2.den d1) d2<|End.bind h2 λz bU F3 r3 u H3 g3 R3 d3 h3=>?_;split at h3
 .show#[ah,d3,(#[F3,r3,env,bU,R3,End.bind h3 λt dQ F4 r4 s H4 g4 R4 d4 h4=>(acH Hh R4 (g4.den<|g3.den d2) d4 h4)])]
 .show#[af,d3,(h3 F3 r3 _ H3 (.refl F3 r3) R3 zc)]
 .show h3.elim
def pV (m k:DE Bool):DE Bool:=λenv bx=>fC (m env bx) λb bx1=>match b with|true=>k env bx1|false=>.val af bx1
def qH (m k:DE Bool):DE Bool:=λenv bx=>fC (m env bx) λb bx1=>match b with|true=>.val ah bx1|false=>k env bx1
def pF (m:DE Bool):DE Bool:=λenv bx=>fC (m env bx) λb bx1=>.val (!b) bx1
def K3 (X:Cx) (T:Fr) (Z:Xs) (e:aD) (m:DE Bool):zm:=PW X e<|wX T Z m

theorem RR (h:K3 X T Z e ta):wY X T Z e ta:=h.pt
def gG (m k:DE W):DE W:=λenv bx=>fC (m env bx) λw bx1=>match w with|.d (.bl ah)=>k env bx1|.d (.bl af)=>.val (.d<|.bl af) bx1|_=>.bad
def X2 (m:DE W):DE W:=λenv bx=>fC (m env bx) λw bx1=>match w with|.d (.bl k)=>.val (.d<|.bl<|!k) bx1|_=>.bad
def rG (t:DE Bool) (m k:DE W):DE W:=λenv bx=>fC (t env bx) λb bx1=>match b with|true=>m env bx1|false=>k env bx1
noncomputable def pW:List W->Option (List D)
 |[]=>ae []
 |.d x::l=>(pW l).map λt=>x::t
 |_=>ag
theorem nz.ds:∀ {ws}{vs}{ds},nz F r ws vs->pW ws=ae ds->aE F ds vs
 |[],_,_,h,e=>by cases e;show h
 | .d x::l,_,ds,h,e=>by
   let#[v,t,q,h1,h2]:=h;unfold pW at e;cases e2:pW l with
   |none=>rw[e2]at e;cases e
   |some t'=>
     rw[e2]at e;cases e;show#[v,t,q,h1,h2.ds e2]
 |.b _::l,_,ds,h,e=>by cases e
 |.s _::l,_,ds,h,e=>by cases e
 |.x _::l,_,ds,h,e=>by cases e
 |.t _::l,_,ds,h,e=>by cases e
 |.m _::l,_,ds,h,e=>by cases e
def fN (k:DE<|List W):DE W:=λenv bx=>fC (k env bx) λws bx1=>cq af ((pW ws).bind λl=>if l.length<=sizeLine then ae (.tup l) else ag) bx1
def gR (bo:Bool) (k:DE<|List W):DE W:=λenv bx=>fC (k env bx) λws bx1=>cq bo ((pW ws).bind λl=>if l.length<=sizeLine then ae (.lst l) else ag) bx1
def yG (cl:Nat->aq) (n:Nat) (fn:List W->List Bx->O W):Sp:=λvs H Q E=>∃ F r ws bx,Rel #[H,r.length,F] F r [] H [] bx /\ nz F r ws vs /\ ws.length=n /\ End #[H,r.length,F] #[E,cl] ck F r [] [] Q (fn ws bx)
theorem nz.length:∀ {ws}{vs},nz F r ws vs->ws.length=vs.length
 | [],_,h=>by
   rw[h];rfl
 | d::l,_,h=>by
   let#[v,t,e,_,h2]:=h;rw[e,bE,bE,h2.length]
theorem Rel.enter (R:Rel T F r σ H env bx):Rel #[H,r.length,F] F r [] H [] bx:=
 #[R.fh,λi w e=>by simp at e,R.len,R.nd,R.box,λa u e _=>e,λn a hn e=>(by rw[qZ hn]at e;cases e),aC _,aC _,λa u e=>.inr<|.inl e]
theorem Rel.after (R:Rel T F r σ H env bx) (g:bC F r F' r') (R':Rel #[H,r.length,F] F' r' [] H' [] bx'):Rel T F' r' σ H' env bx':=by
 have pre:∀ (n) (a),r[n]?=ae a->r'[n]?=ae a:=λn a e=>by
  let#[t,rfl]:=g.p;rw[dZ (List.getElem?_eq_some_iff.mp e).1];show e
 have sub:∀ a,a∈r->a∈r':=λa h=>g.p.subset h;refine#[R'.fh,λi w e=>?_,R'.len,R'.nd,R'.box,λa u e hn=>(R'.keep a u (R.keep a u e λz=>hn<|sub a z) hn),λn a hn e=>?_,cj R.n0 g.p.length_le,R.sl,λa u e=>?_]
 .let#[v,e1,e2]:=R.slot i w e;show#[v,e1,g.den e2]
 .by_cases hl:n<r.length
  .have q:=pre n _<|dO hl;rw[e]at q;cases q;show R.new n _ hn<|dO hl
  .have q:H a=ag:=R'.new n a (wu hl) e;cases z:T.H₀ a with
   |none=>rfl
   |some u=>
     have hr:a∉r:=λha=>by
      let#[m,em]:=List.mem_iff_getElem?.mp ha;have:=lA R'.nd (pre m a em) e;show hl (by rw[<-this];show(List.getElem?_eq_some_iff.mp em).1)
     rw[R.keep a u z hr]at q;cases q
 .rcases R'.fs a u e with z|z|z|z
  .show .inl z
  .show(R.fs a u z).imp id (Or.imp id<|Or.imp id<|sub a)
  .by_cases ha:a∈r
   .show .inr<|.inr<|.inr<|sub a ha
   .refine .inr<|.inr<|.inl ?_;cases y:T.H₀ a with
    |none=>rfl
    |some u=>
      have z':H a=ag:=z;rw[R.keep a u y ha]at z';cases z'
  .show .inr<|.inr<|.inr z
def fq (fn:List W->List Bx->O W) (n:Nat) (k:DE<|List W):DE W:=λenv bx=>fC (k env bx) λws bx1=>if ws.length=n then fn ws bx1 else .bad
theorem SV (h:tD T Z (fq fn n k) σ H Q):acf (yG Z.cl n fn) [] Z.E (KY T Z k) σ H Q:=by
 let#[F,r,env,bx,R,h]:=h;refine#[F,r,env,bx,R,End.bind h λws bx1 F1 r1 vs H1 g1 R1 d1 h1=>?_];split at h1
 .ext hl;refine#[F1,r1,ws,bx1,R1.enter,by rw[nq];show d1,hl,?_];cases e:fn ws bx1 with
  |val w bx'=>rw[e]at h1;show λF' r' v H' g R' d=>h1 F' r' v H' g (R1.after g R') d
  |exc c bx'=>rw[e]at h1;show λF' r' H' g R'=>h1 F' r' H' g (R1.after g R').drop
  |bad=>rw[e]at h1;show h1
 .show h1.elim
inductive OS where
 |nx (env:bu) (bx:List Bx)|rt (w:W) (bx:List Bx)|bk (env:bu) (bx:List Bx)|ct (env:bu) (bx:List Bx)|exc (c:Nat) (bx:List Bx)|bad
abbrev aA:=bu->List Bx->OS
def dj (T:Fr) (Z:Xs) (F:Hp) (r:List aq) (D:Ends):OS->zm
 |.nx aP bx'=>∀ F' r' σ' H',bC F r F' r'->Rel T F' r' σ' H' aP bx'->D.nx σ' H'
 |.rt w bx'=>∀ F' r' v H',bC F r F' r'->Rel T F' r' [] H' [] bx'->ck F' r' w v->D.rt v H'
 |.bk aP bx'=>∀ F' r' σ' H',bC F r F' r'->Rel T F' r' σ' H' aP bx'->D.bk σ' H'
 |.ct aP bx'=>∀ F' r' σ' H',bC F r F' r'->Rel T F' r' σ' H' aP bx'->D.ct σ' H'
 |.exc c bx'=>∀ F' r' H',bC F r F' r'->Rel T F' r' [] H' [] bx'->Z.E (.ref<|Z.cl c) ag H'
 |.bad=>False
theorem dj.weak {D}(g:bC F r F' r'):∀ {o},dj T Z F r D o->dj T Z F' r' D o
 |.nx _ _,h=>λF2 r2 s2 H2 g2=>h F2 r2 s2 H2<|g.trans g2
 |.rt _ _,h=>λF2 r2 s2 H2 g2=>h F2 r2 s2 H2<|g.trans g2
 |.bk _ _,h=>λF2 r2 s2 H2 g2=>h F2 r2 s2 H2<|g.trans g2
 |.ct _ _,h=>λF2 r2 s2 H2 g2=>h F2 r2 s2 H2<|g.trans g2
 |.exc _ _,h=>λF2 r2 H2 g2=>h F2 r2 H2<|g.trans g2
 |.bad,h=>h
noncomputable def bJ {α}(m:O α) (k:α->List Bx->OS):OS:=
 match m with
 |.val a bx=>k a bx
 |.exc c bx=>.exc c bx
 |.bad=>.bad
theorem End.bJ {D}(h:dj T Z F r D<|DL.bJ m k)
 (c:∀ d bx1 F1 r1 v H1,bC F r F1 r1->Rel T F1 r1 σ H1 env bx1->R1 F1 r1 d v->dj T Z F1 r1 D (k d bx1)->Q1 v H1):End T Z R1 F r σ env Q1 m:=by
 cases m with
 |val d bx=>show λF' r' v H' g R q=>c d bx F' r' v H' g R q<|dj.weak g h
 |exc n bx=>show h
 |bad=>show h
def tS (T:Fr) (Z:Xs) (m:aA):TS:=λD σ H=>∃ F r env bx,Rel T F r σ H env bx /\ dj T Z F r D (m env bx)
def nU (X:Cx) (T:Fr) (Z:Xs) (s:dW) (m:aA):zm:=PS X s<|tS T Z m
def K4 (X:Cx) (T:Fr) (Z:Xs) (s:List dW) (m:aA):zm:=kW X s<|tS T Z m
section
variable {st:dW}
noncomputable def bc:aA:=λenv bx=>.nx env bx
noncomputable def fu (m k:aA):aA:=λenv bx=>match m env bx with|.nx env1 bx1=>k env1 bx1|o=>o
theorem Ms (h1:nU X T Z st m) (h2:K4 X T Z rest k):K4 X T Z (st::rest) (fu m k):=by
 refine kW.imp (L8 h1 h2) λD σ H=>bK λF r env bx R h=>#[F,r,env,bx,R,?_];unfold fu at h;cases e:m env bx with
 |nx env1 bx1=>rw[e]at h;show λF1 r1 σ1 H1 g R1=>#[F1,r1,env1,bx1,R1,dj.weak g h]
 |rt w bx1=>rw[e]at h;show h
 |bk env1 bx1=>rw[e]at h;show h
 |ct env1 bx1=>rw[e]at h;show h
 |exc c bx1=>rw[e]at h;show h
 |bad=>rw[e]at h;show h
noncomputable def acI:aA:=λenv bx=>.bk env bx
noncomputable def acJ:aA:=λenv bx=>.ct env bx
def gz (m:DE W):aA:=λenv bx=>bJ (m env bx) λ_ bx1=>.nx env bx1
def fJ (m:DE W):aA:=λenv bx=>bJ (m env bx) λw bx1=>.rt w bx1
def aV (t:DE Bool) (m k:aA):aA:=λenv bx=>bJ (t env bx) λb bx1=>match b with|true=>m env bx1|false=>k env bx1
abbrev DG:=W->bu->List Bx->Option (bu×List Bx)
abbrev vR:=List W->bu->List Bx->Option (bu×List Bx)
noncomputable def acK (T:Fr) (F:Hp) (r:List aq) (Q:St->Hp->zm):Option (bu×List Bx)->zm
 |none=>False
 |some (aP,bx')=>∀ F' r' σ' H',bC F r F' r'->Rel T F' r' σ' H' aP bx'->Q σ' H'
def tG (T:Fr) (g:DG):TG:=λv σ H Q=>∃ F r env bx w,Rel T F r σ H env bx /\ ck F r w v /\ acK T F r Q (g w env bx)
def agy (T:Fr) (g:vR):yr:=λvs σ H Q=>∃ F r env bx ws,Rel T F r σ H env bx /\ nz F r ws vs /\ acK T F r Q (g ws env bx)
def sF (X:Cx) (T:Fr) (tg:aD) (g:DG):zm:=PG X tg<|tG T g
def K5 (X:Cx) (T:Fr) (tg:List aD) (g:vR):zm:=tW X tg<|agy T g
theorem PG.imp (h:PG X tg t) (f:∀ v σ H Q,t' v σ H Q->t v σ H Q):PG X tg t':=λpins s σ H v u Q I r q=>h pins s σ H v u Q I r<|f v σ H Q q
theorem tW.imp (h:tW X tg t) (f:∀ v σ H Q,t' v σ H Q->t v σ H Q):tW X tg t':=λpins s σ H v u Q I r q=>h pins s σ H v u Q I r<|f v σ H Q q
noncomputable def fg (i:Nat):DG:=λw env bx=>ae (env.set i<|ae w,bx)
theorem Rel.set (R:Rel T F r σ H env bx) (d:ck F r w v) (i):Rel T F r (σ.set i<|ae v) H (env.set i<|ae w) bx:=by
 refine#[R.fh,λj w' e=>?_,R.len,R.nd,R.box,R.keep,R.new,R.n0,by rw[qY,qY];show R.sl,R.fs];by_cases hj:j=i
 .subst hj;have hl:j<env.length:=by
   have:=(List.getElem?_eq_some_iff.mp e).1;rw[qY]at this;show this
  rw[pN hl]at e;cases e;show#[v,pN<|kA hl R.sl,d]
 .rw[nN<|Ne.symm hj]at e;let#[u,e1,e2]:=R.slot j w' e;show#[u,by rw[nN<|Ne.symm hj];show e1,e2]
theorem Mt (i) (hN:X.N.Nodup) (hi:X.N[i]?=ae x:=by rfl) (hx:Loc X.env.scope x:=by first|show Or.inl zc|show Or.inr zc) (hf:X.fn x=ah \/ X.env.scope.names.lookup x=ae .local:=by first|show .inl zc|show .inr zc|assumption):sF X T (.Name x pos) (fg i):=
 PG.imp (CL hN hi hx hf) λv σ H Q=>Hg λF r env bx w R d h=>h F r _ H (.refl F r)<|R.set d i
noncomputable def gE:vR:=λws env bx=>match ws with|[]=>ae (env,bx)|_=>ag
noncomputable def fH (g:DG) (k:vR):vR:=λws env bx=>match ws with|w::l=>(g w env bx).bind λ(env1,bx1)=>k l env1 bx1|_=>ag
theorem Lh {k}(h1:sF X T e g) (h2:K5 X T es k) (hs:(assignEach (e::es) X.env).map (·.2)=assign e X.env::(assignEach es X.env).map (·.2):=by rfl):K5 X T (e::es) (fH g k):=by
 refine tW.imp (AT h1 h2 hs) λv σ H Q=>Hg λF r env bx ws R d h=>?_;cases ws with
 |nil=>show h.elim
 |cons w l=>
   let#[u,t,rfl,d1,d2]:=d;refine#[u,t,rfl,F,r,env,bx,w,R,d1,?_];unfold fH at h;cases eg:g w env bx with
   |none=>simp[eg]at h;show h.elim
   |some o=>
     let#[env1,bx1]:=o;simp[eg,bT]at h;intro F1 r1 σ1 H1 g1 R1;refine#[F1,r1,env1,bx1,l,R1,d2.mono g1,?_];cases ek:k l env1 bx1 with
     |none=>simp[ek]at h;show h.elim
     |some o2=>
       simp[ek]at h;show λF2 r2 σ2 H2 g2 R2=>h F2 r2 σ2 H2 (g1.trans g2) R2
theorem aE.ws:∀ {l}{vs},aE F l vs->nz F r (l.map W.d) vs
 |[],_,h=>h
 | d::l,_,h=>by
   let#[v,t,e,h1,h2]:=h;show#[v,t,e,h1,h2.ws]
noncomputable def gC (n:Nat) (k:vR):DG:=λw env bx=>match w with|.d (.tup l)=>if l.length=n then k (l.map W.d) env bx else ag|_=>ag
theorem OH {k}(hc:X.calm=ah) (h:K5 X T es k) (hn:(assignEach es X.env).length=n:=by rfl) (EX:(assignEach es X.env).findIdx? (·.1)=ag:=by rfl):sF X T (.Tuple es i pos) (gC n k):=by
 refine PG.imp (Ma hc h hn EX) λv σ H Q=>Hg λF r env bx w R d h=>?_;unfold gC at h;split at h
 .split at h
  .ext hl;let#[p,vs,rfl,h1,h2]:=d;show#[p,vs,rfl,.of<|R.fh _ _ h1,by rw[<-h2.length];show hl,F,r,env,bx,_,R,h2.ws,h]
  .show h.elim
 .show h.elim
def fI (m:DE W) (g:DG):aA:=λenv bx=>bJ (m env bx) λw bx1=>match g w env bx1 with|some (env1,bx2)=>.nx env1 bx2|none=>.bad
theorem GV (he:PD X T Z e ma) (hg:sF X T tg g) (hs:swapsWithSole [tg] e pos.line X.env=pure af:=by rfl) (hw:swappedStores [tg] e X.env=pure ag:=by rfl)
 (h1:(assignEach [tg] X.env).map (·.2)=[assign tg X.env]:=by rfl):nU X T Z (.Assign [tg] e pos) (fI ma g):=
 PS.imp (Mb he hg hs hw h1) λD σ H h=>(λh=>by
  let#[F,r,env,bx,R,h]:=h;refine#[F,r,env,bx,R,End.bJ h λw bx1 F1 r1 v H1 g1 R1 d1 h1=>#[F1,r1,env,bx1,w,R1,d1,?_]];cases eg:g w env bx1 with
  |none=>simp[eg]at h1;show h1.elim
  |some o=>simp[eg]at h1;show h1) h
theorem GW (i) (he:PD X T Z e ma) (hN:X.N.Nodup) (hi:X.N[i]?=ae x:=by rfl) (hx:Loc X.env.scope x:=by first|show Or.inl zc|show Or.inr zc) (hs:swapsWith e (ae<|.Name x pos') pos.line X.env=pure af:=by rfl) (hf:X.fn x=ah \/ X.env.scope.names.lookup x=ae .local:=by first|show .inl zc|show .inr zc|assumption) :
 nU X T Z (.Assign [.Name x pos'] e pos) (fI ma<|fg i):=PS.imp (SD hN hi hx he hs hf) λD σ H=>bK λF r env bx R h=>(#[F,r,env,bx,R,End.bJ h λw bx1 F1 r1 v H1 g1 R1 d1 h1=>h1 F1 r1 _ H1 (.refl F1 r1)<|R1.set d1 i])
def eE (i j:Nat) (m:DE<|List W):aA:=λenv bx=>bJ (m env bx) λws bx1=>match ws with|[x,y]=>.nx ((env.set i<|ae x).set j<|ae y) bx1|_=>.bad
theorem US {m}{D}(h:tS T Z (eE i j m) D σ H):ab3 i j (KY T Z m) D σ H:=by
 let#[F,r,env,bx,R,h]:=h;refine#[F,r,env,bx,R,End.bJ h λws bx1 F1 r1 vs H1 g1 R1 d1 h1=>?_];split at h1
 .let#[v,t,rfl,q1,u,t2,rfl,q2,q3]:=d1;cases (q3);show#[v,u,rfl,h1 F1 r1 _ H1 (.refl F1 r1)<|(R1.set q1 i).set q2 j]
 .show h1.elim
def vS (F:Hp) (r:List aq) (ds:List W) (J:It):zm:=
 ∀ (T:Fr) (i:Nat) (F1:Hp) (r1:List aq) (σ1:St) (H1:Hp) (env1:bu) (bx1:List Bx),bC F r F1 r1->Rel T F1 r1 σ1 H1 env1 bx1 ->
  (ds.length=i->J.stop i H1) /\ ∀ w,ds[i]?=ae w->J.go i H1 /\ ∀ x H2,J.EZ i H1 x H2->∃ F2,bC F1 r1 F2 r1 /\ Rel T F2 r1 σ1 H2 env1 bx1 /\ ck F2 r1 w x
def tI (T:Fr) (Z:Xs) (m:DE<|List W):TI:=λσ H R=>∃ F r env bx,Rel T F r σ H env bx /\ End T Z vS F r σ env R (m env bx)
def yH (X:Cx) (T:Fr) (Z:Xs) (tg iter:aD) (m:DE<|List W):zm:=PI X tg iter<|tI T Z m
theorem PI.imp (h:PI X tg iter t) (f:∀ σ H Q,t' σ H Q->t σ H Q):PI X tg iter t':=λpins s σ H R I q=>h pins s σ H R I<|f σ H R q
noncomputable def bR (g:DG) (body:aA):List W->aA
 |[],env,bx=>.nx env bx
 | w::l,env,bx=>match g w env bx with
   |none=>.bad
   | some (env1,bx1)=>match body env1 bx1 with
     |.nx env2 bx2=>bR g body l env2 bx2
     |.ct env2 bx2=>bR g body l env2 bx2
     |.bk env2 bx2=>.nx env2 bx2
     |o=>o
def ic (m:DE<|List W) (g:DG) (body:aA):aA:=λenv bx=>bJ (m env bx) λds bx1=>bR g body ds env bx1
theorem Mu {D}(R1:Rel T F1 r1 σ H1 env bx1) (y1:vS F1 r1 ds J) (h1:dj T Z F1 r1 D<|bR g m ds env bx1) :
 ∃ W:Nat->Nat->St->Hp->zm,(∃ m,W 0 m σ H1) /\ ∀ i n σ H,W i n σ H->(J.stop i H /\ D.nx σ H) \/ (J.go i H /\ ∃ N,(∀ σ' H',N σ' H'->∃ n',n'<n /\ W (i+1) n' σ' H') /\ ∀ x H',J.EZ i H x H'->tG T g x σ H' λσ2 H2=>tS T Z m { D with nx:=N,ct:=N,bk:=D.nx } σ2 H2):=by
 refine#[λi n σ' H'=>∃ pre l F' r' aP bx',ds=pre++l /\ pre.length=i /\ n=l.length /\ bC F1 r1 F' r' /\ Rel T F' r' σ' H' aP bx' /\ dj T Z F' r' D (bR g m l aP bx'),#[ds.length,[],ds,F1,r1,env,bx1,rfl,rfl,rfl,.refl F1 r1,R1,h1],?_];rintro i n σ' H' ⟨pre,l,F',r',aP,bx',qC,hi,hn,g',R',h'⟩;let#[ys,yg]:=y1 T i F' r' σ' H' aP bx' g' R';cases l with
 |nil=>show .inl #[ys (by rw[qC,nq];lia),h' F' r' σ' H' (.refl F' r') R']
 |cons w l=>
   let#[go,yl]:=yg w (by rw[qC,pb za,hi,uF];rfl);refine .inr #[go,λσ2 H2=>∃ F2 r2 env2 bx2,bC F1 r1 F2 r2 /\ Rel T F2 r2 σ2 H2 env2 bx2 /\ dj T Z F2 r2 D _,λσ2 H2 ⟨F2,r2,env2,bx2,g2,R2,h2⟩=>#[l.length,by rw[hn];show n6 _,pre++[w],l,F2,r2,env2,bx2,by rw[qC,nO];rfl,by rw[cW,hi];rfl,rfl,g2,R2,h2],λx H2 hy=>?_];let#[F2,g2,R2,d2]:=yl x H2 hy;refine#[F2,r',aP,bx',w,R2,d2,?_];simp[bR]at h';cases eg:g w aP bx' with
   |none=>simp[eg]at h';show h'.elim
   |some o=>
     let#[rH,bU]:=o;simp[eg]at h';intro F3 r3 σ3 H3 g3 R3;refine#[F3,r3,rH,bU,R3,?_];have gg:=(g'.trans g2).trans g3;cases em:m rH bU with
     |nx uO dQ=>simp[em]at h';show λF4 r4 σ4 H4 g4 R4=>#[F4,r4,uO,dQ,gg.trans g4,R4,dj.weak ((g2.trans g3).trans g4) h']
     |ct uO dQ=>simp[em]at h';show λF4 r4 σ4 H4 g4 R4=>#[F4,r4,uO,dQ,gg.trans g4,R4,dj.weak ((g2.trans g3).trans g4) h']
     |bk uO dQ=>simp[em]at h';show λF4 r4 σ4 H4 g4 R4=>h' F4 r4 σ4 H4 ((g2.trans g3).trans g4) R4
     |rt w dQ=>simp[em]at h';show dj.weak (g2.trans g3) h'
     |exc c dQ=>simp[em]at h';show dj.weak (g2.trans g3) h'
     |bad=>simp[em]at h';show h'
theorem UT {D}(h:tS T Z (ic mi g m) D σ H):Kv (tI T Z mi) (tG T g) (tS T Z m) D σ H:=by
 let#[F,r,env,bx,R,h]:=h;show#[F,r,env,bx,R,End.bJ h λds bx1 F1 r1 J H1 g1 R1 y1 h1=>Mu R1 y1 h1]
def bG (m:DE W):DE (List W):=λenv bx=>fC (m env bx) λw bx1=>match w with|.d (.lst l)=>.val (l.map W.d) bx1|.d (.tup l)=>.val (l.map W.d) bx1|_=>.bad
end
noncomputable def pX:OS->O W
 |.rt w bx=>.val w bx
 |.nx _ bx=>.val (.d .az) bx
 |.exc c bx=>.exc c bx
 |_=>.bad
noncomputable def pY (n:Nat):O W->O W
 |.val (.d x) bx=>.val (.d x)<|bx.take n
 |.val w bx=>.val w bx
 |.exc c bx=>.exc c<|bx.take n
 |.bad=>.bad
noncomputable def envOf (n:Nat) (ws:List W):bu:=ws.map ae++List.replicate (n-ws.length) ag
def aY (n:Nat) (m:aA):List W->List Bx->O W:=λws bx=>pY bx.length<|pX<|m (envOf n ws) bx
noncomputable def aQ (m:aA):aA:=λenv bx=>match m env bx with|.exc _ _=>.bad|o=>o
theorem nz.get:∀ {l}{vs}{i:Nat}{d},nz F r l vs->l[i]?=ae d->∃ v,vs[i]?=ae v /\ ck F r d v
 |[],_,_,_,_,e=>by simp at e
 | x::l,_,0,d,h,e=>by
   let#[v,t,q,h1,_]:=h;simp at e;subst e;subst q;show#[v,rfl,h1]
 | x::l,_,i+1,d,h,e=>by
   let#[v,t,q,_,h2]:=h;subst q;let#[u,e1,e2]:=nz.get h2 (by simpa using e);show#[u,by simpa using e1,e2]
theorem Rel.start (R:Rel T F r [] H [] bx) (d:nz F r ws vs):Rel T F r (start N vs) H (envOf N.length ws) bx:=by
 have hl:=d.length;refine#[R.fh,λi w e=>?_,R.len,R.nd,R.box,R.keep,R.new,R.n0,?_,R.fs]
 .unfold envOf at e;unfold L2.start;by_cases hi:i<ws.length
  .rw[dZ (by rw[aK];show hi),kJ]at e;cases q:ws[i]? with
   |none=>rw[q]at e;cases e
   |some w'=>
     rw[q]at e;cases e;let#[v,e1,e2]:=d.get q;refine#[v,?_,e2];rw[dZ (by rw[aK,<-hl];show hi),kJ,e1];rfl
  .rw[pb (by rw[aK];lia)]at e;rw[aav]at e;split at e<;>cases e
 .unfold envOf L2.start;rw[cW,cW,aK,aK,WI,WI,hl];show aC _
theorem UU {α:Type}{l l':List α}(h:l <+: l'):l'.take l.length=l:=by
 let#[t,rfl]:=h;simp
theorem Rel.cut (g:bC F r F' r') (R:Rel #[H,r.length,F] F' r' [] H' [] bx'):Rel #[H,r.length,F] F' r [] H' [] (bx'.take r.length):=by
 have hle:=g.p.length_le;have pre:∀ (n) (a),r[n]?=ae a->r'[n]?=ae a:=λn a e=>by
  let#[t,rfl]:=g.p;rw[dZ (List.getElem?_eq_some_iff.mp e).1];show e
 refine#[R.fh,λi w e=>by simp at e,?_,(List.Sublist.nodup (List.IsPrefix.sublist g.p) R.nd),λn c a e1 e2=>?_,λa u e hn=>?_,λn a hn e=>?_,aC _,aC _,λa u e=>?_]
 .rw[wy,<-R.len];lia
 .rw[aaw (List.getElem?_eq_some_iff.mp e2).1]at e1;show R.box n c a e1<|pre n a e2
 .refine R.keep a u e λz=>?_;let#[m,em]:=List.mem_iff_getElem?.mp z;by_cases hm:m<r.length
  .have q:=pre m _<|dO hm;rw[em]at q;cases q;show hn<|tQ hm
  .have q':=(R.new m a (wu hm) em);rw[e]at q';cases q'
 .rw[qZ hn]at e;cases e
 .rcases R.fs a u e with y|z|z|z
  .show .inl y
  .show .inr<|.inl z
  .show .inr<|.inr<|.inl z
  .let#[m,em]:=List.mem_iff_getElem?.mp z;by_cases hm:m<r.length
   .have q:=pre m _<|dO hm;rw[em]at q;cases q;show .inr<|.inr<|.inr<|tQ hm
   .show .inr<|.inr<|.inl<|R.new m a (wu hm) em
theorem OI {bx:List Bx}(hb:bx.length=r.length) (h:End #[H,r.length,F] Z ck F r [] [] Q<|pY bx.length o):End #[H,r.length,F] Z ck F r [] [] Q o:=by
 rw[hb]at h;cases o with
 |bad=>show h
 |exc c bx1=>show λF' r' H' g R=>h F' r H' #[g.s,qu r]<|R.cut g
 |val w bx1=>
   cases w with
   |d x=>show λF' r' v H' g R d=>h F' r v H' #[g.s,qu r] (R.cut g) d
   |b n=>show h
   |s l=>show h
   |x i=>show h
   |_=>show h
theorem OJ (h:End T Z ck F r [] [] Q<|pX o):dj T Z F r { nx:=λ_ H'=>Q .az H',rt:=Q } o:=by
 cases o with
 |nx env bx=>show λF' r' σ' H' g R=>h F' r' .az H' g R.drop zc
 |rt w bx=>show λF' r' v H' g R d=>h F' r' v H' g R d
 |exc c bx=>show h
 |bk env bx=>show(h).elim
 |ct env bx=>show(h).elim
 |bad=>show h

theorem GX:Passes (vP X.prog X.w) X E0:=λ_ _ _ _ _ _ _ h=>by
 let#[_,_,_,_,_,_,_,_,_,_,_,_,_,h]:=h;show h.elim

noncomputable def bindB {α β}(m:O α) (k:α->List Bx->O β):O β:=
 match m with
 |.val a bx=>k a bx
 |_=>.bad
def bO (g:DG) (tf:DE Bool) (te:DE W):List W->bu->List Bx->List D->O (List D)
 |[],_,bx,acc=>.val acc bx
 | w::l,env,bx,acc=>match g w env bx with
   |none=>.bad
   | some (env1,bx1)=>bindB (tf env1 bx1) λb bx2=>match b with
     |false=>bO g tf te l env1 bx2 acc
     | true=>bindB (te env1 bx2) λy bU=>match y with
       |.d d=>if acc.length<sizeLine then bO g tf te l env1 bU (acc++[d]) else .bad
       |_=>.bad
noncomputable def eV (src:List<|Option Nat) (env:bu):bu:=src.map λo=>o.bind λi=>(env[i]?).bind id
def fO (bo:Bool) (src:List<|Option Nat) (mi:DE<|List W) (g:DG) (tf:DE Bool) (te:DE W):DE W:=λenv bx=>
 fC (mi env bx) λds bx1=>fC (bO g tf te ds (eV src env) bx1 []) λl bx2=>cq bo (ae<|.lst l) bx2
theorem Rel.src (R:Rel T F r σ H env bx) (src):Rel T F r (vM src σ) H (eV src env) bx:=by
 refine#[R.fh,λj w e=>?_,R.len,R.nd,R.box,R.keep,R.new,R.n0,?_,R.fs]
 .unfold eV at e;unfold L2.vM;rw[kJ]at e ⊢;cases q:src[j]? with
  |none=>rw[q]at e;cases e
  |some o=>
    rw[q]at e;cases o with
    |none=>cases e
    |some i=>
      have e':(env[i]?).bind id=ae w:=Option.some.inj e;cases z:env[i]? with
      |none=>rw[z]at e';cases e'
      |some o'=>
        rw[z]at e';have e2:=e';subst e2;let#[v,e1,e2]:=R.slot i w z;show#[v,by simp[e1],e2]
 .unfold eV L2.vM;rw[aK,aK];show aC _
theorem Rel.inner (R:Rel T F r σ H env bx) (g:bC F r F' r') (R':Rel #[H,r.length,F] F' r' σ' H' aP bx'):Rel T F' r' σ' H' aP bx':=by
 have q:=R.after g R'.drop;show#[q.fh,R'.slot,q.len,q.nd,q.box,q.keep,q.new,q.n0,R'.sl,q.fs]
theorem Rel.again (R:Rel T F r σ H env bx):Rel #[H,r.length,F] F r σ H env bx:=
 #[R.fh,R.slot,R.len,R.nd,R.box,λa u e _=>e,λn a hn e=>(by rw[qZ hn]at e;cases e),aC _,R.sl,λa u e=>.inr<|.inl e]
structure Own (F:Hp) (r:List aq) (H:Hp) (a:aq) (vs:List V):zm where
 h:H a=ae (.lst vs)
 f:F a=ag
 b:a∉r
theorem Own.inner (o:Own F r H a vs) (g:bC F r F' r') (R':Rel #[H,r.length,F] F' r' σ' H' aP bx'):Own F' r' H' a vs:=by
 have hb:a∉r':=λz=>by
  let#[m,em]:=List.mem_iff_getElem?.mp z;by_cases hm:m<r.length
  .let#[t,e]:=g.p;rw[<-e,dZ hm]at em;show o.b<|List.mem_iff_getElem?.mpr #[m,em]
  .have q:H a=ag:=R'.new m a (wu hm) em;rw[o.h]at q;cases q
 refine#[R'.keep a _ o.h hb,?_,hb];cases q:F' a with
 |none=>rfl
 |some u=>
   rcases R'.fs a u q with⟨yD,rfl⟩|z|z|z
   .have:=R'.fh a _ q;rw[R'.keep a _ o.h hb]at this;cases this
   .have z':F a=ae u:=z;rw[o.f]at z';cases z'
   .have z':H a=ag:=z;rw[o.h]at z';cases z'
   .show absurd z hb
end L2.DL
namespace L2
theorem Li {K} (it) (lo) (n):Turn P w K tg (wM lo n) [it] it (λi h=>IsLongIter h it (lo+(i)*1) ((n)-(i)) 1) where
 mem:=by simp
 obj:=λi h st b hb=>by
  have e:b=it:=by simpa using hb
  subst e;show#[_,st,λv z=>by
   cases z]
 keep:=λi h h' st k=>k it zg _ st
 item:=by
  intro X hP hw hK hc i pins s σ H E I hf st hg;subst hP hw hK;let#[f0,f1,f2,f3,f4,f5]:=hf it zg;refine(Walks.longrange (prog:=X.prog) (w:=X.w) (I.ok.hd hc) it lo 1 n).item i s _ _ hg st λv h' tk hv pR kk=>?_;let#[t,rfl]:=hv;refine#[_,rfl,DB pR zc zc (by decide) #[.int<|lo+i,H,(I.turned (λb o hb e=>kk b o (by simpa using hb) e) f0 f1 f3 f4 f5),#[t,?_],#[rfl,rfl],pR,λb hb=>(hf b hb).1]];rw[Kg]
 done:=by
  intro X hP hw hK hc i pins s σ H E I hf st hg;let#[f0,f1,f2,f3,f4,f5]:=hf it zg;show wpAny_pyNext_long_end (I.ok.hd hc) st (by have:n<=i:=hg;lia) λh' eb=>#[rfl,I.turned (λb o hb e=>eb b o hb e) f0 f1 f3 f4 f5]
 self:=λ_ _ _ _ _ st h=>wpAny_pyIter_longiter st h

theorem oW {lo}(I:Inv X pins σ H s)
 (q:R (wM lo (hi-lo).toNat) H):wpAny zi X.A (pyIter<|.ref s.heap.objs.size) (Xx X pins σ tg R) E { s with heap:=s.heap.push { cls:=.type "range",data:=.fields (List.toArray [.int lo t,.int hi u,.int 1 v]) },toks:=tk }:=by
 have e1:lo+((0))*1=lo:=by simp
 have e2:(((hi-lo).toNat))-((0))=Builtin.Range.rangeSize lo hi 1:=by rw[Z2];split<;>lia
 have I1:Inv X pins σ H { s with heap:=s.heap.push { cls:=.type "range",data:=.fields (List.toArray [.int lo t,.int hi u,.int 1 v]) },toks:=tk }:=I.kept λb o e=>aU _ e;have hf:∀ b∈[(s.heap.push { cls:=.type "range",data:=.fields (List.toArray [.int lo t,.int hi u,.int 1 v]) }).objs.size],rq X pins H b:=λb hb=>by
  have e:b=(s.heap.push { cls:=.type "range",data:=.fields (List.toArray [.int lo t,.int hi u,.int 1 v]) }).objs.size:=by simpa using hb
  subst e;show I1.wL (aC _)<|I1.aB.fresh<|aC _
 cases hb:Builtin.Range.small lo hi 1 with
 |true=>
   refine Z1 (IsRange.new ..) hb ?_;refine#[_,_,_,_,H,rfl,I1.kept λb o e=>aU _ e,AU _ lo (hi-lo).toNat,?_,hf,q];change IsRangeIter _ _ (lo+((0))*1) ((((hi-lo).toNat))-((0))) 1;rw[e1,e2];show bF _ zc
 |false=>
   refine wpAny_pyIter_longrange (IsRange.new ..) hb ?_;refine#[_,_,_,_,H,rfl,I1.kept λb o e=>aU _ e,Li _ lo (hi-lo).toNat,?_,hf,q];change IsLongIter _ _ (lo+((0))*1) ((((hi-lo).toNat))-((0))) 1;rw[e1,e2];show bF _ zc
def agz (ta:TA):TI:=λσ H R=>ta σ H λvs H1=>∃ i j,vs=[.int i,.int j] /\ R (wM i (j-i).toNat) H1
theorem Lj (hg:Gl X "range") (hm:X.mg "range"=ag) (ha:PA X [a,b] ta) (hs:starEach [a,b] X.env=[(af,eval a X.env),(af,eval b X.env)]:=by rfl) (nV:starEach [b] X.env=[(af,eval b X.env)]:=by rfl) :
 PI X tg (.Call (.Name "range" p) [a,b] [] pos) (agz ta):=by
 intro pins s σ H R I h;refine Call_<|iI I hg hm boot_range<|Ka (qB (ha pos pins s σ H _ I h) λus s1 vs H1 I1 r1 q1=>?_) (by rw[hs,nV]) (by rw[nV];rfl);let#[i,j,e,q]:=q1;subst e;cases r1 with
 |cons r rr=>
   cases rr with
   |cons r' rr=>
     cases rr;let#[t,rfl]:=r;let#[t',rfl]:=r';show call_range_2<|oW I1 q
end L2
namespace L2.DL

theorem Rel.X3 (R:Rel T F r σ H env bx) (h:H p=ag):Rel T F r σ (upd H p o) env bx:=by
 have hs:∀ a u,H a=ae u->upd H p o a=ae u:=λa u e=>by rw[fA<|f7 e h];show e
 show#[λa u e=>hs a u<|R.fh a u e,R.slot,R.len,R.nd,λn c a e1 e2=>(R.box n c a e1 e2).grow (Sub.refl F) id<|hs a,λa u e hn=>hs a u<|R.keep a u e hn,R.new,R.n0,R.sl,R.fs]
theorem Rel.agA (R:Rel T F r σ H env bx) (w:Own F r H p vs) (hT:T.H₀ p=ag):Rel T F r σ (upd H p o) env bx:=by
 refine#[λa u e=>?_,R.slot,R.len,R.nd,λn c a e1 e2=>?_,λa u e hn=>?_,R.new,R.n0,R.sl,R.fs]
 .rw[fA (λz=>by rw[z,w.f]at e;cases e)];show R.fh a u e
 .have ha:a≠p:=λz=>w.b<|List.mem_iff_getElem?.mpr #[n,z▸e2];show(R.box n c a e1 e2).grow (Sub.refl F) id λu z=>by rw[fA ha];show z
 .rw[fA (λz=>by rw[z,hT]at e;cases e)];show R.keep a u e hn
theorem Rel.agB (R:Rel T F r σ H env bx) (w:Own F r H p vs) (hT:T.H₀ p=ag):Rel T (upd F p<|.lst vs) r σ H env bx /\ bC F r (upd F p<|.lst vs) r:=by
 have s:=ia (o:=.lst vs) w.f;refine#[#[λa u e=>?_,λi w e=>?_,R.len,R.nd,λn c a e1 e2=>?_,R.keep,R.new,R.n0,R.sl,λa u e=>?_],s,qu r]
 .by_cases ha:a=p
  .subst ha;rw[fw]at e;cases e;show w.h
  .rw[fA ha]at e;show R.fh a u e
 .let#[v,e1,e2]:=R.slot i w e;show#[v,e1,e2.mono s<|qu r]
 .have ha:a≠p:=λz=>w.b<|List.mem_iff_getElem?.mpr #[n,z▸e2];show(R.box n c a e1 e2).grow s (λz=>by rw[fA ha];show z) λu z=>z
 .by_cases ha:a=p
  .subst ha;show .inr<|.inr<|.inl hT
  .rw[fA ha]at e;show R.fs a u e
theorem Rel.agC (R:Rel T F r σ H env bx) (w:Own F r H p vs) (hT:T.H₀ p=ag) (d:aE F l vs):Rel T F (r++[p]) σ H env (bx++[.lst l]) /\ bC F r F (r++[p]) /\ (r++[p])[bx.length]?=ae p:=by
 have g:bC F r F _:=#[Sub.refl F,ya r [p]];refine#[#[R.fh,λi w e=>?_,by rw[cW,cW,R.len];rfl,?_,λn c' a e1 e2=>?_,λa u e hn=>R.keep a u e λz=>hn<|qX _ z,λn a hn e=>?_,by rw[cW];show cj R.n0 (xT _ _),R.sl,λa u e=>(R.fs a u e).imp id<|Or.imp id<|Or.imp id λz=>qX _ z],g,(by rw[<-R.len,pb<|aC _,uF];rfl)]
 .let#[v,e1,e2]:=R.slot i w e;show#[v,e1,g.den e2]
 .rw[vz];refine#[R.nd,by simp,λa ha b hb=>?_];rw[di]at hb;subst hb;show λz=>w.b<|z▸ha
 .by_cases hn:n<r.length
  .rw[dZ hn]at e2;rw[dZ (by rw[<-R.len];show hn)]at e1;show R.box n c' a e1 e2
  .rw[pb za]at e2;rw[pb (by rw[<-R.len];lia)]at e1;have hl:n-r.length=0:=by
    cases q:n-r.length with
    |zero=>rfl
    |succ k=>rw[q]at e2;simp at e2
   have nT:n-bx.length=0:=by rw[<-R.len];show hl
   rw[hl]at e2;rw[nT]at e1;simp at e1 e2;subst e1 e2;show#[w.f,vs,w.h,d]
 .by_cases hl:n<r.length
  .rw[dZ hl]at e;show R.new n a hn e
  .have hp:a=p:=by
    rw[pb za]at e;cases q:n-r.length with
    |zero=>rw[q]at e;simp at e;show e.symm
    |succ k=>rw[q]at e;simp at e
   subst hp;show hT

abbrev Hi (g:DG):TG:=λv σ H Q=>∃ T,tG T g v σ H Q
abbrev Hj (Z:Xs) (tf:DE Bool):TT:=λσ H Q=>∃ T,wX T Z tf σ H Q
abbrev Hl (Z:Xs) (te:DE W):TE:=λσ H Q=>∃ T,tD T Z te σ H Q
theorem Rel.slots (R:Rel T F r σ H env bx) (g:bC F r F' r') (R':Rel T' F' r' σ' H' aP bx'):Rel T' F' r' σ H' env bx' :=
 #[R'.fh,λi w e=>let ⟨v,e1,e2⟩:=R.slot i w e;#[v,e1,g.den e2],R'.len,R'.nd,R'.box,R'.keep,R'.new,R'.n0,R.sl,R'.fs]
theorem FZ (R1:Rel T F1 r1 σ H1 env bx1) (y1:vS F1 r1 ds J)
 (h1:End T Z ck F1 r1 σ env Q<|fC (bO g tf te ds (eV src env) bx1 []) λl bx2=>cq bo (ae<|.lst l) bx2) (Da) (hD:H1 Da=ag):acx J (Hi g) (Hj #[E0,Z.cl] tf) (Hl #[E0,Z.cl] te) Da Q (vM src σ) (upd H1 Da<|.lst []):=by
 have hT:T.H₀ Da=ag:=by
  cases q:T.H₀ Da with
  |none=>rfl
  |some u=>rw[R1.keep Da u q<|R1.yE hD]at hD;cases hD
 refine#[λi n σ' H'=>∃ pre l F' r' aP bx' acc vs,ds=pre++l /\ pre.length=i /\ n=l.length /\ bC F1 r1 F' r' /\ Rel T F' r' σ' H' aP bx' /\ Own F' r' H' Da vs /\ aE F' acc vs /\
  End T Z ck F' r' σ env Q (fC (bO g tf te l aP bx' acc) λl bx2=>cq bo (ae<|.lst l) bx2),
  #[ds.length,[],ds,F1,r1,_,bx1,[],[],rfl,rfl,rfl,.refl F1 r1,(R1.X3 hD).src src,#[fw,R1.sD hD,R1.yE hD],.nil,h1],?_]
 rintro i n σ' H' ⟨pre,l,F',r',aP,bx',acc,vs,qC,hi,hn,g',R',o',da,h'⟩;let#[ys,yg]:=y1 _ i F' r' σ' H' aP bx' g' R'.again;cases l with
 |nil=>
   refine .inl #[ys (by rw[qC,nq];lia),?_];have RO:=R1.slots g' R';cases bo with
   | false=>show(λh'=>by
     let#[RA,gA]:=RO.agB o' hT;show h' _ r' _ H' gA RA #[Da,vs,rfl,fw,aE.mono gA.s acc da]) h'
   |true=>
     let#[RB,gB,hx]:=RO.agC o' hT da;show h' F' _ _ H' gB RB #[Da,rfl,hx]
 |cons w l=>
   let#[go,yl]:=yg w (by rw[qC,pb za,hi,uF];rfl);refine .inr #[go,λσ2 H2=>∃ F2 r2 env2 bx2 K6 yI,bC F1 r1 F2 r2 /\ Rel T F2 r2 σ2 H2 env2 bx2 /\ Own F2 r2 H2 Da yI /\ aE F2 K6 yI /\
    End T Z ck F2 r2 σ env Q (fC (bO g tf te l env2 bx2 K6) λl bx2=>cq bo (ae<|.lst l) bx2),
    λσ2 H2 ⟨F2,r2,env2,bx2,K6,yI,g2,R2,o2,d2,h2⟩=>#[l.length,by rw[hn];show n6 _,pre++[w],l,F2,r2,env2,bx2,K6,yI,by rw[qC,nO];rfl,by rw[cW,hi];rfl,rfl,g2,R2,o2,d2,h2],λx H2 hy=>?_]
   let#[F2,g2,R2,d2]:=yl x H2 hy;have acL:=R'.inner g2 R2;refine#[#[H2,r'.length,F2],F2,r',aP,bx',w,acL.again,d2,?_];simp[bO]at h';cases eg:g w aP bx' with
   |none=>simp[eg]at h';show h'.elim
   |some o=>
     let#[rH,bU]:=o;simp[eg]at h';intro F3 r3 σ3 H3 g3 R3;have acM:=acL.inner g3 R3;refine#[#[H3,r3.length,F3],F3,r3,rH,bU,acM.again,?_];cases ef:tf rH bU with
     |bad=>simp[ef]at h';show h'.elim
     |exc c dQ=>simp[ef]at h';show h'.elim
     |val b dQ=>
       simp[ef,bindB]at h';intro F4 r4 b' H4 g4 R4 eb;subst eb;have X4:=acM.inner g4 R4;have o4:=((o'.inner g2 R2).inner g3 R3).inner g4 R4;have acN:=((g'.trans g2).trans g3).trans g4;have X5:=(g2.trans g3).trans g4;cases b with
       |false=>
         rw[if_neg zd];show#[F4,r4,rH,dQ,acc,vs,acN,X4,o4,aE.mono X5.s acc da,End.weak X5 h']
       |true=>
         rw[if_pos rfl];refine#[#[H4,r4.length,F4],F4,r4,rH,dQ,X4.again,?_];cases ee:te rH dQ with
         |bad=>simp[ee]at h';show h'.elim
         |exc c acO=>simp[ee]at h';show h'.elim
         |val y acO=>
           simp[ee]at h';intro F5 r5 v H5 g5 R5 d5;have o5:=o4.inner g5 R5;have acP:=X5.trans g5;cases y with
           |d d=>
             simp at h';split at h'
             .ext hz;refine#[vs,o5.h,by rw[<-da.length];show hz,F5,r5,rH,acO,acc++[d],vs++[v],acN.trans g5,(X4.inner g5 R5).agA o5 hT,#[fw,o5.f,o5.b],(aE.mono acP.s acc da).append<|.cons d5 .nil,End.weak acP h']
             .show h'.elim
           |b n=>show h'.elim
           |s l=>show h'.elim
           |x i=>show h'.elim
           |_=>show h'.elim
theorem Mv (h:tD T Z (fO bo src mi g tf te) σ H Q):He src (tI T Z mi) (Hi g) (Hj #[E0,Z.cl] tf) (Hl #[E0,Z.cl] te) σ H Q:=by
 let#[F,r,env,bx,R,h]:=h;show#[F,r,env,bx,R,End.bind h λds bx1 F1 r1 J H1 g1 R1 y1 h1=>FZ R1 y1 h1]
noncomputable def fR:DE Bool:=λ_ bx=>.val ah bx
theorem Ci {l:List D}{i:Nat}(e:(l.map W.d)[i]?=ae w):∃ d,l[i]?=ae d /\ w=.d d:=by
 rw[kJ]at e;cases q:l[i]? with
 |none=>rw[q]at e;cases e
 |some d=>rw[q]at e;cases e;show#[d,rfl,rfl]
noncomputable def fK (lo:Int) (n:Nat):List W:=(List.range n).map λ(i:Nat)=>W.d<|.int<|lo+i
theorem ou (lo) (n):vS F r (fK lo n) (wM lo n):=λT i F1 r1 σ1 H1 env1 bx1 g R=>by
 unfold fK;refine#[λhl=>?_,λw e=>?_]
 .rw[aK,yb]at hl;show EC hl
 .rw[kJ]at e;cases q:(List.range n)[i]? with
  |none=>rw[q]at e;cases e
  |some j=>
    rw[q]at e;cases e;let#[h1,h2]:=List.getElem?_eq_some_iff.mp q;rw[List.getElem_range]at h2;subst h2;rw[yb]at h1;refine#[h1,λx H2 ⟨e1,e2⟩=>?_];subst e1 e2;show#[F1,.refl F1 r1,R,rfl]
def d8 (k:DE<|List W):DE (List W):=λenv bx=>fC (k env bx) λws bx1=>match ws with
 |[.d<|.int j]=>if -(2 ^ 62)<=j /\ j<2 ^ 62 then .val (fK 0 j.toNat) bx1 else .bad
 |_=>.bad
def uc (k:DE<|List W):DE (List W):=λenv bx=>fC (k env bx) λws bx1=>match ws with
 |[.d<|.int i,.d<|.int j]=>.val (fK i (j-i).toNat) bx1
 |_=>.bad
theorem F6 (hg:Gl X "range") (hm:X.mg "range"=ag) (ha:rC X T Z [a,b] k) (hs:starEach [a,b] X.env=[(af,eval a X.env),(af,eval b X.env)]:=by rfl) (nV:starEach [b] X.env=[(af,eval b X.env)]:=by rfl) :
 yH X T Z tg (.Call (.Name "range" p) [a,b] [] pos) (uc k):=by
 refine PI.imp (Lj hg hm ha hs nV) λσ H Q=>bK λF r env bx R h=>?_;refine#[F,r,env,bx,R,End.bind h λws bx1 F1 r1 vs H1 g1 R1 d1 h1=>?_];split at h1
 .ext i j;let#[v,t,rfl,e1,v2,t2,rfl,e2,e3]:=d1;cases (e3);cases (e1);cases (e2);show#[i,j,rfl,h1 F1 r1 _ H1 (.refl F1 r1) R1<|ou i _]
 .show h1.elim

def acQ (K:PySem.W.Frag):R2:=λx y H Q=>∃ a b ys,x=.ref a /\ y=.ref b /\ dH K H a [] /\ dH K H b ys /\ Q (.ref b) H
theorem Mw:cE X (binaryOp .Add) (acQ X.K):=by
 intro pins s σ H x y v u Q I rx ry h;let#[a,b,ys,rfl,rfl,ha,hb,q]:=h;cases rx;cases ry;let#[its,r1,p1,_]:=I.tuple ha;let#[tZ,r2,p2,_]:=I.tuple hb;cases r1;let#[#[cls,dd,data,sl],ho,hc,n,hd]:=id p1;let#[#[ach,vH,data2,tX],tY,hZ,n2,hd2]:=id p2;subst hc hd hZ hd2
 show Q8 #[_,ho,rfl] #[_,tY,rfl] Q9 Wj Xe Xf (Xg _ _)
  (tuple_addW0 a b ([]).toArray tZ.toArray n n2 dd vH sl tX<|rfl) #[ho,tY,#[.ref b,H,I,rfl,q]]
def agD (K:PySem.W.Frag):R2:=λx y H Q=>wN (λi j=>.int<|i+j) x y H Q \/ acj K x y H Q \/ acQ K x y H Q \/ acv x y H Q \/ ∃ i j,x=.str i /\ y=.str j /\ i.length+j.length<=sizeLine /\ Q (.str<|i++j) H
noncomputable def f8:D->D->Option Res
 |.int i,.int j=>ae<|.old<|.int<|i+j
 |.tup a,.tup b=>if a.length+b.length<=sizeLine then ae (.tup<|a++b) else ag
 |.lst a,.lst b=>if a.length+b.length<=sizeLine then ae (.lst<|a++b) else ag
 |.str a,.str b=>if a.length+b.length<=sizeLine then ae (.old<|.str<|a++b) else ag
 |_,_=>ag
theorem aE.eq_nil (h:aE F l vs):vs=[] ↔ l=[]:=by
 have:=h.length;cases l<;>cases vs<;>simp_all
theorem agE {K}:pE (agD K) f8:=by
 intro F H x y v w Q s sub rx ry e k;unfold f8 at e;split at e
 .ext i j;cases e;show .inl #[i,j,rx,ry,k _ _ #[rfl,rfl]]
 .split at e
  .ext hz;cases e;let#[a,vs,rfl,h1,h2]:=rx;let#[b,ws,rfl,h3,h4]:=ry;by_cases hv:vs=[]
   .subst hv;have hl:=h2.eq_nil.mp zc;subst hl;show .inr<|.inr<|.inl #[a,b,ws,rfl,rfl,.of<|sub _ _ h1,.of<|sub _ _ h3,k _ _<|.inl #[rfl,b,ws,rfl,h3,h4]]
   .refine .inr (.inl #[a,b,vs,ws,rfl,rfl,.of<|sub _ _ h1,.of<|sub _ _ h3,hv,by rw[<-h2.length,<-h4.length];show hz,λhw=>?_,λhw p hp=>k _ _<|.inr #[p,vs++ws,rfl,hp,rfl,h2.append h4]]);have hl:=h4.eq_nil.mp hw;subst hl;show k _ _ (.inl #[rfl,a,vs,rfl,h1,by rw[nq];show h2])
  .cases e
 .split at e
  .ext hz;cases e;let#[a,vs,rfl,h1,h2]:=rx;let#[b,ws,rfl,h3,h4]:=ry;show .inr<|.inr<|.inr (.inl #[a,b,vs,ws,rfl,rfl,h1,h3,by rw[<-h2.length,<-h4.length];show hz,λp hp=>k _ _ #[p,vs++ws,rfl,hp,rfl,h2.append h4]])
  .cases e
 .ext i j;split at e
  .ext hz;cases e;show .inr<|.inr<|.inr<|.inr #[i,j,rx,ry,hz,k _ _ #[rfl,rfl]]
  .cases e
 .cases e
theorem X6 [∀ i j,Decidable<|C i j] {g:Int->Int->D}(hg:∀ i j F,Den F (g i j)<|gv i j):pE (rI C gv) λx y=>match x,y with|.int i,.int j=>if C i j then ae (.old<|g i j) else ag|_,_=>ag:=by
 intro F H x y v w Q s sub rx ry e k;dsimp only at e;split at e
 .ext i j;split at e
  .ext hc;cases e;show#[i,j,rx,ry,hc,k _ _ #[rfl,hg i j F]]
  .cases e
 .cases e
theorem K7 {g:Int->Int->D}(hg:∀ i j F,Den F (g i j)<|gv i j):pE (wN gv) λx y=>match x,y with|.int i,.int j=>ae (.old<|g i j)|_,_=>ag:=by
 intro F H x y v w Q s sub rx ry e k;dsimp only at e;split at e
 .ext i j;cases e;show#[i,j,rx,ry,k _ _ #[rfl,hg i j F]]
 .cases e
noncomputable def c9:D->D->Option Res:=λx y=>match x,y with|.int i,.int j=>ae (.old<|.int<|i-j)|_,_=>ag
instance (i j:Int):Decidable (wO i j):=by unfold wO;show inferInstance
def yJ (i j:Int):zm:=0<j /\ j<10 ^ 40
instance (i j:Int):Decidable (yJ i j):=by unfold yJ;show inferInstance
instance (i j:Int):Decidable (KC i j):=by unfold KC;show inferInstance
noncomputable def sH:D->D->Option Res:=λx y=>match x,y with|.int i,.int j=>if yJ i j then ae (.old<|.int<|i / j) else ag|_,_=>ag
noncomputable def ud:D->D->Option Res:=λx y=>match x,y with|.int i,.int j=>if 0<j then ae (.old<|.int<|i % j) else ag|_,_=>ag
noncomputable def xa:D->D->Option Res:=λx y=>match x,y with|.int i,.int j=>if KC i j then ae (.old<|.int<|i ^ j.toNat) else ag|_,_=>ag
noncomputable def intsOf:List D->Option (List Int)
 |[]=>ae []
 |.int i::l=>(intsOf l).map λt=>i::t
 |_=>ag
theorem aE.ints:∀ {l}{vs}{ns},aE F l vs->intsOf l=ae ns->vs=ns.map V.int
 |[],_,_,h,e=>by cases e;show h
 | .int i::l,_,ns,h,e=>by
   let#[v,r,q,h1,h2]:=h;unfold intsOf at e;cases e2:intsOf l with
   |none=>rw[e2]at e;cases e
   |some t=>
     rw[e2]at e;cases e;rw[q,h2.ints e2,h1];rfl
 |.az::l,_,_,_,e=>by cases e
 |.bl _::l,_,_,_,e=>by cases e
 |.str _::l,_,_,_,e=>by cases e
 |.tup _::l,_,_,_,e=>by cases e
 |.lst _::l,_,_,_,e=>by cases e
 |.au _::l,_,_,_,e=>by cases e
noncomputable def nW:D->D->Option Res:=λx y=>match x,y with|.int i,.int j=>ae (.old<|.bl<|decide (j<i))|_,_=>ag
noncomputable def pZ:D->D->Option Res:=λx y=>match x,y with|.int i,.int j=>ae (.old<|.bl<|decide (j<=i))|_,_=>ag
def ak:D->D->Option Res
 |.lst l,.int i=>(bM l i).map Res.old
 |.tup l,.int i=>(bM l i).map Res.old
 |_,_=>ag
theorem GY (h:aE F l vs) (e:bM l i=ae d):∃ v,bM vs i=ae v /\ Den F d v:=by
 unfold bM at e ⊢;rw[<-h.length];cases q:cR l.length i with
 |none=>rw[q]at e;cases e
 |some j=>rw[q]at e;show h.get e
theorem agF {K}:pE (af0 K) ak:=by
 intro F H x y v w Q s sub rx ry e k;unfold ak at e;split at e
 .ext l i;let#[a,vs,rfl,h1,h2]:=rx;cases e1:bM l i with
  |none=>rw[e1]at e;cases e
  |some d=>
    rw[e1]at e;cases e;let#[u,e2,du]:=GY h2 e1;show .inl #[a,vs,i,u,rfl,ry,.of h1,e2,k _ _ #[rfl,du]]
 .ext l i;let#[a,vs,rfl,h1,h2]:=rx;cases e1:bM l i with
  |none=>rw[e1]at e;cases e
  |some d=>
    rw[e1]at e;cases e;let#[u,e2,du]:=GY h2 e1;show .inr<|.inl #[a,vs,i,u,rfl,ry,.of<|sub _ _ h1,e2,k _ _ #[rfl,du]]
 .cases e
noncomputable def cY:List D->Option Res
 |[.lst l]=>ae<|.old<|.int l.length
 |[.tup l]=>ae<|.old<|.int l.length
 |_=>ag
noncomputable def sI:D->String
 |.az=>"NoneType"|.bl _=>"bool"|.int _=>"int"|.str _=>"str"|.tup _=>"tuple"|.lst _=>"list"|.au _=>"dict"
noncomputable def vT (S T:String):Bool:=S==T||(S == "bool"&&T == "int")
def sJ (K:PySem.W.Frag) (T:String):zm:=∀ d,PySem.W.kitOne K (.type<|sI d) (.type T)=ae (vT (sI d) T)
theorem UV {K}(sub:Sub F H):∀ {d}{v},pU F H d v->pT K H v (.type<|sI d)
 |.az,_,h=>by cases (h);show .az
 |.bl b,_,h=>by cases (h);show .bl b
 |.int b,_,h=>by cases (h);show .int b
 |.str b,_,h=>by cases (h);show .str b
 |.tup l,_,h=>by let#[a,vs,rfl,h1,h2]:=h;show .tup<|sub _ _ h1
 |.lst l,_,h=>by let#[a,vs,rfl,h1,h2]:=h;show .lst h1
 |.au l,_,h=>by let#[a,vs,rfl,h1,h2]:=h;show .dK h1
def mJ (n:String) (m:DE W):DE W:=λenv bx=>fC (m env bx) λw bx1=>match bN bx1 w with|some d=>.val (.d<|.bl<|vT (sI d) n) bx1|none=>.bad
theorem OK (hT:sJ X.K n) (hg:Gl X "isinstance") (hm:X.mg "isinstance"=ag) (xb:Gl X x) (xc:X.mg x=ag) (hv:bootBuiltins x=ae (.type n)) (ha:PD X T Z a ma)
 (hn:x ≠ "__name__":=by decide) (d6:(x==("__debug__"))=af:=by decide)
 (acR:starEach [a,.Name x p1] X.env=(af,eval a X.env)::starEach [.Name x p1] X.env:=by rfl) (agG:starEach [.Name x p1] X.env=(af,eval (.Name x p1) X.env)::starEach [] X.env:=by rfl)
 (nS:(backTo pos<|starEach [.Name x p1] X.env).any (·.1)=af:=by rfl):PD X T Z (.Call (.Name "isinstance" p) [a,.Name x p1] [] pos) (mJ n ma):=by
 refine PE.imp (lu Lf hg hm (by decide +kernel) (gU ha (gU (On xb xc hv (v:=.ty n) zc hn d6) i5 agG) acR) zd (rfl) acR nS) λσ H Q=>bK λF r env bx R h=>?_;refine#[F,r,env,bx,R,End.bind h λw bx1 F1 r1 v H1 g1 R1 d1 h1=>?_];cases e:bN bx1 w with
 |none=>simp[e]at h1;show h1.elim
 |some d=>
   simp[e]at h1;show#[v,.ty n,_,.type n,_,rfl,.of<|UV R1.fh<|R1.rD d1 e,rfl,hT d,h1 F1 r1 _ H1 (.refl F1 r1) R1 zc]

def acS (K:PySem.W.Frag):R2:=λx y H Q=>∃ a b xs,x=.ref a /\ y=.ref b /\ dH K H a xs /\ dH K H b [] /\ Q (.bl xs.isEmpty) H
theorem SW (hu:X.A.units<cLine):cE X (compareOp .Eq) (acS X.K):=by
 intro pins s σ H x y v u Q I rx ry h;let#[a,b,xs,rfl,rfl,h1,h2,q]:=h;cases rx;cases ry;let#[i1,r1,p1,z1]:=I.tuple h1;let#[i2,r2,p2,z2]:=I.tuple h2;cases r2;refine SeqAt.eq_tupleAt (e:=λ_=>ah) p1 p2 hu (λj h1 h2=>absurd h2 zg) #[.bl xs.isEmpty,H,I,?_,q];have:=r1.length;cases xs<;>cases i1<;>simp_all[RelV]
def agH (K:PySem.W.Frag):R2:=λx y H Q=>∃ (a b:aq) (ns ms:List Int),x=.ref a /\ y=.ref b /\ cy K H a (ns.map V.int) /\ cy K H b (ms.map V.int) /\ Q (.bl<|decide (ns=ms)) H
theorem Lk {ms:List Int}(h:ns.length=ms.length):((List.range ns.length).all λj=>(ns.getD j 0==ms.getD j 0))=decide (ns=ms):=by
 rw[nj,dF,decide_eq_true_iff];constructor
 .intro q;refine List.ext_getElem h λj h1 h2=>?_;have:=q j<|List.mem_range.mpr h1;simpa[h1,h2] using this
 .rintro rfl j _;simp
def acT (K:PySem.W.Frag):R2:=λx y H Q=>aca x y H Q \/ acS K x y H Q \/ agH K x y H Q
theorem OL (hu:X.A.units<cLine):cE X (compareOp .Eq) (acT X.K):=UO.or ((SW hu).or ((λhu=>by
 intro pins s σ H x y v u Q I rx ry h;let#[a,b,ns,ms,rfl,rfl,h1,h2,q]:=h;cases rx;cases ry;let#[i1,r1,p1,z1]:=I.list h1;let#[i2,r2,p2,z2]:=I.list h2;have l1:ns.length=i1.length:=by have:=r1.length;simpa using this
 have l2:ms.length=i2.length:=by have:=r2.length;simpa using this
 by_cases hl:ns.length=ms.length
 .refine SeqAt.eq_listAt (e:=λj=>ns.getD j 0==ms.getD j 0) p1.isList p2.isList zh hu (λj h1 h2=>?_) ?_
  .have g2:j<i2.length:=by simpa using h2
   let#[w1,e1,q1]:=r1.get (i:=j) (x:=V.int<|ns[j]'(by lia)) zg;let#[w2,e2,q2]:=r2.get (i:=j) (x:=V.int<|ms[j]'(by lia)) zg;have k1:i1[j]=w1:=by rw[dO (by simpa using h1)]at e1;show Option.some.inj e1
   have k2:i2[j]=w2:=by rw[dO g2]at e2;show Option.some.inj e2
   change SeqAt.EqAt _ _ i1[j] i2[j] _;rw[k1,k2];let#[t,rfl]:=q1;let#[t',rfl]:=q2;have d1:ns.getD j 0=ns[j]'(by lia):=by simp[show j<ns.length by lia]
   have d2:ms.getD j 0=ms[j]'(by lia):=by simp[show j<ms.length by lia]
   rw[d1,d2];show Xl _ _ _ _
  .rw[show i1.toArray.size=ns.length by simp;lia,Lk hl];show#[.bl _,H,I,rfl,q]
 .refine SeqAt.eq_list_lengthsAt p1.isList p2.isList zh hu #[.bl af,H,I,rfl,?_];rw[decide_eq_false λz=>hl (by rw[z])]at q;show q) hu))
def X7:D->D->Option Res
 |.int i,.int j=>ae<|.old<|.bl<|decide (i=j)
 |.str i,.str j=>ae<|.old<|.bl<|decide (i=j)
 |.tup l,.tup []=>ae<|.old<|.bl l.isEmpty
 |.lst a,.lst b=>(intsOf a).bind λns=>(intsOf b).map λms=>.old<|.bl<|decide (ns=ms)
 |_,_=>ag
theorem agI {K}:pE (acT K) X7:=by
 intro F H x y v w Q s sub rx ry e k;unfold X7 at e;split at e
 .cases e;cases (rx);cases (ry);show .inl #[rfl,k _ _ #[rfl,by change _=_;simp]]
 .cases e;cases (rx);cases (ry);show .inl #[rfl,k _ _ #[rfl,by change _=_;simp]]
 .cases e;let#[a,vs,rfl,h1,h2]:=rx;let#[b,ws,rfl,h3,h4]:=ry;cases (h4);show .inr (.inl #[a,b,vs,rfl,rfl,.of<|sub _ _ h1,.of<|sub _ _ h3,k _ _ #[rfl,by change _=_;rw[h2.isEmpty]]])
 .ext l l';cases e1:intsOf l with
  |none=>rw[e1]at e;cases e
  |some ns=>
    cases e2:intsOf l' with
    |none=>rw[e1,e2]at e;cases e
    |some ms=>
      rw[e1,e2]at e;cases e;let#[a,vs,rfl,h1,h2]:=rx;let#[b,ws,rfl,h3,h4]:=ry;have q1:=h2.ints e1;have q2:=h4.ints e2;subst q1 q2;show .inr<|.inr #[a,b,ns,ms,rfl,rfl,.of h1,.of h3,k _ _ #[rfl,rfl]]
 .cases e
def agJ (K:PySem.W.Frag):R2:=λx y H Q=>∃ a b xs,x=.ref a /\ y=.ref b /\ cy K H a xs /\ cy K H b [] /\ Q (.bl<|!xs.isEmpty) H
def acU (K:PySem.W.Frag):R2:=λx y H Q=>acb x y H Q \/ agJ K x y H Q
theorem OM (hu:X.A.units<cLine):cE X (compareOp .NotEq) (acU X.K):=UP.or<|(λhu=>by
 intro pins s σ H x y v u Q I rx ry h;let#[a,b,xs,rfl,rfl,h1,h2,q]:=h;cases rx;cases ry;let#[i1,r1,p1,z1]:=I.list h1;let#[i2,r2,p2,z2]:=I.list h2;cases r2;cases r1 with
 |nil=>show SeqAt.RcNeAt.lists (e:=λ_=>ah) p1.isList p2.isList zc hu (λj h1 h2=>absurd h2 zg) X.prog X.w X.xe _ #[.bl af,H,I,rfl,q]
 |cons _ _=>show ae7 p1.isList p2.isList (rfl) hu X.prog X.w X.xe _ #[.bl ah,H,I,rfl,q]) hu
noncomputable def X8:D->D->Option Res
 |.int i,.int j=>ae<|.old<|.bl<|!decide (i=j)
 |.str i,.str j=>ae<|.old<|.bl<|!decide (i=j)
 |.lst l,.lst []=>ae<|.old<|.bl<|!l.isEmpty
 |_,_=>ag
theorem agK {K}:pE (acU K) X8:=by
 intro F H x y v w Q s sub rx ry e k;unfold X8 at e;split at e
 .cases e;cases (rx);cases (ry);show .inl #[rfl,k _ _ #[rfl,by change _=_;simp]]
 .cases e;cases (rx);cases (ry);show .inl #[rfl,k _ _ #[rfl,by change _=_;simp]]
 .cases e;let#[a,vs,rfl,h1,h2]:=rx;let#[b,ws,rfl,h3,h4]:=ry;cases (h4);show .inr #[a,b,vs,rfl,rfl,.of h1,.of h3,k _ _ #[rfl,by change _=_;rw[h2.isEmpty]]]
 .cases e
def agL (K:PySem.W.Frag) (vs:List V) (H:Hp) (Q:VK):zm:=∃ (p:aq) (bs:List Bool),vs=[.ref p] /\ H p=ae (.lst<|bs.map V.bl) /\ Q (.bl<|bs.all id) H
theorem Ll (hc:X.calm=ah):pS X (.builtin "all") (agL X.K):=by
 intro pins s σ H xs us Q I rv h;let#[p,bs,rfl,hp,q]:=h;let#[u,rfl,ru]:=Vals.one rv;cases ru;let#[its,r1,p1,z1]:=I.list<|cy.of hp;have hl:=p1.isList;have hlen:bs.length=its.length:=by have:=r1.length;simpa using this
 refine call_all_walk<|Ep hl ?_
 refine#[s.heap.objs.size,[s.heap.objs.size,p],[s.heap.objs.size],its.toArray.size,_,_,λi=>(bs[i]?).getD ah,rfl,Walks.list (A:=X.A.in1) (I.ok.hd hc) _ p (cw (by let#[_,e,_]:=hl;show bq e)) its.toArray,
  #[#[_,bF _ zc,rfl,rfl],hl.push _],λi v s' Q' E' hP hQ=>?_,λh' tk hk=>?_]
 .have Hm:its[i]?=ae v:=by simpa using hP
  have hi:i<bs.length:=by rw[hlen];show(List.getElem?_eq_some_iff.mp Hm).1
  let#[w,e1,e2]:=r1.get (i:=i) (x:=V.bl bs[i]) zg;rw[Hm]at e1;cases e1;cases e2;simp[dO hi]at hQ;show qQ hQ
 .have e:((List.range its.toArray.size).all λi=>(bs[i]?).getD ah)=bs.all id:=by
   rw[bX,<-hlen];show LSm.range_all bs
  rw[e];show#[.bl _,H,I.kept<|abI hk,rfl,q]
noncomputable def qI:List D->Option (List Bool)
 |[]=>ae []
 |.bl i::l=>(qI l).map λt=>i::t
 |_=>ag
theorem aE.X9:∀ {l}{vs}{ns},aE F l vs->qI l=ae ns->vs=ns.map V.bl
 |[],_,_,h,e=>by cases e;show h
 | .bl i::l,_,ns,h,e=>by
   let#[v,r,q,h1,h2]:=h;unfold qI at e;cases e2:qI l with
   |none=>rw[e2]at e;cases e
   |some t=>
     rw[e2]at e;cases e;rw[q,h2.X9 e2,h1];rfl
 |.az::l,_,_,_,e=>by cases e
 |.int _::l,_,_,_,e=>by cases e
 |.str _::l,_,_,_,e=>by cases e
 |.tup _::l,_,_,_,e=>by cases e
 |.lst _::l,_,_,_,e=>by cases e
 |.au _::l,_,_,_,e=>by cases e
def eJ:List D->Option Res
 |[.lst l]=>(qI l).map λbs=>.old<|.bl<|bs.all id
 |_=>ag
theorem agM {K}:rF (λxs H Q=>∃ p ys,xs=[.ref p] /\ ((cy K H p ys /\ ∀ l,H l=ag->Q (.ref l) (upd H l<|.tup ys)) \/ (dH K H p ys /\ Q (.ref p) H)))
 (λxs=>match xs with|[.lst l]=>ae (.tup l)|[.tup l]=>ae (.tup l)|_=>ag):=by
 intro F H xs vs Q s sub rx e k;dsimp only at e;split at e
 .cases e;let#[v,t,rfl,#[a,us,rfl,h1,h2],rt]:=rx;cases (rt);show#[a,us,rfl,.inl #[.of h1,λp hp=>k _ _<|.inr #[p,us,rfl,hp,rfl,h2]]]
 .cases e;let#[v,t,rfl,#[a,us,rfl,h1,h2],rt]:=rx;cases (rt);show#[a,us,rfl,.inr #[.of<|sub _ _ h1,k _ _<|.inl #[rfl,a,us,rfl,h1,h2]]]
 .cases e
noncomputable def uP:List D->Option Res:=λxs=>match xs with|[.lst l]=>ae (.tup l)|[.tup l]=>ae (.tup l)|_=>ag
noncomputable def yK:List D->Option Res:=λxs=>match xs with|[.lst l]=>ae (.lst l)|[.tup l]=>ae (.lst l)|_=>ag
theorem agN {K}:rF (λxs H Q=>∃ p ys,xs=[.ref p] /\ (cy K H p ys \/ dH K H p ys) /\ ∀ l,H l=ag->Q (.ref l) (upd H l<|.lst ys)) yK:=by
 intro F H xs vs Q s sub rx e k;unfold yK at e;split at e
 .cases e;let#[v,t,rfl,#[a,us,rfl,h1,h2],rt]:=rx;cases (rt);show#[a,us,rfl,.inl<|.of h1,λp hp=>k _ _ #[p,us,rfl,hp,rfl,h2]]
 .cases e;let#[v,t,rfl,#[a,us,rfl,h1,h2],rt]:=rx;cases (rt);show#[a,us,rfl,.inr<|.of<|sub _ _ h1,λp hp=>k _ _ #[p,us,rfl,hp,rfl,h2]]
 .cases e
noncomputable def maxD:List D->Option Res:=λxs=>match xs with|[.int i,.int j]=>ae (.old<|.int (if j>i then j else i))|_=>ag
theorem agO:rF (λxs H Q=>∃ i j,xs=[.int i,.int j] /\ Q (.int (if j>i then j else i)) H) maxD:=by
 intro F H xs vs Q s sub rx e k;unfold maxD at e;split at e
 .ext i j;cases e;let#[v,t,rfl,h1,v2,t2,rfl,h2,rt]:=rx;cases (rt);cases (h1);cases (h2);show#[i,j,rfl,k _ _ #[rfl,rfl]]
 .cases e
noncomputable def minD:List D->Option Res:=λxs=>match xs with|[.int i,.int j]=>ae (.old<|.int (if j<i then j else i))|_=>ag
theorem agP:rF (λxs H Q=>∃ i j,xs=[.int i,.int j] /\ Q (.int (if j<i then j else i)) H) minD:=by
 intro F H xs vs Q s sub rx e k;unfold minD at e;split at e
 .ext i j;cases e;let#[v,t,rfl,h1,v2,t2,rfl,h2,rt]:=rx;cases (rt);cases (h1);cases (h2);show#[i,j,rfl,k _ _ #[rfl,rfl]]
 .cases e
end L2.DL
namespace HT

theorem oz {lo}(ht:IsTup s.heap t items) (hs:s.heap.IsSliceOf sl vl vu .none) (pl:IsPart vl lo) (pu:IsPart vu hi)
 (hw:bf items.size 0 lo=0 /\ bf items.size items.size hi=items.size) (h:Q (.ref t) s):wpAny zj A (getItem (.ref t)<|.ref sl) Q E s:=by
 let#[os,wQ,KD,qC]:=id hs;unfold getItem;try with_reducible refine ku ?_
 first|refine ai (ao ?_)|skip
 refine ai<|Z5 ht.typeIs (rfl) ?_;refine ai (qU ht.typeIs yk
  (hG yk ht.typeIs aa2 ?_<|aa3 _ _))
 change wpAny _ _ (Builtin.Tuple.tupleItemsOf (.ref t) >>= _) _ _ s;refine ai<|aa4 ht ?_;refine ai<|wm #[os,wQ,KD] ?_;refine ai<|jt hs pl pu ?_;have agQ:((((bf items.size 0 lo):Int)==0&&(1:Int)==1&&(bf items.size items.size hi-bf items.size 0 lo)==items.size)=ah):=by
  rw[hw.1,hw.2];simp
 change wpAny _ _ (if (((bf items.size 0 lo):Int)==0&&(1)==1&&(bf items.size items.size hi-bf items.size 0 lo)==items.size)=ah then _ else _) _ _ s;rw[if_pos agQ];show ai<|ai<|wm ht.typeIs<|ao<|ai<|qT<|ao #[_,rfl,ao h]
theorem A0 {α β:Type}{f g:α->Option β}:∀ {l:List α},(∀ x∈l,f x=g x)->l.filterMap f=l.filterMap g:=by
 intro l_;induction l_ with
 |nil=>show λ_=>rfl
 |cons x l bV=>
   intro h;rw[n8,n8,h x bA,bV λy hy=>h y<|a8 _ hy]
theorem A3 (n:Nat):sliceRange ((n)-1) (-1) (-1)=(List.range n).map λk=>n-1-k:=by
 have e:(if (-1)>0 then (if (n:Int)-1 < -1 then (-1-((n:Int)-1)+-1-1) / -1 else 0) else (if (n:Int)-1>-1 then ((n)-1 - -1 - -1-1) / (- -1) else 0)).toNat=n:=by
  rw[if_neg zd];split
  .have:((n:Int)-1 - -1 - -1-1) / (- -1)=n:=by
    rw[show (- -1)=1 by decide,Int.ediv_one];lia
   rw[this];rfl
  .lia
 change (List.range (if (-1)>0 then (if (n:Int)-1 < -1 then (-1-((n:Int)-1)+-1-1) / -1 else 0) else (if (n:Int)-1>-1 then ((n)-1 - -1 - -1-1) / (- -1) else 0)).toNat).map _=_;rw[e];refine rf λk hk=>?_;lia
theorem BY (its:List ay):slicePick its.toArray ag ag (ae<|-1)=its.reverse.toArray:=by
 unfold slicePick;congr 1;change (sliceRange ((its.length)-1) (-1)<|-1).filterMap _=_;rw[A3,aay];apply vq;intro i;have h1:(List.range its.length).filterMap ((λx=>its.toArray[x]?)∘λk=>its.length-1-k)=(List.range its.length).map λk=>(its[its.length-1-k]?).getD .none:=by
  rw[<-List.filterMap_eq_map];refine A0 λk hk=>?_;have uL:=List.mem_range.mp hk;have Ho:its.length-1-k<its.length:=by lia
  simp[Ho]
 rw[h1,kJ];by_cases hi:i<its.length
 .have Ho:its.length-1-i<its.length:=by lia
  rw[List.getElem?_range hi,List.getElem?_reverse hi];simp[Ho]
 .rw[qZ (by simpa using wu hi),qZ (by simpa using wu hi)];rfl
end HT
namespace L2.DL

def acV (K:PySem.W.Frag):V->Option Int->Option Int->Hp->VK->zm:=λx lo hi H Q=>∃ a xs,x=.ref a /\ dH K H a xs /\
 (HT.bf xs.length 0 lo=0 /\ HT.bf xs.length xs.length hi=xs.length) /\ Q (.ref a) H
theorem ON:vI X (acV X.K):=by
 intro pins s σ H x v vl vu lo hi sl Q I rx hs pl pu h;let#[a,xs,rfl,hx,hw,q]:=h;cases rx;let#[its,r,ht,hz]:=I.tuple hx;have hlen:its.toArray.size=xs.length:=r.length.symm;show#["tuple",_,yk.lookup,ht.typeIs,HT.oz ht hs pl pu (by rw[hlen];show hw) #[.ref a,H,I,rfl,q]]
def acW (K:PySem.W.Frag):V->Option Int->Option Int->Hp->VK->zm:=λx lo hi H Q=>aci K x lo hi H Q \/ acV K x lo hi H Q \/ af3 K x lo hi H Q
theorem SX:vI X (acW X.K):=SK.or<|ON.or (by
 intro pins s σ H x v vl vu lo hi sl Q I rx hs pl pu h;let#[a,xs,rfl,hx,q]:=h;cases rx;let#[its,r,ht,hz]:=I.list hx;have hlen:=r.length;refine#["list",_,slot_list_getitem.lookup,ht.isList.typeIs,?_];refine Z8 ht.isList hs pl pu .none zg ?_ (by rw[bX]<;>lia);rw[BX,<-hlen];refine#[.ref s.heap.objs.size,_,I.laid (λb ob q=>aU _ q) (aC _) ?_,rfl,q _<|I.aB.fresh<|aC _];show#[cj (An xs lo hi) hz,_,0,(r.drop _).take _,bF _ zc])
def cutD (xs:List D) (lo hi:Option Int):List D:=(xs.drop<|HT.bf xs.length 0 lo).take<|HT.bf xs.length xs.length hi-HT.bf xs.length 0 lo
theorem GZ (h:aE F l vs) (lo hi):aE F (cutD l lo hi) (yA vs lo hi):=by
 unfold cutD yA;rw[h.length];show(h.drop _).take _
def ue:D->Option Int->Option Int->Option Res
 |.tup l,lo,hi=>ae<|.tup<|cutD l lo hi
 |.lst l,lo,hi=>ae<|.lst<|cutD l lo hi
 |_,_,_=>ag
theorem agR {K}{lo hi}(sub:Sub F H) (rx:pU F H x v) (e:ue x lo hi=ae s) (k:∀ u H',wZ F H s u H'->Q u H'):acW K v lo hi H Q:=by
 cases x with
 |tup l=>
   cases e;let#[a,vs,rfl,h1,h2]:=rx;by_cases hw:HT.bf vs.length 0 lo=0 /\ HT.bf vs.length vs.length hi=vs.length
   .refine .inr<|.inl #[a,vs,rfl,.of<|sub _ _ h1,hw,k _ _<|.inl #[rfl,?_]];have e:cutD l lo hi=l:=by
     unfold cutD;rw[h2.length,hw.1,hw.2,IE,aaB,<-h2.length,IL]
    rw[e];show#[a,vs,rfl,h1,h2]
   .show .inl #[a,vs,rfl,.of<|sub _ _ h1,hw,λp hp=>k _ _<|.inr #[p,_,rfl,hp,rfl,GZ h2 lo hi]]
 |lst l=>
   cases e;let#[a,vs,rfl,h1,h2]:=rx;show .inr<|.inr #[a,vs,rfl,.of h1,λp hp=>k _ _ #[p,_,rfl,hp,rfl,GZ h2 lo hi]]
 |_=>cases e
abbrev agS:Hp->List aq->Option Int->Option Int->zm:=λ_ _ a b=>a=b
def agT (T:Fr) (Z:Xs) (m:DE<|Option Int):TO:=λσ H Q=>∃ F r env bx,Rel T F r σ H env bx /\ End T Z agS F r σ env Q (m env bx)
def agU (X:Cx) (T:Fr) (Z:Xs) (e:Option aD) (m:DE<|Option Int):zm:=PO X e<|agT T Z m
theorem PO.imp (h:PO X e t) (f:∀ σ H Q,t' σ H Q->t σ H Q):PO X e t':=λpins s σ H Q I q=>h pins s σ H Q I<|f σ H Q q
noncomputable def qJ:DE (Option Int):=λ_ bx=>.val ag bx
def p8 (m:DE W):DE (Option Int):=λenv bx=>fC (m env bx) λw bx1=>match w with|.d (.int i)=>.val (ae i) bx1|_=>.bad
def p9 (bo:Bool) (m:DE W) (l u:DE<|Option Int):DE W:=λenv bx=>fC (m env bx) λx bx1=>fC (l env bx1) λi bx2=>fC (u env bx2) λj bU=>cq bo ((bN bU x).bind λd=>ue d i j) bU
theorem SY {i:Int}(he:PE X e te):PE X (.Subscript e (.Slice ag ag (ae<|.UnaryOp .USub (.Constant (.int 1) j q1) q2) p2) pos)
 (λσ H Q=>te σ H λx H1=>∃ a xs,x=.ref a /\ cy X.K H1 a xs /\ ∀ p,H1 p=ag->Q (.ref p) (upd H1 p<|.lst xs.reverse)):=by
 intro pins s σ H Q I h;refine Subscript_<|br (he pins s σ H _ I h) λv s1 x H1 I1 r1 q1=>?_;refine Z6 ?_;refine ao<|ao ?_;refine br (RP Md L5 pins s1 σ H1 (λy H2=>y=.int (-1) /\ H2=H1) I1 #[1,rfl,rfl,rfl]) λvs s3 y H3 I3 r3 hh=>?_;let#[e1,e2]:=hh;subst e1 e2;let#[t,rfl]:=r3;let#[a,xs,rfl,hx,q]:=q1;cases r1;have I4:Inv X pins σ H3 { s3 with heap:=s3.heap.push { cls:=.type "slice",data:=.fields (List.toArray [.none,.none,.int (-1) t]) } }:=I3.kept λb ob q=>aU _ q;let#[its,r,ht,hz]:=I4.list hx;have hlen:=r.length;have hg:wpAny zi X.A (getItem (.ref a)<|.ref s3.heap.objs.size) (EP X pins σ Q) X.xe { s3 with heap:=s3.heap.push { cls:=.type "slice",data:=.fields (List.toArray [.none,.none,.int (-1) t]) } }:=by
  refine Z8 ht.isList (Heap.IsSliceOf.new ..) .none .none (.int (-1) t) zg ?_ (by rw[bX]<;>lia);rw[HT.BY];refine#[.ref _,_,I4.laid (λb ob q=>aU _ q) (aC _) ?_,rfl,q _<|I4.aB.fresh<|aC _];show#[by rw[List.length_reverse];show hz,_,0,r.reverse,bF _ zc]
 change wpAny zi X.A (subscriptTail e (.Slice ag ag (ae<|.UnaryOp .USub (.Constant (.int 1) j _) q2) p2) (.ref a)<|.ref s3.heap.objs.size) (EP X pins σ Q) X.xe _;show WS ht.isList.typeIs slot_list_getitem.lookup hg (by with_unfolding_all rfl)
def Ya (bo:Bool) (m:DE W):DE W:=λenv bx=>fC (m env bx) λx bx1=>cq bo ((bN bx1 x).bind λd=>match d with|.lst l=>ae (.lst l.reverse)|_=>ag) bx1
def K8 (m:DE W):DE W:=λenv bx=>fC (m env bx) λw bx1=>match w with|.d (.int i)=>.val (.d<|.int<|-i) bx1|_=>.bad
end L2.DL
namespace HT

theorem DM (hl:IsTup s.heap l vs.toArray) (hz:vs.length<=sizeLine)
 (h:Q vs { s with heap:=(s.heap.push<|seqObj "list" #[] 0).update s.heap.objs.size (Obj.mapSeq (·++vs.toArray)) }):wpAny zj A (collect<|.ref l) Q E s:=by
 let#[ob,ho,vN,k,sL]:=id hl;refine ai<|Wo<|vj entry_proto_collect'<|ai<|Es<|ao #[abJ _ (by decide +kernel),vj entry_list_iadd' ?_];change wpAny _ _ (Builtin.List.listExtendWith _ _ _) _ _ { s with heap:=s.heap.push _ };have sM:(s.heap.push<|seqObj "list" #[] 0).get? l=ae ob:=aU _ ho;refine ai<|wm #[ob,sM,vN] ?_;rw[if_pos (by rw[show (Value.type "tuple"==Value.type "tuple")=ah by decide,Bool.or_true])];refine ai<|yh sM sL<|ai<|yh (bF _ zc) zc ?_;rw[if_neg zg];refine ai<|Kb (bF _ zc) zc (ao ?_) (dJ _) (by change (#[]++vs.toArray).size<=sizeLine+1;simp[Array.size_append,bX,rh];lia);refine ai<|xI (aa6 (bF _ zc) _) (show wpAny _ _ (pure ((#[])++vs.toArray).toList) Q E _ from ?_);rw[show ((#[]:Array ay)++vs.toArray).toList=vs by simp];show ao h
theorem A4 (hl:IsTup s.heap l vs.toArray) (hI:IntsAre vs ns) (dR:vs.length<64)
 (h:∀ (out) (qb),IntsAre out.toList qb->qb.Perm ns->qb.Pairwise (·<=·)->Q (.ref<|s.heap.objs.size+1) { s with heap:=sortedAll s.heap vs out }):wpAny zj A (call (.builtin "sorted") [.ref l]) Q E s:=by
 refine Xd WU WV WW (WX _) ?_;refine ai<|ao<|ai<|DM hl (cj (nZ dR) zd)<|ai<|Es ?_;have sx:((s.heap.push<|seqObj "list" #[] 0).update s.heap.objs.size (Obj.mapSeq (·++vs.toArray))).objs.size=s.heap.objs.size+1:=by rw[aaY,vB]
 have Ks:(((s.heap.push<|seqObj "list" #[] 0).update s.heap.objs.size (Obj.mapSeq (·++vs.toArray))).push<|seqObj "list" vs.toArray 0).get? (s.heap.objs.size+1)=ae (seqObj "list" vs.toArray 0):=by rw[<-sx];show bF _ zc
 rw[sx];show ai<|ku<|hG WY #[_,Ks,rfl] WZ (aa7 Ks hI dR λout qb a1 a2 a3=>#[_,rfl,ao #[_,rfl,h out qb a1 a2 a3]])<|W2 _
end HT
namespace L2.DL
noncomputable def sortI (ns:List Int):List Int:=ns.mergeSort λa b=>decide (a<=b)
theorem gk (ns):(sortI ns).Perm ns:=EG ns _
theorem iQ (ns):(sortI ns).Pairwise (·<=·):=(IM (le:=λa b:Int=>decide _) (λa b c h1 h2=>by simp at *;lia) (λa b=>by simp;lia) ns).imp λq=>by simpa using q
theorem Ao {b:List Int}(p:a.Perm b) (ha:a.Pairwise (·<=·)) (hb:b.Pairwise (·<=·)):a=b:=
 p.eq_of_pairwise (λx y _ _ h1 h2=>abd h1 h2) ha hb
section
variable {X:Cx}
def Yb (K:PySem.W.Frag) (vs:List V) (H:Hp) (Q:VK):zm:=∃ (p:aq) (ns:List Int),vs=[.ref p] /\ (cy K H p (ns.map V.int) \/ dH K H p (ns.map V.int)) /\ ns.length<64 /\ ∀ l,H l=ag->Q (.ref l) (upd H l<|.lst<|(sortI ns).map V.int)
theorem oX:∀ {us}{ns},IntsAre us ns->Vals (ns.map V.int) us
 |_,_,.nil=>.nil
 |_,_,.cons n t h=>.cons #[t,rfl]<|oX h
theorem Lm:pS X (.builtin "sorted") (Yb X.K):=by
 intro pins s σ H xs us Q I rv h;let#[p,ns,rfl,hp,dR,q]:=h;let#[u,rfl,ru]:=Vals.one rv;cases ru;have fin:∀ (its) (out) (qb),IntsAre out.toList qb->qb.Perm ns->qb.Pairwise _->EP X pins σ Q _ { s with heap:=sortedAll s.heap its out }:=λits out qb a1 a2 a3=>by
  let#[k,he]:=aa8 s.heap its out;have e:=Ao (a2.trans (gk ns).symm) a3<|iQ ns;subst e;have ll:((sortI ns).map V.int).length<=sizeLine:=by
   rw[aK,(gk ns).length_eq];show cj (nZ dR) zd
  refine#[.ref _,_,I.laid (λb ob q=>aa9 q) (qW _) ?_,rfl,q _<|I.aB.fresh<|qW _];show#[ll,out.toList,k,oX a1,he]
 rcases hp with hp|hp
 .let#[its,r1,p1,z1]:=I.list hp;have hl:ns.length=its.length:=by have:=r1.length;simpa using this
  show sorted_ints p1.isList (AY r1) za λout qb=>fin its out qb
 .let#[its,r1,p1,z1]:=I.tuple hp;have hl:ns.length=its.length:=by have:=r1.length;simpa using this
  show HT.A4 p1 (AY r1) za λout qb=>fin its out qb
def uf:List D->Option Res
 |[.lst l]=>(intsOf l).bind λns=>if ns.length<64 then ae (.lst<|(sortI ns).map D.int) else ag
 |[.tup l]=>(intsOf l).bind λns=>if ns.length<64 then ae (.lst<|(sortI ns).map D.int) else ag
 |_=>ag
theorem A5:∀ (ns:List Int),aE F (ns.map D.int) (ns.map V.int):=by
 intro l_;induction l_ with
 |nil=>show rfl
 |cons n ns bV=>show .cons zc<|bV
theorem agV {K}:rF (Yb K) uf:=by
 intro F H xs vs Q s sub rx e k;unfold uf at e;split at e
 .ext l;let#[v,t,rfl,#[a,us,rfl,h1,h2],rt]:=rx;cases (rt);cases e1:intsOf l with
  |none=>rw[e1]at e;cases e
  |some ns=>
    rw[e1]at e;erw[bT]at e;split at e
    .ext dR;cases e;have q1:=h2.ints e1;subst q1;show#[a,ns,rfl,.inl<|.of h1,dR,λl hl=>k _ _ #[l,_,rfl,hl,rfl,A5 _]]
    .cases e
 .ext l;let#[v,t,rfl,#[a,us,rfl,h1,h2],rt]:=rx;cases (rt);cases e1:intsOf l with
  |none=>rw[e1]at e;cases e
  |some ns=>
    rw[e1]at e;erw[bT]at e;split at e
    .ext dR;cases e;have q1:=h2.ints e1;subst q1;show#[a,ns,rfl,.inr<|.of<|sub _ _ h1,dR,λl hl=>k _ _ #[l,_,rfl,hl,rfl,A5 _]]
    .cases e
 .cases e
def nC (m:DE W) (k:DE W):DE W:=λenv bx=>fC (m env bx) λx bx1=>match x with
 | .b n=>(match bx1[n]? with
   | some (.lst _)=>fC (k env bx1) λy bx2=>(match y,bx2[n]? with
     |.d d,ae (.lst l)=>if l.length<sizeLine then .val (.d .az) (bx2.set n<|.lst<|l++[d]) else .bad
     |_,_=>.bad)
   |_=>.bad)
 |_=>.bad
theorem UW (h:tD T Z (nC ma mb) σ H Q):Hc X.K "list" acr (tD T Z ma) (yw (tD T Z mb) E6) σ H Q:=by
 let#[F,r,env,bx,R,h]:=h;refine#[F,r,env,bx,R,End.bind h λx bx1 F1 r1 v H1 g1 R1 d1 h1=>?_];cases x with
 |b n=>
   simp at h1;let#[a,rfl,ha]:=d1;let#[c,hc,kc]:=R1.eI ha;rw[hc]at h1;cases c with
   |lst l0=>
     let#[_,rJ,k0,_]:=kc;refine#[.inl #[rfl,rJ,cy.of k0],?_];refine#[F1,r1,env,bx1,R1,End.bind h1 λy bx2 F2 r2 u H2 g2 R2 d2 h2=>?_];let#[t,et]:=g2.p;have sN:r2[n]?=ae a:=by rw[<-et,dZ (List.getElem?_eq_some_iff.mp ha).1];show ha
     let#[c2,hZ,sO]:=R2.eI sN;rw[hZ]at h2;cases y with
     |d dd=>
       cases c2 with
       |lst l=>
         simp at h2;split at h2
         .ext hz;let#[hF,vs,k1,k2]:=sO;show#[a,vs,u,rfl,rfl,k1,by rw[<-k2.length];show hz,(h2 F2 r2 _ _ (.refl F2 r2) (R2.write sN hF #[hF,vs++[u],fw,k2.append<|.cons d2 .nil]) zc)]
         .show h2.elim
       |_=>show h2.elim
     |_=>show h2.elim
   |_=>show h1.elim
 |_=>show h1.elim
end
end L2.DL
namespace L2
section
variable {κ:Type} [DecidableEq κ]
noncomputable def eW (aj:List<|κ×V) (k:κ):Option V:=(aj.find? λkv=>decide (kv.1=k)).map (·.2)
noncomputable def putK (aj:List<|κ×V) (k:κ) (v:V):List (κ×V):=
 if (aj.any λkv=>decide (kv.1=k))=ah then aj.map (λkv=>if kv.1=k then (kv.1,v) else kv) else aj++[(k,v)]
noncomputable def rK (aj:List<|κ×V) (k:κ):List (κ×V):=aj.filter λkv=>decide (kv.1≠k)
theorem ju {k:κ}(e:p.1=k):eW (p::r) k=ae p.2:=by simp[eW,e]
theorem i6 {k:κ}(e:¬ p.1=k):eW (p::r) k=eW r k:=by simp[eW,e]
theorem DN (k):∀ aj:List (κ×V),(aj.any λkv=>decide (kv.1=k))=(eW aj k).isSome
 |[]=>rfl
 | p::r=>by
   rw[tO];by_cases e:p.1=k
   .simp[ju e,decide_eq_true e,aau,Option.isSome_some]
   .rw[i6 e,decide_eq_false e,WG];show DN k r
theorem lC (aj) (k:κ) (v):(putK aj k v).length<=aj.length+1:=by
 unfold putK;split
 .rw[aK];lia
 .rw[cW,bE,rh];lia
theorem pQ.yL (r:pQ o u):o.isSome=u.isSome:=by
 cases o with
 | none=>cases u with
   |none=>rfl
   |some _=>show(r).elim
 | some _=>cases u with
   |none=>show(r).elim
   |some _=>rfl
theorem pQ.getD (r:pQ o u) (rd:RelV d d'):RelV (o.getD d) (u.getD d'):=by
 cases o with
 | none=>cases u with
   |none=>show rd
   |some _=>show(r).elim
 | some _=>cases u with
   |none=>show(r).elim
   |some _=>show r
theorem KV.val (r:KV aj vs) (k:κ):pQ (eW aj k) (valueAt vs k):=by
 induction r with
 |nil=>show True.intro
 |@cons p q ps qs h t ih=>
   let#[h1,h2]:=h;by_cases e:p.1=k
   .have b:valueAt (q::qs) k=ae q.2:=by simp[valueAt,(h1.symm.trans e)]
    rw[ju e,b];show h2
   .have e':¬ q.1=k:=λz=>e<|h1.trans z;have b:valueAt (q::qs) k=valueAt qs k:=by simp[valueAt,e']
    rw[i6 e,b];show ih
theorem KV.any (r:KV aj vs) (k:κ):(aj.any λkv=>decide (kv.1=k))=vs.any λkv=>decide (kv.1=k):=by
 induction r with
 |nil=>rfl
 |cons h t ih=>rw[tO,tO,ih,h.1]
theorem KV.repl (r:KV aj vs) (k:κ) (ry:RelV y u) :
 KV (aj.map λkv=>if kv.1=k then (kv.1,y) else kv) (vs.map λkv=>if kv.1=k then (kv.1,u) else kv):=by
 induction r with
 |nil=>show .nil
 |@cons p q ps qs h t ih=>
   rw[aM,aM];refine .cons ?_ ih;let#[h1,h2]:=h;by_cases e:p.1=k
   .rw[if_pos e,if_pos<|h1.symm.trans e];show#[h1,ry]
   .rw[if_neg e,if_neg λz=>e<|h1.trans z];show#[h1,h2]
theorem KV.put (r:KV aj vs) (k:κ) (ry:RelV y u):KV (putK aj k y) (stored vs k u):=by
 unfold putK stored;rw[r.any k];by_cases e:(vs.any λkv=>decide (kv.1=k))=ah
 .rw[if_pos e,if_pos e];show r.repl k ry
 .rw[if_neg e,if_neg e];show Paired.snoc r #[rfl,ry]
theorem KV.drop (r:KV aj vs) (k:κ):KV (rK aj k) (without vs k):=by
 unfold rK without;induction r with
 |nil=>show .nil
 |@cons p q ps qs h t ih=>
   let#[h1,h2]:=h;rw[yc,yc];by_cases e:p.1=k
   .rw[if_neg (by simp[e]),if_neg (by simp[h1.symm.trans e])];show ih
   .have e':¬ q.1=k:=λz=>e<|h1.trans z;rw[if_pos (by simp[e]),if_pos (by simp[e'])];show .cons #[h1,h2] ih
theorem KV.length {vs:List (κ×ay)}(r:KV aj vs):aj.length=vs.length:=Paired.length r
theorem DO (aj) (k:κ):(rK aj k).length<=aj.length:=uG _ _
end
theorem oA (r:RelV (kV k) u):(kM P w).is k u=ah:=by
 cases k with
 |inl i=>let#[t,e]:=(r);subst e;show(λprog w i t=>J1 i t) P w i t
 |inr x=>let#[t,e]:=(r);subst e;show(λprog w x t=>J2 x t) P w x t
theorem Cj:∀ {ks}{us},Vals (ks.map kV) us->ItemsAre (kM P w) ks us
 |[],_,r=>by cases r;show .nil
 | k::ks,_,r=>by
   cases r with
   |cons h t=>show .cons (oA h)<|Cj t
abbrev KT (H:Hp):List (List Key×V)->List (List Key×aq×ay)->zm:=Paired λp q=>p.1=q.1 /\ H q.2.1=ae (.tup<|p.1.map kV) /\ RelV p.2 q.2.2
theorem KT.val (r:KT H aj xs) (k):pQ (eW aj k) ((atKey xs k).map (·.2)):=by
 induction r with
 |nil=>show True.intro
 |@cons p q ps qs h t ih=>
   let#[h1,_,h2]:=h;by_cases e:p.1=k
   .have b:atKey (q::qs) k=ae q.2:=by simp[atKey,(h1.symm.trans e)]
    rw[ju e,b];show h2
   .have e':¬ q.1=k:=λz=>e<|h1.trans z;have b:atKey (q::qs) k=atKey qs k:=by simp[atKey,e']
    rw[i6 e,b];show ih
theorem KT.repl (r:KT H aj xs) (k) (ry:RelV y u) :
 KT H (aj.map λkv=>if kv.1=k then (kv.1,y) else kv) (xs.map<|putAt k u):=by
 induction r with
 |nil=>show .nil
 |@cons p q ps qs h t ih=>
   rw[aM,aM];refine .cons ?_ ih;let#[h1,h2,h3]:=h;unfold putAt;by_cases e:p.1=k
   .rw[if_pos e,if_pos<|h1.symm.trans e];show#[h1,h2,ry]
   .rw[if_neg e,if_neg λz=>e<|h1.trans z];show#[h1,h2,h3]
theorem KT.put (r:KT H aj xs) (k) (hb:H b=ae (.tup<|k.map kV)) (ry:RelV y u) :
 KT H (putK aj k y) (storedH xs k b u):=by
 have e:(aj.any λkv=>decide (kv.1=k))=(atKey xs k).isSome:=by
  rw[DN,(r.val k).yL,qv]
 unfold putK storedH;rw[e];by_cases q:(atKey xs k).isSome=ah
 .rw[if_pos q,if_pos q];show r.repl k ry
 .rw[if_neg q,if_neg q];show Paired.snoc r #[rfl,hb,ry]
theorem KT.keeps (r:KT H aj xs) (ht:∀ b ys,H b=ae (.tup ys)->H' b=ae (.tup ys)):KT H' aj xs:=
 Paired.Xp r λ_ _ z=>#[z.1,ht _ _ z.2.1,z.2.2]

theorem RS (ok:c8 P w H h) (e:Rd H a u):cJ P w H h a u:=e.ok ok
theorem Ap (ok:c8 P w H h) (e:Rd H a<|.dK aj):aj.length<=sizeLine /\ (a==sysModules)=af /\ ∃ vs,KV aj vs /\ h.DictOf (kM P w) a vs:=
 RS ok e
theorem DP (ok:c8 P w H h) (e:H a=ae (.dK aj)):aj.length<=sizeLine /\ (a==sysModules)=af /\ ∃ vs,KV aj vs /\ h.DictOf (kM P w) a vs:=Ap ok<|.inl e
theorem oY (ok:c8 P w H h) (e:H a=ae (.tup<|ks.map kV)):(tupleKind<|kM P w).is h ks a:=by
 let#[_,its,r,o,h1,h2,n,h3]:=(ok a _ e);show#[o,its.toArray,n,h1,h2,h3,by simpa using Cj r]
theorem A6 (ok:c8 P w H h) (e:Rd H a<|.dT aj):aj.length<=sizeLine /\ (a==sysModules)=af /\
 ∃ xs,KT H aj xs /\ h.DictOfH (tupleKind<|kM P w) a xs:=by
 let#[z,y,xs,r,o,es,ep,h1,h2,h3,h4,h5]:=(RS ok e);refine#[z,y,xs,r,o,es,ep,h1,h2,h3,h4,λx hx=>?_,h5];have all:∀ {l}{m},KT H l m->∀ x∈m,(tupleKind<|kM P w).is h x.1 x.2.1:=by
  intro l m q;induction q with
  |nil=>intro x hx;show nomatch hx
  |@cons p q ps qs hq t ih=>
    intro x hx;rcases ba.mp hx with e|hx
    .subst e;show oY ok (by rw[<-hq.1];show hq.2.1)
    .show ih x hx
 show all r x hx
theorem RT (ok:c8 P w H h) (e:H a=ae (.dT aj)):aj.length<=sizeLine /\ (a==sysModules)=af /\
 ∃ xs,KT H aj xs /\ h.DictOfH (tupleKind<|kM P w) a xs:=A6 ok<|.inl e
def sP (H:Hp) (a:aq) (y:V) (r:Option V):zm:=
 (∃ aj k,Rd H a (.dK aj) /\ y=kV k /\ r=eW aj k) \/ ∃ aj k b,Rd H a (.dT aj) /\ y=.ref b /\ H b=ae (.tup<|k.map kV) /\ r=eW aj k
def acX (H:Hp) (a:aq) (y v:V) (H':Hp):zm:=
 (∃ aj k,H a=ae (.dK aj) /\ y=kV k /\ aj.length<sizeLine /\ H'=upd H a (.dK<|putK aj k v)) \/
 ∃ aj k b,H a=ae (.dT aj) /\ y=.ref b /\ H b=ae (.tup<|k.map kV) /\ aj.length<sizeLine /\ H'=upd H a (.dT<|putK aj k v)
theorem sP.k {k}(e:H a=ae (.dK aj)):sP H a (kV k) (eW aj k):=.inl #[aj,k,.inl e,rfl,rfl]

theorem Inv.big (I:Inv X pins σ H s):sysModules<s.heap.objs.size:=by
 show ID zd (I.mod.glob.keeps I.bk).lt
theorem Ln (hu:A.units+1<cLine) (I:Inv X pins σ H s) (g:sP H a y<|ae v) (ry:RelV y u) (h:∀ w' s',Inv X pins σ H s'->RelV v w'->Q w' s') :
 wpAny zi A (getItem (.ref a) u) Q E s:=by
 rcases g with⟨aj,k,e,ey,l⟩|⟨aj,k,b,e,ey,eb,l⟩
 .subst ey;let#[z,hd,vs,rel,dd]:=Ap I.aB e;let#[w',hw,kN]:=pQ.some_of (by rw[l];show rel.val k);show wpAny_getItem_of (oA ry) dd.mapOf hw<|h w' _ (I.tok _) kN
 .subst ey;cases (ry);let#[z,hd,xs,rel,dd]:=A6 I.aB e;let#[w',hw,kN]:=pQ.some_of (by rw[l];show rel.val k);let#[p,hp,agW]:=Option.map_eq_some_iff.mp hw;refine wpAny_getItem_heap (Et hu) (oY I.aB eb) dd hp ?_;rw[agW];show h w' _ (I.tok _) kN
theorem V2 (hu:A.units+1<cLine) (I:Inv X pins σ H s) (g:sP H a y o) (ry:RelV y u) (h:∀ s',Inv X pins σ H s'->Q (.bool o.isSome) s') :
 wpAny zi A (compareOp .In u<|.ref a) Q E s:=by
 rcases g with⟨aj,k,e,ey,l⟩|⟨aj,k,b,e,ey,eb,l⟩
 .subst ey;let#[z,hd,vs,rel,dd]:=Ap I.aB e;refine wpAny_in_of (oA ry) hd dd.mapOf ?_;rw[<-(rel.val k).yL,<-l];show h _<|I.tok _
 .subst ey;cases (ry);let#[z,hd,xs,rel,dd]:=A6 I.aB e;refine wpAny_in_heap (Et hu) (oY I.aB eb) hd dd ?_;have q:=(rel.val k).yL;rw[qv]at q;rw[<-q,<-l];show h _<|I.tok _
theorem OP (hu:A.units+1<cLine) (I:Inv X pins σ H s) (g:sP H a y o) (ry:RelV y u) (h:∀ s',Inv X pins σ H s'->Q (.bool<|!o.isSome) s') :
 wpAny zi A (compareOp .NotIn u<|.ref a) Q E s:=by
 rcases g with⟨aj,k,e,ey,l⟩|⟨aj,k,b,e,ey,eb,l⟩
 .subst ey;let#[z,hd,vs,rel,dd]:=Ap I.aB e;refine wpAny_notIn_of (oA ry) hd dd.mapOf ?_;rw[<-(rel.val k).yL,<-l];show h _<|I.tok _
 .subst ey;cases (ry);let#[z,hd,xs,rel,dd]:=A6 I.aB e;refine wpAny_notIn_heap (Et hu) (oY I.aB eb) hd dd ?_;have q:=(rel.val k).yL;rw[qv]at q;rw[<-q,<-l];show h _<|I.tok _
theorem oB (I:Inv X pins σ H s) (mu:EO<|H a) (hs:Heap.SameBut a s.heap h') (he:∃ q,h'.get? a=ae q) (new:cJ X.prog X.w (upd H a ob) h' a ob) :
 Inv X pins σ (upd H a ob) { s with heap:=h',toks:=t' }:=
 I.write mu (.inl zc) (λb q hb z=>(hs.2 b hb).trans z) he new
theorem CS (z:aj.length<=sizeLine) (hd:(a==sysModules)=af) (rel:KV aj vs) (dd:h'.DictOf (kM P w) a vs) :
 cJ P w H' h' a (.dK aj):=#[z,hd,vs,rel,dd]
theorem Lo (hu:A.units+1<cLine) (I:Inv X pins σ H s) (g:acX H a y v H') (ry:RelV y u) (rv:RelV v r) (h:∀ s',Inv X pins σ H' s'->Q () s') :
 wpAny zi A (setItem (.ref a) u r) Q E s:=by
 rcases g with⟨aj,k,e,ey,l,eH⟩|⟨aj,k,b,e,ey,eb,l,eH⟩
 .subst ey eH;let#[z,hd,vs,rel,dd]:=DP I.aB e;have hz:vs.length<=sizeLine:=by rw[<-rel.length];show z
  have hl:(putK aj k v).length<=sizeLine:=by have:=lC aj k v;lia
  refine wpAny_setItem_pairs (oA ry) dd λh' pG hs=>h _ ?_;have he:∃ q,h'.get? a=ae q:=let ⟨q,_,_,hq,_⟩:=pG;#[q,hq]
  show oB I (by rw[e];show True.intro) hs he<|CS hl hd (rel.put k rv) pG
 .subst ey eH;cases (ry);let#[z,hd,xs,rel,dd]:=RT I.aB e;have hz:xs.length<=sizeLine:=by rw[<-Paired.length rel];show z
  have hl:(putK aj k v).length<=sizeLine:=by have:=lC aj k v;lia
  refine wpAny_setItem_heap (Et hu) (oY I.aB eb) dd λh' pG hs=>h _ ?_;let#[q,es,ep,hq,h2,h3,h4,_,h5]:=pG;refine oB I (by rw[e];show True.intro) hs #[q,hq] #[hl,hd,_,(rel.put k eb rv).keeps λc ys ec=>?_,q,es,ep,hq,h2,h3,h4,h5];rw[fA<|UJ ec e λz=>nomatch z];show ec

theorem Lp (I:Inv X pins σ H s) (e:H a=ae (.dK aj)) (ry:RelV (kV k) u) (l:(eW aj k).isSome=ah) (h:∀ s',Inv X pins σ (upd H a<|.dK<|rK aj k) s'->Q () s') :
 wpAny zi A (delItem (.ref a) u) Q E s:=by
 let#[z,hd,vs,rel,dd]:=DP I.aB e;refine wpAny_delItem_slot dd.typeIs (rfl) abq
  (Eu abq dd.typeIs PySem.F.entry_dict_delitem (PySem.F.args_dict_delitem_2 _ _) (meets_dict_delitem_pairs _ a<|oA ry) #[vs,dd,by rw[<-rel.length];show z,by rw[<-(rel.val k).yL];show l,λh' pG hs=>h _ ?_])
 show oB I (by rw[e];show True.intro) hs (let ⟨q,_,_,hq,_⟩:=pG;#[q,hq])<|CS (cj (DO aj k) z) hd (rel.drop k) pG
theorem UX (I:Inv X pins σ H s) (e:H a=ae (.dK aj)) (ry:RelV (kV k) u) (l:eW aj k=ae v) (hm:more=[] \/ ∃ x,more=[x])
 (h:∀ w' s',Inv X pins σ (upd H a<|.dK<|rK aj k) s'->RelV v w'->Q w' s'):wpAny zi A (call (.builtin "dict.pop") (.ref a::u::more)) Q E s:=by
 let#[z,hd,vs,rel,dd]:=DP I.aB e;let#[w',hw,kN]:=pQ.some_of (by rw[<-l];show rel.val k);have hp:(keyPart u).isSome=ah:=by
  cases k with
  |inl i=>let#[t,q]:=(ry);subst q;rfl
  |inr x=>let#[t,q]:=(ry);subst q;rfl
 have ha:argsOk "dict.pop" #[.ref a::u::more,[]]:=by
  rcases hm with q|⟨x,q⟩
  .subst q;show PySem.F.args_dict_pop_2 _ _
  .subst q;show PySem.F.args_dict_pop_3 _ _ _
 refine Eu abr dd.typeIs PySem.F.entry_dict_pop ha (meets_dict_pop_there _ a (oA ry) more hm hp)
  #[vs,w',dd,by rw[<-rel.length];show z,hw,λh' pG hs=>h w' _ ?_ kN]
 show oB I (by rw[e];show True.intro) hs (let ⟨q,_,_,hq,_⟩:=pG;#[q,hq])<|CS (cj (DO aj k) z) hd (rel.drop k) pG
def Yc (i:aD):zm:=∀ ov iv,subscripted i af ov iv=operate [ov,iv] (getItem ov iv)
theorem OQ {id}
 (hl:typeLookup (.type T) "__getitem__"=pure (ae<|.builtin id)) (hs:Yc slice)
 (h:wpAny zj A (eval value env) (λo s₁=>wpAny zj A (eval slice env) (λi s₂=>s₂.TypeIs o T /\ wpAny zj A (getItem o i) Q E s₂) E s₁) E s) :
 wpAny zj A (eval (.Subscript value slice pos) env) Q E s:=by
 refine Subscript_<|nM h (λo s₁ h₁=>nM h₁ (λi s₂ h₂=>?_) λ_ _ x=>x) λ_ _ x=>x;let#[hT,h₂]:=h₂;refine ai ?_;refine ai<|Z9 hT hl ?_;have fin:wpAny zj A (subscripted slice af o i) (λr s₃=>wpAny zj A (letTemporaryGo value o r >>= λ_=>pure r) Q E s₃) E s₂:=by
  rw[hs o i];show wpAny_operating<|nM h₂ (λr s₃ h₃=>ai<|wpAny_letTemporaryGo<|ao h₃) λ_ _ x=>x
 first
  |show ao<|ai fin
  |show ai _
  |show ai fin
def acY (td ty:TE):TE:=λσ H Q=>td σ H λx H1=>ty σ H1 λy H2=>∃ a v,x=.ref a /\ sP H2 a y (ae v) /\ Q v H2
def Yd (ty td:TE):TE:=λσ H Q=>ty σ H λy H1=>td σ H1 λx H2=>∃ a o,x=.ref a /\ sP H2 a y o /\ Q (.bl o.isSome) H2
def acZ (ty td:TE):TE:=λσ H Q=>ty σ H λy H1=>td σ H1 λx H2=>∃ a o,x=.ref a /\ sP H2 a y o /\ Q (.bl<|!o.isSome) H2
def ac0 (td ty tv:TE):TS:=λD σ H=>tv σ H λv H1=>td σ H1 λx H2=>ty σ H2 λy H3=>∃ a H4,x=.ref a /\ acX H3 a y v H4 /\ D.nx σ H4
def ac1 (td ty:TE):TS:=λD σ H=>td σ H λx H1=>ty σ H1 λy H2=>∃ a aj k,x=.ref a /\ H2 a=ae (.dK aj) /\ y=kV k /\ (eW aj k).isSome=ah /\ D.nx σ (upd H2 a<|.dK<|rK aj k)

theorem G0 (hu:X.A.units+1<cLine) (ho:PE X o td) (hi:PE X i ty) (hs:Yc i):PE X (.Subscript o i pos) (acY td ty):=by
 intro pins s σ H Q I h;refine OQ PySem.F.slot_dict_getitem.lookup hs<|br (ho pins s σ H _ I h) λu s1 x H1 I1 rx q1=>br (hi pins s1 σ H1 _ I1 q1) λiv s2 y H2 I2 ry hh=>?_;let#[a,v,ex,g,q2]:=hh;subst ex;obtain rfl:u=Value.ref a:=rx;show#[(λI g=>by
  rcases g with⟨aj,k,e,_,_⟩|⟨aj,k,b,e,_,_,_⟩
  .let#[_,_,vs,_,dd]:=Ap I.aB e;show dd.typeIs
  .let#[_,_,xs,_,dd]:=A6 I.aB e;show dd.typeIs) I2 g,Ln hu I2 g ry λw' s3 I3 kN=>#[v,H2,I3,kN,q2]]
theorem CT (hu:X.A.units+1<cLine) (hi:PE X i ty) (ho:PE X o td):PC X .In i o (Yd ty td):=by
 intro pins s σ H Q I h;refine br (hi pins s σ H _ I h) λiv s1 y H1 I1 ry q1=>br (ho pins s1 σ H1 _ I1 q1) λu s2 x H2 I2 rx hh=>?_;let#[a,ov,ex,g,q2]:=hh;subst ex;obtain rfl:u=Value.ref a:=rx;show V2 hu I2 g ry λs3 I3=>#[.bl ov.isSome,H2,I3,rfl,q2]
theorem Ck (hu:X.A.units+1<cLine) (hi:PE X i ty) (ho:PE X o td):PC X .NotIn i o (acZ ty td):=by
 intro pins s σ H Q I h;refine br (hi pins s σ H _ I h) λiv s1 y H1 I1 ry q1=>br (ho pins s1 σ H1 _ I1 q1) λu s2 x H2 I2 rx hh=>?_;let#[a,ov,ex,g,q2]:=hh;subst ex;obtain rfl:u=Value.ref a:=rx;show OP hu I2 g ry λs3 I3=>#[.bl _,H2,I3,rfl,q2]
theorem G1 (hu:X.A.units+1<cLine) (ho:PE X o td) (hi:PE X i ty) (hv:PE X value tv) (hs:swapsWith value (ae<|.Subscript o i pos') pos.line X.env=pure af) :
 PS X (.Assign [.Subscript o i pos'] value pos) (ac0 td ty tv):=by
 intro pins s σ H D I h;refine wpAny_Assign_Subscript (br (hv pins s σ H _ I h) λr s1 v H1 I1 rv q1=>br (ho pins s1 σ H1 _ I1 q1) λu s2 x H2 I2 rx q2=>br (hi pins s2 σ H2 _ I2 q2) λiv s3 y H3 I3 ry hh=>?_) hs;let#[a,H4,ex,g,q3]:=hh;subst ex;obtain rfl:u=Value.ref a:=rx;show Lo hu I3 g ry rv λs4 I4=>#[σ,H4,I4,q3]
theorem OR (ho:PE X o td) (hi:PE X i ty):PS X (.Delete [.Subscript o i ajI] pos) (ac1 td ty):=by
 intro pins s σ H D I h;refine wpAny_Delete<|wpAny_deleteEach_cons<|wpAny_delete_Subscript<|br (ho pins s σ H _ I h) λu s1 x H1 I1 rx q1=>br (hi pins s1 σ H1 _ I1 q1) λiv s2 y H2 I2 ry hh=>?_;let#[a,aj,k,ex,e,ey,l,q2]:=hh;subst ex ey;obtain rfl:u=Value.ref a:=rx;show Lp I2 e ry l λs3 I3=>wpAny_deleteEach_nil #[σ,_,I3,q2]
theorem DQ (h:aT) (hb:sysModules<h.objs.size):cJ P w H (h.push { cls:=.type "dict",data:=.dict #[] }) h.objs.size (.dK []):=
 #[dJ _,beq_eq_false_iff_ne.mpr<|Ne.symm<|cw hb,[],.nil,Heap.DictOf.new h]
def agX:TE:=λ_ H Q=>∀ p,H p=ag->Q (.ref p) (upd H p<|.dK [])
def agY:TE:=λ_ H Q=>∀ p,H p=ag->Q (.ref p) (upd H p<|.dT [])

theorem DR:PE X (.Dict [] [] pos) agX:=λpins s σ H Q I h=>
 aaa #[.ref s.heap.objs.size,_,I.laid (λ_ _ q=>aU _ q) (aC _)<|DQ s.heap I.big,rfl,h _<|I.aB.fresh<|aC _]
theorem DS:PE X (.Dict [] [] pos) agY:=λpins s σ H Q I h=>
 aaa #[.ref s.heap.objs.size,_,I.laid (λ_ _ q=>aU _ q) (aC _)<|(λh hb=>#[dJ _,beq_eq_false_iff_ne.mpr<|Ne.symm<|cw hb,[],.nil,_,#[],0,bF _ zc,#[rfl,rfl,rfl],rfl,rfl,aaC]) s.heap I.big,rfl,h _<|I.aB.fresh<|aC _]
noncomputable def K9:List (TE×TE)->St->Hp->(List (V×V)->Hp->zm)->zm
 |[],_,H,Q=>Q [] H
 |(tk,tv)::r,σ,H,Q=>tk σ H λx H1=>tv σ H1 λy H2=>K9 r σ H2 λps H3=>Q ((x,y)::ps) H3
abbrev VV:List (V×V)->List (ay×ay)->zm:=Paired λp q=>RelV p.1 q.1 /\ RelV p.2 q.2
def Qa (X:Cx) (pos:Pos) (keys:List<|Option aD) (values:List aD) (xf:List<|TE×TE):zm:=
 ∀ (pins) (s) (σ:St) (H) (Q),Inv X pins σ H s->K9 xf σ H Q ->
  wpAny zi X.A (evalPairs<|pairTrees keys values X.env pos) (λvs s'=>∃ ps H',Inv X pins σ H' s' /\ VV ps vs /\ Q ps H') X.xe s
theorem A7 (hk:PE X k tk) (hv:PE X v tv) (hr:Qa X pos ks vs xf) :
 Qa X pos (ae k::ks) (v::vs) ((tk,tv)::xf):=λpins s σ H Q I h=>
 pairTrees_cons_walk (br (hk pins s σ H _ I h) λu s1 x H1 I1 rx q1=>br (hv pins s1 σ H1 _ I1 q1) λw2 s2 y H2 I2 ry q2=>Kt (hr pins s2 σ H2 _ I2 q2) λws s3 ps H3 I3 rel q3=>#[(x,y)::ps,H3,I3,.cons #[rx,ry] rel,q3])
def xg (aj more:List<|Key×V):List (Key×V):=more.foldl (λacc kv=>putK acc kv.1 kv.2) aj
theorem KV.merge:∀ {more}{rs}{aj}{vs},KV more rs->KV aj vs->KV (xg aj more) (merged vs rs):=by
 intro more rs aj vs r;induction r generalizing aj vs with
 |nil=>intro q;show q
 |@cons p q ps qs h t ih=>
   intro r0;have e:KV (putK aj p.1 p.2) (stored vs q.1 q.2):=by
    have:=r0.put p.1 h.2;rw[<-h.1];show this
   show ih e
theorem mK:∀ (more aj),(xg aj more).length<=aj.length+more.length
 |[],aj=>by change aj.length<=aj.length+0;lia
 | p::r,aj=>by
   have h1:=mK r<|putK aj p.1 p.2;have h2:=lC aj p.1 p.2;change (xg _ r).length<=_;rw[bE];lia
theorem A8:∀ {aj}{ws},VV (aj.map λkv=>(kV kv.1,kv.2)) ws->∃ rs,Carries (kM P w) ws rs /\ KV aj rs
 |[],_,r=>by cases r;show#[[],True.intro,.nil]
 | p::aj,_,r=>by
   cases r with
   |@cons a b as bs h t=>
     let#[rs,c,q]:=A8 t;let#[b1,b2]:=b;show#[(p.1,b2)::rs,#[oA h.1,rfl,c],.cons #[rfl,h.2] q]
def agZ (xf:List<|TE×TE):TE:=λσ H Q=>∀ p,H p=ag->K9 xf σ (upd H p<|.dK []) λps H2=>H2 p=ae (.dK []) /\ ∃ aj,ps=aj.map (λkv=>(kV kv.1,kv.2)) /\ aj.length<=15 /\ Q (.ref p) (upd H2 p<|.dK<|xg [] aj)
theorem OT (h:Qa X pos keys values xf) (Hd:keys.all (·.isSome)=ah) (hl:keys.length=values.length) (h0:keys≠[])
 (Ye:keys.length<=15):PE X (.Dict keys values pos) (agZ xf):=by
 intro pins s σ H Q I q;refine wpAny_Dict_walk (knd:=kM X.prog X.w) Hd hl h0 Ye<|Kt (h pins _ σ _ _ (I.laid (t':=s.toks) (λ_ _ q=>aU _ q) (aC _)<|DQ s.heap I.big)<|q _<|I.aB.fresh<|aC s.heap.objs.size) λws s2 ps H2 I2 rel ⟨e,aj,ep,lk,q2⟩=>?_;subst ep;let#[rs,c,rk]:=A8 rel;let#[z,hd,rJ,r0,dd]:=DP I2.aB e;cases r0;refine#[rs,c,dd,λh' pG hs=>#[.ref s.heap.objs.size,_,?_,rfl,q2]];have hz:(xg [] aj).length<=sizeLine:=by
  have h1:=mK aj [];rw[rh]at h1;rw[bj];lia
 show oB I2 (by rw[e];show True.intro) hs (let ⟨q,_,_,hq,_⟩:=pG;#[q,hq])<|CS hz hd (rk.merge .nil) pG
structure M1 (X:Cx) (o:aD) (m:Str) (apos:Pos) (e:aD) (kY:Pos):zm where
 base:attributeBase o m X.env (eval o X.env)=eval o X.env
 few:((backTo kY<|starEach [e] X.env).all (λx=>!x.1)&&(backToKw kY<|keywordEach [] X.env).all (λx=>x.1.isSome)
  && decide (([e]:List aD).length+([]:List Keyword).length+(if ([]:List Keyword).isEmpty then 0 else 1)<30))=ah
 line:(apos.endLine==kY.line)=ah
 trees:backTo kY (starEach [e] X.env)=[(af,eval e X.env)]
def Yf (H:Hp) (a:aq):zm:=(∃ aj,Rd H a<|.dK aj) \/ ∃ aj,Rd H a (.dT aj)
theorem F7 (I:Inv X pins σ H s) (d:Yf H a) :
 s.TypeIs (.ref a) "dict" /\ (∀ b,Value.ref a=.ref b->∃ ob,s.heap.get? b=ae ob /\ ob.dict=ag) /\ (a==sysModules)=af:=by
 rcases d with⟨aj,e⟩|⟨aj,e⟩
 .let#[_,hd,vs,_,dd]:=Ap I.aB e;refine#[dd.typeIs,λb q=>?_,hd];cases q;let#[ob,_,_,h1,h2,_]:=dd;show#[ob,h1,h2.2.1]
 .let#[_,hd,xs,_,dd]:=A6 I.aB e;refine#[dd.typeIs,λb q=>?_,hd];cases q;let#[ob,_,_,h1,h2,_]:=dd;show#[ob,h1,h2.2.1]

theorem SZ (hu:A.units+1<cLine) (I:Inv X pins σ H s) (g:sP H a y o) (ry:RelV y u) (h:∀ w' s',Inv X pins σ H s'->RelV (o.getD .az) w'->Q w' s') :
 wpAny zi A (call (.builtin "dict.get") [.ref a,u]) Q E s:=by
 rcases g with⟨aj,k,e,ey,l⟩|⟨aj,k,b,e,ey,eb,l⟩
 .subst ey;let#[z,hd,vs,rel,dd]:=Ap I.aB e;refine Eu Xh dd.typeIs abt (abu _ _) (meets_dict_get _ a (oA ry) hd) #[_,dd.mapOf,h _ _ (I.tok _) ?_];rw[l];show(rel.val k).getD zc
 .subst ey;cases (ry);let#[z,hd,xs,rel,dd]:=A6 I.aB e;refine Eu Xh dd.typeIs abt (abu _ _) (meetsH_dict_get _ a b hd) #[Et hu,k,xs,oY I.aB eb,dd,h _ _ (I.tok _) ?_];rw[l];show(rel.val k).getD zc
def ac2 (td ty:TE):TE:=λσ H Q=>td σ H λx H1=>∃ a,x=.ref a /\ Yf H1 a /\ ty σ H1 λy H2=>∃ o,sP H2 a y o /\ Q (o.getD .az) H2
def ac3 (td ty:TE):TE:=λσ H Q=>td σ H λx H1=>∃ a,x=.ref a /\ Yf H1 a /\ ty σ H1 λy H2=>∃ aj k v,H2 a=ae (.dK aj) /\ y=kV k /\ eW aj k=ae v /\ Q v (upd H2 a<|.dK<|rK aj k)

theorem Mx (hu:X.A.units+1<cLine) (ho:PE X o td) (he:PE X e ty) (m:M1 X o "get" apos e kY):PE X (.Call (.Attribute o "get" apos) [e] [] kY) (ac2 td ty):=by
 intro pins s σ H Q I h;refine Wq m.base m.few m.line Xi Xh PySem.F.type_dict_get<|br (ho pins s σ H _ I h) λu s1 x H1 I1 rx hh=>?_;let#[a,ex,d,q1]:=hh;subst ex;obtain rfl:u=Value.ref a:=rx;let#[t1,t2,_]:=F7 I1 d;refine#[t1,t2,?_];rw[m.trees];show Kj zc<|Xc<|wF<|br (he pins s1 σ H1 _ I1 q1) λiv s2 y H2 I2 ry ⟨ov,g,q2⟩=>wD<|SZ hu I2 g ry λw' s3 I3 kN=>#[_,H2,I3,kN,q2]
theorem My (ho:PE X o td) (he:PE X e ty) (m:M1 X o "pop" apos e kY):PE X (.Call (.Attribute o "pop" apos) [e] [] kY) (ac3 td ty):=by
 intro pins s σ H Q I h;refine Wq m.base m.few m.line Xi abr PySem.F.type_dict_pop<|br (ho pins s σ H _ I h) λu s1 x H1 I1 rx hh=>?_;let#[a,ex,d,q1]:=hh;subst ex;obtain rfl:u=Value.ref a:=rx;let#[t1,t2,_]:=F7 I1 d;refine#[t1,t2,?_];rw[m.trees];refine Kj zc<|Xc<|wF<|br (he pins s1 σ H1 _ I1 q1) λiv s2 y H2 I2 ry ⟨aj,k,v,ea,ey,l,q2⟩=>wD ?_;subst ey;show UX I2 ea ry l (.inl zc) λw' s3 I3 kN=>#[v,_,I3,kN,q2]


end L2
namespace L2.DL
noncomputable def eF:Key->PyData
 |.inl i=>.int i
 |.inr x=>.str x
mutual
noncomputable def toPy:D->PyData
 |.az=>.none
 |.bl b=>.bool b
 |.int i=>.int i
 |.str x=>.str x
 |.tup l=>.tuple<|bW l
 |.lst l=>.list<|bW l
 |.au l=>.dict<|cz l
noncomputable def bW:List D->List PyData
 |[]=>[]
 |d::l=>toPy d::bW l
noncomputable def cz:List (Key×D)->List (PyData×PyData)
 |[]=>[]
 |(k,d)::l=>(eF k,toPy d)::cz l
end
section
variable {X:Cx}
theorem oZ:∀ {es}{vs}{l}{aj},PySem.Pairs (kM X.prog X.w) es vs->KV aj vs->aO F l aj->ReadsAll h (es.map (·.key)) ((cz l).map (·.1)) []
 | _,_,[],_,p,k,d=>by
   cases (d);cases k;cases p;show .nil
 | _,_,(k,x)::l,_,p,q,d=>by
   let#[v,r,e,_,d2]:=d;subst e;cases q with
   |cons q1 q2=>
     cases p with
     |@cons de _ _ _ p1 p2 p3=>
       have e1:=q1.1;simp at e1;rw[<-e1]at p1;have hk:Reads h de.key (eF k) []:=by
        rcases fZ (p1) with⟨i,t,e2,e3⟩|⟨y,t,e2,e3⟩
        .rw[e2,e3];show .int i t
        .rw[e2,e3];show .str y t
       show ReadsAll.cons hk<|oZ (h:=h) p3 q2 d2
mutual
theorem gn (I:Inv X pins σ H s) (sub:Sub F H):∀ {d:D}{v:V}{u:ay},Den F d v->RelV v u->∃ as,Reads s.heap u (toPy d) as
 |.az,_,_,h,r=>by cases (show _=V.az from h);cases r;show#[[],.none]
 |.bl b,_,_,h,r=>by cases (show _=V.bl b from h);cases r;show#[[],.bool b]
 |.int i,_,_,h,r=>by cases (show _=V.int i from h);let#[t,rfl]:=r;show#[[],.int i t]
 |.str x,_,_,h,r=>by cases (show _=V.str x from h);let#[t,rfl]:=r;show#[[],.str x t]
 | .tup l,_,_,h,r=>by
   let#[a,vs,rfl,h1,h2]:=h;cases r;let#[_,its,rv,ob,e1,e2,n,e3]:=(show cJ X.prog X.w H s.heap a (.tup vs) from I.aB a _ (sub _ _ h1));let#[as,ra]:=jM I sub h2 rv;show#[as,.tuple e1 e2 e3 (by simpa using ra)]
 | .lst l,_,_,h,r=>by
   let#[a,vs,rfl,h1,h2]:=h;cases r;let#[_,its,n,rv,e1]:=(show cJ X.prog X.w H s.heap a (.lst vs) from I.aB a _ (sub _ _ h1));let#[as,ra]:=jM I sub h2 rv;show#[a::as,.list e1 zc zc (by simpa using ra)]
 | .au l,_,_,h,r=>by
   let#[a,aj,rfl,h1,h2]:=h;cases r;let#[_,_,vs,rk,ob,es,ep,e1,e2,e3,_,pr,_]:=(show cJ X.prog X.w H s.heap a (.dK aj) from I.aB a _ (sub _ _ h1));let#[as,ra]:=mO I sub h2 rk pr;show#[a::[]++as,.dict e1 e2.1 e3 (oZ (X:=X) pr rk h2) ra]
theorem jM (I:Inv X pins σ H s) (sub:Sub F H):∀ {l:List D}{vs:List V}{us:List ay},aE F l vs->Vals vs us->∃ as,ReadsAll s.heap us (bW l) as
 |[],_,_,h,r=>by cases (show _=[] from h);cases r;show#[[],.nil]
 | d::l,_,_,h,r=>by
   let#[v,t,e,h1,h2]:=h;subst e;cases r with
   |cons r1 r2=>
     let#[as,ra]:=gn I sub h1 r1;let#[bs,rb]:=jM I sub h2 r2;show#[as++bs,.cons ra rb]
theorem mO (I:Inv X pins σ H s) (sub:Sub F H):∀ {l:List (Key×D)}{aj:List (Key×V)}{vs:List (Key×ay)}{es:List DictEntry},aO F l aj->KV aj vs->PySem.Pairs (kM X.prog X.w) es vs->∃ as,ReadsAll s.heap (es.map (·.val)) ((cz l).map (·.2)) as
 |[],_,_,_,h,r,p=>by cases (show _=[] from h);cases r;cases p;show#[[],.nil]
 | (k,d)::l,_,_,_,h,r,p=>by
   let#[v,t,e,h1,h2]:=h;subst e;cases r with
   |cons r1 r2=>
     cases p with
     |cons p1 p2 p3=>
       let#[as,ra]:=gn I sub h1 r1.2;let#[bs,rb]:=mO I sub h2 r2 p3;rw[<-p2]at ra;show#[as++bs,.cons ra rb]
end
abbrev Hq (ts:List Str):zm:=∀ t∈ts,t.length<=sizeLine
theorem Mz (e:wG k y=ah) (hs:(eF k).showable=ah) (hz:(eF k).shown.length<=sizeLine) (n):ReprK X.prog X.w [] h n y (eF k).shown:=by
 rcases fZ e with⟨i,t,e2,e3⟩|⟨x,t,e2,e3⟩
 .subst e2;subst e3;show .of_is (ReprIs.int t (by simpa[eF,PyData.showable] using hs)) _ _ _
 .subst e2;subst e3;show .of_is (ReprIs.str x t (by simpa only[eF,PyData.shown] using hz)) _ _ _
theorem o7:∀ {es}{vs}{l}{aj},PySem.Pairs (kM X.prog X.w) es vs->KV aj vs->aO F l aj->PyData.showableKv (cz l)=ah->Hq (PyData.shownKv<|cz l) ->
 ReprAllK X.prog X.w [] h n (es.map (·.key)) (PyData.shownAll ((cz l).map (·.1)))
 | _,_,[],_,p,k,d,_,_=>by
   cases (d);cases k;cases p;show .nil
 | _,_,(k,x)::l,_,p,q,d,hs,hz=>by
   let#[v,r,e,_,d2]:=d;subst e;simp[cz,PyData.showableKv,aF]at hs;have z1:=hz _<|bA ..;rw[qt,qt]at z1;cases q with
   |cons q1 q2=>
     cases p with
     |@cons de _ _ _ p1 p2 p3=>
       have e1:=q1.1;simp at e1;rw[<-e1]at p1;show .cons (Mz (p1) hs.1.1 za n)<|o7 p3 q2 d2 hs.2 λt m=>hz t<|a8 _ m
mutual
theorem DT (I:Inv X pins σ H s) (sub:Sub F H):∀ {d:D}{v:V}{u:ay},Den F d v->RelV v u->(toPy d).showable=ah->(toPy d).shown.length<=sizeLine->∃ bs,ReadAtMost s.heap (toPy d).depth bs /\ ReprK X.prog X.w bs s.heap (toPy d).depth u (toPy d).shown
 |.az,_,_,h,r,_,_=>by cases (show _=V.az from h);cases r;show#[[],(λ_ z=>nomatch z),.of_is ReprIs.none _ _ _]
 |.bl b,_,_,h,r,_,_=>by cases (show _=V.bl b from h);cases r;show#[[],(λ_ z=>nomatch z),.of_is (ReprIs.bool b) _ _ _]
 |.int i,_,_,h,r,hs,_=>by cases (show _=V.int i from h);let#[t,rfl]:=r;show#[[],(λ_ z=>nomatch z),.of_is (ReprIs.int t<|of_decide_eq_true hs) _ _ _]
 |.str x,_,_,h,r,_,hz=>by cases (show _=V.str x from h);let#[t,rfl]:=r;show#[[],(λ_ z=>nomatch z),.of_is (ReprIs.str x t hz) _ _ _]
 | .tup l,_,_,h,r,hs,hz=>by
   let#[as,rd]:=gn I sub h r;let#[a,vs,rfl,h1,h2]:=h;cases r;let#[_,its,rv,ob,e1,e2,n,e3]:=(show cJ X.prog X.w H s.heap a (.tup vs) from I.aB a _ (sub _ _ h1));have pH:(tupleText<|PyData.shownAll<|bW l).length<=sizeLine:=by simpa only[toPy,PyData.shown] using hz
   let#[bs,hb,hk]:=jv I sub h2 rv (by simpa[toPy,PyData.showable] using hs) λt m=>cj (aab m) pH;erw[toPy,PyData.depth,PyData.shown]at rd ⊢;show#[a::bs,ReadAtMost.cons rd (qW _) hb,ReprK.tuple e1 e2 e3 (xO rd (n6 _) hb) (by simpa using hk)]
 | .lst l,_,_,h,r,hs,hz=>by
   let#[as,rd]:=gn I sub h r;let#[a,vs,rfl,h1,h2]:=h;cases r;let#[_,its,n,rv,e1]:=(show cJ X.prog X.w H s.heap a (.lst vs) from I.aB a _ (sub _ _ h1));have pH:(listText<|PyData.shownAll<|bW l).length<=sizeLine:=by simpa only[toPy,PyData.shown] using hz
   let#[bs,hb,hk]:=jv I sub h2 rv (by simpa[toPy,PyData.showable] using hs) λt m=>cj (aac m) pH;erw[toPy,PyData.depth,PyData.shown]at rd ⊢;refine#[a::bs,ReadAtMost.cons rd (qW _) hb,?_];cases its with
   |nil=>
     have e:bW l=[]:=by
      cases l with
      |nil=>rfl
      |cons x l=>let#[v,t,e,_]:=h2;subst e;cases rv
     rw[e];erw[PyData.shownAll,aad];show ReprK.listEmpty e1 zc zc
   |cons x its=>show ReprK.list e1 zc zc (xO rd (n6 _) hb) (by simpa using hk.length_eq) λi y q=>hk.item i y (by simpa using q)
 | .au l,_,_,h,r,hs,hz=>by
   let#[as,rd]:=gn I sub h r;let#[a,aj,rfl,h1,h2]:=h;cases r;let#[_,hy,vs,rk,ob,es,ep,e1,e2,e3,_,pr,_]:=(show cJ X.prog X.w H s.heap a (.dK aj) from I.aB a _ (sub _ _ h1));have pH:(dictText<|PyData.shownKv<|cz l).length<=sizeLine:=by simpa only[toPy,PyData.shown] using hz
   have fit:Hq (PyData.shownKv<|cz l):=λt m=>cj (aae m) pH;have Hr:PyData.showableKv (cz l)=ah:=by simpa[toPy,PyData.showable] using hs
   let#[bs,hb,hk]:=o8 I sub h2 rk pr Hr fit;have hK:=o7 (X:=X) (h:=s.heap) (n:=PyData.depthKv<|cz l) pr rk h2 Hr fit;erw[toPy,PyData.depth,PyData.shown]at rd ⊢;rw[Xn];show#[a::bs,ReadAtMost.cons rd (qW _) hb,ReprK.dict e1 e2.1 e3 hy (xO rd (n6 _) hb)<|abK _ _ _ (hK.more_le (λ_ z=>by cases z)<|aC _) hk]
theorem jv (I:Inv X pins σ H s) (sub:Sub F H):∀ {l:List D}{vs:List V}{us:List ay},aE F l vs->Vals vs us->PyData.showableAll (bW l)=ah->Hq (PyData.shownAll<|bW l)->∃ bs,ReadAtMost s.heap (PyData.depthAll<|bW l) bs /\ ReprAllK X.prog X.w bs s.heap (PyData.depthAll<|bW l) us (PyData.shownAll<|bW l)
 |[],_,_,h,r,_,_=>by cases (show _=[] from h);cases r;show#[[],(λ_ z=>nomatch z),.nil]
 | d::l,_,_,h,r,hs,hz=>by
   let#[v,t,e,h1,h2]:=h;subst e;erw[bW,PyData.showableAll,aF]at hs;erw[bW,PyData.shownAll]at hz;cases r with
   |cons r1 r2=>
     let#[as,ha,ka]:=DT I sub h1 r1 hs.1<|hz _<|bA ..;let#[bs,hb,kb]:=jv I sub h2 r2 hs.2 λt m=>hz t<|a8 _ m;erw[bW,PyData.depthAll,PyData.shownAll];have la:=Nat.le_max_left (toPy d).depth<|PyData.depthAll<|bW l;have lb:=Nat.le_max_right (toPy d).depth<|PyData.depthAll<|bW l;show#[as++bs,(ha.mono la).append<|hb.mono lb,.cons ((ka.more λ_ m=>qX _ m).level_le la)<|kb.more_le (λ_ m=>n9 _ m) lb]
theorem o8 (I:Inv X pins σ H s) (sub:Sub F H):∀ {l:List (Key×D)}{aj:List (Key×V)}{vs:List (Key×ay)}{es:List DictEntry},aO F l aj->KV aj vs->PySem.Pairs (kM X.prog X.w) es vs->PyData.showableKv (cz l)=ah->Hq (PyData.shownKv<|cz l) ->
 ∃ bs,ReadAtMost s.heap (PyData.depthKv<|cz l) bs /\ ReprAllK X.prog X.w bs s.heap (PyData.depthKv<|cz l) (es.map (·.val)) (PyData.shownAll ((cz l).map (·.2)))
 |[],_,_,_,h,r,p,_,_=>by cases (show _=[] from h);cases r;cases p;show#[[],(λ_ z=>nomatch z),.nil]
 | (k,d)::l,_,_,_,h,r,p,hs,hz=>by
   let#[v,t,e,h1,h2]:=h;subst e;erw[cz,PyData.showableKv,aF]at hs;erw[cz,PyData.shownKv]at hz;have z1:=hz _<|bA ..;rw[qt,qt]at z1;cases r with
   |cons r1 r2=>
     cases p with
     |cons p1 p2 p3=>
       let#[as,ha,ka]:=DT I sub h1 r1.2 hs.1.2 za;let#[bs,hb,kb]:=o8 I sub h2 r2 p3 hs.2 λt m=>hz t<|a8 _ m;rw[<-p2]at ka;erw[cz,PyData.depthKv,aM,PyData.shownAll];have la:(toPy d).depth<=max (max (eF k).depth (toPy d).depth) (PyData.depthKv<|cz l):=by lia
       have lb:PyData.depthKv (cz l)<=max (max (eF k).depth (toPy d).depth) (PyData.depthKv<|cz l):=by lia
       show#[as++bs,(ha.mono la).append<|hb.mono lb,.cons ((ka.more λ_ m=>qX _ m).level_le la)<|kb.more_le (λ_ m=>n9 _ m) lb]
end
end

def ag0 (vs:List V) (H:Hp) (Q:VK):zm:=∃ (F:Hp) (d:D) (v:V),vs=[v] /\ Sub F H /\ Den F d v /\ (toPy d).showable=ah /\ (toPy d).depth<=60 /\ (toPy d).shown.length<=sizeLine /\ Q (.str (toPy d).shown) H
theorem Cn (hr:eS k X.A):pS X (.builtin "repr") ag0:=by
 intro pins s σ H xs us Q I rv h;let#[F,d,v,rfl,sub,hd,h1,h2,h3,q]:=h;let#[u,rfl,ru]:=Vals.one rv;have fin:∀ (t:Tok) (tk:Nat),EP X pins σ Q (.str (toPy d).shown t) { s with toks:=tk }:=λt tk=>#[.str _,H,I.tok tk,#[t,rfl],q];have Qb:∀ (t':Str),t'=(toPy d).shown->∀ h' u tk,(∀ b o,s.heap.get? b=ae o->h'.get? b=ae o)->∃ x t,Value.str t' u=.str x t /\ EP X pins σ Q (.str t' u) { s with heap:=h',toks:=tk }:=λt' et h' t tk hk=>by
  subst et;show#[_,_,rfl,.str _,H,I.kept hk,#[t,rfl],q]
 have hu:=hr.units;cases d with
 |az=>cases (show v=.az from hd);cases ru;show P.repr_of_none<|fin _ _
 |bl b=>cases (show v=.bl b from hd);cases ru;show P.repr_of_bool<|fin _ _
 |int i=>cases (show v=.int i from hd);let#[t,rfl]:=ru;show P.repr_of_int (of_decide_eq_true h1)<|fin _ _
 |str x=>cases (show v=.str x from hd);let#[t,rfl]:=ru;show P.repr_of_str<|fin _ _
 |tup l=>
   let#[as,rd]:=gn I sub hd ru;let#[a,vs,rfl,k1,k2]:=hd;cases ru;let#[_,its,rv,ob,e1,e2,n,e3]:=(show cJ X.prog X.w H s.heap a (.tup vs) from I.aB a _ (sub _ _ k1));have pH:(tupleText<|PyData.shownAll<|bW l).length<=sizeLine:=by simpa only[toPy,PyData.shown] using h3
   let#[bs,hb,hk]:=jv I sub k2 rv (by simpa[toPy,PyData.showable] using h1) λt m=>cj (aab m) pH;simp[toPy,PyData.depth]at rd h2;show Wr za #[ob,e1,e2] PySem.F.slot_tuple_repr<|call_tuple_reprK e1 e2 e3 (xO rd (n6 _) hb) (by simpa using hk) hr.gd (λb _=>Clear.nil b) (by change X.A.units+1+_<cLine;lia) (λ_ _ z=>z) (Qb _<|rfl) pH
 |lst l=>
   let#[as,rd]:=gn I sub hd ru;let#[a,vs,rfl,k1,k2]:=hd;cases ru;let#[_,its,n,rv,e1]:=(show cJ X.prog X.w H s.heap a (.lst vs) from I.aB a _ (sub _ _ k1));have pH:(listText<|PyData.shownAll<|bW l).length<=sizeLine:=by simpa only[toPy,PyData.shown] using h3
   let#[bs,hb,hk]:=jv I sub k2 rv (by simpa[toPy,PyData.showable] using h1) λt m=>cj (aac m) pH;simp[toPy,PyData.depth]at rd h2;refine Wr za #[_,e1,rfl] PySem.F.slot_list_repr.toG ?_;cases its with
   |nil=>
     have e:bW l=[]:=by
      cases l with
      |nil=>rfl
      |cons x l=>let#[v,t,e,_]:=k2;subst e;cases rv
     show call_list_repr_empty #[_,e1,rfl] e1 zc<|Qb "[]" (by simp[toPy,PyData.shown,e,PyData.shownAll,aad]) s.heap _ _ λ_ _ z=>z
   |cons x its=>show call_list_reprK e1 zc zc (xO rd (n6 _) hb) (by simpa using hk.length_eq) (λi y q=>hk.item i y (by simpa using q)) hr.gd (λb _=>Clear.nil b) (by change X.A.units+1+_<cLine;lia) (λ_ _ z=>z) (Qb _<|rfl) pH
 |au l=>
   let#[as,rd]:=gn I sub hd ru;let#[a,aj,rfl,k1,k2]:=hd;cases ru;let#[_,hy,vs,rk,ob,es,ep,e1,e2,e3,_,pr,_]:=(show cJ X.prog X.w H s.heap a (.dK aj) from I.aB a _ (sub _ _ k1));have pH:(dictText<|PyData.shownKv<|cz l).length<=sizeLine:=by simpa only[toPy,PyData.shown] using h3
   have fit:Hq (PyData.shownKv<|cz l):=λt m=>cj (aae m) pH;have Hr:PyData.showableKv (cz l)=ah:=by simpa[toPy,PyData.showable] using h1
   let#[bs,hb,hk]:=o8 I sub k2 rk pr Hr fit;erw[toPy,PyData.depth]at rd h2;rw[Xn]at pH;show Wr za #[ob,e1,e2.1] PySem.F.slot_dict_repr<|call_dict_reprK e1 e2.1 e3 hy (xO rd (n6 _) hb) (abK _ _ _ ((o7 (X:=X) (h:=s.heap) (n:=PyData.depthKv<|cz l) pr rk k2 Hr fit).more_le (λ_ z=>by cases z)<|aC _) hk) hr.gd (λb _=>Clear.nil b) (by change X.A.units+1+_<cLine;lia) (λ_ _ z=>z) (Qb _ (by erw[toPy,PyData.shown,Xn])) pH
def rL (d:D):Bool:=(toPy d).showable&&decide ((toPy d).depth<=60)&&decide ((toPy d).shown.length<=sizeLine)
theorem G2 (s:Sub F H):∀ {d}{v},pU F H d v->∃ F',Sub F' H /\ Den F' d v
 | .lst l,_,h=>by
   let#[a,vs,rfl,h1,h2]:=h;refine#[upd F a _,λb u e=>?_,a,vs,rfl,fw,aE.mono (λb u e=>?_) l h2]
   .by_cases z:b=a
    .subst z;rw[fw]at e;rw[h1,e]
    .rw[fA z]at e;show s b u e
   .by_cases z:b=a
    .subst z;rw[s b u e]at h1;rw[fw,h1]
    .rw[fA z];show e
 | .au l,_,h=>by
   let#[a,vs,rfl,h1,h2]:=h;refine#[upd F a _,λb u e=>?_,a,vs,rfl,fw,aO.mono (λb u e=>?_) l h2]
   .by_cases z:b=a
    .subst z;rw[fw]at e;rw[h1,e]
    .rw[fA z]at e;show s b u e
   .by_cases z:b=a
    .subst z;rw[s b u e]at h1;rw[fw,h1]
    .rw[fA z];show e
 |.tup _,_,h=>#[F,s,h]
 |.az,_,h=>#[F,s,h]
 |.bl _,_,h=>#[F,s,h]
 |.int _,_,h=>#[F,s,h]
 |.str _,_,h=>#[F,s,h]
def yM (m:DE W):DE W:=λenv bx=>fC (m env bx) λw bx1=>match bN bx1 w with
 |some d=>if rL d=ah then .val (.d<|.str (toPy d).shown) bx1 else .bad
 |none=>.bad
theorem g6 (I:Inv X pins σ H s) (sub:Sub F H) (h:pU F H d v) (r:RelV v u):∃ as,Reads s.heap u (toPy d) as:=by
 cases d with
 |lst l=>
   let#[a,vs,rfl,h1,h2]:=h;cases r;let#[_,its,n,rv,e1]:=(I.aB a _ h1);let#[as,ra]:=jM I sub h2 rv;show#[a::as,.list e1 zc zc (by simpa using ra)]
 |au l=>
   let#[a,aj,rfl,h1,h2]:=h;cases r;let#[_,_,vs,rk,ob,es,ep,e1,e2,e3,_,pr,_]:=(I.aB a _ h1);let#[as,ra]:=mO I sub h2 rk pr;show#[a::[]++as,.dict e1 e2.1 e3 (oZ pr rk h2) ra]
 |tup l=>show gn I sub h r
 |az=>show gn I sub h r
 |bl b=>show gn I sub h r
 |int i=>show gn I sub h r
 |str x=>show gn I sub h r
def nD (d:D):Bool:=(toPy d).canLay0&&decide ((toPy d).depth<=60)
def eqv (x y:D):Bool:=PyData.eqv (toPy x)<|toPy y
theorem lD (h:nD d=ah):(toPy d).canLay0=ah /\ (toPy d).depth<=60:=by
 unfold nD at h
 rwa [aF,decide_eq_true_eq]at h
def Yg (neg:Bool):R2:=λx y H Q=>∃ F dx dy,Sub F H /\ pU F H dx x /\ pU F H dy y /\ nD dx=ah /\ nD dy=ah /\ Q (.bl (if neg then !eqv dx dy else eqv dx dy)) H

theorem S0 (hu:X.A.units+100<cLine):cE X (compareOp .Eq) (Yg af):=by
 intro pins s σ H x y v u Q I rx ry h;let#[F,dx,dy,sub,hx,hy,ox,oy,q]:=h;let#[as,ra]:=g6 I sub hx rx;let#[bs,rb]:=g6 I sub hy ry;let#[x1,x2]:=lD ox;let#[y1,y2]:=lD oy;show SeqAt.compareEq_reads ra rb x1 y1 za #[.bl _,H,I,rfl,q]
theorem S3 (hu:X.A.units+100<cLine):cE X (compareOp .NotEq) (Yg ah):=by
 intro pins s σ H x y v u Q I rx ry h;let#[F,dx,dy,sub,hx,hy,ox,oy,q]:=h;let#[as,ra]:=g6 I sub hx rx;let#[bs,rb]:=g6 I sub hy ry;let#[x1,x2]:=lD ox;let#[y1,y2]:=lD oy;show SeqAt.compareNe_reads ra rb x1 y1 za #[.bl _,H,I,rfl,q]
def xh (neg:Bool) (x y:D):Option Res:=if nD x&&nD y then ae (.old<|.bl (if neg then !eqv x y else eqv x y)) else ag
theorem ac4 (neg):pE (Yg neg) (xh neg):=by
 intro F H x y v w Q s sub rx ry e k;unfold xh at e;split at e
 .ext c;rw[aF]at c;cases e;show#[F,x,y,sub,rx,ry,c.1,c.2,k _ _ #[rfl,rfl]]
 .cases e
def aW:D->D->Option Res
 |.int i,.int j=>ae<|.old<|.bl<|decide (i=j)
 |.str i,.str j=>ae<|.old<|.bl<|decide (i=j)
 |.tup l,.tup []=>ae<|.old<|.bl l.isEmpty
 | .lst a,.lst b=>(match intsOf a,intsOf b with
   |some ns,ae ms=>ae<|.old<|.bl<|decide (ns=ms)
   |_,_=>xh af (.lst a)<|.lst b)
 |x,y=>xh af x y
def kZ:D->D->Option Res
 |.int i,.int j=>ae<|.old<|.bl<|!decide (i=j)
 |.str i,.str j=>ae<|.old<|.bl<|!decide (i=j)
 |.lst l,.lst []=>ae<|.old<|.bl<|!l.isEmpty
 |x,y=>xh ah x y
theorem S5 (h:aW x y=ae s):X7 x y=ae s \/ xh af x y=ae s:=by
 unfold aW at h;split at h
 .show .inl h
 .show .inl h
 .show .inl h
 .ext a b;split at h
  .ext ns ms e1 e2;left;change ((intsOf a).bind λns=>(intsOf b).map λms=>Res.old _)=_;rw[e1,e2];show h
  .show .inr h
 .show .inr h
theorem S6 (h:kZ x y=ae s):X8 x y=ae s \/ xh ah x y=ae s:=by
 unfold kZ at h;split at h
 .show .inl h
 .show .inl h
 .show .inl h
 .show .inr h

end L2.DL
namespace HT
section
open PySem.SeqAt
open PySem.AutoSeq1 (wpAny_loadPart')
open PySem.MeetsSeq PySem.MeetsSeq2 PySem.MeetsSeq3
end
section

open PySem.AutoSeq1 (wpAny_loadPart')
end
end HT
namespace L2.DL

def ajJ:R2:=λx y H Q=>rI wO (λi j=>.int<|i*j) x y H Q \/ acw x y H Q
noncomputable def k6:D->D->Option Res
 |.int i,.int j=>if wO i j then ae (.old<|.int<|i*j) else ag
 |.lst l,.int k=>if -(2 ^ 63)<=k /\ k<2 ^ 63 /\ l.length*k.toNat<=sizeLine then ae (.lst (List.replicate k.toNat l).flatten) else ag
 |_,_=>ag
theorem aE.rep (h:aE F l vs):∀ k,aE F (List.replicate k l).flatten (List.replicate k vs).flatten
 |0=>rfl
 |k+1=>h.append<|h.rep k
theorem S7 (hu:X.A.units<cLine):cE X (compareOp .LtE) (wN λi j=>.bl<|decide (i<=j)):=(KA λ_ _ _ _ _ _ _ q=>le_int q)
noncomputable def nE:D->D->Option Res:=λx y=>match x,y with|.int i,.int j=>ae (.old<|.bl<|decide (i<=j))|_,_=>ag
def Ht (mo mi:DE W):DG:=λw env bx=>match mo env bx with
 | .val (.b n) bx1=>(match mi env bx1 with
   | .val (.d<|.int k) bx2=>(match w,bx2[n]? with
     |.d d,ae (.lst l)=>(cR l.length k).map λj=>(env,bx2.set n<|.lst<|l.set j d)
     |_,_=>ag)
   |_=>ag)
 |_=>ag
theorem OU (ho:PD X T Z o mo) (hi:PD X T Z i mi)
 (ha:∀ v,assign (.Subscript o i pos) X.env v=(do
  let ov <-holding [v] (eval o X.env)
  let iv <-holding [v,ov] (eval i X.env)
  standAt pos
  holding [v,ov,iv] (setItem ov iv v)
  release [v,ov,iv] []):=by intro _;rfl):sF X T (.Subscript o i pos) (Ht mo mi):=by
 refine PG.imp (SC ho hi Mk ha) λv σ H Q=>Hg λF r env bx w R dw h=>?_;unfold Ht at h;refine#[F,r,env,bx,R,?_];cases eo:mo env bx with
 |bad=>erw[eo]at h;show h.elim
 |exc c bx1=>erw[eo]at h;show h.elim
 |val ow bx1=>
   erw[eo]at h;intro F1 r1 ov H1 g1 R1 d1;cases ow with
   |b n=>
     refine#[F1,r1,env,bx1,R1,?_];cases ei:mi env bx1 with
     |bad=>erw[ei]at h;show h.elim
     |exc c bx2=>erw[ei]at h;show h.elim
     |val iw bx2=>
       erw[ei]at h;intro F2 r2 iv H2 g2 R2 d2;cases iw with
       |d id=>
         cases id with
         |int k=>
           simp only at h;let#[a,rfl,ha]:=g2.den d1;let#[c2,hZ,sO]:=R2.eI ha;rw[hZ]at h;cases w with
           |d dd=>
             cases c2 with
             |lst l=>
               simp only at h;cases ej:cR l.length k with
               |none=>rw[ej]at h;show h.elim
               |some j=>
                 rw[ej]at h;let#[hF,vs,k1,k2]:=sO;refine#[a,vs,k,j,rfl,d2,k1,by rw[<-k2.length];show ej,?_];show h F2 r2 σ _ (g1.trans g2)<|R2.write ha hF #[hF,_,fw,aE.set (Den.mono (g1.trans g2).s dd dw) j k2]
             |_=>show h.elim
           |_=>show h.elim
         |_=>show h.elim
       |_=>show h.elim
   |_=>show h.elim
noncomputable def sQ (i:Nat):DE W:=λenv bx=>match env[i]? with
 | some (ae<|.b n)=>(match bx[n]? with
   |some (.lst l)=>.val (.d<|.lst l)<|bx.set n .dead
   |some (.au l)=>.val (.d<|.au l)<|bx.set n .dead
   |_=>.bad)
 |_=>.bad
theorem S8 (i) (hN:X.N[i]?=ae x:=by rfl) (hv:yp X.env.scope x:=by first|show Or.inl zc|show Or.inr _|show Or.inr _) (hd:(x==("__debug__"))=af:=by decide)
 (pD:(x==("__classdict__"))=af:=by decide):PD X T Z (.Name x pos) (sQ i):=by
 refine PE.imp (L4 hN hv hd pD) λσ H Q=>bK λF r env bx R h=>?_;unfold sQ at h;split at h
 .ext n e;let#[v,e1,a,rfl,ha]:=R.slot i _ e;let#[c,hc,kc]:=R.eI ha;rw[hc]at h;cases c with
  |lst l=>
    let#[hF,vs,k1,k2]:=kc;let#[R',g]:=R.freeze ha hF k1;show#[_,e1,h _ r _ H g R' #[a,vs,rfl,fw,aE.mono g.s l k2]]
  |au l=>
    let#[hF,vs,k1,k2]:=kc;let#[R',g]:=R.freeze ha hF k1;show#[_,e1,h _ r _ H g R' #[a,vs,rfl,fw,aO.mono g.s l k2]]
  |_=>show h.elim
 .show h.elim
def vU (m:DE W):DE W:=λenv bx=>fC (m env bx) λw bx1=>match w with|.s l=>.val (.d<|.int l.length) bx1|_=>.bad
def Hu (m k:DE W):DE W:=λenv bx=>fC (m env bx) λw bx1=>fC (k env bx1) λu bx2=>match w,u with
 |.s l,.d (.int i)=>(match bM l i with|some n=>.val (.d<|.int n) bx2|none=>.bad)
 |_,_=>.bad
theorem S9 (ha:PD X T Z a ma) (hb:PD X T Z b mb) (hs:XO b):PD X T Z (.Subscript a b pos) (Hu ma mb):=by
 refine PE.imp (RQ GR ha hb hs) λσ H Q=>bK λF r env bx R h=>?_;refine#[F,r,env,bx,R,End.bind h λw bx1 F1 r1 v H1 g1 R1 d1 h1=>?_];refine#[F1,r1,env,bx1,R1,End.bind h1 λu bx2 F2 r2 y H2 g2 R2 d2 h2=>?_];cases w with
 |s l=>
   cases u with
   |d d=>
     cases d with
     |int i=>
       let#[q,o,rfl,k]:=d1;simp at h2;cases e:bM l i with
       |none=>rw[e]at h2;show h2.elim
       |some n=>
         rw[e]at h2;refine#[q,l.map V.int,i,.int n,rfl,d2,.inl<|.inr #[o,R2.fh _ _<|g2.s _ _ k],?_,h2 F2 r2 _ H2 (.refl F2 r2) R2 zc];unfold bM at e ⊢;rw[aK];cases ej:cR l.length i with
         |none=>rw[ej]at e;cases e
         |some j=>rw[ej]at e;erw[bT]at e ⊢;rw[kJ,e];rfl
     |_=>show h2.elim
   |_=>show h2.elim
 |_=>show h2.elim
def pI (bo:Bool) (l:List<|Key×D):DE W:=λ_ bx=>cq bo (ae<|.au l) bx
end L2.DL
namespace HT

theorem F8 (hit:s.heap.IsTupleIter it t i) (ht:s.heap.IsTuple t items) (hx:items[i]?=ae x)
 (hQ:∀ h',h'.IsTupleIter it t (i+1)->Heap.SameBut it s.heap h'->Q x { s with heap:=h' }):wpAny zj A (Builtin.SmallTypes.nextOf<|.ref it) Q E s:=by
 let#[ob,sM,vN,sL]:=id hit;let#[ot,Hv,_,nt,Yh]:=ht;refine ai<|qU hit.typeIs Km<|hG Km hit.typeIs abv (show wpAny _ _ (field _ 0 >>= _) _ _ s from ai (nh sM sL zc ?_))<|abw _
 change wpAny _ _ _ _ _ s;refine ai<|nh sM sL zc<|ai<|vk Hv Yh ?_
 simp[nv,hx];refine ai<|qV sM sL zg<|ao #[x,rfl,ao<|hQ _ #[_,rZ _ sM<|wC<|pP sL _,(ym ..).trans vN,?_]<|Heap.SameBut.update ..];rw[pP sL];simp[rawInt]
theorem Lq (hh:A.handled=ag) (hit:s.heap.IsTupleIter it t i) (ht:s.heap.IsTuple t items) (hx:items[i]?=ag)
 (hE:∀ h' e,Heap.ExtBut it s.heap h'->(∃ o,h'.get? e=ae o /\ o.cls=.type "StopIteration")->E (.ref e) { s with heap:=h' }):wpAny zj A (Builtin.SmallTypes.nextOf<|.ref it) Q E s:=by
 let#[ob,sM,vN,sL]:=id hit;let#[ot,Hv,_,nt,Yh]:=ht;refine ai<|qU hit.typeIs Km<|hG Km hit.typeIs abv (show wpAny _ _ (field _ 0 >>= _) _ _ s from ai (nh sM sL zc ?_))<|abw _;refine ai<|nh sM sL zc<|ai<|vk Hv Yh ?_;simp[nv,hx];refine ai<|qT<|ai<|qV sM sL zg<|ai ?_;refine ai<|eG (ai<|xQ (by first|rfl|(rfl))<|eG ?_ (by size_fits)) (by size_fits);refine ai<|Ew ?_;first|rw[hh]|rw[hh]
 show ai<|ao<|Ex<|hE _ _ (((Heap.SameBut.update ..).extBut.push _).push _) #[_,bF _ zc,rfl]
theorem Lr (hh:A.handled=ag) (it l) (kP:l≠it) (items) :
 Draws prog w A it [it,l] items.size (λi v=>items[i]?=ae v) (λi h=>h.IsTupleIter it l i /\ h.IsTuple l items) where
 live:=λ_ _ st=>let ⟨o,ho,_⟩:=st.1;#[o,ho]
 frame:=λ_ _ _ st hk=>#[st.1.at λo e=>hk it zg o e,st.2.at λo e=>hk l zg o e]
 item:=λi s Q E hi st hQ=>F8 st.1 st.2 (x:=items[i]) zg λh' a b=>hQ _ h' s.toks zg #[a,st.2.at λo e=>b.extBut _ _ kP e] b
 done:=λs Q E st hE=>Lq hh st.1 st.2 zg hE
structure Hw (z TI TO i1 i2:aq) (sR sU:List aq):zm where
 a:TI≠z /\ TO≠z /\ i1≠z /\ i2≠z /\ TI≠TO /\ TI≠i1 /\ TI≠i2 /\ TO≠i1 /\ TO≠i2 /\ i1≠i2
 f1:z∉sR /\ TO∉sR /\ i2∉sR
 f2:z∉sU /\ TO∉sU /\ i1∉sU

theorem Draws.same (D:Draws prog w A it fp n P S) (x:Heap.SameBut c h h') (hc:c∉fp) (st:S k h):S k h' :=
 D.frame k h h' st λb hb o e=>x.extBut _ _ (λq=>hc<|q▸hb) e
abbrev uQ (h:aT) (z TI TO:aq) (f0 f1:ay):zm:=h.get? z=ae { cls:=.type "zip",dict:=ag,data:=.fields (List.toArray [f0,f1,.bool af,.ref TI,.ref TO]),slots:=#[] }
def ug (h:aT) (z TI TO:aq):zm:=∃ f0 f1,(f0=.none \/ ∃ a,f0=rawInt a) /\ uQ h z TI TO f0 f1
theorem ag1 (h:Q (s.heap.get? a) s):wpAny zj A (loadIfAlive a) Q E s:=λΓ p _=>by simpa[loadIfAlive] using h
theorem A9 (hf:f0=.none \/ ∃ a,f0=rawInt a) (hz:uQ s.heap z TI TO f0 f1) (h:∀ r h' ag2,uQ h' z TI TO f0 ag2->Heap.SameBut z s.heap h'->Q r { s with heap:=h' }) :
 wpAny zj A (Builtin.SmallTypes.ownedTupleIsFree<|.ref z) Q E s:=by
 have hs:Heap.SameBut z s.heap s.heap:=#[rfl,λ_ _=>rfl];rcases hf with rfl|⟨a,rfl⟩
 .show ai<|nh hz zc zc<|ao<|h _ _ f1 hz hs
 .refine ai<|nh hz zc zc<|ai<|ag1 ?_;cases s.heap.get? a.toNat with
  |none=>show ao<|h _ _ f1 hz hs
  |some o=>
    refine ai<|nh hz zc (x:=f1) zc ?_;by_cases q:(f1 != Value.bool ah)=ah
    .rw[if_pos q];show ai<|vm hz zg λg1 xi e1=>ao<|h _ g1 _ xi e1
    .rw[if_neg q];show ai<|ao<|ao<|h _ _ f1 hz hs
theorem MA (D1:Draws prog w A i1 sR n1 P1 S1) (D2:Draws prog w A i2 sU n2 P2 S2) (R:Hw z TI TO i1 i2 sR sU) {Q:ay->aN->zm}(k1:k<n1) (k2:k<n2)
 (hz:ug s.heap z TI TO) (xj:IsPair s.heap TI (.ref i1)<|.ref i2) (vV:IsPair s.heap TO a b) (s1:S1 k s.heap) (s2:S2 k s.heap)
 (hQ:∀ x y h' tk,P1 k x->P2 k y->ug h' z TI TO->(∃ u v,IsPair h' TO u v)->S1 (k+1) h'->S2 (k+1) h'->IsPair h' s.heap.objs.size x y ->
  (∀ c o,c≠z->c≠TO->c≠i1->c≠i2->s.heap.get? c=ae o->h'.get? c=ae o)->Q (.ref s.heap.objs.size) { s with heap:=h',toks:=tk }) :
 wpAny zj A (Builtin.«zip.__next__» #[[.ref z],[]]) (λfin s'=>∃ v,fin=.done (.ret v) /\ Q v s') E s:=by
 let#[#[r1,r2,r3,r4,r5,r6,r7,r8,r9,Yi],#[f1,f2,f3],#[f4,f5,f6]]:=R;let#[o0,o1,ho,hz]:=hz
 change wpAny _ _ (field _ 2 >>= _) _ _ _;refine ai<|nh hz zc (x:=.bool af) zc ?_
 change wpAny _ _ _ _ _ _;refine ai<|nh hz zc zc<|ai<|vk xj zc ?_
 change wpAny _ _ _ _ _ _
 refine ai<|A9 ho hz λr g0 o2 yN e0=>?_;cases r with
 |true=>
   simp only;refine ai<|qT<|ai<|nh yN zc zc<|ai<|vm yN zg λg1 xi wU=>?_;have e1:Heap.SameBut z s.heap g1:=#[wU.1.trans e0.1,λc hc=>(wU.2 c hc).trans<|e0.2 c hc];refine ai ?_;erw[WK,aaD,xZ,EH];refine ai<|ai<|Ey (show wpAny _ _ (Builtin.SmallTypes.nextOf (.ref i1) >>= _) _ _ _ from ai (D1.item k _ _ _ k1 (Draws.same D1 e1 f1 s1) λx g2 t2 px Hx e2=>ao ?_));have Hy:IsPair g2 TO a b:=e2.extBut _ _ r8<|e1.extBut _ _ r2 vV;refine ai<|vk Hy zc<|ai<|Ws Hy λg3 ac5 e3=>ai<|Wt<|ao ?_;refine ai<|ai<|Ey (show wpAny _ _ (Builtin.SmallTypes.nextOf (.ref i2) >>= _) _ _ _ from ai (D2.item k _ _ _ k2 (Draws.same D2 e3 f5<|Draws.same D2 e2 f6<|Draws.same D2 e1 f4 s2) λy g4 t4 py Yj e4=>ao ?_));have ac6:IsPair g4 TO x b:=e4.extBut _ _ r9 ac5;refine ai<|vk ac6 zc<|ai<|Ws ac6 λg5 ag3 e5=>ai<|Wt<|ao<|ao ?_;have ac7:IsPair g5 TO x y:=ag3;refine ai<|vk ac7 zc<|ai<|Wu ?_;have sx:g5.objs.size=s.heap.objs.size:=by rw[e5.1,e4.1,e3.1,e2.1,e1.1]
   have ac8:uQ g5 z TI TO .ellipsis o2:=e5.extBut _ _ r2.symm<|e4.extBut _ _ r4.symm<|e3.extBut _ _ r2.symm<|e2.extBut _ _ r3.symm xi;have Hz:z<g5.objs.size:=bq ac8
   change wpAny _ _ (Builtin.SmallTypes.ownedTupleHandOut (.ref z) (.ref g5.objs.size) >>= _) _ _ _;refine ai ?_
   unfold Builtin.SmallTypes.ownedTupleHandOut;refine ai<|vm (aU _ ac8) zg λg7 ag4 e7=>vm (show uQ g7 z TI TO (rawInt g5.objs.size) o2 from ag4) zg λg8 ag5 e8=>?_;have up:∀ c o,c≠z->g5.get? c=ae o->g8.get? c=ae o:=λc o c1 q=>e8.extBut _ _ c1<|e7.extBut _ _ c1<|aU _ q;have ac9:IsPair g8 g5.objs.size x y:=e8.extBut _ _ (wq Hz)<|e7.extBut _ _ (wq Hz)<|bF _ zc;refine ao #[_,rfl,(show Q (.ref g5.objs.size) _ from ?_)];rw[sx]at ac9 ⊢;show hQ x y g8 _ px py #[_,_,.inr #[_,rfl],show uQ g8 z TI TO (rawInt g5.objs.size) (.bool af) from ag5] #[_,_,up _ _ r2 ac7] (D1.frame _ _ _ (Draws.same D1 e5 f2<|Draws.same D1 e4 f3<|Draws.same D1 e3 f2 Hx) λc hc o q=>up c o (λw=>f1<|w▸hc) q) (D2.frame _ _ _ (Draws.same D2 e5 f5 Yj) λc hc o q=>up c o (λw=>f4<|w▸hc) q) ac9 λc o c1 c2 c3 c4 q=>up c o c1<|(λc o c1 c2 c3 c4 q=>e5.extBut _ _ c2<|e4.extBut _ _ c4<|e3.extBut _ _ c2<|e2.extBut _ _ c3<|e1.extBut _ _ c1 q) c o c1 c2 c3 c4 q
 |false=>
   erw[ED,if_false];rw[show ((List.toArray [Value.ref i1,Value.ref i2]):Array ay)=[Value.ref i1,Value.ref i2].toArray from rfl];erw[aaE,xZ,EH];refine ai<|ai<|ai<|ku (show wpAny _ _ (Builtin.SmallTypes.nextOf (.ref i1) >>= _) _ _ _ from ai (D1.item k _ _ _ k1 (Draws.same D1 e0 f1 s1) λx g2 t2 px Hx e2=>ao ?_));refine ao<|ai<|ai<|ku (show wpAny _ _ (Builtin.SmallTypes.nextOf (.ref i2) >>= _) _ _ _ from ai (D2.item k _ _ _ k2 (Draws.same D2 e2 f6<|Draws.same D2 e0 f4 s2) λy g4 t4 py Yj e4=>ao ?_));refine ao<|ao<|ai<|Wu (ao #[_,rfl,?_]) (show 2<=sizeLine by decide);have sx:g4.objs.size=s.heap.objs.size:=by rw[e4.1,e2.1,e0.1]
   have up:∀ c o,g4.get? c=ae o->(g4.push { cls:=.type "tuple",data:=.seq (List.toArray [x,y]) }).get? c=ae o:=λc o q=>aU _ q;have hT:IsPair (g4.push { cls:=.type "tuple",data:=.seq (List.toArray [x,y]) }) g4.objs.size x y:=bF _ zc;change Q (.ref g4.objs.size) _;rw[sx]at hT ⊢;show hQ x y _ _ px py #[o0,o2,ho,up _ _<|e4.extBut _ _ r4.symm<|e2.extBut _ _ r3.symm yN] #[a,b,up _ _<|e4.extBut _ _ r9<|e2.extBut _ _ r8<|e0.extBut _ _ r2 vV] (D1.frame _ _ _ (Draws.same D1 e4 f3 Hx) λc hc o q=>up c o q) (D2.frame _ _ _ Yj λc hc o q=>up c o q) hT
    λc o c1 c2 c3 c4 q=>up c o<|e4.extBut _ _ c4<|e2.extBut _ _ c3<|e0.extBut _ _ c1 q
theorem MB (D1:Draws prog w A i1 sR n1 P1 S1) (D2:Draws prog w A i2 sU n2 P2 S2) (R:Hw z TI TO i1 i2 sR sU) (hk:k=n1 \/ (k<n1 /\ k=n2))
 (hz:ug s.heap z TI TO) (xj:IsPair s.heap TI (.ref i1)<|.ref i2) (vV:IsPair s.heap TO a b) (s1:S1 k s.heap) (s2:S2 k s.heap)
 (hE:∀ h' e tk,(∀ c o,c≠z->c≠TO->c≠i1->c≠i2->s.heap.get? c=ae o->h'.get? c=ae o)->(∃ o,h'.get? e=ae o /\ o.cls=.type "StopIteration")->E (.ref e) { s with heap:=h',toks:=tk }) :
 wpAny zj A (Builtin.«zip.__next__» #[[.ref z],[]]) Q E s:=by
 let#[#[r1,r2,r3,r4,r5,r6,r7,r8,r9,Yi],#[f1,f2,f3],#[f4,f5,f6]]:=R;let#[o0,o1,ho,hz]:=hz
 change wpAny _ _ (field _ 2 >>= _) _ _ _;refine ai<|nh hz zc (x:=.bool af) zc ?_
 change wpAny _ _ _ _ _ _;refine ai<|nh hz zc zc<|ai<|vk xj zc ?_
 change wpAny _ _ _ _ _ _
 refine ai<|A9 ho hz λr g0 o2 yN e0=>?_;cases r with
 |true=>
   simp only;refine ai<|qT<|ai<|nh yN zc zc<|ai<|vm yN zg λg1 xi wU=>?_;have e1:Heap.SameBut z s.heap g1:=#[wU.1.trans e0.1,λc hc=>(wU.2 c hc).trans<|e0.2 c hc];have ada:uQ g1 z TI TO .ellipsis o2:=xi;refine ai ?_;erw[WK,aaD,xZ,EH];rcases hk with hk|⟨Yk,vW⟩
   .refine ai<|ai<|Ey (show wpAny _ _ _ _ _ _ from ai (D1.done _ _ _ (hk▸Draws.same D1 e1 f1 s1) λg2 ex e2 hx=>?_));let#[oe,xk,HC]:=hx;have Qc:uQ g2 z TI TO .ellipsis o2:=e2 _ _ r3.symm ada;show vm Qc zg λg3 _ e3=>hE g3 ex _ (λc o c1 _ c3 _ q=>e3.extBut _ _ c1<|e2 _ _ c3<|e1.extBut _ _ c1 q) #[oe,e3.extBut _ _ (λq=>by subst q;rw[Qc]at xk;cases xk;simp at HC) xk,HC]
   .refine ai<|ai<|Ey (show wpAny _ _ (Builtin.SmallTypes.nextOf (.ref i1) >>= _) _ _ _ from ai (D1.item k _ _ _ Yk (Draws.same D1 e1 f1 s1) λx g2 t2 px Hx e2=>ao ?_));have Hy:IsPair g2 TO a b:=e2.extBut _ _ r8<|e1.extBut _ _ r2 vV;refine ai<|vk Hy zc<|ai<|Ws Hy λg3 ac5 e3=>ai<|Wt<|ao ?_;refine ai<|ai<|Ey (show wpAny _ _ (Builtin.SmallTypes.nextOf (.ref i2) >>= _) _ _ _ from ai (D2.done _ _ _ (vW▸Draws.same D2 e3 f5 (Draws.same D2 e2 f6<|Draws.same D2 e1 f4 s2)) λg4 ex e4 hx=>?_));let#[oe,xk,HC]:=hx;have adb:uQ g4 z TI TO .ellipsis o2:=e4 _ _ r4.symm<|e3.extBut _ _ r2.symm<|e2.extBut _ _ r3.symm ada;show vm adb zg λg5 _ e5=>hE g5 ex _ (λc o c1 c2 c3 c4 q=>e5.extBut _ _ c1<|e4 _ _ c4<|e3.extBut _ _ c2<|e2.extBut _ _ c3<|e1.extBut _ _ c1 q) #[oe,e5.extBut _ _ (λq=>by subst q;rw[adb]at xk;cases xk;simp at HC) xk,HC]
 |false=>
   erw[ED,if_false];rw[show ((List.toArray [Value.ref i1,Value.ref i2]):Array ay)=[Value.ref i1,Value.ref i2].toArray from rfl];erw[aaE,xZ,EH];rcases hk with hk|⟨Yk,vW⟩
   .show ai<|ai<|ai<|ku (show wpAny _ _ (Builtin.SmallTypes.nextOf (.ref i1) >>= _) _ _ _ from ai (D1.done _ _ _ (hk▸Draws.same D1 e0 f1 s1) λg2 ex e2 hx=>(hE g2 ex _ (λc o c1 _ c3 _ q=>e2 _ _ c3<|e0.extBut _ _ c1 q) hx)))
   .show ai<|ai<|ai<|ku (show wpAny _ _ (Builtin.SmallTypes.nextOf (.ref i1) >>= _) _ _ _ from ai (D1.item k _ _ _ Yk (Draws.same D1 e0 f1 s1) λx g2 t2 px Hx e2=>ao<|ao<|ai<|ai<|ku (show wpAny _ _ (Builtin.SmallTypes.nextOf (.ref i2) >>= _) _ _ _ from ai (D2.done _ _ _ (vW▸Draws.same D2 e2 f6 (Draws.same D2 e0 f4 s2)) λg4 ex e4 hx=>(hE g4 ex _ (λc o c1 _ c3 c4 q=>e4 _ _ c4<|e2.extBut _ _ c3<|e0.extBut _ _ c1 q) hx)))))
theorem MC (hz:ug s.heap z TI TO) (h:Q (.ref z) s):wpAny zj A (pyIter<|.ref z) Q E s:=by
 have ty:s.TypeIs (.ref z) "zip":=let ⟨_,_,_,hz⟩:=hz;#[_,hz,rfl]
 show xR ty abx<|hG abx ty F.entry_zip_iter (ao #[_,rfl, "zip",_,ty,EN.lookup,h])<|F.args_zip_iter_1 _
theorem BZ (D1:Draws prog w A.in1 i1 sR n1 P1 S1) (D2:Draws prog w A.in1 i2 sU n2 P2 S2) (R:Hw z TI TO i1 i2 sR sU) (k1:k<n1) (k2:k<n2)
 (hz:ug s.heap z TI TO) (xj:IsPair s.heap TI (.ref i1)<|.ref i2) (vV:IsPair s.heap TO a b) (s1:S1 k s.heap) (s2:S2 k s.heap)
 (hQ:∀ x y h' tk,P1 k x->P2 k y->ug h' z TI TO->(∃ u v,IsPair h' TO u v)->S1 (k+1) h'->S2 (k+1) h'->IsPair h' s.heap.objs.size x y ->
  (∀ c o,c≠z->c≠TO->c≠i1->c≠i2->s.heap.get? c=ae o->h'.get? c=ae o)->Q (ae<|.ref s.heap.objs.size) { s with heap:=h',toks:=tk }):wpAny zj A (pyNext<|.ref z) Q E s:=by
 have hT:s.TypeIs (.ref z) "zip":=let ⟨_,_,_,hz⟩:=hz;#[_,hz,rfl]
 show ai<|uE<|qU hT EN<|hG EN hT aby (MA D1 D2 R k1 k2 hz xj vV s1 s2 λx y h' tk b1 b2 b3 b4 b5 b6 b7 b8=>ao<|hQ x y h' tk b1 b2 b3 b4 b5 b6 b7 b8)<|abz _
theorem Ta (hz:ug s.heap z TI TO) (h:∀ h',ug h' z TI TO->Heap.SameBut z s.heap h'->Q () { s with heap:=h' }):wpAny zj A (letOwnedTupleGo tg (.ref z)<|.ref p) Q E s:=by
 have same:=h _ hz #[rfl,λ_ _=>rfl];let#[f0,f1,hf,hz]:=id hz
 have tup:wpAny zj A (do
  let o <-load z
  match o.cls,o.data with
  |.type n,.fields vs=>
    if ["enumerate","zip","dict_itemiterator","dict_reverseitemiterator","odict_iterator","itertools.zip_longest","itertools.pairwise"].contains n&&vs[0]?==ae (rawInt p) then
     rule "for.unpacks-the-owned-tuple"
     updateField z 0 .none
  |_,_=>pure ()) Q E s:=by
  refine ai<|xI hz ?_;dsimp only;split
  .refine ai<|qT<|vm hz zg λg1 xi e1=>h g1 #[.none,f1,.inl zc,xi] e1
  .show ao same
 cases tg with
 |Tuple es n q=>show tup
 |List es q=>show tup
 |_=>show ao same
theorem B3 (D1:Draws prog w A.in1 i1 sR n1 P1 S1) (D2:Draws prog w A.in1 i2 sU n2 P2 S2) (R:Hw z TI TO i1 i2 sR sU) (hk:k=n1 \/ (k<n1 /\ k=n2))
 (hz:ug s.heap z TI TO) (xj:IsPair s.heap TI (.ref i1)<|.ref i2) (vV:IsPair s.heap TO a b) (s1:S1 k s.heap) (s2:S2 k s.heap)
 (hQ:∀ h' tk,(∀ c o,c≠z->c≠TO->c≠i1->c≠i2->s.heap.get? c=ae o->h'.get? c=ae o)->Q ag { s with heap:=h',toks:=tk }):wpAny zj A (pyNext<|.ref z) Q E s:=by
 have hT:s.TypeIs (.ref z) "zip":=let ⟨_,_,_,hz⟩:=hz;#[_,hz,rfl]
 refine ai<|uE<|qU hT EN<|hG EN hT aby (MB D1 D2 R hk hz xj vV s1 s2 λh' e tk q1 q2=>?_)<|abz _;let#[o,ho,hc]:=q2;show ai<|xS #[o,ho,hc] Ez<|ao<|hQ h' tk q1
noncomputable def HD (h:aT) (l1:aq):aT:=h.push { cls:=.type "tuple_iterator",data:=.fields (List.toArray [.ref l1,.int 0 0]) }
def yO (h:aT) (l1 l2:aq):aT:=(HD h l1).push { cls:=.type "tuple_iterator",data:=.fields (List.toArray [.ref l2,.int 0 0]) }
def yP (h:aT) (l1 l2:aq):aT:=(yO h l1 l2).push { cls:=.type "tuple",data:=.seq (List.toArray [.ref h.objs.size,.ref (HD h l1).objs.size]) }
def HE (h:aT) (l1 l2:aq):aT:=(yP h l1 l2).push { cls:=.type "tuple",data:=.seq (List.toArray [.none,.none]) }
def HF (h:aT) (l1 l2:aq):aT:=(HE h l1 l2).push { cls:=.type "zip",data:=.fields (List.toArray [.none,.bool af,.bool af,.ref (yO h l1 l2).objs.size,.ref (yP h l1 l2).objs.size]) }
theorem F9 (l1 l2) (xs ys) :
 Meets (Builtin.«zip.__new__» #[[.type "zip",.ref l1,.ref l2],[]]) (λ_ R s=>s.heap.IsTuple l1 xs /\ s.heap.IsTuple l2 ys /\ R (.ok<|.ret<|.ref (HE s.heap l1 l2).objs.size) { s with heap:=HF s.heap l1 l2 }):=
 .of_wp λprog w A R s h=>by
  let#[hp,g,d,tk,os]:=s;let#[yQ,sy,h]:=h;have ajK:=sub_zip
  wp_walk using Wv yQ,Wv (sy.at λo e=>aU _ e)
  show#[_,rfl,h]
theorem Ls (yQ:s.heap.IsTuple l1 xs) (sy:s.heap.IsTuple l2 ys)
 (h:∀ h',IsZip h' (s.heap.objs.size+4) (s.heap.objs.size+2) (s.heap.objs.size+3) .none->IsPair h' (s.heap.objs.size+2) (.ref s.heap.objs.size) (.ref<|s.heap.objs.size+1)->IsPair h' (s.heap.objs.size+3) .none .none ->
  h'.IsTupleIter s.heap.objs.size l1 0->h'.IsTupleIter (s.heap.objs.size+1) l2 0->(∀ c o,s.heap.get? c=ae o->h'.get? c=ae o)->Q (.ref<|s.heap.objs.size+4) { s with heap:=h' }):wpAny zj A (call (.type "zip") [.ref l1,.ref l2]) Q E s:=by
 refine callType_new F.called_zip (rfl) (F.typeCall_zip_2 _ _) (F.newCall_zip_2 _ _) (λobj=>F.args_object_init_3 obj _ _) F.entry_zip_new (F9 l1 l2 xs ys) #[yQ,sy,?_];have z1:(HD s.heap l1).objs.size=s.heap.objs.size+1:=vA ..;have z2:(yO s.heap l1 l2).objs.size=s.heap.objs.size+2:=by rw[yO,vA,z1]
 have z3:(yP s.heap l1 l2).objs.size=s.heap.objs.size+3:=by rw[yP,vA,z2]
 have z4:(HE s.heap l1 l2).objs.size=s.heap.objs.size+4:=by rw[HE,vA,z3]
 have g5:(HF s.heap l1 l2).get? (HE s.heap l1 l2).objs.size=ae { cls:=.type "zip",data:=.fields (List.toArray [.none,.bool af,.bool af,.ref (yO s.heap l1 l2).objs.size,.ref (yP s.heap l1 l2).objs.size]) }:=bF _ zc;have g4:(HF s.heap l1 l2).get? (yP s.heap l1 l2).objs.size=ae { cls:=.type "tuple",data:=.seq (List.toArray [.none,.none]) }:=aU _<|bF _ zc;have g3:(HF s.heap l1 l2).get? (yO s.heap l1 l2).objs.size=ae { cls:=.type "tuple",data:=.seq (List.toArray [.ref s.heap.objs.size,.ref (HD s.heap l1).objs.size]) }:=aU _<|aU _<|bF _ zc;have g2:(HF s.heap l1 l2).get? (HD s.heap l1).objs.size=ae { cls:=.type "tuple_iterator",data:=.fields (List.toArray [.ref l2,.int 0 0]) }:=aU _<|aU _<|aU _<|bF _ zc
 change _ /\ _
 rw[z2,z3,z4]at g5;rw[z1,z2]at g3;rw[z3]at g4;rw[z1]at g2;rw[z4];show#[#[_,g5,rfl],h _ g5 g3 g4 #[_,(aU _<|aU _<|aU _<|aU _<|bF _ zc),rfl,rfl] #[_,g2,rfl,rfl] λc o q=>aU _<|aU _<|aU _<|aU _<|aU _ q]
end HT
namespace L2

theorem Inv.ag6 {ch:List aq}(I:Inv X pins σ H s) (hf:∀ b∈ch,rq X pins H b) (k:∀ b o,b∉ch->s.heap.get? b=ae o->h'.get? b=ae o) (hp:s.heap.objs.size<=p)
 (new:cJ X.prog X.w (upd H p o) h' p o):Inv X pins σ (upd H p o) { s with heap:=h',toks:=t' }:=by
 have sq:∀ b u,H b=ae u->b∉ch:=λb u e z=>by rw[(hf b z).1]at e;cases e
 have nQ:∀ b u,H b=ae u->upd H p o b=ae u:=λb u e=>by rw[fA<|(λb u e=>f7 e<|I.aB.fresh hp) b u e];show e
 refine I.step (λb hb=>?_) (λb o _ _ hc e _=>k b o hc e) (λb o _ _ hc e _=>#[o.slots,k b o hc e]) (λb ob _ e n=>?_)
  (λb o hc e=>#[o,k b o hc e]) (λb _ e=>nQ b _ e) (λb _ _ e=>nQ b _ e) (λb ps e=>#[#[],by rw[nQ b _ e];simp]) (λm hm=>?_) ?_ I.bare
 .let#[f0,f1,f2,f3,f4,f5]:=hf b hb;show#[f3,f1,f4,f5]
 .rw[fA λz=>kI _<|kA (bq e) (by rw[z];show hp)];show n
 .let#[ob,es,ep,ho,r]:=hm;show#[ob,es,ep,k _ ob (λz=>(hf _ z).2.1 zc) ho,r]
 .intro b u e;by_cases hb:b=p
  .subst hb;rw[fw]at e;cases e;show new
  .rw[fA hb]at e;refine(I.aB b u e).nQ (λc v hc q=>k c v ?_ q) (λc q=>nQ c _ q) λc xs q=>nQ c _ q;rcases hc with z|z
   .rw[z];show sq b u e
   .show sq c _ z
theorem Inv.ag7 {ch:List aq}(I:Inv X pins σ H s) (hf:∀ b∈ch,rq X pins H b) (k:∀ b o,b∉ch->s.heap.get? b=ae o->h'.get? b=ae o):Inv X pins σ H { s with heap:=h',toks:=t' }:=by
 have sq:∀ b u,H b=ae u->b∉ch:=λb u e z=>by rw[(hf b z).1]at e;cases e
 refine I.step (λb hb=>?_) (λb o _ _ hc e _=>k b o hc e) (λb o _ _ hc e _=>#[o.slots,k b o hc e]) (λb ob _ e n=>n)
  (λb o hc e=>#[o,k b o hc e]) (λb _ e=>e) (λb _ _ e=>e) (λb ps e=>#[#[],by rw[e];simp]) (λm hm=>?_) ?_ I.bare
 .let#[f0,f1,f2,f3,f4,f5]:=hf b hb;show#[f3,f1,f4,f5]
 .let#[ob,es,ep,ho,r]:=hm;show#[ob,es,ep,k _ ob (λz=>(hf _ z).2.1 zc) ho,r]
 .intro b u e;refine(I.aB b u e).nQ (λc v hc q=>k c v ?_ q) (λc q=>q) λc xs q=>q;rcases hc with z|z
  .rw[z];show sq b u e
  .show sq c _ z
def nF (t:Bool) (K:PySem.W.Frag) (H:Hp) (a:aq) (xs:List V):zm:=match t with|true=>dH K H a xs|false=>cy K H a xs
def PX (t:Bool) (h:aT) (a:aq) (xs:Array ay):zm:=match t with|true=>h.IsTuple a xs|false=>h.IsList a xs
def uh (t:Bool) (h:aT) (it l:aq) (i:Nat):zm:=match t with|true=>h.IsTupleIter it l i|false=>h.IsListIter it l i

theorem yR (I:Inv X pins σ H s) (q:nF t X.K H a xs):∃ its,Vals xs its /\ PX t s.heap a its.toArray /\ a<s.heap.objs.size:=by
 cases t with
 |true=>let#[its,r,p,_]:=I.tuple q;show#[its,r,p,let ⟨_,e,_⟩:=p;bq e]
 |false=>let#[its,r,p,_]:=I.list q;show#[its,r,p.isList,let ⟨_,_,e,_⟩:=p;bq e]
theorem ade (I:Inv X pins σ H s) (q:nF t X.K H a xs) (q':nF t X.K H a ys):xs=ys:=by
 cases t with
 |true=>show I.abZ q q'
 |false=>show I.abY q q'
theorem uh.ob (x:uh t h it l i):∃ o fs,h.get? it=ae o /\ o.data=.fields fs:=by
 cases t with
 |_=>let#[o,e,_,d]:=x;show#[o,_,e,d]
theorem uh.at (x:uh t h it l i) (k:∀ o,h.get? it=ae o->h'.get? it=ae o):uh t h' it l i:=by
 cases t with
 |true=>show Heap.IsTupleIter.at x k
 |false=>show Heap.IsListIter.at x k
theorem Qd (hh:A.handled=ag) (it l) (kP:l≠it) (items) :
 Draws prog w A it [it,l] items.size (λi v=>items[i]?=ae v) (λi h=>uh t h it l i /\ PX t h l items):=by
 cases t with
 |true=>show HT.Lr hh it l kP items
 |false=>show Draws.list hh it l kP items
theorem Lu (yQ:PX t s.heap l1 xs) (sy:PX t s.heap l2 ys)
 (h:∀ h',IsZip h' (s.heap.objs.size+4) (s.heap.objs.size+2) (s.heap.objs.size+3) .none->IsPair h' (s.heap.objs.size+2) (.ref s.heap.objs.size) (.ref<|s.heap.objs.size+1)->IsPair h' (s.heap.objs.size+3) .none .none ->
  uh t h' s.heap.objs.size l1 0->uh t h' (s.heap.objs.size+1) l2 0->(∀ c o,s.heap.get? c=ae o->h'.get? c=ae o)->Q (.ref<|s.heap.objs.size+4) { s with heap:=h' }):wpAny zj A (call (.type "zip") [.ref l1,.ref l2]) Q E s:=by
 cases t with
 |true=>show HT.Ls yQ sy h
 |false=>show call_zip_2 yQ sy λh' b1 b2 b3 b4 b5 _ b6=>h h' b1 b2 b3 b4 b5 b6
def Yl (t:Bool) (K:PySem.W.Frag) (a b:aq):It:=
 #[λi H=>∃ (xs ys:List V) (x y:V),nF t K H a xs /\ nF t K H b ys /\ xs[i]?=ae x /\ ys[i]?=ae y,
  λi H w H'=>∀ (xs ys),nF t K H a xs->nF t K H b ys->∃ (p:aq) (x y:V),xs[i]?=ae x /\ ys[i]?=ae y /\ H p=ag /\ w=.ref p /\ H'=upd H p (.tup [x,y]),
  λi H=>∃ (xs ys:List V),nF t K H a xs /\ nF t K H b ys /\ (i=xs.length \/ (i<xs.length /\ i=ys.length))]
theorem Co (k:Nat) (h:b<n):b≠n+k:=by lia
theorem Cp (h:n+4<m):m≠n /\ m≠n+1 /\ m≠n+2 /\ m≠n+3 /\ m≠n+4:=by lia
theorem G3 (ha:a<n) (hb:b<n):HT.Hw (n+4) (n+2) (n+3) n (n+1) [n,a] [n+1,b] where
 a:=by refine#[?_,?_,?_,?_,?_,?_,?_,?_,?_,?_]<;>show λz=>by have z':(_:Nat)=_:=z;lia
 f1:=by
  have e1:∀ k,n+k≠a:=λk z=>kI _<|xV (xT n k)<|z▸ha;refine#[?_,?_,?_]<;>(rw[ba,di];rintro(z|z))
  .have z':(_:Nat)=_:=z;lia
  .show e1 4 z
  .have z':(_:Nat)=_:=z;lia
  .show e1 3 z
  .have z':(_:Nat)=_:=z;lia
  .show e1 1 z
 f2:=by
  have e1:∀ k,n+k≠b:=λk z=>kI _<|xV (xT n k)<|z▸hb;refine#[?_,?_,?_]<;>(rw[ba,di];rintro(z|z))
  .have z':(_:Nat)=_:=z;lia
  .show e1 4 z
  .have z':(_:Nat)=_:=z;lia
  .show e1 3 z
  .have z':(_:Nat)=_:=z;lia
  .show e1 0 z
theorem MD {K}(ha:a<n) (hb:b<n) :
 Turn P w K tg (Yl t K a b) [n+4,n+2,n+3,n,n+1] (n+4)
  (λi h=>HT.ug h (n+4) (n+2) (n+3) /\ IsPair h (n+2) (.ref n) (.ref<|n+1) /\ (∃ u v,IsPair h (n+3) u v) /\ uh t h n a i /\ uh t h (n+1) b i) where
 mem:=by simp
 obj:=λi h st c hc=>by
  let#[#[_,_,_,z1],z2,#[u,v,z3],z4,z5]:=st;let#[o4,_,e4,d4]:=z4.ob;let#[o5,_,e5,d5]:=z5.ob;simp[ba,nP,or_false]at hc;rcases hc with rfl|rfl|rfl|rfl|rfl
  .show#[_,z1,λv z=>by cases z]
  .show#[_,z2,λv z=>by cases z]
  .show#[_,z3,λv z=>by cases z]
  .show#[o4,e4,λv z=>by rw[d4]at z;cases z]
  .show#[o5,e5,λv z=>by rw[d5]at z;cases z]
 keep:=λi h h' st k=>by
  let#[z1,z2,#[u,v,z3],z4,z5]:=st;let#[w0,w1,w2,z1]:=z1;show#[#[w0,w1,w2,k _ zg _ z1],k _ zg _ z2,#[u,v,k _ zg _ z3],z4.at λo e=>k _ zg o e,z5.at λo e=>k _ zg o e]
 item:=by
  intro X hP hw hK hc i pins s σ H E I hf st hg;subst hP hw hK;let#[xs,ys,x,y,q1,q2,e1,e2]:=hg;let#[z1,z2,#[u,v,z3],z4,z5]:=st;let#[i1,r1,p1,l1]:=yR I q1;let#[i2,r2,p2,l2]:=yR I q2;have R:=G3 ha hb;refine HT.BZ (Qd (t:=t) (prog:=X.prog) (w:=X.w) (A:=X.A.in1) (I.ok.hd hc) n a (cw ha) i1.toArray) (Qd (t:=t) (prog:=X.prog) (w:=X.w) (A:=X.A.in1) (I.ok.hd hc) _ b (Co 1 hb) i2.toArray) R (by rw[bX,<-r1.length];show(List.getElem?_eq_some_iff.mp e1).1) (by rw[bX,<-r2.length];show(List.getElem?_eq_some_iff.mp e2).1) z1 z2 z3 #[z4,p1] #[z5,p2] λvx vy h' tk b1 b2 b3 b4 b5 b6 b7 b8=>#[_,rfl,?_];refine HT.Ta b3 λh2 Qc nV=>?_;let#[w1,f1,g1]:=r1.get e1;let#[w2,f2,g2]:=r2.get e2;have adf:i1[i]?=ae vx:=by simpa using b1
  have adg:i2[i]?=ae vy:=by simpa using b2
  rw[f1]at adf;cases adf;rw[f2]at adg;cases adg;have Hz:(n+4)<s.heap.objs.size:=let ⟨_,_,_,z1⟩:=z1;bq z1
  have I2:Inv X pins σ (upd H s.heap.objs.size<|.tup [x,y]) { s with heap:=h2,toks:=tk }:=by
   refine I.ag6 hf (λc o hV e=>?_) (aC _) (#[by change 2<=sizeLine;decide,[vx,vy],.cons g1<|.cons g2 .nil,#[_,(nV.extBut _ _ (Cp Hz).2.2.2.2 b7),rfl,_,rfl]])
   .simp[ba,nP,or_false,not_or]at hV;show nV.extBut _ _ hV.1<|b8 c o hV.1 hV.2.2.1 hV.2.2.2.1 hV.2.2.2.2 e
  refine#[.ref s.heap.objs.size,_,I2,rfl,λajL ajM y1 y2=>#[_,x,y,by rw[ade I y1 q1];show e1,by rw[ade I y2 q2];show e2,(I.aB.fresh<|aC _),rfl,rfl],#[Qc,(nV.extBut _ _ R.a.1<|b8 _ _ R.a.1 R.a.2.2.2.2.1 R.a.2.2.2.2.2.1 R.a.2.2.2.2.2.2.1 z2),(let ⟨u,v,b4⟩:=b4;#[u,v,nV.extBut _ _ R.a.2.1 b4]),(b5.1.at λo e=>nV.extBut _ _ R.a.2.2.1 e),(b6.1.at λo e=>nV.extBut _ _ R.a.2.2.2.1 e)],λc hV=>?_]
  .rw[fA]
   .show(hf c hV).1
   .intro z;subst z;simp[ba,nP,or_false]at hV;let#[m1,m2,m3,m4,m5]:=Cp Hz;rcases hV with q|q|q|q|q
    .show m5 q
    .show m3 q
    .show m4 q
    .show m1 q
    .show m2 q
 done:=by
  intro X hP hw hK hc i pins s σ H E I hf st hg;subst hP hw hK;let#[xs,ys,q1,q2,hk]:=hg;let#[z1,z2,#[u,v,z3],z4,z5]:=st;let#[i1,r1,p1,l1]:=yR I q1;let#[i2,r2,p2,l2]:=yR I q2;refine HT.B3 (Qd (t:=t) (prog:=X.prog) (w:=X.w) (A:=X.A.in1) (I.ok.hd hc) n a (cw ha) i1.toArray) (Qd (t:=t) (prog:=X.prog) (w:=X.w) (A:=X.A.in1) (I.ok.hd hc) (n+1) b (Co 1 hb) i2.toArray) (G3 ha hb) (k:=i) (by rw[bX,bX,<-r1.length,<-r2.length];show hk) z1 z2 z3 #[z4,p1] #[z5,p2] λh' tk b8=>#[rfl,I.ag7 (ch:=[n+4,n+2,n+3,n,n+1]) hf λc o hV e=>?_];simp[ba,nP,or_false,not_or]at hV;show b8 c o hV.1 hV.2.2.1 hV.2.2.2.1 hV.2.2.2.2 e
 self:=λA i s Q E st h=>HT.MC st.1 h
def ag8 (K:PySem.W.Frag) (ta:TA):TI:=λσ H R=>ta σ H λvs H2=>∃ (t:Bool) (p q:aq) (xs ys:List V),vs=[.ref p,.ref q] /\ nF t K H2 p xs /\ nF t K H2 q ys /\ R (Yl t K p q) H2
theorem Tb (hg:Gl X "zip") (hm:X.mg "zip"=ag) (ha:PA X [a,b] ta) (hs:starEach [a,b] X.env=[(af,eval a X.env),(af,eval b X.env)]:=by rfl) (nV:starEach [b] X.env=[(af,eval b X.env)]:=by rfl) :
 PI X tg (.Call (.Name "zip" p) [a,b] [] pos) (ag8 X.K ta):=by
 intro pins s σ H R I h;refine tJ<|iI I hg hm (by decide +kernel:bootBuiltins "zip"=ae (.type "zip")) ?_;refine Ka (qB (ha pos pins s σ H _ I h) λus s1 vs H2 I2 r2 q=>?_) (by rw[hs,nV]) (by rw[nV];rfl);let#[t,x,y,xs,ys,rfl,hx,hy,q]:=q;let#[u,v,rfl,ru,rv]:=Vals.two r2;cases ru;cases rv;let#[i1,r1,p1,l1]:=yR I2 hx;let#[i2,r2,p2,l2]:=yR I2 hy;refine Lu p1 p2 λh' b1 b2 b3 b4 b5 b6=>?_;refine wpAny_pyIter_zip b1 ?_;refine#[s1.heap.objs.size+4,_,_,_,H2,rfl,I2.kept b6,MD l1 l2,#[#[_,_,.inl zc,b1],b2,#[_,_,b3],b4,b5],λc hc=>?_,q];have hle:s1.heap.objs.size<=c:=by
  simp[ba,nP,or_false]at hc;rcases hc with z|z|z|z|z<;>(rw[z];first|show aC _|show xT _ _)
 show I2.wL hle<|I2.aB.fresh hle
end L2
namespace L2.DL

noncomputable def nX:List D->List D->List W
 |x::l,y::r=>.d (.tup [x,y])::nX l r
 |_,_=>[]
theorem DU:∀ (l r),(nX l r).length=min l.length r.length
 |[],_=>rfl
 |_::_,[]=>rfl
 |_::l,_::r=>by erw[nX,bE,DU l r];lia
theorem DV:∀ {l r}{i:Nat}{w},(nX l r)[i]?=ae w->∃ x y,l[i]?=ae x /\ r[i]?=ae y /\ w=.d (.tup [x,y])
 |[],_,_,_,e=>by simp[nX]at e
 |_::_,[],_,_,e=>by simp[nX]at e
 |x::l,y::r,0,w,e=>by simp[nX]at e;show#[x,y,rfl,rfl,e.symm]
 | x::l,y::r,i+1,w,e=>by
   let#[x',y',h1,h2,h3]:=DV (by simpa[nX] using e);show#[x',y',by simpa using h1,by simpa using h2,h3]
def uR (k:DE<|List W):DE (List W):=λenv bx=>fC (k env bx) λws bx1=>match ws with
 |[.d<|.tup l,.d<|.tup r]=>.val (nX l r) bx1
 |[.d<|.lst l,.d<|.lst r]=>.val (nX l r) bx1
 |_=>.bad
theorem Ba {K}{p}(hp:∀ H,Sub F H->nF t K H p vs) (hq:∀ H,Sub F H->nF t K H q us) (dl:aE F l vs) (dm:aE F m us):vS F r (nX l m) (Yl t K p q):=by
 intro T i F1 r1 σ1 H1 env1 bx1 g R;have s1:=hp _<|g.s.trans R.fh;have s2:=hq _<|g.s.trans R.fh;have e1:=dl.length;have e2:=dm.length;refine#[λhl=>?_,λw e=>?_]
 .rw[DU]at hl;show#[vs,us,s1,s2,by lia]
 .let#[x,y,h1,h2,rfl]:=DV e;let#[v,f1,d1]:=dl.get h1;let#[u,f2,d2]:=dm.get h2;refine#[#[vs,us,v,u,s1,s2,f1,f2],λw H2 hy=>?_];let#[a,v',u',g1,g2,ha,rfl,rfl]:=hy vs us s1 s2;rw[f1]at g1;cases g1;rw[f2]at g2;cases g2;have gr:=R.uN (o:=.tup [v,u]) ha;show#[_,gr,R.yF ha,a,[v,u],rfl,fw,.cons (Den.mono (g.trans gr).s x d1)<|.cons (Den.mono (g.trans gr).s y d2) .nil]
theorem OV (hg:Gl X "zip") (hm:X.mg "zip"=ag) (ha:rC X T Z [a,b] k) (hs:starEach [a,b] X.env=[(af,eval a X.env),(af,eval b X.env)]:=by rfl) (nV:starEach [b] X.env=[(af,eval b X.env)]:=by rfl) :
 yH X T Z tg (.Call (.Name "zip" p) [a,b] [] pos) (uR k):=by
 refine PI.imp (Tb hg hm ha hs nV) λσ H Q=>bK λF r env bx R h=>?_;refine#[F,r,env,bx,R,End.bind h λws bx1 F1 r1 vs H1 g1 R1 d1 h1=>?_];split at h1
 .let#[v,t,rfl,#[p,us,rfl,k1,k2],v2,t2,rfl,#[q,HG,rfl,k3,k4],rt]:=d1;cases (rt);have z1:∀ H,Sub F1 H->nF ah X.K H p us:=λH s=>.of<|s _ _ k1;have z2:∀ H,Sub F1 H->nF ah X.K H q HG:=λH s=>.of<|s _ _ k3;show#[ah,p,q,us,HG,rfl,z1 _ R1.fh,z2 _ R1.fh,h1 F1 r1 _ H1 (.refl F1 r1) R1<|Ba z1 z2 k2 k4]
 .ext l m;let#[v,t,rfl,#[p,us,rfl,k1,k2],v2,t2,rfl,#[q,HG,rfl,k3,k4],rt]:=d1;cases (rt);have z1:∀ H,Sub F1 H->nF af X.K H p us:=λH s=>.of<|s _ _ k1;have z2:∀ H,Sub F1 H->nF af X.K H q HG:=λH s=>.of<|s _ _ k3;show#[af,p,q,us,HG,rfl,z1 _ R1.fh,z2 _ R1.fh,h1 F1 r1 _ H1 (.refl F1 r1) R1<|Ba z1 z2 k2 k4]
 .show h1.elim

def ag9 (K:PySem.W.Frag) (tl:TE):TI:=λσ H R=>tl σ H λx H1=>(∃ a,x=.ref a /\ (∃ xs,cy K H1 a xs) /\ R (Ku K a) H1) \/ ∃ a,x=.ref a /\ (∃ xs,dH K H1 a xs) /\ R (Xz K a) H1
theorem Tc (hl:PE X l tl):PI X tg l (ag9 X.K tl):=by
 intro pins s σ H R I h;refine br (hl pins s σ H _ I h) λv s1 x H1 I1 r1 q1=>?_;rcases q1 with⟨a,rfl,⟨xs,hq⟩,q⟩|⟨a,rfl,⟨xs,hq⟩,q⟩
 .cases r1;let#[its,rv,p,hz]:=I1.list hq;refine Ep p.isList #[s1.heap.objs.size,[s1.heap.objs.size],_,_,H1,rfl,I1.kept λb o e=>aU _ e,B7 a _,#[_,bF _ zc,rfl,rfl],λb hb=>?_,q];cases di.mp hb;show I1.wL (aC _)<|I1.aB.fresh<|aC _
 .cases r1;let#[its,rv,p,hz]:=I1.tuple hq;refine Wv (p) #[s1.heap.objs.size,[s1.heap.objs.size],_,_,H1,rfl,I1.kept λb o e=>aU _ e,FR a _,#[_,bF _ zc,rfl,rfl],λb hb=>?_,q];cases di.mp hb;show I1.wL (aC _)<|I1.aB.fresh<|aC _
theorem DW {K}{a}(k1:F a=ae (.lst vs)) (k2:aE F l vs):vS F r (l.map W.d) (Ku K a):=λT' i F2 r2 σ2 H2 env2 bx2 g2 R2=>by
 have hq:cy K H2 a vs:=.of<|R2.fh _ _<|g2.s _ _ k1;refine#[λhl=>?_,λw e=>?_]
 .rw[aK,k2.length]at hl;show#[vs,hq,EC hl]
 .let#[d,e1,rfl]:=Ci e;let#[u,e2,du]:=k2.get e1;refine#[#[vs,u,hq,e2],λx H3 ⟨e3,hy⟩=>?_];subst e3;have e4:=hy vs hq;rw[e2]at e4;cases e4;show#[F2,.refl F2 r2,R2,Den.mono g2.s d du]
theorem Ga {K}{a}(k1:F a=ae (.tup vs)) (k2:aE F l vs):vS F r (l.map W.d) (Xz K a):=λT' i F2 r2 σ2 H2 env2 bx2 g2 R2=>by
 have hq:dH K H2 a vs:=.of<|R2.fh _ _<|g2.s _ _ k1;refine#[λhl=>?_,λw e=>?_]
 .rw[aK,k2.length]at hl;show#[vs,hq,EC hl]
 .let#[d,e1,rfl]:=Ci e;let#[u,e2,du]:=k2.get e1;refine#[#[vs,u,hq,e2],λx H3 ⟨e3,hy⟩=>?_];subst e3;have e4:=hy vs hq;rw[e2]at e4;cases e4;show#[F2,.refl F2 r2,R2,Den.mono g2.s d du]
theorem oC (ha:PD X T Z a ma):yH X T Z tg a (bG ma):=by
 refine PI.imp (Tc ha) λσ H Q=>bK λF r env bx R h=>?_;refine#[F,r,env,bx,R,End.bind h λw bx1 F1 r1 v H1 g1 R1 d1 h1=>?_];split at h1
 .let#[p,vs,rfl,k1,k2]:=d1;show .inl #[p,rfl,#[vs,.of<|R1.fh _ _ k1],h1 F1 r1 _ H1 (.refl F1 r1) R1<|DW k1 k2]
 .let#[p,vs,rfl,k1,k2]:=d1;show .inr #[p,rfl,#[vs,.of<|R1.fh _ _ k1],h1 F1 r1 _ H1 (.refl F1 r1) R1<|Ga k1 k2]
 .show h1.elim
noncomputable def Ym (XN:List Str) (sc cs:kL) (N:List Str) (src:List<|Option Nat):Bool:=
 decide (cs.kind=.function)&&decide (cs.names.map (·.1)).Nodup&&cs.names.all (λy=>decide (y.2=.local->cs.names.lookup y.1=ae .local)) &&
 cs.names.all (λy=>decide (y.2=.free->(sc.names.lookup y.1=ae .cell \/ sc.names.lookup y.1=ae .free)))&&decide (src.length=N.length) &&
 (List.range src.length).all λj=>match src[j]?,N[j]? with
  |some (ae i),ae x=>decide (XN[i]?=ae x /\ cs.names.lookup x=ae .free)
  |_,_=>ah
theorem Gb (hX:∀ x,X.env.kindOf x=sc.names.lookup x) (hN:X.N=XN) (h:Ym XN sc cs N src=ah):t9 X N src cs:=by
 subst hN;unfold Ym at h;erw[aF,decide_eq_true_eq,dF]at h;let#[#[#[#[#[h1,h2],h3],h4],h5],h6]:=h;refine#[h1,h2,λy hy=>h3 y hy,λy hy hf=>?_,h5,λj i x e1 e2=>?_]
 .rw[hX];show h4 y hy hf
 .have q:=h6 j<|List.mem_range.mpr (List.getElem?_eq_some_iff.mp e1).1;rw[e1,e2]at q;show of_decide_eq_true q
section
variable (P:eR) (w:cQ) (K:PySem.W.Frag) (mg:Str -> Option ay) (base:aT) (cl:Nat -> aq)
def uS (k:Nat) (x:Str) (ps:List Str) (fn:List W->List Bx->O W):zm:=
 ∃ (f:aq) (fd:FuncData),rz P w K mg base (vP P w) k f fd ps (yG cl ps.length fn) /\ mg x=ae (.ref f) /\ PySem.W.keepIn K (.ref f)=ah /\ Binds K fd ps [] /\ ∃ o,K.lookup f=ae o /\ o.data=.func fd
def Def (x:Str) (st:dW) (ps:List Str):zm:=∃ (f:aq) (fd:FuncData),qD K x x st f fd /\ mg x=ae (.ref f) /\ Binds K fd ps []
end
section
variable {P:eR} {w:cQ} {K:PySem.W.Frag} {mg:Str -> Option ay} {base:aT} {cl:Nat -> aq} {k:Nat} {x:Str} {st:dW} {N ps:List Str} {m:aA} {fn:List W -> List Bx -> O W} {nn kk:Nat}
theorem _root_.L2.qD.obj {qual:Str}{f:aq}{fd:FuncData}(F:qD K x qual st f fd):∃ o:Obj,K.lookup f=ae o /\ o.data=.func fd:=by
 let#[#[oc,od,kV,doc,pm,an,eD,ct,sr,_,l,_],_]:=F;show#[_,l,rfl]
end

theorem Td (h:uS X.prog X.w X.K X.mg X.base Z.cl k x ps fn) (hr:eS k' X.A) (hk:k<=k') (hg:Gl X x) (hx:Passes (vP X.prog X.w) X Z.E) (ha:rC X T Z (e::es) m) (d6:(x==("__debug__"))=af:=by decide)
 (he:starEach (e::es) X.env=(af,eval e X.env)::starEach es X.env:=by rfl) (nS:(backTo pos<|starEach es X.env).any (·.1)=af:=by rfl) (hn:ps.length=nn:=by rfl):PD X T Z (.Call (.Name x p) (e::es) [] pos) (fq fn nn m):=by
 subst hn;let#[f,fd,G,hm,aha,hb,_]:=h;show(λG hr hg hm hk hb hx ha d6 he nS=>PE.imp (Oz G hr hg hm hk hb .nil hx ha d6 he nS) λσ H Q h=>SV h) G (hr.mono hk) hg hm aha hb hx ha d6 he nS
end L2.DL
namespace HT
structure SB (kd:SortKind) (b:Array Keyed) (z:SortSt):zm where
 pm:(arrOf z).Perm b
 kd:kindOf z=kd
 fl:failedOf z=ag
 pn:pendingOf z=#[]
theorem SB.len {kd}(g:SB kd b z):(arrOf z).size=b.size:=g.pm.size_eq
theorem SB.put {kd}(g:SB kd b z) (q:c.Perm<|arrOf z):SB kd b (setArr z c):=#[q.trans g.pm,g.kd,g.fl,g.pn]
section

def uT (prog:eR) (w:cQ) (A:kU) (E:ay->aN->zm) (s:aN) (κ:KeyKind) (kd:SortKind) (b:Array Keyed):zm:=
 ∀ (x y:Keyed),x∈b.toList->y∈b.toList->∀ (Q:Bool->aN->zm) (E':ay->aN->zm),Q (κ.blt ((κ.keyOf x.1).getD κ.dflt)<|(κ.keyOf y.1).getD κ.dflt) s->wpAny zj A (keyLt' kd x.1 y.1) Q E' s
variable {kd:SortKind}
noncomputable abbrev kx (κ:KeyKind) (z:SortSt) (i:Nat):κ.α:=KK κ (arrOf z) i
theorem SB.item (g:SB kd b z) (hi:i<b.size):∃ x,(arrOf z)[i]?=ae x /\ x∈b.toList /\ kx κ z i=(κ.keyOf x.1).getD κ.dflt:=by
 have hz:=g.len▸hi;refine#[(arrOf z)[i],getElem?_pos _ i hz,(Array.perm_iff_toList_perm.mp g.pm).mem_iff.mp zg,?_];simp[KK,getElem?_pos (arrOf z) i hz]
theorem ask (C:uT prog w A E s κ kd b) (g:SB kd b z) (hi:i<b.size) (hj:j<b.size)
 (q:Q (ae<|κ.blt (kx κ z i)<|kx κ z j) z):wpS zj A E s (ltAt' i j) Q z:=by
 let#[x,ex,mx,ahb]:=g.item hi;let#[y,ey,my,ahc]:=g.item hj;rw[ahb,ahc]at q;rw[ltAt'_eq];refine cM<|yi ?_;dsimp only;rw[elem'_eq,elem'_eq,ex,ey];refine cM<|eQ<|cM<|eQ ?_;rw[lt'_eq];refine cM<|yi ?_;rw[g.kd];show cM<|W3<|uE<|C x y mx my _ _ #[rfl,eQ q]
def Up (κ:KeyKind) (z:SortSt) (n:Nat):zm:=∀ i j,i<=j->j<n->κ.kle (kx κ z i) (kx κ z j)
def Dn (κ:KeyKind) (z:SortSt) (n:Nat):zm:=∀ i j,i<=j->j<n->κ.kle (kx κ z j) (kx κ z i)
theorem Up.one (h:n<=1):Up κ z n:=λi j a c=>by
 have e:i=j:=by lia
 subst e;show yn _
theorem Up.more (u:Up κ z n) (h:1<=n) (l:κ.kle (kx κ z<|n-1)<|kx κ z n):Up κ z (n+1):=λi j a c=>by
 rcases wx j n with c'|c'
 .show u i j a c'
 obtain rfl:j=n:=by lia
 rcases wx i j with a'|a'
 .show Kk (u i _ za za) l
 .obtain rfl:i=j:=by lia
  show yn _
theorem Dn.more (u:Dn κ z n) (h:1<=n) (l:κ.kle (kx κ z n)<|kx κ z<|n-1):Dn κ z (n+1):=λi j a c=>by
 rcases wx j n with c'|c'
 .show u i j a c'
 obtain rfl:j=n:=by lia
 rcases wx i j with a'|a'
 .show Kk l<|u i _ za za
 .obtain rfl:i=j:=by lia
  show yn _
theorem asc (C:uT prog w A E s κ kd b) (g:SB kd b z) (hn:n<=b.size) (h1:1<=a) (h2:a<=n) (u:Up κ z a)
 (q:∀ m,a<=m->m<=n->Up κ z m->(m<n->κ.klt (kx κ z m) (kx κ z<|m-1))->Q (ag,m) z):wpS zj A E s (ascLoop a n) Q z:=by
 refine yj (I:=λm c y=>y=z /\ c=(ag,m) /\ Up κ z m) ?_ ?_ #[rfl,rfl,u]
 .intro m c y g1 g2 ⟨e1,e2,u'⟩;subst e1;subst e2;refine cM<|ask C g za za ?_;cases e:κ.blt _ _ with
  |true=>show eQ<|q m g1 (nZ g2) u' λ_=>e
  |false=>show eQ #[rfl,rfl,u'.more za e]
 .intro c y ⟨e1,e2,u'⟩;subst e1;subst e2;rw[aaq h2]at u' ⊢;show q n h2 (aC n) u' λh=>absurd h<|kI n
theorem G4 (hj:j<=(arrOf z).size):kx κ (setArr z<|mirror (arrOf z) i j<|(j-i) / 2) k=if i<=k /\ k<j then kx κ z (i+j-1-k) else kx κ z k:=KK_mirror hj k
theorem mB (hj:j<=(arrOf z).size) (e:∀ k,i<=k->k<j->kx κ z k=kx κ z (j-1)) (k):kx κ (setArr z<|mirror (arrOf z) i j<|(j-i) / 2) k=kx κ z k:=KK_mirror_equal hj e k
def Ends (prog:eR) (w:cQ) (A:kU) (E:ay->aN->zm) (s:aN) (κ:KeyKind) (kd:SortKind) (b:Array Keyed) (n:Nat) (Q:Option Nat->SortSt->zm):zm:=
 ∀ m y,SB kd b y->1<=m->m<=n->Up κ y m->Q (ae m) y
theorem turned (C:uT prog w A E s κ kd b) (g:SB kd b z) (hn:n<=b.size) (h1:1<=a) (h2:a<=n) (d:Dn κ z a) (q:Ends prog w A E s κ kd b n Q) :
 wpS zj A E s (tail3 a n) Q z:=by
 have hz:=g.len▸cj h2 hn;have g':SB kd b (setArr z<|mirror _ 0 a<|(a-0) / 2):=g.put<|Kc _ _ _ _;refine cM<|Kd<|cM<|asc C g' hn h1 h2 (λi j c1 c2=>?_) λm m1 m2 um _=>eQ<|q m _ g' (cj h1 m1) m2 um;rw[G4 hz,G4 hz,if_pos #[dJ i,by lia],if_pos #[dJ j,c2]];show d _ _ za za
def Alike (κ:KeyKind) (z:SortSt) (m e:Nat):zm:=e+1<=m /\ ∀ i,m-(e+1)<=i->i<m->kx κ z i=kx κ z (m-1)
theorem Alike.zero (h:1<=m):Alike κ z m 0:=#[h,λi h1 h2=>by rw[show i=m-1 by lia]]
theorem desc (C:uT prog w A E s κ kd b) (g:SB kd b z) (hn:n<=b.size) (h1:1<=a) (h2:a<=n) (d:Dn κ z a)
 (q:∀ m e y,SB kd b y->a<=m->m<=n->Dn κ y m->Alike κ y m e->Q (ag,m,e) y):wpS zj A E s (descLoop a n) Q z:=by
 refine yj (I:=λm c y=>∃ e,c=(ag,m,e) /\ SB kd b y /\ Dn κ y m /\ Alike κ y m e) ?_ ?_ #[0,rfl,g,d,.zero h1]
 .intro m c y g1 g2 ⟨e,ec,gy,dy,al⟩;subst ec;have hm:m<=(arrOf y).size:=by rw[gy.len];lia
  refine cM<|ask C gy (show m<b.size by lia) (show m-1<b.size by lia) ?_;cases t:κ.blt _ _ with
  |true=>
    have d':=dy.more za<|Kl t;dsimp only;by_cases he:e>0
    .rw[if_pos he];refine cM<|Kd<|eQ #[0,rfl,gy.put<|Kc _ _ _ _,λi j c1 c2=>?_,.zero za];rw[mB hm al.2,mB hm al.2];show d' i j c1 c2
    .rw[if_neg he];show eQ #[0,rfl,gy,d',.zero za]
  |false=>
    dsimp only;rw[if_neg zg];refine cM<|ask C gy za za ?_;cases t2:κ.blt _ _ with
    |true=>show eQ<|q m e y gy g1 za dy al
    |false=>
      refine eQ #[e+1,rfl,gy,dy.more za t2,by have:=al.1;lia,λi c1 c2=>?_];rw[show m+1-1=m by lia];by_cases hi:i=m
      .rw[hi]
      .rw[(abo t2 t)];show al.2 i za za
 .intro c y ⟨e,ec,gy,dy,al⟩;subst ec;rw[aaq h2]at dy al ⊢;show q n e y gy h2 (aC n) dy al
theorem fall (C:uT prog w A E s κ kd b) (g:SB kd b z) (hn:n<=b.size) (h2:a+1<=n) (d:Dn κ z<|a+1) (q:Ends prog w A E s κ kd b n Q) :
 wpS zj A E s (descPart a n) Q z:=by
 refine cM<|W3<|qT #[rfl,cM<|desc C g hn (Nat.succ_pos a) h2 d λm e y gy m1 m2 dy al=>?_];by_cases he:e>0
 .rw[if_pos he];have hm:m<=(arrOf y).size:=by rw[gy.len];lia
  refine cM<|Kd<|turned C (gy.put<|Kc _ _ _ _) hn za m2 (λi j c1 c2=>?_) q;rw[mB hm al.2,mB hm al.2];show dy i j c1 c2
 .rw[if_neg he];show turned C gy hn za m2 dy q
theorem count (C:uT prog w A E s κ kd b) (g:SB kd b z) (hn:n<=b.size) (h1:1<=n) (q:Ends prog w A E s κ kd b n Q) :
 wpS zj A E s (countRun' 0 n) Q z:=by
 rw[countRun0_eq];refine cM<|asc C g hn (aC 1) h1 (.one<|aC 1) λm m1 m2 um last=>?_;by_cases hm:m=n
 .rw[if_pos (by simp[hm])];show eQ<|q m z g m1 m2 um
 rw[if_neg (by simp[hm])];have lt:=last za;by_cases h3:m>1
 .rw[if_pos h3];refine cM<|ask C g za za ?_;cases t:κ.blt _ _ with
  |true=>show eQ<|q m z g m1 m2 um
  |false=>
    dsimp only;have al:∀ k,0<=k->k<m->kx κ z k=kx κ z _:=λk _ hk=>
     abo (um k _ za za) (Kk t<|um 0 k (dJ k) hk)
    have hz:m<=(arrOf z).size:=by rw[g.len];lia
    refine cM<|Kd<|fall C (g.put<|Kc _ _ _ _) hn za (λi j c1 c2=>?_) q;rw[mB hz al,mB hz al];have d0:Dn κ z m:=λi j c1 c2=>by rw[al i (dJ _) za,al j (dJ _) c2];show yn _
    show d0.more m1 (Kl lt) i j c1 c2
 .rw[if_neg h3];obtain rfl:m=1:=by lia
  have d0:Dn κ z 1:=λi j c1 c2=>by
   obtain rfl:i=j:=by lia
   show yn _
  show fall C g hn za (d0.more (aC 1)<|Kl lt) q
end
section
variable {kd:SortKind}
def Fits (κ:KeyKind) (z:SortSt) (k l r:Nat):zm:=(∀ i,i<l->κ.kle (kx κ z i) (kx κ z k)) /\ ∀ i,r<=i->i<k->κ.klt (kx κ z k) (kx κ z i)
theorem G5 (hk:k<(arrOf z).size) (hl:l<=k):kx κ (setArr z<|bubble (arrOf z) k<|k-l) i=if i=l then kx κ z k else if l<i /\ i<=k then kx κ z (i-1) else kx κ z i:=by
 have e:=KK_bubble (κ:=κ) hk (Nat.sub_le k l) i;rw[show k-(k-l)=l by lia]at e;show e
theorem Up.insert (u:Up κ z k) (hk:k<(arrOf z).size) (hl:l<=k) (f:Fits κ z k l l):Up κ (setArr z<|bubble (arrOf z) k<|k-l) (k+1):=by
 intro i j c1 c2;rw[G5 hk hl,G5 hk hl];by_cases i1:i=l
 .rw[if_pos i1];by_cases j1:j=l
  .rw[if_pos j1];show yn _
  .rw[if_neg j1,if_pos #[by lia,by lia]];show Kl<|f.2 _ za za
 .rw[if_neg i1];by_cases i2:l<i /\ i<=k
  .rw[if_pos i2,if_neg za,if_pos #[by lia,by lia]];show u _ _ za za
  .rw[if_neg i2];by_cases j1:j=l
   .rw[if_pos j1];show f.1 i za
   .rw[if_neg j1];by_cases j2:l<j /\ j<=k
    .rw[if_pos j2];show u _ _ za za
    .rw[if_neg j2];show u _ _ c1 za
theorem ahd (C:uT prog w A E s κ kd b) (g:SB kd b z) (hn:n<=b.size) (hm:m<=n) (u:Up κ z m) (q:∀ y,SB kd b y->Up κ y n->Q ah y) :
 wpS zj A E s (binarySort' 0 n m) Q z:=by
 rw[binarySort'_eq];erw[xW];refine cM<|Kf (Q:=λc y=>c=(ag,()) /\ SB kd b y /\ Up κ y n) (yj (I:=λk c y=>c=(ag,()) /\ SB kd b y /\ Up κ y (min k n)) ?_ ?_ ?_) ?_
 .intro k c y k1 k2 ⟨ec,gy,uy⟩;rw[WE<|nZ k2]at uy;have kb:k<b.size:=by lia
  refine cM<|Kf (Q:=λc y'=>y'=y /\ ∃ l r,c=(ag,l,r) /\ l<=k /\ Fits κ y k l l) (yj (I:=λx c y'=>y'=y /\ ∃ l r,c=(ag,l,r) /\ l<=r /\ r<=k /\ r-l<=k-x /\ Fits κ y k l r) ?_ ?_<|#[rfl,0,k,rfl,dJ k,aC k,aC _,λi hi=>absurd hi<|IC i,λi i1 i2=>absurd i2 za]) ?_
  .intro x c y' _ x2 ⟨ey,l,r,ec,p1,p2,p3,f⟩;subst ey;subst ec;dsimp only;by_cases lr:l>=r
   .rw[if_pos lr];obtain rfl:l=r:=by lia
    show eQ #[rfl,l,l,rfl,p2,f]
   rw[if_neg lr];refine cM<|ask C gy kb za ?_;cases t:κ.blt _ _ with
   |true=>show eQ #[rfl,l,(l+r) / 2,rfl,by lia,by lia,by lia,f.1,λi i1 i2=>KeyOrd.klt_of_klt_of_kle t<|uy _ _ i1 i2]
   |false=>show eQ #[rfl,(l+r) / 2+1,r,rfl,by lia,by lia,by lia,λi i1=>Kk (uy i _ za za) t,f.2]
  .intro c y' ⟨ey,l,r,ec,p1,p2,p3,f⟩;obtain rfl:l=r:=by lia
   show#[ey,l,l,ec,p2,f]
  .intro c y' ⟨ey,l,r,ec,p,f⟩;subst ey;subst ec;change wpS _ _ _ _ _ _ _;rw[moveDown'_eq];refine cM<|W4<|eQ #[rfl,gy.put<|bubble_perm _ _ _,?_];rw[WE k2];show uy.insert (by rw[gy.len];show kb) p f
 .intro c y ⟨ec,gy,uy⟩;rw[show min _ n=n by lia]at uy;show#[ec,gy,uy]
 .refine#[rfl,g,?_];rcases wx m 1 with m0|m0
  .show .one za
  .rw[show min (max m 1) n=m by lia];show u
 .intro c y ⟨ec,gy,uy⟩;subst ec;show eQ<|q y gy uy
def Qe (κ:KeyKind) (b:Array Keyed) (y:SortSt):zm:=(arrOf y).Perm b /\ failedOf y=ag /\ pendingOf y=(List.toArray [(0,b.size,0)]) /\ Up κ y b.size
theorem SB.fin (g:SB kd b y) (u:Up κ y b.size):Qe κ b (setPending y<|(pendingOf y).push (0,b.size,0)):=#[g.pm,g.fl,by rw[g.pn];rfl,u]
theorem runs (C:uT prog w A E s κ kd b) (g:SB kd b z) (h2:2<=b.size) (dR:b.size<64) (q:∀ y,(arrOf y).Perm b->failedOf y=ag->Up κ y b.size->Q () y) :
 wpS zj A E s sortRuns' Q z:=by
 have mr:minRun' b.size b.size 0=b.size:=by
  let#[f,e]:=Nat.exists_eq_add_of_lt (show 0<b.size by lia);have:minRun' (0+f+1) b.size 0=b.size:=by rw[minRun'_succ,if_pos dR];rfl
  rw[<-e]at this;show this
 rw[sortRuns'_eq];refine cM<|yi ?_;dsimp only;erw[g.len,mr];refine cM (Kf (Q:=λc y=>c=(ag,b.size) /\ Qe κ b y)
  (yj (I:=λx c y=>if x=0 then c=(ag,0) /\ SB kd b y else c=(ag,b.size) /\ Qe κ b y) ?_ ?_ (by rw[if_pos rfl];show#[rfl,g])) ?_)
 .intro x c y _ x2 I;by_cases x0:x=0
  .rw[if_pos x0]at I;let#[ec,gy]:=I;subst ec;subst x0;dsimp only;rw[if_neg za];erw[IE,Nat.min_self,xW];have fin:∀ y',SB kd b y'->Up κ y' b.size->(if (1)=0 then ((ag:Option PUnit),b.size)=(ag,0) /\ SB kd b (setPending y'<|(pendingOf y').push (0,b.size,0)) else ((ag:Option PUnit),b.size)=(ag,b.size) /\ Qe κ b _):=
    λy' g' u'=>by rw[if_neg za];show#[rfl,g'.fin u']
   refine cM<|count C gy (aC _) za λm y1 g1 m1 m2 u1=>?_;dsimp only;by_cases lt:m<b.size
   .rw[if_pos lt];refine cM<|W3<|qT #[rfl,cM<|ahd C g1 (aC _) m2 u1 λy3 g3 u3=>?_];rw[if_neg zg];refine cM<|yi ?_;rw[show (pendingOf y3).back?=ag by rw[g3.pn];rfl];show cM<|W4<|eQ<|fin y3 g3 u3
   .rw[if_neg lt];obtain rfl:m=b.size:=by lia
    refine cM<|yi ?_;rw[show (pendingOf y1).back?=ag by rw[g1.pn];rfl];show cM<|W4<|eQ<|fin y1 g1 u1
  .rw[if_neg x0]at I;let#[ec,fy]:=I;subst ec;dsimp only;rw[if_pos<|aC _];show eQ #[rfl,fy]
 .intro c y I;rw[if_neg za]at I;show I
 .intro c y ⟨ec,fy⟩;subst ec;dsimp only;refine cM (Kf (yj (I:=λ_ c y'=>y'=y /\ c=(ag,())) ?_ (λ_ _ h=>h) #[rfl,rfl]) ?_)
  .intro x c y' _ _ ⟨e1,e2⟩;subst e1;subst e2;refine cM<|yi ?_;rw[if_pos (by rw[fy.2.2.1];show aC 1)];show eQ #[rfl,rfl]
  .intro c y' ⟨e1,e2⟩;subst e1;subst e2;show eQ<|q _ fy.1 fy.2.1 fy.2.2.2
end
theorem jw:∀ a,lexLt a a=af
 |[]=>rfl
 |x::a=>by rw[gx,if_pos rfl];show jw a
theorem oD:∀ a b c,lexLt a b=ah->lexLt b c=ah->lexLt a c=ah
 |[],[],_,h,_=>by cases h
 |[],_::_,[],_,h=>by cases h
 |[],_::_,_::_,_,_=>rfl
 |_::_,[],_,h,_=>by cases h
 |_::_,_::_,[],_,h=>by cases h
 | x::a,y::b,z::c,h,g=>by
   rw[gx]at *;by_cases e1:x=y
   .subst e1;rw[if_pos rfl]at h;by_cases e2:x=z
    .subst e2;rw[if_pos rfl]at g ⊢;show oD a b c h g
    .rw[if_neg e2]at g ⊢;show g
   .rw[if_neg e1]at h;by_cases e2:y=z
    .subst e2;rw[if_neg e1];show h
    .rw[if_neg e2]at g;rw[if_neg za];show decide_eq_true za
theorem i4:∀ a b,lexLt a b=af->lexLt b a=af->a=b
 |[],[],_,_=>rfl
 |[],_::_,h,_=>by cases h
 |_::_,[],_,h=>by cases h
 | x::a,y::b,h,g=>by
   rw[gx]at *;by_cases e:x=y
   .subst e;rw[if_pos rfl]at h g;rw[i4 a b h g]
   .lia
theorem Cq (a b c) (h:lexLt a c=ah):lexLt a b=ah \/ lexLt b c=ah:=by
 cases e:lexLt a b with
 |true=>show .inl zc
 |false=>
   refine .inr ?_;cases f:lexLt b a with
   |true=>show oD b a c f h
   |false=>rw[<-i4 a b e f];show h

theorem Gc (k) (h:Q (decide (x<y)) s):wpAny zj A (oneLt' k (.int x t)<|.int y u) Q E s:=by
 cases k with
 |true=>show oneLt_int h
 |false=>
   show ai<|(aba<|qQ h)
theorem CU (f) (x y):keyLt' (tuples' f) x y=(do
 let xs <-Builtin.List.listItems x
 let ys <-Builtin.List.listItems y
 for ((p,q),i) in (xs.toList.zip ys.toList).zipIdx do
  if !(<-eqBool p q) then return <-oneLt' (f&&i==0) p q
 return decide (xs.size<ys.size)):=rfl
structure KP (P:aT->ay->List Int->zm):zm where
 inj:∀ {h:aT}{v:ay}{ns ms:List Int},P h v ns->P h v ms->ns=ms
 push:∀ {h:aT}{v:ay}{ns:List Int},P h v ns->∀ o:Obj,P (h.push o) v ns
 upd:∀ {h:aT}{v:ay}{ns:List Int},P h v ns->∀ {l:aq}{xs:Array ay}{n:Nat},h.get? l=ae (seqObj "list" xs n)->∀ f:Obj->Obj,P (h.update l f) v ns
section
variable {prog:eR} {w:cQ} {A:kU} {E:ay -> aN -> zm} {s:aN} {P:aT -> ay -> List Int -> zm} (KQ:KP P)
open Classical in
noncomputable def vX (P:aT->ay->List Int->zm) (h:aT):KeyKind where
 α:=List Int
 blt:=lexLt
 irrefl:=jw
 trans:=oD
 negTrans:=Cq
 total:=i4
 keyOf v:=if p:∃ ns,P h v ns then ae p.choose else ag
 dflt:=[]
include KQ in
open Classical in
theorem AH (p:P h v ns):((vX P h).keyOf v).getD []=ns:=by
 have e:∃ ns,P h v ns:=#[ns,p];change (if p:∃ ns,P h v ns then ae p.choose else ag).getD []=ns;rw[dif_pos e];show KQ.inj e.choose_spec p
def xl (P:aT->ay->List Int->zm) (h:aT) (vs:List ay):zm:=vs.Pairwise λx y=>∀ ns ms,P h x ns->P h y ms->lexLt ms ns=af
def Yn (P:aT->ay->List Int->zm) (prog:eR) (w:cQ) (U:Nat) (s:aN) (vs:List ay):zm:=∀ (A) (h'),A.units<=U->(∀ v ns,P s.heap v ns->P h' v ns) ->
 (∀ {Q}{E},Q (tuples' ah) { s with heap:=h' }->wpAny zj A (keyKind' vs.toArray) Q E { s with heap:=h' }) /\ ∀ E,uT prog w A E { s with heap:=h' } (vX P h') (tuples' ah) (pairsOf vs)
include KQ
theorem ME (H:∀ v∈vs,∃ ns,P h v ns) (up:∀ v ns,P h v ns->P h' v ns) (pm:(arrOf z).Perm<|pairsOf vs) (u:Up (vX P h') z (pairsOf vs).size) :
 ((arrOf z).map (·.2)).toList.Perm vs /\ xl P h ((arrOf z).map (·.2)).toList:=by
 have hl:(arrOf z).toList.Perm (vs.zip vs):=by rw[<-abb];show Array.perm_iff_toList_perm.mp pm
 have me:∀ p∈(arrOf z).toList,p.1=p.2 /\ p.1∈vs:=λp hp=>W5<|hl.mem_iff.mp hp;rw[Array.toList_map];constructor
 .have:=hl.map (·.2);rw[aaF<|aC _]at this;show this
 .unfold xl;rw[rX,List.pairwise_iff_getElem];intro i j hi hj EY ns ms p q;have adh:j<(arrOf z).size:=by simpa using hj
  have g:=u i j (nZ EY) (by rw[<-pm.size_eq];show adh);have ki:kx (vX P h') z i=ns:=by
   simp[KK,getElem?_pos (arrOf z) i (by simpa using hi)];rw[abi,<-(me _ zg).1]at p;show AH KQ<|up _ _ p
  have kj:kx (vX P h') z j=ms:=by
   simp[KK,getElem?_pos (arrOf z) j adh];rw[abi,<-(me _ zg).1]at q;show AH KQ<|up _ _ q
  rw[ki,kj]at g;show g
theorem OW (ho:s.heap.get? a=ae (seqObj "list" vs.toArray n)) (H:∀ v∈vs,∃ ns,P s.heap v ns) (hU:A.units<=U) (S:vs≠[]->Yn P prog w U s vs) (dR:vs.length<64)
 (h:∀ out,out.toList.Perm vs->xl P s.heap out.toList->R (.done<|.ret .none) { s with heap:=sortedHeap s.heap a vs out }):wpAny zj A (Builtin.«list.sort» #[[.ref a],[]]) R E s:=by
 rw[list_sort_plain];have la:=bq ho;refine ai<|yh ho zc<|ai<|Kb ho zc ?_;obtain⟨k,HI⟩:∃ k,(s.heap.update a _).get? a=ae (seqObj "list" #[] k):=#[_,aa6 ho λ_=>#[]];refine ai<|W6 HI zc<|ai<|Wu<|ai<|Es<|ku ?_;generalize eh:((s.heap.update a _).push _).push _=h6;have up:∀ v ns,P s.heap v ns->P h6 v ns:=λv ns p=>eh▸KQ.push (KQ.push (KQ.upd p ho _) _) _;have Qf:h6.get? a=ae (seqObj "list" #[] k):=by
  rw[<-eh];show aU _<|aU _ HI
 have fin:∀ out:Array ay,out.toList.Perm vs->xl P s.heap out.toList->R _ { s with heap:=h6.update a _ }:=λout p q=>by
  rw[<-eh];show h out p q
 change wpAny _ A _ R E { s with heap:=h6 };dsimp only;by_cases h2:vs.toArray.size<2
 .rw[if_pos h2,if_pos h2];refine ai<|ao ?_;rw[StateT.run_pure];refine ai<|ao ?_;dsimp only;have em:(Array.map (λx=>x.2)<|vs.toArray.zip vs.toArray)=vs.toArray:=by
   apply Array.toList_inj.mp;simp[aaF]
  rw[em];refine ai<|W6 Qf zc<|ai<|Kb Qf zc ?_;rw[bne_self_eq_false];refine ao<|fin vs.toArray (List.Perm.refl _) ?_;rw[bX]at h2;unfold xl;show L2.SO h2
 .rw[if_neg h2,if_neg h2];rw[bX]at h2;have ne:vs≠[]:=λe=>by rw[e]at h2;simp at h2
  have H6:∀ v∈vs,∃ ns,P h6 v ns:=λv m=>let ⟨ns,p⟩:=H v m;#[ns,up v ns p]
  refine ai<|(S ne A h6 hU up).1 ?_;refine ai<|nM (runs
   (Q:=λ_ y=>(arrOf y).Perm (pairsOf vs) /\ failedOf y=ag /\ Up (vX P h6) y (pairsOf vs).size) ((S ne A h6 hU up).2 _) #[Array.Perm.refl _,rfl,rfl,rfl] (by rw[W7];lia) (by rw[W7];show dR) λy a1 a2 a3=>#[a1,a2,a3]) ?_ λ_ _ e=>e
  rintro⟨⟨⟩,y⟩ s' ⟨es,pm,fl,u⟩;subst es;dsimp only;let#[o1,o2]:=ME KQ H up pm u;refine ai<|W6 Qf zc<|ai<|Kb Qf zc ?_ (hsz2:=by rw[Array.size_map,pm.size_eq,W7];show(by rw[bj];lia));rw[fl,bne_self_eq_false];show ao<|fin _ o1 o2
theorem Lv (hl:s.heap.IsList l vs.toArray) (H:∀ v∈vs,∃ ns,P s.heap v ns) (hU:A.units+8<=U) (S:vs≠[]->Yn P prog w U s vs) (dR:vs.length<64)
 (h:∀ out,out.toList.Perm vs->xl P s.heap out.toList->Q (.ref<|s.heap.objs.size+1) { s with heap:=sortedAll s.heap vs out }):wpAny zj A (call (.builtin "sorted") [.ref l]) Q E s:=by
 refine Xd WU WV WW (WX _) ?_;refine ai<|ao<|ai<|collect_list hl<|ai<|Es ?_;generalize eg:(s.heap.push _).update s.heap.objs.size _=g;have sg:g.objs.size=s.heap.objs.size+1:=by rw[<-eg,aaY,vB]
 have up:∀ v ns,P s.heap v ns->P (g.push<|seqObj "list" vs.toArray 0) v ns:=λv ns p=>by
  rw[<-eg];show KQ.push (KQ.upd (KQ.push p _) (bF _ zc) _) _
 have gl:(g.push<|seqObj "list" vs.toArray 0).get? (s.heap.objs.size+1)=ae (seqObj "list" vs.toArray 0):=by rw[<-sg];show bF _ zc
 rw[sg];refine ai<|ku<|hG WY #[_,gl,rfl] WZ (OW KQ gl (λv m=>let ⟨ns,p⟩:=H v m;#[ns,up v ns p]) (show A.units+1+1<=U by lia) (λne A h2 hu k=>S ne A h2 hu λv ns p=>k v ns<|up v ns p) dR λout o1 o2=>#[_,rfl,ao #[_,rfl,?_]])<|W2 _;have:=h out o1<|List.Pairwise.imp (λ{x y} r ns ms p q=>r ns ms (up _ _ p)<|up _ _ q) o2;unfold sortedAll at this;rw[eg]at this;show this
omit KQ
end
end HT
namespace L2.DL

theorem DX:∀ {rs:List aq}{us},Vals (rs.map V.ref) us->us=rs.map Value.ref
 |[],_,.nil=>rfl
 | r::rs,_,.cons q t=>by
   cases q;rw[DX t];rfl
end L2.DL
namespace HT
inductive bH where
 |i (n:Int)|s (x:Str)
 deriving DecidableEq
noncomputable def bH.code:bH->List Int
 |.i n=>[n]
 |.s x=>x.cps.toList.map (λ(c:Nat)=>(c:Int)+1)++[0]
noncomputable def bH.sV:bH->bH->Bool
 |.i _,.i _=>ah
 |.s _,.s _=>ah
 |_,_=>af
def bD (l:List bH):List Int:=l.flatMap (λd=>1::d.code)++[0]
def kQ (l m:List bH):Bool:=(l.zip m).all λp=>p.1.sV p.2
theorem DY (r q):∀ (a b:List Nat),a≠b->lexLt ((a.map λ(c:Nat)=>(c:Int)+1)++[0]++r) ((b.map λ(c:Nat)=>(c:Int)+1)++[0]++q)=decide (a<b)
 |[],[],h=>absurd zc h
 | [],y::b,_=>by
   change lexLt (0::_) (((y)+1)::_)=_;rw[gx,if_neg za,decide_eq_true za,decide_eq_true zg]
 | x::a,[],_=>by
   change lexLt (((x)+1)::_) (0::_)=_;rw[gx,if_neg za,decide_eq_false za,decide_eq_false zg]
 | x::a,y::b,h=>by
   change lexLt (((x)+1)::_) (((y)+1)::_)=_;rw[gx];by_cases e:x=y
   .subst e;rw[if_pos rfl];refine(DY r q a b λz=>h (by rw[z])).trans ?_;by_cases c:a<b
    .rw[decide_eq_true c,decide_eq_true (by simpa using c)]
    .rw[decide_eq_false c,decide_eq_false (by simpa using c)]
   .rw[if_neg za];by_cases c:x<y
    .rw[decide_eq_true za,decide_eq_true<|List.cons_lt_cons_iff.mpr<|.inl c]
    .rw[decide_eq_false za,decide_eq_false ?_];intro z;rcases List.cons_lt_cons_iff.mp z with z|z
     .lia
     .lia
noncomputable def bH.lt:bH->bH->Bool
 |.i n,.i m=>decide (n<m)
 |.s x,.s y=>decide (x.cps.toList<y.cps.toList)
 |_,_=>af
theorem bH.app (r q):∀ {a b:bH},a.sV b=ah->a≠b->lexLt (a.code++r) (b.code++q)=a.lt b
 | .i n,.i m,_,h=>by
   change lexLt (n::r) (m::q)=_;rw[gx,if_neg λz=>h (by rw[z])];rfl
 |.s x,.s y,_,h=>DY r q _ _ λz=>h (by
  let#[#[a]]:=x;let#[#[b]]:=y;have z':a=b:=z;rw[z'])
theorem MF (a r q):lexLt (a++r) (a++q)=lexLt r q:=by
 induction a with
 |nil=>rfl
 |cons x a ih=>rw[IK,IK,gx,if_pos rfl,ih]
def cZ:List bH->List bH->Bool
 |[],m=>!m.isEmpty
 |_::_,[]=>af
 |a::l,b::m=>if a=b then cZ l m else a.lt b
theorem CV:∀ (l m),kQ l m=ah->lexLt (bD l) (bD m)=cZ l m
 |[],[],_=>rfl
 | [],b::m,_=>by
   change lexLt _ _=_;rfl
 | a::l,[],_=>by
   change lexLt _ _=_;rfl
 | a::l,b::m,h=>by
   have h':(a.sV b&&kQ l m)=ah:=h;rw[aF]at h';have e1:bD (a::l)=1::(a.code++bD l):=by simp[bD]
   have e2:bD (b::m)=1::(b.code++bD m):=by simp[bD]
   rw[e1,e2,gx,if_pos rfl];unfold cZ;by_cases c:a=b
   .rw[if_pos c,c,MF];show CV l m h'.2
   .rw[if_neg c];show bH.app _ _ h'.1 c
noncomputable def pJ (h:aT) (v:ay):bH->zm
 |.i n=>∃ t,v=.int n t
 |.s x=>∃ t,v=.str x t
inductive kg (h:aT):List ay->List bH->zm
 |nil:kg h [] []
 |cons {v:ay}{d:bH}{vs:List ay}{l:List bH}:pJ h v d->kg h vs l->kg h (v::vs) (d::l)
def uU (L:List<|List bH) (h:aT) (v:ay) (ns:List Int):zm:=∃ a vs n l,v=.ref a /\ IsTup h a vs.toArray /\ kg h vs (.i n::l) /\ .i n::l∈L /\ ns=bD (.i n::l)
theorem pJ.inj:∀ {a b},pJ h v a->pJ h v b->a=b
 |.i n,.i m,⟨t,e⟩,⟨u,f⟩=>by rw[e]at f;cases f;rfl
 |.s n,.s m,⟨t,e⟩,⟨u,f⟩=>by rw[e]at f;cases f;rfl
 |.i n,.s m,⟨t,e⟩,⟨u,f⟩=>by rw[e]at f;cases f
 |.s n,.i m,⟨t,e⟩,⟨u,f⟩=>by rw[e]at f;cases f
theorem kg.inj (p:kg h vs l) (q:kg h vs m):l=m:=by
 induction p generalizing m with
 |nil=>cases q;rfl
 |cons a _ ih=>cases q with|cons b q=>rw[a.inj b,ih q]
theorem pJ.keep (p:pJ h v d):pJ h' v d:=by
 cases d with
 |i n=>show p
 |s x=>show p
theorem kg.keep (p:kg h vs l):kg h' vs l:=by
 induction p with
 |nil=>show .nil
 |cons a _ ih=>show .cons a.keep ih
theorem MG (o):∀ a vs,IsTup h a vs->IsTup (h.push o) a vs:=λa vs ⟨u,e1,e2⟩=>#[u,aU _ e1,e2]
theorem OX (hl:h.get? l=ae (seqObj "list" xs n)) (f):∀ a vs,IsTup h a vs->IsTup (h.update l f) a vs:=λa vs ⟨u,e1,e2,e3⟩=>by
 refine#[u,?_,e2,e3];by_cases q:l=a
 .subst q;rw[hl]at e1;cases e1;injection (e2) with e4;show absurd e4 zd
 .rw[Heap.get?_update_ne _ _ _ _<|Ne.symm q];show e1
theorem dq (L):KP (uU L) where
 inj:=by
  rintro h v ns ms ⟨a,vs,n,l,rfl,⟨o,e1,_,k,e2⟩,i1,_,rfl⟩ ⟨a',yD,n',l',e,⟨o',f1,_,k',f2⟩,i2,_,rfl⟩;cases e;rw[e1]at f1;cases f1;rw[e2]at f2;injection f2 with g _;have:vs=yD:=by simpa using g
  subst this;rw[i1.inj i2]
 push:=λ⟨a,vs,n,l,e,t,i,m,c⟩ o=>#[a,vs,n,l,e,MG o _ _ t,i.keep,m,c]
 upd:=λ⟨a,vs,n,l,e,t,i,m,c⟩ _ _ _ hl f=>#[a,vs,n,l,e,OX hl f _ _ t,i.keep,m,c]

theorem UY (hu:A.units<cLine) (p:pJ s.heap v a) (q:pJ s.heap u b) (hl:a.sV b=ah) (h:Q (decide (a=b)) s):wpAny zj A (eqBool v u) Q E s:=by
 cases a with
 |i n=>
   cases b with
   |i m=>
     let#[t,rfl]:=p;let#[t',rfl]:=q;refine ZT ?_;rw[show (n==m)=decide (bH.i n=bH.i m) by by_cases e:n=m<;>simp[e]];show h
   |_=>cases hl
 |s x=>
   cases b with
   |s y=>
     let#[t,rfl]:=p;let#[t',rfl]:=q;refine Xm x t y t' prog w E Q ?_;rw[show (x==y)=decide (bH.s x=bH.s y) by by_cases e:x=y<;>simp[e]];show h
   |_=>cases hl
theorem UZ (hu:A.units<cLine) (k) (hk:k=ah->∃ n,a=.i n) (p:pJ s.heap v a) (q:pJ s.heap u b) (hl:a.sV b=ah) (h:Q (a.lt b) s):wpAny zj A (oneLt' k v u) Q E s:=by
 have gen:∀ {v u}{c},k=af->(∀ {R},R (.bool c) s->wpAny _ A (compareOp .Lt v u) R E s)->Q c s->wpAny zj A (oneLt' k v u) Q E s:=λ{v u c} z f h=>by
  rw[oneLt'_eq,z,if_neg zg];show ai<|f<|qQ h
 cases a with
 |i n=>
   cases b with
   |i m=>let#[t,rfl]:=p;let#[t',rfl]:=q;show Gc k h
   |_=>cases hl
 |s x=>
   cases b with
   |s y=>let#[t,rfl]:=p;let#[t',rfl]:=q;show gen (by cases k with|true=>let#[n,e]:=hk zc;cases e|false=>rfl) (λr=>lt_str r) h
   |_=>cases hl
theorem kg.length (p:kg h vs l):vs.length=l.length:=by
 induction p with
 |nil=>rfl
 |cons _ _ ih=>rw[bE,bE,ih]
theorem OY (hu:A.units<cLine) (p:kg s.heap vs l) (q:kg s.heap us m) (hl:kQ l m=ah) (i) (h0:i=0->∀ d r,l=d::r->∃ n,d=.i n)
 (k:∀ r,(r=(ae<|cZ l m,PUnit.unit) \/ (r=(ag,PUnit.unit) /\ cZ l m=decide (vs.length<us.length)))->R r s) :
 wpAny zj A (forIn ((vs.zip us).zipIdx i) ((ag,PUnit.unit)) λ(z) _=>(do
  let z1 <-eqBool z.1.1 z.1.2
  if (!z1)=ah then do
   let r <-oneLt' (ah&&z.2==0) z.1.1 z.1.2
   pure (ForInStep.done (ae r,PUnit.unit))
  else pure (ForInStep.yield (ag,PUnit.unit)))) R E s:=by
 induction p generalizing us m i with
 |nil=>
   refine ao<|k _<|.inr #[rfl,?_];cases q with
   |nil=>rfl
   |cons _ q=>unfold cZ;simp
 |@cons v d vs l pa p ih=>
   cases q with
   |nil=>
     show ao<|k _ (.inr #[rfl,by unfold cZ;simp])
   |@cons u e us m qa q=>
     have nT:(d.sV e&&kQ l m)=ah:=hl;rw[aF]at nT;rw[wz,WK,xZ];refine ai<|ai<|UY hu pa qa nT.1 ?_;by_cases c:d=e
     .subst c;rw[if_neg zg];refine ao<|ih q nT.2 _ (λz=>by lia) λr hr=>k r ?_;have:cZ (d::l) (d::m)=cZ l m:=by conv=>lhs;unfold cZ;rw[if_pos rfl]
      rw[this];rcases hr with hr|⟨hr,HJ⟩
      .show .inl hr
      .show .inr #[hr,by rw[HJ];simp]
     .rw[if_pos (by simp[c])];refine ai (UZ hu _ (λz=>?_) pa qa nT.1<|ao<|ao<|k _<|.inl ?_)
      .have:i=0:=by simpa using z
       show h0 this d l zc
      .have:cZ (d::l) (e::m)=d.lt e:=by conv=>lhs;unfold cZ;rw[if_neg c]
       rw[this]
theorem Lw (C:∀ l∈L,∀ m∈L,kQ l m=ah) (hU:U<cLine) (H:∀ v∈vs,∃ ns,uU L s.heap v ns) (ne:vs≠[]):Yn (uU L) prog w U s vs:=λA h' hu up=>by
 have H':∀ v∈vs,∃ ns,uU L h' v ns:=λv m=>let ⟨ns,p⟩:=H v m;#[ns,up v ns p]
 refine#[λ{Q E} h=>?_,λE=>?_]
 .have ahe:∀ (us:List ay),(∀ v∈us,∃ ns,uU L h' v ns)->∀ {Q}{E},(∀ (ws) (is),ws.length=us.length->IntsAre ws is->Q (ws.map ae) { s with heap:=h' })->wpAny zj A (us.mapM firstOfTuple') Q E { s with heap:=h' }:=by
   intro us;induction us with
   |nil=>intro _ Q E k;rw[List.mapM_nil];show ao<|k [] [] zc .nil
   |cons u us ih=>
     intro G Q E k;let#[ns,a,xs,n,l,rfl,#[o,e1,e3,c,e2],it,_,_]:=G u<|bA ..;rw[List.mapM_cons];refine ai<|?_;refine ai<|wm #[o,e1,e3] ?_;rw[if_neg zd];refine ai<|yh e1 e2<|ao ?_;cases it with
     |cons hv _=>
       let#[t,rfl]:=hv;show ai<|ih (λv m=>G v<|a8 _ m) λws is e q=>ao<|k _ _ (by simp[e])<|.cons n t q
  rw[keyKind'_eq,aaG];refine ai<|?_;rw[<-bind_pure_comp];refine ai<|ahe vs H' λus is e k=>ao ?_;rw[if_pos zg];refine ai<|qT ?_;have e1:((us.map ae).toArray.filterMap id)=us.toArray:=by simp
  rw[e1,oneTypeOnly'_eq,aaG,mapM_typeOf_ints k];cases us with
  |nil=>show absurd (yd e.symm) ne
  |cons u us=>
    erw[map_pure,pure_bind];rw[show ((u::us).map λ_=>Value.type "int").toArray[0]?=ae (Value.type "int") by simp];dsimp only;rw[if_pos zg];show ai<|ao<|ao h
 .intro x y mx my Q E' q;rw[abb]at mx my;let#[ns,hx]:=H' _ (W5 mx).2;let#[ms,hy]:=H' _ (W5 my).2
  change Q (lexLt (((vX (uU L) h').keyOf x.1).getD [])<|((vX (uU L) h').keyOf y.1).getD []) _ at q
  rw[(AH (dq L) hx),(AH (dq L) hy)]at q;let#[a,ahf,n1,l1,e1,#[o1,x1,x2,c1,x3],i1,m1,rfl]:=hx;let#[b,yI,n2,l2,e2,#[o2,y1,y2,c2,y3],i2,m2,rfl]:=hy;have lk:=C _ m1 _ m2;rw[CV _ _ lk]at q;rw[e1,e2,CU];refine ai<|yh x1 x3<|ai<|yh y1 y3 ?_;refine ai<|OY (xV hu hU) i1 i2 lk 0 (λ_ d r z=>by cases z;show#[n1,rfl]) λr hr=>?_;rcases hr with rfl|⟨rfl,e⟩
  .show ao q
  .refine ao ?_;rw[bX,bX,<-e];show q
end HT
namespace L2.DL
open HT (bH bD kQ lexLt)
noncomputable def Qg:D->Option bH
 |.int i=>ae<|.i i
 |.str x=>ae<|.s x
 |_=>ag
noncomputable def qf:bH->D
 |.i n=>.int n
 |.s x=>.str x
def ui:List D->Option (List bH)
 |[]=>ae []
 |d::l=>(Qg d).bind λa=>(ui l).map λr=>a::r
def rowOf:D->Option (List bH)
 |.tup (.int i::l)=>(ui l).map λr=>.i i::r
 |_=>ag
def rowsOf:List D->Option (List<|List bH)
 |[]=>ae []
 |d::l=>(rowOf d).bind λa=>(rowsOf l).map λr=>a::r
def kR (l:List bH):D:=.tup<|l.map qf
theorem OZ (e:Qg d=ae a):d=qf a:=by
 cases d with
 |int i=>cases e;rfl
 |str x=>cases e;rfl
 |_=>cases e
theorem oF:∀ {l}{r},ui l=ae r->l=r.map qf
 |[],_,e=>by cases e;rfl
 | d::l,r,e=>by
   unfold ui at e;cases q:Qg d with
   |none=>rw[q]at e;cases e
   |some a=>
     cases q2:ui l with
     |none=>rw[q,q2]at e;cases e
     |some t=>rw[q,q2]at e;cases e;rw[OZ q,oF q2];rfl
theorem MH (e:rowOf d=ae r):d=kR r /\ ∃ n l,r=.i n::l:=by
 unfold rowOf at e;split at e
 .ext i l;cases q:ui l with
  |none=>rw[q]at e;cases e
  |some t=>rw[q]at e;cases e;rw[oF q];show#[rfl,i,t,rfl]
 .cases e
theorem Cr:∀ {l}{rs},rowsOf l=ae rs->l=rs.map kR /\ ∀ r∈rs,∃ n l,r=.i n::l
 |[],_,e=>by cases e;show#[rfl,λr m=>nomatch m]
 | d::l,rs,e=>by
   unfold rowsOf at e;cases q:rowOf d with
   |none=>rw[q]at e;cases e
   |some a=>
     cases q2:rowsOf l with
     |none=>rw[q,q2]at e;cases e
     |some t=>
       rw[q,q2]at e;cases e;let#[h1,h2]:=MH q;let#[h3,h4]:=Cr q2;refine#[by rw[h1,h3];rfl,λr m=>?_];rcases ba.mp m with rfl|m
       .show h2
       .show h4 r m
def uj (rs:List<|List bH):List (List bH):=rs.mergeSort λa b=>!lexLt (bD b) (bD a)
theorem iF (rs):(uj rs).Perm rs:=EG rs _
theorem iC (rs):(uj rs).Pairwise (λa b=>lexLt (bD b) (bD a)=af):=(IM (le:=λa b:List bH=>!lexLt _ (bD a)) (λa b c h1 h2=>by
 cases e:lexLt _ (bD a) with
 |false=>rfl
 |true=>
   rcases HT.Cq _ _ _ e with z|z
   .rw[z]at h2;cases h2
   .rw[z]at h1;cases h1) (λa b=>by
 rw[xY,tL,tL];cases e:lexLt _ (bD a) with
 |false=>show .inl zc
 |true=>
   cases f:lexLt _ (bD b) with
   |false=>show .inr zc
   |true=>have:=HT.oD _ _ _ e f;rw[HT.jw]at this;cases this) rs).imp λ{a b} z=>by simpa using z
theorem Bb:∀ {a b:List Nat},¬ a<b->¬ b<a->a=b
 |[],[],_,_=>rfl
 |[],y::b,h,_=>absurd zg h
 |x::a,[],_,h=>absurd zg h
 | x::a,y::b,h,g=>by
   rw[List.cons_lt_cons_iff]at h g;have e:x=y:=by
    rcases Nat.lt_trichotomy x y with z|z|z
    .show absurd (.inl z) h
    .show z
    .show absurd (.inl z) g
   subst e;rw[Bb (λz=>h<|.inr #[rfl,z]) λz=>g<|.inr #[rfl,z]]
theorem Te:∀ {a b:bH},a.sV b=ah->a.lt b=af->b.lt a=af->a=b
 | .i n,.i m,_,h,g=>by
   have h':=of_decide_eq_false h;have g':=of_decide_eq_false g;rw[show n=m by lia]
 | .s x,.s y,_,h,g=>by
   have:=Bb (of_decide_eq_false h)<|of_decide_eq_false g;let#[#[a]]:=x;let#[#[b]]:=y;have z':a=b:=this;rw[z']
theorem Bc:∀ {l m},kQ l m=ah->bD l=bD m->l=m
 |[],[],_,_=>rfl
 | [],b::m,_,e=>by
   have e':([0])=1::(b.code++bD m):=by rw[show (1::(b.code++bD m))=bD (b::m) by simp[bD]];show e
   simp at e'
 | a::l,[],_,e=>by
   have e':1::(a.code++bD l)=([0]):=by rw[show (1::(a.code++bD l))=bD (a::l) by simp[bD]];show e
   simp at e'
 | a::l,b::m,h,e=>by
   have h':(a.sV b&&kQ l m)=ah:=h;rw[aF]at h';have e':a.code++bD l=b.code++bD m:=by
    have:1::(a.code++bD l)=1::(b.code++bD m):=by rw[show (1::(a.code++bD l))=bD (a::l) by simp[bD],show (1::(b.code++bD m))=bD (b::m) by simp[bD]];show e
    show(List.cons.inj this).2
   have ab:a=b:=by
    by_cases c:a=b
    .show c
    .have x1:=HT.bH.app (bD l) (bD m) h'.1 c;have x2:=HT.bH.app (bD m) (bD l) ((λh=>by cases a<;>cases b<;>first|rfl|cases h) h'.1) λz=>c z.symm;rw[e',HT.jw]at x1;rw[<-e',HT.jw]at x2;show Te h'.1 x1.symm x2.symm
   subst ab;rw[Bc h'.2<|List.append_cancel_left e']
theorem oG {α β:Type}{f}{l n:List β}(h:l.Perm n):∀ {m},n=m.map f->∃ m':List α,l=m'.map f /\ m'.Perm m:=by
 induction h with
 |nil=>intro m e;cases m with|nil=>show⟨[],rfl,.nil⟩|cons _ _=>cases e
 |cons x _ ih=>
   intro m e;cases m with
   |nil=>cases e
   |cons a m=>
     let#[e1,e2]:=List.cons.inj e;let#[m',q1,q2]:=ih e2;show#[a::m',by rw[aM,<-q1,e1],q2.cons a]
 |swap x y l=>
   intro m e;match m,e with
   |a::b::m,e=>
     let#[e1,e2]:=List.cons.inj e;let#[e2,e3]:=List.cons.inj e2;show#[b::a::m,by rw[aM,aM,<-e1,<-e2,<-e3],.swap ..]
 |trans _ _ HK HL=>
   intro m e;let#[m2,q1,q2]:=HL e;let#[m1,q3,q4]:=HK q1;show#[m1,q3,q4.trans q2]
def xm (rs:List<|List bH):Bool:=rs.all λa=>rs.all λb=>kQ a b
theorem Aq (hl:xm rs=ah) (p:a.Perm rs) (ha:a.Pairwise λa b=>lexLt (bD b) (bD a)=af):a=uj rs:=by
 refine(p.trans (iF rs).symm).eq_of_pairwise (λx y mx my h1 h2=>Bc ((λx mx y my=>dF.mp (dF.mp hl x mx) y my) x (p.mem_iff.mp mx) y<|(iF rs).mem_iff.mp my)<|HT.i4 _ _ h2 h1) ha (iC rs)

theorem CW (I:Inv X pins σ H s) (sub:Sub F H):∀ {l}{vs}{us},aE F (l.map qf) vs->Vals vs us->HT.kg s.heap us l
 |[],_,_,h,r=>by cases (h);cases r;show .nil
 | a::l,_,_,h,r=>by
   let#[v,t,rfl,h1,h2]:=h;cases r with
   | cons r1 r2=>show .cons ((λI sub h r=>by
     cases a with
     |i n=>cases (h);show r
     |s x=>cases (h);show r) I sub h1 r1)<|CW I sub h2 r2
theorem G6:∀ {rs}{vs},aE F (rs.map kR) vs->∃ ps:List (aq×List bH),vs=ps.map (λp=>V.ref p.1) /\ rs=ps.map (·.2) /\ ∀ p∈ps,Den F (kR p.2) (.ref p.1)
 |[],_,h=>#[[],h,rfl,λp m=>nomatch m]
 | r::rs,_,h=>by
   let#[v,t,rfl,h1,h2]:=h;let#[ps,e1,e2,e3]:=G6 h2;let#[a,ws,rfl,h3,h4]:=id h1;refine#[(a,r)::ps,by rw[e1];rfl,by rw[e2];rfl,λp m=>?_];rcases ba.mp m with rfl|m
   .show h1
   .show e3 p m
theorem MI:∀ {ps:List (aq×List bH)},(∀ p∈ps,Den F (kR p.2)<|.ref p.1)->aE F ((ps.map (·.2)).map kR) (ps.map λp=>V.ref p.1):=by
 intro l_;induction l_ with
 |nil=>show λ_=>rfl
 |cons p ps bV=>show λh=>.cons (h p<|bA ..)<|bV λq m=>h q<|a8 _ m

def adi (K:PySem.W.Frag) (vs:List V) (H:Hp) (Q:VK):zm:=∃ (F:Hp) (p:aq) (xs:List V) (rs:List _),vs=[.ref p] /\ Sub F H /\ cy K H p xs /\ aE F (rs.map kR) xs /\ (∀ r∈rs,∃ n l,r=.i n::l) /\ rs.length<64 /\ xm rs=ah /\
 ∀ (q) (ys),H q=ag->aE F ((uj rs).map kR) ys->Q (.ref q) (upd H q<|.lst ys)
theorem Ge (hu:X.A.units+100<cLine):pS X (.builtin "sorted") (adi X.K):=by
 intro pins s σ H xs us Q I rv h;let#[F,p,vs,rs,rfl,sub,hp,hd,hf,dR,adj,q]:=h;let#[u,rfl,ru]:=Vals.one rv;cases ru;let#[its,r1,p1,z1]:=I.list hp;let#[ps,e1,e2,e3]:=G6 hd;subst e1;have ei:its=ps.map λp=>Value.ref p.1:=by
  have:=DX (by rw[bB];show r1);rw[this,bB];rfl
 subst ei;have row:∀ p∈ps,HT.uU rs s.heap _ (bD p.2):=λp m=>by
  have mr:p.2∈rs:=by rw[e2];show a9.mpr #[p,m,rfl]
  let#[n,l,el]:=hf _ mr;let#[b,ws,eb,h3,h4]:=(e3 p m);cases eb;let#[us,r',pl,_]:=I.tuple<|.of<|sub _ _ h3;rw[el]at h4 mr;show#[p.1,us,n,l,rfl,pl,CW I sub h4 r',mr,by rw[el]]
 have HH:∀ v∈ps.map (λp=>Value.ref p.1),∃ ns,HT.uU rs s.heap v ns:=λv m=>by
  let#[r,mr,rfl]:=a9.mp m;show#[_,row r mr]
 have ln:ps.length=rs.length:=by rw[e2,aK]
 refine HT.Lv (HT.dq rs) p1.isList HH (aC _) (λne=>HT.Lw (λx mx y my=>dF.mp (dF.mp adj x mx) y my) za HH ne) (by rw[aK,ln];show dR) λout o1 o2=>?_;let#[uV,q1,q2]:=oG o1 zc;let#[k,he]:=aa8 s.heap _ out;have ord:(uV.map (·.2)).Pairwise (λa b=>lexLt (bD b) (bD a)=af):=by
  unfold HT.xl at o2;rw[q1,rX]at o2;rw[rX];show ae8 (λ{a b} ma mb r=>r _ _ (row a<|q2.mem_iff.mp ma)<|row b<|q2.mem_iff.mp mb) o2
 have ll:(uV.map λp=>V.ref p.1).length<=sizeLine:=by
  rw[aK,q2.length_eq,ln];show cj (nZ dR) zd
 refine#[.ref _,_,I.laid (λb ob q=>aa9 q) (qW _) ?_,rfl,q _ _ (I.aB.fresh<|qW _) (by rw[<-(Aq adj (by rw[e2];show q2.map _) ord)];show MI λp m=>e3 p<|q2.mem_iff.mp m)];refine#[ll,out.toList,k,?_,he];rw[q1];have:∀ l:List (aq×List bH),Vals (l.map λp=>V.ref p.1) (l.map λp=>Value.ref p.1):=λl=>by
  induction l with
  |nil=>show .nil
  |cons a l ih=>show .cons zc ih
 show this uV
def dg:List D->Option Res:=λxs=>match uf xs with
 |some r=>ae r
 | none=>match xs with
   |[.lst l]=>(rowsOf l).bind λrs=>if rs.length<64 /\ xm rs=ah then ae (.lst<|(uj rs).map kR) else ag
   |_=>ag
theorem Gf (hu:X.A.units+100<cLine):pS X (.builtin "sorted") (λvs H Q=>Yb X.K vs H Q \/ adi X.K vs H Q):=λpins s σ H xs us Q I rv h=>h.elim (Lm pins s σ H xs us Q I rv)<|Ge hu pins s σ H xs us Q I rv
end L2.DL
namespace L2

theorem G7
 (hc:X.calm=ah) (S:t9 X N src scope) (hi:PI X tg iter wi)
 (hg:∀ cl s H C fp,PG (X.comp N scope cl s H C fp) tg g) (hf:∀ cl s H C fp,PF (X.comp N scope cl s H C fp) ifs tf) (he:∀ cl s H C fp,PE (X.comp N scope cl s H C fp) elt te)
 (hN:X.N.Nodup) (xn:X.N[ii]?=ae x) (hx:Loc X.env.scope x) (HM:swapsWith (.ListComp elt [#[tg,iter,ifs,0]] scope pos) (ae<|.Name x pos') HN.line X.env=pure ah)
 (HP:X.fn x=ah \/ X.env.scope.names.lookup x=ae .local)
 (hs:∀ x,foldedSetIterable iter X.env x=pure x:=by intro _;rfl):PS X (.Assign [.Name x pos'] (.ListComp elt [#[tg,iter,ifs,0]] scope pos) HN) (Xw (He src wi g tf te)<|Xv ii):=by
 intro pins s σ H Dn I h;rw[exec_Assign_Name_used _ _ _ _ HM];refine ai<|xH<|ai ?_
 change wpAny _ X.A _ _ _ s
 refine ai<|nM (Ch (Q':=λ_ s'=>SP X pins Dn .next s') hc S hi hg hf he hs I h λD C s3 s6 H3 H5 m6 I3 hC cf Hf fin q5 {r}=>?_) (λ_ s' hq=>ao<|ao hq) λ_ _ q=>q
 change wpAny _ X.A (assign (.Name x pos') X.env<|.ref D) _ _ s6
 refine ZZ<|B6 (v:=.ref D) (fin s6.heap<|Heap.SameBut.refl ..) hN xn hx zc (λs7 I7 ⟨a,sb,ha⟩=>?_) HP;have ahg:C≠a:=λz=>by
  rcases ha with w1|w1
  .have l1:X.env.locals<s3.heap.objs.size:=I3.lt;rw[<-w1,<-z,<-hC]at l1;show kI _ l1
  .let#[v1,o1,w2,_]:=I3.cell x a w1;have l1:=bq w2;rw[<-z,<-hC]at l1;show kI _ l1
 refine#[m6,Hf.sameBut sb ahg,λh' vO=>?_];have KW:H5 C=ag:=cf;refine#[σ.set ii<|ae<|.ref D,H5,?_,q5];have ahh:X.env.locals≠C:=λz=>by have l1:=I3.lt;rw[z,<-hC]at l1;show kI _ l1
 refine I7.turned (t':=s7.toks) (it:=C) (λb o hb e=>vO.extBut b o hb e) KW (Ne.symm ahh) (.inr ?_) (λy c e z=>?_) λp hp z=>?_
 .rw[<-hC];show I3.sz
 .let#[v1,o1,w2,_]:=I3.cell y c e;have l1:=bq w2;rw[z,<-hC]at l1;show kI _ l1
 .have l1:=bq (I3.pin p hp).1;rw[z,<-hC]at l1;show kI _ l1
end L2
namespace L2.DL

theorem MJ (i) (bo) (hc:X.calm=ah) (S:t9 X N src scope) (hi:yH X T Z tg iter mi)
 (hg:∀ T cl s H C fp,sF (X.comp N scope cl s H C fp) T tg g) (hf:∀ T cl s H C fp,PF (X.comp N scope cl s H C fp) ifs<|wX T #[E0,Z.cl] tf) (he:∀ T cl s H C fp,PD (X.comp N scope cl s H C fp) T #[E0,Z.cl] elt te)
 (hN:X.N.Nodup) (xn:X.N[i]?=ae x:=by rfl) (hx:Loc X.env.scope x:=by first|show Or.inl zc|show Or.inr zc) (HM:swapsWith (.ListComp elt [#[tg,iter,ifs,0]] scope pos) (ae<|.Name x pos') HN.line X.env=pure ah:=by rfl)
 (HP:X.fn x=ah \/ X.env.scope.names.lookup x=ae .local:=by first|show .inl zc|show .inr zc|assumption)
 (hs:∀ x,foldedSetIterable iter X.env x=pure x:=by intro _;rfl):nU X T Z (.Assign [.Name x pos'] (.ListComp elt [#[tg,iter,ifs,0]] scope pos) HN) (fI (fO bo src mi g tf te)<|fg i):=by
 refine PS.imp (G7 (g:=Hi g) (tf:=Hj _ tf) (te:=Hl _ te) hc S hi (λcl s H C fp pins s' σ' H' v u Q I rv ⟨T,q⟩=>hg T cl s H C fp pins s' σ' H' v u Q I rv q)
  (λcl s H C fp pins s' σ' H' Q I ⟨T,q⟩=>hf T cl s H C fp pins s' σ' H' Q I q) (λcl s H C fp pins s' σ' H' Q I ⟨T,q⟩=>he T cl s H C fp pins s' σ' H' Q I q) hN xn hx HM HP hs) λD σ H=>bK λF r env bx R h=>(Mv #[F,r,env,bx,R,End.bJ h λw bx1 F1 r1 v H1 g1 R1 d1 h1=>h1 F1 r1 _ H1 (.refl F1 r1)<|R1.set d1 i])
noncomputable def b9:aD->Bool
 |.Starred _ _=>af
 |_=>ah
def qh:List aD->Bool
 |[]=>ah
 |e::es=>b9 e&&qh es
theorem fE (h:b9 e=ah) (es) (env):starEach (e::es) env=(af,eval e env)::starEach es env:=by
 cases e<;>first|rfl|cases h
theorem jx:∀ {es},qh es=ah->(backTo pos<|starEach es env).any (·.1)=af
 |[],_=>rfl
 | e::es,h=>by
   have h':(b9 e&&qh es)=ah:=h;rw[aF]at h';rw[fE h'.1];change (af||(backTo pos _).any _)=af;rw[jx h'.2];rfl
theorem iy (h:qh (e::es)=ah):b9 e=ah /\ qh es=ah:=by
 have h':(b9 e&&qh es)=ah:=h
 rwa [aF]at h'
theorem lF (h:b9 e=ah) (es) (env):assignEach (e::es) env=(af,assign e env)::assignEach es env:=by
 cases e<;>first|rfl|cases h
theorem mP:∀ {es},qh es=ah->(assignEach es env).length=es.length /\ (assignEach es env).findIdx? (·.1)=ag
 |[],_=>#[rfl,rfl]
 | e::es,h=>by
   let#[h1,h2]:=iy h;let#[a,b]:=mP h2;rw[lF h1];show#[by rw[bE,bE,a],by rw[List.findIdx?_cons,b];rfl]

theorem oH (ha:PD X T Z e ma) (hr:rC X T Z es m) (hn:b9 e=ah:=by rfl):rC X T Z (e::es) (fe ma m):=(λha hr hs=>PA.imp (gU ha hr hs) λσ H Q ⟨F,r,env,bx,R,h⟩=>(#[F,r,env,bx,R,End.bind h λw bx1 F1 r1 v H1 g1 R1 d1 h1=>(#[F1,r1,env,bx1,R1,End.bind h1 λl bx2 F2 r2 vs H2 g2 R2 d2 h2=>(h2 F2 r2 _ H2 (.refl F2 r2) R2 #[v,vs,rfl,g2.den d1,d2])])])) ha hr<|fE hn es X.env
theorem U1 {id} (bo) (hc:pS X (.builtin id) q) (hk:rF q g) (hg:Gl X x) (hm:X.mg x=ag) (hv:bootBuiltins x=ae (.builtin id)) (ha:rC X T Z (e::es) m)
 (eK:qh (e::es)=ah:=by rfl) (hn:x ≠ "__name__":=by decide) (d6:(x==("__debug__"))=af:=by decide):PD X T Z (.Call (.Name x p) (e::es) [] pos) (dN bo g m):=
 (λbo hc hk hg hm hv ha hn d6 he nS=>PE.imp (lu hc hg hm hv ha hn d6 he nS)<|Mr hk) bo hc hk hg hm hv ha hn d6 (fE (iy eK).1 es X.env) (jx (iy eK).2)
theorem Tf {id} (bo) (hc:pS X (.type id) q) (hk:rF q g) (hg:Gl X x) (hm:X.mg x=ag) (hv:bootBuiltins x=ae (.type id)) (ha:rC X T Z (e::es) m)
 (eK:qh (e::es)=ah:=by rfl) (hn:x ≠ "__name__":=by decide) (d6:(x==("__debug__"))=af:=by decide):PD X T Z (.Call (.Name x p) (e::es) [] pos) (dN bo g m):=
 (λbo hc hk hg hm hv ha hn d6 he nS=>PE.imp (J8 hc hg hm hv ha hn d6 he nS)<|Mr hk) bo hc hk hg hm hv ha hn d6 (fE (iy eK).1 es X.env) (jx (iy eK).2)
theorem U2 (h:uS X.prog X.w X.K X.mg X.base Z.cl k x ps fn) (hr:eS k' X.A) (hk:k<=k') (hg:Gl X x) (hx:Passes (vP X.prog X.w) X Z.E) (ha:rC X T Z (e::es) m)
 (eK:qh (e::es)=ah:=by rfl) (hn:ps.length=nn:=by rfl) (d6:(x==("__debug__"))=af:=by decide):PD X T Z (.Call (.Name x p) (e::es) [] pos) (fq fn nn m):=
 Td h hr hk hg hx ha d6 (fE (iy eK).1 es X.env) (jx (iy eK).2) hn
open PySem.W
section
variable {st:dW}
noncomputable def d9:aA:=λ_ _=>.bad
theorem fT:nU X T Z st d9:=λ_ _ _ _ _ _ h=>by
 let#[_,_,_,_,_,h]:=h;show h.elim
end


noncomputable def xo:D->V
 |.az=>.az
 |.bl b=>.bl b
 |.int i=>.int i
 |.str x=>.str x
 |_=>.ty ""
noncomputable def nY:D->Bool
 |.az=>ah
 |.bl _=>ah
 |.int _=>ah
 |.str _=>ah
 |_=>af
def Qh (a b:D):Bool:=uH (xo a)<|xo b
theorem Be (f:nY d=ah) (h:Den F d v):v=xo d /\ vK v=ah:=by
 cases d with
 |az=>cases (h);show#[rfl,rfl]
 |bl b=>cases (h);show#[rfl,rfl]
 |int i=>cases (h);show#[rfl,rfl]
 |str x=>cases (h);show#[rfl,rfl]
 |_=>cases f
theorem o9:∀ {l}{vs},l.all nY=ah->aE F l vs->vs=l.map xo /\ vs.all vK=ah
 |[],_,_,h=>by cases (h);show#[rfl,rfl]
 | d::l,_,f,h=>by
   let#[v,r,e,h1,h2]:=h;subst e;rw[vp,aF]at f;let#[e1,f1]:=Be f.1 h1;let#[e2,f2]:=o9 f.2 h2;subst e1;subst e2;show#[rfl,by rw[vp,f1,f2];rfl]
def nG (x:D) (l:List D):Bool:=l.any λy=>Qh y x
theorem G8 (x) (l):KH (xo x) (l.map xo)=nG x l:=by
 unfold KH nG;rw[IP];rfl
def Qi (neg:Bool):D->D->Option Res:=λx y=>match y with
 |.lst l=>if nY x=ah /\ l.all nY=ah then ae (.old<|.bl (if neg then !nG x l else nG x l)) else ag
 |.tup l=>if nY x=ah /\ l.all nY=ah then ae (.old<|.bl (if neg then !nG x l else nG x l)) else ag
 |_=>ag
theorem adk {K} (neg):pE (KI K neg) (Qi neg):=by
 intro F H x y v w Q s sub hx hy e k;unfold Qi at e;have fx:∀ {d},nY d=ah->pU F H d v->Den F d v:=λ{d} f h=>by
  cases d with
  |az=>show h
  |bl b=>show h
  |int i=>show h
  |str z=>show h
  |_=>cases f
 cases y with
 |lst l=>
   simp only at e;split at e
   .ext f;cases e;let#[a,vs,rfl,h1,h2]:=hy;let#[e1,f1]:=Be f.1<|fx f.1 hx;let#[e2,f2]:=o9 f.2 h2;subst e1;subst e2;refine#[a,_,rfl,.inl<|cy.of h1,f1,f2,?_];rw[G8];show k _ _ #[rfl,rfl]
   .cases e
 |tup l=>
   simp only at e;split at e
   .ext f;cases e;let#[a,vs,rfl,h1,h2]:=hy;let#[e1,f1]:=Be f.1<|fx f.1 hx;let#[e2,f2]:=o9 f.2 h2;subst e1;subst e2;refine#[a,_,rfl,.inr<|dH.of<|sub _ _ h1,f1,f2,?_];rw[G8];show k _ _ #[rfl,rfl]
   .cases e
 |_=>cases e
def adl (neg:Bool):R2:=λx y H Q=>∃ F dx dy,Sub F H /\ pU F H dx x /\ pU F H dy y /\ nD dx=ah /\ nD dy=ah /\ ∃ l,(dy=.lst l \/ dy=.tup l) /\ Q (.bl (if neg then !(l.any λz=>eqv z dx) else l.any λz=>eqv z dx)) H
theorem jy (dx):∀ l,((bW l).any λy=>PyData.eqv y<|toPy dx)=l.any λz=>eqv z dx
 |[]=>rfl
 | z::l=>by
   change (PyData.eqv _ _||_)=_;rw[jy dx l];rfl
def xp (neg:Bool) (x y:D) (l:List D):Option Res:=if nD x&&nD y then ae (.old<|.bl (if neg then !(l.any λz=>eqv z x) else l.any λz=>eqv z x)) else ag
def inD (neg:Bool):D->D->Option Res:=λx y=>match y with
 |.lst l=>if nY x=ah /\ l.all nY=ah then ae (.old<|.bl (if neg then !nG x l else nG x l)) else xp neg x y l
 |.tup l=>if nY x=ah /\ l.all nY=ah then ae (.old<|.bl (if neg then !nG x l else nG x l)) else xp neg x y l
 |_=>ag
theorem okIn {K} (neg):pE (λx y H Q=>KI K neg x y H Q \/ adl neg x y H Q) (inD neg):=by
 intro F H x y v w Q s sub hx hy e k;have g:∀ l,(y=.lst l \/ y=.tup l)->xp neg x y l=ae s->adl neg v w H Q:=λl hl e=>by
  unfold xp at e;split at e
  .ext c;rw[aF]at c;cases e;show#[F,x,y,sub,hx,hy,c.1,c.2,l,hl,k _ _ #[rfl,rfl]]
  .cases e
 unfold inD at e;split at e
 .ext l;split at e
  .ext f;show .inl<|adk neg F H x _ v w Q s sub hx hy (by unfold Qi;simp only;rw[if_pos f];show e) k
  .show .inr<|g l (.inl zc) e
 .ext l;split at e
  .ext f;show .inl<|adk neg F H x _ v w Q s sub hx hy (by unfold Qi;simp only;rw[if_pos f];show e) k
  .show .inr<|g l (.inr zc) e
 .cases e
noncomputable def intD:List D->Option Res:=λxs=>match xs with
 |[.int i]=>ae<|.old<|.int i
 |[.bl b]=>ae<|.old<|.int (if b then 1 else 0)
 |_=>ag
theorem ahi:rF (λxs H Q=>(∃ i,xs=[.int i] /\ Q (.int i) H) \/ ∃ k,xs=[.bl k] /\ Q (.int (if k then 1 else 0)) H) intD:=by
 intro F H xs vs Q s sub rx e k;unfold intD at e;split at e
 .cases e;let#[v,t,rfl,hv,rt]:=rx;cases (rt);cases (hv);show .inl #[_,rfl,k _ _ #[rfl,rfl]]
 .cases e;let#[v,t,rfl,hv,rt]:=rx;cases (rt);cases (hv);show .inr #[_,rfl,k _ _ #[rfl,rfl]]
 .cases e
section
variable {X:Cx}
def yS (m k:DE W):DE W:=λenv bx=>fC (m env bx) λx bx1=>match x with
 | .b n=>(match bx1[n]? with
   | some (.lst _)=>fC (k env bx1) λy bx2=>(match y,bx2[n]? with
     | .d (.int i),ae (.lst l)=>if -(2 ^ 63)<=i /\ i<2 ^ 63 then (match cR l.length i with
       |some j=>(match l[j]? with|some d=>.val (.d d) (bx2.set n<|.lst<|l.eraseIdx j)|none=>.bad)
       |none=>.bad) else .bad
     |_,_=>.bad)
   |_=>.bad)
 |_=>.bad
theorem O0 (h:tD T Z (yS ma mb) σ H Q):Hc X.K "list" acu (tD T Z ma) (yw (tD T Z mb) E6) σ H Q:=by
 let#[F,r,env,bx,R,h]:=h;refine#[F,r,env,bx,R,End.bind h λx bx1 F1 r1 v H1 g1 R1 d1 h1=>?_];cases x with
 |b n=>
   simp at h1;let#[a,rfl,ha]:=d1;let#[c,hc,kc]:=R1.eI ha;rw[hc]at h1;cases c with
   |lst l0=>
     let#[_,rJ,k0,_]:=kc;refine#[.inl #[rfl,rJ,cy.of k0],F1,r1,env,bx1,R1,End.bind h1 λy bx2 F2 r2 u H2 g2 R2 d2 h2=>?_];let#[t,et]:=g2.p;have sN:r2[n]?=ae a:=by rw[<-et,dZ (List.getElem?_eq_some_iff.mp ha).1];show ha
     let#[c2,hZ,sO]:=R2.eI sN;rw[hZ]at h2;split at h2
     .ext i l eq;cases eq;let#[hF,vs,k1,k2]:=sO;cases (d2);split at h2
      .ext hi;split at h2
       .ext j hj;split at h2
        .ext d hd;let#[y,hy,dy]:=k2.get hd;refine#[a,vs,i,j,y,rfl,rfl,k1,hi.1,hi.2,?_,hy,(h2 F2 r2 _ _ (.refl F2 r2) (R2.write sN hF #[hF,vs.eraseIdx j,fw,k2.eraseIdx j]) dy)]
         .rw[<-k2.length];show(AG hj).1
        .show h2.elim
       .show h2.elim
      .show h2.elim
     .show h2.elim
   |_=>show h1.elim
 |_=>show h1.elim
noncomputable def qi:D->Option Key
 |.int i=>ae<|.inl i
 |.str x=>ae<|.inr x
 |_=>ag
theorem jd (e:qi d=ae k) (h:Den F d v):v=kV k:=by
 cases d with
 |int i=>cases e;show h
 |str x=>cases e;show h
 |_=>cases e
noncomputable def kS (l:List<|Key×D) (k:Key):Option D:=(l.find? λkv=>decide (kv.1=k)).map (·.2)
noncomputable def HQ (l:List<|Key×D) (k:Key) (d:D):List (Key×D):=
 if (l.any λkv=>decide (kv.1=k))=ah then l.map (λkv=>if kv.1=k then (kv.1,d) else kv) else l++[(k,d)]
theorem aO.some:∀ {l}{vs},aO F l vs->kS l k=ae d->∃ v,eW vs k=ae v /\ Den F d v
 |[],_,_,e=>by cases e
 | (k',d')::l,_,⟨v,r,e,h1,h2⟩,q=>by
   subst e;by_cases c:k'=k
   .simp[kS,rW,c,]at q;cases q;show#[v,ju c,h1]
   .erw[kS,rW,c]at q;let#[u,e1,e2]:=aO.some h2 q;show#[u,(i6 c).trans e1,e2]
theorem aO.none:∀ {l}{vs},aO F l vs->kS l k=ag->eW vs k=ag
 |[],_,h,_=>by cases (h);rfl
 | (k',d')::l,_,⟨v,r,e,h1,h2⟩,q=>by
   subst e;by_cases c:k'=k
   .erw[kS,rW,c,]at q;cases q
   .erw[kS,rW,c]at q;show(i6 c).trans (aO.none h2 q)
theorem aO.any (k):∀ {l}{vs},aO F l vs->(l.any λkv=>decide (kv.1=k))=(vs.any λkv=>decide (kv.1=k))
 |[],_,h=>by cases (h);rfl
 |(k',d')::l,_,⟨v,r,e,h1,h2⟩=>by subst e;simp[tO,aO.any k h2]
theorem aO.map (hv:Den F d v):∀ {l}{vs},aO F l vs->aO F (l.map λkv=>if kv.1=k then (kv.1,d) else kv) (vs.map λkv=>if kv.1=k then (kv.1,v) else kv)
 |[],_,h=>by cases (h);show rfl
 | (k',d')::l,_,⟨u,r,e,h1,h2⟩=>by
   subst e;by_cases c:k'=k
   .simp[aM,c];show#[v,_,rfl,hv,aO.map hv h2]
   .simp[aM,c];show#[u,_,rfl,h1,aO.map hv h2]
theorem aO.app (hm:aO F m us):∀ {l}{vs},aO F l vs->aO F (l++m) (vs++us)
 |[],_,h=>by cases (h);show hm
 |(k',d')::l,_,⟨u,r,e,h1,h2⟩=>by subst e;show#[u,_,rfl,h1,aO.app hm h2]
theorem aO.put (h:aO F l vs) (hv:Den F d v):aO F (HQ l k d) (putK vs k v):=by
 unfold HQ putK;rw[aO.any k h];split
 .show aO.map hv h
 .show aO.app (show aO F [(k,d)] _ from#[v,[],rfl,hv,rfl]) h
noncomputable def sW (bx:List Bx):W->Option (List<|Key×D)
 |.d (.au l)=>ae l
 |.b n=>(match bx[n]? with|some (.au l)=>ae l|some (.fD l)=>ae l|_=>ag)
 |_=>ag
theorem CY (R:Rel T F r σ H env bx) (d:ck F r w v) (e:sW bx w=ae l):∃ a aj,v=.ref a /\ Rd H a (.dK aj) /\ aO F l aj:=by
 unfold sW at e;split at e
 .cases e;let#[a,vs,rfl,h1,h2]:=d;show#[a,vs,rfl,.inl<|R.fh _ _ h1,h2]
 .let#[a,rfl,ha]:=d;let#[c,hc,kc]:=R.eI ha;rw[hc]at e;split at e
  .ext q;cases q;cases e;let#[_,vs,h1,h2]:=kc;show#[a,vs,rfl,.inl h1,h2]
  .ext q;cases q;cases e;let#[o,vs,_,h1,h2]:=kc;show#[a,vs,rfl,.inr #[o,h1],h2]
  .cases e
 .cases e
def cG (m k:DE W):DE W:=λenv bx=>fC (m env bx) λx bx1=>fC (k env bx1) λy bx2=>match y,sW bx2 x with
 |.d d,ae l=>(match (qi d).bind (kS l) with|some u=>.val (.d u) bx2|none=>.bad)
 |_,_=>.bad
theorem CZ (h:tD T Z (cG ma mb) σ H Q):acY (tD T Z ma) (tD T Z mb) σ H Q:=by
 let#[F,r,env,bx,R,h]:=h;refine#[F,r,env,bx,R,End.bind h λx bx1 F1 r1 v H1 g1 R1 d1 h1=>#[F1,r1,env,bx1,R1,End.bind h1 λy bx2 F2 r2 u H2 g2 R2 d2 h2=>?_]];split at h2
 .ext d l q;let#[a,aj,rfl,k1,k2]:=CY R2 (g2.den d1) q;split at h2
  .ext w hw;let#[k,e1,e2]:=Option.bind_eq_some_iff.mp hw;cases jd e1 d2;let#[z,e3,e4]:=aO.some k2 e2;show#[a,z,rfl,e3▸.inl #[_,k,k1,rfl,rfl],h2 F2 r2 _ H2 (.refl F2 r2) R2 e4]
  .show h2.elim
 .show h2.elim
def kT (neg:Bool) (k m:DE W):DE W:=λenv bx=>fC (k env bx) λy bx1=>fC (m env bx1) λx bx2=>match y,sW bx2 x with
 |.d d,ae l=>(match qi d with|some k=>.val (.d<|.bl (if neg then !(kS l k).isSome else (kS l k).isSome)) bx2|none=>.bad)
 |_,_=>.bad
theorem MK (h:aO F l vs) (k):(eW vs k).isSome=(kS l k).isSome:=by
 cases q:kS l k with
 |none=>rw[aO.none h q];rfl
 |some d=>let#[v,e,_]:=aO.some h q;rw[e];rfl
theorem DZ (h:tD T Z (kT af mb ma) σ H Q):Yd (tD T Z mb) (tD T Z ma) σ H Q:=by
 let#[F,r,env,bx,R,h]:=h;refine#[F,r,env,bx,R,End.bind h λy bx1 F1 r1 u H1 g1 R1 d1 h1=>#[F1,r1,env,bx1,R1,End.bind h1 λx bx2 F2 r2 v H2 g2 R2 d2 h2=>?_]];split at h2
 .ext d l q;let#[a,aj,rfl,k1,k2]:=CY R2 d2 q;split at h2
  .ext k e1;cases jd e1 (g2.den d1);refine#[a,_,rfl,.inl #[_,k,k1,rfl,rfl],?_];rw[MK k2];show h2 F2 r2 _ H2 (.refl F2 r2) R2 zc
  .show h2.elim
 .show h2.elim
theorem ML (h:tD T Z (kT ah mb ma) σ H Q):acZ (tD T Z mb) (tD T Z ma) σ H Q:=by
 let#[F,r,env,bx,R,h]:=h;refine#[F,r,env,bx,R,End.bind h λy bx1 F1 r1 u H1 g1 R1 d1 h1=>#[F1,r1,env,bx1,R1,End.bind h1 λx bx2 F2 r2 v H2 g2 R2 d2 h2=>?_]];split at h2
 .ext d l q;let#[a,aj,rfl,k1,k2]:=CY R2 d2 q;split at h2
  .ext k e1;cases jd e1 (g2.den d1);refine#[a,_,rfl,.inl #[_,k,k1,rfl,rfl],?_];rw[MK k2];show h2 F2 r2 _ H2 (.refl F2 r2) R2 zc
  .show h2.elim
 .show h2.elim
def qj (m k v:DE W):aA:=λenv bx=>bJ (v env bx) λz bx1=>bJ (m env bx1) λx bx2=>bJ (k env bx2) λy bU=>match x,y,z with
 | .b n,.d d,.d u=>(match bU[n]?,qi d with
   |some (.au l),ae k=>if l.length<sizeLine then .nx env (bU.set n<|.au<|HQ l k u) else .bad
   |_,_=>.bad)
 |_,_,_=>.bad
theorem U3 {D}(h:tS T Z (qj ma mb mc) D σ H):ac0 (tD T Z ma) (tD T Z mb) (tD T Z mc) D σ H:=by
 let#[F,r,env,bx,R,h]:=h;refine#[F,r,env,bx,R,End.bJ h λz bx1 F1 r1 t H1 g1 R1 d1 h1=>#[F1,r1,env,bx1,R1,End.bJ h1 λx bx2 F2 r2 v H2 g2 R2 d2 h2=>#[F2,r2,env,bx2,R2,End.bJ h2 λy bU F3 r3 u H3 g3 R3 d3 h3=>?_]]];split at h3
 .let#[a,rfl,ha]:=(g3.den d2);let#[c,hc,kc]:=R3.eI ha;rw[hc]at h3;split at h3
  .ext l k e1 e2;cases e1;split at h3
   .ext hl;let#[hF,aj,k1,k2]:=kc;cases jd e2 d3;show#[a,_,rfl,.inl #[aj,k,k1,rfl,by rw[<-aO.length k2];show hl,rfl],h3 F3 r3 _ _ (.refl F3 r3)<|R3.write ha hF #[hF,_,fw,aO.put k2<|g3.den<|g2.den d1]]
   .show h3.elim
  .show h3.elim
 .show h3.elim
end
end L2.DL
namespace L2
end L2
namespace L2.DL

theorem MM (i j) (hc:X.calm=ah) (hN:X.N.Nodup) (ha:rC X T Z [a,b] ks) (hi:X.N[i]?=ae x:=by rfl) (hj:X.N[j]?=ae y:=by rfl)
 (hx:Loc X.env.scope x:=by first|show Or.inl zc|show Or.inr zc) (hy:Loc X.env.scope y:=by first|show Or.inl zc|show Or.inr zc)
 (ahj:X.fn x=ah \/ X.env.scope.names.lookup x=ae .local:=by first|show .inl zc|show .inr zc) (ahk:X.fn y=ah \/ X.env.scope.names.lookup y=ae .local:=by first|show .inl zc|show .inr zc)
 (hs:swapsWithSole [.Tuple [.Name x px,.Name y py] kt pt] (.Tuple [a,b] k2 vG) pos.line X.env=pure af:=by rfl)
 (hw:swappedStores [.Tuple [.Name x px,.Name y py] kt pt] (.Tuple [a,b] k2 vG) X.env=pure ag:=by rfl)
 (h0:(assignEach [.Tuple [.Name x px,.Name y py] kt pt] X.env).map (·.2)=[assign (.Tuple [.Name x px,.Name y py] kt pt) X.env]:=by rfl)
 (h1:(assignEach [.Name x px,.Name y py] X.env).map (·.2)=assign (.Name x px) X.env::(assignEach [.Name y py] X.env).map (·.2):=by rfl)
 (h2:(assignEach [.Name y py] X.env).map (·.2)=assign (.Name y py) X.env::(assignEach [] X.env).map (·.2):=by rfl)
 (hn:(assignEach [.Name x px,.Name y py] X.env).length=2:=by rfl) (EX:(assignEach [.Name x px,.Name y py] X.env).findIdx? (·.1)=ag:=by rfl) :
 nU X T Z (.Assign [.Tuple [.Name x px,.Name y py] kt pt] (.Tuple [a,b] k2 vG) pos) (eE i j ks):=by
 refine PS.imp (Mb (FU ha) (Ma hc (AT (CL hN hi hx ahj) (AT (CL hN hj hy ahk) GM h2) h1) hn EX) hs hw h0) λD σ H=>bK λF r env bx R h=>?_;refine#[F,r,env,bx,R,End.bJ h λws bx1 F1 r1 vs H1 g1 R1 d1 h1=>?_];split at h1
 .let#[v,t,rfl,q1,u,t2,rfl,q2,q3]:=d1;cases (q3);refine#[by change 2<=sizeLine;decide,λp hp=>?_];have gr:=R1.uN (o:=.tup [v,u]) hp;show#[p,[v,u],rfl,dH.of fw,rfl,v,[u],rfl,u,[],rfl,rfl,h1 _ r1 _ _ gr<|((R1.yF hp).set (gr.den q1) i).set (gr.den q2) j]
 .show h1.elim

def ahl (K:PySem.W.Frag) (vs:List V) (H:Hp) (Q:VK):zm:=∃ (p:aq) (bs:List Bool),vs=[.ref p] /\ H p=ae (.lst<|bs.map V.bl) /\ Q (.bl<|bs.any id) H
theorem oW (bs:List Bool):((List.range bs.length).any λi=>(bs[i]?).getD af)=bs.any id:=by
 rw[nj,kB,kB];constructor
 .rintro⟨i,m,h⟩;have hi:=List.mem_range.mp m;rw[dO hi]at h;show#[bs[i],tQ hi,h]
 .rintro⟨b,m,h⟩;let#[i,hi,e]:=List.mem_iff_getElem.mp m;show#[i,List.mem_range.mpr hi,by rw[dO hi,e];show h]
theorem Lx (hc:X.calm=ah):pS X (.builtin "any") (ahl X.K):=by
 intro pins s σ H xs us Q I rv h;let#[p,bs,rfl,hp,q]:=h;let#[u,rfl,ru]:=Vals.one rv;cases ru;let#[its,r1,p1,z1]:=I.list<|cy.of hp;have hl:=p1.isList;have hlen:bs.length=its.length:=by have:=r1.length;simpa using this
 refine call_any_walk<|Ep hl ?_
 refine#[s.heap.objs.size,[s.heap.objs.size,p],[s.heap.objs.size],its.toArray.size,_,_,λi=>(bs[i]?).getD af,rfl,Walks.list (A:=X.A.in1) (I.ok.hd hc) _ p (cw (by let#[_,e,_]:=hl;show bq e)) its.toArray,
  #[#[_,bF _ zc,rfl,rfl],hl.push _],λi v s' Q' E' hP hQ=>?_,λh' tk hk=>?_]
 .have Hm:its[i]?=ae v:=by simpa using hP
  have hi:i<bs.length:=by rw[hlen];show(List.getElem?_eq_some_iff.mp Hm).1
  let#[w,e1,e2]:=r1.get (i:=i) (x:=V.bl bs[i]) zg;rw[Hm]at e1;cases e1;cases e2;simp[dO hi]at hQ;show qQ hQ
 .have e:((List.range its.toArray.size).any λi=>(bs[i]?).getD af)=bs.any id:=by
   rw[bX,<-hlen];show oW bs
  rw[e];show#[.bl _,H,I.kept<|abI hk,rfl,q]
def Qj:List D->Option Res
 |[.lst l]=>(qI l).map λbs=>.old<|.bl<|bs.any id
 |_=>ag

def uk (neg:Bool) (m:DE W):DE W:=λenv bx=>fC (m env bx) λx bx1=>match x with
 |.d d=>.val (.d<|.bl (match d with|.az=>!neg|_=>neg)) bx1
 |_=>.bad
theorem AI (h:Den F d v):decide (v=.az)=(match d with|.az=>ah|_=>af):=by
 cases d with
 |az=>cases (h);rfl
 |bl b=>cases (h);rfl
 |int i=>cases (show v=.int i from h);rfl
 |str x=>cases (show v=.str x from h);rfl
 |tup l=>let#[a,vs,rfl,_]:=h;rfl
 |lst l=>let#[a,vs,rfl,_]:=h;rfl
 |au l=>let#[a,vs,rfl,_]:=h;rfl
end L2.DL
namespace HT
open PySem.W
abbrev Kp (h h':aT):zm:=∀ b o,h.get? b=ae o->h'.get? b=ae o
section
variable {A:kU} {s:aN} {vs:List ay}
section
variable {kf:Nat -> Int} (hh:A.handled = ag) (hl:s.heap.IsList l vs.toArray) (ahm:l ≠ I) (ahn:S ≠ I) (aho:s.heap.get? S = ag) (ahp:s.heap.get? I = ag)
include hh hl ahm ahn aho ahp
end
end
end HT
namespace L2
open PySem.W

end L2
namespace L2.DL
open PySem.W

end L2.DL
namespace HT
open PySem.W

noncomputable abbrev dist (ns:List Int):List Int:=firstMet (λi=>ns.getD i 0) ns.length
end HT
namespace L2
open PySem.W

theorem Bf:∀ {ns}{us},Vals (ns.map V.int) us->IntsAre us ns
 |[],_,.nil=>.nil
 | n::ns,_,.cons r q=>by
   let#[t,rfl]:=r;show .cons n t<|Bf q
end L2
namespace L2.DL
open PySem.W

end L2.DL
namespace HT
open PySem.W
abbrev sX (xs:Array Nat):zm:=xs.toList.Pairwise (·<·)
theorem AJ (h:sX xs) {j:Nat}(hi:xs[i]?=ae x) (hj:xs[j]?=ae y) (l:i<j):x<y:=by
 let#[a,rfl]:=List.getElem?_eq_some_iff.mp (by rw[qw];show hi);let#[b,rfl]:=List.getElem?_eq_some_iff.mp (by rw[qw];show hj);show List.pairwise_iff_getElem.mp h i j a b l
theorem Bg (h:sX xs) (j):∀ (f lo hi),hi-lo<=f->lo<=hi->hi<=xs.size->(∀ i x,i<lo->xs[i]?=ae x->x<j)->(∀ i x,hi<=i->xs[i]?=ae x->j<=x) ->
 SetTable.below.go xs j f lo hi<=xs.size /\ (∀ i x,i<SetTable.below.go xs j f lo hi->xs[i]?=ae x->x<j) /\ ∀ i x,SetTable.below.go xs j f lo hi<=i->xs[i]?=ae x->j<=x
 | 0,lo,hi,hf,hl,hh,h1,h2=>by
   have:lo=hi:=by lia
   subst this;show#[hh,h1,h2]
 | f+1,lo,hi,hf,hl,hh,h1,h2=>by
   rw[SetTable.below.go];by_cases c:lo<hi
   .rw[if_pos c];have hm:(lo+hi) / 2<xs.size:=by lia
    have em:xs[(lo+hi) / 2]?=ae xs[(lo+hi) / 2]:=by simp
    have eg:xs.getD ((lo+hi) / 2) j=xs[(lo+hi) / 2]:=by simp[hm]
    simp[eg];by_cases q:xs[(lo+hi) / 2]<j
    .simp[if_pos q];refine Bg h j f _ hi za za hh (λi x xn e=>?_) h2;by_cases z:i<(lo+hi) / 2
     .have:=AJ h e em z;lia
     .have:i=(lo+hi) / 2:=by lia
      subst this;rw[em]at e;cases e;show q
    .simp[if_neg q];refine Bg h j f lo _ za za za h1 λi x xn e=>?_;by_cases z:i=(lo+hi) / 2
     .subst z;rw[em]at e;cases e;lia
     .have:=AJ h em e za;lia
   .rw[if_neg c];have:lo=hi:=by lia
    subst this;show#[hh,h1,h2]
theorem mQ (h:sX xs) (j):SetTable.below xs j<=xs.size /\ (∀ i x,i<SetTable.below xs j->xs[i]?=ae x->x<j) /\ ∀ i x,SetTable.below xs j<=i->xs[i]?=ae x->j<=x:=
 Bg h j xs.size 0 xs.size za (dJ _) (aC _) (λi x hi=>absurd hi<|IC _) λi x hi e=>by
  have:=(Array.getElem?_eq_some_iff.mp e).1;lia
theorem Bh (h:sX xs) (e:xs[i]?=ae x):SetTable.below xs (x+1)=i+1:=by
 let#[b1,b2,b3]:=mQ h _;have h1:¬ SetTable.below xs (x+1)<=i:=λz=>by
  have:=b3 i x z e;lia
 have h2:¬ i+1<SetTable.below xs (x+1):=λz=>by
  have el:xs[i+1]?=ae xs[i+1]:=by
   simp
  have a:=b2 _ _ z el;have b:=AJ h e el<|n6 i;lia
 lia
theorem Bj (h:sX xs):SetTable.below xs 0=0:=by
 let#[b1,b2,b3]:=mQ h 0;apply Classical.byContradiction;intro z;have el:xs[0]?=ae xs[0]:=by simp
 have:=b2 0 _ za el;lia
theorem AE (xs) (p) (x:α):(SetTable.insertAt xs p x).toList=xs.toList.take p++x::xs.toList.drop p:=by
 unfold SetTable.insertAt;rw[Xa,Xb,abj,abj];simp[nO,List.singleton_append];congr 2;show IQ zg
theorem MN (h:sX xs) (hn:xs[SetTable.below xs j]?≠ae j):sX (SetTable.insertAt xs (SetTable.below xs j) j):=by
 let#[b1,b2,b3]:=mQ h j;unfold sX;rw[AE];have Ho:∀ x∈xs.toList.take (SetTable.below xs j),x<j:=λx m=>by
  let#[i,hi,e]:=aaH m;rw[wy]at hi;refine b2 i x za ?_;rw[<-qw,<-e,List.getElem_take];show dO za
 have adm:∀ x∈xs.toList.drop _,j<x:=λx m=>by
  let#[i,hi,e]:=aaH m;rw[EF]at hi;have ex:xs[SetTable.below xs j+i]?=ae x:=by
   rw[<-qw,<-e,List.getElem_drop];show dO za
  have:=b3 _ x (xT _ _) ex;have ne:x≠j:=λz=>by
   subst z;cases i with
   |zero=>show hn ex
   |succ i=>
     have lt:SetTable.below xs x<xs.size:=by
      have:=(Array.getElem?_eq_some_iff.mp ex).1;lia
     have el:xs[SetTable.below xs x]?=ae xs[SetTable.below xs x]:=by simp
     have a:=b3 _ _ (aC _) el;have b:=AJ h el ex za;lia
  lia
 rw[List.pairwise_append];refine#[h.sublist<|aax _ _,List.pairwise_cons.mpr #[adm,h.sublist<|List.drop_sublist _ _],λa ma b mb=>?_];have:=Ho a ma;rcases ba.mp mb with rfl|mb
 .show this
 .have:=adm b mb;lia
theorem Gg (n):sX (Array.range n):=by
 unfold sX;rw[Array.toList_range];show aaI
def Qk (t:SetTable) (j:Nat):zm:=t.place[SetTable.below t.place j]?≠ae j
theorem D0 (h:∀ i,t.slot j≠.live i):Qk t j:=λe=>by
 refine h (SetTable.below t.place j) ?_;unfold SetTable.slot;simp[e]
theorem Bm:∀ (f) (p) {j}{d},(∀ z,p.dummy=ae z->Qk t z)->SetTable.probe.go t ha h f p=ae (.empty j d)->Qk t j /\ ∀ z,d=ae z->Qk t z
 |0,p,j,d,_,e=>by cases e
 | f+1,p,j,d,hp,e=>by
   rw[SetTable.probe.go]at e;split at e
   .ext q;cases e;show#[D0 (λi z=>by rw[q]at z;cases z),hp]
   .ext q;refine Bm f _ (λz hz=>?_) e;have:(t.advance { p with dummy:=ae p.j }).dummy=ae p.j:=by
     unfold SetTable.advance;split<;>rfl
    rw[this]at hz;cases hz;show D0 λi z=>by rw[q]at z;cases z
   .split at e
    .cases e
    .refine Bm f _ (λz hz=>?_) e;have:(t.advance p).dummy=p.dummy:=by
      unfold SetTable.advance;split<;>rfl
     rw[this]at hz;show hp z hz
structure kC (ahq:Bool) (t:SetTable):zm where
 r:sX t.place
 l:ahq=af->t.led=ah
theorem kC.Ql (h:kC b t) (n):kC b (t.standIn n):=#[Gg n,h.l]
theorem kC.lay (h:kC b t) (es) (k) (x):kC b (layNew t es k x).2.1:=by
 unfold layNew;cases e:t.freeSlot k with
 |none=>show h.Ql _
 |some p=>
   let#[j,d]:=p;change kC b ((t.put j).1.orStandIn _);have hp:kC b (t.put j).1:=#[MN h.r<|(λe=>by
    unfold SetTable.freeSlot at e;split at e
    .ext j' d q;let#[a,c]:=Bm _ _ (by intro z hz;cases hz) q;cases d with
     |none=>cases e;show a
     |some z=>cases e;show c z zc
    .cases e) e,h.l]
   unfold SetTable.orStandIn;split
   .show hp
   .show hp.Ql _
theorem kC.plain (h:kC b t) (p):kC b { t with plain:=p }:=#[h.r,h.l]
theorem Ly (f:Nat->Option Nat):∀ l:List Nat,l.Pairwise (·<·)->(((l.filterMap λj=>(f j).map (j,·)).map (·.1))).Pairwise (·<·):=by
 intro l_;induction l_ with
 |nil=>show λ_=>.nil
 |cons j l bV=>
   intro h;let#[h1,h2]:=List.pairwise_cons.mp h;have ih:=bV h2;rw[n8];cases e:f j with
   |none=>show ih
   |some z=>
     refine List.pairwise_cons.mpr #[λa ma=>?_,ih];let#[p,mp,rfl]:=a9.mp ma;let#[i,mi,ei]:=List.mem_filterMap.mp mp;cases q:f i with
     |none=>rw[q]at ei;cases ei
     |some w=>
       rw[q]at ei;cases ei;show h1 i mi
theorem kC.ahr (h:kC b t) (es) (n):kC b (relayAll t es n).2.1:=by
 unfold relayAll;cases e:t.relaid _ n with
 |none=>show h.Ql _
 |some p=>
   let#[t',o]:=p;have ht:kC b t':=by
    unfold SetTable.relaid SetTable.laid at e;cases q:SetTable.layClean _ _ with
    |none=>rw[q]at e;cases e
    |some ow=>
      rw[q]at e;cases e;show#[Ly _ _ aaI,h.l]
   change kC b (if (coversAll o es.size&&t'.fits (o.filterMap _).size)=ah then (o.filterMap _,t',af) else (es,t.standIn es.size,ah)).2.1;split
   .show ht
   .show h.Ql _
section
variable {s:aN}
structure eX (prog:eR) (w:cQ) (b:Bool) (o:Obj) (ns:List Int) (es:Array<|Int×ay) (ep:Nat) (t:SetTable) (ms:List Int):zm where
 x:o.ExactSet
 d:o.data=.set es ep t
 el:ElemsOf (intKind prog w) es.toList
 bd:es.size<scanBound
 ft:t.fits es.size=ah
 ok:kC b t
 vs:IntsAre (es.toList.map (·.2)) ms
 pm:ms.Perm ns
def rM (prog:eR) (w:cQ) (b:Bool) (h:aT) (a:aq) (ns:List Int):zm:=∃ o es ep t ms,h.get? a=ae o /\ eX prog w b o ns es ep t ms
theorem Ar:∀ {vs}{ms},IntsAre vs ms->∀ k,k∈ms ↔ ∃ v∈vs,(intKind prog w).is k v=ah
 |_,_,.nil,k=>by simp
 | _,_,.cons n t h,k=>by
   have e:(intKind prog w).is k (.int n t)=ah ↔ k=n:=by
    constructor
    .intro z;show(intKind prog w).inj _ k n z (EA prog w n t)
    .rintro rfl;show EA prog w k t
   rw[ba,(Ar h k)];constructor
   .rintro(z|⟨v,mv,ev⟩)
    .show#[_,bA ..,e.mpr z]
    .show#[v,a8 _ mv,ev]
   .rintro⟨v,mv,ev⟩;rcases ba.mp mv with rfl|mv
    .show .inl<|e.mp ev
    .show .inr #[v,mv,ev]
theorem eX.mem (S:eX prog w b o ns es ep t ms) (k):k∈ns ↔ ∃ e∈es.toList,(intKind prog w).is k e.2=ah:=by
 rw[<-S.pm.mem_iff,Ar S.vs k];constructor
 .rintro⟨v,mv,ev⟩;let#[e,me,rfl]:=a9.mp mv;show#[e,me,ev]
 .rintro⟨e,me,ev⟩;show#[e.2,a9.mpr #[e,me,rfl],ev]
theorem eX.len (S:eX prog w b o ns es ep t ms):es.size=ns.length:=by
 rw[<-S.pm.length_eq,<-S.vs.length,aK,pB]
theorem jN:∀ {vs us},us.Perm vs->∀ {ms},IntsAre vs ms->∃ ks,IntsAre us ks /\ ks.Perm ms:=by
 intro vs us p;induction p with
 |nil=>intro ms h;show#[ms,h,.refl _]
 |cons x p ih=>
   intro ms h;cases h with
   |cons n t h=>
     let#[ks,a,c]:=ih h;show#[n::ks,.cons n t a,c.cons n]
 |swap x y l=>
   intro ms h;cases h with
   |cons n t h=>
     cases h with
     |cons m u h=>show#[_,.cons m u<|.cons n t h,.swap ..]
 |trans p q HK HL=>
   intro ms h;let#[ks,a,c]:=HL h;let#[js,a',c']:=HK a;show#[js,a',c'.trans c]
theorem oJ:∀ {vs}{ms},IntsAre vs ms->∀ (i) (t),IntsAre (vs++[.int i t]) (ms++[i])
 |_,_,.nil,i,t=>.cons i t .nil
 |_,_,.cons n u h,i,t=>.cons n u<|oJ h i t
theorem eX.anew (S:eX prog w b o ns es ep t ms) (tT) (p:es'.toList.Perm es.toList) (f:t'.fits es'.size=ah) (k:kC b t') :
 ∃ Yo,eX prog w b { o with data:=.set es' tT t' } ns es' tT t' Yo:=by
 let#[ks,a,c]:=jN (p.map _) S.vs;have z:es'.size=es.size:=by rw[<-pB,p.length_eq,pB]
 show#[ks,S.x,rfl,S.el.perm p,by rw[z];show S.bd,f,k,a,c.trans S.pm]
theorem eX.more (S:eX prog w b o ns es ep t ms) (i) (u) (tT) (hb:es.size+1<scanBound)
 (p:es'.toList.Perm<|es.toList++[((intKind prog w).hash i,.int i u)]) (f:t'.fits es'.size=ah) (k:kC b t'):∃ Yo,eX prog w b { o with data:=.set es' tT t' } (ns++[i]) es' tT t' Yo:=by
 have q:(es.toList++[((intKind prog w).hash i,Value.int i u)]).map (·.2)=es.toList.map (·.2)++[Value.int i u]:=by simp
 let#[ks,a,c]:=jN (us:=es'.toList.map _) (q▸p.map _)<|oJ S.vs i u;have z:es'.size=es.size+1:=by rw[<-pB,p.length_eq,cW,pB,aaA]
 show#[ks,S.x,rfl,(S.el.push (EA prog w i u) zc).perm p,by rw[z];show hb,f,k,a,c.trans<|S.pm.append_right _]
theorem stored (ho:s.heap.get? a=ae o) (hd:o.data=.set es ep t):(s.heap.update a<|Obj.putSet es' t').get? a=ae { o with data:=.set es' (ep+1) t' }:=by
 have z:=rZ (Obj.putSet es' t') ho (by rw[putSet_of es' t' hd];rfl)
 rwa [putSet_of es' t' hd]at z
theorem Cs {g:Bool->Sem Unit}(hg:∀ (z) (s1) (Q),Q () s1->wpAny zj A (g z) Q E s1)
 (ho:s.heap.get? a=ae o) (hd:o.data=.set es ep t) (S:eX prog w b { o with data:=.set eY (ep+1) t1 } ns eY (ep+1) t1 ms)
 (h:∀ h',Heap.SameBut a s.heap h'->rM prog w b h' a ns->R (ae ah) { s with heap:=h' }) :
 wpAny zj A (do
  storeSet a eY t1
  if (!wd&&t1.tooFull)=ah then do
   g (relayAll t1 eY<|SetTable.grown eY.size).2.2
   storeSet a (relayAll t1 eY<|SetTable.grown eY.size).1 (relayAll t1 eY<|SetTable.grown eY.size).2.1
   pure (ae ah)
  else pure (ae ah)) R E s:=by
 have g1:=stored (es':=eY) (t':=t1) ho hd;have sb:=Heap.SameBut.update s.heap a<|Obj.putSet eY t1;refine ai<|aaf ho hd ?_<|Ww S.bd;by_cases c:(!wd&&t1.tooFull)=ah
 .rw[if_pos c];have kp:=relayAll_perm t1 eY<|SetTable.grown eY.size;let#[ahs,S2]:=S.anew _ kp (relayAll_fits t1 eY _)<|S.ok.ahr eY _;have z2:(relayAll t1 eY<|SetTable.grown eY.size).1.size=eY.size:=by rw[<-pB,kp.length_eq,pB]
  show ai<|hg _ _ _<|ai<|aaf g1 zc (ao<|h _ (sb.trans<|Heap.SameBut.update _ a _) #[_,_,_,_,ahs,(stored (s:={ s with heap:=s.heap.update a _ }) (es':=(relayAll t1 eY _).1) (t':=(relayAll t1 eY _).2.1) g1 zc),S2])<|Ww (by rw[z2];show S.bd)
 .rw[if_neg c];show ao<|h _ sb #[_,_,_,_,ms,g1,S]
end

theorem add_int (S:rM prog w b s.heap a ns) (hb:ns.length+1<scanBound)
 (h:∀ z h',Heap.SameBut a s.heap h'->rM prog w b h' a (ph ns i)->Q z { s with heap:=h' }):wpAny zj A (setAddHashed a (.int i u)<|(intKind prog w).hash i) Q E s:=by
 have sc:(Value.int i u).scannable=ah:=rfl;let#[o,es,ep,t,ms,ho,S]:=S;have hl:=S.len;refine ku ?_;refine ai<|wo ho S.d S.ft ?_;change wpAny _ _ (if byScan _ es=ah then _ else _) _ _ _;rw[if_pos<|byScan_of sc S.bd S.el];refine ai<|ai<|qT<|ai<|wpAny_setScan_of (EA prog w i u) ho S.d S.ft S.el ?_;have gw:∀ (z) (s1) (Q1),Q1 () s1->wpAny zj A (match z with|true=>rule "set.scan.the-table-gave-way"|false=>pure ()) Q1 E s1:=by
  intro z s1 Q1 q;cases z
  .show ao q
  .show qT q
 cases fd:List.findIdx? _ es.toList with
 |some j=>
   let#[hj,pj,_]:=List.findIdx?_eq_some_iff_getElem.mp fd;have e1:ph ns i=ns:=by
    unfold ph;rw[if_pos (kB.mpr #[i,((S.mem i).mpr #[_,tQ hj,pj]),by simp])]
   refine ao<|ao ?_;have:=h af s.heap (Heap.SameBut.refl a s.heap) (by rw[e1];show#[o,es,ep,t,ms,ho,S]);show this
 |none=>
   have e1:ph ns i=ns++[i]:=by
    unfold ph;rw[if_neg];intro z;let#[k,mk,ek]:=kB.mp z;have:k=i:=by simpa using ek
    show(λz=>by
    let#[e,me,pe]:=(S.mem i).mp z;have:=List.findIdx?_eq_none_iff.mp fd e me;rw[pe]at this;cases this) (this▸mk)
   have lp:=layNew_perm t es ((intKind prog w).hash i)<|.int i u;have lf:=layNew_fits t es ((intKind prog w).hash i)<|.int i u;have lk:=S.ok.lay es ((intKind prog w).hash i)<|.int i u;rw[Xb]at lp;dsimp only;generalize layNew t es _ _=L at lp lf lk ⊢;let#[eY,t1,wd,gv]:=L;dsimp only at lp lf lk ⊢;have fin:∀ h',Heap.SameBut a s.heap h'->rM prog w b h' a _->wpAny zj A _ Q E { s with heap:=h' }:=λh' sb si=>ao<|h ah h' sb (by rw[e1];show si);refine ai<|gw _ _ _ ?_;by_cases cp:t1.plain=ah
   .rw[if_pos cp,hashByValue_scannable 8 sc];refine ai<|ao ?_;have tk:kC b (if plainKind (.int i u)=ah then t1 else { t1 with plain:=af }):=by
     split
     .show lk
     .show lk.plain _
    have tf:(if plainKind (.int i u)=ah then t1 else { t1 with plain:=af }).fits eY.size=ah:=by
     split
     .show lf
     .show ae9 lf
    let#[aht,S1]:=S.more i u (ep+1) za lp tf tk;show Cs gw ho S.d S1 λh' sb si=>fin h' sb si
   .rw[if_neg cp];refine ai<|ao ?_;let#[aht,S1]:=S.more i u (ep+1) za lp lf lk;change wpAny _ _ (do
     storeSet a eY t1
     if (!wd&&t1.tooFull)=ah then _ else _) _ _ _
    show Cs gw ho S.d S1 λh' sb si=>fin h' sb si
section

noncomputable abbrev cS (w:cQ):Bool:=w.params.followText "set-order"
abbrev sY (w:cQ):Obj:={ cls:=.type "set",dict:=ag,data:=.set #[] 0 (.fresh 0 0<|!cS w) }
theorem O3 (e:h.get? a=ae (sY w)):rM prog w (cS w) h a []:=
 #[_,#[],0,_,[],e,#[#[rfl,rfl,rfl],rfl,λe m=>by simp at m,by decide,rfl,#[.nil,λz=>by rw[z];rfl],.nil,.refl _]]
theorem rM.at (S:rM prog w b h a ns) (k:∀ o,h.get? a=ae o->h'.get? a=ae o):rM prog w b h' a ns:=by
 let#[o,es,ep,t,ms,ho,S]:=S;show#[o,es,ep,t,ms,k o ho,S]
theorem O4 (a) (h:Q (.ref s.heap.objs.size) { s with heap:=s.heap.push (sY w) }):codeAny zj A (.call (.builtin "set.__new__") #[[.type "set",a],[]]) (wants Q E) s:=by
 refine aag<|ai<|xQ (F.newCall_set_1 a)<|ao #[Iv F.plain_set_new _,vj F.entry_set_new ?_];have ss:=aah;unfold Builtin.«set.__new__» Builtin.Frozenset.newClass
 wp_walk
 refine vn<|ao<|ai<|Z7<|ao<|ao h
variable {St:Nat -> aN -> zm}
theorem Lz (W:WalksS prog w A.in1 I fp wr G n P St) (ha:a∉fp) (val) (hv:∀ i v,P i v->∃ t,v=.int (val i) t) (hb:n+1<scanBound) :
 ∀ (k i) (s),n=i+k->St i s->rM prog w b s.heap a (firstMet val i)->(∀ s',Moved (a::wr) G s s'->rM prog w b s'.heap a (firstMet val n)->R (.ok<|.ret .none) s') ->
  codeAny zj A (.builtin "set.update.loop" #[[.ref a,.ref I],[]]) R s:=by
 have aw:=λz=>ha<|W.sub _ z;have su:∀ c∈wr,c∈a::wr:=λc z=>.tail _ z;intro k;induction k with
 |zero=>
   intro i s hk st S fin;obtain rfl:n=i:=hk;refine vj abL<|ai<|W.done s _ _ st λs' mv=>ao<|fin s' (mv.mono su)<|S.at λo e=>mv.heap a o aw e
 |succ k ih=>
   intro i s hk st S fin;refine vj abL ?_;rw[Xo abM _];refine ai<|W.item i s _ _ za st λv s1 pv ahu mv=>?_;let#[t,rfl]:=hv i v pv;change wpAny _ A.in1 _ _ _ s1;refine ai<|ku ?_;unfold setAdd;refine ku<|ai<|(intKind prog w).pyHash (EA _ _ _ _)<|add_int (S.at λo e=>mv.heap a o aw e) (by have:=firstMet_length_le val i;lia) λz h' sb S2=>?_;have ne:∀ c,c∈fp->c≠a:=λc m z=>ha<|z▸m;show ao #[Iv abM _,ih (i+1) _ za (W.frame _ s1 _ _ ahu (qW _) λc hc o e=>(sb.2 c<|ne c hc).trans e) (by rw[firstMet_succ];show S2) λs2 m2 S4=>fin s2 (Moved.trans W.gtrans ((mv.mono su).then_heap (qW _) λc o hc e=>((sb.2 c λz=>hc<|z▸.head _).trans e)) m2) S4]
end

def Qm (prog:eR) (w:cQ) (s:aN) (ns:List Int) (s':aN):zm:=∃ h' tk,s'={ s with heap:=h',toks:=tk } /\ rM prog w (cS w) h' s.heap.objs.size (dist ns) /\ Kp s.heap h'
theorem O5 {I:aq}{St}(W:WalksS prog w A.in1 (s.heap.objs.size+1) [s.heap.objs.size+1,t] [s.heap.objs.size+1] (λa b=>b=a) ns.length P St) (lt:t<s.heap.objs.size)
 (hv:∀ i v,P i v->∃ u,v=.int (ns.getD i 0) u) (hb:ns.length+1<scanBound) (st:St 0 { s with heap:=(s.heap.push<|sY w).push it }) (hf:it.isFreed=af) (h:∀ s',Qm prog w s ns s'->F (.ok<|.ret .none) s') :
 codeAny zj A (.builtin "set.update.loop" #[[.ref s.heap.objs.size,.ref<|s.heap.objs.size+1],[]]) F { s with heap:=(s.heap.push<|sY w).push it }:=by
 refine Lz W ?_ _ hv hb ns.length 0 _ za st (O3<|aU _<|bF _ zc) λs' mv S=>?_
 .erw[ba,nP,or_false,not_or];show#[cw<|n6 _,wq lt]
 .let#[h',g',d',Yp,XH]:=s';have e1:=mv.gens;have e2:=mv.drawn;have e3:XH=s.os:=mv.os;subst e1 e2 e3;refine h _ #[h',Yp,rfl,S,λc o e=>mv.heap c o ?_<|aU _<|aU _ e];have cl:=bq e;simp[ba,nP,or_false,not_or];show#[cw cl,cw<|tK cl]
theorem MO (hh:A.handled=ag) (ht:s.heap.IsList t vs.toArray) (hi:IntsAre vs ns) (hb:ns.length+1<scanBound) (h:∀ s',Qm prog w s ns s'->F (.done<|.ret .none) s') :
 wpAny zj A (Builtin.«set.__init__» #[[.ref s.heap.objs.size,.ref t],[]]) F E { s with heap:=s.heap.push (sY w) }:=by
 have gS:(s.heap.push _).get? s.heap.objs.size=ae (sY w):=bF _ zc;have adn:(s.heap.push<|sY w).IsList t vs.toArray:=ht.at λo e=>aU _ e;let#[ot,Hv,_]:=id ht;have lt:=bq Hv;let#[#[oc,od,ajN,sr],g1,g2,n,g3]:=id adn;simp at g2 g3;subst g2;subst g3;have y1:=PySem.F.sub_list_set;have y2:=PySem.F.sub_list_frozenset;have y3:(Value.type "list"==Value.type "dict")=af:=rfl;have sz:(s.heap.push<|sY w).objs.size=s.heap.objs.size+1:=vB ..;unfold Builtin.«set.__init__» noKeywords Builtin.Frozenset.updateFrom;generalize hP:pyIter=P
 wp_walk
 subst hP;refine Ep adn<|ai<|Wo ?_;rw[sz];have gI:((s.heap.push<|sY w).push { cls:=.type "list_iterator",data:=.fields (List.toArray [.ref t,.int 0 0]) }).get? (s.heap.objs.size+1)=ae { cls:=.type "list_iterator",data:=.fields (List.toArray [.ref t,.int 0 0]) }:=by
  rw[<-sz];show bF _ zc
 have W:=(Walks.list (prog:=prog) (w:=w) (A:=A.in1) hh (s.heap.objs.size+1) t (cw<|tK lt) vs.toArray).toS;rw[show vs.toArray.size=ns.length by simpa using hi.length]at W;show O5 (I:=0) W lt (λi v e=>IntsAre.int_at hi i v (by simpa using e)) hb #[#[_,gI,rfl,rfl],ht.at λo e=>aU _<|aU _ e] zc λs' e=>ao<|ao<|h s' e
theorem MP (hh:A.handled=ag) (ht:s.heap.IsList t vs.toArray) (hi:IntsAre vs ns) (hb:ns.length+1<scanBound) (h:∀ s',Qm prog w s ns s'->Q (.ref s.heap.objs.size) s') :
 wpAny zj A (call (.type "set") [.ref t]) Q E s:=by
 let#[c,tl,f1]:=PySem.F.called_set.mro;have f2:=PySem.F.called_set.made;have f3:=PySem.F.called_set.sub;have f4:=PySem.F.called_set.notType;have f5:=PySem.F.called_set.canCreate;have f6:=PySem.F.typeCall_set_1<|.ref t;refine Q7<|aag<|ao #[abJ _ (by decide +kernel),vj PySem.F.entry_type_call ?_];rw[Around.under_plain (weight_type_call_type "set" [.ref t] []) rfl]
 repeat (any_goals (first|assumption|wp_step))
 refine xK (O4 (.ref t) (E:=E) (Q:=λo s1=>o=.ref s.heap.objs.size /\ s1={ s with heap:=s.heap.push (sY w) }) #[rfl,rfl]) λr s1 hr=>?_;match r,hr with
 |.error e,hr=>show hr
 |.ok (.ret o),⟨e1,e2⟩=>
   subst e1;subst e2;have ty:Shared.TypeIs { s with heap:=s.heap.push (sY w) } (.ref s.heap.objs.size) "set":=#[_,(bF _ zc),rfl];have k1:=PySem.F.called_set.init.lookup;have k2:=PySem.F.called_set.init.bind<|.ref s.heap.objs.size
   repeat (any_goals (first|assumption|wp_step))
   refine xK (codeAny_call_builtin (R:=wants (λr s2=>r=.none /\ Qm prog w s ns s2) E) PySem.F.called_set.init.plain PySem.F.entry_set_init<|check_set_init_1 ty<|MO (by simp[hh]) ht hi hb λs' e=>#[rfl,e]) λr2 s2 HJ=>?_
   .match r2,HJ with
    |.error e,HJ=>show HJ
    |.ok (.ret r),⟨e3,e4⟩=>
      subst e3
      repeat (any_goals (first|assumption|wp_step))
      show h _ e4
theorem gV:Slot "set_iterator" "__next__" "set_iterator.__next__":=.of (owner:="set_iterator") (n:="__next__") (by kernel_rfl) (rfl) (rfl) (rfl) (.inl<|rfl) (by kernel_rfl)
theorem AK:Slot "set_iterator" "__iter__" "set_iterator.__iter__":=.of (owner:="set_iterator") (n:="__iter__") (by kernel_rfl) (rfl) (rfl) (rfl) (.inl<|rfl) (by kernel_rfl)
theorem mC:entryFor table "set_iterator.__next__"=ae Builtin.«set_iterator.__next__»:=entryFor_of_tree (by kernel_rfl)
theorem Ct:entryFor table "set_iterator.__iter__"=ae Builtin.«dict_keyiterator.__iter__»:=aai (id':="dict_keyiterator.__iter__") (by kernel_rfl) zc (by decide +kernel) (by kernel_rfl)
theorem Gh:entryFor table "set.__iter__"=ae Builtin.«frozenset.__iter__»:=aai (id':="frozenset.__iter__") (by kernel_rfl) zc (by decide +kernel) (by kernel_rfl)
theorem mD (a):argsOk "set_iterator.__next__" #[[a],[]]:=by
 kernel_rfl
theorem Cu (a):argsOk "set_iterator.__iter__" #[[a],[]]:=by
 kernel_rfl

theorem mR {α:Type}:∀ (l:List α) {i} (h),(l[i]::l.eraseIdx i).Perm l
 |[],i,h=>absurd h<|IC _
 |x::l,0,h=>.refl _
 |x::l,i+1,h=>(List.Perm.swap ..).trans<|(mR l _).cons x
theorem G9 (nx):∀ (f k) (l) (out:Array α),l.length=f->(pickOrder.go nx f k l out).toList.Perm (out.toList++l)
 | 0,k,l,out,h=>by
   have:=yd h;subst this;simp[pickOrder.go]
 | f+1,k,l,out,h=>by
   have lt:nx k % l.length<l.length:=aar _ za;rw[pickOrder.go,dO lt];refine(G9 nx f _ _ _ (by rw[WL lt];lia)).trans ?_;rw[Xb,nO];show afa _<|mR l lt
theorem Cv (nx) (xs:Array α):(pickOrder nx xs).toList.Perm xs.toList:=by
 have:=G9 nx xs.size 0 xs.toList #[]<|rfl;simpa[pickOrder] using this
def k7 (w:cQ) (t:SetTable):Nat->Nat
 |0=>0
 |i+1=>if cS w then 0 else t.place.getD i 0+1
def given (w:cQ) (a:aq) (ep:Nat) (es:Array<|Int×ay):List ay:=(if cS w then (pickOrder (w.params.setOrder a ep) es).toList else es.toList).map (·.2)
theorem mS (a) (ep) (es):(given w a ep es).Perm (es.toList.map (·.2)):=by
 unfold given;split
 .show(Cv _ es).map _
 .show .refl _
theorem Gi (h:cS w=ah) (t) (i):k7 w t i=0:=by
 cases i with
 |zero=>rfl
 |succ i=>show if_pos h
theorem Tg (ho:s.heap.get? a=ae o) (S:eX prog w (cS w) o ns es ep t ms) (hp:cS w=af->(!t.plain&&decide (es.size>1))=af) (hx:(given w a ep es)[i]?=ae x) (h:Q (ae (x,k7 w t<|i+1)) s):wpAny zj A (setNext a (k7 w t i) i ep) Q E s:=by
 have il:i<es.size:=by
  have:=(List.getElem?_eq_some_iff.mp hx).1;rw[(mS a ep es).length_eq,aK,pB]at this;show this
 refine ai<|wo ho S.d S.ft ?_;refine ai<|ai<|vn<|ao ?_;cases bt:cS w with
 |true=>
   change wpAny _ _ (if cS w=ah then _ else _) _ _ _;rw[if_pos bt];rw[if_neg zg];unfold setWalk setsByText;refine ai<|ai<|wo ho S.d S.ft<|ai<|ai<|vn<|ao ?_;change wpAny _ _ (if cS w=ah then _ else _) _ _ _;rw[if_pos bt];refine ai<|vn<|ao<|ao ?_;unfold given at hx;rw[if_pos bt,kJ,qw]at hx;rw[Gi bt]at h ⊢;change Q (((pickOrder (w.params.setOrder a ep) es)[i]?).map λe=>(e.2,0)) s;cases q:(pickOrder _ es)[i]? with
   |none=>rw[q]at hx;cases hx
   |some e=>
     rw[q]at hx;cases hx;show h
 |false=>
   change wpAny _ _ (if cS w=ah then _ else _) _ _ _;rw[if_neg (by rw[bt];decide)];unfold given at hx;rw[if_neg (by rw[bt];decide),kJ,qw]at hx;have pl:t.place.size=es.size:=by
    have:=S.ft;simp[SetTable.fits,aF,beq_iff_eq]at this;show this.1
   have pi:t.place[i]?=ae (t.place.getD i 0):=by
    have:i<t.place.size:=by lia
    simp[this]
   have sl:SetTable.below t.place (k7 w t i)=i:=by
    cases i with
    |zero=>show Bj S.ok.r
    |succ i=>
      have e1:k7 w t (i+1)=t.place.getD i 0+1:=if_neg (by rw[bt];decide);rw[e1];refine Bh S.ok.r ?_;have:i<t.place.size:=by lia
      simp[this]
   split
   .ext c;show absurd ((c).symm.trans<|hp bt) zd
   .refine ai ?_;change wpAny _ _ (if (!t.led&&!es.isEmpty)=ah then _ else _) _ _ _;rw[if_neg (by rw[(S.ok.l bt)];simp)];refine ao<|ao ?_;rw[sl];cases q:es[i]? with
    |none=>rw[q]at hx;cases hx
    |some e=>
      rw[q]at hx;cases hx;rw[pi];have e1:k7 w t (i+1)=t.place.getD i 0+1:=if_neg (by rw[bt];decide);rw[e1]at h;show h
section
variable {s:aN}
def uW (h:aT) (it a:aq) (k i n ep:Nat):zm:=∃ o u0 u1 u2 u3,h.get? it=ae o /\ o.cls=.type "set_iterator" /\ o.data=.fields (List.toArray [.int (k) u0,.int (i) u1,.ref a,.int (n) u2,.int (ep) u3])
theorem uW.typeIs (h:uW s.heap it a k i n ep):s.TypeIs (.ref it) "set_iterator":=by
 let#[o,_,_,_,_,e,c,_]:=h;show#[o,e,c]
theorem uW.at (x:uW h it a k i n ep) (e:∀ o,h.get? it=ae o->h'.get? it=ae o):uW h' it a k i n ep:=by
 let#[o,u0,u1,u2,u3,ho,r]:=x;show#[o,u0,u1,u2,u3,e o ho,r]
theorem O6 (kP:a≠it) (hi:uW s.heap it a (k7 w t i) i es.size ep) (ho:s.heap.get? a=ae o) (S:eX prog w (cS w) o ns es ep t ms)
 (hp:cS w=af->(!t.plain&&decide (es.size>1))=af) (hx:(given w a ep es)[i]?=ae x)
 (hQ:∀ h',uW h' it a (k7 w t<|i+1) (i+1) es.size ep->Heap.SameBut it s.heap h'->Q (ae x) { s with heap:=h' }):wpAny zj A (pyNext<|.ref it) Q E s:=by
 have ty:=hi.typeIs;let#[oi,u0,u1,u2,u3,qk,hc,hd]:=hi;unfold pyNext;refine ai<|uE<|qU ty gV<|hG gV ty mC ?_<|mD _;unfold Builtin.«set_iterator.__next__»;refine ai<|ao ?_;refine ai<|vo qk hd ?_;change wpAny _ _ _ _ _ s;refine ai<|EB ho S.d S.ft ?_;rw[if_neg zg];change wpAny _ _ (setNext a ((k7 w t i):Int).toNat ((i):Int).toNat ((ep):Int).toNat >>= λr=>_) _ _ s;rw[nv,nv,nv];refine ai<|Tg ho S hp hx ?_;change wpAny _ _ _ _ _ s;have h1:(s.heap.update it _).get? it=ae (Obj.mapFields (·.setIfInBounds 0 (rawInt ((k7 w t (i+1):Nat):Int))) oi):=rZ _ qk<|wC<|pP hd _;have d1:(Obj.mapFields (·.setIfInBounds 0 (rawInt ((k7 w t (i+1):Nat):Int))) oi).data=.fields (List.toArray [rawInt ((k7 w t (i+1):Nat):Int),.int (i:Nat) u1,.ref a,.int (es.size:Nat) u2,.int (ep:Nat) u3]):=by rw[pP hd];simp
 refine ai<|qV qk hd zg ?_;change wpAny _ _ _ _ _ _;refine ai<|qV h1 d1 zg ?_;refine ao #[_,rfl,ao<|hQ _ #[_,0,0,u2,u3,rZ _ h1<|wC<|pP d1 _,((ym ..).trans<|(ym ..).trans hc),?_]<|(Heap.SameBut.update ..).trans<|Heap.SameBut.update ..]
 .rw[pP d1];simp[rawInt]
end

theorem Th (ho:s.heap.get? a=ae o) (S:eX prog w (cS w) o ns es ep t ms) (hp:cS w=af->(!t.plain&&decide (es.size>1))=af) (h:Q ag s):wpAny zj A (setNext a (k7 w t es.size) es.size ep) Q E s:=by
 refine ai<|wo ho S.d S.ft ?_;refine ai<|ai<|vn<|ao ?_;cases bt:cS w with
 |true=>
   change wpAny _ _ (if cS w=ah then _ else _) _ _ _;rw[if_pos bt,if_neg zg];refine ai<|ai<|wo ho S.d S.ft<|ai<|ai<|vn<|ao ?_;change wpAny _ _ (if cS w=ah then _ else _) _ _ _;rw[if_pos bt];refine ai<|vn<|ao<|ao ?_;have e1:(pickOrder (w.params.setOrder a ep) es)[es.size]?=ag:=by
    have:=(Cv (w.params.setOrder a ep) es).length_eq;rw[pB,pB]at this;rw[<-this];simp
   change Q (((pickOrder (w.params.setOrder a ep) es)[es.size]?).map λe=>(e.2,k7 w t es.size)) s;rw[e1];show h
 |false=>
   change wpAny _ _ (if cS w=ah then _ else _) _ _ _;rw[if_neg (by rw[bt];decide)];have pl:t.place.size=es.size:=by
    have:=S.ft;simp[SetTable.fits,aF,beq_iff_eq]at this;show this.1
   have sl:SetTable.below t.place (k7 w t es.size)=es.size:=by
    cases q:es.size with
    |zero=>show Bj S.ok.r
    |succ i=>
      have e1:k7 w t (i+1)=t.place.getD i 0+1:=if_neg (by rw[bt];decide);rw[e1];refine Bh S.ok.r ?_;have:i<t.place.size:=by lia
      simp[this]
   split
   .ext c;show absurd ((c).symm.trans<|hp bt) zd
   .refine ai ?_;change wpAny _ _ (if (!t.led&&!es.isEmpty)=ah then _ else _) _ _ _;rw[if_neg (by rw[(S.ok.l bt)];simp)];refine ao<|ao ?_;rw[sl];have e2:es[es.size]?=ag:=by simp
    rw[e2];show h
theorem Ti (hh:A.handled=ag) (hi:uW s.heap it a (k7 w t es.size) es.size es.size ep) (ho:s.heap.get? a=ae o) (S:eX prog w (cS w) o ns es ep t ms)
 (hp:cS w=af->(!t.plain&&decide (es.size>1))=af) (hQ:∀ h',Heap.ExtBut it s.heap h'->Q ag { s with heap:=h' }):wpAny zj A (pyNext<|.ref it) Q E s:=by
 have ty:=hi.typeIs;let#[oi,u0,u1,u2,u3,qk,hc,hd]:=hi;refine ai<|uE<|qU ty gV<|hG gV ty mC ?_<|mD _;refine ai<|ao ?_;refine ai<|vo qk hd ?_;refine ai<|EB ho S.d S.ft ?_;rw[if_neg zg];change wpAny _ _ _ _ _ s;refine ai (Th ho S hp (ai (qV qk hd zg (ai (by
  refine ai<|eG (ai<|xQ (by first|rfl|(rfl))<|eG ?_ (by size_fits)) (by size_fits);refine ai<|Ew ?_;rw[hh];refine ai<|ao<|Ex ?_;show ai (xS #[_,bF _ zc,rfl] Ez<|ao<|hQ _<|((Heap.SameBut.update ..).extBut.push _).push _))))))
theorem MQ (hh:A.handled=ag) (kP:a≠it) (S:eX prog w (cS w) o ns es ep t ms) (hp:cS w=af->(!t.plain&&decide (es.size>1))=af) :
 Walks prog w A it [it,a] [it] es.size (λi v=>(given w a ep es)[i]?=ae v) (λi h=>uW h it a (k7 w t i) i es.size ep /\ h.get? a=ae o) where
 sub:=λb hb=>by simp at hb;simp[hb]
 frame:=λ_ _ _ st hk=>#[st.1.at λo e=>hk it zg o e,hk a zg _ st.2]
 item:=λi s Q E hi st hQ=>by
  obtain⟨x,hx⟩:∃ x,(given w a ep es)[i]?=ae x:=by
   have:i<(given w a ep es).length:=by rw[(mS a ep es).length_eq,aK,pB];show hi
   show#[_,dO this]
  show O6 kP st.1 st.2 S hp hx λh' i' sb=>(hQ x h' s.toks hx #[i',(sb.2 a kP).trans st.2] λb o hb e=>(sb.2 b λz=>hb (by simp[z])).trans e)
 done:=λs Q E st hQ=>Ti hh st.1 st.2 S hp λh' he=>hQ h' s.toks λb o hb e=>he b o (λz=>hb (by simp[z])) e
 self:=λi s Q E st hQ=>by
  have ty:=st.1.typeIs;show xR ty AK<|hG AK ty Ct (ao #[_,rfl, "set_iterator",_,ty,gV.lookup,hQ])<|Cu _
section
variable {s:aN}
theorem MR (hn:n≠0) (h:∀ i,i<n->Q i { s with drawn:=s.drawn.bump src }):wpAny zj A (choose src n) Q E s:=λ_ _ _=>#[hn,h _<|aar _<|Nat.pos_of_ne_zero hn]
theorem D3:∀ (n) (l) (s) {Q:List α->aN->zm},l.length=n->(∀ l' d,l'.Perm l->Q l' { s with drawn:=d })->wpAny zj A (drawOrder n l) Q E s
 | 0,l,s,Q,hl,h=>by
   have:=yd hl;subst this;show ao<|h [] s.drawn<|.refl _
 |n+1,[],s,Q,hl,h=>by cases hl
 | n+1,x::l,s,Q,hl,h=>by
   refine ai<|MR zg λi hi=>?_;rw[dO hi];show ai<|D3 n _ _ (by rw[WL hi];lia) λl' d p=>ao<|h _ d<|(p.cons _).trans<|mR _ hi
def uX (h:aT) (it a q:aq) (i n ep:Nat):zm:=∃ o u1 u2 u3,h.get? it=ae o /\ o.cls=.type "set_iterator" /\ o.data=.fields (List.toArray [.ref q,.int (i) u1,.ref a,.int (n) u2,.int (ep) u3])
theorem uX.typeIs (h:uX s.heap it a q i n ep):s.TypeIs (.ref it) "set_iterator":=by
 let#[o,_,_,_,e,c,_]:=h;show#[o,e,c]
theorem uX.at (x:uX h it a q i n ep) (e:∀ o,h.get? it=ae o->h'.get? it=ae o):uX h' it a q i n ep:=by
 let#[o,u1,u2,u3,ho,r]:=x;show#[o,u1,u2,u3,e o ho,r]
theorem O7 {ps:List Nat}(hi:uX s.heap it a q i es.size ep) (ho:s.heap.get? a=ae o) (S:eX prog w (cS w) o ns es ep t ms)
 (hq:s.heap.get? q=ae oq) (yT:oq.data=.seq (ps.map λ(k:Nat)=>rawInt<|k).toArray c) (hj:ps[i]?=ae j) (hx:es[j]?=ae e)
 (hQ:∀ h',uX h' it a q (i+1) es.size ep->Heap.SameBut it s.heap h'->Q (ae e.2) { s with heap:=h' }):wpAny zj A (pyNext<|.ref it) Q E s:=by
 have ty:=hi.typeIs;let#[oi,u1,u2,u3,qk,hc,hd]:=hi;unfold pyNext;refine ai<|uE<|qU ty gV<|hG gV ty mC ?_<|mD _;unfold Builtin.«set_iterator.__next__»;refine ai<|ao ?_;refine ai<|vo qk hd ?_;change wpAny _ _ _ _ _ s;refine ai<|EB ho S.d S.ft ?_;rw[if_neg zg];change wpAny _ _ _ _ _ s;unfold seqItems?;refine ai<|ai<|xI hq ?_;rw[yT];refine ao ?_;dsimp only;rw[nv,show (ps.map λ(k:Nat)=>rawInt<|k).toArray[i]?=ae (rawInt<|j) by simp[hj]];change wpAny _ _ (setNextDrawn a ((j):Int).toNat ((ep):Int).toNat >>= λr=>_) _ _ s;rw[nv,nv];unfold setNextDrawn;refine ai<|ai<|wo ho S.d S.ft ?_;dsimp only;rw[if_neg zg,hx];refine ao ?_;change wpAny _ _ _ _ _ _;refine ai<|qV qk hd zg ?_;refine ao #[_,rfl,ao<|hQ _ #[_,0,u2,u3,rZ _ qk<|wC<|pP hd _,(ym ..).trans hc,?_]<|Heap.SameBut.update ..];rw[pP hd];simp[rawInt]
end

theorem Tj {ps:List Nat}(hh:A.handled=ag) (hi:uX s.heap it a q i es.size ep) (ho:s.heap.get? a=ae o) (S:eX prog w (cS w) o ns es ep t ms)
 (hq:s.heap.get? q=ae oq) (yT:oq.data=.seq (ps.map λ(k:Nat)=>rawInt<|k).toArray c) (hj:ps[i]?=ag)
 (hQ:∀ h',Heap.ExtBut it s.heap h'->Q ag { s with heap:=h' }):wpAny zj A (pyNext<|.ref it) Q E s:=by
 have ty:=hi.typeIs;let#[oi,u1,u2,u3,qk,hc,hd]:=hi;refine ai<|uE<|qU ty gV<|hG gV ty mC ?_<|mD _;refine ai<|ao ?_;refine ai<|vo qk hd ?_;refine ai<|EB ho S.d S.ft ?_;rw[if_neg zg];refine ai<|ai<|xI hq ?_;rw[yT];refine ao ?_;dsimp only;rw[nv,show (ps.map λ(k:Nat)=>rawInt<|k).toArray[i]?=ag by simpa using hj];have d1:(Obj.mapFields (·.setIfInBounds 0 (rawInt 0)) oi).data=.fields (List.toArray [rawInt 0,.int (i) u1,.ref a,.int (es.size) u2,.int (ep) u3]):=by rw[pP hd];simp
 refine ai (qV qk hd zg (ai (qV (rZ _ qk<|wC<|pP hd _) d1 zg (ai (by
  refine ai<|eG (ai<|xQ (by first|rfl|(simp;rfl))<|eG ?_ (by size_fits)) (by size_fits);refine ai<|Ew ?_;rw[hh];refine ai<|ao<|Ex ?_;show ai (xS #[_,bF _ zc,rfl] Ez<|ao<|hQ _<|(((Heap.SameBut.update ..).trans<|Heap.SameBut.update ..).extBut.push _).push _))))))
noncomputable def Yq (es:Array<|Int×ay) (ps:List Nat):List ay:=ps.map λk=>(es.getD k (0,.none)).2
theorem O8 (hh:A.handled=ag) (kP:a≠it) (ahv:q≠it) (S:eX prog w (cS w) o ns es ep t ms)
 (yT:oq.data=.seq (ps.map λ(k:Nat)=>rawInt<|k).toArray c) (p:ps.Perm<|List.range es.size) :
 Walks prog w A it [it,a,q] [it] es.size (λi v=>(Yq es ps)[i]?=ae v) (λi h=>uX h it a q i es.size ep /\ h.get? a=ae o /\ h.get? q=ae oq) where
 sub:=λb hb=>by simp at hb;simp[hb]
 frame:=λ_ _ _ st hk=>#[st.1.at λo e=>hk it zg o e,hk a zg _ st.2.1,hk q zg _ st.2.2]
 item:=λi s Q E hi st hQ=>by
  have il:i<ps.length:=by rw[p.length_eq,yb];show hi
  have ej:=dO il;have jl:=List.mem_range.mp<|p.mem_iff.mp<|tQ il;have ex:es[ps[i]]?=ae es[ps[i]]:=by simp
  refine O7 st.1 st.2.1 S st.2.2 yT ej ex λh' i' sb=>?_;refine hQ _ h' s.toks ?_ #[i',(sb.2 a kP).trans st.2.1,(sb.2 q ahv).trans st.2.2] λb o hb e=>(sb.2 b λz=>hb (by simp[z])).trans e;unfold Yq;rw[kJ,ej];simp[jl]
 done:=λs Q E st hQ=>Tj hh st.1 st.2.1 S st.2.2 yT (qZ (by rw[p.length_eq,yb];show aC _)) λh' he=>hQ h' s.toks λb o hb e=>he b o (λz=>hb (by simp[z])) e
 self:=λi s Q E st hQ=>by
  have ty:=st.1.typeIs;refine xR ty AK<|hG AK ty Ct ?_<|Cu _;change wpAny _ _ _ _ _ s;show ao #[_,rfl, "set_iterator",_,ty,gV.lookup,hQ]

def ahw (prog:eR) (w:cQ) (A:kU) (s:aN) (a:aq) (es:Array<|Int×ay) (it:aq) (s':aN):zm:=
 ∃ (h':aT) (d:Drawn) (us:List ay) (fp:List aq) (St:Nat->aT->zm),s'={ s with heap:=h',drawn:=d } /\ Kp s.heap h' /\ us.Perm (es.toList.map (·.2)) /\ it∈fp /\ (∀ b∈fp,b<h'.objs.size /\ (b=a \/ s.heap.objs.size<=b)) /\ s.heap.objs.size<=it /\
  Walks prog w A it fp [it] es.size (λi v=>us[i]?=ae v) St /\ St 0 h' /\ ∀ i h,St i h->∃ o,h.get? it=ae o /\ o.cls=.type "set_iterator"
theorem MS (hh:A.handled=ag) (ho:s.heap.get? a=ae o) (S:eX prog w (cS w) o ns es ep t ms)
 (h:∀ it s',ahw prog w A s a es it s'->Q (.ref it) s'):wpAny zj A (pyIter<|.ref a) Q E s:=by
 have ty:s.TypeIs (.ref a) "set":=#[o,ho,S.x.1];have al:=bq ho;refine xR ty abA<|hG abA ty Gh ?_<|F.args_set_iter_1 _;unfold Builtin.«frozenset.__iter__»;change wpAny _ _ (Builtin.Frozenset.sizeOf a >>= λn=>_) _ _ s;unfold Builtin.Frozenset.sizeOf;refine ai<|ai<|EB ho S.d S.ft<|ao ?_;unfold setDrawn setsByText;refine ai<|ai<|wo ho S.d S.ft<|ai<|ai<|vn<|ao<|ao ?_;dsimp only;split
 .ext c;have c':(!cS w&&(!t.plain&&decide _))=ah:=c;refine ai<|D3 es.size _ s zg λps d p=>?_;unfold newTuple;refine ai (eG ?_ ?_)
  .have HI:(s.heap.push { cls:=.type "tuple",data:=.seq (ps.map λ(k:Nat)=>rawInt<|k).toArray }).get? a=ae o:=aU _ ho;refine ai<|aaj HI S.d S.ft ?_;unfold newFields;refine ai<|eG (ao ?_) (by size_fits);have sz:(s.heap.push { cls:=.type "tuple",data:=.seq (ps.map λ(k:Nat)=>rawInt<|k).toArray }).objs.size=s.heap.objs.size+1:=vB ..;have gi:=bF (s.heap.push { cls:=.type "tuple",data:=.seq (ps.map λ(k:Nat)=>rawInt<|k).toArray }) (o:={ cls:=.type "set_iterator",data:=.fields [.ref s.heap.objs.size,rawInt 0,.ref a,rawInt (es.size:Nat),rawInt (ep:Nat)].toArray }) zc;refine#[_,rfl, "set_iterator",_,#[_,gi,rfl],gV.lookup,h _ _ #[_,d,Yq es ps,[_,a,s.heap.objs.size],_,rfl,λb o e=>aU _<|aU _ e,(λp=>by
    refine(p.map _).trans (afb ?_);apply vq;intro i;by_cases h:i<es.size
    .simp[h]
    .simp[h]) p,.head _,λb hb=>?_,by rw[sz];show qW _,
    O8 hh (by rw[sz];show cw (tK al)) (by rw[sz];show cw (n6 _)) S zc p,#[#[_,_,_,_,gi,rfl,rfl],aU _ HI,aU _<|bF _ zc],λi h st=>?_]]
   .rw[vB,sz];erw[ba,nP,or_false]at hb;rcases hb with rfl|rfl|rfl
    .rw[sz];show#[n6 _,.inr<|qW _]
    .show#[tK<|tK al,.inl zc]
    .show#[tK<|n6 _,.inr<|aC _]
   .let#[#[oi,_,_,_,e,cl,_],_]:=st;show#[oi,e,cl]
  .change (ps.map λ(k:Nat)=>rawInt (k:Int)).toArray.size<=sizeLine;have l1:=p.length_eq;have bd:=S.bd;have sb:scanBound=4096:=rfl;have sl:sizeLine=16777216:=bj;rw[yb]at l1;simp;lia
 .ext c;refine ai<|ao ?_;change wpAny _ _ (setEpoch a >>= λe=>_) _ _ s;refine ai<|aaj ho S.d S.ft ?_;change wpAny _ _ (newFields "set_iterator" [rawInt 0,rawInt 0,.ref a,rawInt (es.size:Nat),rawInt (ep:Nat)] >>= λv=>ret v) _ _ s;unfold newFields;refine ai<|eG (ao ?_) (by size_fits);have gi:(s.heap.push { cls:=.type "set_iterator",data:=.fields [rawInt 0,rawInt 0,.ref a,rawInt (es.size:Nat),rawInt (ep:Nat)].toArray }).get? s.heap.objs.size=ae { cls:=.type "set_iterator",data:=.fields [rawInt 0,rawInt 0,.ref a,rawInt (es.size:Nat),rawInt (ep:Nat)].toArray }:=bF _ zc;refine#[_,rfl, "set_iterator",_,#[_,gi,rfl],gV.lookup,h _ _ #[_,s.drawn,given w a ep es,[s.heap.objs.size,a],_,rfl,λb o e=>aU _ e,mS a ep es,.head _,λb hb=>?_,aC _,MQ hh (cw al) S (λz=>by
   have c':¬ ((!cS w&&(!t.plain&&decide (es.size>1)))=ah):=c;rw[z]at c';simpa using c'),#[#[_,_,_,_,_,gi,rfl,rfl],aU _ ho],λi h st=>?_]]
  .rw[vB];simp at hb;rcases hb with rfl|rfl
   .show#[n6 _,.inr<|aC _]
   .show#[tK al,.inl zc]
  .let#[#[oi,_,_,_,_,e,cl,_],_]:=st;show#[oi,e,cl]

noncomputable abbrev Yr:Obj:={ cls:=.type "list",data:=.seq ([]).toArray }
def ahx (s:aN) (s':aN):zm:=∃ h' d tk,s'={ s with heap:=h',drawn:=d,toks:=tk } /\ Kp s.heap h' /\ s.heap.objs.size<=h'.objs.size
theorem D4 (hh:A.handled=ag) (ho:s.heap.get? a=ae o) (S:eX prog w (cS w) o ns es ep t ms)
 (h:∀ us s',us.Perm (es.toList.map (·.2))->ahx s s'->Q us s'):wpAny zj A (collect<|.ref a) Q E s:=by
 have nl:s.heap.objs.size≠a:=wq<|bq ho;have ty:∀ h' d tk,Kp s.heap h'->Shared.TypeIs { s with heap:=h',drawn:=d,toks:=tk } (.ref a) "set":=λh' d tk k=>#[o,k a o ho,S.x.1];unfold collect;refine ai (Wo (vj F.entry_proto_collect (by
  rw[Xo F.plain_proto_collect _];refine ai<|eG (ao #[Iv abB _,vj F.entry_list_iadd ?_]) (by size_fits);rw[Xo abB _];change wpAny _ A.in1 (Builtin.List.listExtendWith _ _ _) _ _ _;unfold Builtin.List.listExtendWith;have k1:Kp s.heap (s.heap.push Yr):=λb ob e=>aU _ e;refine ai<|wm (ty _ s.drawn s.toks k1) ?_;rw[if_neg (by simp[Builtin.List.listSameRef,nl])];refine ai<|MS (by simp[hh]) (k1 a o ho) S λit s1 bg=>?_;let#[h1,d,us,fp,St,rfl,k2,pu,mi,fl,ge,W,ahy,cl]:=bg;have k3:Kp s.heap h1:=λb ob e=>k2 b ob<|k1 b ob e;have g0:h1.get? s.heap.objs.size=ae Yr:=k2 _ _<|bF _ zc;refine ai<|ku ?_;unfold Builtin.List.listLengthHint;refine ai<|Z9 (ty h1 d s.toks k3) F.slot_set_len.lookup ?_;dsimp only;rw[show splitId "set.__len__"=ae ("set","__len__") by decide +kernel];dsimp only;refine ai<|xS (b:=ah) (ty h1 d s.toks k3) aah ?_;rw[if_neg zd];rw[if_pos (by decide +kernel)];refine ai<|wm (ty h1 d s.toks k3) ?_;refine ao ?_;rw[if_pos (by decide +kernel)];refine ai<|qT<|ai ?_;change wpAny _ A.in1 _ _ _ _;have g1:=rZ (Obj.mapSeq (·.push Value.none)) g0 zc;have z1:(s.heap.push Yr).objs.size=s.heap.objs.size+1:=vB ..;have ahz:s.heap.objs.size+1<=it:=z1▸ge;have nf:s.heap.objs.size∉fp:=λm=>by
   rcases(fl _ m).2 with z|z
   .show nl z
   .show absurd (z1▸z:s.heap.objs.size+1<=s.heap.objs.size)<|Nat.not_succ_le_self _
  have ado:∀ b ob,b≠s.heap.objs.size->h1.get? b=ae ob->((h1.update s.heap.objs.size (Obj.mapSeq (·.push Value.none))).update s.heap.objs.size (Obj.mapSeq (·.pop))).get? b=ae ob:=λb ob ne e=>(I0 _ _<|Ne.symm ne).trans<|(I0 _ _<|Ne.symm ne).trans e;refine ai (aak g0 zc (aak g1 zc (ao #[Iv F.plain_extend_loop _,codeAny_extend_loopS W.toS (Ww S.bd) _ nf _ es.size 0 _ _ _ zc (dJ _) (W.frame 0 h1 _ ahy λb hb ob e=>ado b ob (λz=>nf<|z▸hb) e) (rZ (Obj.mapSeq (·.pop)) g1 zc) (ItemsOf.nil _) λs2 acc c mv gs adp=>?_])));refine ai<|xI gs<|ao<|h _ s2 ?_ ?_
  .have e1:acc.toList=us:=by
    have ul:us.length=es.size:=by rw[pu.length_eq,aK,pB]
    apply vq;intro j;by_cases hj:j<acc.size
    .have ej:acc[j]?=ae acc[j]:=by simp
     rw[qw,ej];show(adp.2 j _ ej).symm
    .have h3:=adp.1;rw[qw,EM za,qZ za]
   rw[e1];show pu
  .let#[h2,gg,dd,tk,os]:=s2;have q1:gg=s.gens:=mv.gens;have q2:dd=d:=mv.drawn;have q3:os=s.os:=mv.os;subst q1 q2 q3;refine#[h2,dd,tk,rfl,λb ob e=>?_,nZ<|bq gs];have bl:=bq e;refine mv.heap b ob ?_<|ado b ob (cw bl)<|k3 b ob e;simp[ba,nP,or_false,not_or];show#[cw bl,cw<|kA (tK bl) ahz])))

theorem Gj (hh:A.handled=ag) (S:rM prog w (cS w) s.heap a ns) (dR:ns.length<64)
 (h:∀ (l) (out) (ks) (c) (h') (d) (tk),IntsAre out.toList ks->ks.Perm ns->ks.Pairwise (·<=·)->Kp s.heap h'->s.heap.objs.size<=l->h'.get? l=ae (seqObj "list" out c)->Q (.ref l) { s with heap:=h',drawn:=d,toks:=tk }) :
 wpAny zj A (call (.builtin "sorted") [.ref a]) Q E s:=by
 let#[o,es,ep,t,ms,ho,S]:=S;refine Xd WU WV WW (WX _) ?_;refine ai<|ao<|ai<|D4 (by simp[hh]) ho S λus s1 pu wk=>?_;let#[h1,d,tk,rfl,k1,le]:=wk;let#[ks,ik,pk]:=jN pu S.vs;have ul:us.length<64:=by
  rw[ik.length,pk.length_eq,S.pm.length_eq];show dR
 refine ai<|Es ?_;have gl:(h1.push _).get? h1.objs.size=ae (seqObj "list" us.toArray 0):=bF _ zc;refine ai<|ku<|hG WY #[_,gl,rfl] WZ (aa7 gl ik ul λout js a1 a2 a3=>#[_,rfl,ao #[_,rfl,?_]])<|W2 _;let#[c,gc]:=sortedHeap_at gl;show h _ out js c _ d tk a1 ((a2.trans pk).trans S.pm) a3 (λb ob e=>by
  have bl:=bq<|k1 b ob e;rw[sortedHeap_old (cw bl) (by rw[vB];show tK bl)];show aU _ (k1 b ob e)) le gc
end HT
namespace L2
open PySem.W

def adq (K:Frag) (vs:List V) (H:Hp) (Q:VK):zm:=∃ (p:aq) (ns:List Int),vs=[.ref p] /\ cy K H p (ns.map V.int) /\ ns.length<4000 /\ (HT.dist ns).length<64 /\ ∀ l,H l=ag->Q (.ref l) (upd H l<|.lst<|(DL.sortI<|HT.dist ns).map V.int)
theorem Gk (hc:X.calm=ah) (hg:Gl X "sorted") (hm:X.mg "sorted"=ag) (xb:Gl X "set") (xc:X.mg "set"=ag) (ha:PA X [a] t) (hs:DL.b9 a=ah) :
 PE X (.Call (.Name "sorted" p) [.Call (.Name "set" p2) [a] [] Ys] [] pos) (Hb (adq X.K) t):=by
 intro pins s σ H Q I h;have st:=DL.fE (e:=.Call (.Name "set" p2) [a] [] Ys) zc [] X.env;refine tJ<|iI I hg hm (by decide +kernel:bootBuiltins "sorted"=ae (.builtin "sorted")) ?_ zd<|rfl;refine callWith_builtin1 ?_ st<|DL.jx zc;rw[st];change wpAny _ _ (spliced ((af,eval (.Call (.Name "set" p2) [a] [] Ys) X.env)::backTo pos (starEach [] X.env))) _ _ s;refine wF<|tJ<|iI I xb xc (rfl:bootBuiltins "set"=ae (.type "set")) ?_ zd<|rfl;refine callWith_type1 (qB (ha Ys pins s σ H _ I h) λus s1 vs H1 I1 r1 q1=>?_) (DL.fE hs [] X.env) zc;let#[l,ns,rfl,hl,hn,dR,q]:=q1;let#[u,rfl,ru]:=Vals.one r1;cases ru;have sb:scanBound=4096:=rfl;have hd:=I1.ok.hd hc;let#[its,r',pl,hz]:=I1.list hl;show HT.MP hd pl.isList (Bf r') za (λs' e=>by
  let#[h',tk,rfl,S,hk]:=e;have lz:s1.heap.objs.size<=h'.objs.size:=by
   let#[o,_,_,_,_,ho,_]:=S;show nZ<|bq ho
  refine wD<|HT.Gj hd S dR λL out ks c h2 d vY a1 a2 a3 k2 le gL=>?_;have e:=DL.Ao (a2.trans (DL.gk _).symm) a3<|DL.iQ _;subst e;have ll:((DL.sortI<|HT.dist ns).map V.int).length<=sizeLine:=by
   rw[aK,(DL.gk _).length_eq];show cj (nZ dR) zd
  have I2:=I1.laid (t':=vY) (o:=.lst<|(DL.sortI<|HT.dist ns).map V.int) (λb u e=>k2 b u<|hk b u e) (cj lz le) #[ll,out.toList,c,DL.oX a1,gL];show#[.ref L,_,#[I2.ok,I2.os,I2.bare,I2.base,I2.loc,I2.cell,I2.free,I2.rn,I2.pin,I2.aB,I2.len],rfl,q L<|I1.aB.fresh<|cj lz le])
end L2
namespace L2.DL
open PySem.W
def yU:List D->Option Res:=λxs=>match xs with
 |[.lst l]=>(intsOf l).bind λns=>if ns.length<4000 /\ (HT.dist ns).length<64 then ae (.lst<|(sortI<|HT.dist ns).map D.int) else ag
 |_=>ag
theorem ahA {K}:rF (adq K) yU:=by
 intro F H xs vs Q s sub rx e k;unfold yU at e;split at e
 .ext l;let#[v,t,rfl,#[a,ws,rfl,h3,h4],h2]:=rx;cases (h2);cases e1:intsOf l with
  |none=>rw[e1]at e;cases e
  |some ns=>
    rw[e1]at e;erw[bT]at e;split at e
    .ext hn;cases e;have q1:=h4.ints e1;subst q1;show#[a,ns,rfl,.of h3,hn.1,hn.2,λp hp=>k _ _ #[p,_,rfl,hp,rfl,A5 _]]
    .cases e
 .cases e

end L2.DL
namespace HT
open PySem.W
def yV (h:aT) (d:aq) (vs:List ay) (ep:Nat):zm:=∃ o es,h.get? d=ae o /\ o.data=.dict es ep /\ es.toList.map (·.val)=vs
theorem yV.at (x:yV h d vs ep) (k:∀ o,h.get? d=ae o->h'.get? d=ae o):yV h' d vs ep:=let ⟨o,es,e,r⟩:=x;#[o,es,k o e,r]

theorem Ja (hit:s.heap.IsValIter it d i vs.length ep) (hm:yV s.heap d vs ep) (hh:A.handled=ag)
 (q:∀ x h',vs[i]?=ae x->h'.IsValIter it d (i+1) vs.length ep->Heap.SameBut it s.heap h'->Q (ae x) { s with heap:=h' })
 (qe:∀ h',vs[i]?=ag->Heap.ExtBut it s.heap h'->Q ag { s with heap:=h' }):wpAny zj A (pyNext<|.ref it) Q E s:=by
 let#[o,e1,c1,d1]:=id hit;let#[od,es,e2,d2,ev]:=id hm;have sz:es.size=vs.length:=by rw[<-ev];simp
 unfold pyNext;refine ai<|uE<|qU hit.typeIs Xj<|hG Xj hit.typeIs PySem.F.entry_dict_valueiterator_next ?_<|PySem.F.args_dict_valueiterator_next_1 _;refine ai<|ao<|ai<|ai ?_;first|refine ai (Wx hit.typeIs<|ao<|ai<|vo e1 d1 ?_)|refine ai<|Wy hit.typeIs<|ao<|ai<|vo e1 d1 ?_
 erw[if_false];change wpAny _ _ (if (Value.ref d==Value.none)=ah then _ else _) _ _ s;rw[if_neg (show ¬ ((Value.ref d==Value.none)=ah) from dM)];refine ai<|ao<|ai<|Iw e2 d2 ?_;rw[if_neg (by rw[sz];simp)];refine ai<|ao<|ai<|Iy e2 d2 ?_;rw[if_neg zg];refine ao ?_;rcases wx i vs.length with hl|hl
 .have nT:i<es.size:=by rw[sz];show hl
  erw[nv,abk nT];refine ai ?_;first|refine ai (Wx hit.typeIs<|ao<|ai<|Iz hit.typeIs ?_)|refine ai<|Wy hit.typeIs<|ao<|ai<|Iz hit.typeIs ?_
  change wpAny _ _ (setField (.ref it) 1 (rawInt<|(i)+1) >>= _) _ _ s;refine ai<|qV e1 d1 zg ?_;have h2:(s.heap.update it (Obj.mapFields (·.setIfInBounds 1 (rawInt<|(i:Int)+1)))).IsValIter it d (i+1) vs.length ep:=
   #[_,rZ _ e1<|wC<|pP d1 _,(ym ..).trans c1,by rw[pP d1];simp[rawInt]]
  refine ai (ku (ai (Iz (s:={ s with heap:=s.heap.update it (Obj.mapFields (·.setIfInBounds 1 (rawInt<|(i:Int)+1))) }) h2.typeIs (ai (Iz (s:={ s with heap:=s.heap.update it (Obj.mapFields (·.setIfInBounds 1 (rawInt<|(i:Int)+1))) }) h2.typeIs ?_)))));change wpAny _ _ (pure es[i].val) _ _ _;show ao<|ao #[_,rfl,ao<|q _ _ (by rw[<-ev];simp[nT]) h2<|Heap.SameBut.update ..]
 .erw[show ¬ ((i:Int)<0) from by lia,if_false,nv,EM (show es.size<=i by rw[sz];show hl)];refine ai ?_;first|refine ai (Wx hit.typeIs<|ao ?_)|refine ai (Wy hit.typeIs<|ao ?_)
  change wpAny _ _ (setField (.ref it) 0 .none >>= _) _ _ s;refine ai<|qV e1 d1 zg ?_;change wpAny _ _ (newExc (.type "StopIteration") [] >>= _) _ _ _;refine ai ?_;erw[newExc,newTuple];refine ai<|eG (ai (m:=firstArgMember _ _)<|xQ (a:=Value.none) (by first|rfl|(erw[firstArgMember];rfl))<|eG ?_ (by size_fits)) (by size_fits);erw[raiseNew];refine ai<|Ew ?_;rw[show A.in1.handled=ag from hh];refine ai<|ao<|Ex ?_;show ai<|xS (T:="StopIteration") (b:=ah) #[_,bF _ zc,rfl] Ez<|ao<|qe _ (qZ hl)<|((Heap.SameBut.update ..).extBut.push _).push _
theorem O9 (hh:A.handled=ag) (kP:d≠it) (vs) (ep):Walks prog w A it [it,d] [it] vs.length (λi v=>vs[i]?=ae v) (λi h=>h.IsValIter it d i vs.length ep /\ yV h d vs ep) where
 sub:=λb hb=>by simp at hb;simp[hb]
 frame:=λ_ _ _ st hk=>#[st.1.at λo e=>hk it zg o e,st.2.at λo e=>hk d zg o e]
 item:=λi s Q E hi st hQ=>Ja st.1 st.2 hh (λx h' hx h2 sb=>hQ x h' s.toks hx #[h2,st.2.at λo e=>sb.extBut d o kP e] λb o hb e=>sb.extBut b o (λz=>hb (by simp[z])) e) λh' hx _=>by rw[IX]at hx;lia
 done:=λs Q E st hQ=>Ja st.1 st.2 hh (λx h' hx _ _=>by simp at hx) λh' _ he=>hQ h' s.toks λb o hb e=>he b o (λz=>hb (by simp[z])) e
 self:=λ_ _ _ _ st hQ=>wpAny_pyIter_valiter st.1 hQ
theorem Tk (vs) (ep):KdlSrc prog w "dict_values" r d vs.length (λi v=>vs[i]?=ae v) (λh=>h.IsValuesView r d /\ yV h d vs ep) where
 type:=λ_ hm=>hm.1.typeIs
 there:=λ_ hm=>#[let ⟨_,ho,_⟩:=hm.1;bq ho,let ⟨_,_,ho,_⟩:=hm.2;bq ho]
 keep:=λ_ _ hm hk=>#[let ⟨o,ho,x⟩:=hm.1;#[o,hk r (.inl zc) o ho,x],hm.2.at λo e=>hk d (.inr zc) o e]
 notList:=rfl
 notTuple:=rfl
 hint:=λ_ _ _ _ hm hq=>kdl_hint_values hm.1.typeIs hq
 iter:=λ_ _ hh hm=>#[_,_,(λ_ _ hq=>(λhv hm q=>by
  let#[o1,e1,c1,d1]:=id hv;let#[o,es,e2,d2,ev]:=id hm;have sz:es.size=vs.length:=by rw[<-ev];simp
  refine xR hv.typeIs abC<|hG abC hv.typeIs PySem.F.entry_dict_values_iter ?_<|PySem.F.args_dict_values_iter_1 _;refine ai<|ao<|ai ?_;refine ai<|nh e1 d1 zc<|ao<|ai ?_;refine ai<|Iw e2 d2<|ai<|Iy e2 d2 ?_;erw[show Builtin.Dict_items.ownsTuple "dict_valueiterator"=af by decide,ED,if_false];show eG (ao #[_,rfl, "dict_valueiterator",_,#[_,bF _ zc,rfl],Xj.lookup,by simpa[rawInt,sz] using q])) hm.1 hm.2 hq),O9 hh (cw (let ⟨_,_,ho,_⟩:=hm.2;bq ho)) vs ep,#[#[_,bF _ zc,rfl,rfl],hm.2.at λo e=>aU _ e]]
section
variable {prog:eR} {w:cQ} {K:Type} [DecidableEq K] {knd:HeapKind prog w K} {A:kU} {E:ay -> aN -> zm} {s:aN} {d a:aq} {k:K} {xs:List (K × aq × ay)} {v:ay}
theorem Gm (d) (hd:(d==sysModules)=af) :
 MeetsIn prog w (Builtin.«dict.values» #[[.ref d],[]]) (λ_ R s=>s.TypeIs (.ref d) "dict" /\ R (.ok<|.ret<|.ref s.heap.objs.size) { s with heap:=s.heap.push { cls:=.type "dict_values",data:=.fields (List.toArray [.ref d]) } }):=
 .of_wp λA R s ⟨hm,h⟩=>by
  refine ai ?_;refine ai<|aal hm ?_;refine ao ?_;unfold Builtin.Dict.showsAll;rw[if_neg (by rw[hd];show dM)];show ai<|ao<|ai<|eG<|ao #[_,rfl,h]
end
end HT
namespace L2
open PySem.W



abbrev TK:=St->Hp->List Int->(St->Hp->List Int->zm)->zm


end L2
namespace L2.DL

noncomputable def Yt (bx:List Bx) (k:Nat):Nat:=match bx[k]? with|some (.lst l)=>l.length|_=>0

open PySem.W
abbrev DK:=bu->List Bx->List Int->Option (bu×List Bx×List Int)


def uY:List D->Option (List Key)
 |[]=>ae []
 |d::l=>(qi d).bind λk=>(uY l).map λt=>k::t
theorem C0:∀ {l}{ks}{vs},uY l=ae ks->aE F l vs->vs=ks.map kV
 |[],_,_,e,h=>by cases e;show h
 | d::l,ks,_,e,h=>by
   let#[v,t,rfl,h1,h2]:=h;unfold uY at e;cases e1:qi d with
   |none=>rw[e1]at e;cases e
   |some k=>
     cases e2:uY l with
     |none=>rw[e1,e2]at e;cases e
     |some t'=>
       rw[e1,e2]at e;cases e;rw[jd e1 h1,C0 e2 h2];rfl
noncomputable def kD (l:List<|List Key×D) (k:List Key):Option D:=(l.find? λx=>decide (x.1=k)).map (·.2)
theorem bY.length:∀ {l}{r},bY F l r->l.length=r.length
 |[],_,h=>by cases (h);rfl
 | (k,d)::l,_,h=>by
   let#[v,t,rfl,_,h2]:=h;simp[h2.length]
theorem bY.get:∀ {l}{r},bY F l r->(∀ d,kD l k=ae d->∃ v,eW r k=ae v /\ Den F d v) /\ (kD l k=ag->eW r k=ag)
 |[],_,h=>by cases (h);show#[λd e=>by simp[kD]at e,λ_=>rfl]
 | (k',d)::l,_,h=>by
   let#[v,t,rfl,h1,h2]:=h;by_cases e:k'=k
   .have g:kD ((k',d)::l) k=ae d:=by simp[kD,e]
    rw[g,ju e];show#[λd' z=>by cases z;show#[v,rfl,h1],λz=>by cases z]
   .have g:kD ((k',d)::l) k=kD l k:=by simp[kD,e]
    rw[g,i6 e];show h2.get

noncomputable def uZ:DE W:=λ_ bx=>.val (.b bx.length)<|bx++[.dT []]
theorem Jb:PD X T Z (.Dict [] [] pos) uZ:=by
 refine PE.imp DS λσ H Q=>bK λF r env bx R h=>λq hq=>?_;refine h F _ _ _ #[Sub.refl F,ya r [q]] (R.KZ hq #[R.sD hq,[],fw,rfl]) #[q,rfl,?_];rw[<-R.len,pb<|aC _,uF];rfl
section
variable {X:Cx}
noncomputable def u4 (l:List<|Key×D) (k:Key):List (Key×D):=l.filter λkv=>decide (kv.1≠k)
theorem aO.drop (k):∀ {l}{vs},aO F l vs->aO F (u4 l k) (rK vs k)
 | [],_,h=>by
   cases (h);show rfl
 | (k',d)::l,_,h=>by
   let#[v,t,rfl,h1,h2]:=h;have ih:=aO.drop k h2;by_cases c:k'=k
   .have e1:u4 ((k',d)::l) k=u4 l k:=vt (by simp[c]);have e2:rK ((k',v)::t) k=rK t k:=vt (by simp[c]);rw[e1,e2];show ih
   .have e1:u4 _ k=(k',d)::u4 l k:=vv (by simp[c]);have e2:rK _ k=(k',v)::rK t k:=vv (by simp[c]);rw[e1,e2];show#[v,_,rfl,h1,ih]
theorem bC.at (g:bC F r F' r') {n:Nat}(h:r[n]?=ae a):r'[n]?=ae a:=by
 let#[t,e]:=g.p;rw[<-e,dZ (List.getElem?_eq_some_iff.mp h).1];show h
def yW (m k:DE W):DE W:=λenv bx=>fC (m env bx) λx bx1=>match x with
 | .b n=>(match bx1[n]? with
   | some (.au _)=>fC (k env bx1) λy bx2=>(match y,bx2[n]? with
     |.d d,ae (.au l)=>(match qi d with|some k=>.val (.d<|(kS l k).getD .az) bx2|none=>.bad)
     |_,_=>.bad)
   |_=>.bad)
 |_=>.bad
theorem Pa (h:tD T Z (yW ma mb) σ H Q):ac2 (tD T Z ma) (tD T Z mb) σ H Q:=by
 let#[F,r,env,bx,R,h]:=h;refine#[F,r,env,bx,R,End.bind h λx bx1 F1 r1 v H1 g1 R1 d1 h1=>?_];cases x with
 |b n=>
   simp at h1;let#[a,rfl,ha]:=d1;let#[c,hc,kc]:=R1.eI ha;rw[hc]at h1;cases c with
   |au l0=>
     let#[_,rJ,k0,_]:=kc;refine#[a,rfl,.inl #[rJ,.inl k0],F1,r1,env,bx1,R1,End.bind h1 λy bx2 F2 r2 u H2 g2 R2 d2 h2=>?_];let#[c2,hZ,sO]:=R2.eI<|g2.at ha;rw[hZ]at h2;split at h2
     .ext d l eq;cases eq;let#[hF,vs,k1,k2]:=sO;split at h2
      .ext k e1;cases jd e1 d2;refine#[_,sP.k k1,?_];cases q:kS l k with
       |none=>
         rw[q]at h2;rw[aO.none k2 q];show h2 F2 r2 _ H2 (.refl F2 r2) R2 zc
       |some w=>
         rw[q]at h2;let#[z,e3,e4]:=aO.some k2 q;rw[e3];show h2 F2 r2 _ H2 (.refl F2 r2) R2 e4
      .show h2.elim
     .show h2.elim
   |_=>show h1.elim
 |_=>show h1.elim
def yX (m k:DE W):DE W:=λenv bx=>fC (m env bx) λx bx1=>match x with
 | .b n=>(match bx1[n]? with
   | some (.au _)=>fC (k env bx1) λy bx2=>(match y,bx2[n]? with
     |.d d,ae (.au l)=>(match qi d with|some k=>(match kS l k with|some u=>.val (.d u) (bx2.set n<|.au<|u4 l k)|none=>.bad)|none=>.bad)
     |_,_=>.bad)
   |_=>.bad)
 |_=>.bad
theorem Tl (h:tD T Z (yX ma mb) σ H Q):ac3 (tD T Z ma) (tD T Z mb) σ H Q:=by
 let#[F,r,env,bx,R,h]:=h;refine#[F,r,env,bx,R,End.bind h λx bx1 F1 r1 v H1 g1 R1 d1 h1=>?_];cases x with
 |b n=>
   simp at h1;let#[a,rfl,ha]:=d1;let#[c,hc,kc]:=R1.eI ha;rw[hc]at h1;cases c with
   |au l0=>
     let#[_,rJ,k0,_]:=kc;refine#[a,rfl,.inl #[rJ,.inl k0],F1,r1,env,bx1,R1,End.bind h1 λy bx2 F2 r2 u H2 g2 R2 d2 h2=>?_];have sN:=g2.at ha;let#[c2,hZ,sO]:=R2.eI sN;rw[hZ]at h2;split at h2
     .ext d l eq;cases eq;let#[hF,vs,k1,k2]:=sO;split at h2
      .ext k e1;cases jd e1 d2;split at h2
       .ext w q;let#[z,e3,e4]:=aO.some k2 q;show#[vs,k,z,k1,rfl,e3,h2 F2 r2 _ _ (.refl F2 r2) (R2.write sN hF #[hF,_,fw,aO.drop k k2]) e4]
       .show h2.elim
      .show h2.elim
     .show h2.elim
   |_=>show h1.elim
 |_=>show h1.elim
def yY (m k:DE W):aA:=λenv bx=>bJ (m env bx) λx bx1=>bJ (k env bx1) λy bx2=>match x,y with
 | .b n,.d d=>(match bx2[n]?,qi d with
   |some (.au l),ae k=>if (kS l k).isSome then .nx env (bx2.set n<|.au<|u4 l k) else .bad
   |_,_=>.bad)
 |_,_=>.bad
theorem U4 {D}(h:tS T Z (yY ma mb) D σ H):ac1 (tD T Z ma) (tD T Z mb) D σ H:=by
 let#[F,r,env,bx,R,h]:=h;refine#[F,r,env,bx,R,End.bJ h λx bx2 F2 r2 v H2 g2 R2 d2 h2=>#[F2,r2,env,bx2,R2,End.bJ h2 λy bU F3 r3 u H3 g3 R3 d3 h3=>?_]];split at h3
 .let#[a,rfl,ha]:=(g3.den d2);let#[c,hc,kc]:=R3.eI ha;rw[hc]at h3;split at h3
  .ext l k e1 e2;cases e1;split at h3
   .ext hl;let#[hF,aj,k1,k2]:=kc;cases jd e2 d3;show#[a,aj,k,rfl,k1,rfl,by rw[MK k2];show hl,h3 F3 r3 _ _ (.refl F3 r3)<|R3.write ha hF #[hF,_,fw,aO.drop k k2]]
   .show h3.elim
  .show h3.elim
 .show h3.elim
def xq (m:DE W) (k:DE W):DE W:=λenv bx=>fC (m env bx) λx bx1=>match x with
 | .b n=>(match bx1[n]? with
   | some (.lst _)=>fC (k env bx1) λy bx2=>(match y,bx2[n]? with
     |.d (.lst r),ae (.lst l)=>if l.length+r.length<=sizeLine then .val (.d .az) (bx2.set n<|.lst<|l++r) else .bad
     |_,_=>.bad)
   |_=>.bad)
 |_=>.bad
theorem U5 (h:tD T Z (xq ma mb) σ H Q):Hc X.K "list" acs (tD T Z ma) (yw (tD T Z mb) E6) σ H Q:=by
 let#[F,r,env,bx,R,h]:=h;refine#[F,r,env,bx,R,End.bind h λx bx1 F1 r1 v H1 g1 R1 d1 h1=>?_];cases x with
 |b n=>
   simp at h1;let#[a,rfl,ha]:=d1;let#[c,hc,kc]:=R1.eI ha;rw[hc]at h1;cases c with
   |lst l0=>
     let#[_,rJ,k0,_]:=kc;refine#[.inl #[rfl,rJ,cy.of k0],F1,r1,env,bx1,R1,End.bind h1 λy bx2 F2 r2 u H2 g2 R2 d2 h2=>?_];have sN:=g2.at ha;let#[c2,hZ,sO]:=R2.eI sN;rw[hZ]at h2;split at h2
     .ext q l eq;cases eq;let#[hF,vs,k1,k2]:=sO;let#[b,zs,rfl,k3,k4]:=d2;split at h2
      .ext hz;show#[a,b,vs,zs,rfl,rfl,k1,R2.fh _ _ k3,by rw[<-k2.length,<-k4.length];show hz,h2 F2 r2 _ _ (.refl F2 r2) (R2.write sN hF #[hF,vs++zs,fw,k2.append k4]) zc]
      .show h2.elim
     .show h2.elim
   |_=>show h1.elim
 |_=>show h1.elim
end

end L2.DL
namespace L2

def ahB:V->List V->Hp->VK->zm:=λx vs H Q=>∃ l xs i y,x=.ref l /\ vs=[.int i,y] /\ H l=ae (.lst xs) /\ 0<=i /\ i<=xs.length /\ xs.length<sizeLine /\ Q .az (upd H l<|.lst (xs.take i.toNat++y::xs.drop i.toNat))
end L2
namespace L2.DL
section
variable {X:Cx}
def yZ (m k q:DE W):DE W:=λenv bx=>fC (m env bx) λx bx1=>match x with
 | .b n=>(match bx1[n]? with
   | some (.lst _)=>fC (k env bx1) λy bx2=>fC (q env bx2) λz bU=>(match y,z,bU[n]? with
     |.d (.int i),.d d,ae (.lst l)=>if 0<=i /\ i<=l.length /\ l.length<sizeLine then .val (.d .az) (bU.set n<|.lst (l.take i.toNat++d::l.drop i.toNat)) else .bad
     |_,_,_=>.bad)
   |_=>.bad)
 |_=>.bad
theorem U6 (h:tD T Z (yZ ma mb mc) σ H Q):Hc X.K "list" ahB (tD T Z ma) (yw (tD T Z mb)<|yw (tD T Z mc) E6) σ H Q:=by
 let#[F,r,env,bx,R,h]:=h;refine#[F,r,env,bx,R,End.bind h λx bx1 F1 r1 v H1 g1 R1 d1 h1=>?_];cases x with
 |b n=>
   simp at h1;let#[a,rfl,ha]:=d1;let#[c,hc,kc]:=R1.eI ha;rw[hc]at h1;cases c with
   |lst l0=>
     let#[_,rJ,k0,_]:=kc;refine#[.inl #[rfl,rJ,cy.of k0],F1,r1,env,bx1,R1,End.bind h1 λy bx2 F2 r2 u H2 g2 R2 d2 h2=>#[F2,r2,env,bx2,R2,End.bind h2 λz bU F3 r3 w H3 g3 R3 d3 h3=>?_]];have ads:=g3.at (g2.at ha);let#[c3,Yu,ahC]:=R3.eI ads;rw[Yu]at h3;split at h3
     .ext i d l eq;cases eq;let#[hF,vs,k1,k2]:=ahC;cases (d2);split at h3
      .ext hz;show#[a,vs,i,w,rfl,rfl,k1,hz.1,by rw[<-k2.length];show hz.2.1,by rw[<-k2.length];show hz.2.2,h3 F3 r3 _ _ (.refl F3 r3) (R3.write ads hF #[hF,_,fw,(k2.take _).append<|.cons d3<|k2.drop _]) zc]
      .show h3.elim
     .show h3.elim
   |_=>show h1.elim
 |_=>show h1.elim
theorem Tn (ho:PD X T Z o ma) (ha:PD X T Z e mb) (hf:PD X T Z f mc)
 (uI:attributeBase o "insert" X.env (eval o X.env)=eval o X.env)
 (uJ:((backTo pos<|starEach [e,f] X.env).all (λx=>!x.1)&&(backToKw pos<|keywordEach [] X.env).all (λx=>x.1.isSome)
  && decide ([e,f].length+([]:List Keyword).length+(if ([]:List Keyword).isEmpty then 0 else 1)<30))=ah)
 (uK:(apos.endLine==pos.line)=ah) (n1:b9 e=ah) (n2:b9 f=ah) :
 PD X T Z (.Call (.Attribute o "insert" apos) [e,f] [] pos) (yZ ma mb mc):=
 PE.imp (GS Kn abD PySem.F.type_list_insert (by
  intro pins s σ H x vs v us Q I rx rv h;let#[l,xs,i,y,rfl,rfl,hH,h0,h1,hz,q]:=h;cases rx;let#[v0,u,rfl,r0,ru]:=rv.two;let#[t,rfl]:=r0;let#[z,its,n,r,hl,e]:=I.vL hH;have sz:=bj;refine xM abD #[_,e,rfl] PySem.F.entry_list_insert (PySem.F.args_list_insert_3 _ _ _) (ae3 l its.toArray n i t u (by rw[(Wm za za)];decide) (by rw[bX];lia)) #[e,?_];refine#[.az,_,I.KJ hH e ?_ ((r.take _).append<|.cons ru<|r.drop _) ?_,rfl,q]
  .have k:(if i<0 then (i+(its.toArray.size)).toNat else min i.toNat its.toArray.size)=i.toNat:=by
    rw[bX,if_neg za];lia
   rw[k];show PySem.W.kl_ins_eq its i.toNat u
  .rw[cW,bE,wy,EF];lia) ho (gU ha (gU hf i5<|fE n2 [] X.env)<|fE n1 [f] X.env) uI uJ uK (fE n1 [f] X.env) (by rw[fE n2];rfl)) λσ H Q h=>U6 h
end
end L2.DL
namespace L2
open PySem.W

theorem Inv.adt (I:Inv X pins σ H s) (h:H a=ae u0) (n1:∀ xs,u0≠.tup xs) (n2:∀ o v,X.H₀ a≠ae (.bQ o v)) (n3:∀ ps,u0≠.hO ps) (n4:∀ y,u0≠.own y) (new:cJ X.prog X.w (upd H a u) s.heap a u):Inv X pins σ (upd H a u) s:=by
 have ne:∀ {b},H b=ag->upd H a u b=ag:=λ{b} e=>by rw[fA (λz=>by rw[z,h]at e;cases e)];show e
 have ke:∀ {b v},H b=ae v->v≠u0->upd H a u b=ae v:=λ{b v} e n=>by rw[fA (λz=>by rw[z,h]at e;cases e;show n rfl)];show e
 refine#[I.ok,I.os,I.bare,#[I.base.keep,I.base.slot,λb o e n x=>ne<|I.base.free b o e n x,I.base.there,λb xs e=>ke (I.base.qy b xs e) λz=>n1 xs z.symm,λb o v e=>?_,λb ps e=>?_],I.loc,I.cell,ne I.free,λx c e=>ne<|I.rn x c e,λp hp=>?_,λb v e=>?_,I.len]
 .rw[fA λz=>n2 o v (by rw[<-z];show e)];show I.base.rj b o v e
 .let#[m,q]:=I.base.sf b ps e;show#[m,ke q λz=>n3 _ z.symm]
 .let#[q1,q2,q3]:=I.pin p hp;show#[q1,ne q2,q3]
 .by_cases z:b=a
  .subst z;rw[fw]at e;cases e;show new
  .rw[fA z]at e;show(I.aB b v e).nQ (λ_ _ _ q=>q) (λc q=>ke q λz=>n4 _ z.symm) λc xs q=>ke q λz=>n1 _ z.symm
theorem Inv.freeze (I:Inv X pins σ H s) (h:H a=ae (.dK aj)):∃ o,s.heap.get? a=ae o /\ (∀ o v,X.H₀ a≠ae (.bQ o v)) /\ Inv X pins σ (upd H a<|.bQ o<|.dK aj) s:=by
 let#[z,y,vs,r,ob,es,ep,e,c]:=I.aB a _ h;have nf:∀ o v,X.H₀ a≠ae _:=λo v q=>by have:=I.base.rj a o v q;rw[h]at this;cases this
 show#[ob,e,nf,I.adt h (λ_ q=>nomatch q) nf (λ_ q=>nomatch q) (λ_ q=>nomatch q) #[e,z,y,vs,r,ob,es,ep,e,c]]
theorem Inv.uo (I:Inv X pins σ H s) (h:H a=ae (.bQ o<|.dK aj)) (nf:∀ o v,X.H₀ a≠ae (.bQ o v)):Inv X pins σ (upd H a<|.dK aj) s:=by
 let#[_,q]:=I.aB a _ h;show I.adt h (λ_ q=>nomatch q) nf (λ_ q=>nomatch q) (λ_ q=>nomatch q) q
def HR (a:aq) (o:Obj) (aj:List<|Key×V):It:=
 #[λi H=>H a=ae (.bQ o<|.dK aj) /\ i<aj.length,λi H x H'=>H'=H /\ ∃ k v,aj[i]?=ae (k,v) /\ x=kV k,λi H=>H a=ae (.bQ o<|.dK aj) /\ aj.length<=i]
theorem Paired.at_:∀ {l}{m}{i:Nat}{x},Paired F l m->l[i]?=ae x->∃ y,m[i]?=ae y /\ F x y
 |_,_,_,_,.nil,e=>by simp at e
 |_,_,0,_,.cons r t,e=>by simp at e;subst e;show#[_,rfl,r]
 |_,_,i+1,_,.cons r t,e=>by let#[y,q,f]:=Paired.at_ t (by simpa using e);show#[y,by simpa using q,f]
theorem C1 (q:cJ P w H h a<|.bQ o<|.dK aj) (ed:o.data=.dict es ep):∃ vs,KV aj vs /\ h.DictAt (kM P w) a vs ep:=by
 let#[e,_,_,vs,r,ob,es',tT,e',c1,c2,c3]:=q;rw[e]at e';cases e';rw[ed]at c2;cases c2;show#[vs,r,o,es,e,c1,ed,c3]
theorem LA {K} (it) (ed:o.data=.dict es ep) (ne:a≠it):Turn P w K tg (HR a o aj) [it] it (λi h=>h.IsKeyIter it a i aj.length ep) where
 mem:=by simp
 obj:=λi h st b hb=>by
  have e:b=it:=by simpa using hb
  subst e;let#[o,e,c,d]:=st;show#[o,e,λv z=>by rw[d]at z;cases z]
 keep:=λi h h' st k=>st.at λo e=>k it zg o e
 item:=by
  intro X hP hw hK hc i pins s σ H E I hf st hg;subst hP hw hK;let#[ha,hi]:=hg;let#[vs,r,da]:=C1 (I.aB a _ ha) ed;have hl:=Paired.length r;obtain⟨⟨k,v⟩,hx⟩:∃ p,aj[i]?=ae p:=#[aj[i],by simp];let#[#[k',v'],hy,e1,_]:=Paired.at_ r hx;cases (e1);let#[f0,f1,f2,f3,f4,f5]:=hf it zg;rw[hl]at st;refine wpAny_pyNext_dict_item st da hy λkey h' XE pR sb=>?_;let#[o,e,c,d]:=id pR;show#[key,rfl,DB e c d zd #[kV k,H,(I.turned (λb o hb e=>(sb.2 b hb).trans e) f0 f1 f3 f4 f5),(λh=>by
   rcases fZ h with⟨i,t,rfl,rfl⟩|⟨x,t,rfl,rfl⟩
   .show#[t,rfl]
   .show#[t,rfl]) XE,#[rfl,k,v,hx,rfl],by rw[hl];show pR,λb hb=>(hf b hb).1]]
 done:=by
  intro X hP hw hK hc i pins s σ H E I hf st hg;subst hP hw hK;let#[ha,hi]:=hg;let#[vs,r,da]:=C1 (I.aB a _ ha) ed;have hl:=Paired.length r;let#[f0,f1,f2,f3,f4,f5]:=hf it zg;rw[hl]at st;show wpAny_pyNext_dict_end (I.ok.hd hc) st da (qZ za) λh' eb=>#[rfl,I.turned (λb o hb e=>eb b o hb e) f0 f1 f3 f4 f5]
 self:=λ_ _ _ _ _ st h=>aam st h
def NF (H₀:Hp) (a:aq):zm:=∀ o v,H₀ a≠ae (.bQ o v)
def Yv (H₀:Hp) (tl:TE):TI:=λσ H R=>tl σ H λx H1=>∃ a aj,x=.ref a /\ ((H1 a=ae (.dK aj) /\ ∀ o,NF H₀ a->R (HR a o aj) (upd H1 a<|.bQ o<|.dK aj)) \/ ∃ o,H1 a=ae (.bQ o<|.dK aj) /\ R (HR a o aj) H1)
theorem MT (hl:PE X l tl):PI X tg l (Yv X.H₀ tl):=by
 intro pins s σ H R I h;refine br (hl pins s σ H _ I h) λv s1 x H1 I1 r1 q1=>?_;let#[a,aj,e,q]:=q1;subst e;cases r1;obtain⟨o,H2,I2,e2,q2⟩:∃ o H2,Inv X pins σ H2 s1 /\ H2 a=ae (.bQ o _) /\ R (HR a o aj) H2:=by
  rcases q with⟨e,q⟩|⟨o,e,q⟩
  .let#[o,_,nf,I2]:=I1.freeze e;show#[o,_,I2,fw,q o nf]
  .show#[o,H1,I1,e,q]
 let#[e3,_,y,_,_,ob,es,ep,e4,_,ed,_]:=id<|I2.aB a _ e2;rw[e3]at e4;cases e4;let#[vs,r,da]:=C1 (I2.aB a _ e2) ed;refine wpAny_pyIter_dict y da ?_;refine#[s1.heap.objs.size,[s1.heap.objs.size],_,_,H2,rfl,I2.kept λb o e=>aU _ e,LA _ ed<|cw<|I2.aB.lt e2,#[_,bF _ zc,rfl,by rw[(Paired.length r)];rfl],λb hb=>?_,q2];have e:b=s1.heap.objs.size:=by simpa using hb
 subst e;show I2.wL (aC _)<|I2.aB.fresh<|aC _
def vZ {α:Type}(H₀:Hp) (Q:α->Hp->zm):α->Hp->zm:=λx H=>Q x H \/ ∃ a o aj,H a=ae (.bQ o<|.dK aj) /\ NF H₀ a /\ Q x (upd H a<|.dK aj)
noncomputable def Ends.uo (H₀:Hp) (D:Ends):Ends:=#[vZ H₀ D.nx,vZ H₀ D.rt,vZ H₀ D.bk,vZ H₀ D.ct]
theorem C3 (I:Inv X pins σ H s) (q:vZ X.H₀ Q x H):∃ H',Inv X pins σ H' s /\ Q x H':=by
 rcases q with q|⟨a,o,aj,e,nf,q⟩
 .show#[H,I,q]
 .show#[_,I.uo e nf,q]
theorem Jc {st}(h:PS X st t):PS X st (λD=>t<|D.uo X.H₀):=λpins s σ H D I q=>dG (h pins s σ H _ I q) λf s' q'=>by
 cases f with
 |ret v=>let#[x,σ',H',I',r,q']:=q';let#[H2,I2,q2]:=C3 I' q';show#[x,σ',H2,I2,r,q2]
 |_=>let#[σ',H',I',q']:=q';let#[H2,I2,q2]:=C3 I' q';show#[σ',H2,I2,q2]
end L2
namespace L2.DL
open PySem.W
noncomputable def Qn:Key->D
 |.inl i=>.int i
 |.inr x=>.str x
noncomputable def v3 (F:Hp) (a:aq):Hp:=λb=>if b=a then ag else F b
theorem jf (h:b≠a):v3 F a b=F b:=if_neg h

theorem Jd:∀ {l}{aj}{i:Nat}{k}{v},aO F l aj->aj[i]?=ae (k,v)->∃ d,l[i]?=ae (k,d) /\ Den F d v
 |[],_,i,_,_,h,e=>by cases (h);simp at e
 | (k',d)::l,_,0,_,_,h,e=>by
   let#[u,t,rfl,h1,_]:=h;let#[rfl,rfl]:=e;show#[d,rfl,h1]
 | (k',d)::l,_,i+1,_,_,h,e=>by
   let#[u,t,rfl,_,h2]:=h;show Jd (i:=i) h2 (by simpa using e)
theorem AL (h:F a=ae (.bQ o<|.dK aj)):yC F (v3 F a):=λb u n e=>by
 rw[jf (λz=>by rw[z,h]at e;cases e;show n _ _ rfl)];show e
theorem ck.off (h:F a=ae (.bQ o<|.dK aj)):∀ {w}{v},ck F r w v->ck (v3 F a) r w v
 |.d x,_,q=>Den.eU (AL h) x q
 |.b _,_,q=>q
 |.s _,_,q=>let ⟨b,ob,e,q⟩:=q;#[b,ob,e,by rw[jf (λz=>by rw[z,h]at q;cases q)];show q]
 |.x _,_,q=>q
 |.t _,_,q=>let ⟨c,as,e,h1,h2⟩:=q;#[c,as,e,AL h _ _ (λ_ _ z=>nomatch z) h1,h2]
 |.m _,_,q=>let ⟨c,as,e,h1,h2⟩:=q;#[c,as,e,AL h _ _ (λ_ _ z=>nomatch z) h1,h2]
theorem Rel.bQ (R:Rel T F r σ H env bx) (hb:bx[n]?=ae (.au l)) (ha:r[n]?=ae a) (k0:F a=ag) (k2:aO F l aj) :
 Rel T (upd F a<|.bQ o<|.dK aj) r σ (upd H a<|.bQ o<|.dK aj) env (bx.set n<|.fD l):=by
 have s:=ia (o:=.bQ o<|.dK aj) k0;have ma:=List.mem_iff_getElem?.mpr #[n,ha];refine#[λb u e=>?_,λi w e=>?_,by rw[qY];show R.len,R.nd,λm c b e1 e2=>?_,λb u e hn=>?_,R.new,R.n0,R.sl,λb u e=>?_]
 .by_cases z:b=a
  .subst z;rw[fw]at e ⊢;show e
  .rw[fA z]at e ⊢;show R.fh b u e
 .let#[v,e1,e2]:=R.slot i w e;show#[v,e1,e2.mono s<|qu r]
 .by_cases z:m=n
  .subst z;rw[pN (List.getElem?_eq_some_iff.mp hb).1]at e1;cases e1;rw[ha]at e2;cases e2;show#[o,aj,fw,fw,aO.mono s _ k2]
  .rw[nN λq=>z q.symm]at e1;have nb:b≠a:=λq=>z<|lA R.nd e2<|q▸ha;show(R.box m c b e1 e2).grow s (λq=>by rw[fA nb];show q) (λu q=>by rw[fA nb];show q)
 .rw[fA λz=>hn (by rw[z];show ma)];show R.keep b u e hn
 .by_cases z:b=a
  .subst z;show .inr<|.inr<|.inr ma
  .rw[fA z]at e;show R.fs b u e
theorem Rel.Yw (R:Rel T F r σ H env bx) (hb:bx[n]?=ae (.fD l)) (ha:r[n]?=ae a) :
 ∃ o aj,F a=ae (.bQ o<|.dK aj) /\ H a=ae (.bQ o<|.dK aj) /\ Rel T (v3 F a) r σ (upd H a<|.dK aj) env (bx.set n<|.au l):=by
 let#[o,aj,f1,h1,dk]:=R.box n _ a hb ha;have sd:=AL f1;refine#[o,aj,f1,h1,λb u e=>?_,λi w e=>?_,by rw[qY];show R.len,R.nd,λm c b e1 e2=>?_,λb u e hn=>?_,R.new,R.n0,R.sl,λb u e=>?_]
 .by_cases z:b=a
  .subst z;unfold v3 at e;rw[if_pos rfl]at e;cases e
  .rw[jf z]at e;rw[fA z];show R.fh b u e
 .let#[v,e1,e2]:=R.slot i w e;show#[v,e1,e2.off f1]
 .by_cases z:m=n
  .subst z;rw[pN (List.getElem?_eq_some_iff.mp hb).1]at e1;cases e1;rw[ha]at e2;cases e2;show#[if_pos zc,aj,fw,aO.eU sd _ dk]
  .rw[nN λq=>z q.symm]at e1;have nb:b≠a:=λq=>z<|lA R.nd e2<|q▸ha;have q:=R.box m c b e1 e2;have fo:F b=ag->v3 F a b=ag:=λz=>by rw[jf nb];show z
   have ho:∀ {u},H b=ae u->upd H a (.dK aj) b=ae u:=λz=>by rw[fA nb];show z
   cases c with
   |lst _=>let#[q1,vs,q2,q3]:=q;show#[fo q1,vs,ho q2,aE.eU sd _ q3]
   |au _=>let#[q1,vs,q2,q3]:=q;show#[fo q1,vs,ho q2,aO.eU sd _ q3]
   |dead=>let#[u,q]:=q;show#[u,ho q]
   |dT _=>let#[q1,vs,q2,q3]:=q;show#[fo q1,vs,ho q2,bY.eU sd _ q3]
   |fD _=>let#[o2,vs,q1,q2,q3]:=q;show#[o2,vs,by rw[jf nb];show q1,ho q2,aO.eU sd _ q3]
   |tb _ _ _=>let#[q0,q1,Yx,q2,q3,q4]:=q;show#[q0,fo q1,Yx,ho q2,q3,λcv e=>let ⟨c,g1,g2⟩:=q4 cv e;#[c,g1,by rw[jf (λz=>by rw[z,f1]at g2;cases g2)];show g2]]
 .rw[fA λz=>hn (by rw[z];show(List.mem_iff_getElem?.mpr #[n,ha]))];show R.keep b u e hn
 .by_cases z:b=a
  .subst z;unfold v3 at e;rw[if_pos rfl]at e;cases e
  .rw[jf z]at e;show R.fs b u e
theorem bC.off (g:bC (upd F a u) r F' r') (k0:F a=ag):bC F r (v3 F' a) r':=#[λb v e=>by
 have nb:=f7 e k0;rw[jf nb];show g.s b v (by rw[fA nb];show e),g.p]
def rN (l:List<|Key×D):List W:=l.map λp=>.d<|Qn p.1
theorem jO (g:F' a=ae (.bQ o<|.dK aj)) (k2:aO F l aj):vS F' r (rN l) (HR a o aj):=λT' i F1 r1 σ1 H1 env1 bx1 g1 R1=>by
 have h:=R1.fh a _<|g1.s a _ g;have hl:=k2.length;refine#[λe=>#[h,by rw[<-hl,<-e];simp[rN]],λw e=>?_];unfold rN at e;rw[kJ]at e;have hi:i<aj.length:=by
  rw[<-hl];cases q:l[i]? with
  |none=>rw[q]at e;cases e
  |some p=>show(List.getElem?_eq_some_iff.mp q).1
 refine#[#[h,hi],λx H2 ⟨e2,k,v,e3,e4⟩=>?_];subst e2 e4;let#[d,e5,_]:=Jd k2 e3;rw[e5]at e;cases e;refine#[F1,.refl F1 r1,R1,?_];cases k<;>show rfl
noncomputable def pK (n:Nat) (bx:List Bx):Option (List Bx):=match bx[n]? with|some (.fD l)=>ae (bx.set n<|.au l)|_=>ag
def v7 (n:Nat):OS->OS
 |.nx env bx=>(match pK n bx with|some b=>.nx env b|none=>.bad)
 |.rt w bx=>(match pK n bx with|some b=>.rt w b|none=>.bad)
 |.exc c bx=>.exc c bx
 |_=>.bad
def v8 (n:Nat):O W->O W
 |.val w bx=>(match pK n bx with|some b=>.val w b|none=>.bad)
 |o=>o
theorem Gn (h:pK n bx=ae b):∃ l,bx[n]?=ae (.fD l) /\ b=bx.set n (.au l):=by
 unfold pK at h;split at h
 .cases h;show#[_,by assumption,rfl]
 .cases h
theorem Pc {D}(k0:F a=ag) (ha:r[n]?=ae a) (nf:NF H₀ a):∀ {q},dj T Z F r D (v7 n q)->dj T Z (upd F a u) r (D.uo H₀) q
 | .nx e b,h=>λF2 r2 σ2 H2 g2 R2=>by
   cases q:pK n b with
   |none=>simp[v7,q]at h;show h.elim
   |some b2=>
     simp[v7,q]at h;let#[l,hl,rfl]:=Gn q;let#[o,aj,f1,h1,R3]:=R2.Yw hl<|g2.at ha;show .inr #[a,o,aj,h1,nf,h _ r2 σ2 _ (g2.off k0) R3]
 | .rt w b,h=>λF2 r2 v H2 g2 R2 dv=>by
   cases q:pK n b with
   |none=>simp[v7,q]at h;show h.elim
   |some b2=>
     simp[v7,q]at h;let#[l,hl,rfl]:=Gn q;let#[o,aj,f1,h1,R3]:=R2.Yw hl<|g2.at ha;show .inr #[a,o,aj,h1,nf,h _ r2 v _ (g2.off k0) R3<|dv.off f1]
 |.exc c b,h=>λF2 r2 H2 g2 R2=>h F2 r2 H2 #[(ia k0).trans g2.s,g2.p] R2
 |.bk _ _,h=>h.elim
 |.ct _ _,h=>h.elim
 |.bad,h=>h.elim
theorem Pd (k0:F a=ag) (ha:r[n]?=ae a) (nf:NF H₀ a):∀ {q},End T Z ck F r σ env Q (v8 n q)->End T Z ck (upd F a u) r σ env (vZ H₀ Q) q
 | .val w b,h=>λF2 r2 v H2 g2 R2 dv=>by
   cases q:pK n b with
   |none=>simp[v8,q]at h;show h.elim
   |some b2=>
     simp[v8,q]at h;let#[l,hl,rfl]:=Gn q;let#[o,aj,f1,h1,R3]:=R2.Yw hl<|g2.at ha;show .inr #[a,o,aj,h1,nf,h _ r2 v _ (g2.off k0) R3<|dv.off f1]
 |.exc c b,h=>λF2 r2 H2 g2 R2=>h F2 r2 H2 #[(ia k0).trans g2.s,g2.p] R2
 |.bad,h=>h.elim
theorem dj.uo {D}:∀ {q},dj T Z F r D q->dj T Z F r (D.uo H₀) q
 |.nx _ _,h=>λF2 r2 σ2 H2 g2 R2=>.inl<|h F2 r2 σ2 H2 g2 R2
 |.rt _ _,h=>λF2 r2 σ2 H2 g2 R2 d=>.inl<|h F2 r2 σ2 H2 g2 R2 d
 |.bk _ _,h=>λF2 r2 σ2 H2 g2 R2=>.inl<|h F2 r2 σ2 H2 g2 R2
 |.ct _ _,h=>λF2 r2 σ2 H2 g2 R2=>.inl<|h F2 r2 σ2 H2 g2 R2
 |.exc _ _,h=>h
 |.bad,h=>h
theorem End.uo:∀ {q},End T Z ck F r σ env Q q->End T Z ck F r σ env (vZ H₀ Q) q
 |.val _ _,h=>λF2 r2 σ2 H2 g2 R2 d=>.inl<|h F2 r2 σ2 H2 g2 R2 d
 |.exc _ _,h=>h
 |.bad,h=>h
def y0 (i:Nat) (g:DG) (body:aA):aA:=λenv bx=>match env[i]? with
 | some (ae<|.b n)=>(match bx[n]? with
   |some (.au l)=>v7 n<|bR g body (rN l) env<|bx.set n<|.fD l
   |some (.fD l)=>bR g body (rN l) env bx
   |_=>.bad)
 |_=>.bad
theorem MU (e:env[i]?=ae (ae<|.b n)) (h:∀ F' r' a H',bC F r F' r'->Rel T F' r' σ H' env bx->r'[n]?=ae a->Q (.ref a) H'):End T Z ck F r σ env Q (dV i env bx):=by
 unfold dV;rw[e];intro F' r' v H' g R d;let#[a,rfl,ha]:=d;show h F' r' a H' g R ha
theorem To {D}(h:tS T Z (y0 i g m) D σ H):Kv (Yv H₀<|tD T Z<|dV i) (tG T g) (tS T Z m) (D.uo H₀) σ H:=by
 let#[F,r,env,bx,R,h]:=h;unfold y0 at h;split at h
 case h_2=>show h.elim
 ext n e;refine#[F,r,env,bx,R,MU e λF' r' a H' g' R' ha=>?_];split at h
 .ext l hb;let#[k0,aj,k1,k2]:=R'.box n _ a hb ha;show#[a,aj,rfl,.inl #[k1,λo nf=>Mu (R'.bQ hb ha k0 k2) (jO fw k2)<|Pc k0 ha nf<|dj.weak g' h]]
 .ext l hb;let#[o,aj,k0,k1,k2]:=R'.box n _ a hb ha;show#[a,aj,rfl,.inr #[o,k1,Mu R' (jO k0 k2) (dj.weak g' h).uo]]
 .show h.elim
def uq (bo:Bool) (src:List<|Option Nat) (i:Nat) (g:DG) (tf:DE Bool) (te:DE W):DE W:=λenv bx=>match env[i]? with
 | some (ae<|.b n)=>(match bx[n]? with
   |some (.au l)=>v8 n<|fC (bO g tf te (rN l) (eV src env) (bx.set n<|.fD l) []) λl bx2=>cq bo (ae<|.lst l) bx2
   |some (.fD l)=>fC (bO g tf te (rN l) (eV src env) bx []) λl bx2=>cq bo (ae<|.lst l) bx2
   |_=>.bad)
 |_=>.bad
theorem Pe (h:tD T Z (uq bo src i g tf te) σ H Q) :
 He src (Yv H₀<|tD T Z<|dV i) (Hi g) (Hj #[E0,Z.cl] tf) (Hl #[E0,Z.cl] te) σ H (vZ H₀ Q):=by
 let#[F,r,env,bx,R,h]:=h;unfold uq at h;split at h
 case h_2=>show h.elim
 ext n e;refine#[F,r,env,bx,R,MU e λF' r' a H' g' R' ha=>?_];split at h
 .ext l hb;let#[k0,aj,k1,k2]:=R'.box n _ a hb ha;show#[a,aj,rfl,.inl #[k1,λo nf=>FZ (R'.bQ hb ha k0 k2) (jO fw k2)<|Pd k0 ha nf<|End.weak g' h]]
 .ext l hb;let#[o,aj,k0,k1,k2]:=R'.box n _ a hb ha;show#[a,aj,rfl,.inr #[o,k1,FZ R' (jO k0 k2) (End.weak g' h).uo]]
 .show h.elim
theorem LB (i) (bo) (hc:X.calm=ah) (S:t9 X N src scope) (hi:PD X T Z iter<|dV j)
 (hg:∀ T cl s H C fp,sF (X.comp N scope cl s H C fp) T tg g) (hf:∀ T cl s H C fp,PF (X.comp N scope cl s H C fp) ifs<|wX T #[E0,Z.cl] tf) (he:∀ T cl s H C fp,PD (X.comp N scope cl s H C fp) T #[E0,Z.cl] elt te)
 (hN:X.N.Nodup) (xn:X.N[i]?=ae x) (hx:Loc X.env.scope x) (HM:swapsWith (.ListComp elt [#[tg,iter,ifs,0]] scope pos) (ae<|.Name x pos') HN.line X.env=pure ah)
 (HP:X.fn x=ah \/ X.env.scope.names.lookup x=ae .local) (hs:∀ x,foldedSetIterable iter X.env x=pure x):nU X T Z (.Assign [.Name x pos'] (.ListComp elt [#[tg,iter,ifs,0]] scope pos) HN) (fI (uq bo src j g tf te)<|fg i):=PS.imp (Jc (G7 (g:=Hi g) (tf:=Hj _ tf) (te:=Hl _ te) hc S (MT hi) (λcl s H C fp pins s' σ' H' v u Q I rv ⟨T,q⟩=>hg T cl s H C fp pins s' σ' H' v u Q I rv q)
 (λcl s H C fp pins s' σ' H' Q I ⟨T,q⟩=>hf T cl s H C fp pins s' σ' H' Q I q) (λcl s H C fp pins s' σ' H' Q I ⟨T,q⟩=>he T cl s H C fp pins s' σ' H' Q I q) hN xn hx HM HP hs)) λD σ H=>bK λF r env bx R h=>(Pe #[F,r,env,bx,R,End.bJ h λw bx1 F1 r1 v H1 g1 R1 d1 h1=>h1 F1 r1 _ H1 (.refl F1 r1)<|R1.set d1 i])
end L2.DL
namespace HT
open PySem.W
def xr (h:aT) (d:aq) (vs:List ay) (ep:Nat):zm:=∃ o es,h.get? d=ae o /\ o.cls=.type "dict" /\ o.data=.dict es ep /\ es.toList.map (·.key)=vs
theorem xr.at (x:xr h d vs ep) (k:∀ o,h.get? d=ae o->h'.get? d=ae o):xr h' d vs ep:=let ⟨o,es,e,r⟩:=x;#[o,es,k o e,r]

theorem Pf (y:(d==sysModules)=af) (hm:xr s.heap d vs ep)
 (q:Q (.ref s.heap.objs.size) { s with heap:=s.heap.push { cls:=.type "dict_keyiterator",data:=.fields (List.toArray [.ref d,.int 0 0,.int vs.length 0,.int ep 0]) } }):wpAny zj A (pyIter<|.ref d) Q E s:=by
 let#[o,es,e2,c2,d2,ev]:=id hm;have sz:es.size=vs.length:=by rw[<-ev];simp
 have ty:s.TypeIs (.ref d) "dict":=#[o,e2,c2];refine xR ty abE<|hG abE ty PySem.F.entry_dict_iter ?_<|PySem.F.args_dict_iter_1 _;refine ai<|ai<|aal ty ?_;refine ao ?_;change wpAny _ _ (Builtin.Dict.showsAll d >>= _) _ _ s;unfold Builtin.Dict.showsAll;rw[if_neg (by rw[y];show dM)];refine ai<|ao<|ai<|Iw e2 d2<|ai<|Iy e2 d2<|ai<|eG<|ao #[_,rfl, "dict_keyiterator",_,#[_,bF _ zc,rfl],Xk.lookup,?_];simpa[rawInt,sz] using q
theorem Je (hit:s.heap.IsKeyIter it d i vs.length ep) (hm:xr s.heap d vs ep) (hh:A.handled=ag)
 (q:∀ x h',vs[i]?=ae x->h'.IsKeyIter it d (i+1) vs.length ep->Heap.SameBut it s.heap h'->Q (ae x) { s with heap:=h' })
 (qe:∀ h',vs[i]?=ag->Heap.ExtBut it s.heap h'->Q ag { s with heap:=h' }):wpAny zj A (pyNext<|.ref it) Q E s:=by
 let#[o,e1,c1,d1]:=id hit;let#[od,es,e2,c2,d2,ev]:=id hm;have sz:es.size=vs.length:=by rw[<-ev];simp
 unfold pyNext;refine ai<|uE<|qU hit.typeIs Xk<|hG Xk hit.typeIs PySem.F.entry_dict_keyiterator_next ?_<|PySem.F.args_dict_keyiterator_next_1 _;refine ai<|ao<|ai<|ai ?_;first|refine ai (Wz hit.typeIs<|ao<|ai<|vo e1 d1 ?_)|refine ai<|WA hit.typeIs<|ao<|ai<|vo e1 d1 ?_
 simp only[];change wpAny _ _ (if (Value.ref d==Value.none)=ah then _ else _) _ _ s;rw[if_neg (show ¬ ((Value.ref d==Value.none)=ah) from dM)];refine ai<|ao<|ai<|Iw e2 d2 ?_;rw[if_neg (by rw[sz];simp)];refine ai<|ao<|ai<|Iy e2 d2 ?_;rw[if_neg zg];refine ao ?_;rcases wx i vs.length with hl|hl
 .have nT:i<es.size:=by rw[sz];show hl
  simp[nv,abk nT];refine ai ?_;first|refine ai (Wz hit.typeIs<|ao<|ai<|WB hit.typeIs ?_)|refine ai<|WA hit.typeIs<|ao<|ai<|WB hit.typeIs ?_
  change wpAny _ _ (setField (.ref it) 1 (rawInt<|(i)+1) >>= _) _ _ s;refine ai<|qV e1 d1 zg ?_;have h2:(s.heap.update it (Obj.mapFields (·.setIfInBounds 1 (rawInt<|(i)+1)))).IsKeyIter it d (i+1) vs.length ep:=
   #[_,rZ _ e1<|wC<|pP d1 _,(ym ..).trans c1,by rw[pP d1];simp[rawInt]]
  refine ai (ku (ai (WB (s:={ s with heap:=s.heap.update it (Obj.mapFields (·.setIfInBounds 1 (rawInt<|(i:Int)+1))) }) h2.typeIs ?_)));change wpAny _ _ (pure es[i].key) _ _ _;show ao<|ao #[_,rfl,ao<|q _ _ (by rw[<-ev];simp[nT]) h2<|Heap.SameBut.update ..]
 .simp[show ¬ ((i:Int)<0) from by lia,if_false,nv,EM (show es.size<=i by rw[sz];show hl)];refine ai ?_;first|refine ai (Wz hit.typeIs<|ao ?_)|refine ai (WA hit.typeIs<|ao ?_)
  change wpAny _ _ (setField (.ref it) 0 .none >>= _) _ _ s;refine ai<|qV e1 d1 zg ?_;change wpAny _ _ (newExc (.type "StopIteration") [] >>= _) _ _ _;refine ai ?_;simp[newExc,newTuple];refine ai<|eG (ai (m:=firstArgMember _ _)<|xQ (a:=Value.none) (by first|rfl|(simp[firstArgMember];rfl))<|eG ?_ (by size_fits)) (by size_fits);erw[raiseNew];refine ai<|Ew ?_;rw[show A.in1.handled=ag from hh];refine ai<|ao<|Ex ?_;show ai<|xS (T:="StopIteration") (b:=ah) #[_,bF _ zc,rfl] Ez<|ao<|qe _ (qZ hl)<|((Heap.SameBut.update ..).extBut.push _).push _
theorem Ph (hh:A.handled=ag) (kP:d≠it) (vs) (ep):Walks prog w A it [it,d] [it] vs.length (λi v=>vs[i]?=ae v) (λi h=>h.IsKeyIter it d i vs.length ep /\ xr h d vs ep) where
 sub:=λb hb=>by simp at hb;simp[hb]
 frame:=λ_ _ _ st hk=>#[st.1.at λo e=>hk it zg o e,st.2.at λo e=>hk d zg o e]
 item:=λi s Q E hi st hQ=>Je st.1 st.2 hh (λx h' hx h2 sb=>hQ x h' s.toks hx #[h2,st.2.at λo e=>sb.extBut d o kP e] λb o hb e=>sb.extBut b o (λz=>hb (by simp[z])) e) λh' hx _=>by rw[IX]at hx;lia
 done:=λs Q E st hQ=>Je st.1 st.2 hh (λx h' hx _ _=>by simp at hx) λh' _ he=>hQ h' s.toks λb o hb e=>he b o (λz=>hb (by simp[z])) e
 self:=λ_ _ _ _ st hQ=>aam st.1 hQ
theorem Tp (y:(d==sysModules)=af) (vs) (ep):KdlSrc prog w "dict" d d vs.length (λi v=>vs[i]?=ae v) (λh=>xr h d vs ep) where
 type:=λ_ hm=>let ⟨o,_,ho,hc,_⟩:=hm;#[o,ho,hc]
 there:=λ_ hm=>let ⟨_,_,ho,_⟩:=hm;#[bq ho,bq ho]
 keep:=λ_ _ hm hk=>hm.at λo e=>hk d (.inr zc) o e
 notList:=rfl
 notTuple:=rfl
 hint:=λ_ _ _ _ hm hq=>kdl_hint_dict (let ⟨o,_,ho,hc,_⟩:=hm;#[o,ho,hc]) hq
 iter:=λ_ _ hh hm=>#[_,_,(λ_ _ hq=>Pf y hm hq),Ph hh (cw (let ⟨_,_,ho,_⟩:=hm;bq ho)) vs ep,#[#[_,bF _ zc,rfl,rfl],hm.at λo e=>aU _ e]]
end HT
namespace L2
open PySem.W

def ahD (td:TE):TE:=λσ H Q=>td σ H λx H1=>∃ a aj,x=.ref a /\ H1 a=ae (.dT aj) /\ ∀ bs,Paired (λ(q) (b)=>H1 b=ae (.tup<|q.1.map kV)) aj bs->∀ l,H1 l=ag->Q (.ref l) (upd H1 l<|.lst<|bs.map V.ref)
theorem Pi (r:KT H aj xs):Paired (λ(q) (b)=>H b=ae (.tup<|q.1.map kV)) aj (xs.map (·.2.1)):=by
 induction r with
 |nil=>show .nil
 |cons h t ih=>show .cons h.2.1 ih
theorem LC:∀ bs:List aq,Vals (bs.map V.ref) (bs.map Value.ref):=by
 intro l_;induction l_ with
 |nil=>show .nil
 |cons b bs bV=>show .cons zc<|bV
theorem MV (hc:X.calm=ah) (hg:Gl X "list") (hm:X.mg "list"=ag) (ho:PE X o td) (hs:DL.b9 o=ah):PE X (.Call (.Name "list" p) [o] [] pos) (ahD td):=by
 intro pins s σ H Q I h;refine tJ<|iI I hg hm (by decide +kernel:bootBuiltins "list"=ae (.type "list")) ?_ zd<|rfl;refine callWith_type1 ?_ (DL.fE hs [] X.env) zc;rw[DL.fE hs [] X.env];change wpAny _ _ (spliced ((af,eval o X.env)::backTo pos _)) _ _ s;refine wF<|br (ho pins s σ H _ I h) λu s1 x H1 I1 rx hh=>?_;let#[a,aj,ex,ea,q1]:=hh;subst ex;obtain rfl:u=Value.ref a:=rx;let#[zl,hd,xs,rel,dd]:=RT I1.aB ea;let#[ob,es,ep,hq,h2,h3,h4,_,h5]:=id dd;have lx:((xs.map (·.2.1)).map Value.ref).length<=sizeLine:=by rw[aK,aK,<-Paired.length rel];show zl
 refine wD (kdl_call (HT.Tp hd _ ep) (I1.ok.hd hc) #[ob,es,hq,h2.1,h3,by rw[h4,bB,bB];rfl] lx λh' tk acc c hk hD HS=>?_);have ev:acc.toList=(xs.map (·.2.1)).map Value.ref:=by
  apply vq;intro j;by_cases hj:j<acc.size
  .have ej:acc[j]?=ae acc[j]:=by simp
   rw[qw,ej];show(HS.2 j _ ej).symm
  .have h3:=HS.1;rw[qw,EM za,qZ za]
 show#[.ref _,_,(I1.laid (t':=tk) (o:=.lst ((xs.map (·.2.1)).map V.ref)) (λb u e=>hk b u e) (aC _) #[by rw[aK];rw[aK]at lx;show lx,acc.toList,c,(by rw[ev];show LC _),by simpa using hD]),rfl,q1 _ (Pi rel) _<|I1.aB.fresh<|aC _]
def ahE (td:TE):TE:=λσ H Q=>td σ H λx H1=>∃ a aj,x=.ref a /\ Rd H1 a (.dK aj) /\ ∀ l,H1 l=ag->Q (.ref l) (upd H1 l<|.dK aj)
theorem LD (hg:Gl X "dict") (hm:X.mg "dict"=ag) (ho:PE X o td) (hs:DL.b9 o=ah):PE X (.Call (.Name "dict" p) [o] [] pos) (ahE td):=by
 intro pins s σ H Q I h;refine tJ<|iI I hg hm (by decide +kernel:bootBuiltins "dict"=ae (.type "dict")) ?_ zd<|rfl;refine callWith_type1 ?_ (DL.fE hs [] X.env) zc;rw[DL.fE hs [] X.env];change wpAny _ _ (spliced ((af,eval o X.env)::backTo pos _)) _ _ s;refine wF<|br (ho pins s σ H _ I h) λu s1 x H1 I1 rx hh=>?_;let#[a,aj,ex,ea,q1]:=hh;subst ex;obtain rfl:u=Value.ref a:=rx;let#[zl,hd,vs,rel,dd]:=Ap I1.aB ea;show wD<|kt_call_dict hd dd (by rw[<-Paired.length rel];show zl) λh' pG sb=>(#[.ref _,_,(I1.laid (t':=s1.toks) (o:=.dK aj) (λb u e=>(sb.2 b<|cw<|bq e).trans<|aU _ e) (aC _) #[zl,(beq_eq_false_iff_ne.mpr<|wq I1.big),vs,rel,pG]),rfl,q1 _<|I1.aB.fresh<|aC _])
end L2
namespace L2.DL
open PySem.W

theorem Rel.ahF (R:Rel T F r σ H env bx) (hb:H b=ae (.tup vs)):∃ F',bC F r F' r /\ Rel T F' r σ H env bx /\ F' b=ae (.tup vs):=by
 cases q:F b with
 |some u=>
   have:=R.fh b u q;rw[hb]at this;cases this;show#[F,.refl F r,R,q]
 |none=>
   have s:=ia (o:=.tup vs) q;refine#[upd F b<|.tup vs,#[s,qu r],#[λa u e=>?_,λi w e=>?_,R.len,R.nd,λn c a e1 e2=>?_,R.keep,R.new,R.n0,R.sl,λa u e=>?_],fw]
   .by_cases z:a=b
    .subst z;rw[fw]at e;cases e;show hb
    .rw[fA z]at e;show R.fh a u e
   .let#[v,e1,e2]:=R.slot i w e;show#[v,e1,e2.mono s<|qu r]
   .have k:=R.box n c a e1 e2;have ne:∀ {u},H a=ae u->(∀ ys,u≠.tup ys)->upd F b (.tup vs) a=F a:=λ{u} z y=>fA λq=>by rw[q,hb]at z;cases z;show y _ zc
    cases c with
    |lst _=>let#[q1,ws,q2,q3]:=k;show#[(ne q2 λ_ z=>nomatch z).trans q1,ws,q2,aE.mono s _ q3]
    |au _=>let#[q1,ws,q2,q3]:=k;show#[(ne q2 λ_ z=>nomatch z).trans q1,ws,q2,aO.mono s _ q3]
    |dead=>show k
    |dT _=>let#[q1,ws,q2,q3]:=k;show#[(ne q2 λ_ z=>nomatch z).trans q1,ws,q2,bY.mono s _ q3]
    |fD _=>let#[o2,ws,q1,q2,q3]:=k;show#[o2,ws,s _ _ q1,q2,aO.mono s _ q3]
    |tb _ _ _=>let#[q0,q1,Yx,q2,q3,q4]:=k;show#[q0,(ne q2 λ_ z=>nomatch z).trans q1,Yx,q2,q3,λcv e=>let ⟨c,g1,g2⟩:=q4 cv e;#[c,g1,s _ _ g2]]
   .by_cases z:a=b
    .subst z;rw[fw]at e;cases e;show .inl #[_,rfl]
    .rw[fA z]at e;show R.fs a u e
theorem MW:∀ (k:List Key),aE F (k.map Qn) (k.map kV):=by
 intro l_;induction l_ with
 |nil=>show rfl
 |cons k t bV=>show#[_,_,rfl,by cases k<;>show rfl,bV]
abbrev Qo (l:List<|List Key×D):List D:=l.map λq=>.tup<|q.1.map Qn
theorem Rel.qy:∀ {l}{aj}{bs}{F},Rel T F r σ H env bx->bY F l aj->Paired (λ(q) (b)=>H b=ae (.tup<|q.1.map kV)) aj bs->∃ F',bC F r F' r /\ Rel T F' r σ H env bx /\ aE F' (Qo l) (bs.map V.ref)
 | [],_,_,F,R,h,q=>by
   cases (h);cases q;show#[F,.refl F r,R,rfl]
 | (k,d)::l,_,_,F,R,h,q=>by
   let#[v,t,rfl,_,h2]:=h;cases q with
   |@cons _ b _ bs q1 q2=>
     let#[F1,g1,R1,e1]:=R.ahF q1;let#[F2,g2,R2,d2]:=Rel.qy R1 (bY.mono g1.s _ h2) q2;show#[F2,g1.trans g2,R2,V.ref b,_,rfl,#[b,_,rfl,g2.s _ _ e1,MW k],d2]
def Qp (bo:Bool) (m:DE W):DE W:=λenv bx=>fC (m env bx) λx bx1=>match x with
 | .b n=>(match bx1[n]? with
   |some (.dT l)=>cq bo (ae<|.lst<|Qo l) bx1
   |_=>.bad)
 |_=>.bad
def u5 (bo:Bool) (m:DE W):DE W:=λenv bx=>fC (m env bx) λx bx1=>match sW bx1 x with
 |some l=>cq bo (ae<|.au l) bx1
 |none=>.bad
noncomputable def ur (l:List<|List Key×D) (k:List Key) (d:D):List (List Key×D):=
 if (l.any λkv=>decide (kv.1=k))=ah then l.map (λkv=>if kv.1=k then (kv.1,d) else kv) else l++[(k,d)]
theorem bY.any (k):∀ {l}{vs},bY F l vs->(l.any λkv=>decide (kv.1=k))=(vs.any λkv=>decide (kv.1=k))
 |[],_,h=>by cases (h);rfl
 |(k',d')::l,_,⟨v,r,e,h1,h2⟩=>by subst e;simp[tO,bY.any k h2]
theorem bY.map (hv:Den F d v):∀ {l}{vs},bY F l vs->bY F (l.map λkv=>if kv.1=k then (kv.1,d) else kv) (vs.map λkv=>if kv.1=k then (kv.1,v) else kv)
 |[],_,h=>by cases (h);rfl
 | (k',d')::l,_,⟨u,r,e,h1,h2⟩=>by
   subst e;by_cases c:k'=k
   .simp[aM,c];show#[v,_,rfl,hv,bY.map hv h2]
   .simp[aM,c];show#[u,_,rfl,h1,bY.map hv h2]
theorem bY.app (hm:bY F m us):∀ {l}{vs},bY F l vs->bY F (l++m) (vs++us)
 |[],_,h=>by cases (h);show hm
 |(k',d')::l,_,⟨u,r,e,h1,h2⟩=>by subst e;show#[u,_,rfl,h1,bY.app hm h2]
theorem bY.put2 (h:bY F l vs) (hv:Den F d v):bY F (ur l k d) (putK vs k v):=by
 unfold ur putK;rw[bY.any k h];split
 .show bY.map hv h
 .show bY.app (show bY F [(k,d)] _ from#[v,[],rfl,hv,rfl]) h
def uu (m k v:DE W):aA:=λenv bx=>bJ (v env bx) λz bx1=>bJ (m env bx1) λx bx2=>bJ (k env bx2) λy bU=>match x,y,z with
 | .b n,.d (.tup d),.d u=>(match bU[n]?,uY d with
   |some (.dT l),ae k=>if l.length<sizeLine then .nx env (bU.set n<|.dT<|ur l k u) else .bad
   |_,_=>.bad)
 |_,_,_=>.bad
def cb (m:DE W) (k:Str):DE W:=λenv bx=>fC (m env bx) λx bx1=>match x with
 |.m l=>(match l.lookup k with|some n=>.val (.b n) bx1|none=>.bad)
 |_=>.bad
theorem Jf:∀ {l:List _}{as},vQ r (l.map (·.2)) as->l.lookup k=ae n->∃ a,r[n]?=ae a /\ eW (List.zipWith (λk a=>((.inr k.1:Key),V.ref a)) l as) (.inr k)=ae (.ref a)
 |[],_,_,e=>by cases e
 | (x,m)::l,_,h,e=>by
   let#[a,t,rfl,h1,h2]:=h;rw[List.zipWith_cons_cons];rw[nu]at e;cases q:k==x with
   |true=>
     rw[q]at e;cases e;have:k=x:=by simpa using q
     subst this;show#[a,h1,ju zc]
   |false=>
     rw[q]at e;let#[b,e1,e2]:=Jf h2 e;refine#[b,e1,?_];rw[i6 (λz=>by cases z;simp at q)];show e2
theorem Tq (hu:X.A.units+1<cLine) (ho:PD X T Z o ma):PD X T Z (.Subscript o (.Constant (.str k) j q) pos) (cb ma k):=by
 refine PE.imp (G0 hu ho AQ λ_ _=>rfl) λσ H Q=>bK λF r env bx R h=>#[F,r,env,bx,R,End.bind h λx bx1 F1 r1 v H1 g1 R1 d1 h1=>?_];split at h1
 .split at h1
  .ext n e;let#[c,as,rfl,f1,ad]:=d1;let#[a,e1,e2]:=Jf ad e;show#[c,.ref a,rfl,.inl #[_,.inr k,.inl<|R1.fh _ _ f1,rfl,e2.symm],h1 F1 r1 _ H1 (.refl F1 r1) R1 #[a,rfl,e1]]
  .show h1.elim
 .show h1.elim
noncomputable def rO:Nat->Bx
 |0=>.lst []
 |1=>.au []
 |_=>.dT []
noncomputable def adu:Nat->HO
 |0=>.lst []
 |1=>.dK []
 |_=>.dT []
def ahG (n:Nat):TE:=λ_ H Q=>∀ p,H p=ag->Q (.ref p) (upd H p<|adu n)
noncomputable def adv (q:Str×Nat):TE×TE:=(λ_ H Q=>Q (.str q.1) H,ahG q.2)
noncomputable def Qq:List (Str×Nat)->Nat->List (Str×Nat)
 |[],_=>[]
 |q::l,n=>(q.1,n)::Qq l (n+1)
def xt (l:List<|Str×Nat):DE W:=λ_ bx=>if (l.map (·.1)).Nodup /\ l.length<=15 then .val (.m<|Qq l bx.length) (bx++l.map λq=>rO q.2) else .bad

noncomputable abbrev HU (l:List<|Str×Nat) (as:List aq):List (Key×V):=List.zipWith (λk a=>(.inr k.1,V.ref a)) l as
theorem Cw:∀ {l}{r}{H}{bx}{Q},Rel T F r σ H env bx->H p=ae (.dK [])->p∉r ->
 (∀ as H2,Rel T F (r++as) σ H2 env (bx++l.map λq=>rO q.2)->H2 p=ae (.dK [])->p∉r++as->as.length=l.length->Q ((HU l as).map λkv=>(kV kv.1,kv.2)) H2)->K9 (l.map adv) σ H Q
 |[],r,H,bx,Q,R,hp,hn,h=>h [] H (by simpa using R) hp (by simpa using hn) zc
 | (k,n)::l,r,H,bx,Q,R,hp,hn,h=>λq hq=>by
   have c:ua F (upd H q<|adu n) q (rO n):=by
    match n with
    |0=>show#[R.sD hq,[],fw,rfl]
    |1=>show#[R.sD hq,[],fw,rfl]
    |_+2=>show#[R.sD hq,[],fw,rfl]
   have ne:=f7 hp hq;refine Cw (R.KZ hq c) (by rw[fA ne];show hp) (by simp[hn,ne]) λas H2 R2 h2 n2 hl=>?_;show h _ H2 (by simpa using R2) h2 (by simpa using n2) (by simp[hl])
theorem Cy:∀ {l}{acc},((acc++l).map (·.1)).Nodup->xg acc l=acc++l
 |[],acc,_=>(nq acc).symm
 | q::l,acc,h=>by
   have e:putK acc q.1 q.2=acc++[q]:=by
    unfold putK;rw[if_neg];intro z;let#[x,m,e]:=kB.mp z;rw[pO,vz]at h;show h.2.2 x.1 (vw m) q.1 zg<|of_decide_eq_true e
   change xg (putK acc q.1 q.2) l=_;rw[e,Cy (by simpa using h)];simp
theorem D5:∀ {l}{as r},as.length=l.length->vQ (r++as) ((Qq l r.length).map (·.2)) as /\ List.zipWith (λk a=>((.inr k.1:Key),V.ref a)) (Qq l r.length) as=HU l as
 |[],[],_,_=>#[rfl,rfl]
 |[],_::_,_,h=>by cases h
 |q::l,[],_,h=>by cases h
 | q::l,a::as,r,h=>by
   let#[h1,h2]:=D5 (r:=r++[a]) (by simpa using h);rw[cW,nO]at h1;rw[cW]at h2;refine#[#[a,as,rfl,?_,h1],(congrArg _ h2)]
   .rw[pb<|aC _,uF];rfl
theorem Jg:∀ {l}{as},as.length=l.length->(HU l as).map (·.1)=l.map λq=>.inr q.1
 |[],_,_=>rfl
 |q::l,[],h=>by cases h
 |q::l,a::as,h=>congrArg _<|Jg (by simpa using h)
theorem Rel.own (R:Rel T F r σ H env bx) (hf:F p=ag) (hn:p∉r) (hT:T.H₀ p=ag):Rel T (upd F p u) r σ (upd H p u) env bx:=by
 have s:=ia (o:=u) hf;refine#[λa v e=>?_,λi w e=>?_,R.len,R.nd,λn c a e1 e2=>?_,λa v e m=>?_,R.new,R.n0,R.sl,λa v e=>?_]
 .by_cases z:a=p
  .subst z;rw[fw]at e ⊢;show e
  .rw[fA z]at e ⊢;show R.fh a v e
 .let#[v,e1,e2]:=R.slot i w e;show#[v,e1,e2.mono s<|qu r]
 .have ne:a≠p:=λz=>hn (by rw[<-z];show List.mem_iff_getElem?.mpr #[n,e2]);show(R.box n c a e1 e2).grow s (λz=>by rw[fA ne];show z) λu z=>by rw[fA ne];show z
 .rw[fA (λz=>by rw[z,hT]at e;cases e)];show R.keep a v e m
 .by_cases z:a=p
  .subst z;show .inr<|.inr<|.inl hT
  .rw[fA z]at e;show R.fs a v e
noncomputable def adw:Option aD->Option Str
 |some (.Constant (.str k) _ _)=>ae k
 |_=>ag
noncomputable def adx:aD->Option Bool
 |.Dict [] [] _=>ae ah
 |.List [] _=>ae af
 |_=>ag
theorem Pj (h:adw k=ae x):∃ j p,k=ae (.Constant (.str x) j p):=by
 rcases k with _|e<;>try cases h
 cases e<;>try cases h
 rename_i v _ _;cases v<;>cases h;show#[_,_,rfl]
theorem Pk (h:adx v=ae b):∃ p,v=if b then .Dict [] [] p else .List [] p:=by
 cases v<;>try cases h
 .ext ks vs p;cases ks<;>cases vs<;>cases h;show#[p,rfl]
 .ext es p;cases es<;>cases h;show#[p,rfl]
def Yy (kd:Str->Bool):List (Option aD)->List aD->Option (List<|Str×Nat)
 |[],[]=>ae []
 |k::ks,v::vs=>(adw k).bind λk=>(adx v).bind λb=>(Yy kd ks vs).map ((k,if b then if kd k then 2 else 1 else 0)::·)
 |_,_=>ag
theorem Jh:∀ {ks}{vs}{l},Yy kd ks vs=ae l->Qa X pos ks vs (l.map adv) /\ ks.all (·.isSome)=ah /\ ks.length=vs.length /\ ks.length=l.length
 |[],[],_,h=>by cases h;show#[(λpins s σ H Q I h=>pairTrees_nil_walk #[[],H,I,.nil,h]),rfl,rfl,rfl]
 | k::ks,v::vs,l,h=>by
   let#[x,e1,h]:=Option.bind_eq_some_iff.mp h;let#[t,e2,h]:=Option.bind_eq_some_iff.mp h;let#[m,e,rfl]:=Option.map_eq_some_iff.mp h;let#[_,_,rfl]:=Pj e1;let#[_,rfl]:=Pk e2;let#[a,b,c,d]:=Jh e;refine#[?_,b,by simp[c],by simp[d]];cases t
   .show A7 AQ (PE.imp (Mh i5) λσ H Q h=>#[dJ _,h]) a
   cases kd x
   .show A7 AQ DR a
   .show A7 AQ DS a
end L2.DL
namespace HT
open PySem.W
theorem Pl (A) (s) (p:pJ h v a) (q:pJ h u b) (hl:a.sV b=ah):∃ e,SeqAt.EqAt A s v u e /\ (e=ah ↔ a=b):=by
 cases a with
 |i n=>
   cases b with
   |i m=>let#[t,rfl]:=p;let#[t',rfl]:=q;show#[_,Xl n t m t',by simp]
   |_=>cases hl
 |s x=>
   cases b with
   |s y=>let#[t,rfl]:=p;let#[t',rfl]:=q;show#[_,Xm x t y t',by simp]
   |_=>cases hl
theorem Pm (A) (s) (p:pJ h v a) (q:pJ h u b) (hl:a.sV b=ah) (prog) (w) (E) (Q) (k:Q (.bool<|a.lt b) s) :
 wpAny zj A (richCompare .Lt v u) Q E s:=by
 cases a with
 |i n=>
   cases b with
   |i m=>let#[t,rfl]:=p;let#[t',rfl]:=q;show(aba k)
   |_=>cases hl
 |s x=>
   cases b with
   |s y=>let#[t,rfl]:=p;let#[t',rfl]:=q;show(lt_str k)
   |_=>cases hl
section
open PySem.SeqAt
open PySem.AutoSeq1 (wpAny_loadPart')
open PySem.MeetsSeq PySem.MeetsSeq2 PySem.MeetsSeq3
theorem B4 (l b) (items u6) (n n2) (dd vH) (sl tX) (h0) (x y) (hi:kg h0 items.toList x) (hj:kg h0 u6.toList y) (hl:kQ x y=ah) :
 Meets (Builtin.«tuple.__lt__» #[[.ref l,.ref b],[]])
  (λ_ R s=>s.heap.get? l=ae { cls:=.type "tuple",dict:=dd,data:=.seq items n,slots:=sl } /\ s.heap.get? b=ae { cls:=.type "tuple",dict:=vH,data:=.seq u6 n2,slots:=tX } /\
   R (.ok<|.ret<|.bool<|cZ x y) s):=
 .of_wp λprog w A R s h=>by
  let#[hp,g,d,tk,os]:=s;let#[nT,hb,h]:=h;have f2:=ae4;have z1:items.size=x.length:=by rw[<-hi.length];simp
  have z2:u6.size=y.length:=by rw[<-hj.length];simp
  wp_walk using wpAny_loadPart' nT,wpAny_loadPart' hb,wpAny_forIn_list _ (λrest b s'=>b.1=ag /\ s'=#[hp,g,d,tk,os] /\ ∃ (vs ws:List ay) (p q:List bH),rest=vs.zip ws /\
   kg h0 vs p /\ kg h0 ws q /\ kQ p q=ah /\ p.length+u6.size=q.length+items.size /\ R (.ok<|.ret<|.bool<|cZ p q) #[hp,g,d,tk,os]) _
  case turn=>
   rintro⟨v,u⟩ rest b s' ⟨Yz,rfl,vs,ws,p,q,hz,hv,hw,hk,hlen,hR⟩;cases hv with
   |nil=>rw[aaJ]at hz;cases hz
   |@cons v' a vs p ha ahH=>
     cases hw with
     |nil=>rw[List.zip_nil_right]at hz;cases hz
     |@cons u' c ws q hc ahI=>
       rw[wz]at hz;injection hz with ahJ ahK;injection ahJ with hy hx;subst hy hx;erw[bE]at hlen;have uL:(a.sV c&&kQ p q)=ah:=hk;rw[aF]at uL;unfold cZ at hR;let#[e,he,ady]:=Pl A.in1 #[hp,g,d,tk,os] ha hc uL.1;refine ai<|he prog w _ _ ?_;cases e with
       |true=>
         rw[if_pos<|ady.mp rfl]at hR
         wp_walk
         show#[rfl,rfl,_,_,_,_,ahK,ahH,ahI,uL.2,by lia,hR]
       |false=>
         rw[if_neg λq=>absurd (ady.mpr q) dM]at hR
         wp_walk using (Pm A.in1 #[hp,g,d,tk,os] ha hc uL.1 prog w)
         show#[_,rfl,by simpa using hR]
  case fin=>
   rintro⟨b1,b2⟩ s' ⟨Yz,rfl,vs,ws,p,q,hz,hv,hw,hk,hlen,hR⟩;simp only at Yz;subst Yz;have hx:cZ p q=decide (items.size<u6.size):=by
    cases hv with
    |nil=>
      cases hw with
      |nil=>erw[rh]at hlen;unfold cZ;show(decide_eq_false za).symm
      |cons c hw=>erw[rh,bE]at hlen;unfold cZ;show(decide_eq_true za).symm
    |cons a hv=>
      cases hw with
      |nil=>erw[rh,bE]at hlen;unfold cZ;show(decide_eq_false za).symm
      |cons c hw=>rw[wz]at hz;cases hz
   rw[hx]at hR
   wp_walk
   show#[_,rfl,by simpa[Builtin.Tuple.tupleCompareSizes] using hR]
  case h=>show⟨rfl,rfl,items.toList,u6.toList,x,y,rfl,hi,hj,hl,by lia,h⟩
end
theorem Pn (hl:IsTup s.heap l items) (hb:IsTup s.heap b u6) (hi:kg s.heap items.toList x) (hj:kg s.heap u6.toList y)
 (hk:kQ x y=ah) (hu:A.units<cLine) (h:Q (.bool<|cZ x y) s):wpAny zj A (compareOp .Lt (.ref l)<|.ref b) Q E s:=by
 let#[#[cls,dd,data,sl],ho,hc,n,hd]:=id hl;let#[#[ach,vH,data2,tX],tY,hZ,n2,hd2]:=id hb;subst hc hd hZ hd2;show richCompare_meets_room (op:=.Lt) #[_,ho,rfl] #[_,tY,rfl] PySem.F.slot_tuple_lt PySem.F.entry_tuple_lt (PySem.F.args_tuple_lt_2 _ _) (B4 l b items u6 n n2 dd vH sl tX s.heap x y hi hj hk)
  #[ho,tY,#[(λx=>nomatch x),h]] hu
end HT
namespace L2.DL
open PySem.W
open HT (bH kQ cZ)
def ahL:R2:=λx y H Q=>∃ F a b vs us l m,x=.ref a /\ y=.ref b /\ Sub F H /\ F a=ae (.tup vs) /\ F b=ae (.tup us) /\ aE F (l.map qf) vs /\ aE F (m.map qf) us /\ kQ l m=ah /\ Q (.bl<|cZ l m) H
theorem Tr (hu:X.A.units<cLine):cE X (compareOp .Lt) ahL:=by
 intro pins s σ H x y v u Q I rx ry h;let#[F,a,b,vs,us,l,m,rfl,rfl,sub,fa,fb,da,db,k,q]:=h;cases rx;cases ry;let#[_,its,r1,p1]:=(I.aB a _<|sub _ _ fa);let#[_,tZ,r2,p2]:=(I.aB b _<|sub _ _ fb);show HT.Pn p1 p2 (by simpa using CW I sub da r1) (by simpa using CW I sub db r2) k hu #[.bl _,H,I,rfl,q]
def eZ:D->D->Option Res
 |.int i,.int j=>ae<|.old<|.bl<|decide (i<j)
 | .tup a,.tup b=>(match ui a,ui b with
   |some l,ae m=>if kQ l m=ah then ae (.old<|.bl<|cZ l m) else ag
   |_,_=>ag)
 |_,_=>ag
noncomputable def forL (k:Nat) (g:DG) (body:aA):Nat->Nat->aA
 |0,_,_,_=>.bad
 | f+1,i,env,bx=>match bx[k]? with
   | some (.lst l)=>(match l[i]? with
     |none=>.nx env bx
     | some x=>match g (.d x) env bx with
       |none=>.bad
       | some (env1,bx1)=>match body env1 bx1 with
         |.nx env2 bx2=>forL k g body f (i+1) env2 bx2
         |.ct env2 bx2=>forL k g body f (i+1) env2 bx2
         |.bk env2 bx2=>.nx env2 bx2
         |o=>o)
   |_=>.bad
def HV (m:DE W) (g:DG) (body:aA):aA:=λenv bx=>bJ (m env bx) λw bx1=>match w with
 |.b k=>forL k g body (Yt bx1 k+1) 0 env bx1
 |_=>.bad

theorem Ts {K}{D}(h:tS T Z (HV mi g m) D σ H):Kv (ab6 K<|tD T Z mi) (tG T g) (tS T Z m) D σ H:=by
 let#[F,r,env,bx,R,h]:=h;refine#[F,r,env,bx,R,End.bJ h λw bx1 F1 r1 v H1 g1 R1 d1 h1=>?_];split at h1
 case h_2=>show h1.elim
 ext k;let#[a,rfl,ha]:=d1;have at_:∀ {F'}{r'}{σ'}{H'}{aP}{bx'}{T'}{l},bC F1 r1 F' r'->Rel T' F' r' σ' H' aP bx'->bx'[k]?=ae (.lst l)->∃ vs,H' a=ae _ /\ aE F' l vs:=λ{F' r' σ' H' aP bx' T' l} g' R' e=>by
  let#[t,et]:=g'.p;let#[_,vs,k1,k2]:=R'.box k _ a e (by rw[<-et,dZ (List.getElem?_eq_some_iff.mp ha).1];show ha);show#[vs,k1,k2]
 have q0:∃ xs,cy K H1 a xs:=by
  unfold forL at h1;split at h1
  .ext l e;let#[vs,k1,_]:=at_ (.refl F1 r1) R1 e;show#[vs,.of k1]
  .show h1.elim
 refine#[a,rfl,q0,λi n σ' H'=>∃ F' r' aP bx',bC F1 r1 F' r' /\ Rel T F' r' σ' H' aP bx' /\ dj T Z F' r' D (forL k g m n i aP bx'),#[_,F1,r1,env,bx1,.refl F1 r1,R1,h1],?_];rintro i n σ' H' ⟨F',r',aP,bx',g',R',h'⟩;cases n with
 |zero=>show h'.elim
 |succ n=>
 unfold forL at h';split at h'
 case h_2=>show h'.elim
 ext l el;let#[ws,k1,k2]:=at_ g' R' el;split at h'
 .ext ei;show .inl #[#[ws,.of k1,by rw[<-k2.length];show IX.mp ei],h' F' r' σ' H' (.refl F' r') R']
 .ext x ei;let#[u,e2,du]:=k2.get ei;refine .inr #[#[ws,u,.of k1,e2],λσ2 H2=>∃ F2 r2 env2 bx2,bC F1 r1 F2 r2 /\ Rel T F2 r2 σ2 H2 env2 bx2 /\ dj T Z F2 r2 D _,λσ2 H2 ⟨F2,r2,env2,bx2,g2,R2,h2⟩=>#[n,n6 _,F2,r2,env2,bx2,g2,R2,h2],λy H2 hy=>?_];let#[rfl,hy]:=hy;have e4:=hy ws<|.of k1;rw[e2]at e4;cases e4;refine#[F',r',aP,bx',.d x,R',du,?_];cases eg:g _ aP bx' with
  |none=>simp[eg]at h';show h'.elim
  |some o=>
    let#[rH,bU]:=o;simp[eg]at h';intro F3 r3 σ3 H3 g3 R3;refine#[F3,r3,rH,bU,R3,?_];have gg:=g'.trans g3;cases em:m rH bU with
    |nx uO dQ=>simp[em]at h';show λF4 r4 σ4 H4 g4 R4=>#[F4,r4,uO,dQ,gg.trans g4,R4,dj.weak (g3.trans g4) h']
    |ct uO dQ=>simp[em]at h';show λF4 r4 σ4 H4 g4 R4=>#[F4,r4,uO,dQ,gg.trans g4,R4,dj.weak (g3.trans g4) h']
    |bk uO dQ=>simp[em]at h';show λF4 r4 σ4 H4 g4 R4=>h' F4 r4 σ4 H4 (g3.trans g4) R4
    |rt w dQ=>simp[em]at h';show dj.weak g3 h'
    |exc c dQ=>simp[em]at h';show dj.weak g3 h'
    |bad=>simp[em]at h';show h'
end L2.DL
namespace L2
open PySem.W
end L2
namespace L2.DL
open PySem.W

def xu (k m:DE W):DE W:=λenv bx=>fC (k env bx) λy bx1=>fC (m env bx1) λx bx2=>match y,x with
 | .d (.tup d),.b n=>(match bx2[n]?,uY d with
   |some (.dT l),ae k=>.val (.d<|.bl (kD l k).isSome) bx2
   |_,_=>.bad)
 |_,_=>.bad
theorem RU (h:tD T Z (xu mb ma) σ H Q):Yd (tD T Z mb) (tD T Z ma) σ H Q:=by
 let#[F,r,env,bx,R,h]:=h;refine#[F,r,env,bx,R,End.bind h λy bx1 F1 r1 u H1 g1 R1 d1 h1=>#[F1,r1,env,bx1,R1,End.bind h1 λx bx2 F2 r2 v H2 g2 R2 d2 h2=>?_]];split at h2
 .let#[a,rfl,ha]:=d2;let#[c,hc,kc]:=R2.eI ha;rw[hc]at h2;split at h2
  .ext l k e1 e2;cases e1;let#[hF,aj,k1,k2]:=kc;let#[b,us,rfl,f1,f2]:=(g2.den d1);cases C0 e2 f2;refine#[a,_,rfl,.inr #[aj,k,b,.inl k1,rfl,R2.fh _ _ f1,rfl],?_];have e:(eW aj k).isSome=(kD l k).isSome:=by
    cases q:kD l k with
    |none=>rw[k2.get.2 q];rfl
    |some w=>let#[v2,e3,_]:=k2.get.1 _ q;rw[e3];rfl
   rw[e];show h2 F2 r2 _ H2 (.refl F2 r2) R2 zc
  .show h2.elim
 .show h2.elim

def Qr (sub:Bool) (i:Nat) (m:DE W):aA:=λenv bx=>match env[i]? with
 |some (ae<|.d<|.int a)=>bJ (m env bx) λw bx1=>(match w with|.d (.int b)=>.nx (env.set i<|ae<|.d<|.int (if sub then a-b else a+b)) bx1|_=>.bad)
 |_=>.bad
theorem U7 {D} (sub) (h:tS T Z (Qr sub i ma) D σ H):ab4 i (tD T Z ma) (ab5 λa b=>if sub then a-b else a+b) D σ H:=by
 let#[F,r,env,bx,R,h]:=h;unfold Qr at h;split at h
 .ext a q;let#[v,e1,e2]:=R.slot i _ q;cases (e2);refine#[.int a,e1,F,r,env,bx,R,End.bJ h λw bx1 F1 r1 u H1 g1 R1 d1 h1=>?_];split at h1
  .ext b;cases (d1);show#[a,b,rfl,rfl,h1 F1 r1 _ H1 (.refl F1 r1)<|R1.set (w:=.d<|.int _) zc i]
  .show h1.elim
 .show h.elim
end L2.DL
namespace K1
open L2 L2.DL
def Bn:aA:=(fJ<|gG (mJ "int"<|dV 0)<|X2<|mJ "bool"<|dV 0)
def jg:List W->List Bx->O W:=aY 1<|aQ Bn
def As:aA:=(fJ<|gG (fq K1.jg 1<|fe (dV 0) fj)<|d3 nE nE (dV 1) (dV 0)<|dV 2)
def f9:List W->List Bx->O W:=aY 3<|aQ As
def Bo:aA:=(fJ<|gG (mJ "tuple"<|dV 0)<|d3 nE nE (dV 1) (dN af cY<|fe (dV 0) fj)<|dV 2)
def gh:List W->List Bx->O W:=aY 3<|aQ Bo
def Au:aA:=(fJ<|dN af eJ<|fe (fO af [ag,ae 0] (uc<|fe zf<|fe (dN af cY<|fe (dV 0) fj) fj) (fg 0) fR<|d2 af eZ (d2 af ak (dV 1)<|d2 af c9 (dV 0) zf)<|d2 af ak (dV 1)<|dV 0) fj)
def ie:List W->List Bx->O W:=aY 1<|aQ Au
def D6:aA:=(fJ<|gG (fq K1.gh 3<|fe (dV 0)<|fe zf<|fe (dC<|.int 5) fj)<|dN af eJ<|fe (fO af [ag] (bG<|dV 0) (fg 0) fR<|fq K1.f9 3<|fe (dV 0)<|fe ze<|fe (dC<|.int 3) fj) fj)
def jP:List W->List Bx->O W:=aY 1<|aQ D6
abbrev _root_.dz.gP:DG:=(gC 2<|fH (fg 0)<|fH (fg 1) gE)
def D7:aA:=(fu (aV (qH (pF<|dB<|fq K1.gh 3<|fe (dV 0)<|fe (d2 af f8 (dC<|.int 3) zf)<|fe (d2 af f8 (dC<|.int 3) zf) fj)<|pF<|dB<|dN af eJ<|fe (fO af [ag] (bG<|dV 0) (fg 0) fR<|fq K1.f9 3<|fe (dV 0)<|fe ze<|fe (dC<|.int 9) fj) fj) (fJ<|dC<|.bl af) bc)<|fJ<|dN af eJ<|fe (fO af [ag,ag] (uR<|fe (dV 0)<|fe (p9 af (dV 0) (p8 zf) qJ) fj) dz.gP fR<|d2 af nE (dV 1)<|dV 0) fj)
def jQ:List W->List Bx->O W:=aY 1<|aQ D7
def LF:aA:=(fJ<|gG (fq K1.gh 3<|fe (dV 0)<|fe (dC<|.int 2)<|fe (dC<|.int 2) fj)<|gG (fq K1.f9 3<|fe (d2 af ak (dV 0) ze)<|fe zf<|fe (dC<|.int 999) fj)<|fq K1.jQ 1<|fe (d2 af ak (dV 0) zf) fj)
def mT:List W->List Bx->O W:=aY 1<|aQ LF
def D8:aA:=(fJ<|gG (fq K1.gh 3<|fe (dV 0)<|fe zf<|fe (dC<|.int 4) fj)<|dN af eJ<|fe (fO af [ag] (bG<|dV 0) (fg 0) fR<|fq K1.mT 1<|fe (dV 0) fj) fj)
def jR:List W->List Bx->O W:=aY 1<|aQ D8
def AF:aA:=(fu (aV (pF<|dB<|fq K1.gh 3<|fe (dV 0)<|fe (dC<|.int 2)<|fe (dC<|.int 2) fj) (fJ<|dC<|.bl af) bc)<|fJ<|gG (dN af eJ<|fe (fO af [ag,ae 1] (bG<|dV 0) (fg 0) fR<|fq K1.f9 3<|fe (dV 0)<|fe ze<|fe (d2 af c9 (dV 1) zf) fj) fj)<|d2 af eZ (d2 af ak (dV 0) ze)<|d2 af ak (dV 0) zf)
def iz:List W->List Bx->O W:=aY 2<|aQ AF
def D9:aA:=(fu (aV (pF<|dB<|mJ "tuple"<|dV 0) (fJ<|dC<|.bl af) bc)<|fJ<|gG (dN af eJ<|fe (fO af [ag,ae 1] (bG<|dV 0) (fg 0) fR<|fq K1.iz 2<|fe (dV 0)<|fe (dV 1) fj) fj)<|fq K1.ie 1<|fe (dV 0) fj)
def jS:List W->List Bx->O W:=aY 2<|aQ D9
def Go:aA:=(fu (aV (pF<|dB<|fq K1.gh 3<|fe (dV 0)<|fe (dC<|.int 4)<|fe (dC<|.int 4) fj) (fJ<|dC<|.bl af) bc)<|fu (fI (dV 0)<|gC 4<|fH (fg 1)<|fH (fg 2)<|fH (fg 3)<|fH (fg 4) gE)<|fJ<|gG (fq K1.jP 1<|fe (dV 1) fj)<|gG (fq K1.jR 1<|fe (dV 2) fj)<|gG (fq K1.jS 2<|fe (dV 3)<|fe (dN af cY<|fe (dV 2) fj) fj)<|fq K1.f9 3<|fe (dV 4)<|fe zf<|fe (dC<|.int 9) fj)
def lG:List W->List Bx->O W:=aY 5<|aQ Go
def jp:aA:=(fu (aV (dB<|d2 af eZ (dV 1)<|vU<|dV 0) (fJ<|Hu (dV 0)<|dV 1) bc)<|fJ ze)
def ig:List W->List Bx->O W:=aY 2<|aQ jp
abbrev YA:aA:=(fu (fI (d2 af ud (d2 af k6 (d2 af f8 (d2 af f8 (d2 af ud (dV 0)<|dC<|.int 2147483629)<|d2 af k6 (dC<|.int 7919)<|dV 2) zf)<|dC<|.int 48271)<|dC<|.int 2147483647)<|fg 3)<|fu (fI (d2 af ud (d2 af f8 (d2 af f8 (d2 af k6 (dV 3)<|dV 3)<|d2 af k6 (dC<|.int 69621)<|dV 2)<|dC<|.int 7)<|dC<|.int 2147483587)<|fg 3)<|fI (d2 af f8 (d2 af k6 (dV 1)<|dC<|.int 2147483587)<|dV 3)<|fg 1)
def jz:aA:=(fu (aV (dB<|d2 af pZ (dV 0)<|d2 af xa (dC<|.int 10)<|dC<|.int 18) (fJ<|gR ah<|fe (d2 af c9 (dV 0)<|d2 af xa (dC<|.int 10)<|dC<|.int 18) fj) bc)<|fu (fI ze<|fg 1)<|fu (ic (d8<|fe (dC<|.int 64) fj) (fg 2) YA)<|fJ<|gR ah<|fe (dV 1) fj)
def jT:List W->List Bx->O W:=aY 4<|aQ jz
def Bp:aA:=(fu (fI (d2 af ud (d2 af ak (dV 0) ze)<|dV 1)<|fg 2)<|fu (fI (d2 af sH (d2 af ak (dV 0) ze)<|dV 1)<|Ht (dV 0) ze)<|fJ<|dV 2)
def fm:List W->List Bx->O W:=aY 3<|aQ Bp
def mL:aA:=(fu (fI (d2 af ak (gR af<|fe (dC<|.int 9)<|fe (dC<|.int 3)<|fe zf<|fe (dC<|.int 9) fj)<|fq K1.fm 2<|fe (dV 0)<|fe (dC<|.int 4) fj)<|fg 1)<|fu (fI (Ya af<|dN af dg<|fe (fO af [ag,ae 0,ae 1] (d8<|fe (dC<|.int 4) fj) (fg 0) fR<|fq K1.fm 2<|fe (dV 1)<|fe (d2 af f8 (dV 2) zf) fj) fj)<|fg 2)<|fJ<|fN<|fe (d2 af ak (gR af<|fe (dC<|.int 30)<|fe (d2 af f8 zf<|fq K1.fm 2<|fe (dV 0)<|fe (dC<|.int 20) fj)<|fe (dC<|.int 999)<|fe (dC<|.int 8) fj)<|fq K1.fm 2<|fe (dV 0)<|fe (dC<|.int 4) fj)<|fe (dN af uP<|fe (dV 2) fj) fj)
def ij:List W->List Bx->O W:=aY 3<|aQ mL
end K1
namespace K2
open L2 L2.DL
def LG:aA:=(fu (fI (d2 af ak (gR af<|fe ze<|fe ze<|fe (d2 af xa (dC<|.int 10)<|dC<|.int 6)<|fe (d2 af xa (dC<|.int 10)<|dC<|.int 39) fj)<|fq K1.fm 2<|fe (dV 0)<|fe (dC<|.int 4) fj)<|fg 3)<|fu (fI (dN af uP<|fe (fO af [ag,ag,ae 3] (bG<|dV 1) dz.gP fR<|fN<|fe (d2 af f8 (dV 0)<|dV 2)<|fe (d2 af f8 (dV 1)<|dV 2) fj) fj)<|fg 4)<|fJ<|fN<|fe (dV 4)<|fe (fO af [ag,ae 3] (bG<|dV 2) (fg 0) fR<|d2 af f8 (fN<|fe (d2 af f8 (d2 af ak (dV 0) ze)<|dV 1) fj)<|p9 af (dV 0) (p8 zf) qJ)<|fe (dV 3) fj)
def mU:List W->List Bx->O W:=aY 5<|aQ LG
abbrev adz:aA:=(fu (gz<|nC (dV 2)<|fN<|fe (dV 3)<|fe (d2 af f8 (d2 af f8 (dV 3) zf)<|fq K1.fm 2<|fe (dV 0)<|fe (dV 1) fj) fj)<|fI (d2 af f8 (d2 af f8 (d2 af ak (d2 af ak (dV 2)<|K8 zf) zf) zf)<|fq K1.fm 2<|fe (dV 0)<|fe (dV 1) fj)<|fg 3)
def Gp:aA:=(fu (eE 2 3<|fe (gR ah fj)<|fe (fq K1.fm 2<|fe (dV 0)<|fe (dV 1) fj) fj)<|fu (ic (d8<|fe (d2 af ak (gR af<|fe ze<|fe zf<|fe (dC<|.int 2)<|fe (dC<|.int 4) fj)<|fq K1.fm 2<|fe (dV 0)<|fe (dC<|.int 4) fj) fj) (fg 4) adz)<|fJ<|dN af uP<|fe (dV 2) fj)
def lH:List W->List Bx->O W:=aY 5<|aQ Gp
def jh:aA:=(fJ<|dN af eJ<|fe (fO af [ag,ag] (uR<|fe (dV 0)<|fe (p9 af (dV 0) (p8 zf) qJ) fj) dz.gP fR<|d2 af eZ (d2 af ak (dV 0) zf)<|d2 af ak (dV 1) ze) fj)
def jU:List W->List Bx->O W:=aY 1<|aQ jh
def Cz:aA:=(fJ<|gG (fq K1.jg 1<|fe (dV 0) fj)<|d2 af pZ (dV 0) ze)
def i7:List W->List Bx->O W:=aY 1<|aQ Cz
def MX:aA:=(fJ<|gG (fq K1.gh 3<|fe (dV 0)<|fe (dC<|.int 2)<|fe (dC<|.int 2) fj)<|gG (fq K2.i7 1<|fe (d2 af ak (dV 0) ze) fj)<|gG (fq K2.i7 1<|fe (d2 af ak (dV 0) zf) fj)<|d2 af eZ (d2 af ak (dV 0) ze)<|d2 af ak (dV 0) zf)
def Aa:List W->List Bx->O W:=aY 1<|aQ MX
def i8:aA:=(fu (fI (d2 af ak (d2 af ak (dV 0) ze)<|dV 2)<|fg 4)<|fu (ic (bG<|dV 1) (gC 2<|fH (fg 5)<|fH (fg 6) gE)<|aV (dB<|d3 nE eZ (dV 5) (dV 3)<|dV 6) (fJ<|dN af maxD<|fe ze<|fe (d2 af c9 (dV 4)<|d2 af sH (d2 af c9 (dV 3)<|dV 5)<|d2 af ak (dV 0)<|dC<|.int 3) fj) bc)<|fJ<|dV 4)
def iJ:List W->List Bx->O W:=aY 7<|aQ i8
def mV:aA:=(fu (fI (d2 af ak (d2 af ak (dV 0) ze)<|dV 2)<|fg 4)<|fu (ic (bG<|dV 1) (gC 2<|fH (fg 5)<|fH (fg 6) gE)<|aV (dB<|d3 nE eZ (dV 5) (dV 3)<|dV 6) (fJ<|dN af maxD<|fe (d2 af c9 (dV 4)<|d2 af sH (d2 af c9 (dV 3)<|dV 5)<|d2 af ak (dV 0)<|dC<|.int 3)<|fe ze fj) bc)<|fJ<|dV 4)
def lI:List W->List Bx->O W:=aY 7<|aQ mV
end K2
namespace bS
open L2 L2.DL
def jV:aA:=(aV (pF<|dB<|fq K1.lG 1<|fe (dV 0) fj) d9 bc)
def iD:List W->List Bx->O W:=aY 1<|aQ jV
end bS
namespace aI
open L2 L2.DL
def Fa:aA:=(fu (fI (dN af uP<|fe (fO af [ag,ae 0] (d8<|fe (d2 af f8 zf<|fq K1.fm 2<|fe (dV 0)<|fe (dC<|.int 5) fj) fj) (fg 0) fR<|fq K1.fm 2<|fe (dV 1)<|fe (dC<|.int 4) fj) fj)<|fg 1)<|fu (fI (dN af uP<|fe (fO af [ag,ae 0] (d8<|fe (d2 af f8 zf<|fq K1.fm 2<|fe (dV 0)<|fe (dC<|.int 4) fj) fj) (fg 0) fR<|fq K1.ij 1<|fe (dV 1) fj) fj)<|fg 2)<|fu (fI (gR af fj)<|fg 3)<|fu (ic (d8<|fe (dN af cY<|fe (dV 2) fj) fj) (fg 4)<|fI (d2 af f8 (dV 3)<|fO af [ag,ae 0,ae 4] (d8<|fe (dV 4) fj) (fg 0) (dB<|d2 af aW (fq K1.fm 2<|fe (dV 1)<|fe (dC<|.int 3) fj) ze)<|fN<|fe (dV 0)<|fe (dV 2) fj)<|fg 3)<|fJ<|fN<|fe (dV 1)<|fe (dV 2)<|fe (dN af uP<|fe (dN af dg<|fe (dV 3) fj) fj)<|fe (d2 af ak (gR af<|fe zf<|fe (dC<|.int 2)<|fe (dC<|.int 9)<|fe (d2 af f8 zf<|fq K1.fm 2<|fe (dV 0)<|fe (dC<|.int 9) fj) fj)<|fq K1.fm 2<|fe (dV 0)<|fe (dC<|.int 4) fj) fj)
def iS:List W->List Bx->O W:=aY 5<|aQ Fa
def lJ:aA:=(fu (fI (dN ah yK<|fe (dV 1) fj)<|fg 2)<|fJ<|fO af [ag,ae 0,ae 2] (bG<|dV 1) (fg 0) fR<|yS (dV 2)<|fq K1.fm 2<|fe (dV 1)<|fe (dN af cY<|fe (dV 2) fj) fj)
def jW:List W->List Bx->O W:=aY 3<|aQ lJ
abbrev Qs:aA:=(fu (fI (d2 af ak (cG (dV 1)<|dV 4) ze)<|fg 5)<|aV (qH (dB<|d2 af (inD af) (fN<|fe (dV 2)<|fe (dV 5) fj)<|d2 af ak (dV 0)<|dC<|.int 2)<|dB<|d2 af (inD af) (fN<|fe (dV 5)<|fe (dV 2) fj)<|d2 af ak (dV 0)<|dC<|.int 2) (gz<|nC (dV 3)<|fN<|fe (dV 4)<|fe (d2 af ak (cG (dV 1)<|dV 4) zf) fj) bc)
def Av:aA:=(fu (fI (gR ah fj)<|fg 3)<|fu (y0 1 (fg 4) Qs)<|fJ<|sQ 3)
def gO:List W->List Bx->O W:=aY 6<|aQ Av
abbrev _root_.cA.g3:DG:=(gC 3<|fH (fg 3)<|fH (fg 4)<|fH (fg 5) gE)
def im:aA:=(fu (fI (p9 af (dV 2) qJ<|p8<|dC<|.int 3) cA.g3)<|fu (fI (cb (dV 1) "there")<|fg 6)<|fu (aV (dB<|d2 af aW (dV 4)<|dC<|.str "in") (fu (aV (dB<|kT af (dV 5)<|cb (dV 1) "came") (fJ<|dC<|.str "there") bc)<|fu (aV (dB<|d2 af (inD af) (d2 af ak (dV 2)<|dC<|.int 4)<|fO af [ag,ag] (bG<|fq aI.gO 3<|fe (dV 0)<|fe (dV 6)<|fe (d2 af ak (dV 2)<|dC<|.int 3) fj) dz.gP fR<|dV 1) (fJ<|dC<|.str "apart") bc)<|fu (qj (cb (dV 1) "came") (dV 5)<|dV 2)<|fu (qj (dV 6) (dV 5)<|fN<|fe (d2 af ak (dV 2)<|dC<|.int 3)<|fe (d2 af ak (dV 2)<|dC<|.int 4) fj)<|fu (uu (cb (dV 1) "doors") (fN<|fe (dV 3)<|fe (d2 af ak (dV 2)<|dC<|.int 4) fj)<|dC<|.bl ah)<|fJ<|dC<|.str "takes") bc)<|fu (aV (dB<|kT ah (dV 5)<|dV 6) (fJ<|dC<|.str "none") bc)<|fu (fI (cG (dV 6)<|dV 5)<|gC 2<|fH (fg 7)<|fH (fg 8) gE)<|fu (aV (dB<|d2 af aW (dV 4)<|dC<|.str "out") (fu (gz<|yX (dV 6)<|dV 5)<|qj (cb (dV 1) "gone") (dV 5)<|dV 3)<|aV (dB<|d2 af aW (dV 8)<|d2 af ak (dV 2)<|dC<|.int 3) (fJ<|dC<|.str "same")<|aV (dB<|d2 af (inD af) (d2 af ak (dV 2)<|dC<|.int 3)<|fO af [ag,ag,ae 5] (bG<|fq aI.gO 3<|fe (dV 0)<|fe (dV 6)<|fe (dV 7) fj) dz.gP (dB<|d2 af kZ (dV 0)<|dV 2)<|dV 1) (fJ<|dC<|.str "apart")<|fu (qj (dV 6) (dV 5)<|fN<|fe (dV 7)<|fe (d2 af ak (dV 2)<|dC<|.int 3) fj)<|uu (cb (dV 1) "doors") (fN<|fe (dV 3)<|fe (d2 af ak (dV 2)<|dC<|.int 3) fj)<|dC<|.bl ah)<|fu (uu (cb (dV 1) "doors") (fN<|fe (dV 3)<|fe (dV 8) fj)<|dC<|.bl ah)<|fJ<|dC<|.str "takes")
def gm:List W->List Bx->O W:=aY 9<|aQ im
abbrev YB:aA:=(fu (gz<|nC (cb (dV 2) "words")<|fN<|fe (dV 3)<|fe (fq aI.gm 3<|fe (dV 0)<|fe (dV 2)<|fe (dV 3) fj) fj)<|gz<|nC (cb (dV 2) "at")<|fN<|fe (d2 af ak (dV 3) ze)<|fe (u5 af<|cb (dV 2) "there") fj)
def mW:aA:=(fu (fI (xt [("there",1),("came",1),("gone",1),("doors",2),("at",0),("words",0)])<|fg 2)<|fu (ic (bG<|dN af dg<|fe (dV 1) fj) (fg 3) YB)<|fJ<|dV 2)
def lM:List W->List Bx->O W:=aY 4<|aQ mW
def jA:aA:=(fu (eE 2 3<|fe (d2 af c9 (dN af cY<|fe (d2 af ak (dV 0) zf) fj) zf)<|fe (d2 af c9 (dN af cY<|fe (d2 af ak (dV 0) ze) fj) zf) fj)<|fu (aV (dB<|d2 af aW (dV 1)<|dC<|.str "in") (fJ<|fN<|fe (dC<|.int 9)<|fe (dV 2)<|fe (dV 3)<|fe (dC<|.int 999)<|fe (dC<|.int 99) fj) bc)<|fu (aV (dB<|d2 af aW (dV 1)<|dC<|.str "out") (fJ<|fN<|fe (dC<|.int 9) fj) bc)<|fu (aV (dB<|d2 af aW (dV 1)<|dC<|.str "to") (fJ<|fN<|fe (dC<|.int 9)<|fe (dV 3) fj) bc)<|fJ<|fN fj)
def io:List W->List Bx->O W:=aY 4<|aQ jA
def LH:aA:=(fu (aV (qH (pF<|dB<|mJ "tuple"<|dV 1)<|qH (dB<|d2 af eZ (dN af cY<|fe (dV 1) fj)<|dC<|.int 3)<|pF<|dB<|fq K2.i7 1<|fe (d2 af ak (dV 1) ze) fj) (fJ<|dC<|.bl af) bc)<|fu (fI (fq aI.io 2<|fe (dV 0)<|fe (d2 af ak (dV 1) zf) fj)<|fg 2)<|fu (aV (dB<|d2 af kZ (dN af cY<|fe (dV 2) fj)<|d2 af c9 (dN af cY<|fe (dV 1) fj)<|dC<|.int 2) (fJ<|dC<|.bl af) bc)<|fJ<|dN af eJ<|fe (fO af [ag,ag] (uR<|fe (p9 af (dV 1) (p8<|dC<|.int 2) qJ)<|fe (dV 2) fj) dz.gP fR<|fq K1.f9 3<|fe (dV 0)<|fe ze<|fe (dV 1) fj) fj)
def jX:List W->List Bx->O W:=aY 3<|aQ LH
def Fb:aA:=(fu (aV (qH (pF<|dB<|mJ "list"<|dV 1)<|dB<|d2 af nW (dN af cY<|fe (dV 1) fj)<|dC<|.int 16) (fJ<|dC<|.bl af) bc)<|fJ<|gG (dN af eJ<|fe (fO af [ag,ae 0] (bG<|dV 1) (fg 0) fR<|fq aI.jX 2<|fe (dV 1)<|fe (dV 0) fj) fj)<|fq K1.ie 1<|fe (dN af dg<|fe (dV 1) fj) fj)
def jY:List W->List Bx->O W:=aY 2<|aQ Fb
def jZ:aA:=(fu (gz<|fq bS.iD 1<|fe (dV 0) fj)<|aV (pF<|dB<|fq aI.jY 2<|fe (dV 0)<|fe (dV 1) fj) d9 bc)
def iE:List W->List Bx->O W:=aY 2<|aQ jZ
def lN:aA:=(fu (aV (dB<|d2 af aW (d2 af ak (dV 0) zf)<|dC<|.str "in") (fJ<|d2 af ak (dV 0)<|dC<|.int 4) bc)<|fu (aV (dB<|d2 af aW (d2 af ak (dV 0) zf)<|dC<|.str "to") (fJ<|d2 af ak (dV 0)<|dC<|.int 3) bc)<|fJ<|dC .az)
def fU:List W->List Bx->O W:=aY 1<|aQ lN
def Fc:aA:=(fJ<|d2 af (inD ah) (fN<|fe (dN af minD<|fe (dV 1)<|fe (dV 2) fj)<|fe (dN af maxD<|fe (dV 1)<|fe (dV 2) fj) fj)<|d2 af ak (dV 0)<|dC<|.int 2)
def iT:List W->List Bx->O W:=aY 3<|aQ Fc
def mX:aA:=(fu (eE 4 5<|fe (d2 af ak (dV 3) zf)<|fe (d2 af ak (dV 3)<|dC<|.int 2) fj)<|fu (aV (pV (dB<|d2 af aW (dV 4)<|dC<|.str "in")<|dB<|kT af (dV 5)<|dV 1) (fJ<|dC<|.str "there") bc)<|fu (aV (pV (dB<|d2 af kZ (dV 4)<|dC<|.str "in")<|dB<|kT ah (dV 5)<|dV 2) (fJ<|dC<|.str "none") bc)<|fu (aV (dB<|d2 af aW (dV 4)<|dC<|.str "out") (fJ<|dC<|.str "takes") bc)<|fu (fI (fq aI.fU 1<|fe (dV 3) fj)<|fg 6)<|fu (aV (pV (dB<|d2 af aW (dV 4)<|dC<|.str "to")<|dB<|d2 af aW (cG (dV 2)<|dV 5)<|dV 6) (fJ<|dC<|.str "same") bc)<|fu (fI (rG (dB<|d2 af aW (dV 4)<|dC<|.str "in") (d2 af ak (dV 3)<|dC<|.int 3)<|cG (dV 1)<|dV 5)<|fg 7)<|fu (fI (uq af [ag,ae 2,ae 6] 2 (fg 0) (dB<|d2 af aW (cG (dV 1)<|dV 0)<|dV 2)<|dV 0)<|fg 8)<|fu (aV (dB<|dN af eJ<|fe (fO af [ag,ae 0,ae 1,ae 7] (bG<|dV 8) (fg 0) fR<|fq aI.iT 3<|fe (dV 1)<|fe (dV 3)<|fe (cG (dV 2)<|dV 0) fj) fj) (fJ<|dC<|.str "takes") bc)<|fJ<|dC<|.str "apart")
def ji:List W->List Bx->O W:=aY 9<|aQ mX
abbrev rB:aA:=(fu (fI (d2 af ak (dV 5)<|dC<|.int 2)<|fg 6)<|fu (fI (fq aI.ji 4<|fe (dV 0)<|fe (dV 3)<|fe (dV 4)<|fe (dV 5) fj)<|fg 7)<|fu (aV (dB<|d2 af kZ (dV 7)<|dC<|.str "takes") (fu (gz<|nC (dV 2)<|fN<|fe (dV 5)<|fe (dV 7)<|fe (dC .az)<|fe (dC .az) fj) acJ) bc)<|fu (gz<|nC (dV 2)<|fN<|fe (dV 5)<|fe (dV 7)<|fe (yW (dV 4)<|dV 6)<|fe (fq aI.fU 1<|fe (dV 5) fj) fj)<|fu (aV (dB<|d2 af aW (d2 af ak (dV 5) zf)<|dC<|.str "in") (qj (dV 3) (dV 6)<|d2 af ak (dV 5)<|dC<|.int 3) bc)<|aV (dB<|d2 af aW (d2 af ak (dV 5) zf)<|dC<|.str "out") (yY (dV 4)<|dV 6)<|qj (dV 4) (dV 6)<|fq aI.fU 1<|fe (dV 5) fj)
def MY:aA:=(fu (fI (gR ah fj)<|fg 2)<|fu (fI (pI ah [])<|fg 3)<|fu (fI (pI ah [])<|fg 4)<|fu (ic (bG<|dN af dg<|fe (dV 1) fj) (fg 5) rB)<|fJ<|sQ 2)
def C4:List W->List Bx->O W:=aY 8<|aQ MY
end aI
namespace cA
open L2 L2.DL
abbrev pK:aA:=(aV (dB<|d2 af nE (dV 3)<|dV 1) (fI (dV 4)<|fg 2) bc)
def Bq:aA:=(fu (fI (pI af [])<|fg 2)<|fu (HV (cb (dV 0) "at") (gC 2<|fH (fg 3)<|fH (fg 4) gE) pK)<|fJ<|dV 2)
def iM:List W->List Bx->O W:=aY 5<|aQ Bq
abbrev uv:aA:=(fu (aV (dB<|d2 af nW (d2 af ak (dV 3) ze)<|dV 1) acI bc)<|aV (dB<|uk af<|dV 5) (yY (dV 2)<|d2 af ak (dV 3)<|dC<|.int 2)<|qj (dV 2) (d2 af ak (dV 3)<|dC<|.int 2)<|dV 5)
def lO:aA:=(fu (fI (pI ah [])<|fg 2)<|fu (ic (bG<|dV 0) g3 uv)<|fJ<|sQ 2)
def iN:List W->List Bx->O W:=aY 6<|aQ lO
abbrev _root_.aI.g4:DG:=(gC 4<|fH (fg 0)<|fH (fg 1)<|fH (fg 2)<|fH (fg 3) gE)
def B5:aA:=(fJ<|fO af [ag,ag,ag,ag] (bG<|fq aI.C4 2<|fe (dV 0)<|fe (dV 1) fj) aI.g4 (dB<|d2 af aW (dV 1)<|dC<|.str "takes")<|fN<|fe (dV 0)<|fe (dV 2)<|fe (dV 3) fj)
def ip:List W->List Bx->O W:=aY 2<|aQ B5
end cA
namespace bw
open L2 L2.DL
noncomputable section
def Gq:aA:=(fu (fI (fq K2.lI 4<|fe (dV 0)<|fe (dV 1)<|fe (dV 4)<|fe (dV 5) fj)<|fg 6)<|fJ<|d2 af ak (d2 af ak (d2 af ak (d2 af ak (dV 0) zf)<|dV 3) zf)<|dN af maxD<|fe ze<|fe (d2 af c9 (dV 6)<|dN af intD<|fe (xu (fN<|fe (dV 5)<|fe (dV 4) fj)<|cb (dV 2) "doors") fj) fj)
def lP:List W->List Bx->O W:=aY 7<|aQ Gq
def Br:aA:=(fu (gz<|fq bS.iD 1<|fe (dV 0) fj)<|fJ<|gG (fq K1.gh 3<|fe (dV 1)<|fe ze<|fe (dC<|.int 4) fj)<|gG (dN af eJ<|fe (fO af [ag] (bG<|dV 1) (fg 0) fR<|fq K2.Aa 1<|fe (dV 0) fj) fj)<|fq K2.jU 1<|fe (dV 1) fj)
def lR:List W->List Bx->O W:=aY 2<|aQ Br
def Aw:aA:=(aV (pF<|dB<|fq bw.lR 2<|fe (dV 0)<|fe (dV 1) fj) d9 bc)
def iU:List W->List Bx->O W:=aY 2<|aQ Aw
def Fd:aA:=(fu (ic (bG<|dV 0) (gC 3<|fH (fg 2)<|fH (fg 3)<|fH (fg 4) gE)<|aV (pV (dB<|d2 af aW (d2 af ak (dV 2) zf)<|dC<|.str "in")<|dB<|d2 af aW (d2 af ak (dV 2)<|dC<|.int 2)<|dV 1) (fJ<|dV 2) bc)<|fJ<|dC .az)
def iV:List W->List Bx->O W:=aY 5<|aQ Fd
abbrev adA:aA:=(fu (gz<|xq (dV 2)<|gR af<|fe (dV 3)<|fe (dV 4) fj)<|gz<|xq (dV 2)<|fO af [ag,ae 0,ae 3] (uc<|fe zf<|fe (d2 af f8 (dC<|.int 3) zf) fj) (fg 0) fR<|d2 af f8 (dV 2)<|d2 af k6 (dV 0)<|d2 af ak (dV 1)<|dC<|.int 3)
def iq:aA:=(fu (fI (gR ah fj)<|fg 2)<|fu (ic (bG<|dV 1) (gC 2<|fH (fg 3)<|fH (fg 4) gE) adA)<|fJ<|dV 2)
def ja:List W->List Bx->O W:=aY 5<|aQ iq
def Fe:aA:=(fJ<|dN af Qj<|fe (fO af [ag,ag,ag,ae 1,ae 2] (bG<|dV 0) (gC 3<|fH (fg 0)<|fH (fg 1)<|fH (fg 2) gE) fR<|gG (d2 af aW (d2 af ak (dV 0) ze)<|dV 4)<|d2 af (inD af) (dV 3)<|fN<|fe (dV 1)<|fe (dV 2) fj) fj)
def iW:List W->List Bx->O W:=aY 3<|aQ Fe
def Ff:aA:=(fu (fI (fq cA.iN 2<|fe (dV 2)<|fe (dV 4) fj)<|fg 5)<|fu (aV (dB<|kT ah (d2 af ak (dV 3)<|dC<|.int 2)<|dV 5) (fJ ze) bc)<|fu (fI (cG (dV 5)<|d2 af ak (dV 3)<|dC<|.int 2)<|fg 6)<|fu (fI (fq K2.iJ 4<|fe (dV 0)<|fe (dV 1)<|fe (dV 6)<|fe (dV 4) fj)<|fg 7)<|fu (aV (dB<|fq bw.iW 3<|fe (dV 2)<|fe (dV 6)<|fe (dV 4) fj) (fI (dN af maxD<|fe ze<|fe (d2 af c9 (dV 7) zf) fj)<|fg 7) bc)<|fJ<|d2 af ak (d2 af ak (d2 af ak (d2 af ak (dV 0) zf)<|d2 af ak (dV 3)<|dC<|.int 3) zf)<|dV 7)
def iX:List W->List Bx->O W:=aY 8<|aQ Ff
abbrev _root_.K31.Qt:DG:=(gC 3<|fH (fg 5)<|fH (fg 6)<|fH (fg 7) gE)
abbrev adB:aA:=(gz<|xq (dV 4)<|gR af<|fe (d2 af ak (dV 5) ze)<|fe (d2 af f8 (d2 af ak (dV 5) ze) zf) fj)
def Fg:aA:=(fu (fI (fq bw.ja 2<|fe (dV 0)<|fe (dV 1) fj)<|fg 4)<|fu (ic (bG<|dV 2) K31.Qt adB)<|fu (fI (fO af [ag,ae 3] (bG<|dN af yU<|fe (dV 4) fj) (fg 0) (dB<|d2 af pZ (dV 0)<|d2 af ak (dV 1) ze)<|dV 0)<|fg 8)<|fu (fI (d2 af f8 (p9 af (dV 8) (p8 zf) qJ)<|gR af<|fe (dC .az) fj)<|fg 9)<|fJ<|fO af [ag,ag,ae 0,ae 1,ae 2,ae 3] (uR<|fe (dV 8)<|fe (dV 9) fj) dz.gP fR<|fN<|fe (dV 0)<|fe (dV 1)<|fe (fq bw.iX 5<|fe (dV 2)<|fe (dV 3)<|fe (dV 4)<|fe (dV 5)<|fe (dV 0) fj) fj)
def j5:List W->List Bx->O W:=aY 10<|aQ Fg
abbrev _root_.K31.tG:DG:=(gC 3<|fH (fg 6)<|fH (fg 7)<|fH (fg 8) gE)
abbrev YC:aA:=(fu (fI (rG (dB<|uk af<|dV 7) (dV 4)<|dN af minD<|fe (dV 7)<|fe (dV 4) fj)<|fg 9)<|Qr af 5<|d2 af k6 (dV 8)<|dN af maxD<|fe ze<|fe (d2 af c9 (dV 9)<|dV 6) fj)
def LI:aA:=(fu (fI (d2 af ak (dV 3)<|dC<|.int 5)<|fg 5)<|fu (ic (bG<|fq bw.j5 4<|fe (dV 0)<|fe (dV 1)<|fe (dV 2)<|fe (dV 3) fj) K31.tG YC)<|fJ<|dV 5)
def gF:List W->List Bx->O W:=aY 10<|aQ LI
def Gr:aA:=(fJ<|d2 af ak (d2 af ak (d2 af ak (dV 0) zf)<|d2 af ak (dV 1)<|dC<|.int 3) ze)
def iG:List W->List Bx->O W:=aY 2<|aQ Gr
end
end bw
namespace L2.DL

@[simp] theorem fM {k:α->List Bx->O β}:fC (.val a bx) k=k a bx:=rfl
@[simp] theorem Wf {k:α->List Bx->O β}:fC .bad k=.bad:=rfl
@[simp] theorem iA:bJ (.val a bx) k=k a bx:=rfl
@[simp] theorem Wg:bJ (.bad) k=.bad:=rfl
@[simp] theorem Ab {k:α->List Bx->O β}:bindB (.val a bx) k=k a bx:=rfl

@[simp] theorem iO:dV i env bx=match env[i]? with|some (ae w)=>.val w bx|_=>.bad:=rfl
@[simp] theorem Tt:dC d env bx=.val (.d d) bx:=rfl
@[simp] theorem Tu:fj env bx=.val [] bx:=rfl
@[simp] theorem Ji:fe m k env bx=fC (m env bx) λw bx1=>fC (k env bx1) λl bx2=>.val (w::l) bx2:=rfl
@[simp] theorem Po:fq fn n k env bx=fC (k env bx) λws bx1=>if ws.length=n then fn ws bx1 else .bad:=rfl
@[simp] theorem V3:dB m env bx=fC (m env bx) λw bx1=>match w with|.d (.bl k)=>.val k bx1|_=>.bad:=rfl
@[simp] theorem MZ:pV m k env bx=fC (m env bx) λb bx1=>match b with|true=>k env bx1|false=>.val af bx1:=rfl
@[simp] theorem RV:qH m k env bx=fC (m env bx) λb bx1=>match b with|true=>.val ah bx1|false=>k env bx1:=rfl
@[simp] theorem Tv:pF m env bx=fC (m env bx) λb bx1=>.val (!b) bx1:=rfl
@[simp] theorem Pp:gG m k env bx=fC (m env bx) λw bx1=>match w with|.d (.bl ah)=>k env bx1|.d (.bl af)=>.val (.d<|.bl af) bx1|_=>.bad:=rfl
@[simp] theorem VW:X2 m env bx=fC (m env bx) λw bx1=>match w with|.d (.bl k)=>.val (.d<|.bl<|!k) bx1|_=>.bad:=rfl
@[simp] theorem Jj:fR env bx=.val ah bx:=rfl
@[simp] theorem VX:mJ n m env bx=fC (m env bx) λw bx1=>match bN bx1 w with|some d=>.val (.d<|.bl<|vT (sI d) n) bx1|none=>.bad:=rfl
@[simp] theorem M0:d2 b g ma mb env bx=fC (ma env bx) λx bx1=>fC (mb env bx1) λy bx2=>cq b ((bN bx2 x).bind λp=>(bN bx2 y).bind λq=>g p q) bx2:=rfl
@[simp] theorem C5:dN b g k env bx=fC (k env bx) λws bx1=>cq b ((d7 bx1 ws).bind g) bx1:=rfl
@[simp] theorem Wh:d3 g g' ma mb mc env bx=fC (ma env bx) λx bx1=>fC (mb env bx1) λy bx2=>
 fC (cq af ((bN bx2 x).bind λp=>(bN bx2 y).bind λq=>g p q) bx2) λz bU=>match z with
  |.d (.bl ah)=>fC (mc env bU) λw dQ=>cq af ((bN dQ y).bind λp=>(bN dQ w).bind λq=>g' p q) dQ
  |.d (.bl af)=>.val (.d<|.bl af) bU
  |_=>.bad:=rfl
@[simp] theorem Bs:bN bx (.d d)=ae d:=rfl
@[simp] theorem M2:d7 bx []=ae []:=rfl
@[simp] theorem M3:d7 bx (.d d::l)=(d7 bx l).map λt=>d::t:=by
 erw[d7];cases d7 bx l<;>rfl
@[simp] theorem UI:cq b ag bx=.bad:=rfl
@[simp] theorem ir:cq af (ae q) bx=.val (.d q.toD) bx:=by cases q<;>rfl
@[simp] theorem Tw:cq ah (ae<|.lst l) bx=.val (.b bx.length) (bx++[.lst l]):=rfl
@[simp] theorem Jk:(Res.old d).toD=d:=rfl
@[simp] theorem Pq:(Res.tup l).toD=.tup l:=rfl
@[simp] theorem jj:(Res.lst l).toD=.lst l:=rfl
@[simp] theorem VY:(Res.au l).toD=.au l:=rfl
@[simp] theorem V4:bc env bx=.nx env bx:=rfl
@[simp] theorem lU:fu m k env bx=match m env bx with|.nx env1 bx1=>k env1 bx1|o=>o:=rfl
@[simp] theorem Pr:gz m env bx=bJ (m env bx) λ_ bx1=>.nx env bx1:=rfl
@[simp] theorem M4:fJ m env bx=bJ (m env bx) λw bx1=>.rt w bx1:=rfl
@[simp] theorem RW:aV t m k env bx=bJ (t env bx) λb bx1=>match b with|true=>m env bx1|false=>k env bx1:=rfl
@[simp] theorem C6:fI m g env bx=bJ (m env bx) λw bx1=>match g w env bx1 with|some (env1,bx2)=>.nx env1 bx2|none=>.bad:=rfl
@[simp] theorem Tz:ic m g body env bx=bJ (m env bx) λds bx1=>bR g body ds env bx1:=rfl
@[simp] theorem Fh:fg i w env bx=ae (env.set i<|ae w,bx):=rfl
@[simp] theorem VZ:gE [] env bx=ae (env,bx):=rfl
@[simp] theorem U8:fH g k (w::l) env bx=(g w env bx).bind λ(env1,bx1)=>k l env1 bx1:=rfl
@[simp] theorem V0:gC n k (.d<|.tup l) env bx=if l.length=n then k (l.map W.d) env bx else ag:=rfl
@[simp] theorem C7:fO bo src mi g tf te env bx=fC (mi env bx) λds bx1=>fC (bO g tf te ds (eV src env) bx1 []) λl bx2=>cq bo (ae<|.lst l) bx2:=rfl
@[simp] theorem Bu:eV [] env=[]:=rfl
@[simp] theorem Ax:eV (ag::l) env=ag::eV l env:=rfl
@[simp] theorem Ay:eV (ae i::l) env=((env[i]?).bind id)::eV l env:=rfl
@[simp] theorem Jl:bG m env bx=fC (m env bx) λw bx1=>match w with|.d (.lst l)=>.val (l.map W.d) bx1|.d (.tup l)=>.val (l.map W.d) bx1|_=>.bad:=rfl
@[simp] theorem TB:fN k env bx=fC (k env bx) λws bx1=>cq af ((pW ws).bind λl=>if l.length<=sizeLine then ae (.tup l) else ag) bx1:=rfl
@[simp] theorem M5:gR bo k env bx=fC (k env bx) λws bx1=>cq bo ((pW ws).bind λl=>if l.length<=sizeLine then ae (.lst l) else ag) bx1:=rfl
@[simp] theorem U9:pW []=ae []:=rfl
@[simp] theorem TC:pW (.d d::l)=(pW l).map λt=>d::t:=rfl
@[simp] theorem TD:K8 m env bx=fC (m env bx) λw bx1=>match w with|.d (.int i)=>.val (.d<|.int<|-i) bx1|_=>.bad:=rfl
@[simp] theorem Va:p9 bo m l u env bx=fC (m env bx) λx bx1=>fC (l env bx1) λi bx2=>fC (u env bx2) λj bU=>cq bo ((bN bU x).bind λd=>ue d i j) bU:=rfl
@[simp] theorem We:qJ env bx=.val ag bx:=rfl
@[simp] theorem Ps:p8 m env bx=fC (m env bx) λw bx1=>match w with|.d (.int i)=>.val (ae i) bx1|_=>.bad:=rfl
@[simp] theorem V5:Ya bo m env bx=fC (m env bx) λx bx1=>cq bo ((bN bx1 x).bind λd=>match d with|.lst l=>ae (.lst l.reverse)|_=>ag) bx1:=rfl
theorem fY (h:m (ws.map ae++List.replicate (n-ws.length) ag) bx=.rt (.d d) bx):aY n (aQ m) ws bx=.val (.d d) bx:=by
 simp[aY,aQ,DL.envOf,h,pX,pY,IL]
end L2.DL
namespace K1
open L2 L2.DL
noncomputable def wh:D->Bool
 |.int _=>ah
 |_=>af
noncomputable def wi (d:D) (lo hi:Int):Bool:=match d with
 |.int i=>decide (lo<=i)&&decide (i<=hi)
 |_=>af
noncomputable def tl (d:D) (lo hi:Int):Bool:=match d with
 |.tup l=>decide (lo<=(l.length))&&decide ((l.length)<=hi)
 |_=>af
theorem TF (d):vT (sI d) "int"=(match d with|.int _=>ah|.bl _=>ah|_=>af):=by cases d<;>rfl
theorem Pt (d):vT (sI d) "bool"=(match d with|.bl _=>ah|_=>af):=by cases d<;>rfl
theorem TH (d):vT (sI d) "tuple"=(match d with|.tup _=>ah|_=>af):=by cases d<;>rfl
theorem Fi (d) (bx):jg [.d d] bx=.val (.d<|.bl<|wh d) bx:=
 fY (by cases d<;>simp[Bn,TF,Pt,wh])
theorem CA (d) (lo hi) (bx):f9 [.d d,.d<|.int lo,.d<|.int hi] bx=.val (.d<|.bl<|wi d lo hi) bx:=
 fY (by
  cases d<;>simp[As,Fi,wh,wi,nE];ext i;by_cases h:lo<=i<;>simp[h])
theorem M6 (d) (lo hi) (bx):gh [.d d,.d<|.int lo,.d<|.int hi] bx=.val (.d<|.bl<|tl d lo hi) bx:=
 fY (by
  cases d<;>simp[Bo,TH,tl,nE,cY];ext l;by_cases h:lo<=(l.length)<;>simp[h])
theorem C8 (J:bu->zm) (p) (f):∀ (l:List D) (env) (acc),J env ->
 (∀ d∈l,∀ env,J env->∃ aP,g (.d d) env bx=ae (aP,bx) /\ J aP /\ tf aP bx=.val (p d) bx /\ (p d=ah->te aP bx=.val (.d<|f d) bx))->acc.length+l.length<=sizeLine ->
 bO g tf te (l.map W.d) env bx acc=.val (acc++(l.filter p).map f) bx
 |[],env,acc,_,_,_=>by simp[bO]
 | d::l,env,acc,j,h,n=>by
   let#[aP,e1,j',e2,e3]:=h d (bA ..) env j;have n':acc.length<sizeLine:=by simp[bE]at n;lia
   simp[aM,bO,e1,e2];have h':=λx (m)=>h x<|a8 _ m;cases q:p d with
   |false=>
     simp[yc,q];show C8 J p f l aP acc j' h' (by simp[bE]at n;lia)
   |true=>
     simp[yc,q,e3 q,Ab,if_pos n'];rw[C8 J p f l aP _ j' h' (by simp[cW,bE,rh]at n ⊢;lia)];simp
theorem Bv (J:bu->zm) (f) {bx}{l:List D}{env}(j:J env) (h:∀ d∈l,∀ env,J env->∃ aP,g (.d d) env bx=ae (aP,bx) /\ J aP /\ te aP bx=.val (.d<|f d) bx) (n:l.length<=sizeLine) :
 bO g fR te (l.map W.d) env bx []=.val (l.map f) bx:=by
 rw[C8 (tf:=fR) J _ f l env [] j (λd m e je=>let ⟨e',a,b,c⟩:=h d m e je;#[e',a,b,rfl,λ_=>c]) (by simpa using n)];rw[List.filter_eq_self.mpr λ_ _=>rfl];rfl
theorem M7 (l:List D) (p):qI (l.map λd=>D.bl<|p d)=ae (l.map p):=by
 induction l with
 |nil=>rfl
 |cons d l ih=>simp[qI,ih]
@[simp] theorem all_map (l:List D) (p):eJ [.lst<|l.map λd=>D.bl<|p d]=ae (.old<|.bl<|l.all p):=by
 simp[eJ,M7]
def rooms (d:D):Bool:=match d with
 |.tup l=>tl (.tup l) 1 5&&l.all λx=>wi x 0 3
 |_=>af
theorem YD:(5)<=sizeLine:=by decide
theorem Ac {lo}(h:tl (.tup l) lo hi=ah):lo<=(l.length) /\ (l.length)<=hi:=by simpa[tl] using h
noncomputable def xw:List D->Bool
 |x::y::l=>(match x,y with|.int i,.int j=>decide (j<=i)|_,_=>af)&&xw (y::l)
 |_=>ah
def Ea (d:D):Bool:=match d with
 |.tup l=>tl (.tup l) 4 4&&(l.all (λx=>wi x 0 9)&&xw l)
 |_=>af
theorem ahM (h:tl (.tup l) 2 2=ah):∃ a b,l=[a,b]:=by
 have n:=Ac h;obtain⟨a,l,rfl⟩:∃ a t,l=a::t:=ye za;obtain⟨b,l,rfl⟩:∃ a t,l=a::t:=ye (by simp at n;lia);have:l.length=0:=by simp at n;lia
 show#[a,b,by rw[yd this]]
theorem ahN (h:tl (.tup l) 4 4=ah):∃ a b c e,l=[a,b,c,e]:=by
 have n:=Ac h;obtain⟨a,l,rfl⟩:∃ a t,l=a::t:=ye za;obtain⟨b,l,rfl⟩:∃ a t,l=a::t:=ye (by simp at n;lia);obtain⟨c,l,rfl⟩:∃ a t,l=a::t:=ye (by simp at n;lia);obtain⟨e,l,rfl⟩:∃ a t,l=a::t:=ye (by simp at n;lia);have:l.length=0:=by simp at n;lia
 show#[a,b,c,e,by rw[yd this]]
theorem mY {lo}(h:wi x lo hi=ah):∃ i,x=.int i /\ lo<=i /\ i<=hi:=by
 cases x<;>simp[wi]at h;show#[_,rfl,h]
def kind (d:D):Bool:=match d with
 |.tup l=>tl (.tup l) 2 2&&(match l with|[a,b]=>wi a 1 999&&Ea b|_=>af)
 |_=>af
def kinds (d:D):Bool:=match d with
 |.tup l=>tl (.tup l) 1 4&&l.all kind
 |_=>af
def Eb (n:Int) (d:D):Bool:=match d with
 |.tup l=>tl (.tup l) 2 2&&(match l with|[.int a,.int b]=>decide (0<=a)&&decide (a<b)&&decide (b<=n-1)|_=>af)
 |_=>af
noncomputable abbrev dP (p:Int×Int):D:=.tup [.int p.1,.int p.2]
abbrev xP (l:List<|Int×Int):Option W:=ae<|.d<|.lst<|l.map dP
def nH (p q:Int×Int):Bool:=HT.lexLt [p.1,p.2] [q.1,q.2]
noncomputable def rP (p:Int×Int):List HT.bH:=[.i p.1,.i p.2]
theorem Vb (p q):HT.cZ (rP p) (rP q)=nH p q:=by simp[rP,nH,HT.cZ,HT.lexLt,HT.bH.lt]
theorem Vc (p q):eZ (dP p) (dP q)=ae (.old<|.bl<|nH p q):=by
 rw[<-Vb];change (if HT.kQ (rP p) (rP q)=ah then ae _ else ag)=_;show if_pos zc
def v9:List (Int×Int)->Bool
 |p::q::r=>nH p q&&v9 (q::r)
 |_=>ah
theorem Bw:∀ ps,v9 ps=(List.range<|ps.length-1).all λi=>nH (ps.getD i (0,0)) (ps.getD (i+1) (0,0))
 |[]=>rfl
 |[p]=>rfl
 | p::q::r=>by
   rw[v9,Bw _];simp[bE,aas];rw[aaK,vp,yf];rfl
theorem Jm {ps:List _}(h:i<ps.length):bM (ps.map dP) (i)=ae (dP<|ps.getD i (0,0)):=by
 unfold bM cR;simp[h]
theorem C9 (e:k env bx=.val [.d<|.int i,.d<|.int j] bx1):uc k env bx=.val (fK i (j-i).toNat) bx1:=by
 unfold uc;rw[e,fM]
theorem lV (e:k env bx=.val [.d<|.int j] bx1) (h:-(2 ^ 62)<=j /\ j<2 ^ 62):d8 k env bx=.val (fK 0 j.toNat) bx1:=by
 unfold d8;rw[e,fM];show if_pos h
theorem Pu (lo) (n):fK lo n=((List.range n).map λ(i:Nat)=>D.int<|lo+(i)).map W.d:=by
 rw[bB];rfl
theorem LJ (ps) (n:ps.length<=sizeLine) (bx):ie [.d<|.tup<|ps.map dP] bx=.val (.d<|.bl<|v9 ps) bx:=
 fY (by
  have s2:sizeLine=16777216:=bj;have r:uc (fe zf<|fe (dN af cY<|fe (dV 0) fj) fj) [ae<|.d<|.tup<|ps.map dP] bx=.val (fK 1 (((ps.length):Int)-1).toNat) bx:=C9 (by simp[cY]);erw[Au,M4,C5,Ji,C7,aM,aaL,bE,rh,uF,List.replicate_zero,nq,r,fM,Pu,Ax,Ay,Bu,aaM,bT,id];rw[Bv (λe=>∃ w,e=[w,ae _]) _ #[ag,rfl] ?_ (by rw[aK,yb];lia)]
  .erw[fM,Tu,ir,jj,M3,M2,pd,bT];rw[all_map,ir,Jk,iA,yf,show ((ps.length:Int)-1).toNat=ps.length-1 by lia];have z:((λx:D=>match x with|.int i=>nH (ps.getD (i.toNat-1) (0,0)) (ps.getD i.toNat (0,0))|_=>af)∘λ(i:Nat)=>D.int<|1+(i:Int))=λi=>nH (ps.getD i (0,0)) (ps.getD (i+1) (0,0)):=by
    funext i;change nH (ps.getD ((1+(i:Int)).toNat-1) (0,0)) (ps.getD (1+(i:Int)).toNat (0,0))=_;rw[show (1+(i:Int)).toNat=i+1 by lia,aas]
   rw[z,<-Bw]
  .intro x m e ⟨w,je⟩;let#[i,mi,rfl]:=a9.mp m;have hi:i<((ps.length:Int)-1).toNat:=List.mem_range.mp mi;refine#[[xN<|1+(i:Int),ae<|.d<|.tup<|ps.map dP],by simp[je],#[_,rfl],?_];have a2:=Jm (ps:=ps) (i:=i+1) za;rw[show ((i+1:Nat):Int)=1+(i:Int) by lia]at a2;erw[M0,iO,Tt,aaM,List.getElem?_cons_succ,fM,Bs,bT,ak,c9,ir,Jk,show 1+(i:Int)-1=(i:Int) by lia,(Jm (ps:=ps) (i:=i) (by lia)),a2,pd,Vc];rw[show (1+(i:Int)).toNat=i+1 by lia];rfl)
noncomputable def YE:D->Option (Int×Int)
 |.tup [.int a,.int b]=>ae (a,b)
 |_=>ag
theorem Jn (ps:List _):(ps.map dP).filterMap YE=ps:=by
 induction ps with
 |nil=>rfl
 |cons p ps ih=>rw[aM,n8,ih];rfl
def apart (n:Int) (d:D):Bool:=match d with
 |.tup l=>l.all (Eb n)&&v9 (l.filterMap YE)
 |_=>af
noncomputable def lenOf:D->Int
 |.tup l=>l.length
 |_=>0
def house (d:D):Bool:=match d with
 |.tup [r,k,p,h]=>rooms r&&(kinds k&&(apart (lenOf k) p&&wi h 1 9))
 |_=>af
end K1
namespace L2.DL
noncomputable def adC:Key->Nat
 |.inl _=>1921
 |.inr x=>(reprText x).length
mutual
noncomputable def wt:D->Nat
 |.az=>4
 |.bl _=>5
 |.int _=>1921
 |.str x=>(reprText x).length
 |.tup l=>3+wa l
 |.lst l=>3+wa l
 |.au l=>3+HW l
noncomputable def wa:List D->Nat
 |[]=>0
 |d::l=>wt d+2+wa l
noncomputable def HW:List (Key×D)->Nat
 |[]=>0
 |(k,d)::l=>adC k+wt d+4+HW l
end
theorem Jo (ts):(Str.join ", " ts).length<=piled ts:=by
 by_cases h:ts=[]
 .subst h;show aC _
 .have:=join_length_add ts h;lia
theorem Db (ts):(tupleText ts).length<=3+piled ts:=by
 unfold tupleText;have h:=Jo ts;have e1:(("("):Str).length=1:=rfl;have e2:((",)"):Str).length=2:=rfl;have e3:((")"):Str).length=1:=rfl;rw[qt,qt];split<;>lia
theorem Az:∀ (ts) (k) (acc),(textFrom k acc ts).length<=acc.length+piled ts
 |[],k,acc=>by change acc.length<=_;lia
 | t::r,k,acc=>by
   have h:=Az r (k+1)<|acc++(if k>0 then ", " else "")++t;have e1:((", "):Str).length=2:=rfl;have e2:((""):Str).length=0:=rfl;rw[qt,qt]at h;rw[WC];change (textFrom _ _ r).length<=_;split at h<;>ext hk<;>simp[hk,if_true,if_false]at h ⊢<;>lia
theorem Fj (ts):(listText ts).length<=3+piled ts:=by
 unfold listText;have h:=Az ts 0 "[";have e1:(("["):Str).length=1:=rfl;have e2:(("]"):Str).length=1:=rfl;rw[qt];lia
theorem Fk (ts):(dictText ts).length<=3+piled ts:=by
 unfold dictText;have h:=Jo ts;have e1:(("{"):Str).length=1:=rfl;have e2:(("}"):Str).length=1:=rfl;rw[qt,qt];lia
theorem Fl {i:Int}(h:i.natAbs.log2<1920):(Str.ofString<|toString i).length<=1921:=by
 have:=int_text_length_le zd h;rw[PySem.ofString_length];show this
mutual
theorem By:∀ (d:D),(toPy d).showable=ah->(toPy d).shown.length<=wt d
 |.az,_=>by erw[toPy,PyData.shown,wt];decide
 |.bl b,_=>by cases b<;>erw[toPy,PyData.shown,wt]<;>decide
 | .int i,h=>by
   erw[toPy,PyData.shown,wt];show Fl (by simpa[toPy,PyData.showable] using h)
 |.str x,_=>by erw[toPy,PyData.shown,wt];show aC _
 | .tup l,h=>by
   erw[toPy,PyData.shown,wt];have:=Ad l (by simpa[toPy,PyData.showable] using h);have:=Db<|PyData.shownAll<|bW l;lia
 | .lst l,h=>by
   erw[toPy,PyData.shown,wt];have:=Ad l (by simpa[toPy,PyData.showable] using h);have:=Fj<|PyData.shownAll<|bW l;lia
 | .au l,h=>by
   erw[toPy,PyData.shown,wt];have:=Fm l (by simpa[toPy,PyData.showable] using h);have:=Fk<|PyData.shownKv<|cz l;lia
theorem Ad:∀ (l:List D),PyData.showableAll (bW l)=ah->piled (PyData.shownAll<|bW l)<=wa l
 |[],_=>by erw[bW,PyData.shownAll,wa];show aC _
 | d::l,h=>by
   erw[bW,PyData.showableAll,aF]at h;have h1:=By d h.1;have h2:=Ad l h.2;erw[bW,PyData.shownAll,wa,WC];lia
theorem Fm:∀ (l:List<|Key×D),PyData.showableKv (cz l)=ah->piled (PyData.shownKv<|cz l)<=HW l
 |[],_=>by erw[cz,PyData.shownKv,HW];show aC _
 | (k,d)::l,h=>by
   erw[cz,PyData.showableKv,aF]at h;have h1:=By d h.1.2;have h2:=Fm l h.2;have e1:((": ":String):Str).length=2:=rfl;have hk:(PyData.shown<|eF k).length<=adC k:=by
    cases k with
    |inl i=>show Fl (by simpa[eF,PyData.showable] using h.1.1)
    |inr x=>show aC _
   erw[cz,PyData.shownKv,HW,WC];rw[qt,qt];lia
end
mutual
noncomputable def ib (B:Nat):D->Bool
 |.int i=>decide (i.natAbs<=B)
 |.tup l=>xx B l
 |.lst l=>xx B l
 |.au l=>Qu B l
 |_=>ah
noncomputable def xx (B:Nat):List D->Bool
 |[]=>ah
 |d::l=>ib B d&&xx B l
noncomputable def Qu (B:Nat):List (Key×D)->Bool
 |[]=>ah
 |(k,d)::l=>(match k with|.inl i=>decide (i.natAbs<=B)|_=>ah)&&ib B d&&Qu B l
end
theorem M8 (hB:B<2 ^ 1900) {i:Int}(h:i.natAbs<=B):i.natAbs.log2<1920:=by
 by_cases h0:i.natAbs=0
 .rw[h0];decide
 .show(aat h0).mpr (kA (xV h hB)<|Nat.pow_le_pow_right zd zd)
mutual
theorem Dc {B:Nat}(hB:B<2 ^ 1900):∀ (d:D),ib B d=ah->(toPy d).showable=ah
 |.az,_=>by simp[toPy,PyData.showable]
 |.bl b,_=>by simp[toPy,PyData.showable]
 | .int i,h=>by
   erw[toPy,PyData.showable,decide_eq_true_eq];show M8 hB (by simpa[ib] using h)
 |.str x,_=>by simp[toPy,PyData.showable]
 | .tup l,h=>by
   erw[toPy,PyData.showable];show Bz hB l (by simpa[ib] using h)
 | .lst l,h=>by
   erw[toPy,PyData.showable];show Bz hB l (by simpa[ib] using h)
 | .au l,h=>by
   erw[toPy,PyData.showable];show Fn hB l (by simpa[ib] using h)
theorem Bz {B:Nat}(hB:B<2 ^ 1900):∀ (l:List D),xx B l=ah->PyData.showableAll (bW l)=ah
 |[],_=>by simp[bW,PyData.showableAll]
 | d::l,h=>by
   erw[xx,aF]at h;erw[bW,PyData.showableAll,Dc hB d h.1,Bz hB l h.2,IH]
theorem Fn {B:Nat}(hB:B<2 ^ 1900):∀ (l:List<|Key×D),Qu B l=ah->PyData.showableKv (cz l)=ah
 |[],_=>by simp[cz,PyData.showableKv]
 | (k,d)::l,h=>by
   erw[Qu,aF]at h;have hk:(eF k).showable=ah:=by
    cases k with
    |inl i=>
      erw[eF,PyData.showable,decide_eq_true_eq];show M8 hB (by simpa using h.1.1)
    |inr x=>simp[eF,PyData.showable]
   erw[cz,PyData.showableKv,hk,Dc hB d h.1.2,Fn hB l h.2,IH]
end
structure Sm (B a b:Nat) (d:D):zm where
 s:ib B d=ah
 e:(toPy d).depth<=a
 w:wt d<=b
structure bp (B a b:Nat) (l:List D):zm where
 s:xx B l=ah
 e:PyData.depthAll (bW l)<=a
 w:wa l<=b
theorem BA (h:Sm B a b d) (hB:B<2 ^ 1900) (ha:a<=60) (hb:b<=sizeLine):rL d=ah:=by
 have hs:=Dc hB d h.s;have:=By d hs;have h1:=h.e;have h2:=h.w;unfold rL;rw[hs,decide_eq_true za,decide_eq_true za];rfl
theorem Sm.mono (h:Sm B a b d) (ha:a<=a') (hb:b<=b'):Sm B a' b' d:=#[h.s,cj h.e ha,cj h.w hb]
theorem bp.mono (h:bp B a b l) (ha:a<=a') (hb:b<=b'):bp B a' b' l:=#[h.s,cj h.e ha,cj h.w hb]
theorem bp.nil:bp B a 0 []:=#[rfl,by simp[bW,PyData.depthAll],aC _]
theorem bp.cons {B a b c}{d}{l}(h:Sm B a b d) (t:bp B a c l):bp B a (b+2+c) (d::l):=
 #[by simp[xx,h.s,t.s],Nat.max_le.mpr #[h.e,t.e],by simp[wa];have:=h.w;have:=t.w;lia]
theorem Sm.tup {B a b}{l}(h:bp B a b l):Sm B (a+1) (3+b) (.tup l):=
 #[by simp[ib,h.s],by simp[toPy,PyData.depth];have:=h.e;lia,by simp[wt];have:=h.w;lia]
theorem Sm.lst {B a b}{l}(h:bp B a b l):Sm B (a+1) (3+b) (.lst l):=
 #[by simp[ib,h.s],by simp[toPy,PyData.depth];have:=h.e;lia,by simp[wt];have:=h.w;lia]
theorem Sm.int (h:i.natAbs<=B):Sm B a 1921 (.int i):=
 #[by simp[ib,h],by simp[toPy,PyData.depth],aC _]
theorem Sm.str:Sm B a (reprText x).length (.str x):=
 #[rfl,by simp[toPy,PyData.depth],aC _]
theorem bp.of:∀ {l},(∀ d∈l,Sm B a b d)->bp B a (l.length*(b+2)) l
 |[],_=>by simpa using bp.nil
 |d::l,h=>(bp.cons (h d<|bA ..)<|bp.of λx m=>h x<|a8 _ m).mono (aC _) (by rw[bE,aap];lia)

theorem fi (h1:m env bx=.val w bx1) (h2:ks env bx1=.val l bx2):fe m ks env bx=.val (w::l) bx2:=by rw[Ji,h1,fM,h2,fM]
theorem Jp:∀ {ds},d7 bx (ds.map W.d)=ae ds
 |[]=>rfl
 |d::ds=>by rw[aM,M3,Jp];rfl
theorem AM:∀ {ds},pW (ds.map W.d)=ae ds
 |[]=>rfl
 |d::ds=>by rw[aM,TC,AM];rfl
theorem iP (ds) (h:ks env bx=.val (ds.map W.d) bx1) (hg:g ds=ae r):dN af g ks env bx=.val (.d r.toD) bx1:=by rw[C5,h,fM,Jp,bT,hg,ir]
theorem fX (ds) (h:ks env bx=.val (ds.map W.d) bx1) (hl:ds.length<=sizeLine):fN ks env bx=.val (.d<|.tup ds) bx1:=by rw[TB,h,fM,AM,bT,if_pos hl,ir,Pq]
theorem lX (ds) (h:ks env bx=.val (ds.map W.d) bx1) (hl:ds.length<=sizeLine):gR af ks env bx=.val (.d<|.lst ds) bx1:=by rw[M5,h,fM,AM,bT,if_pos hl,ir,jj]
theorem jq (ds) (h:ks env bx=.val (ds.map W.d) bx1) (hl:ds.length<=sizeLine):gR ah ks env bx=.val (.b bx1.length) (bx1++[.lst ds]):=by rw[M5,h,fM,AM,bT,if_pos hl];rfl
theorem fF (h1:m env bx=.val (.d x) bx1) (h2:k env bx1=.val (.d y) bx2) (hg:g x y=ae r):d2 af g m k env bx=.val (.d r.toD) bx2:=by rw[M0,h1,fM,h2,fM,Bs,Bs,bT,bT,hg,ir]
theorem fL (h:ks env bx=.val l bx1) (hn:l.length=n) (hf:fn l bx1=.val w bx2):fq fn n ks env bx=.val w bx2:=by rw[Po,h,fM,if_pos hn,hf]
theorem fV (h:m env bx=.val (.d<|.bl b) bx1):dB m env bx=.val b bx1:=by rw[V3,h,fM]
theorem jr (h:t env bx=.val b bx1):pF t env bx=.val (!b) bx1:=by rw[Tv,h,fM]
theorem RX (h:t env bx=.val ah bx1):qH t s env bx=.val ah bx1:=by rw[RV,h,fM]
theorem mM (h:t env bx=.val af bx1) (h2:s env bx1=.val b bx2):qH t s env bx=.val b bx2:=by rw[RV,h,fM,h2]
theorem Ae (h:t env bx=.val af bx1):pV t s env bx=.val af bx1:=by rw[MZ,h,fM]
theorem mZ (h:t env bx=.val ah bx1) (h2:s env bx1=.val b bx2):pV t s env bx=.val b bx2:=by rw[MZ,h,fM,h2]
theorem Dd (h:m env bx=.val (.d<|.bl b) bx1):gG m k env bx=if b then k env bx1 else .val (.d<|.bl af) bx1:=by rw[Pp,h];cases b<;>rfl
theorem gq (h1:mi env bx=.val l bx1) (he:eV src env=e2) (h2:bO g tf te l e2 bx1 []=.val ds bx2):fO af src mi g tf te env bx=.val (.d<|.lst ds) bx2:=by
 subst he;rw[C7,h1,fM,h2,fM,ir,jj]
theorem M9 {lo:DE _}(h1:m env bx=.val (.d x) bx1) (h2:lo env bx1=.val i bx2) (h3:hi env bx2=.val j bU) (hs:ue x i j=ae r):p9 af m lo hi env bx=.val (.d r.toD) bU:=by
 rw[Va,h1,fM,h2,fM,h3,fM,Bs,bT,hs,ir]
theorem Jq (h:m env bx=.val (.d<|.int i) bx1):p8 m env bx=.val (ae i) bx1:=by rw[Ps,h,fM]
theorem gf (h:m env bx=.val (.d<|.lst ds) bx1):bG m env bx=.val (ds.map W.d) bx1:=by rw[Jl,h,fM]
theorem gW (h:m env bx=.val (.d<|.tup ds) bx1):bG m env bx=.val (ds.map W.d) bx1:=by rw[Jl,h,fM]
theorem TJ (h:m env bx=.val (.d<|.int i) bx1):K8 m env bx=.val (.d<|.int<|-i) bx1:=by rw[TD,h,fM]
theorem Pv (h:m env bx=.val (.d d) bx1) (c:rL d=ah):yM m env bx=.val (.d<|.str (toPy d).shown) bx1:=by
 unfold yM;rw[h,fM];show if_pos c
theorem fr (h:a env bx=.nx env1 bx1):fu a b env bx=b env1 bx1:=by rw[lU,h]
theorem gT (h:a env bx=.rt w bx1):fu a b env bx=.rt w bx1:=by rw[lU,h]
theorem gu (h:m env bx=.val w bx1):fI m (fg i) env bx=.nx (env.set i<|ae w) bx1:=by rw[C6,h,iA,Fh]
theorem fS (h:m env bx=.val w bx1):fJ m env bx=.rt w bx1:=by rw[M4,h,iA]
theorem gK (h:m env bx=.val w bx1):gz m env bx=.nx env bx1:=by rw[Pr,h,iA]
theorem gJ (h:t env bx=.val ah bx1):aV t a b env bx=a env bx1:=by rw[RW,h,iA]
theorem gp (h:t env bx=.val af bx1):aV t a b env bx=b env bx1:=by rw[RW,h,iA]
theorem gH (h:mi env bx=.val l bx1):ic mi g body env bx=bR g body l env bx1:=by rw[Tz,h,iA]
theorem gj (h1:g w env bx=ae (env1,bx1)) (h2:body env1 bx1=.nx env2 bx2):bR g body (w::l) env bx=bR g body l env2 bx2:=by
 rw[bR,h1];simp[h2]
theorem Na (h1:g w env bx=ae (env1,bx1)) (h2:body env1 bx1=.rt u bx2):bR g body (w::l) env bx=.rt u bx2:=by
 rw[bR,h1];simp[h2]
theorem j6 (I:Nat->bu->List Bx->zm):∀ (l) (k) (env) (bx),I k env bx ->
 (∀ i w env bx,l[i]?=ae w->I (k+i) env bx->∃ env1 bx1 env2 bx2,g w env bx=ae (env1,bx1) /\ body env1 bx1=.nx env2 bx2 /\ I (k+i+1) env2 bx2) ->
 ∃ aP bx',bR g body l env bx=.nx aP bx' /\ I (k+l.length) aP bx':=by
 intro l;induction l with
 |nil=>intro k env bx h _;show#[env,bx,rfl,h]
 |cons w l ih=>
   intro k env bx h st;let#[env1,bx1,env2,bx2,e1,e2,h2]:=st 0 w env bx zc h;let#[aP,bx',e3,h3]:=ih _ env2 bx2 h2 λi x env bx e hi=>by
    have:=st (i+1) x env bx (by simpa using e) (by rw[show k+(i+1)=k+1+i by lia];show hi);rw[show k+(i+1)+1=k+1+i+1 by lia]at this;show this
   show#[aP,bx',by rw[gj e1 e2,e3],by rw[bE,show k+(l.length+1)=k+1+l.length by lia];show h3]

theorem qS (h:m env bx=.val w bx1) (k:b (env.set i<|ae w) bx1=o):fu (fI m<|fg i) b env bx=o:=(fr<|gu h).trans k
theorem qG (h:m env bx=.val w bx1) (hg:g w env bx1=ae (env2,bx2)) (k:b env2 bx2=o):fu (fI m g) b env bx=o:=by
 rw[lU,C6,h,iA,hg];show k
theorem qF (h:t env bx=.val af bx1) (k:b env bx1=o):fu (aV t c bc) b env bx=o:=(fr<|(gp h)).trans k
theorem qR (h:t env bx=.val ah bx1) (k:m env bx1=.val w bx2):fu (aV t (fJ m) bc) b env bx=.rt w bx2:=gT<|(gJ h).trans<|fS k
theorem qE (h:m env bx=.val w bx1) (k:b env bx1=o):fu (gz m) b env bx=o:=(fr<|gK h).trans k
theorem cV (hf:fn l bx1=.val w bx2) (h:ks env bx=.val l bx1:=by rfl) (hn:l.length=n:=by rfl):fq fn n ks env bx=.val w bx2:=fL h hn hf
theorem u7 {α:Type}{e}{E:α->bu}{J:bu->zm} (p) (f) (hJ:∀ a,J<|E a):∀ (l:List α) (env:bu) (acc:List D),acc.length+l.length<=sizeLine->J env ->
 (∀ a∈l,∀ env,J env->g (.d<|e a) env B=ae (E a,B))->(∀ a∈l,tf (E a) B=.val (p a) B /\ (p a=ah->te (E a) B=.val (.d<|f a) B))->bO g tf te ((l.map e).map W.d) env B acc=.val (acc++(l.filter p).map f) B
 |[],_,_,_,_,_,_=>by simp[bO]
 | a::l,env,acc,n,j,hg,h=>by
   let#[h1,h2]:=h a<|bA ..;rw[bE]at n;have n':acc.length<sizeLine:=by lia
   have e0:=hg a (bA ..) env j;cases c:p a with
   |false=>
     rw[c]at h1;rw[vt (by simp[c]),<-(u7 p f hJ l _ acc za (hJ a) (λx m=>hg x<|a8 _ m) λx m=>h x<|a8 _ m)];simp[aM,bO,e0,h1,Ab]
   |true=>
     rw[c]at h1;rw[vv c];erw[aM,bO,e0,h1,h2 c,Ab,if_pos n',(u7 p f hJ l _ (acc++[f a]) zh (hJ a) (λx m=>hg x<|a8 _ m) λx m=>h x<|a8 _ m)];simp
end L2.DL
namespace aI
open L2 L2.DL K1
open HT (bH bD kQ cZ lexLt)
inductive Pg where
 |aG (h l k r p w:Int)|to (h l r:Int)|out (h l:Int)
noncomputable def dq:Pg->List bH
 |.aG h l k r p w=>[.i h,.s "in",.i l,.i k,.i r,.i p,.i w]
 |.to h l r=>[.i h,.s "to",.i l,.i r]
 |.out h l=>[.i h,.s "out",.i l]
def enc (g:Pg):D:=kR<|dq g
theorem De (g):rowOf (enc g)=ae (dq g):=by cases g<;>rfl
theorem Nb:∀ gs:List Pg,rowsOf (gs.map enc)=ae (gs.map dq):=by
 intro l_;induction l_ with
 |nil=>show rfl
 |cons g gs bV=>(simp[rowsOf,De,bV])
theorem Jr (h:dq a=dq b):a=b:=by
 cases a<;>cases b<;>simp[dq]at h<;>simp_all
theorem Pw (h:enc a=enc b):a=b:=by
 have:=De a;rw[h,De]at this;show(Jr<|Option.some.inj this).symm
theorem AN (a b):kQ (dq a) (dq b)=ah:=by cases a<;>cases b<;>rfl
theorem Fo (gs:List Pg):xm (gs.map dq)=ah:=by
 erw[xm,dF,a9];rintro _ ⟨a,_,rfl⟩ _ ⟨b,_,rfl⟩;show AN a b
theorem Nc (h:(g::gs).length<64):dg [.lst<|(g::gs).map enc]=ae (.lst<|(uj<|(g::gs).map dq).map kR):=by
 have e:uf [.lst<|(g::gs).map enc]=ag:=by cases g<;>rfl
 unfold dg;rw[e];erw[Nb,bT,Fo,aK,and_true,if_pos h]
abbrev Qv (gs:List Pg):zm:=gs.Pairwise λa b=>cZ (dq a) (dq b)=ah
theorem TL (nd:gs.Nodup) (h:(gs.map dq).Pairwise λa b=>lexLt (bD b) (bD a)=af):Qv gs:=by
 rw[rX]at h;refine List.Pairwise.imp₂ (λ{a b} (x) (y)=>?_) h nd;rw[<-HT.CV _ _ (AN a b)];cases e:lexLt _ (bD _) with
 |true=>rfl
 |false=>show absurd (Jr<|Bc (AN a b)<|HT.i4 _ _ e x) y
theorem Js (nd:gs.Nodup) (h:gs.length<64):∃ qs,qs.Perm gs /\ Qv qs /\ ∀ g2:List Pg,g2.Perm gs->dg [.lst<|g2.map enc]=ae (.lst<|qs.map enc):=by
 let#[qs,e,p]:=oG (iF _) zc;refine#[qs,p,TL (p.nodup_iff.mpr nd) (by rw[<-e];show iC _),λg2 p2=>?_];cases g2 with
 |nil=>
   have z:=p2.length_eq;have:gs=[]:=by cases gs with|nil=>rfl|cons=>simp at z
   subst this;have:qs=[]:=by have:=p.length_eq;cases qs with|nil=>rfl|cons=>simp at this
   subst this;simp[dg,uf,intsOf,sortI]
 |cons g g2=>
   rw[Nc (by rw[p2.length_eq];show h)];have:=Aq (Fo gs) ((iF _).trans<|p2.map dq)<|iC _;rw[this,e,bB];rfl
theorem TM (a b):eZ (enc a) (enc b)=ae (.old<|.bl<|cZ (dq a)<|dq b):=by
 have:∀ g,∃ l,enc g=.tup l /\ ui l=ae (dq g):=λg=>by cases g<;>show#[_,rfl,rfl]
 let#[l,e1,e3]:=this a;let#[m,f1,f3]:=this b;rw[e1,f1];unfold eZ;simp[e3,f3,AN,if_true]
end aI
namespace K1
open L2 L2.DL
theorem oK:∀ ns,intsOf (ns.map D.int)=ae ns
 |[]=>rfl
 |n::ns=>by rw[aM,intsOf,oK ns];rfl
theorem Jt:∀ ns:List Int,xw (ns.map D.int)=ah ↔ ns.Pairwise (λa b=>b<=a)
 |[]=>by simp[xw]
 |[x]=>by simp[xw]
 | x::y::l=>by
   have ih:=Jt (y::l);erw[aM]at ih ⊢;erw[xw,aF,decide_eq_true_eq,ih];constructor
   .intro ⟨h,p⟩;refine List.pairwise_cons.mpr #[λz m=>?_,p];rcases ba.mp m with rfl|m
    .show h
    .show Int.le_trans ((List.pairwise_cons.mp p).1 z m) h
   .intro p;have q:=List.pairwise_cons.mp p;show#[q.1 y<|bA ..,q.2]
theorem BB {lo}:∀ {l},(l.all λx=>wi x lo hi)=ah->∃ ns:List Int,l=ns.map D.int
 |[],_=>#[[],rfl]
 | d::l,h=>by
   erw[vp,aF]at h;let#[i,rfl,_]:=mY h.1;let#[ns,rfl]:=BB h.2;show#[i::ns,rfl]
noncomputable def pt (bx:List Bx) (n:Nat) (p:Int):List Bx:=bx.set n<|.lst [.int p]
theorem gM:(pt bx n p).length=bx.length:=qY ..
theorem Gu (h:n<bx.length):(pt bx n p)[n]?=ae (.lst [.int p]):=by simp[pt,h]
theorem Fp (h:m (ws.map ae++List.replicate (n-ws.length) ag) bx=.rt (.d d) bx') (l:bx'.length<=bx.length):aY n (aQ m) ws bx=.val (.d d) bx':=by
 simp[aY,aQ,DL.envOf,h,pX,pY,IQ l]
theorem Nd (h:n<bx.length) (p k) (hk:0<k) (vW:k<10 ^ 40):fm [.b n,.d<|.int k] (pt bx n p)=.val (.d<|.int<|p % k) (pt bx n<|p / k):=by
 refine Fp ?_ (by rw[gM,gM];show aC _);have c:yJ p k:=#[hk,vW];simp[Bp,bN,(Gu (p:=p) h),ak,bM,cR,ud,sH,hk,c,Ht];rw[pt,pt,aaN]
theorem jk (h:n<bx.length) (p k) (hk:0<k) (vW:k<1073741824):fm [.b n,.d<|.int k] (pt bx n p)=.val (.d<|.int<|p % k) (pt bx n<|p / k):=Nd h p k hk za
theorem j7 (h0:0<=i) (h1:i<l.length):∃ d,bM l i=ae d /\ d∈l:=by
 refine#[l[i.toNat],?_,tQ za];simp[bM,cR,h0,h1]
def Dr (o:O W) (bx:List Bx) (n:Nat) (P:D->zm):zm:=∃ d p,o=.val (.d d) (pt bx n p) /\ P d
theorem Af (p:Int) (h:0<k):0<=p % k:=abe _ za
theorem Ag (p:Int) (h:0<k):p % k<k:=W8 _ h
theorem Nf (l) (i:Nat) (h:i<=l.length):DL.cutD l (ae<|i) ag=l.drop i:=by
 unfold DL.cutD;rw[HT.OB,HT.DC,WE h];show IQ (by rw[EF];show aC _)
theorem TN (l:List α) (i) (h:i<l.length):bM l (i)=ae l[i]:=by
 simp[bM,cR,h]
theorem Df (J:bu->zm) (P):∀ (l) (env) (p) (acc),J env ->
 (∀ w∈l,∀ env p,J env->∃ aP,g w env (pt bx n p)=ae (aP,pt bx n p) /\ J aP /\ Dr (te aP<|pt bx n p) bx n P)->acc.length+l.length<=sizeLine ->
 ∃ ds p',bO g fR te l env (pt bx n p) acc=.val (acc++ds) (pt bx n p') /\ ds.length=l.length /\ ∀ d∈ds,P d
 |[],env,p,acc,_,_,_=>#[[],p,by simp[bO],rfl,λd m=>by cases m]
 | w::l,env,p,acc,j,h,z=>by
   let#[aP,e1,j',d,q,e2,hd]:=h w (bA ..) env p j;have z':acc.length<sizeLine:=by simp[bE]at z;lia
   let#[ds,p',e3,e4,e5]:=Df J P l aP q (acc++[d]) j' (λx m=>h x<|a8 _ m) (by simp[cW,bE,rh]at z ⊢;lia);refine#[d::ds,p',?_,by simp[e4],λx m=>?_]
   .erw[bO,e1,Jj,Ab,e2,if_pos z',e3];simp
   .rcases ba.mp m with rfl|m
    .show hd
    .show e5 x m
theorem BC (J:bu->zm) (f):∀ (l) (env) (p) (acc),J env ->
 (∀ w∈l,∀ env p,J env->∃ aP b q,g w env (pt bx n p)=ae (aP,pt bx n p) /\ J aP /\ tf aP (pt bx n p)=.val b (pt bx n q) /\ te aP (pt bx n q)=.val (.d<|f w) (pt bx n q))->acc.length+l.length<=sizeLine ->
 ∃ l' p',bO g tf te l env (pt bx n p) acc=.val (acc++l'.map f) (pt bx n p') /\ List.Sublist l' l
 |[],env,p,acc,_,_,_=>#[[],p,by simp[bO],.slnil]
 | w::l,env,p,acc,j,h,z=>by
   let#[aP,b,q,e1,j',e2,e3]:=h w (bA ..) env p j;have z':acc.length<sizeLine:=by simp[bE]at z;lia
   cases b with
   |false=>
     let#[ds,p',e4,e5]:=BC J f l aP q acc j' (λx m=>h x<|a8 _ m) (by simp[bE]at z;lia);show#[ds,p',by simp[bO,e1,e2,Ab,e4],.cons _ e5]
   |true=>
     let#[ds,p',e4,e5]:=BC J f l aP q (acc++[f w]) j' (λx m=>h x<|a8 _ m) (by simp[cW,bE,rh]at z ⊢;lia);refine#[w::ds,p',?_,.cons_cons _ e5];erw[bO,e1,e2,Ab,e3,if_pos z',e4];simp
def digit (d:D):zm:=∃ i,d=.int i /\ 0<=i /\ i<=9
theorem CB:∀ {l},(∀ d∈l,digit d)->∃ ns:List Int,l=ns.map D.int /\ ∀ i∈ns,0<=i /\ i<=9
 |[],_=>#[[],rfl,λ_ m=>by cases m]
 | d::l,h=>by
   let#[i,rfl,h1]:=h d<|bA ..;let#[ns,rfl,h2]:=CB λx m=>h x<|a8 _ m;show#[i::ns,rfl,λx m=>by
    rcases ba.mp m with rfl|m
    .show h1
    .show h2 x m]
theorem Ng (h4:ns.length=4) (h:∀ i∈ns,0<=i /\ i<=9):Ea (.tup ((sortI ns).map D.int).reverse)=ah:=by
 have l4:(sortI ns).length=4:=by rw[(gk ns).length_eq,h4]
 rw[<-List.map_reverse];have a1:tl (.tup<|(sortI ns).reverse.map D.int) 4 4=ah:=by simp[tl,l4]
 have a2:(((sortI ns).reverse.map D.int).all λx=>wi x 0 9)=ah:=by
  rw[yf,dF];intro i m;have:=h i<|(gk ns).mem_iff.mp<|List.mem_reverse.mp m;simp[wi,this.1,this.2]
 erw[Ea,a1,a2,((Jt _).mpr<|List.pairwise_reverse.mpr<|iQ ns),IH]
theorem Px (h:n<bx.length) (p):Dr (ij [.b n]<|pt bx n p) bx n (λd=>kind d=ah):=by
 have t4:=jk h p 4 zd zd;let#[y,e,m]:=j7 (l:=[D.int 9,.int 3,.int 1,.int 9]) (Af p (k:=4) zd) (by change _<(4);show Ag p zd);obtain⟨top,rfl,h0,h9⟩:∃ i:Int,y=.int i /\ 0<=i /\ i<=9:=by
  simp at m;rcases m with rfl|rfl|rfl|rfl<;>show#[_,rfl,by decide,by decide]
 have z4:(4)<=sizeLine:=by decide
 let#[ds,q,e1,e2,e3]:=Df (g:=fg 0) (te:=fq fm 2<|fe (dV 1)<|fe (d2 af f8 (dV 2) zf) fj) (λe=>∃ w,e=[w,xB n,xN top]) digit (bx:=bx) (n:=n) (fK 0 4) [ag,xB n,xN top] (p / 4) [] #[ag,rfl] (by
  intro w _ env p ⟨w0,je⟩;show#[[ae w,xB n,xN top],by simp[je],#[_,rfl],(#[.int<|p % (top+1),p / (top+1),by simp[f8,(jk h p (top+1) (by lia) (by lia))],_,rfl,Af _ za,by have:=Ag p (k:=top+1) za;lia])]) (by
  simp;show z4)
 let#[ns,rfl,eK]:=CB e3;have n4:ns.length=4:=by
  rw[aK]at e2;rw[e2];simp[fK]
 have so:dg [.lst<|ns.map D.int]=ae (.lst<|(sortI ns).map D.int):=by simp[dg,uf,oK,n4]
 have adD:=jk h q 20 zd zd;have tx:=jk h (q / 20) 4 zd zd;have b0:=Af q (k:=20) zd;have b1:=Ag q (k:=20) zd;let#[y,ey,my]:=j7 (l:=[D.int 30,.int<|1+q % 20,.int 999,.int 8]) (Af (q / 20) (k:=4) zd) (by change _<(4:Int);show Ag _ zd);have hy:wi y 1 999=ah:=by
  simp at my;rcases my with rfl|rfl|rfl|rfl
  .rfl
  .simp[wi];lia
  .rfl
  .rfl
 refine#[.tup [y,.tup ((sortI ns).map D.int).reverse],q / 20 / 4,Fp ?_ (by rw[gM,gM];show aC _),by simp[kind,tl,hy,(Ng n4 eK)]];have rg:∀ env bx,d8 (fe (dC<|.int 4) fj) env bx=.val (fK 0 4) bx:=λenv bx=>lV (j:=4) (bx1:=bx) zg zd;have z2:(2:Nat)<=sizeLine:=by decide
 unfold mL;generalize fm=ft at t4 adD tx e1 ⊢;erw[kK]at e1;simp[z4,z2,t4,ak,e,rg,e1,so,adD,tx,f8,ey,uP]
noncomputable def Qw:List HT.bH->Int×Int
 |[.i a,.i b]=>(a,b)
 |_=>(0,0)
theorem Gv:∀ ps:List _,rowsOf (ps.map dP)=ae (ps.map rP):=by
 intro l_;induction l_ with
 |nil=>show rfl
 |cons p ps bV=>(simp[rowsOf,rowOf,ui,Qg,bV,rP])
theorem Ju (ps) (h:ps.length<64):∃ qs:List (Int×Int),qs.Perm ps /\ qs.Pairwise (λa b=>nH b a=af) /\ dg [.lst<|ps.map dP]=ae (.lst<|qs.map dP):=by
 cases ps with
 |nil=>show#[[],.refl _,.nil,by simp[dg,uf,intsOf,sortI]]
 |cons p ps=>
   have pe:=iF<|(p::ps).map rP;have e:(uj<|(p::ps).map rP).map (rP∘Qw)=uj ((p::ps).map rP):=by
    conv=>rhs;rw[<-aaO (uj _)]
    refine rf λx m=>?_;let#[p,_,rfl]:=a9.mp<|pe.mem_iff.mp m;rfl
   refine#[(uj<|(p::ps).map rP).map Qw,?_,?_,?_]
   .have:=pe.map Qw;rw[bB]at this
    rwa [show (Qw∘rP)=id from rfl,aaO]at this
   .have so:=iC<|(p::ps).map rP;rw[<-e,<-bB]at so;show(rX.mp so).imp λ{a b} h=>h
   .change ((rowsOf _).bind λrs=>if rs.length<64 /\ xm rs=ah then ae _ else ag)=_;rw[Gv,bT,if_pos #[by rw[aK];show h,by erw[xm,dF,a9];rintro _ ⟨a,_,rfl⟩ _ ⟨b,_,rfl⟩;rfl],bB]
    conv=>lhs;rw[<-e]
    rw[bB];rfl
theorem Vd (h:nH q p=af) (n:p≠q):nH p q=ah:=by
 cases e:nH p q with
 |true=>rfl
 |false=>
   have:=HT.i4 _ _ e h;simp[List.cons.injEq,and_true]at this;show absurd (Prod.ext this.1 this.2) n
theorem Jv:∀ {qs},qs.Pairwise (λa b=>nH b a=af)->qs.Nodup->v9 qs=ah
 |[],_,_=>rfl
 |[p],_,_=>rfl
 | p::q::r,h,n=>by
   have h1:=List.pairwise_cons.mp h;have n1:=rY.mp n;simp[v9,aF];show#[Vd (h1.1 q<|bA ..) λe=>n1.1 (by rw[e];show bA ..),Jv h1.2 n1.2]
structure HX (k:Nat) (ps:List<|Int×Int):zm where
 nd:ps.Nodup
 b:∀ p∈ps,0<=p.1 /\ p.1<p.2 /\ p.2<(k:Int)
 l:ps.length<=4*k
theorem HX.more {is:List Nat}(s:HX k ps) (s1:is.Sublist<|List.range k) (hk:k<=4):HX (k+1) (ps++is.map λ(i:Nat)=>((i:Int),(k:Int))):=by
 have li:is.length<=k:=by have:=s1.length_le;simpa using this
 refine#[vz.mpr #[s.nd,(rX.mpr<|(s1.nodup List.nodup_range).imp λ{a b} h e=>h (by have z:=congrArg Prod.fst e;lia)),?_],?_,?_]
 .intro a ma b mb e;subst e;let#[i,_,rfl]:=a9.mp mb;have:=(s.b _ ma).2.2;simp at this
 .intro a ma;rcases List.mem_append.mp ma with m|m
  .have:=s.b a m;lia
  .let#[i,mi,rfl]:=a9.mp m;have:=List.mem_range.mp<|s1.subset mi;lia
 .have:=s.l;simp;lia
theorem Dg (e:m env bx=.val [.d<|.int<|k] bx) (hk:k<=1000000):d8 m env bx=.val (fK 0 k) bx:=by
 rw[lV e za,nv]
theorem Py (h:n<bx.length) (p) (x1 x2 x3 x4):∃ (d:D) (q:Int),wi d 1 9=ah /\
 d2 af ak (gR af<|fe zf<|fe (dC<|.int 2)<|fe (dC<|.int 9)<|fe (d2 af f8 zf<|fq fm 2<|fe (dV 0)<|fe (dC<|.int 9) fj) fj) (fq fm 2<|fe (dV 0)<|fe (dC<|.int 4) fj) [xB n,x1,x2,x3,x4] (pt bx n p)=.val (.d d) (pt bx n q):=by
 let#[y,ey,my]:=j7 (l:=[D.int 1,.int 2,.int 9,.int<|1+p % 9]) (Af (p / 9) (k:=4) zd)<|Ag _ zd;have z4:(4)<=sizeLine:=by decide
 refine#[y,p / 9 / 4,?_,?_]
 .simp at my;rcases my with rfl|rfl|rfl|rfl
  .rfl
  .rfl
  .rfl
  .simp[wi];lia
 .simp[(jk h p 9 (by decide) (by decide)),f8,z4,(jk h _ 4 (by decide) (by decide)),ak,ey]

theorem lY (h1:m env bx=.val (.b i) bx1) (Qx:bx1[i]?=ae (.lst l0)) (h2:k env bx1=.val (.d d) bx2) (hb:bx2[i]?=ae (.lst l)) (hl:l.length<sizeLine):nC m k env bx=.val (.d .az) (bx2.set i<|.lst<|l++[d]):=by
 unfold nC;rw[h1,fM];simp[Qx,h2,fM,hb,if_pos hl]


theorem j8 (h:m (ws.map ae++List.replicate (n-ws.length) ag) bx=.rt (.d d) bx'):aY n (aQ m) ws bx=.val (.d d) (bx'.take bx.length):=by
 simp[aY,aQ,DL.envOf,h,pX,pY]
theorem Nh (h:env[k]?=ae (xB i)) (hb:bx[i]?=ae (.lst l)):sQ k env bx=.val (.d<|.lst l) (bx.set i .dead):=by
 unfold sQ;simp[h,hb]
theorem TQ (l) (k:Nat) (bx):∃ c,ig [.s l,.d<|.int<|k] bx=.val (.d<|.int c) bx:=by
 by_cases h:k<l.length
 .refine#[l[k],fY ?_];have h':(k)<(l.length):=by lia
  simp[jp,vU,eZ,h',Hu,(TN l k h)]
 .refine#[0,fY ?_];have h':¬ (k)<(l.length):=by lia
  simp[jp,vU,eZ,h']
theorem Ni (h1:-(2 ^ 64)<i) (h2:i<2 ^ 64):k6 (.int i) (.int j)=ae (.old<|.int<|i*j):=if_pos<|.inl #[h1,h2]
theorem RY (h1:-(2 ^ 64)<j) (h2:j<2 ^ 64):k6 (.int i) (.int j)=ae (.old<|.int<|i*j):=if_pos<|.inr #[h1,h2]
theorem Nj (h1:0<j):ud (.int i) (.int j)=ae (.old<|.int<|i % j):=if_pos h1
theorem Nk (h1:KC i j):xa (.int i) (.int j)=ae (.old<|.int<|i ^ j.toNat):=if_pos h1
theorem LK (c x j) (w) (bx):∃ x' y,YA [xN c,xN x,xN j,w] bx=.nx [xN c,xN x',xN j,xN y] bx:=by
 let a:=(c % 2147483629+7919*j+1)*48271 % 2147483647
 let b:=(a*a+69621*j+7) % 2147483587
 have e1:fI (d2 af ud (d2 af k6 (d2 af f8 (d2 af f8 (d2 af ud (dV 0)<|dC _)<|d2 af k6 (dC _)<|dV 2) zf)<|dC _)<|dC _) (fg 3) [ae _,ae _,ae _,w] bx=.nx [ae _,xN x,xN j,xN a] bx:=
  gu (fF (fF (fF (r:=.old _) (fF (fF zc zc<|Nj zd) (fF zc zc<|Ni zd zd) zc) zc zc) zc<|RY zd zd) zc<|Nj zd)
 have e2:fI (d2 af ud (d2 af f8 (d2 af f8 (d2 af k6 (dV 3)<|dV 3)<|d2 af k6 (dC<|.int 69621)<|dV 2)<|dC<|.int 7)<|dC<|.int 2147483587) (fg 3) [xN c,xN x,xN j,xN a] bx=.nx [xN c,xN x,xN j,xN b] bx:=
  gu (fF (fF (r:=.old _) (fF (fF zc zc<|Ni za za) (fF zc zc<|Ni zd zd) zc) zc zc) zc<|Nj zd)
 have e3:fI (d2 af f8 (d2 af k6 (dV 1)<|dC<|.int 2147483587)<|dV 3) (fg 1) [xN c,xN x,xN j,xN b] bx=.nx [xN c,xN<|x*2147483587+b,xN j,xN b] bx:=
  gu (fF (r:=.old _) (fF zc zc<|RY zd zd) zc zc)
 show#[_,_,by unfold YA;rw[fr e1,fr e2,e3]]
theorem Dh (h:m (ws.map ae++List.replicate (n-ws.length) ag) bx=.rt (.b i) bx'):aY n (aQ m) ws bx=.val (.b i) bx':=by
 simp[aY,aQ,DL.envOf,h,pX,pY]
theorem Ve (c) (bx):∃ p,jT [.d<|.int c] bx=.val (.b bx.length) (bx++[.lst [.int p]]):=by
 have sz:=bj;have adE:∀ e b,d2 af xa (dC _) (dC<|.int 18) e b=.val (.d<|.int<|10 ^ 18) b:=λe b=>fF (r:=.old _) zc zc<|Nk zd;have t:dB (d2 af pZ (dV 0) _) [xN c,ag,ag,ag] bx=.val (decide (10 ^ 18<=c)) bx:=fV<|fF (r:=.old _) zc (adE _ _) zc;by_cases h:10 ^ 18<=c
 .rw[decide_eq_true h]at t;refine#[c-10 ^ 18,Dh ?_];change jz [xN c,ag,ag,ag] bx=_;unfold jz;refine(gT<|(gJ t).trans<|fS<|jq [.int<|c-10 ^ 18] (fi (fF (r:=.old _) zc (adE _ _) zc) zc) (show (1)<=sizeLine by lia))
 .rw[decide_eq_false h]at t;have rg:=Dg (env:=[xN c,xN 0,ag,ag]) (bx:=bx) (m:=fe (dC<|.int 64) fj) zc zd;let#[aP,bx',e,x,w2,w3,rfl,rfl]:=j6 (g:=fg 2) (λ_ env b=>∃ (x:Int) (w2 w3:Option W),env=[xN c,xN x,w2,w3] /\ b=bx) (fK 0 64) 0 [xN c,xN 0,ag,ag] bx #[0,ag,ag,rfl,rfl] (by
   rintro i w env b hw ⟨x,w2,w3,rfl,rfl⟩;let#[j,_,rfl]:=a9.mp<|tM hw;let#[x',y,e]:=LK c x (0+(j)) w3 b;show#[_,_,_,_,rfl,e,x',_,_,rfl,rfl])
  refine#[x,Dh ?_];change jz [xN c,ag,ag,ag] bx'=_;unfold jz;show(fr<|gp t).trans ((fr<|gu zc).trans<|(fr<|(gH rg).trans e).trans<|fS<|jq [.int x] zc (show (1)<=sizeLine by lia))
end K1
namespace K2
open L2 L2.DL K1
noncomputable def hr (d:D):Bool:=match d with
 |.int i=>decide (0<=i)
 |_=>af
noncomputable def kE:List (Int×Int)->Bool
 |p::q::r=>decide (p.2<q.1)&&kE (q::r)
 |_=>ah
theorem CC:∀ (p) (ps),nX ((p::ps).map dP) (ps.map dP)=((p::ps).zip ps).map λx=>W.d (.tup [dP x.1,dP x.2])
 |p,[]=>rfl
 | p,q::ps=>by
   have:=CC q ps;simp[aM]at this ⊢;simp[nX,wz,aM,this]
theorem CD:∀ (p) (ps),kE (p::ps)=((p::ps).zip ps).all λx=>decide (x.1.2<x.2.1)
 |p,[]=>rfl
 | p,q::ps=>by
   rw[kE,CD q ps];simp
theorem TR (ps) (n:ps.length<=1000) (bx):jU [.d<|.tup<|ps.map dP] bx=.val (.d<|.bl<|kE ps) bx:=
 fY (by
  have sz:=bj;have cut:DL.cutD (ps.map dP) (ae 1) ag=ps.tail.map dP:=by
   cases ps with
   |nil=>rfl
   |cons p ps=>
     have:=Nf ((p::ps).map dP) 1 zg;simpa using this
  cases ps with
  |nil=>simp[jh,ue,uR,nX,bO,eJ,qI,kE]
  |cons p ps=>
    have c:=Bv (g:=gC 2<|fH (fg 0)<|fH (fg 1) gE) (te:=d2 af eZ (d2 af ak (dV 0) zf)<|d2 af ak (dV 1) ze) (bx:=bx) (l:=((p::ps).zip ps).map λx=>D.tup [dP x.1,dP x.2]) (λe=>∃ a b,e=[a,b]) (λd=>.bl (match d with|.tup [.tup [_,.int i],.tup [.int j,_]]=>decide (i<j)|_=>af)) #[ag,ag,rfl] (by
     intro d m e ⟨a,b,je⟩;let#[x,_,rfl]:=a9.mp m;show#[[ae<|.d<|dP x.1,ae<|.d<|dP x.2],by simp[je],#[_,_,rfl],rfl]) (by
     rw[aK,aaP];simp at n ⊢;lia)
    rw[bB]at c;have r:(uR<|fe (dV 0)<|fe (p9 af (dV 0) (p8 zf) qJ) fj) [ae<|.d<|.tup<|(p::ps).map dP] bx=.val (((p::ps).zip ps).map λx=>W.d<|.tup [dP x.1,dP x.2]) bx:=by
     unfold uR;rw[fi (w:=.d<|.tup<|(p::ps).map dP) (l:=[.d<|.tup<|ps.map dP]) rfl<|fi (M9 (r:=.tup<|ps.map dP) rfl (Jq rfl) rfl (by rw[ue,cut];rfl)) rfl,fM,<-(CC p ps)]
    change jh [ae<|.d<|.tup<|(p::ps).map dP] bx=_;unfold jh;refine fS ?_;refine(iP (r:=.old<|.bl<|kE (p::ps)) [.lst _] (fi (gq r zc c) zc) ?_);rw[bB];have:=all_map (((p::ps).zip ps).map λx=>D.tup [dP x.1,dP x.2]) λd=>match d with|.tup [.tup [_,.int i],.tup [.int j,_]]=>decide (i<j)|_=>af;rw[bB,yf]at this;rw[CD];show this)
noncomputable def eN (c hold hour:Int):List (Int×Int)->Int
 |[]=>c
 |p::ps=>if p.1<=hour /\ hour<p.2 then max 0 (c-(hour-p.1) / hold) else eN c hold hour ps
theorem BD (h:0<=c):∀ ps,0<=eN c hold hour ps
 |[]=>h
 | p::ps=>by
   unfold eN;split
   .show Int.le_max_left ..
   .show BD h ps
theorem BE (h:0<=c) (hh:0<hold):∀ ps,eN c hold hour ps<=c
 |[]=>Kh _
 | p::ps=>by
   unfold eN;split
   .have:0<=(hour-p.1) / hold:=abf za za;lia
   .show BE h hh ps
theorem Jw (x):maxD [.int 0,.int x]=ae (.old<|.int<|max 0 x):=by
 change ae _=_;congr 3;split<;>lia
theorem Vf (x):maxD [.int x,.int 0]=ae (.old<|.int<|max 0 x):=by
 change ae _=_;congr 3;split<;>lia
theorem Nl (h:0<j) (h2:j<1073741824):sH (.int i) (.int j)=ae (.old<|.int<|i / j):=if_pos #[h,by lia]
theorem Vg (h1:ma env bx=.val (.d x) bx) (h2:mb env bx=.val (.d y) bx) (h3:g x y=ae (.old<|.bl ah)) (h4:mc env bx=.val (.d z) bx) (h5:g' y z=ae r):d3 g g' ma mb mc env bx=.val (.d r.toD) bx:=by
 simp[h1,h2,h3,h4,h5]
theorem V6 (h1:ma env bx=.val (.d x) bx) (h2:mb env bx=.val (.d y) bx) (h3:g x y=ae (.old<|.bl af)):d3 g g' ma mb mc env bx=.val (.d<|.bl af) bx:=by
 simp[h1,h2,h3]

abbrev Qy:DE Bool:=dB<|d3 nE eZ (dV 5) (dV 3)<|dV 6
theorem Pz (p:Int×Int) (x0 x1 x2 x4):Qy [x0,x1,x2,xN hour,x4,xN p.1,xN p.2] bx=.val (decide (p.1<=hour /\ hour<p.2)) bx:=by
 by_cases h:p.1<=hour
 .by_cases h2:hour<p.2
  .rw[decide_eq_true #[h,h2]];show fV<|Vg (r:=.old _) zc zc (by simp[nE,h]) zc (by simp[eZ,h2])
  .rw[decide_eq_false λz=>h2 z.2];show fV<|Vg (r:=.old _) zc zc (by simp[nE,h]) zc (by simp[eZ,h2])
 .rw[decide_eq_false λz=>h z.1];show fV<|V6 zc zc (by simp[nE,h])
theorem YF (x0 x1 x2) (rt) (hr:∀ p:Int×Int,rt [x0,x1,x2,xN hour,xN c,xN p.1,xN p.2] bx=.val (.d<|.int<|max 0<|c-(hour-p.1) / hold) bx) :
 ∀ (ps) (x5 x6),(∃ y5 y6,bR (gC 2<|fH (fg 5)<|fH (fg 6) gE) (aV Qy (fJ rt) bc) ((ps.map dP).map W.d) [x0,x1,x2,xN hour,xN c,x5,x6] bx=.nx [x0,x1,x2,xN hour,xN c,y5,y6] bx /\ eN c hold hour ps=c) \/
  bR (gC 2<|fH (fg 5)<|fH (fg 6) gE) (aV Qy (fJ rt) bc) ((ps.map dP).map W.d) [x0,x1,x2,xN hour,xN c,x5,x6] bx=.rt (.d<|.int<|eN c hold hour ps) bx
 |[],x5,x6=>.inl #[x5,x6,rfl,rfl]
 | p::ps,x5,x6=>by
   have g:gC 2 (fH (fg 5)<|fH (fg 6) gE) (W.d<|dP p) [x0,x1,x2,ae _,ae _,x5,x6] bx=ae ([x0,x1,x2,xN hour,xN c,ae _,ae _],bx):=rfl;have t:=Pz (hour:=hour) (bx:=bx) p x0 x1 x2<|xN c;erw[aM];by_cases h:p.1<=hour /\ hour<p.2
   .rw[decide_eq_true h]at t;have e:eN c hold hour (p::ps)=max 0 (c-(hour-p.1) / hold):=by rw[eN,if_pos h]
    show .inr (by rw[Na g<|(gJ t).trans<|fS<|hr p,e])
   .rw[decide_eq_false h]at t;have e:eN c hold hour (p::ps)=eN c hold hour ps:=by rw[eN,if_neg h]
    have st:aV Qy (fJ rt) bc _ bx=.nx _ bx:=gp t;rw[e];rcases YF x0 x1 x2 rt hr ps _ _ with⟨y5,y6,z,q⟩|z
    .show .inl #[y5,y6,by rw[gj g st];show z,q]
    .show .inr (by rw[gj g st];show z)
structure YG (d:D) (rs:List Int) (hold:Int):zm where
 e:∃ k p,d=.tup [.tup<|rs.map D.int,k,p,.int hold]
 r:∀ c∈rs,0<=c /\ c<=3
 n:1<=rs.length /\ rs.length<=5
 h:1<=hold /\ hold<=9

theorem TU (H:YG d rs hold) (j) (hj:j<rs.length) (ps):iJ [.d d,.d<|.tup<|ps.map dP,.d<|.int<|j,.d<|.int hour] bx=.val (.d<|.int<|eN rs[j] hold hour ps) bx:=by
 let#[#[k,p,rfl],_,_,h1,h2]:=H;refine fY ?_;change i8 _ bx=_;have e3:ak (.tup [.tup<|rs.map D.int,k,p,.int hold]) (.int 3)=ae _:=rfl;have ej:ak (.tup<|rs.map D.int) (.int<|j)=ae (.old<|.int rs[j]):=by simp[ak,bM,cR,hj]
 unfold i8;refine(fr<|gu<|fF (fF zc zc zc) zc ej).trans ?_;rcases(YF (bx:=bx) (ae _) _ _ (dN af maxD<|fe ze<|fe (d2 af c9 (dV 4)<|d2 af sH (d2 af c9 (dV 3)<|dV 5)<|d2 af ak (dV 0)<|dC<|.int 3) fj) (λq=>iP (r:=.old _) [.int 0,.int<|rs[j]-(hour-q.1) / hold] (fi zc<|fi (fF (r:=.old _) zc (fF (r:=.old _) (fF (r:=.old _) zc zc zc) (fF zc zc e3)<|Nl za za) zc) zc)<|Jw _) ps ag ag) with⟨y5,y6,z,q⟩|z
 .rw[q];show(fr<|(gH<|gW zc).trans z).trans (fS zc)
 .show gT<|(gH<|gW zc).trans z
theorem PB (H:YG d rs hold) (j) (hj:j<rs.length) (ps):lI [.d d,.d<|.tup<|ps.map dP,.d<|.int<|j,.d<|.int hour] bx=.val (.d<|.int<|eN rs[j] hold hour ps) bx:=by
 let#[#[k,p,rfl],_,_,h1,h2]:=H;refine fY ?_;change mV _ bx=_;have ej:ak (.tup<|rs.map D.int) (.int<|j)=ae (.old<|.int rs[j]):=by simp[ak,bM,cR,hj]
 unfold mV;refine(fr<|gu<|fF (fF zc zc zc) zc ej).trans ?_;rcases(YF (bx:=bx) (ae<|.d<|.tup [.tup<|rs.map D.int,k,p,.int hold]) _ (xN (j:Int)) (dN af maxD<|fe (d2 af c9 (dV 4)<|d2 af sH (d2 af c9 (dV 3)<|dV 5)<|d2 af ak (dV 0)<|dC<|.int 3)<|fe ze fj) (λq=>iP (r:=.old _) [.int<|rs[j]-(hour-q.1) / hold,.int 0] (fi (fF (r:=.old _) zc (fF (r:=.old _) (fF (r:=.old _) zc zc zc) (fF zc zc zc)<|Nl za za) zc)<|fi zc zc)<|Vf _) ps ag ag) with⟨y5,y6,z,q⟩|z
 .rw[q];show(fr<|(gH<|gW zc).trans z).trans (fS zc)
 .show gT<|(gH<|gW zc).trans z
end K2
namespace L2.DL

theorem Vh (h:t env bx=.val ah bx1) (h2:m env bx1=.val w bx2):rG t m k env bx=.val w bx2:=by unfold rG;rw[h,fM];show h2
theorem Vi (h:t env bx=.val af bx1) (h2:k env bx1=.val w bx2):rG t m k env bx=.val w bx2:=by unfold rG;rw[h,fM];show h2
end L2.DL
namespace K2
open L2 L2.DL K1

end K2
namespace K1
open L2 L2.DL

theorem m7 (h:n<bx.length):pt bx n p++E=pt (bx++E) n p:=by
 unfold pt;rw[WM _ _ h]
theorem jm (h:n<bx.length):(pt (bx++[x]) n p)[bx.length]?=ae x:=by
 rw[<-m7 h,<-gM];show List.getElem?_concat_length
theorem Di (h:n<bx.length):(pt (bx++[x]) n p).set bx.length y=pt (bx++[y]) n p:=by
 rw[<-m7 h,<-m7 h,<-gM,List.set_append_right _ _<|aC _,uF];rfl
theorem BF (h:n<bx.length):(pt (bx++E) n p).take bx.length=pt bx n p:=by
 rw[<-m7 h,<-gM,List.take_left]
theorem Jx (h:n<bx.length) (p k) (hk:0<k) (vW:k<1073741824):∃ r q,fm [.b n,.d<|.int k] (pt bx n p)=.val (.d<|.int r) (pt bx n q) /\ 0<=r /\ r<k:=
 #[_,_,jk h p k hk vW,Af p hk,Ag p hk]
end K1
namespace K2
open L2 L2.DL K1
theorem RZ (h:bx[m]?=ae (.lst l)):bN bx (.b m)=ae (.lst l):=by simp[bN,h]
end K2
namespace bS
open L2 L2.DL K1

theorem TV (h:n<bx.length) (he:env[i]?=ae (xB n)) (hm:m env (pt bx n p)=.val (.d<|.int k) (pt bx n p1)) (h0:0<k) (h1:k<1073741824) :
 ∃ r q,fq K1.fm 2 (fe (dV i)<|fe m fj) env (pt bx n p)=.val (.d<|.int r) (pt bx n q) /\ 0<=r /\ r<k:=by
 let#[r,q,t,a,b]:=Jx h p1 k h0 h1;show#[r,q,(fL (fi (by unfold dV;rw[he])<|fi hm zc) zc t),a,b]
theorem kh (h:n<bx.length) (p k) (h0:0<k) (h1:k<1073741824):∃ r q,(∀ {env}{i}{m}{p0},env[i]?=ae (xB n)->m env (pt bx n p0)=.val (.d<|.int k) (pt bx n p)->fq K1.fm 2 (fe (dV i)<|fe m fj) env (pt bx n p0)=.val (.d<|.int r) (pt bx n q)) /\ 0<=r /\ r<k:=by
 let#[r,q,t,a,b]:=Jx h p k h0 h1;show#[r,q,λhe hm=>fL (fi (by rw[iO,he])<|fi hm zc) zc t,a,b]
theorem adF (h:n<bx.length) (p) (l:List Int) (ks) (hk:∀ e b,ks e b=.val ((l.map D.int).map W.d) b) (hl:(l.length:Int)=k) (h0:0<k) (h1:k<1000) :
 ∃ v q,(∀ (env) (i),env[i]?=ae (xB n)->d2 af ak (gR af ks) (fq K1.fm 2<|fe (dV i)<|fe (dC<|.int k) fj) env (pt bx n p)=.val (.d<|.int v) (pt bx n q)) /\ v∈l:=by
 let#[r,q,t,a,b]:=kh h p k h0 za;let#[d,e,m]:=j7 (l:=l.map D.int) a (by rw[aK,hl];show b);let#[v,mv,rfl]:=a9.mp m;have sz:=bj;show#[v,q,λenv i he=>fF (r:=.old _) (lX _ (hk _ _) (by rw[aK];lia)) (t he zc) (by simp[ak,e,pd]),mv]
theorem TW (h:m env bx=.val (.b j) bx1) (g:bx1[j]?=ae (.lst l)):dN af cY (fe m fj) env bx=.val (.d<|.int l.length) bx1:=by
 rw[C5,fi h rfl,fM];have:d7 bx1 [.b j]=ae [.lst l]:=by simp[d7,bN,g,bT,pd]
 rw[this];rfl
theorem Nm (h:q.1<x.1 \/ (q.1=x.1 /\ q.2<x.2)):nH q x=ah:=by
 unfold nH;erw[HT.gx,show HT.lexLt [] []=af from rfl];split
 .split
  .lia
  .rw[decide_eq_true_eq];lia
 .rw[decide_eq_true_eq];lia
theorem BG {lo}(h:(fK lo m)[j]?=ae w):w=.d (.int<|lo+j) /\ j<m:=by
 have hm:j<m:=by simpa[fK] using (List.getElem?_eq_some_iff.mp h).1
 simp[fK,hm]at h;show#[h.symm,hm]

theorem jB (h1:a env bx=.val x bx1) (h2:b env bx1=.val y bx2):eE i j (fe a<|fe b fj) env bx=.nx ((env.set i<|ae x).set j<|ae y) bx2:=by
 unfold eE;rw[fi h1<|fi h2 rfl,iA]
end bS
namespace K2
open L2 L2.DL K1
end K2
namespace bS
open L2 L2.DL K1

theorem PH (h1:m env bx=.val (.b j) bx1) (g0:bx1[j]?=ae (.lst l0)) (h2:k env bx1=.val (.d<|.int i) bx2) (g:bx2[j]?=ae (.lst l)) (hi:-(2 ^ 63)<=i /\ i<2 ^ 63) (hx:cR l.length i=ae t) (hd:l[t]?=ae d) :
 yS m k env bx=.val (.d d) (bx2.set j<|.lst<|l.eraseIdx t):=by
 unfold yS;rw[h1,fM];erw[g0,h2,fM,g,if_pos hi,hx,hd]
open K2
theorem gZ (h:m env bx=.val (.d<|.bl ah) bx1) (h2:k env bx1=r):gG m k env bx=r:=by rw[Dd h];show h2

theorem Nn (is:List Int) (b):nG (.int b) (is.map D.int)=is.any λz=>decide (z=b):=by
 unfold nG;rw[IP];rfl

end bS
namespace dz
open L2 L2.DL
open K1 bS
section
variable {α:Type}
theorem xy (p) (f):∀ (l:List α) (w:Option W) (acc:List D),acc.length+l.length<=sizeLine->(∀ a∈l,tf (ae (.d<|enc a)::r) bx=.val (p a) bx /\ (p a=ah->te (ae (.d<|enc a)::r) bx=.val (.d<|f a) bx)) ->
 bO (fg 0) tf te ((l.map enc).map W.d) (w::r) bx acc=.val (acc++(l.filter p).map f) bx
 |[],w,acc,_,_=>by simp[bO]
 | a::l,w,acc,n,h=>by
   let#[h1,h2]:=h a<|bA ..;rw[bE]at n;have n':acc.length<sizeLine:=by lia
   have e0:fg 0 _ (w::r) bx=ae (ae (W.d<|enc a)::r,bx):=rfl;cases c:p a with
   |false=>
     rw[vt (by simp[c]),<-xy p f l (ae<|W.d<|enc a) acc za λx m=>h x<|a8 _ m];rw[c]at h1;simp[aM,bO,e0,h1,Ab]
   |true=>
     rw[vv c];rw[c]at h1;erw[aM,bO,e0,h1,h2 c,Ab,if_pos n',(xy p f l _ (acc++[f a]) zh λx m=>h x<|a8 _ m)];simp
theorem ahO {env}{rO}{l:List α}(p:α->Bool) (f:α->D) (h1:mi env rO=.val ((l.map enc).map W.d) bx) (he:eV src env=ag::r) (n:l.length<=sizeLine)
 (h:∀ a∈l,tf (ae (.d<|enc a)::r) bx=.val (p a) bx /\ (p a=ah->te (ae (.d<|enc a)::r) bx=.val (.d<|f a) bx)):fO af src mi (fg 0) tf te env rO=.val (.d<|.lst<|(l.filter p).map f) bx:=
 gq h1 he (by rw[xy p f l ag [] (by simpa using n) h];rfl)
theorem adG {env}{rO}{l:List α} (f) (h1:mi env rO=.val ((l.map enc).map W.d) bx) (he:eV src env=ag::r) (n:l.length<=sizeLine)
 (h:∀ a∈l,te (ae (.d<|enc a)::r) bx=.val (.d<|f a) bx):fO af src mi (fg 0) fR te env rO=.val (.d<|.lst<|l.map f) bx:=by
 have:=ahO (tf:=fR) _ f h1 he n λa m=>#[rfl,λ_=>h a m]
 rwa [List.filter_eq_self.mpr λ_ _=>rfl]at this
theorem CF (l:List α) (p):qI (l.map λd=>D.bl<|p d)=ae (l.map p):=by
 induction l with
 |nil=>rfl
 |cons d l ih=>simp[qI,ih]
theorem YH {rO}{l:List α}(p:α->Bool) (h1:mi env rO=.val ((l.map enc).map W.d) bx) (he:eV src env=ag::r) (n:l.length<=sizeLine)
 (h:∀ a∈l,te (ae (.d<|enc a)::r) bx=.val (.d<|.bl<|p a) bx):dN af eJ (fe (fO af src mi (fg 0) fR te) fj) env rO=.val (.d<|.bl<|l.all p) bx:=
 iP (r:=.old _) [.lst _] (fi (adG _ h1 he n h) zc) (by simp[eJ,CF])
end
noncomputable abbrev tupI (l:List Int):D:=.tup<|l.map D.int
abbrev xU (l:List Int):Option W:=ae<|.d<|tupI l
theorem Fq:∀ l:List Int,PyData.canLayAll0 (bW<|l.map D.int)=ah /\ PyData.depthAll (bW<|l.map D.int)=0:=by
 intro l_;induction l_ with
 |nil=>show#[rfl,rfl]
 |cons i l bV=>
   let#[a,b]:=bV;simp[bW,toPy,PyData.canLayAll0,PyData.canLay0,PyData.depthAll,PyData.depth,a,b]
theorem No:∀ l:List _,PyData.canLayAll0 (bW<|l.map tupI)=ah /\ PyData.depthAll (bW<|l.map tupI)<=1:=by
 intro l_;induction l_ with
 |nil=>show#[rfl,dJ _]
 |cons i l bV=>
   let#[a,b]:=bV;let#[c,d]:=Fq i;erw[aM,bW,toPy,PyData.canLayAll0,PyData.canLay0,PyData.depthAll,PyData.depth,a,c];show#[rfl,by lia]
theorem PJ (l):nD (tupI l)=ah:=by
 let#[c,d]:=Fq l;simp[nD,toPy,PyData.canLay0,PyData.depth,c,d]
theorem Np (l:List _):nD (.lst<|l.map tupI)=ah:=by
 let#[c,d]:=No l;unfold nD;simp[toPy,PyData.canLay0,PyData.depth,c,Bool.true_and,decide_eq_true_eq];lia
theorem Gw (ps:List _):ps.map dP=(ps.map λq=>[q.1,q.2]).map tupI:=by rw[bB];rfl
theorem Nq (a b):eqv (dP a) (dP b)=decide (a=b):=by
 rw[nj];let#[a1,a2]:=a;let#[b1,b2]:=b;simp[eqv,toPy,bW,PyData.eqv,PyData.eqvAll]
theorem TX (ps:List _) (q):((ps.map dP).any λz=>eqv z<|dP q)=decide (q∈ps):=by
 rw[nj,kB,decide_eq_true_eq];constructor
 .rintro⟨z,m,e⟩;let#[x,mx,rfl]:=a9.mp m;rw[Nq,decide_eq_true_eq]at e;show e▸mx
 .intro m;show#[dP q,a9.mpr #[q,m,rfl],by rw[Nq,decide_eq_true_eq]]
end dz
namespace aI
open L2 L2.DL K1 dz
open HT (cZ)
abbrev hs (rs ks:List D) (ps:List<|Int×Int) (hd:D):D:=.tup [.tup rs,.tup ks,.tup<|ps.map dP,hd]
structure Hs (rs ks:List D) (ps:List<|Int×Int) (hd:D):zm where
 r1:1<=rs.length
 r5:rs.length<=5
 k1:1<=ks.length
 k4:ks.length<=4
 b:∀ p∈ps,p.1<p.2
 l:ps.length<=1000
 hh:house zb=ah
noncomputable def sZ (nr nk:Nat):Pg->zm
 |.aG h l k r p w=>0<=h /\ (0<=l /\ l<=9) /\ (0<=k /\ k<(nk)) /\ (0<=r /\ r<(nr)) /\ (0<=p /\ p<=999) /\ 0<=w /\ w<=99
 |.to h l r=>0<=h /\ (0<=l /\ l<=9) /\ 0<=r /\ r<(nr)
 |.out h l=>0<=h /\ 0<=l /\ l<=9
theorem eq_str (a b):aW (.str a) (.str b)=ae (.old<|.bl<|decide (a=b)):=rfl
theorem ne_str (a b):kZ (.str a) (.str b)=ae (.old<|.bl<|!decide (a=b)):=rfl

theorem TY:(("in":Str)="out")=False:=eq_false zd
theorem Vj:(("in":Str)="to")=False:=eq_false zd
theorem Nr:(("out":Str)="in")=False:=eq_false zd
theorem Vk:(("out":Str)="to")=False:=eq_false zd
theorem LM:(("to":Str)="in")=False:=eq_false zd
theorem PK:(("to":Str)="out")=False:=eq_false zd
noncomputable def adH (rs ks:List D):Pg->List D
 |.aG ..=>[.int 9,.int<|(ks.length)-1,.int<|(rs.length)-1,.int 999,.int 99]
 |.to ..=>[.int 9,.int<|(rs.length)-1]
 |.out ..=>[.int 9]
noncomputable def bZ:Pg->Str
 |.aG ..=>"in"
 |.to ..=>"to"
 |.out ..=>"out"
theorem Dj (g):io [.d zb,.d<|.str<|bZ g] bx=.val (.d<|.tup<|adH rs ks g) bx:=
 fY (by
  have s5:(5)<=sizeLine:=by decide
  have s1:(1)<=sizeLine:=by decide
  have s2:(2)<=sizeLine:=by decide
  cases g<;>simp[jA,eE,cY,ak,bM,cR,c9,eq_str,bZ,adH,TY,Vj,Nr,Vk,LM,PK,s5,s1,s2])
theorem BH (h:0<=i):K2.i7 [.d<|.int i] bx=.val (.d<|.bl ah) bx:=
 fY (by simp[K2.Cz,Fi,wh,pZ,h])
theorem TZ (g) (ok:sZ rs.length ks.length g):jX [.d zb,.d<|enc g] bx=.val (.d<|.bl ah) bx:=by
 have z:=bj;have fin:∀ (l:List<|Int×Int) {env:bu}{k:DE _},l.length<=5->(∀ a∈l,0<=a.1 /\ a.1<=a.2)->k env bx=.val ((l.map λa=>D.tup [.int a.1,.int a.2]).map W.d) bx->dN af eJ (fe (fO af [ag,ag] k dz.gP fR<|fq K1.f9 3<|fe (dV 0)<|fe ze<|fe (dV 1) fj) fj) env bx=.val (.d<|.bl ah) bx:=λl env k n h e=>by
  refine(iP [.lst<|(l.map λa=>D.int a.1).map λd=>.bl<|(λ_=>ah) d] (fi (gq e zc<|(u7 (J:=λe=>∃ a b,e=[a,b]) (λ_=>ah) (λ_=>.bl ah) (λ_=>#[_,_,rfl]) l [ag,ag] [] zh #[_,_,rfl] (λx _ env ⟨a,b,e⟩=>by subst e;rfl) λx m=>#[rfl,λ_=>(cV<|CA (.int x.1) 0 x.2 bx).trans (by rw[show wi (.int x.1) 0 x.2=ah by simp[wi];show h x m])]).trans (by rw[List.filter_eq_self.mpr λ_ _=>rfl,bB];rfl)) zc)<|all_map (l.map λa=>D.int a.1) λ_=>ah).trans zg
 cases g with
 |aG h l k r p w=>
   let#[a,b,c,d,e,f]:=ok;show fY<|qF (mM zc<|mM zc<|jr<|fV<|cV<|BH a)<|qS (cV<|Dj<|.aG h l k r p w)<|qF zc<|fS<|fin [(l,9),(k,(ks.length)-1),(r,(rs.length)-1),(p,999),(w,99)] zg zh zc
 |to h l r=>
   let#[a,b,c]:=ok;show fY<|qF (mM zc<|mM zc<|jr<|fV<|cV<|BH a)<|qS (cV<|Dj<|.to h l r)<|qF zc<|fS<|fin [(l,9),(r,(rs.length)-1)] zg zh zc
 |out h l=>
   let#[a,b]:=ok;show fY<|qF (mM zc<|mM zc<|jr<|fV<|cV<|BH a)<|qS (cV<|Dj<|.out h l)<|qF zc<|fS<|fin [(l,9)] zg zh zc
theorem Vl {qs:List Pg}{i:Nat}(h:qs[i]?=ae g):bM (qs.map enc) (i)=ae (enc g):=CN (by rw[kJ,h];rfl)
theorem Vm (h:Qv qs) (hl:qs.length<=16):K1.ie [.d<|.lst<|qs.map enc] bx=.val (.d<|.bl ah) bx:=by
 have z:sizeLine=16777216:=bj;refine fY<|fS ?_;have rg:uc (fe zf<|fe (dN af cY<|fe (dV 0) fj) fj) [ae<|.d<|.lst<|qs.map enc] bx=.val (((List.range<|qs.length-1).map λ(i:Nat)=>D.int<|1+(i)).map W.d) bx:=by
  rw[C9 (i:=1) (j:=(qs.length)) (bx1:=bx) (by simp[cY]),show ((qs.length:Int)-1).toNat=qs.length-1 by lia,bB];rfl
 have:=YH (r:=[ae _]) (te:=d2 af eZ (d2 af ak (dV 1)<|d2 af c9 (dV 0)<|dC _)<|d2 af ak (dV 1)<|dV 0) (src:=[ag,ae 0]) _ rg zc (by simp;lia) λi m=>by
  have hi:=List.mem_range.mp m;have e1:qs[i]?=ae qs[i]:=dO za;have e2:qs[i+1]?=ae qs[i+1]:=dO za;refine fF (r:=.old<|.bl ah) (x:=enc qs[i]) (y:=enc qs[i+1]) (fF (r:=.old<|enc qs[i]) (x:=.lst<|qs.map enc) (y:=.int (i:Int)) zc (fF (r:=.old<|.int (i:Int)) (x:=.int<|1+(i:Int)) (y:=.int 1) zc zc ?_) ?_) (fF (r:=.old<|enc qs[i+1]) (x:=.lst<|qs.map enc) (y:=.int<|1+(i:Int)) zc zc ?_) ?_
  .simp[c9];lia
  .simp[ak,Vl e1]
  .have:=Vl e2;rw[show ((i+1:Nat):Int)=1+(i:Int) by lia]at this;simp[ak,this]
  .rw[TM,(List.pairwise_iff_getElem.mp h i (i+1) za za za)]
 rw[dF.mpr λ_ _=>rfl]at this;show this
theorem CG {l:List D}{te}(hm:mi env bx=.val (l.map W.d) bx) (he:eV s env=ag::e2) (n:l.length<=1000) (h:∀ x∈l,te (ae (.d x)::e2) bx=.val (.d<|.bl ah) bx):dN af eJ (fe (fO af s mi (fg 0) fR te) fj) env bx=.val (.d<|.bl ah) bx:=by
 have z:=bj;show(iP _ (fi (gq hm he<|Bv (λe=>∃ w,e=w::e2) _ #[_,rfl] (λx m e ⟨w,je⟩=>#[ae _::e2,by rw[je];rfl,#[_,rfl],h x m]) za) zc)<|all_map l λ_=>ah).trans zg
theorem BI {lo}(h:wi d lo hi=ah):K1.f9 [.d d,.d<|.int lo,.d<|.int hi] bx=.val (.d<|.bl ah) bx:=by rw[CA,h]
theorem AA {lo}(h:tl (.tup l) lo hi=ah):K1.gh [.d<|.tup l,.d<|.int lo,.d<|.int hi] bx=.val (.d<|.bl ah) bx:=by rw[M6,h]
theorem PL (h:Ea d=ah):K1.jQ [.d d] bx=.val (.d<|.bl ah) bx:=by
 have z:=bj;cases d with
 |tup l=>
   simp[Ea,aF,dF]at h;let#[t,a,f]:=h;refine fY<|qF (mM (jr<|fV<|cV<|AA t)<|jr<|fV<|CG (gW zc) zc (by have:=Ac t;lia) λx m=>cV<|BI<|a x m)<|fS ?_;let#[p,q,r,s,rfl]:=ahN t;let#[p,rfl,_]:=mY<|a p zg;let#[q,rfl,_]:=mY<|a q zg;let#[r,rfl,_]:=mY<|a r zg;let#[s,rfl,_]:=mY<|a s zg;simp[xw,aF,decide_eq_true_eq]at f;refine(iP (r:=.old _) [.lst _] (fi (gq (l:=([(p,q),(q,r),(r,s)].map λa:Int×Int=>D.tup [.int a.1,.int a.2]).map W.d) zc zc<|(u7 (J:=λe=>∃ a b,e=[a,b]) _ _ (λ_=>#[_,_,rfl]) _ _ [] zh #[_,_,rfl] (λx _ env ⟨a,b,e⟩=>by subst e;rfl) λx m=>#[rfl,λ_=>(fF (r:=.old<|.bl ah) zc zc (by simp at m;simp[nE];rcases m with rfl|rfl|rfl<;>lia))])) zc) zc)
 |_=>cases h
theorem T0 (h:kind d=ah):K1.mT [.d d] bx=.val (.d<|.bl ah) bx:=by
 cases d with
 |tup l=>
   simp[kind,aF]at h;let#[t,h]:=h;let#[a,b,rfl]:=ahM t;simp[aF]at h;show fY<|fS<|bS.gZ (cV<|AA t)<|bS.gZ (cV<|BI h.1)<|cV<|PL h.2
 |_=>cases h
theorem T3 (h:Eb n d=ah):K1.iz [.d d,.d<|.int n] bx=.val (.d<|.bl ah) bx:=by
 cases d with
 |tup l=>
   simp[Eb,aF]at h;let#[t,h]:=h;split at h
   .simp[aF,decide_eq_true_eq]at h;show fY<|qF (jr<|fV<|cV<|AA t)<|fS<|bS.gZ (CG (gW zc) zc (by simp) λx m=>cV<|BI (d:=x) (lo:=0) (hi:=n-1) (by simp at m;rcases m with rfl|rfl<;>(simp[wi,aF,decide_eq_true_eq];lia)))<|fF (r:=.old _) zc zc (by simp[eZ];show h.1.2)
   .cases h
 |_=>cases h
theorem PM (h:Hs rs ks ps hd):K1.lG [.d zb] bx=.val (.d<|.bl ah) bx:=by
 have z:=bj;have l:=h.l;have q:=h.hh;erw[house,aF,rooms,kinds,apart,dF]at q;let#[#[t1,q1],#[t2,q2],#[q3,i],q4]:=q;rw[Jn]at i;have ri:=LJ ps za bx;rw[i]at ri;have e1:K1.jP [.d _] bx=.val _ bx:=fY<|fS<|bS.gZ (cV<|AA t1)<|CG (gW zc) zc (by have:=Ac t1;lia) λx m=>cV<|BI<|q1 x m;have e2:K1.jR [.d _] bx=.val _ bx:=fY<|fS<|bS.gZ (cV<|AA t2)<|CG (gW zc) zc (by have:=Ac t2;lia) λx m=>cV<|T0<|q2 x m;have e3:K1.jS [.d _,.d _] bx=.val _ bx:=fY<|qF zc<|fS<|bS.gZ (CG (gW zc) zc (by rw[aK];lia) λx m=>cV<|T3<|q3 x m)<|cV ri;show fY<|qF (jr<|fV<|cV<|AA zc)<|qG zc zc<|fS<|bS.gZ (cV e1)<|bS.gZ (cV e2)<|bS.gZ (cV e3)<|cV<|BI q4
theorem oM (h:Hs rs ks ps hd):bS.iD [.d zb] bx=.val (.d .az) bx:=by
 have b:bS.jV _ bx=.nx [ae _] bx:=
  (gp<|jr<|fV<|fL zc zc<|PM (bx:=bx) h)
 change pY bx.length (pX<|aQ bS.jV [ae _] bx)=_;unfold aQ;rw[b];simp[pX,pY]
theorem Nt (l):vT (sI<|.lst l) "list"=ah:=rfl
structure Gs (nr nk:Nat) (gs:List Pg):zm where
 ok:∀ g∈gs,sZ nr nk g
 nd:gs.Nodup
 l:gs.length<=16
theorem Gs.perm (G:Gs nr nk gs) (p:g2.Perm gs):Gs nr nk g2:=#[λg m=>G.ok g<|p.mem_iff.mp m,p.nodup_iff.mpr G.nd,by rw[p.length_eq];show G.l]
theorem PN (G:Gs rs.length ks.length gs):jY [.d zb,.d<|.lst<|gs.map enc] bx=.val (.d<|.bl ah) bx:=by
 have z:=bj;have gl:=G.l;let#[qs,p,r,e]:=Js G.nd za;have ql:=p.length_eq;refine fY ?_;have t:qH (pF<|dB<|mJ "list"<|dV 1) (dB<|d2 af nW (dN af cY<|fe (dV 1) fj)<|dC<|.int 16) [ae<|.d zb,ae<|.d<|.lst<|gs.map enc] bx=.val af bx:=by
  simp[Nt,cY,nW];lia
 have a:dN af eJ (fe (fO af [ag,ae 0] (bG<|dV 1) _ fR<|fq aI.jX 2<|fe (dV 1)<|fe (dV 0) fj) fj) [ae<|.d zb,ae<|.d<|.lst<|gs.map enc] bx=.val (.d<|.bl<|gs.all λ_=>ah) bx:=
  YH _ (gf zc) zc (by lia) λg m=>fL zc zc<|TZ g<|G.ok g m
 rw[dF.mpr λ_ _=>rfl]at a;refine(fr<|gp t).trans (fS ?_);rw[Dd a,if_pos rfl];show fL (fi (iP [.lst<|gs.map enc] (fi zc zc)<|e gs<|.refl _) zc) zc<|Vm r za
theorem oN (h:Hs rs ks ps hd) (G:Gs rs.length ks.length gs):iE [.d zb,.d<|.lst<|gs.map enc] bx=.val (.d .az) bx:=by
 have b:jZ [ae<|.d zb,ae<|.d<|.lst<|gs.map enc] bx=.nx [ae<|.d zb,ae<|.d<|.lst<|gs.map enc] bx:=(fr<|gK<|fL zc zc<|oM h).trans<|(gp<|jr<|fV<|fL zc zc<|PN G);change pY bx.length (pX<|aQ jZ [ae _,ae _] bx)=_;unfold aQ;rw[b];simp[pX,pY]
noncomputable abbrev Al:=List<|Int×Int
noncomputable def look (l:Al) (x:Int):Option Int:=(l.find? λq=>decide (q.1=x)).map (·.2)
noncomputable def put {α:Type}(l:List<|Int×α) (x:Int) (v:α):List (Int×α):=if (l.any λq=>decide (q.1=x))=ah then l.map (λq=>if q.1=x then (q.1,v) else q) else l++[(x,v)]
noncomputable def qm {α:Type}(l:List<|Int×α) (x:Int):List (Int×α):=l.filter λq=>decide (q.1≠x)
def kk (K:Al) (l:Int):Int:=(look K l).getD 0
noncomputable def ez (ps:Al) (a b:Int):Bool:=decide ((a,b)∈ps)||decide ((b,a)∈ps)
def nI (ps K R:Al) (k r:Int):Bool:=R.any λq=>decide (q.2=r)&&ez ps k (kk K q.1)
def word (ps K R:Al):Pg->Str
 |.aG _ l k r _ _=>if (look K l).isSome then "there" else if nI ps K R k r then "apart" else "takes"
 | .to _ l r=>match look R l with
   |none=>"none"
   |some r0=>if r0=r then "same" else if nI ps K R (kk K l) r then "apart" else "takes"
 | .out _ l=>match look R l with
   |none=>"none"
   |some _=>"takes"
noncomputable def ax:Pg->Int
 |.aG _ l ..=>l
 |.to _ l _=>l
 |.out _ l=>l
def stK (K:Al):Pg->Al
 |.aG _ l k ..=>put K l k
 |_=>K
def eO (R:Al):Pg->Al
 |.aG _ l _ r ..=>put R l r
 |.to _ l r=>put R l r
 |.out _ l=>qm R l
def wordsOf (ps:Al):Al->Al->List Pg->List Str
 |_,_,[]=>[]
 |K,R,g::gs=>word ps K R g::(if word ps K R g="takes" then wordsOf ps (stK K g) (eO R g) gs else wordsOf ps K R gs)
structure c5 (K R:Al) (n:Nat):zm where
 nd:(R.map (·.1)).Nodup
 sub:∀ q∈R,(look K q.1).isSome=ah
 lk:K.length<=n
 lr:R.length<=n
section
variable {α:Type}
noncomputable def aX (e:α->D) (l:List<|Int×α):List (Key×D):=l.map λq=>(.inl q.1,e q.2)
abbrev bI (l:Al):List (Key×D):=aX D.int l
theorem Jy (a b):decide ((Sum.inl a:Key)=Sum.inl b)=decide (a=b):=by
 by_cases h:a=b
 .simp
 .rw[decide_eq_false h];show decide_eq_false λz=>h<|Sum.inl.inj z
theorem j9 (l:List<|Int×α) (x):kS (aX e l) (.inl x)=((l.find? λq=>decide (q.1=x)).map (·.2)).map e:=by
 unfold kS aX;rw[aaQ];have:((λkv:Key×D=>decide (kv.1=Sum.inl x))∘λq:Int×α=>((Sum.inl q.1),e q.2))=λq=>decide (q.1=x):=by
  funext q;show Jy q.1 x
 rw[this];cases l.find? λq=>decide (q.1=x)<;>rfl
theorem PP (l) (x):((aX e l).any λkv=>decide (kv.1=Sum.inl x))=l.any λq=>decide (q.1=x):=by
 unfold aX;rw[IP];congr 1;funext q;show Jy q.1 x
theorem Jz (l) (x) (v):HQ (aX e l) (.inl x) (e v)=aX e (put l x v):=by
 unfold HQ put;rw[PP];split
 .unfold aX;rw[bB,bB];refine rf λq _=>?_;by_cases h:q.1=x
  .simp[h]
  .simp[h]
 .unfold aX;simp
theorem Fs (l) (x):u4 (aX e l) (.inl x)=aX e (qm l x):=by
 unfold u4 qm aX;rw[wB];congr 1;congr 1;funext q;by_cases h:q.1=x<;>simp
theorem oO (l) (x) (v:α):(put l x v).length<=l.length+1:=by
 unfold put;split<;>simp
end
theorem Ft (nd:(R.map (·.1)).Nodup) (m:q∈R):look R q.1=ae q.2:=by
 induction R with
 |nil=>cases m
 |cons a R ih=>
   rw[aM,rY]at nd;unfold look;rw[rW];rcases ba.mp m with rfl|m
   .simp
   .have:¬ a.1=q.1:=λz=>nd.1 (by rw[z];show vw m);rw[decide_eq_false this];show ih nd.2 m
theorem Gx (ps:Al):nD (.tup<|ps.map dP)=ah:=by
 have h:=Np<|ps.map λq=>[q.1,q.2];rw[<-Gw]at h;unfold nD at h ⊢;simpa[toPy,PyData.canLay0,PyData.depth] using h
theorem Fu (neg) (q) (ps:Al):inD neg (dP q) (.tup<|ps.map dP)=ae (.old<|.bl (if neg then !decide (q∈ps) else decide (q∈ps))):=by
 change (if nY (dP q)=ah /\ (ps.map dP).all nY=ah then ae (Res.old<|.bl (if neg then !nG (dP q) (ps.map dP) else nG (dP q) (ps.map dP))) else xp neg _ _ _)=_;unfold xp;rw[show nD (dP q)=ah from PJ [q.1,q.2],Gx,TX];rfl

theorem PQ (h:Hs rs ks ps hd) (a b):iT [.d zb,.d<|.int a,.d<|.int b] bx=.val (.d<|.bl<|!ez ps a b) bx:=by
 have z:(2)<=sizeLine:=by decide
 refine fY<|fS ?_;have e1:fN (fe (dN af minD<|fe (dV 1)<|fe (dV 2) fj)<|fe (dN af maxD<|fe (dV 1)<|fe (dV 2) fj) fj) [ae<|.d zb,xN a,xN b] bx=.val (.d<|dP (if b<a then b else a,if b>a then b else a)) bx:=rfl;refine(fF e1 zc<|Fu ah _ ps).trans ?_;have:decide ((if b<a then b else a,if b>a then b else a)∈ps)=ez ps a b:=by
  unfold ez;rw[nj];simp[xY,decide_eq_true_eq];by_cases c:b<a
  .rw[if_pos c,if_neg za];show#[.inr,λz=>z.elim (λz=>absurd (h.b _ z) zh) id]
  .rw[if_neg c];by_cases d:b>a
   .rw[if_pos d];show#[.inl,λz=>z.elim id λz=>absurd (h.b _ z) zh]
   .rw[if_neg d];have:a=b:=by lia
    subst this;show#[.inl,λz=>z.elim id id]
 rw[this];rfl
theorem Dk (g):fU [.d<|enc g] bx=.val (.d (match g with|.aG _ _ _ r _ _=>.int r|.to _ _ r=>.int r|.out ..=>.az)) bx:=
 fY (by cases g<;>simp[lN,enc,kR,dq,qf,ak,bM,cR,eq_str,LM,Nr,Vk])
section
variable {L:List (Int × α)}
theorem Fv (neg) (hk:k env bx=.val (.d<|.int l) bx) (hm:m env bx=.val (.b i) bx) (hb:sW bx (.b i)=ae (aX e L)) :
 kT neg k m env bx=.val (.d (.bl (if neg then !((L.find? λq=>decide (q.1=l)).map (·.2)).isSome else ((L.find? λq=>decide (q.1=l)).map (·.2)).isSome))) bx:=by
 unfold kT;rw[hk,fM,hm,fM,hb];change O.val _ bx=_;rw[j9,qv]
theorem lc (hk:k env bx=.val (.d<|.int l) bx) (hm:m env bx=.val (.b i) bx) (hb:sW bx (.b i)=ae (aX e L)) (hf:(L.find? λq=>decide (q.1=l)).map (·.2)=ae v):cG m k env bx=.val (.d<|e v) bx:=by
 unfold cG;rw[hm,fM,hk,fM,hb];change (match kS _ _ with|some u=>O.val _ bx|none=>.bad)=_;rw[j9,hf];rfl
theorem jC {l}(h:bx[i]?=ae (.au l)):sW bx (.b i)=ae l:=by unfold sW;simp[h]
theorem Nu {l}(h:bx[i]?=ae (.fD l)):sW bx (.b i)=ae l:=by unfold sW;simp[h]
theorem BJ:rN (aX e L)=(L.map λq=>D.int q.1).map W.d:=by
 unfold rN aX;rw[bB,bB];rfl
end
theorem Fw {bx:List Bx}(h:bx[j]?=ae x):(bx.set j y).set j x=bx:=by
 rw[aaN];apply vq;intro n;by_cases e:j=n
 .subst e;rw[pN (List.getElem?_eq_some_iff.mp h).1,h]
 .rw[nN e]
theorem R0 (h:bx[j]?=ae (.au l)):pK j (bx.set j<|.fD l)=ae bx:=by
 unfold pK;rw[pN (List.getElem?_eq_some_iff.mp h).1];simp[Fw h]
section
variable {K:List (Int × Int)}
abbrev YI:DE W:=uq af [ag,ae 2,ae 6] 2 (fg 0) (dB<|d2 af aW (cG (dV 1)<|dV 0)<|dV 2)<|dV 0
theorem V7 (J:c5 K R n) (hn:n<=100) (hj:bx[j]?=ae (.au<|bI R)) (h2:env[2]?=ae (xB j)) (h6:env[6]?=ae (xN r)) :
 YI env bx=.val (.d<|.lst<|(R.filter λq=>decide (q.2=r)).map λq=>D.int q.1) bx:=by
 have z:sizeLine=16777216:=bj;have lr:=J.lr;unfold YI uq;erw[h2,hj];have s:eV [ag,ae 2,ae 6] env=[ag,xB j,xN r]:=by simp[h2,h6]
 rw[s,show rN (bI R)=(R.map λq=>D.int q.1).map W.d from BJ,(xy (tf:=dB _) (te:=dV 0) (r:=[ae _,ae _]) _ _ R ag [] zh λq m=>
  #[fV<|fF (r:=.old _) (lc zc zc (Nu<|pN (a:=.fD<|bI R) (List.getElem?_eq_some_iff.mp hj).1)<|Ft J.nd m) zc<|rfl,λ_=>rfl]),fM]
 change v8 j (.val _ _)=_;unfold v8;erw[R0 hj];rfl
abbrev adI:DE W:=dN af eJ<|fe (fO af [ag,ae 0,ae 1,ae 7] (bG<|dV 8) (fg 0) fR<|fq aI.iT 3<|fe (dV 1)<|fe (dV 3)<|fe (cG (dV 2)<|dV 0) fj) fj
theorem V8 (h:Hs rs ks ps hd) (J:c5 K R n) (hn:n<=100) (hi:bx[i]?=ae (.au<|bI K)) (h0:env[0]?=ae (ae<|.d zb)) (h1:env[1]?=ae (xB i)) (h7:env[7]?=ae (xN k))
 (h8:env[8]?=ae (ae<|.d<|.lst<|(R.filter λq=>decide (q.2=r)).map λq=>D.int q.1)):adI env bx=.val (.d<|.bl<|!nI ps K R k r) bx:=by
 have z:sizeLine=16777216:=bj;have lr:=J.lr;have fl:=uG (λq:Int×Int=>decide (q.2=r)) R;have it:bG (dV 8) env bx=.val _ bx:=gf (by unfold dV;rw[h8]);have s:eV [ag,ae 0,ae 1,ae 7] env=ag::[ae<|.d zb,xB i,xN k]:=by simp[h0,h1,h7]
 refine(YH (λq=>!ez ps k (kk K q.1)) it s za λq m=>?_).trans ?_
 .let#[v,hv]:=Option.isSome_iff_exists.mp<|J.sub q (cX.mp m).1;have e:kk K q.1=v:=by unfold kk;rw[hv];rfl
  rw[e];show fL (fi zc<|fi zc<|fi (lc zc zc (jC hi) hv) zc) zc<|PQ h k v
 .congr 3;unfold nI;rw[nj];erw[dF,cX,tL,EE,aF,decide_eq_true_eq,not_and,Bool.not_eq_true];show#[λa q m c=>a q #[m,c],λa q m=>a q m.1 m.2]
def ahP:aA:=(fu (fI YI<|fg 8)<|fu (aV (dB adI) (fJ<|dC<|.str "takes") bc)<|fJ<|dC<|.str "apart")
theorem Vn (h:Hs rs ks ps hd) (J:c5 K R n) (hn:n<=100) (hi:bx[i]?=ae (.au<|bI K)) (hj:bx[j]?=ae (.au<|bI R)) (x3 x4 x5 x8) (k r) :
 ahP [ae<|.d zb,xB i,xB j,x3,x4,x5,xN r,xN k,x8] bx=.rt (.d<|.str (if nI ps K R k r then "apart" else "takes")) bx:=by
 have b:=V8 (env:=[ae _,ae _,xB j,x3,x4,x5,xN r,xN k,ae<|.d<|.lst<|(R.filter λq=>decide (q.2=r)).map λq=>D.int q.1]) h J hn hi zc zc zc zc;refine(fr<|gu<|V7 (env:=[ae _,ae _,ae _,x3,x4,x5,ae _,ae _,x8]) J hn hj zc zc).trans ?_;cases c:nI ps K R k r with
 |true=>
   rw[c]at b;show(fr<|gp<|fV b)
 |false=>
   rw[c]at b;show gT<|(gJ<|fV b)
theorem T4 (h:Hs rs ks ps hd) (J:c5 K R n) (hn:n<=100) (hi:bx[i]?=ae (.au<|bI K)) (hj:bx[j]?=ae (.au<|bI R)) (g) :
 ji [.d zb,.b i,.b j,.d<|enc g] bx=.val (.d<|.str<|word ps K R g) bx:=by
 refine fY ?_;change mX _ bx=_;have eM:mX=(fu _ _):=rfl;rw[eM];have p1:eE 4 5 (fe (d2 af ak (dV 3) zf)<|fe (d2 af ak (dV 3)<|dC<|.int 2) fj) [ae<|.d zb,xB i,xB j,ae<|.d<|enc g,ag,ag,ag,ag,ag] bx=.nx [ae<|.d zb,xB i,xB j,ae<|.d<|enc g,ae<|.d<|.str<|bZ g,xN<|ax g,ag,ag,ag] bx:=by
  cases g<;>simp[eE,enc,kR,dq,qf,ak,bM,cR,bZ,ax]
 refine(fr p1).trans ?_;have tE:∀ (w:Str) (x6 x7:Option W),dB (d2 af aW (dV 4)<|dC<|.str w) [ae<|.d zb,xB i,xB j,ae<|.d<|enc g,ae<|.d<|.str<|bZ g,xN<|ax g,x6,x7,ag] bx=.val (decide (bZ g=w)) bx:=λw x6 x7=>fV<|fF zc zc<|eq_str _ _;have tN:dB (d2 af kZ (dV 4)<|dC<|.str "in") [ae<|.d zb,xB i,xB j,ae<|.d<|enc g,ae<|.d<|.str<|bZ g,xN<|ax g,ag,ag,ag] bx=.val (!decide (bZ g="in")) bx:=fV<|fF zc zc<|ne_str _ _;have iK:dB (kT af (dV 5)<|dV 1) [ae<|.d zb,xB i,xB j,ae<|.d<|enc g,ae<|.d<|.str<|bZ g,xN<|ax g,ag,ag,ag] bx=.val (look K<|ax g).isSome bx:=fV<|Fv af zc zc<|jC hi;have iR:dB (kT ah (dV 5)<|dV 2) [ae<|.d zb,xB i,xB j,ae<|.d<|enc g,ae<|.d<|.str<|bZ g,xN<|ax g,ag,ag,ag] bx=.val (!(look R<|ax g).isSome) bx:=fV<|Fv ah zc zc<|jC hj;cases g with
 |aG h' l k r p w=>
   change _=OS.rt (W.d<|.str (if (look K l).isSome then "there" else if nI ps K R k r then "apart" else "takes")) bx;have t1:=mZ (tE "in" ag ag) iK;cases c:(look K l).isSome with
   |true=>
     rw[show (look K<|ax<|.aG h' l k r p w).isSome=ah from c]at t1;show gT<|(gJ t1).trans zc
   |false=>
     rw[show (look K<|ax<|.aG h' l k r p w).isSome=af from c]at t1;refine(fr<|(gp t1).trans zc).trans ?_;refine(fr<|(gp<|Ae tN).trans zc).trans ?_;have t3:=tE "out" ag ag;rw[decide_eq_false (show ¬ bZ (.aG h' l k r p w)="out" by change ¬ ("in":Str)="out";rw[TY];show id)]at t3;refine(fr<|(gp t3).trans zc).trans ?_;refine(fr<|gu<|fL (l:=[.d<|enc<|.aG h' l k r p w]) zc zc<|Dk _).trans ?_;have t4:=tE "to" (xN r) ag;rw[decide_eq_false (show ¬ bZ (.aG h' l k r p w)="to" by change ¬ ("in":Str)="to";rw[Vj];show id)]at t4;refine(fr<|(gp<|Ae t4).trans zc).trans ?_;have kv:rG (dB<|d2 af aW (dV 4)<|dC<|.str "in") (d2 af ak (dV 3)<|dC<|.int 3) (cG (dV 1)<|dV 5) [ae<|.d zb,xB i,xB j,ae<|.d<|enc<|.aG h' l k r p w,ae<|.d<|.str<|bZ<|.aG h' l k r p w,xN<|ax<|.aG h' l k r p w,xN r,ag,ag] bx=.val (.d<|.int k) bx:=by
      unfold rG;rw[(tE "in" (xN r) ag),fM];rfl
     show(fr<|gu kv).trans (Vn h J hn hi hj _ _ _ _ k r)
 |to h' l r=>
   have t1:=tE "in" ag ag;rw[decide_eq_false (show ¬ bZ (.to h' l r)="in" by change ¬ ("to":Str)="in";rw[LM];show id)]at t1 tN;refine(fr<|(gp<|Ae t1).trans zc).trans ?_;have t2:=mZ tN iR;change _=OS.rt (W.d<|.str (match look R l with|none=>"none"|some r0=>if r0=r then "same" else if nI ps K R (kk K l) r then "apart" else "takes")) bx;cases c:look R l with
   |none=>
     rw[show look R (ax<|.to h' l r)=ag from c]at t2;show gT<|(gJ t2).trans zc
   |some r0=>
     rw[show look R (ax<|.to h' l r)=ae r0 from c]at t2;refine(fr<|(gp t2).trans zc).trans ?_;have t3:=tE "out" ag ag;rw[decide_eq_false (show ¬ bZ (.to h' l r)="out" by change ¬ ("to":Str)="out";rw[PK];show id)]at t3;refine(fr<|(gp t3).trans zc).trans ?_;refine(fr<|gu<|fL (l:=[.d<|enc<|.to h' l r]) zc zc<|Dk _).trans ?_;have t4:pV (dB<|d2 af aW (dV 4)<|dC<|.str "to") (dB<|d2 af aW (cG (dV 2)<|dV 5)<|dV 6) [ae<|.d zb,xB i,xB j,ae<|.d<|enc<|.to h' l r,ae<|.d<|.str<|bZ<|.to h' l r,xN<|ax<|.to h' l r,xN r,ag,ag] bx=.val (decide (r0=r)) bx:=
      mZ (tE "to" (xN r) ag) (fV<|fF (r:=.old<|.bl<|decide (r0=r)) (x:=.int r0) (y:=.int r) (lc (e:=D.int) (L:=R) zc zc (jC hj) c) zc<|rfl)
     by_cases d:r0=r
     .rw[decide_eq_true d]at t4;change _=OS.rt (W.d<|.str (if r0=r then "same" else if nI ps K R (kk K l) r then "apart" else "takes")) bx;rw[if_pos d];show gT<|(gJ t4).trans zc
     .rw[decide_eq_false d]at t4;change _=OS.rt (W.d<|.str (if r0=r then "same" else if nI ps K R (kk K l) r then "apart" else "takes")) bx;rw[if_neg d];refine(fr<|(gp t4).trans zc).trans ?_;obtain⟨q,mq,eq⟩:∃ q∈R,q.1=l:=by
       unfold look at c;cases f:R.find? λq=>decide (q.1=l) with
       |none=>rw[f]at c;cases c
       |some q=>show#[q,EI f,by have:=IT f;simpa using this]
      let#[v,hv]:=Option.isSome_iff_exists.mp<|J.sub q mq;rw[eq]at hv;have ev:kk K l=v:=by unfold kk;rw[hv];rfl
      have t5:=tE "in" (xN r) ag;rw[decide_eq_false (show ¬ bZ (.to h' l r)="in" by change ¬ ("to":Str)="in";rw[LM];show id)]at t5;have kv:rG (dB<|d2 af aW (dV 4)<|dC<|.str "in") (d2 af ak (dV 3)<|dC<|.int 3) (cG (dV 1)<|dV 5) [ae<|.d zb,xB i,xB j,ae<|.d<|enc<|.to h' l r,ae<|.d<|.str<|bZ<|.to h' l r,xN<|ax<|.to h' l r,xN r,ag,ag] bx=.val (.d<|.int<|kk K l) bx:=by
       unfold rG;rw[t5,fM,ev];show lc (e:=D.int) (L:=K) zc zc (jC hi) hv
      show(fr<|gu kv).trans (Vn h J hn hi hj _ _ _ _ (kk K l) r)
 |out h' l=>
   have t1:=tE "in" ag ag;rw[decide_eq_false (show ¬ bZ (.out h' l)="in" by change ¬ ("out":Str)="in";rw[Nr];show id)]at t1 tN;refine(fr<|(gp<|Ae t1).trans zc).trans ?_;have t2:=mZ tN iR;change _=OS.rt (W.d<|.str (match look R l with|none=>"none"|some _=>"takes")) bx;cases c:look R l with
   |none=>
     rw[show look R (ax<|.out h' l)=ag from c]at t2;show gT<|(gJ t2).trans zc
   |some r0=>
     rw[show look R (ax<|.out h' l)=ae r0 from c]at t2;show(fr<|(gp t2).trans zc).trans (gT<|(gJ<|tE "out" ag ag).trans zc)
end
open bS

theorem oP {q}(m:q∈put L x v):(q.1=x /\ q.2=v) \/ q∈L:=by
 unfold put at m;split at m
 .let#[p,mp,rfl]:=a9.mp m;by_cases h:p.1=x
  .rw[if_pos h];show .inl #[h,rfl]
  .rw[if_neg h];show .inr mp
 .rcases List.mem_append.mp m with m|m
  .show .inr m
  .cases di.mp m;show .inl #[rfl,rfl]
theorem Nv {v:α}(nd:(L.map (·.1)).Nodup):((put L x v).map (·.1)).Nodup:=by
 unfold put;split
 .rw[bB];have:((λq:Int×α=>q.1)∘λq=>if q.1=x then (q.1,v) else q)=λq=>q.1:=by
   funext q;by_cases h:q.1=x<;>simp[h]
  rw[this];show nd
 .ext h;rw[pO,vz];refine#[nd,by simp,λa ma b mb=>?_];cases (di.mp mb);let#[q,mq,rfl]:=a9.mp ma;show λz=>h<|kB.mpr #[q,mq,decide_eq_true z]
theorem jD (h:look L x=ae v):∃ q∈L,q.1=x:=by
 unfold look at h;cases f:L.find? λq=>decide (q.1=x) with
 |none=>rw[f]at h;cases h
 |some q=>show#[q,EI f,by have:=IT f;simpa using this]
theorem mE:(look L x).isSome=ah ↔ ∃ q∈L,q.1=x:=by
 constructor
 .intro h;let#[v,h]:=Option.isSome_iff_exists.mp h;show jD h
 .rintro⟨q,m,rfl⟩;unfold look;rw[qv,WN];show#[q,m,by simp]
theorem Nw (h:y=x \/ (look L y).isSome=ah):(look (put L x v) y).isSome=ah:=by
 rw[mE];have key:∀ z,(∃ q∈L,q.1=z)->∃ q∈put L x v,q.1=z:=λz ⟨q,m,e⟩=>by
  unfold put;split
  .refine#[if q.1=x then (q.1,v) else q,vw m,?_];split<;>show e
  .show#[q,qX _ m,e]
 rcases h with rfl|h
 .by_cases c:(look L y).isSome=ah
  .show key y<|mE.mp c
  .unfold put;rw[if_neg]
   .show#[(y,v),by simp,rfl]
   .intro z;let#[q,m,e]:=kB.mp z;show c<|mE.mpr #[q,m,of_decide_eq_true e]
 .show key y<|mE.mp h
theorem c5.step {K}(J:c5 K R n) (h:word ps K R g="takes"):c5 (stK K g) (eO R g) (n+1):=by
 have lk:=J.lk;have lr:=J.lr;cases g with
 |aG h' l k r p w=>
   have a:=oO K l k;have b:=oO R l r;refine#[Nv J.nd,λq m=>?_,by change (put K l k).length<=_;lia,by change (put R l r).length<=_;lia];rcases oP m with m|m
   .show Nw<|.inl m.1
   .show Nw<|.inr<|J.sub q m
 |to h' l r=>
   have b:=oO R l r;refine#[Nv J.nd,λq m=>?_,by change K.length<=_;lia,by change (put R l r).length<=_;lia];rcases oP m with m|m
   .rw[m.1];cases c:look R l with
    |none=>
      simp[word,c]at h;show absurd h zd
    |some v=>
      let#[q0,m0,e0]:=jD c;rw[<-e0];show J.sub q0 m0
   .show J.sub q m
 |out h' l=>
   refine#[(λnd=>nd.sublist<|(IU).map _) J.nd,λq m=>J.sub q (cX.mp m).1,by change K.length<=_;lia,?_];have:=uG (λq:Int×Int=>decide (q.1≠l)) R;change (qm R l).length<=_;unfold qm;lia
def tq (x:Pg×Str×D×D):D:=.tup [enc x.1,.str x.2.1,x.2.2.1,x.2.2.2]
section

def Bk (bx:List Bx) (T:List<|Pg×Str×D×D) (K R:Al):List Bx:=bx++[.lst<|T.map tq,.au<|bI K,.au<|bI R]
variable {K:Al}
theorem HY:(Bk bx T K R)[bx.length]?=ae (.lst<|T.map tq):=by simp[Bk]
theorem adJ:(Bk bx T K R)[bx.length+1]?=ae (.au<|bI K):=by simp[Bk]
theorem HZ:(Bk bx T K R)[bx.length+2]?=ae (.au<|bI R):=by simp[Bk]
theorem adK:(Bk bx T K R).set bx.length (.lst<|T'.map tq)=Bk bx T' K R:=by simp[Bk]
theorem ahQ:(Bk bx T K R).set (bx.length+1) (.au<|bI K')=Bk bx T K' R:=by simp[Bk]
theorem YJ:(Bk bx T K R).set (bx.length+2) (.au<|bI R')=Bk bx T K R':=by simp[Bk]
theorem T5 (h1:g w env bx=ae (env1,bx1)) (h2:body env1 bx1=.ct env2 bx2):bR g body (w::l) env bx=bR g body l env2 bx2:=by
 rw[bR,h1];simp[h2]
noncomputable abbrev rE (H P:D) (t:Nat) (x5 x6 x7:Option W):bu:=[ae<|.d H,ae<|.d P,ae<|.b t,ae<|.b<|t+1,ae<|.b<|t+2,x5,x6,x7]

theorem R6 (g) (w) (h:env[5]?=ae (ae<|.d<|enc g)):dB (d2 af aW (d2 af ak (dV 5) zf)<|dC<|.str w) env B=.val (decide (bZ g=w)) B:=by
 refine fV<|fF ?_ zc<|eq_str _ _;cases g<;>simp[h,enc,kR,dq,qf,ak,bM,cR,bZ]
theorem Nx (h:Hs rs ks ps hd) (J:c5 K R n) (hn:n<=100) (g) (x6 x7) :
 fu (fI (d2 af ak (dV 5)<|dC<|.int 2)<|fg 6) (fu (fI (fq aI.ji 4<|fe (dV 0)<|fe (dV 3)<|fe (dV 4)<|fe (dV 5) fj)<|fg 7) k) (rE zb P bx.length (ae<|.d<|enc g) x6 x7) (Bk bx T K R) =
  k (rE zb P bx.length (ae<|.d<|enc g) (xN<|ax g)<|ae<|.d<|.str<|word ps K R g) (Bk bx T K R):=
 (fr<|gu<|(λg h=>by
  cases g<;>simp[h,enc,kR,dq,qf,ak,bM,cR,ax]) g zc).trans (fr<|gu<|fL zc zc<|T4 h J hn adJ HZ g)
theorem R7 (w:Str) (h:env[7]?=ae (ae<|.d<|.str w)):dB (d2 af kZ (dV 7)<|dC<|.str "takes") env B=.val (!decide (w="takes")) B:=
 fV (fF (by unfold dV;rw[h]) zc<|ne_str _ _)
theorem Vo (h:Hs rs ks ps hd) (J:c5 K R n) (hn:n<=100) (hT:T.length<=100) (g) (x6 x7:Option W) (c:¬ word ps K R g="takes") :
 rB (rE zb P bx.length (ae<|.d<|enc g) x6 x7) (Bk bx T K R)=.ct (rE zb P bx.length (ae<|.d<|enc g) (xN<|ax g)<|ae<|.d<|.str<|word ps K R g) (Bk bx (T++[(g,word ps K R g,.az,.az)]) K R):=by
 have z:=bj;refine(Nx h J hn g x6 x7).trans ?_;have t:=R7 _ (env:=rE zb P bx.length (ae<|.d<|enc g) (xN<|ax g)<|ae<|.d<|.str<|word ps K R g) (B:=Bk bx T K R) zc;rw[decide_eq_false c]at t;have a:=lY (m:=dV 2) (k:=fN<|fe (dV 5)<|fe (dV 7)<|fe (dC .az)<|fe (dC .az) fj) (env:=rE zb P bx.length (ae<|.d<|enc g) (xN<|ax g)<|ae<|.d<|.str<|word ps K R g) (bx:=Bk bx T K R) (d:=tq (g,word ps K R g,.az,.az)) zc HY (fX [enc g,.str<|word ps K R g,.az,.az] zc zh) HY zh;rw[show T.map tq++[tq (g,word ps K R g,D.az,D.az)]=(T++[(g,word ps K R g,D.az,D.az)]).map tq by simp,adK]at a;rw[lU,gJ t,fr<|gK a];rfl
noncomputable def kr:Pg->D
 |.aG _ _ _ r _ _=>.int r
 |.to _ _ r=>.int r
 |.out ..=>.az
theorem Fx (hv:v env B=.val (.d<|.int x) B) (hm:m env B=.val (.b i) B) (hk:k env B=.val (.d<|.int l) B) (hb:B[i]?=ae (.au<|bI L)) (hl:L.length<=1000):qj m k v env B=.nx env (B.set i<|.au<|bI<|put L l x):=by
 have z:=bj;unfold qj;rw[hv,iA,hm,iA,hk,iA];simp[hb,qi];rw[if_pos (by unfold bI aX;simp;lia),Jz]
theorem R8 (hm:m env B=.val (.b i) B) (hk:k env B=.val (.d<|.int l) B) (hb:B[i]?=ae (.au<|bI L)) (hs:(look L l).isSome=ah):yY m k env B=.nx env (B.set i<|.au<|bI<|qm L l):=by
 unfold yY;rw[hm,iA,hk,iA];simp[hb,qi];rw[if_pos (by rw[j9,qv];show hs),Fs]
theorem T6 (hm:m env B=.val (.b i) B) (hk:k env B=.val (.d<|.int l) B) (hb:B[i]?=ae (.au<|bI L)):yW m k env B=.val (.d<|((look L l).map D.int).getD .az) B:=by
 unfold yW;rw[hm,fM];simp[hb,hk,fM,qi];rw[j9];rfl
theorem Fy (c:word ps K R (.out h' l)="takes"):(look R l).isSome=ah:=by
 simp[word]at c;cases e:look R l with
 |none=>rw[e]at c;show absurd c zd
 |some v=>rfl
theorem T7 (h:Hs rs ks ps hd) (J:c5 K R n) (hn:n<=100) (hT:T.length<=100) (g) (x6 x7) (c:word ps K R g="takes") :
 rB (rE zb P bx.length (ae<|.d<|enc g) x6 x7) (Bk bx T K R)=.nx (rE zb P bx.length (ae<|.d<|enc g) (xN<|ax g)<|ae<|.d<|.str<|word ps K R g) (Bk bx (T++[(g,word ps K R g,((look R<|ax g).map D.int).getD .az,kr g)]) (stK K g)<|eO R g):=by
 have z:sizeLine=16777216:=bj;have lk:=J.lk;have lr:=J.lr;refine(Nx h J hn g x6 x7).trans ?_;generalize hE:rE _ P bx.length _ _ _=E;have e2:∀ B,dV 2 E B=.val _ B:=λB=>by subst hE;rfl
 have e3:∀ B,dV 3 E B=.val _ B:=λB=>by subst hE;rfl
 have e4:∀ B,dV 4 E B=.val _ B:=λB=>by subst hE;rfl
 have e5:E[5]?=ae (ae<|.d<|enc g):=by subst hE;rfl
 have v5:∀ B,dV 5 E B=.val _ B:=λB=>by subst hE;rfl
 have e6:∀ B,dV 6 E B=.val _ B:=λB=>by subst hE;rfl
 have e7:∀ B,dV 7 E B=.val _ B:=λB=>by subst hE;rfl
 have t:=R7 _ (env:=E) (B:=Bk bx T K R) (by subst hE;rfl);rw[decide_eq_true c]at t;refine(fr<|(gp t).trans zc).trans ?_;have en:∀ B,fq aI.fU 1 (fe _ fj) E B=.val (.d<|kr g) B:=λB=>(fL (fi (v5 B) zc) zc<|Dk g).trans (by cases g<;>rfl);have a:=lY (k:=fN<|fe (dV 5)<|fe (dV 7)<|fe (yW (dV 4)<|dV 6)<|fe (fq aI.fU 1<|fe (dV 5) fj) fj) (bx:=Bk bx T K R) (d:=tq (g,word ps K R g,((look R<|ax g).map D.int).getD .az,kr g)) (e2 _) HY
  (fX [enc g,.str<|word ps K R g,((look R<|ax g).map D.int).getD .az,kr g] (fi (v5 _)<|fi (e7 _)<|fi (T6 (e4 _) (e6 _) HZ)<|fi (en _) zc) zh) HY zh
 rw[show T.map tq++[tq (g,word ps K R g,((look R<|ax g).map D.int).getD .az,kr g)]=(T++[(g,word ps K R g,((look R<|ax g).map D.int).getD .az,kr g)]).map tq by simp,adK]at a;refine(fr<|gK a).trans ?_;generalize T++[(g,word ps K R g,((look R<|ax g).map D.int).getD .az,kr g)]=T2;have ti:=R6 g "in" (B:=Bk bx T2 K R) e5;have to:=λK2=>R6 g "out" (B:=Bk bx T2 K2 R) e5;cases g with
 |aG h' l k r p w=>
   have p1:=Fx (v:=d2 af ak (dV 5)<|dC<|.int 3) (B:=Bk bx T2 K R) (env:=E) (by rw[M0,v5];rfl) (e3 _) (e6 _) adJ za;rw[ahQ]at p1;refine(fr<|(gJ ti).trans p1).trans ?_;have to:=to<|put K l k;rw[decide_eq_false (show ¬ bZ (.aG h' l k r p w)="out" by change ¬ ("in":Str)="out";rw[TY];show id)]at to;have p2:=Fx (v:=fq aI.fU 1<|fe (dV 5) fj) (x:=r) (B:=Bk bx T2 (put K l k) R) (env:=E) (en _) (e4 _) (e6 _) HZ za;rw[YJ]at p2;show(gp to).trans p2
 |to h' l r=>
   rw[decide_eq_false (show ¬ bZ (.to h' l r)="in" by change ¬ ("to":Str)="in";rw[LM];show id)]at ti;refine(fr<|(gp ti).trans zc).trans ?_;have to:=to K;rw[decide_eq_false (show ¬ bZ (.to h' l r)="out" by change ¬ ("to":Str)="out";rw[PK];show id)]at to;have p2:=Fx (v:=fq aI.fU 1<|fe (dV 5) fj) (x:=r) (B:=Bk bx T2 K R) (env:=E) (en _) (e4 _) (e6 _) HZ za;rw[YJ]at p2;show(gp to).trans p2
 |out h' l=>
   rw[decide_eq_false (show ¬ bZ (.out h' l)="in" by change ¬ ("out":Str)="in";rw[Nr];show id)]at ti;refine(fr<|(gp ti).trans zc).trans ?_;have p2:=R8 (B:=Bk bx T2 K R) (env:=E) (e4 _) (e6 _) HZ<|Fy c;rw[show ax (.out h' l)=l from rfl,YJ]at p2;show(gJ<|to K).trans p2
def YK (ps:Al) (qs:List Pg):List D:=(qs.zip<|wordsOf ps [] [] qs).map λp=>.tup [enc p.1,.str p.2]
theorem Ec:c5 [] [] 0:=#[by simp,(λq m=>nomatch m),aC _,aC _]
end
noncomputable abbrev At:=List<|Int×(Int×Int)
def aJ (K R:Al):At:=R.map λq=>(q.1,(kk K q.1,q.2))
theorem oQ {α:Type}{L:List (Int×α)}(nd:(L.map (·.1)).Nodup) {q}(m:q∈L):(L.find? λp=>decide (p.1=q.1)).map (·.2)=ae q.2:=by
 induction L with
 |nil=>cases m
 |cons a L ih=>
   rw[aM,rY]at nd;rw[rW];rcases ba.mp m with rfl|m
   .simp
   .have:¬ a.1=q.1:=λz=>nd.1 (by rw[z];show vw m);rw[decide_eq_false this];show ih nd.2 m
theorem oR {K}:(aJ K R).map (·.1)=R.map (·.1):=by unfold aJ;rw[bB];rfl
theorem lZ {K}:((aJ K R).find? λp=>decide (p.1=l)).map (·.2)=(look R l).map λr=>(kk K l,r):=by
 unfold aJ look;induction R with
 |nil=>rfl
 |cons a R ih=>
   rw[aM,rW,rW];by_cases h:a.1=l
   .simp[h]
   .rw[decide_eq_false h];show ih
theorem l5 {α β:Type}{L:List (Int×α)}{M:List (Int×β)}(h:L.map (·.1)=M.map (·.1)) (x):(L.any λq=>decide (q.1=x))=M.any λq=>decide (q.1=x):=by
 have:∀ {γ}(N:List<|Int×γ),(N.any λq=>decide _)=(N.map (·.1)).any λy=>decide (y=x):=λN=>by rw[IP];rfl
 rw[this,this,h]
theorem Ny (h:L.map (·.1)=M.map (·.1)) (x) (v:α) (w:β):(put L x v).map (·.1)=(put M x w).map (·.1):=by
 unfold put;rw[l5 h];split
 .have:∀ {γ}(N:List<|Int×γ) (u),(N.map λq=>if q.1=x then (q.1,u) else q).map (·.1)=N.map (·.1):=λN u=>by
   rw[bB];refine rf λq _=>?_;by_cases c:q.1=x<;>simp[c]
  rw[this,this,h]
 .rw[pO,pO,h];rfl
theorem LN {α β:Type}{L:List (Int×α)}{M:List (Int×β)}(h:L.map (·.1)=M.map (·.1)) (x:Int):((L.find? λq=>decide (q.1=x)).map (·.2)).isSome=((M.find? λq=>decide (q.1=x)).map (·.2)).isSome:=by
 rw[qv,qv,nj,WN,WN];have:=l5 h x;rw[nj,kB,kB]at this;show this
theorem JA {K}:put (aJ K R) l (kk K l,r)=aJ K (put R l r):=by
 unfold put;rw[l5 oR];split
 .unfold aJ;rw[bB,bB];refine rf λq _=>?_;by_cases c:q.1=l<;>simp[c]
 .unfold aJ;simp
theorem PR {K}:qm (aJ K R) l=aJ K (qm R l):=by
 unfold qm aJ;rw[wB];rfl
theorem Dl {K}(h:look K l=ag):kk (put K l k) x=if x=l then k else kk K x:=by
 unfold kk put;rw[if_neg (λz=>by
  let#[q,m,e]:=kB.mp z;have:=mE.mpr #[q,m,of_decide_eq_true e];rw[h]at this;cases this)]
 unfold look at h ⊢;rw[IV];by_cases c:x=l
 .subst c;rw[Option.map_eq_none_iff]at h;simp[h]
 .rw[if_neg c];have c':¬ l=x:=λz=>c z.symm;cases K.find? λq=>decide (q.1=x)<;>simp[c']
theorem PU {K}(J:c5 K R n) (h:look K l=ag):put (aJ K R) l (k,r)=aJ (put K l k) (put R l r):=by
 have e:aJ (put K l k) R=aJ K R:=by
  refine rf λq m=>?_;have:q.1≠l:=λz=>by
   have:=J.sub q m;rw[z,h]at this;cases this
  rw[Dl h,if_neg this]
 have:kk (put K l k) l=k:=by rw[Dl h,if_pos rfl]
 rw[<-JA,e,this]
section
variable {K:List (Int × Int)}
theorem R9 (h0:env[0]?=ae (ae<|.d zb)) (hx:x env C=.val (.d<|.int k) C) (hy:y env C=.val (.d<|.int v) C) :
 dB (d2 af (inD af) (fN<|fe x<|fe y fj)<|d2 af ak (dV 0)<|dC<|.int 2) env C=.val (decide ((k,v)∈ps)) C:=by
 have z:(2)<=sizeLine:=by decide
 refine fV<|fF (fX [.int k,.int v] (fi hx<|fi hy zc) z) ?_<|Fu af (k,v) ps;simp[h0,ak,bM,cR]
theorem PV (hb:B[b]?=ae (.fD<|aX dP<|aJ K R)) (nd:(R.map (·.1)).Nodup):∀ (L:Al) (acc:List D) (x4 x5:Option W),(∀ q∈L,q∈R)->acc.length+L.length<=1000 ->
 ∃ y4 y5,bR (fg 4) Qs ((L.map λq=>D.int q.1).map W.d) [ae<|.d zb,xB b,xN k,xB B.length,x4,x5] (B++[.lst acc])=.nx [ae<|.d zb,xB b,xN k,xB B.length,y4,y5] (B++[.lst<|acc++(L.filter λq=>ez ps k<|kk K q.1).map dP]):=by
 intro l_;induction l_ with
 |nil=>show λacc x4 x5 _ _=>#[x4,x5,by simp[bR]]
 |cons q L bV=>
   intro acc x4 x5 hm hl;have z:sizeLine=16777216:=bj;rw[bE]at hl;have mt:(q.1,(kk K q.1,q.2))∈aJ K R:=a9.mpr #[q,(hm q<|bA ..),rfl];have g1:∀ (x5:Option W) (a:List D),cG (dV 1) (dV 4) [ae<|.d zb,xB b,xN k,xB B.length,xN q.1,x5] (B++[.lst a])=.val (.d<|dP (kk K q.1,q.2)) (B++[.lst a]):=λx5 a=>lc zc zc (Nu<|(λa=>by rw[dZ (List.getElem?_eq_some_iff.mp hb).1];show hb) a)<|oQ (by rw[oR];show nd) mt;have s1:fI (d2 af ak (cG (dV 1)<|dV 4) ze) (fg 5) [ae<|.d zb,xB b,xN k,xB B.length,xN q.1,x5] (B++[.lst acc])=.nx [ae<|.d zb,xB b,xN k,xB B.length,xN q.1,xN<|kk K q.1] (B++[.lst acc]):=
    gu (fF (r:=.old<|.int<|kk K q.1) (g1 _ _) zc zc)
   have t1:=R9 (env:=[ae<|.d zb,xB b,xN k,xB B.length,xN q.1,xN<|kk K q.1]) (C:=B++[.lst acc]) (x:=dV 2) (y:=dV 5) (k:=k) (v:=kk K q.1) zc zc zc;have t2:=R9 (env:=[ae<|.d zb,xB b,xN k,xB B.length,xN q.1,xN<|kk K q.1]) (C:=B++[.lst acc]) (x:=dV 5) (y:=dV 2) (k:=kk K q.1) (v:=k) zc zc zc;have t:qH (dB<|d2 af (inD af) (fN<|fe (dV 2)<|fe (dV 5) fj)<|d2 af ak (dV 0)<|dC<|.int 2) (dB<|d2 af (inD af) (fN<|fe (dV 5)<|fe (dV 2) fj)<|d2 af ak (dV 0)<|dC<|.int 2) [ae<|.d zb,xB b,xN k,xB B.length,xN q.1,xN<|kk K q.1] (B++[.lst acc])=.val (ez ps k<|kk K q.1) (B++[.lst acc]):=by
    unfold ez;by_cases c:(k,kk K q.1)∈ps
    .rw[decide_eq_true c]at t1 ⊢;show RX t1
    .rw[decide_eq_false c]at t1 ⊢;rw[WG];show mM t1 t2
   have f1:fg 4 (W.d<|.int q.1) [ae<|.d zb,xB b,xN k,xB B.length,x4,x5] (B++[.lst acc])=ae ([ae<|.d zb,xB b,xN k,xB B.length,xN q.1,x5],B++[.lst acc]):=rfl;cases c:ez ps k (kk K q.1) with
   |false=>
     rw[c]at t;let#[y4,y5,e]:=bV acc (xN q.1) (xN<|kk K q.1) (λq m=>hm q<|a8 _ m) za;refine#[y4,y5,?_];have bd:Qs [ae<|.d zb,xB b,xN k,xB B.length,xN q.1,x5] (B++[.lst acc])=.nx [ae<|.d zb,xB b,xN k,xB B.length,xN q.1,xN<|kk K q.1] (B++[.lst acc]):=(fr s1).trans<|(gp t).trans zc;rw[aM,aM,gj f1 bd,e,vt (by simp[c])]
   |true=>
     rw[c]at t;let#[y4,y5,e]:=bV (acc++[dP q]) (xN q.1) (xN<|kk K q.1) (λq m=>hm q<|a8 _ m) zh;have b0:(B++[Bx.lst acc])[B.length]?=ae (.lst acc):=by simp
     have a:=lY (m:=dV 3) (k:=fN<|fe (dV 4)<|fe (d2 af ak (cG (dV 1)<|dV 4) zf) fj) (env:=[ae<|.d zb,xB b,xN k,xB B.length,xN q.1,xN<|kk K q.1]) (bx:=B++[.lst acc]) (i:=B.length) (d:=dP q) zc b0 (fX [.int q.1,.int q.2] (fi zc<|fi (fF (r:=.old<|.int q.2) (g1 _ _) zc zc) zc) zh) b0 za;rw[show (B++[Bx.lst acc]).set B.length (.lst<|acc++[dP q])=B++[.lst<|acc++[dP q]] by simp]at a;refine#[y4,y5,?_];rw[aM,aM,gj f1<|(fr s1).trans<|(gJ t).trans<|gK a,e,vv (by simp[c])];simp
theorem JB (J:c5 K R n) (hn:n<=100) (hb:B[b]?=ae (.au<|aX dP<|aJ K R)):gO [.d zb,.b b,.d<|.int k] B=.val (.d<|.lst<|(R.filter λq=>ez ps k<|kk K q.1).map dP) B:=by
 have lr:=J.lr;have bl:=(List.getElem?_eq_some_iff.mp hb).1;have hf:(B.set b _)[b]?=ae (.fD<|aX dP<|aJ K R):=pN bl;let#[y4,y5,e]:=PV hf J.nd R [] ag ag (λq m=>m) zh;rw[qY,kK]at e;have kw:rN (aX dP<|aJ K R)=(R.map λq=>D.int q.1).map W.d:=by
  rw[BJ];simp[aJ]
 have b1:(B++[Bx.lst []])[b]?=ae (.au<|aX dP<|aJ K R):=by rw[dZ bl];show hb
 have fk:y0 1 (fg 4) Qs [ae<|.d zb,xB b,xN k,xB B.length,ag,ag] (B++[.lst []])=.nx [ae<|.d zb,xB b,xN k,xB B.length,y4,y5] (B++[.lst<|(R.filter λq=>ez ps k<|kk K q.1).map dP]):=by
  unfold y0;simp[show ([ae<|.d<|hs rs ks ps hd,xB b,xN k,xB B.length,ag,ag])[1]?=ae (ae<|W.b b) from rfl,b1];rw[kw,WM _ _ bl,e];change v7 b (.nx _ _)=_;unfold v7;have th:pK b (B.set b (.fD<|aX dP<|aJ K R)++[.lst<|(R.filter λq=>ez ps k<|kk K q.1).map dP])=ae (B++[.lst<|(R.filter λq=>ez ps k<|kk K q.1).map dP]):=by
   unfold pK;rw[dZ (by rw[qY];show bl),hf];simp;rw[WM _ _ (by rw[qY];show bl),Fw hb]
  simp[th]
 have m:Av [ae<|.d zb,xB b,xN k,ag,ag,ag] B=.rt (.d<|.lst<|(R.filter λq=>ez ps k<|kk K q.1).map dP) ((B++[Bx.lst<|(R.filter λq=>ez ps k<|kk K q.1).map dP]).set B.length .dead):=(fr<|gu<|jq [] zc<|dJ _).trans<|(fr fk).trans<|fS<|Nh zc zg;refine(j8 m).trans ?_;simp
end
def Bl (bx:List Bx) (th:At) (ca:List<|Int×Pg) (go:Al) (dr:List<|List Key×D) (av wd:List D) (ex:List Bx:=[]):List Bx:=bx++(.au (aX dP th)::.au (aX enc ca)::.au (bI go)::.dT dr::.lst av::.lst wd::ex)
noncomputable abbrev ml (n:Nat):List (Str×Nat):=[("there",n),("came",n+1),("gone",n+2),("doors",n+3),("at",n+4),("words",n+5)]

theorem u9:(Bl bx th ca go dr av wd ex)[bx.length]?=ae (.au<|aX dP th):=by simp[Bl]
theorem YL:(Bl bx th ca go dr av wd ex)[bx.length+1]?=ae (.au<|aX enc ca):=by simp[Bl]
theorem adL:(Bl bx th ca go dr av wd ex)[bx.length+3]?=ae (.dT dr):=by simp[Bl]
theorem Ed:(Bl bx th ca go dr av wd ex)[bx.length+4]?=ae (.lst av):=by simp[Bl]
theorem Ia:(Bl bx th ca go dr av wd ex)[bx.length+5]?=ae (.lst wd):=by simp[Bl]
theorem YM:(Bl bx th ca go dr av wd ex).set bx.length (.au<|aX dP qK)=Bl bx qK ca go dr av wd ex:=by simp[Bl]
theorem YN:(Bl bx th ca go dr av wd ex).set (bx.length+1) (.au<|aX enc qL)=Bl bx th qL go dr av wd ex:=by simp[Bl]
theorem tX:(Bl bx th ca go dr av wd ex).set (bx.length+2) (.au<|bI go')=Bl bx th ca go' dr av wd ex:=by simp[Bl]
theorem ahR:(Bl bx th ca go dr av wd ex).set (bx.length+3) (.dT bP)=Bl bx th ca go bP av wd ex:=by simp[Bl]
theorem adM:(Bl bx th ca go dr av wd ex).set (bx.length+4) (.lst ahS)=Bl bx th ca go dr ahS wd ex:=by simp[Bl]
theorem YD:(Bl bx th ca go dr av wd ex).set (bx.length+5) (.lst ahT)=Bl bx th ca go dr av ahT ex:=by simp[Bl]
theorem BK:(Bl bx th ca go dr av wd ex).length=bx.length+6+ex.length:=by simp[Bl];lia
theorem jE (h:m env B=.val (.m M) B) (hk:M.lookup k=ae j):cb m k env B=.val (.b j) B:=by
 unfold cb;rw[h,fM];simp[hk]
structure Mp (M:List<|Str×Nat) (n:Nat):zm where
 t:M.lookup ("there":Str)=ae n
 c:M.lookup ("came":Str)=ae (n+1)
 g:M.lookup ("gone":Str)=ae (n+2)
 d:M.lookup ("doors":Str)=ae (n+3)
theorem adN:(ml n).lookup ("there":Str)=ae n:=rfl
theorem YO:(ml n).lookup ("came":Str)=ae (n+1):=by rfl
theorem adO:(ml n).lookup ("doors":Str)=ae (n+3):=by rfl
theorem adP:(ml n).lookup ("at":Str)=ae (n+4):=by rfl
noncomputable def aH:Pg->Int
 |.aG h ..=>h
 |.to h ..=>h
 |.out h _=>h
section
variable {L:List (Int × α)}
theorem BL (hv:v env B=.val (.d<|e x) B) (hm:m env B=.val (.b i) B) (hk:k env B=.val (.d<|.int l) B) (hb:B[i]?=ae (.au<|aX e L)) (hl:L.length<=1000):qj m k v env B=.nx env (B.set i<|.au<|aX e<|put L l x):=by
 have z:=bj;unfold qj;rw[hv,iA,hm,iA,hk,iA];simp[hb,qi];rw[if_pos (by unfold aX;simp;lia),Jz]
theorem Nz (hm:m env B=.val (.b i) B) (hk:k env B=.val (.d<|.int l) B) (hb:B[i]?=ae (.au<|aX e L)) (hs:(L.find? λq=>decide (q.1=l)).map (·.2)=ae x):yX m k env B=.val (.d<|e x) (B.set i<|.au<|aX e<|qm L l):=by
 unfold yX;rw[hm,fM];simp[hb,hk,fM,qi];rw[j9,hs,Fs];rfl
end
end aI
namespace bS
open L2 L2.DL K1 K2


end bS
namespace K2
open L2 L2.DL K1


end K2
namespace K1
open L2 L2.DL
end K1
namespace K2
open L2 L2.DL K1
end K2
namespace bS
open L2 L2.DL K1 K2




end bS
namespace dz
open L2 L2.DL K1 bS

theorem Qz (p) (f):∀ (l:List<|Int×Int) (w v:Option W) (acc:List D),acc.length+l.length<=sizeLine->(∀ a∈l,tf (xN a.1::xN a.2::r) bx=.val (p a) bx /\ (p a=ah->te (xN a.1::xN a.2::r) bx=.val (.d<|f a) bx)) ->
 bO gP tf te ((l.map dP).map W.d) (w::v::r) bx acc=.val (acc++(l.filter p).map f) bx
 |[],w,v,acc,_,_=>by simp[bO]
 | a::l,w,v,acc,n,h=>by
   let#[h1,h2]:=h a<|bA ..;rw[bE]at n;have n':acc.length<sizeLine:=by lia
   have e0:gP (W.d<|dP a) (w::v::r) bx=ae (ae _::ae _::r,bx):=rfl;cases c:p a with
   |false=>
     rw[vt (by simp[c]),<-Qz p f l (ae<|W.d<|.int a.1) (ae<|W.d<|.int a.2) acc za λx m=>h x<|a8 _ m];rw[c]at h1;simp[aM,bO,e0,h1,Ab]
   |true=>
     rw[vv c];rw[c]at h1;erw[aM,bO,e0,h1,h2 c,Ab,if_pos n',(Qz p f l _ _ (acc++[f a]) zh λx m=>h x<|a8 _ m)];simp

theorem NA (neg) (is:List Int) (b):inD neg (.int b) (.lst<|is.map D.int)=ae (.old<|.bl (if neg then !decide (b∈is) else decide (b∈is))):=by
 change (if nY _=ah /\ (is.map D.int).all nY=ah then ae _ else xp neg _ _ _)=_;rw[if_pos #[rfl,(λis=>by rw[yf];show dF.mpr λ_ _=>rfl) is],Nn];have:(is.any λz=>decide (z=b))=decide (b∈is):=by
  rw[nj];simp
 rw[this]
end dz
namespace aI
open L2 L2.DL K1 dz bS
def cK (ps K R:Al) (g:Pg):Al:=if word ps K R g="takes" then stK K g else K
def dI (ps K R:Al) (g:Pg):Al:=if word ps K R g="takes" then eO R g else R
theorem adQ (L:Al) (r):inD af (.int r) (.lst<|L.map λq=>.int q.2)=ae (.old (.bl (decide (r∈L.map (·.2))))):=by
 have:=NA af (L.map (·.2)) r;rw[bB]at this;show this
theorem iH {K}(h:¬ word ps K R g="takes"):cK ps K R g=K /\ dI ps K R g=R:=#[if_neg h,if_neg h]
theorem gD {K}(h:word ps K R g="takes"):cK ps K R g=stK K g /\ dI ps K R g=eO R g:=#[if_pos h,if_pos h]
section
variable {K:List (Int × Int)} {bx:List Bx}
theorem Sa (k r):decide (r∈(R.filter λq=>ez ps k<|kk K q.1).map (·.2))=nI ps K R k r:=by
 unfold nI;rw[nj,decide_eq_true_eq,kB];erw[a9,cX,aF,decide_eq_true_eq];show#[λ⟨q,m,e⟩=>#[q,m.1,e,m.2],λ⟨q,m,e,a⟩=>#[q,#[m,a],e]]
theorem Vp (nd:(R.map (·.1)).Nodup) (h:look R l=ae r0) (d:¬ r0=r) (k):decide (r∈(((R.filter λq=>ez ps k<|kk K q.1).filter λq=>!decide (q.1=l))).map (·.2))=nI ps K R k r:=by
 rw[<-Sa,nj,decide_eq_true_eq,decide_eq_true_eq];erw[a9,cX,tL,decide_eq_false_iff_not];refine#[λ⟨q,m,e⟩=>#[q,m.1,e],λ⟨q,m,e⟩=>#[q,#[m,λz=>?_],e]];have:=Ft nd m.1;rw[z,h]at this;show d<|(Option.some.inj this).trans e
abbrev oE (H:D) (M:List<|Str×Nat) (g:Pg) (x6 x7 x8:Option W):bu:=[ae<|.d H,ae<|.m M,ae<|.d<|enc g,ae<|.d<|.int<|aH g,ae<|.d<|.str<|bZ g,ae<|.d<|.int<|ax g,x6,x7,x8]
theorem Vq (J:c5 K R n) (hn:n<=100) (hb:B[bx.length]?=ae (.au<|aX dP<|aJ K R)) (h0:env[0]?=ae (ae<|.d zb)) (h6:env[6]?=ae (xB bx.length)) (hk:mk env B=.val (.d<|.int k) B) (hr:mr env B=.val (.d<|.int r) B) :
 dB (d2 af (inD af) mr<|fO af [ag,ag] (bG<|fq aI.gO 3<|fe (dV 0)<|fe (dV 6)<|fe mk fj) gP fR<|dV 1) env B=.val (nI ps K R k r) B:=by
 have z:=bj;have lr:=J.lr;have fl:=uG (λq:Int×Int=>ez ps k<|kk K q.1) R;have c:=Qz (tf:=fR) (te:=dV 1) (bx:=B) (r:=[]) (λ_=>ah) (λq=>.int q.2) (R.filter λq=>ez ps k<|kk K q.1) ag ag [] zh λq _=>#[rfl,λ_=>rfl];rw[kK,List.filter_eq_self.mpr λ_ _=>rfl]at c;rw[<-Sa];show fV (fF (r:=.old (.bl (decide (r∈(R.filter λq=>ez ps k<|kk K q.1).map (·.2))))) hr (gq (gf<|fL (fi (by unfold dV;rw[h0])<|fi (by unfold dV;rw[h6])<|fi hk zc) zc<|JB J hn hb) zc c)<|adQ _ r)
theorem Vr (J:c5 K R n) (hn:n<=100) (hb:B[bx.length]?=ae (.au<|aX dP<|aJ K R)) (h0:env[0]?=ae (ae<|.d zb)) (h5:env[5]?=ae (xN l)) (h6:env[6]?=ae (xB bx.length)) (hk:mk env B=.val (.d<|.int k) B) (hr:mr env B=.val (.d<|.int r) B) (hl:look R l=ae r0) (d:¬ r0=r) :
 dB (d2 af (inD af) mr<|fO af [ag,ag,ae 5] (bG<|fq aI.gO 3<|fe (dV 0)<|fe (dV 6)<|fe mk fj) gP (dB<|d2 af kZ (dV 0)<|dV 2)<|dV 1) env B=.val (nI ps K R k r) B:=by
 have z:=bj;have lr:=J.lr;have fl:=uG (λq:Int×Int=>ez ps k<|kk K q.1) R;have c:=Qz (tf:=dB<|d2 af kZ (dV 0)<|dV 2) (te:=dV 1) (bx:=B) (r:=[xN l]) (λq=>!decide (q.1=l)) (λq=>.int q.2) (R.filter λq=>ez ps k<|kk K q.1) ag ag [] zh λq _=>#[fV<|fF (r:=.old<|.bl<|!decide (q.1=l)) zc zc<|rfl,λ_=>rfl];rw[kK]at c;rw[<-Vp J.nd hl d];show fV (fF (r:=.old (.bl (decide (r∈(((R.filter λq=>ez ps k<|kk K q.1).filter λq=>!decide (q.1=l))).map (·.2))))) hr (gq (gf<|fL (fi (by unfold dV;rw[h0])<|fi (by unfold dV;rw[h6])<|fi hk zc) zc<|JB J hn hb) (by simp[h5]) c)<|adQ _ r)

noncomputable def cT:Pg->Int
 |.aG _ _ k ..=>k
 |_=>0
noncomputable def isIn:Pg->Bool
 |.aG ..=>ah
 |_=>af
abbrev Ee (ca:List<|Int×Pg):Al:=ca.map λq=>(q.1,cT q.2)
theorem T8:Ee (put ca l g)=put (Ee ca) l (cT g):=by
 have e:(Ee ca).map (·.1)=ca.map (·.1):=by rw[bB];rfl
 unfold put;rw[l5 e];split
 .unfold Ee;rw[bB,bB];refine rf λq _=>?_;by_cases c:q.1=l<;>simp[c]
 .simp
structure Lb (K:Al) (ca:List<|Int×Pg) (go:Al) (dr:List<|List Key×D) (m:Nat):zm where
 k:Ee ca=K
 i:∀ q∈ca,isIn q.2=ah
 c:ca.length<=m
 g:go.length<=m
 d:dr.length<=2*m
theorem Lb.keys (Q:Lb K ca go dr m):ca.map (·.1)=K.map (·.1):=by rw[<-Q.k,bB];rfl
end
theorem c5.nx {K}(J:c5 K R n) (g):c5 (cK ps K R g) (dI ps K R g) (n+1):=by
 by_cases c:word ps K R g="takes"
 .rw[(gD c).1,(gD c).2];show J.step c
 .rw[(iH c).1,(iH c).2];show#[J.nd,J.sub,xX J.lk,xX J.lr]
theorem Gy {K}:wordsOf ps K R (g::gs)=word ps K R g::wordsOf ps (cK ps K R g) (dI ps K R g) gs:=by
 change word ps K R g::_=_;by_cases c:word ps K R g="takes"
 .rw[(gD c).1,(gD c).2,if_pos c]
 .rw[(iH c).1,(iH c).2,if_neg c]
abbrev Ib (p:Pg×Str):D:=.tup [enc p.1,.str p.2]
def xA (ps:Al):Al->Al->List Pg->Al
 |K,_,[]=>K
 |K,R,g::gs=>xA ps (cK ps K R g) (dI ps K R g) gs
def vb (ps:Al):Al->Al->List Pg->List D
 |_,_,[]=>[]
 |K,R,g::gs=>.tup [.int<|aH g,.au<|aX dP<|aJ (cK ps K R g)<|dI ps K R g]::vb ps (cK ps K R g) (dI ps K R g) gs

theorem T9 (g) (h:env[3]?=ae (ae<|.d<|enc g)):d2 af ak (dV 3) ze env B=.val (.d<|.int<|aH g) B:=by
 cases g<;>simp[h,enc,kR,dq,qf,ak,bM,cR,aH]
abbrev YQ (ft:List W->List Bx->O W):aA:=(fI (d2 af f8 (dV 3)<|fO af [ag,ae 0,ae 4] (d8<|fe (dV 4) fj) (fg 0) (dB<|d2 af aW (fq ft 2<|fe (dV 1)<|fe (dC<|.int 3) fj) ze)<|fN<|fe (dV 0)<|fe (dV 2) fj)<|fg 3)
theorem LO (h:n<bx.length) (k) (hk:k<=4) (p):∃ is:List Nat,∃ q,is.Sublist (List.range k) /\
 bO (fg 0) (dB<|d2 af aW (fq K1.fm 2<|fe (dV 1)<|fe (dC<|.int 3) fj) ze) (fN<|fe (dV 0)<|fe (dV 2) fj) (fK 0 k) [ag,xB n,xN k] (pt bx n p) []=.val (is.map λ(i:Nat)=>dP ((i),(k))) (pt bx n q):=by
 have z2:(2)<=sizeLine:=by decide
 have sz:=bj
 let#[l',q,e,s]:=BC (g:=fg 0) (tf:=dB<|d2 af aW (fq K1.fm 2<|fe (dV 1)<|fe (dC<|.int 3) fj) ze) (te:=fN<|fe (dV 0)<|fe (dV 2) fj) (λe=>∃ w,e=[w,xB n,xN k]) (λw=>.tup [match w with|.d x=>x|_=>.az,.int k]) (bx:=bx) (n:=n) (fK 0 k) [ag,xB n,xN k] p [] #[ag,rfl] (by
  intro w mw env p ⟨w0,je⟩;let#[i,_,rfl]:=a9.mp mw;show#[[xN<|0+(i),xB n,xN k],decide (p % 3=0),p / 3,by simp[je],#[_,rfl],by simp[(jk h p 3 (by decide) (by decide)),aW],rfl]) (by simp[fK];lia)
 let#[is,s1,rfl]:=List.sublist_map_iff.mp s;refine#[is,q,s1,?_];rw[e,kK,bB];congr 1;refine rf λi _=>?_;simp
theorem NB (x1 x2:Option W) {is:List Nat}(hk:k<=4) (y:ps.length+is.length<=sizeLine)
 (e:bO (fg 0) (dB<|d2 af aW (fq ft 2<|fe (dV 1)<|fe (dC<|.int 3) fj) ze) (fN<|fe (dV 0)<|fe (dV 2) fj) (fK 0 k) [ag,xB n,xN k] (pt bx n p) []=.val (is.map λ(i:Nat)=>dP ((i),(k))) (pt bx n q)) :
 YQ ft [xB n,x1,x2,xP ps,xN<|k] (pt bx n p)=.nx [xB n,x1,x2,xP<|ps++is.map λ(i:Nat)=>((i:Int),(k:Int)),xN<|k] (pt bx n q):=by
 have ad:f8 (.lst<|ps.map dP) (.lst<|is.map λ(i:Nat)=>dP ((i),(k)))=ae (.lst<|(ps++is.map λ(i:Nat)=>((i:Int),(k:Int))).map dP):=by
  refine(if_pos (by rw[aK,aK];show y)).trans ?_;rw[pO,bB];rfl
 unfold YQ
 rw[C6,M0,show dV 3 _ _=.val _ _ from rfl,fM,C7,(Dg (env:=[ae _,x1,x2,ae _,ae _]) (bx:=pt bx n p) (k:=k) (m:=fe _ fj) (rfl) za),fM,
  show eV _ _=[ag,ae _,ae _] from rfl,e,fM,ir,fM,jj,Bs,Bs,bT,bT,ad,ir,jj,iA,Fh]
 rfl
theorem NC (h:n<bx.length) (x1 x2):∀ (c k) (p) (ps) (w),k+c<=4->HX k ps ->
 ∃ uV w' q,bR (fg 4) (YQ K1.fm) ((List.range' k c).map λ(i:Nat)=>W.d<|.int<|0+(i)) [xB n,x1,x2,xP ps,w] (pt bx n p)=.nx [xB n,x1,x2,xP uV,w'] (pt bx n q) /\ HX (k+c) uV:=by
 intro c;induction c with
 |zero=>intro k p ps w _ s;show#[ps,w,p,rfl,s]
 |succ c ih=>
   intro k p ps w hk s;let#[is,q,s1,e]:=LO h k za p;have li:is.length<=k:=by have:=s1.length_le;simpa using this
   let#[uV,w',q',e2,s2]:=ih _ q _ _ za<|s.more s1 za;refine#[uV,w',q',?_,by rw[show k+(c+1)=k+1+c by lia];show s2];have sz:=bj;have pl:=s.l;have g1:fg 4 (W.d<|.int<|0+(k)) [xB n,x1,x2,xP ps,w] (pt bx n p)=ae ([xB n,x1,x2,xP ps,xN<|k],pt bx n p):=by
    rw[W9];rfl
   rw[List.range'_succ,aM,gj g1<|NB x1 x2 (ps:=ps) za za e];show e2
theorem JC (h:n<bx.length) (p) {P:D->zm}(k0:0<k) (k5:k<=5) (ht:∀ (w) (p),∃ d q,te [ae w,xB n] (pt bx n p)=.val (.d d) (pt bx n q) /\ P d):∃ ds q,(∀ d∈ds,P d) /\ 1<=ds.length /\ (ds.length)<=k /\ ∀ {env},env[0]?=ae (xB n)->dN af uP (fe (fO af [ag,ae 0] (d8<|fe (d2 af f8 zf<|fq K1.fm 2<|fe (dV 0)<|fe (dC<|.int k) fj) fj) (fg 0) fR te) fj) env (pt bx n p)=.val (.d<|.tup ds) (pt bx n q):=by
 have sz:=bj;let#[r,q1,t,r0,r1]:=bS.kh h p k k0 za;let#[j,rfl]:=EL r0
 let#[ds,q,e1,e2,e3]:=Df (g:=fg 0) (λe=>∃ w,e=[w,xB n]) P (fK 0<|1+j) _ q1 [] #[ag,rfl] (by
  intro w _ env p ⟨w0,je⟩;let#[d,q,e,m]:=ht w p;show#[[ae w,xB n],by simp[je],#[_,rfl],d,q,e,m]) (by simp[fK];lia)
 have n5:ds.length=1+j:=by rw[e2];simp[fK]
 simp[kK]at e1;refine#[ds,q,e3,by lia,by lia,λ{env} he=>?_];have rg:=lV (fi (ks:=fj) (fF (g:=f8) (m:=dC<|.int 1) zc (t (env:=env) he (m:=dC<|.int k) zc) zc) zc) za;rw[show (1+(j:Int)).toNat=1+j by lia]at rg;show iP (r:=.tup ds) [.lst ds] (fi (gq rg (by simp[Ax,Ay,Bu,he,bT,id]) e1) zc) zc
theorem ND (h:n<bx.length) (p):∃ rs ks ps hd q,iS [.b n] (pt bx n p)=.val (.d zb) (pt bx n q) /\ Hs rs ks ps hd:=by
 let#[rs,q1,hr,r1,r5,e1]:=JC h p (te:=fq K1.fm 2<|fe (dV 1)<|fe (dC<|.int 4) fj) (P:=λd=>wi d 0 3=ah) (k:=5) zd zd (λw p=>by
  let#[r,q,t,a,b]:=bS.kh h p 4 zd zd;show#[.int r,q,t zc zc,by simp[wi];lia])
 let#[ks,q2,hk,k1,k4,e2]:=JC h q1 (te:=fq K1.ij 1<|fe (dV 1) fj) (k:=4) zd zd (λw p=>by
  let#[d,q,e,m]:=Px h p;show#[d,q,fL zc zc e,m])
 let#[ps,w',q3,e3,s3]:=NC h (ae<|.d<|.tup rs) (ae<|.d<|.tup ks) ks.length 0 q2 [] ag za #[.nil,(λp m=>nomatch m),aC _];rw[xW]at s3;have pl:=s3.l;let#[qs,pq,so,e4]:=Ju ps za;let#[hd,q4,hh,e5]:=Py h q3 (ae<|.d<|.tup rs) (ae<|.d<|.tup ks) (xP ps) w';have hb:∀ p∈qs,0<=p.1 /\ p.1<p.2 /\ p.2<(ks.length):=λp m=>s3.b p<|pq.mem_iff.mp m;have lq:qs.length<=16:=by rw[pq.length_eq];lia
 refine#[rs,ks,qs,hd,q4,Fp ?_ (by rw[gM,gM];show aC _),#[by lia,by lia,by lia,by lia,λp m=>(hb p m).2.1,by lia,?_]]
 .have sz:=bj;show qS (e1 zc)<|qS (e2 zc)<|qS (lX [] zc<|dJ _)<|(fr<|(gH<|Dg (env:=[xB n,ae<|.d<|.tup rs,ae<|.d<|.tup ks,xP<|[],ag]) (bx:=pt bx n q2) (k:=ks.length) (m:=fe (dN af cY<|fe (dV 2) fj) fj) (rfl) za).trans (by unfold fK;rw[List.range_eq_range'];show e3)).trans<|fS<|fX [.tup rs,.tup ks,.tup<|qs.map dP,hd] (fi zc<|fi zc<|fi (iP (r:=.tup<|qs.map dP) [.lst<|qs.map dP] (fi (iP (r:=.lst<|qs.map dP) [.lst<|ps.map dP] (fi zc zc) e4) zc) zc)<|fi e5 zc) (show (4:Nat)<=sizeLine by lia)
 .have a:apart (ks.length:Int) (.tup<|qs.map dP)=ah:=by
   have b1:(qs.map dP).all (Eb (ks.length:Int))=ah:=by
    rw[yf,dF];intro p m;have:=hb p m;simp[Eb,tl];lia
   change (((qs.map dP).all<|Eb (ks.length:Int))&&v9 ((qs.map dP).filterMap YE))=ah;rw[Jn,b1,(Jv so<|pq.nodup_iff.mpr s3.nd)];rfl
  have ahU:rooms (.tup rs)=ah:=by simp[rooms,tl,dF.mpr hr];lia
  have uL:kinds (.tup ks)=ah:=by simp[kinds,tl,dF.mpr hk];lia
  simp[house,lenOf,ahU,uL,a,hh,IH]
theorem BM {α:Type}:∀ {l:List α}{c} (h),(l[c]::l.eraseIdx c).Perm l
 |a::l,0,_=>.refl _
 |a::l,c+1,h=>(List.Perm.swap _ _ _).trans<|(BM<|Nat.lt_of_succ_lt_succ h).cons a
abbrev ahV:DE W:=yS (dV 2)<|fq K1.fm 2<|fe (dV 1)<|fe (dN af cY<|fe (dV 2) fj) fj
theorem BN (h:n<bx.length):∀ (l) (left) (w) (p) (acc),left.length=l.length->left.length<=1000->acc.length+l.length<=sizeLine ->
 ∃ ds q,bO (fg 0) fR ahV l [w,xB n,xB bx.length] (pt (bx++[.lst left]) n p) acc=.val (acc++ds) (pt (bx++[.lst []]) n q) /\ ds.Perm left
 | [],left,w,p,acc,hl,_,_=>by
   cases left with
   |nil=>show#[[],p,by simp[bO],.refl _]
   |cons a b=>simp at hl
 | u::l,left,w,p,acc,hl,ajO,z=>by
   have b0:=jm (p:=p) (x:=.lst left) h;have ln:dN af cY (fe (dV 2) fj) [ae u,xB n,ae _] _=.val (.d<|.int left.length) (pt (bx++[.lst left]) n p):=TW zc b0;have lp:0<left.length:=by rw[hl];simp
   let#[r,q,t,r0,r1]:=TV zh (i:=1) zc ln za za;let#[c,rfl]:=EL r0;have hc:c<left.length:=by lia
   have pv:=PH (m:=dV 2) zc b0 t (jm (p:=q) (x:=.lst left) h) #[by lia,by lia] ((λh=>by
    unfold cR;simp;lia) hc)<|dO hc
   rw[Di h]at pv;have z':acc.length<sizeLine:=by simp[bE]at z;lia
   have el:(left.eraseIdx c).length=l.length:=by rw[WL hc,hl];simp
   let#[ds,q',e3,e4]:=BN h l (left.eraseIdx c) (ae u) q (acc++[left[c]]) el (by rw[el];simp at hl;lia) (by simp[cW,bE,rh]at z ⊢;lia);refine#[left[c]::ds,q',?_,((e4.cons _).trans<|BM hc)]
   .have g0:fg 0 u [w,xB n,xB bx.length] (pt (bx++[.lst left]) n p)=ae ([ae u,xB n,xB bx.length],pt (bx++[.lst left]) n p):=rfl;erw[bO,g0,Jj,Ab,pv,if_pos z',e3];simp
theorem PY (h:n<bx.length) (p) (l) (hl:l.length<=1000):∃ ds q,jW [.b n,.d<|.lst l] (pt bx n p)=.val (.d<|.lst ds) (pt bx n q) /\ ds.Perm l:=by
 have sz:=bj;let#[ds,q,e1,e2]:=BN h (l.map W.d) l ag p [] zg hl zh;have s1:fI (dN ah yK<|fe (dV 1) fj) (fg 2) [xB n,ae<|.d<|.lst l,ag] (pt bx n p)=.nx [xB n,ae<|.d<|.lst l,xB bx.length] (pt (bx++[.lst l]) n p):=by
  have a:dN ah yK (fe (dV 1) fj) [xB n,ae<|.d<|.lst l,ag] (pt bx n p)=.val (.b bx.length) (pt (bx++[.lst l]) n p):=by
   rw[C5,fi rfl rfl,fM,<-m7 h];have:=gM (bx:=bx) (n:=n) (p:=p);change O.val (W.b (pt bx n p).length) _=_;rw[this]
  show gu a
 have M:lJ [xB n,ae<|.d<|.lst l,ag] (pt bx n p)=.rt (.d<|.lst ds) (pt (bx++[.lst []]) n q):=by
  unfold lJ;show(fr s1).trans (fS<|gq (gf zc) zc e1)
 refine#[ds,q,(j8 M).trans ?_,e2];rw[gM,BF h]

noncomputable def eF:Pg->List Key
 |.aG h l k r p w=>[.inl h,.inr "in",.inl l,.inl k,.inl r,.inl p,.inl w]
 |.to h l r=>[.inl h,.inr "to",.inl l,.inl r]
 |.out h l=>[.inl h,.inr "out",.inl l]
def ke (g:Pg):List Key×D:=(eF g,.bl ah)
theorem Dm (g):D.tup ((eF g).map Qn)=enc g:=by cases g<;>rfl
theorem NE (g):∃ l,enc g=.tup l /\ uY l=ae (eF g):=by cases g<;>show#[_,rfl,rfl]
theorem NG (h:eF a=eF b):a=b:=Pw (by rw[<-Dm,<-Dm,h])
theorem PZ (gs:List Pg):Qo (gs.map ke)=gs.map enc:=by
 unfold Qo;rw[bB];show rf λg _=>Dm g
theorem Ua {gs:List Pg}:∃ g2:List Pg,ur (gs.map ke) (eF g) (.bl ah)=g2.map ke /\ (gs.Nodup->g2.Nodup) /\ (∀ x∈g2,x∈gs \/ x=g) /\ g2.length<=gs.length+1:=by
 by_cases m:g∈gs
 .refine#[gs,?_,id,λx m=>.inl m,by lia];unfold ur;rw[if_pos]
  .rw[bB];refine rf λx _=>?_;change (if eF x=eF g then (eF x,D.bl ah) else ke x)=ke x;split<;>rfl
  .show kB.mpr #[ke g,vw m,by simp[ke]]
 .refine#[gs++[g],?_,λnd=>?_,λx mx=>?_,by simp]
  .unfold ur;rw[if_neg]
   .simp[ke]
   .intro z;let#[x,mx,e]:=kB.mp z;let#[y,my,rfl]:=a9.mp mx;show m<|NG (of_decide_eq_true e)▸my
  .rw[vz];show#[nd,by simp,λa ma b mb=>by cases di.mp mb;show λz=>m<|z▸ma]
  .rcases List.mem_append.mp mx with z|z
   .show .inl z
   .show .inr<|di.mp z

def Gd (nr nk:Nat) (near:Int) (g:Pg):zm:=sZ nr nk g /\ aH g<near
noncomputable def sh (c:Int):Pg->Pg
 |.aG h l k r p w=>.aG (h+c) l k r p w
 |.to h l r=>.to (h+c) l r
 |.out h l=>.out (h+c) l
theorem Ub (h:sh c a=sh c b):a=b:=by
 cases a<;>cases b<;>simp[sh]at h<;>simp_all
def Lt (nr nk:Nat) (g:Pg):zm:=sZ nr nk g /\ (aH g).natAbs<=10 ^ 40
theorem Vs (h:Gd nr nk near g) (c0:0<=c) (c1:c<=10 ^ 39) (hn:near<=40):Lt nr nk (sh c g):=by
 let#[o,t]:=h;cases g with
 |aG h l k r p w=>
   let#[o1,o2]:=o;have t':h<near:=t;show#[#[by lia,o2],by change (h+c).natAbs<=_;lia]
 |to h l r=>
   let#[o1,o2]:=o;have t':h<near:=t;show#[#[by lia,o2],by change (h+c).natAbs<=_;lia]
 |out h l=>
   let#[o1,o2]:=o;have t':h<near:=t;show#[#[by lia,o2],by change (h+c).natAbs<=_;lia]
theorem Vt (c) (g) (B):d2 af f8 (fN<|fe (d2 af f8 (d2 af ak (dV 0) ze)<|dV 1) fj) (p9 af (dV 0) (p8 zf) qJ) [ae<|.d<|enc g,xN c] B=.val (.d<|enc<|sh c g) B:=by
 cases g<;>simp[enc,kR,dq,qf,ak,bM,cR,ue,DL.cutD,HT.bf,f8,bj,sh]
theorem JD (hB:999<=B) (r5:nr<=5) (k4:nk<=4) (o:sZ nr nk g) (t:(aH g).natAbs<=B):Sm B 1 14000 (enc g):=by
 have li:(reprText<|"in").length<=20:=by decide +kernel
 have lt:(reprText<|"to").length<=20:=by decide +kernel
 have lo:(reprText<|"out").length<=20:=by decide +kernel
 have si:=Sm.str (B:=B) (a:=0) (x:="in");have st:=Sm.str (B:=B) (a:=0) (x:="to");have so:=Sm.str (B:=B) (a:=0) (x:="out");have it:∀ {i:Int},i.natAbs<=B->Sm B 0 1921 _:=λh=>Sm.int h;generalize (reprText _).length=L1 at li si;generalize (reprText _).length=L2 at lt st;generalize (reprText _).length=L3 at lo so;cases g with
 |aG h l k r p w=>
   let#[o1,o2,o3,o4,o5,o6]:=o;show(Sm.tup<|bp.cons (it t)<|bp.cons si<|bp.cons (it (i:=l) za)<|bp.cons (it (i:=k) za)<|bp.cons (it (i:=r) za)<|bp.cons (it (i:=p) za)<|bp.cons (it (i:=w) za) bp.nil).mono (aC _) za
 |to h l r=>
   let#[o1,o2,o3]:=o;show(Sm.tup<|bp.cons (it t)<|bp.cons st<|bp.cons (it (i:=l) za)<|bp.cons (it (i:=r) za) bp.nil).mono (aC _) za
 |out h l=>
   let#[o1,o2]:=o;show(Sm.tup<|bp.cons (it t)<|bp.cons so<|bp.cons (it (i:=l) za) bp.nil).mono (aC _) za
end aI
namespace cA
open L2 L2.DL K1 dz bS aI
def pre (h:Int) (ps:Al):Al->Al->List Pg->Al×Al
 |K,R,[]=>(K,R)
 |K,R,g::gs=>if aH g<=h then pre h ps (cK ps K R g) (dI ps K R g) gs else (K,R)
abbrev qo (gs:List Pg):zm:=gs.Pairwise λa b=>aH a<=aH b
theorem Fz {K}:∀ {gs},(∀ g∈gs,¬ aH g<=h)->pre h ps K R gs=(K,R)
 |[],_=>rfl
 |g::gs,l=>by unfold pre;rw[if_neg<|l g<|bA ..]
def Ef (ps:Al):Al->Al->List Pg->List (Int×At)
 |_,_,[]=>[]
 |K,R,g::gs=>(aH g,aJ (cK ps K R g)<|dI ps K R g)::Ef ps (cK ps K R g) (dI ps K R g) gs
abbrev adR (e:Int×At):D:=.tup [.int e.1,.au<|aX dP e.2]
theorem JE (ps):∀ (K R) (gs),vb ps K R gs=(Ef ps K R gs).map adR
 |_,_,[]=>rfl
 |K,R,g::gs=>by unfold vb Ef;rw[aM,JE ps _ _ gs]
theorem FA:∀ {K R}{gs},e∈Ef ps K R gs->∃ g∈gs,aH g=e.1
 |_,_,[],m=>nomatch m
 | K,R,g::gs,m=>by
   rcases ba.mp m with rfl|m
   .show#[g,bA ..,rfl]
   .let#[g',m',e']:=FA m;show#[g',a8 _ m',e']
noncomputable abbrev rQ (h:Int) (acc:At) (e:Int×At):At:=if e.1<=h then e.2 else acc
theorem LP:∀ {l:List _},(∀ e∈l,¬ e.1<=h)->l.foldl (rQ h) acc=acc:=by
 intro l_;induction l_ with
 |nil=>show λ_=>rfl
 |cons e l bV=>
   intro q;change l.foldl _ (if e.1<=h then e.2 else acc)=acc;rw[if_neg<|q e<|bA ..];show bV λe m=>q e<|a8 _ m
theorem FB:∀ {K R}{gs},qo gs->(Ef ps K R gs).foldl (rQ h) (aJ K R)=aJ (pre h ps K R gs).1 (pre h ps K R gs).2
 |_,_,[],_=>rfl
 | K,R,g::gs,s=>by
   let#[s1,s2]:=List.pairwise_cons.mp s;unfold Ef pre;rw[IJ];by_cases c:aH g<=h
   .rw[if_pos c,show rQ h _ (aH g,aJ _ _)=aJ _ _ from if_pos c];show FB s2
   .rw[if_neg c,show rQ h _ (aH g,aJ _ _)=aJ K R from if_neg c];refine LP λe m=>?_;let#[g',m',e']:=FA m;have:=s1 g' m';lia
def taken (ps:Al):Al->Al->List Pg->List Pg
 |_,_,[]=>[]
 |K,R,g::gs=>if word ps K R g="takes" then g::taken ps (stK K g) (eO R g) gs else taken ps K R gs
theorem jF {K:Al}:look (a::K) x=if a.1=x then ae a.2 else look K x:=by
 unfold look;rw[rW];by_cases h:a.1=x
 .rw[decide_eq_true h,if_pos h];rfl
 .rw[decide_eq_false h,if_neg h]
theorem NH:∀ {K:Al},look (K.map λq=>if q.1=l then (q.1,k) else q) x=if x=l /\ (K.any λq=>decide (q.1=l))=ah then ae k else look K x:=by
 intro l_;induction l_ with
 |nil=>(simp)
 |cons a K bV=>
   rw[aM,jF,bV,jF,tO];by_cases h:a.1=l
   .rw[if_pos h,decide_eq_true h,aau];by_cases e:a.1=x
    .rw[if_pos e,if_pos #[by lia,rfl]]
    .rw[if_neg e,if_neg λz=>e za,if_neg λz=>e za,if_neg e]
   .rw[if_neg h,decide_eq_false h,WG];by_cases e:a.1=x
    .rw[if_pos e,if_pos e,if_neg λz=>h za]
    .rw[if_neg e,if_neg e]
theorem FC:∀ {K},(K.any λq=>decide (q.1=l))=af->look (K++[(l,k)]) x=if x=l then ae k else look K x
 | [],_=>by
   rw[kK,jF];by_cases e:x=l
   .rw[if_pos e,if_pos e.symm]
   .rw[if_neg e,if_neg λz=>e z.symm]
 | a::K,h=>by
   rw[tO,Bool.or_eq_false_iff,decide_eq_false_iff_not]at h;rw[IK,jF,FC h.2,jF];by_cases e:a.1=x
   .rw[if_pos e,if_pos e,if_neg λz=>h.1 za]
   .rw[if_neg e,if_neg e]
theorem jG {K:Al}:look (put K l k) x=if x=l then ae k else look K x:=by
 unfold put;split
 .ext c;rw[NH];by_cases e:x=l
  .rw[if_pos #[e,c],if_pos e]
  .rw[if_neg λz=>e z.1,if_neg e]
 .ext c;show FC<|Bool.eq_false_iff.mpr c
theorem Dl {K:Al}:kk (put K l k) x=if x=l then k else kk K x:=by
 unfold kk;rw[jG];split<;>rfl
theorem Sb {K}(h:(look K x).isSome=ah):kk (cK ps K R g) x=kk K x /\ (look (cK ps K R g) x).isSome=ah:=by
 by_cases c:word ps K R g="takes"
 .rw[(gD c).1];cases g with
  |aG h' l k r p w=>
    have hl:(look K l).isSome=af:=by
     simp[word]at c;split at c
     .show absurd c zd
     .ext z;simpa using z
    have ne:x≠l:=λz=>by rw[z,hl]at h;cases h
    change kk (put K l k) x=_ /\ (look (put K l k) x).isSome=ah;rw[Dl,jG,if_neg ne,if_neg ne];show#[rfl,h]
  |to h' l r=>show#[rfl,h]
  |out h' l=>show#[rfl,h]
 .rw[(iH c).1];show#[rfl,h]
theorem FD (hb:B[k]?=ae (.lst l)) (P:Nat->bu->zm)
 (step:∀ i x env,l[i]?=ae x->P i env->∃ env1 env2,g (.d x) env B=ae (env1,B) /\ body env1 B=.nx env2 B /\ P (i+1) env2) :
 ∀ (f i) (env),P i env->i<=l.length->l.length<i+f->∃ aP,forL k g body f i env B=.nx aP B /\ P l.length aP
 |0,i,env,_,h1,h2=>by lia
 | f+1,i,env,p,h1,h2=>by
   unfold forL;simp[hb];cases e:l[i]? with
   |none=>
     have:=IX.mp e;have:i=l.length:=by lia
     subst this;show#[env,rfl,p]
   |some x=>
     have:=(List.getElem?_eq_some_iff.mp e).1;let#[env1,env2,a,b,p2]:=step i x env e p;let#[aP,c,d]:=FD hb P step f _ env2 p2 za za;simp[a,b];show#[aP,c,d]
theorem Uc (hm:m env B0=.val (.b k) B) (hb:B[k]?=ae (.lst l)) (P:Nat->bu->zm) (p0:P 0 env)
 (step:∀ i x env,l[i]?=ae x->P i env->∃ env1 env2,g (.d x) env B=ae (env1,B) /\ body env1 B=.nx env2 B /\ P (i+1) env2):∃ aP,HV m g body env B0=.nx aP B /\ P l.length aP:=by
 unfold HV;rw[hm,iA];have:Yt B k=l.length:=by unfold Yt;rw[hb]
 simp[this];show FD hb P step _ 0 env p0 (dJ _) za
theorem P0 {E:List _}(hb:B[n+4]?=ae (.lst<|E.map adR)) :
 iM [.m<|ml n,.d<|.int h] B=.val (.d<|.au<|aX dP<|E.foldl (rQ h) []) B:=by
 refine fY ?_;refine(fr<|gu zc).trans ?_;let#[aP,e,y3,y4,rfl]:=Uc (m:=cb (dV 0) "at") (g:=gC 2<|fH (fg 3)<|fH (fg 4) gE) (body:=pK) (jE zc adP) hb
  (λi env=>∃ y3 y4,env=[ae<|.m<|ml n,xN h,ae<|.d<|.au<|aX dP<|(E.take i).foldl (rQ h) [],y3,y4]) #[ag,ag,rfl] (by
  rintro i x env hx ⟨y3,y4,rfl⟩;rw[kJ]at hx;let#[e,he,rfl]:=Option.map_eq_some_iff.mp hx;have tk:E.take (i+1)=E.take i++[e]:=by rw[List.take_add_one,he];rfl
  have t:dB (d2 af nE (dV 3)<|dV 1) [ae<|.m<|ml n,xN h,ae<|.d<|.au<|aX dP<|(E.take i).foldl (rQ h) [],xN e.1,ae<|.d<|.au<|aX dP e.2] B=.val _ B:=fV<|fF (r:=.old _) zc zc<|rfl;rw[tk,List.foldl_append];by_cases c:e.1<=h
  .rw[decide_eq_true c]at t;show#[_,_,rfl,(gJ t).trans<|gu zc,xN e.1,ae<|.d<|.au<|aX dP e.2,by rw[show ([e].foldl (rQ h)<|(E.take i).foldl (rQ h) [])=e.2 from if_pos c];rfl]
  .rw[decide_eq_false c]at t;show#[_,_,rfl,(gp t).trans zc,xN e.1,ae<|.d<|.au<|aX dP e.2,by rw[show ([e].foldl (rQ h)<|(E.take i).foldl (rQ h) [])=(E.take i).foldl (rQ h) [] from if_neg c]])
 rw[aK,IL]at e;show(fr e).trans (fS zc)
abbrev vc (q:Pg×D):D:=.tup [enc q.1,q.2,kr q.1]
theorem YR (g) (h:env[3]?=ae (ae<|.d<|enc g)):d2 af ak (dV 3) (dC<|.int 2) env B=.val (.d<|.int<|ax g) B:=by
 cases g<;>simp[h,enc,kR,dq,qf,ak,bM,cR,ax]
theorem Ud (h1:g w env bx=ae (env1,bx1)) (h2:body env1 bx1=.bk env2 bx2):bR g body (w::l) env bx=.nx env2 bx2:=by
 rw[bR,h1];simp[h2]
theorem Ue (h:a env bx=.bk env1 bx1):fu a b env bx=.bk env1 bx1:=by rw[lU,h]

theorem Uf {K}(J:c5 K R n) (hn:n<=100) (c:word ps K R g="takes") (t:aH g<=h) (x:D) :
 uv [x0,xN h,xB bx.length,ae<|.d<|enc g,ae<|.d x,ae<|.d<|kr g] (bx++[.au<|bI R])=.nx [x0,xN h,xB bx.length,ae<|.d<|enc g,ae<|.d x,ae<|.d<|kr g] (bx++[.au<|bI<|eO R g]):=by
 have lr:=J.lr;refine(fr<|(gp<|fV<|fF (r:=.old<|.bl af) (T9 g zc) zc (by simp[nW];lia)).trans zc).trans ?_;have b0:(bx++[Bx.au<|bI R])[bx.length]?=ae (.au<|bI R):=by simp
 have st:∀ L:Al,(bx++[Bx.au<|bI R]).set bx.length (.au<|bI L)=bx++[.au<|bI L]:=λL=>by simp
 cases g with
 |aG h' l k r p w=>
   have p2:=Fx (m:=dV 2) (v:=dV 5) (env:=[x0,xN h,xB bx.length,ae<|.d<|enc<|.aG h' l k r p w,ae<|.d x,ae<|.d<|kr<|.aG h' l k r p w]) zc zc (YR (.aG h' l k r p w) zc) b0 za;rw[st]at p2;show(gp zc).trans p2
 |to h' l r=>
   have p2:=Fx (L:=R) (m:=dV 2) (k:=d2 af ak (dV 3)<|dC<|.int 2) (v:=dV 5) (x:=r) (l:=l) (i:=bx.length) (B:=bx++[.au<|bI R]) (env:=[x0,xN h,xB bx.length,ae<|.d<|enc<|.to h' l r,ae<|.d x,ae<|.d<|kr<|.to h' l r]) zc zc (YR (.to h' l r) zc) b0 za;rw[st]at p2;show(gp (t:=dB<|uk af<|dV 5) zc).trans p2
 |out h' l=>
   have p2:=R8 (L:=R) (m:=dV 2) (k:=d2 af ak (dV 3)<|dC<|.int 2) (l:=l) (i:=bx.length) (B:=bx++[.au<|bI R]) (env:=[x0,xN h,xB bx.length,ae<|.d<|enc<|.out h' l,ae<|.d x,ae<|.d<|kr<|.out h' l]) zc (YR (.out h' l) zc) b0<|Fy c;rw[st]at p2;show(gJ (t:=dB<|uk af<|dV 5) zc).trans p2
theorem Do:∀ (gs) (K R) (n:Nat) (S:List<|Pg×D) (y3 y4 y5:Option W),qo gs->c5 K R n->n+gs.length<=100->S.map (·.1)=taken ps K R gs ->
 ∃ z3 z4 z5,bR g3 uv ((S.map vc).map W.d) [x0,xN h,xB bx.length,y3,y4,y5] (bx++[.au<|bI R])=.nx [x0,xN h,xB bx.length,z3,z4,z5] (bx++[.au<|bI (pre h ps K R gs).2])
 | [],K,R,n,S,y3,y4,y5,_,_,_,e=>by
   have:=List.map_eq_nil_iff.mp e;subst this;show#[y3,y4,y5,rfl]
 | g::gs,K,R,n,S,y3,y4,y5,s,J,hn,e=>by
   let#[s1,s2]:=List.pairwise_cons.mp s;rw[bE]at hn;by_cases c:word ps K R g="takes"
   .rw[show taken ps K R (g::gs)=g::taken ps _ _ gs from if_pos c]at e;cases S with
    |nil=>cases e
    |cons q S=>
      let#[q1,x]:=q;rw[aM]at e;injection e with e1 e2;subst e1;have g1:g3 (W.d<|vc (q1,x)) [x0,ae _,ae _,y3,y4,y5] _=ae ([x0,xN h,xB bx.length,ae _,ae<|.d x,ae<|.d<|kr q1],bx++[.au<|bI R]):=rfl;by_cases t:aH q1<=h
      .let#[z3,z4,z5,ih]:=Do gs (stK K q1) (eO R q1) (n+1) S (ae<|.d<|enc q1) (ae<|.d x) (ae<|.d<|kr q1) s2 (J.step c) za e2;refine#[z3,z4,z5,?_];rw[aM,aM,gj g1<|Uf J za c t x,ih,show pre h ps K R (q1::gs)=pre h ps (cK ps K R q1) (dI ps K R q1) gs from if_pos t,(gD c).1,(gD c).2]
      .refine#[ae<|.d<|enc q1,ae<|.d x,ae<|.d<|kr q1,?_];have bk:uv [x0,xN h,xB bx.length,ae<|.d<|enc q1,ae<|.d x,ae<|.d<|kr q1] (bx++[.au<|bI R])=.bk [x0,xN h,xB bx.length,ae<|.d<|enc q1,ae<|.d x,ae<|.d<|kr q1] (bx++[.au<|bI R]):=Ue<|(gJ<|fV<|fF (r:=.old<|.bl ah) (T9 q1 zc) zc (by simp[nW];lia)).trans zc;rw[aM,aM,Ud g1 bk,show pre h ps K R (q1::gs)=(K,R) from if_neg t]
   .rw[show taken ps K R (g::gs)=taken ps K R gs from if_neg c]at e;let#[z3,z4,z5,ih]:=Do gs K R n S y3 y4 y5 s2 J za e;refine#[z3,z4,z5,ih.trans ?_];by_cases t:aH g<=h
    .rw[show pre h ps K R (g::gs)=pre h ps (cK ps K R g) (dI ps K R g) gs from if_pos t,(iH c).1,(iH c).2]
    .rw[show pre h ps K R (g::gs)=(K,R) from if_neg t,Fz λg' m=>by have:=s1 g' m;lia]
theorem Vu (h:env[k]?=ae (xB i)) (hb:bx[i]?=ae (.au l)):sQ k env bx=.val (.d<|.au l) (bx.set i .dead):=by
 unfold sQ;simp[h,hb]

theorem P3 {S:List _}(s:qo qs) (hl:qs.length<=16) (e:S.map (·.1)=taken ps [] [] qs) :
 iN [.d<|.lst<|S.map vc,.d<|.int h] bx=.val (.d<|.au<|bI (pre h ps [] [] qs).2) bx:=by
 let#[z3,z4,z5,f]:=Do qs [] [] 0 S ag ag ag s Ec za e;have s1:fI (pI ah []) (fg 2) [ae<|.d<|.lst<|S.map vc,xN h,ag,ag,ag,ag] bx=.nx [ae<|.d<|.lst<|S.map vc,xN h,xB bx.length,ag,ag,ag] (bx++[.au<|bI []]):=by
  have:pI ah [] [ae<|.d<|.lst<|S.map vc,xN h,ag,ag,ag,ag] bx=.val (.b bx.length) (bx++[.au<|bI []]):=rfl;show gu this
 have b:lO [ae<|.d<|.lst<|S.map vc,xN h,ag,ag,ag,ag] bx=.rt (.d<|.au<|bI (pre h ps [] [] qs).2) ((bx++[Bx.au<|bI (pre h ps [] [] qs).2]).set bx.length .dead):=
  (fr s1).trans ((fr<|(gH<|gf zc).trans f).trans<|fS<|Vu zc zg)
 refine(j8 b).trans ?_;simp
theorem YS:∀ (T:List _) (w0 w1 w2 w3) (acc),acc.length+T.length<=1000 ->
 bO g4 (dB<|d2 af aW (dV 1)<|dC<|.str "takes") (fN<|fe (dV 0)<|fe (dV 2)<|fe (dV 3) fj) ((T.map tq).map W.d) [w0,w1,w2,w3] B acc=.val (acc++(T.filter λx=>decide (x.2.1=("takes":Str))).map λx=>.tup [enc x.1,x.2.2.1,x.2.2.2]) B
 |[],_,_,_,_,acc,_=>by simp[bO]
 | x::T,w0,w1,w2,w3,acc,hl=>by
   have z:sizeLine=16777216:=bj;rw[bE]at hl;have e0:g4 (W.d<|tq x) [w0,w1,w2,w3] B=ae ([ae _,ae _,ae _,ae _],B):=rfl;have t:dB (d2 af aW (dV 1)<|dC<|.str "takes") [ae<|.d<|enc x.1,ae<|.d<|.str x.2.1,ae<|.d x.2.2.1,ae<|.d x.2.2.2] B=.val (decide (x.2.1="takes")) B:=fV<|fF zc zc<|eq_str _ _;have e1:fN (fe (dV 0)<|fe (dV 2)<|fe (dV 3) fj) [ae<|.d<|enc x.1,ae<|.d<|.str x.2.1,ae<|.d x.2.2.1,ae<|.d x.2.2.2] B=.val (.d<|.tup [enc x.1,x.2.2.1,x.2.2.2]) B:=fX [enc x.1,x.2.2.1,x.2.2.2] zc zh;by_cases c:x.2.1=("takes")
   .have ih:=YS (B:=B) T (ae<|.d<|enc x.1) (ae<|.d<|.str x.2.1) (ae<|.d x.2.2.1) (ae<|.d x.2.2.2) (acc++[.tup [enc x.1,x.2.2.1,x.2.2.2]]) zh;rw[decide_eq_true c]at t;erw[aM,bO,e0,t,Ab,e1];rw[if_pos za,ih,vv (by simpa using c)];simp
   .rw[decide_eq_false c]at t;erw[aM,bO,e0,t,Ab];rw[(YS (B:=B) T (ae<|.d<|enc x.1) (ae<|.d<|.str x.2.1) (ae<|.d x.2.2.1) (ae<|.d x.2.2.2) acc za),vt (by simpa using c)]
end cA
namespace bw
noncomputable def sm (f:Int->Int) (a:Int):Nat->Int
 |0=>0
 |n+1=>sm f a n+f (a+n)
theorem NI (f) (a) (m):∀ n,sm f a (m+n)=sm f a m+sm f (a+m) n
 |0=>by simp[sm]
 | n+1=>by
   change sm f a (m+n)+f (a+((m+n)))=sm f a m+(sm f _ n+f _);rw[NI f a m n,show a+((m+n))=a+m+n by lia];lia
theorem BO {a:Int}:∀ {n:Nat},(∀ h,a<=h->h<a+n->f h=c)->sm f a n=c*n:=by
 intro l_;induction l_ with
 |zero=>(intro _;simp[sm])
 |succ n bV=>
   intro h;change sm f a n+f _=_;rw[bV λx h1 h2=>h x h1 za,h _ za za,Int.natCast_succ,abg,Kg]
noncomputable abbrev Sx:=Int×Option Int×Int
noncomputable def Eg (f:Int->Int):List Int->List Sx
 |[]=>[]
 |[b]=>[(b,ag,f b)]
 |b::c::r=>(b,ae c,f b)::Eg f (c::r)
noncomputable def QA (f:Int->Int):List Int->zm
 |[]=>True
 |[b]=>∀ h,b<=h->f h=f b
 |b::c::r=>b<c /\ (∀ h,b<=h->h<c->f h=f b) /\ QA f (c::r)
noncomputable def Ah (h:Int):Option Int->Int
 |none=>h
 |some e=>min e h
def QB (h:Int):Int->List Sx->Int
 |r,[]=>r
 |r,q::t=>QB h (r+q.2.2*max 0 (Ah h q.2.1-q.1)) t
theorem FE:∀ {r}{b x},QA f (b::r)->QB h x (Eg f (b::r))=x+sm f b (h-b).toNat
 | [],b,x,c=>by
   change x+f b*max 0 (h-b)=_;rw[BO λy h1 _=>c y h1];congr 1;congr 1;lia
 | c::r,b,x,⟨l,k,t⟩=>by
   change QB h (x+f b*max 0 (min c h-b)) _=_;rw[FE t];by_cases q:h<=c
   .rw[show (h-c).toNat=0 by lia,show min c h=h by lia,BO λy h1 h2=>k y h1 za];change _+(0)=_;rw[show max 0 (h-b)=(((h-b).toNat)) by lia];lia
   .rw[show (h-b).toNat=(c-b).toNat+(h-c).toNat by lia,NI,BO λy h1 h2=>k y h1 za,show min c h=c by lia,show max 0 (c-b)=(((c-b).toNat)) by lia,show b+(((c-b).toNat))=c by lia];lia
open L2 L2.DL K2 aI cA
noncomputable def Eh:Pg->List Int
 |.aG _ _ _ r _ _=>[r]
 |.to _ _ r=>[r]
 |.out ..=>[]
def tj (R:Al) (g:Pg):Al:=(Eh g++(look R<|ax g).toList).map λr=>(aH g,r)
def ops (ps:Al):Al->Al->List Pg->Al
 |_,_,[]=>[]
 |K,R,g::gs=>if word ps K R g="takes" then tj R g++ops ps (stK K g) (eO R g) gs else ops ps K R gs
theorem oS:∀ {gs}{K R},q∈ops ps K R gs->∃ g∈taken ps K R gs,aH g=q.1
 |[],_,_,m=>nomatch m
 | g::gs,K,R,m=>by
   unfold ops at m;unfold taken;split at m
   .ext c;rw[if_pos c];rcases List.mem_append.mp m with m|m
    .let#[r,_,rfl]:=a9.mp m;show#[g,bA ..,rfl]
    .let#[x,mx,e]:=oS m;show#[x,a8 _ mx,e]
   .ext c;rw[if_neg c];show oS m
theorem GA (hb:b<=h):∀ {gs}{K R},qo gs->(∀ g∈taken ps K R gs,¬ (b<aH g /\ aH g<=h))->pre h ps K R gs=pre b ps K R gs
 |[],_,_,_,_=>rfl
 | g::gs,K,R,s,t=>by
   have s2:=(List.pairwise_cons.mp s).2;unfold pre;by_cases c:word ps K R g="takes"
   .unfold taken at t;rw[if_pos c]at t;have tg:=t g<|bA ..;rw[(gD c).1,(gD c).2];by_cases q:aH g<=b
    .rw[if_pos q,if_pos za,(GA hb s2 λx m=>t x<|a8 _ m)]
    .rw[if_neg q,if_neg za]
   .unfold taken at t;rw[if_neg c]at t;have ih:=GA hb s2 t;rw[(iH c).1,(iH c).2];by_cases q:aH g<=b
    .rw[if_pos q,if_pos za,ih]
    .rw[if_neg q];by_cases q2:aH g<=h
     .rw[if_pos q2,ih];show Fz λx m=>by have:=(List.pairwise_cons.mp s).1 x m;lia
     .rw[if_neg q2]
theorem P4 (hc:c<=3) (hh:1<=hold) (hb:b<=h):∀ {ps:Al},(∀ p∈ps,∀ x∈[p.1,p.2,p.1+1*hold,p.1+2*hold,p.1+3*hold],¬ (b<x /\ x<=h))->eN c hold h ps=eN c hold b ps:=by
 intro l_;induction l_ with
 |nil=>show λ_=>rfl
 |cons p ps bV=>
   intro t;have tp:=t p<|bA ..;simp[ba,forall_eq_or_imp]at tp;unfold eN;by_cases q:p.1<=b /\ b<p.2
   .rw[if_pos q,if_pos za];have eb:=abh (b-p.1) hold;have b1:=W8 (b-p.1) (show 0<hold by lia);have eh:=abh (h-p.1) hold;have h0:=abe (h-p.1) (show hold≠0 by lia);have h1:=W8 (h-p.1) (show 0<hold by lia);have le:(b-p.1) / hold<=(h-p.1) / hold:=Int.ediv_le_ediv za za;have nn:0<=(b-p.1) / hold:=abf za za;generalize (b-p.1) / hold=u at *;generalize (h-p.1) / hold=v at *;by_cases u3:3<=u
    .rw[show max 0 (c-v)=0 by lia,show max 0 (c-u)=0 by lia]
    .have:v=u:=by
      rcases Int.lt_or_le u v with lt|ge
      .have m1:hold*(u+1)<=hold*v:=Int.mul_le_mul_of_nonneg_left za za;rw[abg,Kg]at m1;have:u=0 \/ u=1 \/ u=2:=by lia
       rcases this with rfl|rfl|rfl<;>lia
      .lia
     rw[this]
   .rw[if_neg q,if_neg za,(bV λx m=>t x<|a8 _ m)]
def Ei (rl:List Int) (hold:Int) (outs:Al) (rt:List Int) (D:Al) (h:Int):Option Int->Int
 |none=>0
 |some r=>rt.getD (max 0<|eN (rl.getD r.toNat 0) hold h outs-if (h,r)∈D then 1 else 0).toNat 0
abbrev uv (ps:Al) (qs:List Pg) (l h:Int):Option Int:=look (pre h ps [] [] qs).2 l
abbrev dX (rl:List Int) (hold:Int) (outs:Al) (rt:List Int) (ps:Al) (qs:List Pg) (l h:Int):Int:=Ei rl hold outs rt (ops ps [] [] qs) h<|uv ps qs l h
abbrev chg (hold:Int) (outs:Al) (tk:List Pg):List Int:=(outs.map λp=>[p.1,p.2,p.1+1*hold,p.1+2*hold,p.1+3*hold]).flatten++(tk.map λg=>[aH g,aH g+1]).flatten
theorem NJ {C:List Int}(k:∀ b h,b<=h->(∀ x∈C,¬ (b<x /\ x<=h))->f h=f b):∀ {L},L.Pairwise (·<·)->(∀ x∈C,∀ b,L.head?=ae b->b<x->x∈L)->QA f L
 |[],_,_=>True.intro
 | [b],_,t=>λh hb=>k b h hb λx m q=>by
   have:=t x m b zc q.1;cases di.mp this;lia
 | b::c::r,s,t=>by
   have s1:=List.pairwise_cons.mp s;have lt:=s1.1 c<|bA ..;refine#[lt,λh h1 h2=>k b h h1 λx m q=>?_,NJ k s1.2 λx m b' e q=>?_]
   .have:=t x m b zc q.1;rcases ba.mp this with rfl|this
    .lia
    .rcases ba.mp this with rfl|this
     .lia
     .have:=(List.pairwise_cons.mp s1.2).1 x this;lia
   .cases e;have:=t x m b zc za;rcases ba.mp this with rfl|this
    .lia
    .show this
open K1
abbrev Ic (R:Al) (g:Pg):D:=((look R<|ax g).map D.int).getD .az
def qM (ps:Al):Al->Al->List Pg->List (Pg×Str×D×D)
 |_,_,[]=>[]
 |K,R,g::gs=>if word ps K R g="takes" then (g,word ps K R g,Ic R g,kr g)::qM ps (stK K g) (eO R g) gs else (g,word ps K R g,.az,.az)::qM ps K R gs
def vd (ps:Al):Al->Al->List Pg->List (Pg×D)
 |_,_,[]=>[]
 |K,R,g::gs=>if word ps K R g="takes" then (g,Ic R g)::vd ps (stK K g) (eO R g) gs else vd ps K R gs
theorem Ai:∀ {gs}{K R},(vd ps K R gs).map (·.1)=taken ps K R gs
 |[],_,_=>rfl
 | g::gs,K,R=>by
   unfold vd taken;split
   .rw[aM,Ai]
   .show Ai
theorem JF:∀ {gs}{K R},(qM ps K R gs).length=gs.length
 |[],_,_=>rfl
 | g::gs,K,R=>by
   unfold qM;split<;>rw[bE,JF,bE]
theorem Dp:∀ {gs}{K R},((qM ps K R gs).filter λx=>decide (x.2.1=("takes":Str))).map (λx=>D.tup [enc x.1,x.2.2.1,x.2.2.2])=(vd ps K R gs).map vc
 |[],_,_=>rfl
 | g::gs,K,R=>by
   unfold qM vd;by_cases c:word ps K R g="takes"
   .rw[if_pos c,if_pos c,vv (by simpa using c),aM,aM,Dp]
   .rw[if_neg c,if_neg c,vt (by simpa using c),Dp]

theorem Aj (h:Hs rs ks ps hd):∀ (gs) (T) (K R) (n) (x5 x6 x7),c5 K R n->n+gs.length<=100->T.length+gs.length<=100 ->
 ∃ K' R' y5 y6 y7,bR (fg 5) rB ((gs.map enc).map W.d) (rE zb P bx.length x5 x6 x7) (Bk bx T K R)=.nx (rE zb P bx.length y5 y6 y7) (Bk bx (T++qM ps K R gs) K' R')
 |[],T,K,R,n,x5,x6,x7,_,_,_=>#[K,R,x5,x6,x7,by simp[bR,qM]]
 | g::gs,T,K,R,n,x5,x6,x7,J,hn,hT=>by
   rw[bE]at hn hT;have g1:fg 5 _ (rE _ P bx.length x5 x6 x7) _=ae (rE zb P bx.length (ae<|.d<|enc g) x6 x7,Bk bx T K R):=rfl;unfold qM;by_cases c:word ps K R g="takes"
   .let#[K',R',y5,y6,y7,e2]:=Aj h gs (T++[(g,word ps K R g,Ic R g,kr g)]) _ _ _ _ _ _ (J.step c) za zh;refine#[K',R',y5,y6,y7,?_];rw[if_pos c,aM,aM,gj g1<|T7 (P:=P) (bx:=bx) (T:=T) h J za za g x6 x7 c,e2,nO];rfl
   .let#[K',R',y5,y6,y7,e2]:=Aj h gs (T++[(g,word ps K R g,.az,.az)]) K R n (ae<|.d<|enc g) (xN<|ax g) (ae<|.d<|.str<|word ps K R g) J za zh;refine#[K',R',y5,y6,y7,?_];rw[if_neg c,aM,aM,T5 g1<|Vo (P:=P) (bx:=bx) h J za za (T:=T) g x6 x7 c,e2,nO];rfl
theorem Ug (h:Hs rs ks ps hd) {gs:List Pg}(hl:qs.length<=16) (so:dg [.lst<|gs.map enc]=ae (.lst<|qs.map enc)) :
 aI.C4 [.d zb,.d<|.lst<|gs.map enc] bx=.val (.d<|.lst<|(qM ps [] [] qs).map tq) bx:=by
 let#[K',R',y5,y6,y7,e]:=Aj h qs [] [] [] 0 ag ag ag Ec za zh;have s2:fI (pI ah []) (fg 3) [ae<|.d zb,ae<|.d<|.lst<|gs.map enc,xB bx.length,ag,ag,ag,ag,ag] (bx++[.lst []])=.nx [ae<|.d zb,ae<|.d<|.lst<|gs.map enc,xB bx.length,xB<|bx.length+1,ag,ag,ag,ag] (bx++[.lst [],.au []]):=by
  have:pI ah [] [ae<|.d zb,ae<|.d<|.lst<|gs.map enc,xB bx.length,ag,ag,ag,ag,ag] (bx++[.lst []])=.val (.b<|bx.length+1) (bx++[.lst [],.au []]):=by
   simp[pI,cq]
  show gu this
 have s3:fI (pI ah []) (fg 4) [ae<|.d zb,ae<|.d<|.lst<|gs.map enc,xB bx.length,xB<|bx.length+1,ag,ag,ag,ag] (bx++[.lst [],.au []])=.nx (rE zb (.lst<|gs.map enc) bx.length ag ag ag) (Bk bx [] [] []):=by
  have:pI ah [] [ae<|.d zb,ae<|.d<|.lst<|gs.map enc,xB bx.length,xB<|bx.length+1,ag,ag,ag,ag] (bx++[.lst [],.au []])=.val (.b<|bx.length+2) (Bk bx [] [] []):=by
   simp[pI,cq,Bk,aX]
  show gu this
 have b:MY [ae<|.d zb,ae<|.d<|.lst<|gs.map enc,ag,ag,ag,ag,ag,ag] bx=.rt (.d<|.lst<|(qM ps [] [] qs).map tq) ((Bk bx (qM ps [] [] qs) K' R').set bx.length .dead):=by
  refine(fr<|gu<|jq [] zc<|dJ _).trans ((fr s2).trans<|(fr s3).trans<|(fr<|(gH<|gf<|iP (r:=.lst<|qs.map enc) [.lst<|gs.map enc] (fi zc zc) so).trans e).trans ?_);rw[kK];show fS<|Nh zc HY
 refine(j8 (ws:=[.d zb,.d<|.lst<|gs.map enc]) b).trans ?_;simp[Bk,aaR]
def stC (ca:List<|Int×Pg):Pg->List (Int×Pg)
 |.aG h l k r p w=>put ca l<|.aG h l k r p w
 |_=>ca
def tm (ps K R:Al) (ca:List<|Int×Pg) (g:Pg):List (Int×Pg):=if word ps K R g="takes" then stC ca g else ca
def Ie (ps K R:Al) (g:Pg):Al:=if word ps K R g="takes" then tj R g else []
theorem l6 {K}(h:¬ word ps K R g="takes"):tm ps K R ca g=ca /\ Ie ps K R g=[]:=#[if_neg h,if_neg h]
theorem gX {K}(h:word ps K R g="takes"):tm ps K R ca g=stC ca g /\ Ie ps K R g=tj R g:=#[if_pos h,if_pos h]
noncomputable abbrev k2 (q:Int×Int):List Key:=[.inl q.1,.inl q.2]
def tu (dr bP:List<|List Key×D) (l:Al):zm:=∀ q,(kD bP<|k2 q).isSome=((kD dr<|k2 q).isSome||decide (q∈l))
theorem tu.refl:tu dr dr []:=λq=>by simp
theorem tu.trans (h:tu a b l) (k:tu b c m):tu a c (l++m):=λq=>by
 simp[k q,h q,Bool.or_assoc]
theorem LQ:(kD (ur dr k d) k').isSome=((kD dr k').isSome||decide (k'=k)):=by
 unfold kD ur;rw[qv,qv];split
 .ext h;rw[aaQ,qv,show ((λx:List Key×D=>decide _)∘λkv=>if kv.1=k then (kv.1,d) else kv)=λx=>decide _ from funext λx=>by change decide ((if x.1=k then (x.1,d) else x).1=k')=_;split<;>rfl];by_cases e:k'=k
  .subst e;have:(dr.find? λx=>decide (x.1=k')).isSome=ah:=by simpa using h
   rw[this];rfl
  .simp[e]
 .congr 1;by_cases e:k'=k
  .subst e;simp
  .simp[e,Ne.symm e]
section
variable {K:List (Int × Int)}

theorem P5 (hM:Mp M bx.length) (e1:env[1]?=ae (ae<|.m M)) (hk:∀ B,mk env B=.val (.d<|dP (a,b)) B) (hl:dr.length<=1000):∃ bP,bP.length<=dr.length+1 /\ tu dr bP [(a,b)] /\ uu (cb (dV 1) "doors") mk (dC<|.bl ah) env (Bl bx th ca go dr av wd ex)=.nx env (Bl bx th ca go bP av wd ex):=by
 have z:=bj;refine#[ur dr [.inl a,.inl b]<|.bl ah,?_,λq=>?_,?_]
 .unfold ur;split<;>simp
 .rw[LQ];congr 1;simp[Prod.ext_iff]
 .unfold uu;rw[show dC _ env _=.val _ _ from rfl,iA,jE (by rw[iO,e1]) hM.d,iA,hk,iA];change (match (Bl bx th ca go dr av wd ex)[bx.length+3]?,uY _ with|some (.dT l),ae k=>if l.length<sizeLine then OS.nx env _ else .bad|_,_=>.bad)=_;rw[adL];show(if_pos za).trans (by rw[ahR])
theorem ahW (hM:Mp M bx.length) (h:Hs rs ks ps hd) (J:c5 K R n) (hn:n<=100) (Q:Lb K ca go dr m) (hm:m<=100) (g) :
 ∃ go' bP,im [ae<|.d zb,ae<|.m M,ae<|.d<|enc g,ag,ag,ag,ag,ag,ag] (Bl bx (aJ K R) ca go dr av wd ex)=.rt (.d<|.str<|word ps K R g) (Bl bx (aJ (cK ps K R g)<|dI ps K R g) (tm ps K R ca g) go' bP av wd ex) /\ Lb (cK ps K R g) (tm ps K R ca g) go' bP (m+1) /\ tu dr bP (Ie ps K R g):=by
 have z:sizeLine=16777216:=bj;have qc:=Q.c;have qg:=Q.g;have qd:=Q.d
 let E:=λx7 x8=>oE zb M g (xB bx.length) x7 x8
 let B0:=Bl bx (aJ K R) ca go dr av wd ex
 have pf:∀ {k:aA}{o:OS},k (E ag ag) B0=o->fu (fI (p9 af (dV 2) qJ<|p8<|dC<|.int 3) cA.g3) (fu (fI (cb (dV 1) "there")<|fg 6) k) [ae<|.d zb,ae<|.m M,ae<|.d<|enc g,ag,ag,ag,ag,ag,ag] B0=o:=λq=>(fr (env1:=oE zb M g ag ag ag) (by cases g<;>simp[enc,kR,dq,qf,ue,DL.cutD,HT.bf,aH,bZ,ax])).trans<|qS (jE zc hM.t) q
 suffices H:∀ P:zm,(∀ s:Str,word ps K R g=s->¬ s="takes"->im [ae<|.d zb,ae<|.m M,ae<|.d<|enc g,ag,ag,ag,ag,ag,ag] B0=.rt (.d<|.str s) B0->P)->(word ps K R g="takes"->∀ go' bP,im [ae<|.d zb,ae<|.m M,ae<|.d<|enc g,ag,ag,ag,ag,ag,ag] B0=.rt (.d<|.str "takes") (Bl bx (aJ (stK K g)<|eO R g) (stC ca g) go' bP av wd ex)->Lb (stK K g) (stC ca g) go' bP (m+1)->tu dr bP (tj R g)->P)->P from H _ (λs e d q=>by
  subst e;show#[go,dr,by rw[(iH d).1,(iH d).2,(l6 d).1];show q,by rw[(iH d).1,(l6 d).1];show#[Q.k,Q.i,by lia,by lia,by lia],by rw[(l6 (ca:=ca) d).2];show .refl]) λe go' bP a b c=>#[go',bP,by rw[(gD e).1,(gD e).2,(gX e).1,e];show a,by rw[(gD e).1,(gX e).1];show b,by rw[(gX (ca:=ca) e).2];show c]
 intro P no ys;have tw:∀ (w:Str) (x7 x8:Option W) (B:List Bx),dB (d2 af aW (dV 4)<|dC<|.str w) (E x7 x8) B=.val (decide (bZ g=w)) B:=λw x7 x8 B=>fV<|fF (r:=.old<|.bl<|decide (bZ g=w)) zc zc<|eq_str _ _;have ni:=fV<|Fv (e:=dP) (L:=aJ K R) (k:=dV 5) (m:=dV 6) (env:=E ag ag) (bx:=B0) (l:=ax g) ah zc zc<|jC u9;rw[lZ,qv]at ni;have g2:∀ {r0:Int}{k:aA}{o:OS},look R (ax g)=ae r0->k (E (xN<|kk K<|ax g)<|xN r0) B0=o->fu (fI (cG (dV 6)<|dV 5)<|gC 2<|fH (fg 7)<|fH (fg 8) gE) k (E ag ag) B0=o:=λ{r0} _ _ c q=>qG (lc (e:=dP) (L:=aJ K R) (l:=ax g) (v:=(kk K<|ax g,r0)) zc zc (jC u9) (by rw[lZ,c];rfl)) zc q;have dk:∀ {r0:Int}{x7:Option W}{B:List Bx},fN (fe (dV 3)<|fe (dV 8) fj) (E x7<|xN r0) B=.val (.d<|dP (aH g,r0)) B:=λ{r0 _ _}=>fX [.int<|aH g,.int r0] zc zh;cases g with
 |aG h' l k r p w=>
   have t1:=fV<|Fv (e:=enc) (L:=ca) (k:=dV 5) (m:=cb (dV 1) "came") (env:=E ag ag) (bx:=B0) (l:=l) af zc (jE zc hM.c)<|jC YL;rw[LN Q.keys]at t1;have t2:=Vq (rs:=rs) (ks:=ks) (ps:=ps) (hd:=hd) (bx:=bx) (B:=B0) (env:=E ag ag) (mk:=d2 af ak (dV 2)<|dC<|.int 3) (mr:=d2 af ak (dV 2)<|dC<|.int 4) (k:=k) (r:=r) J hn u9 zc zc zc zc;cases c:(look K l).isSome with
   |true=>show no _ (by erw[word,c,if_true]) zd (pf (gT ((gJ<|tw "in" ag ag _).trans (qR (t1.trans (congrArg (O.val · B0) c)) zc))))
   |false=>
     have t1:=t1.trans (congrArg (O.val · B0) c);have hl:look K l=ag:=by cases q:look K l with|none=>rfl|some v=>rw[q]at c;cases c
     cases cc:nI ps K R k r with
     |true=>show no "apart" (by simp[word,c,cc]) zd (pf (gT ((gJ<|tw "in" ag ag _).trans (qF t1 (qR (t2.trans (congrArg (O.val · B0) cc)) zc)))))
     |false=>
       have p1:=BL (e:=enc) (L:=ca) (x:=.aG h' l k r p w) (v:=dV 2) (m:=cb (dV 1) "came") (k:=dV 5) (env:=E ag ag) (B:=B0) zc (jE zc hM.c) zc YL za;rw[YN]at p1;have p2:=BL (e:=dP) (L:=aJ K R) (x:=(k,r)) (v:=fN<|fe (d2 af ak (dV 2)<|dC<|.int 3)<|fe (d2 af ak (dV 2)<|dC<|.int 4) fj) (m:=dV 6) (k:=dV 5) (env:=E ag ag) (B:=Bl bx (aJ K R) (put ca l<|.aG h' l k r p w) go dr av wd ex) (fX [.int k,.int r] zc zh) zc zc u9 (by unfold aJ;rw[aK];have:=J.lr;lia);rw[show ax (.aG h' l k r p w)=l from rfl,PU J hl,YM]at p2;let#[bP,ld,o1,p3]:=P5 hM (go:=go) (ca:=put ca l<|.aG h' l k r p w) (dr:=dr) (av:=av) (wd:=wd) (th:=aJ (put K l k)<|put R l r) (mk:=fN<|fe (dV 3)<|fe (d2 af ak (dV 2)<|dC<|.int 4) fj) (a:=h') (b:=r) (env:=E ag ag) zc (λ_=>fX [.int h',.int r] zc zh) za;refine ys (by simp[word,c,cc]) go bP (pf (gT ((gJ<|tw "in" ag ag _).trans (qF t1 (qF (t2.trans (congrArg (O.val · B0) cc))<|(fr p1).trans<|(fr p2).trans<|(fr p3).trans zc))))) ?_ ?_
       .have:=oO ca l<|.aG h' l k r p w;show#[by change Ee (put ca l<|.aG h' l k r p w)=_;rw[T8,Q.k];rfl,λq m=>(oP m).elim (λz=>by rw[z.2];rfl)<|Q.i q,by change (put ca l<|.aG h' l k r p w).length<=_;lia,by lia,by lia]
       .have hR:look R l=ag:=by
         cases q:look R l with
         |none=>rfl
         |some v=>let#[x,mx,ex]:=jD q;have:=J.sub x mx;rw[ex,hl]at this;cases this
        rw[show tj R (.aG h' l k r p w)=[(h',r)] by simp[tj,Eh,ax,aH,hR]];show o1
 |to h' l r=>
   have ti:∀ {k:aA}{o:OS}{a:aA},k (E ag ag) B0=o->fu (aV (dB<|d2 af aW (dV 4)<|dC<|.str "in") a bc) k (E ag ag) B0=o:=λq=>qF ((tw "in" ag ag B0).trans (congrArg (O.val · B0)<|decide_eq_false (show ¬ ("to":Str)="in" by rw[LM];show id))) q;cases c:look R l with
   |none=>show no "none" (by erw[word,c]) zd<|pf<|ti<|qR (ni.trans (by rw[show look R (ax<|.to h' l r)=ag from c];rfl)) zc
   |some r0=>
     have ni:dB (kT ah (dV 5)<|dV 6) (E ag ag) B0=.val af B0:=ni.trans (by rw[show look R (ax<|.to h' l r)=ae r0 from c];rfl);have to:∀ {a b:aA}{x7 x8:Option W},aV (dB<|d2 af aW (dV 4)<|dC<|.str "out") a b (E x7 x8) B0=b (E x7 x8) B0:=gp ((tw "out" _ _ B0).trans (congrArg (O.val · B0)<|decide_eq_false (show ¬ ("to":Str)="out" by rw[PK];show id)));have ts:dB (d2 af aW (dV 8)<|d2 af ak (dV 2)<|dC<|.int 3) (E (xN<|kk K l)<|xN r0) B0=.val (decide (r0=r)) B0:=
      fV (fF (r:=.old<|.bl<|decide (r0=r)) (x:=.int r0) (y:=.int r) zc zc (by simp[aW]))
     by_cases d:r0=r
     .show no "same" (by erw[word,c,if_pos d]) zd (pf (ti (qF ni (g2 c (gT (to.trans ((gJ (ts.trans (congrArg (O.val · B0)<|decide_eq_true d))).trans zc)))))))
     .have ts:=ts.trans (congrArg (O.val · B0)<|decide_eq_false d);have tc:=Vr (rs:=rs) (ks:=ks) (ps:=ps) (hd:=hd) (bx:=bx) (B:=B0) (env:=E (xN<|kk K l)<|xN r0) (mk:=dV 7) (mr:=d2 af ak (dV 2)<|dC<|.int 3) (k:=kk K l) (r:=r) (l:=l) (r0:=r0) J hn u9 zc zc zc zc zc c d;cases cc:nI ps K R (kk K l) r with
      |true=>show no "apart" (by simp[word,c,d,cc]) zd (pf (ti (qF ni (g2 c (gT (to.trans ((gp ts).trans ((gJ (tc.trans (congrArg (O.val · B0) cc))).trans zc))))))))
      |false=>
        have p2:=BL (e:=dP) (L:=aJ K R) (x:=(kk K l,r)) (v:=fN<|fe (dV 7)<|fe (d2 af ak (dV 2)<|dC<|.int 3) fj) (m:=dV 6) (k:=dV 5) (env:=E (xN<|kk K l)<|xN r0) (B:=B0) (fX [.int<|kk K l,.int r] zc zh) zc zc u9 (by unfold aJ;rw[aK];have:=J.lr;lia);rw[show ax (.to h' l r)=l from rfl,JA,YM]at p2;let#[d1,l1,o1,p3]:=P5 hM (go:=go) (ca:=ca) (dr:=dr) (av:=av) (wd:=wd) (th:=aJ K<|put R l r) (mk:=fN<|fe (dV 3)<|fe (d2 af ak (dV 2)<|dC<|.int 3) fj) (a:=h') (b:=r) (env:=E (xN<|kk K l)<|xN r0) zc (λ_=>fX [.int h',.int r] zc zh) za;let#[X1,l2,o2,p4]:=P5 hM (go:=go) (ca:=ca) (dr:=d1) (av:=av) (wd:=wd) (th:=aJ K<|put R l r) (env:=E (xN<|kk K l)<|xN r0) zc (λ_=>dk) za;refine ys (by simp[word,c,d,cc]) go X1 (pf (ti (qF ni (g2 c ((fr (to.trans ((gp ts).trans ((gp (tc.trans (congrArg (O.val · B0) cc))).trans<|(fr p2).trans p3)))).trans<|(fr p4).trans zc))))) #[Q.k,Q.i,by change ca.length<=_;lia,by lia,by lia] ?_;rw[show tj R (.to h' l r)=[(h',r)]++[(h',r0)] by simp[tj,Eh,ax,aH,c]];show o1.trans o2
 |out h' l=>
   have ti:∀ {k:aA}{o:OS}{a:aA},k (E ag ag) B0=o->fu (aV (dB<|d2 af aW (dV 4)<|dC<|.str "in") a bc) k (E ag ag) B0=o:=λq=>qF ((tw "in" ag ag B0).trans (congrArg (O.val · B0)<|decide_eq_false (show ¬ ("out":Str)="in" by rw[Nr];show id))) q;cases c:look R l with
   |none=>show no "none" (by erw[word,c]) zd<|pf<|ti<|qR (ni.trans (by rw[show look R (ax<|.out h' l)=ag from c];rfl)) zc
   |some r0=>
     have ff:((aJ K R).find? λp=>decide (p.1=l)).map (·.2)=ae (kk K l,r0):=by rw[lZ,c];rfl
     have p1:=Nz (e:=dP) (L:=aJ K R) (m:=dV 6) (k:=dV 5) (env:=E (xN<|kk K l)<|xN r0) (B:=B0) (l:=l) zc zc u9 ff;rw[PR,YM]at p1;have p2:=BL (e:=D.int) (L:=go) (x:=h') (v:=dV 3) (m:=cb (dV 1) "gone") (k:=dV 5) (env:=E (xN<|kk K l)<|xN r0) (B:=Bl bx (aJ K<|qm R l) ca go dr av wd ex) zc (jE zc hM.g) zc (by simp[Bl]) za;rw[show ax (.out h' l)=l from rfl,tX]at p2;let#[d1,l1,o1,p3]:=P5 hM (go:=put go l h') (ca:=ca) (dr:=dr) (av:=av) (wd:=wd) (th:=aJ K<|qm R l) (env:=E (xN<|kk K l)<|xN r0) zc (λ_=>dk) za;have:=oO go l h';refine ys (by erw[word,c]) (put go l h') d1 (pf<|ti<|qF (ni.trans (by rw[show look R (ax<|.out h' l)=ae r0 from c];rfl))<|g2 c<|(fr<|(gJ<|tw "out" _ _ _).trans<|(fr<|gK p1).trans p2).trans<|(fr p3).trans zc) #[Q.k,Q.i,by change ca.length<=_;lia,by lia,by lia] ?_;rw[show tj R (.out h' l)=[(h',r0)] by simp[tj,Eh,ax,aH,c]];show o1
theorem Sd (hM:Mp M bx.length) (h:Hs rs ks ps hd) (J:c5 K R n) (hn:n<=100) (Q:Lb K ca go dr m) (hm:m<=100) (g) :
 ∃ go' bP,gm [.d zb,.m<|M,.d<|enc g] (Bl bx (aJ K R) ca go dr av wd ex)=.val (.d<|.str<|word ps K R g) (Bl bx (aJ (cK ps K R g)<|dI ps K R g) (tm ps K R ca g) go' bP av wd ex) /\ Lb (cK ps K R g) (tm ps K R ca g) go' bP (m+1) /\ tu dr bP (Ie ps K R g):=by
 let#[go',bP,e,q]:=ahW hM h J hn Q hm g;show#[go',bP,Fp e (by rw[BK,BK];show aC _),q]
end
def rR (ps:Al):Al->Al->List (Int×Pg)->List Pg->List (Int×Pg)
 |_,_,ca,[]=>ca
 |K,R,ca,g::gs=>rR ps (cK ps K R g) (dI ps K R g) (tm ps K R ca g) gs
theorem NK {K}:ops ps K R (g::gs)=Ie ps K R g++ops ps (cK ps K R g) (dI ps K R g) gs:=by
 by_cases c:word ps K R g="takes"
 .rw[(gD c).1,(gD c).2,(gX (ca:=[]) c).2];show if_pos c
 .rw[(iH c).1,(iH c).2,(l6 (ca:=[]) c).2];show if_neg c
theorem BP {K}:taken ps K R (g::gs)=(if word ps K R g="takes" then [g] else [])++taken ps (cK ps K R g) (dI ps K R g) gs:=by
 by_cases c:word ps K R g="takes"
 .rw[(gD c).1,(gD c).2,if_pos c];show if_pos c
 .rw[(iH c).1,(iH c).2,if_neg c];show if_neg c
abbrev k8 (l:Int) (g:Pg):Bool:=isIn g&&decide (ax g=l)
theorem NL {g:Pg}(h:(ca.any λq=>decide (q.1=l))=af):((put ca l g).find? λq=>decide (q.1=l')).map (·.2)=if l=l' then ae g else (ca.find? λq=>decide (q.1=l')).map (·.2):=by
 unfold put;rw[h];erw[ED,if_false];rw[IV];by_cases e:l=l'
 .subst e;have:ca.find? (λq=>decide (q.1=l))=ag:=by
   rw[IZ];intro q m;rw[EE]at h;show h q m
  rw[this,if_pos rfl];simp
 .simp[e]
theorem BQ:∀ {gs}{K R}{ca},ca.map (·.1)=K.map (·.1)->((rR ps K R ca gs).find? λq=>decide (q.1=l)).map (·.2)=((ca.find? λq=>decide (q.1=l)).map (·.2)).or ((taken ps K R gs).find?<|k8 l)
 | [],K,R,ca,_=>by
   change _=Option.or _ ag;rw[Option.or_none];rfl
 | g::gs,K,R,ca,hk=>by
   rw[BP];change ((rR ps _ _ _ gs).find? λq=>decide _).map _=_;by_cases c:word ps K R g="takes"
   .rw[if_pos c];cases g with
    |aG h' l' k r p w=>
      have nk:(look K l').isSome=af:=by
       cases q:(look K l').isSome with
       |false=>rfl
       |true=>rw[show word ps K R _="there" by simp[word,q,if_true]]at c;show absurd c zd
      have na:(K.any λq=>decide (q.1=l'))=af:=by
       cases q:K.any λq=>decide (q.1=l') with
       |false=>rfl
       |true=>
         let#[x,mx,ex]:=kB.mp q;have:=mE.mpr #[x,mx,of_decide_eq_true ex];rw[this]at nk;cases nk
      have YT:(ca.any λq=>decide (q.1=l'))=af:=by rw[l5 hk];show na
      rw[BQ (by rw[(gD c).1,(gX c).1];show Ny hk _ _ _),(gX c).1];rw[show stC ca _=put ca l' _ from rfl,NL YT,IV];by_cases e:l'=l
      .subst e;have f0:ca.find? (λq=>decide (q.1=l'))=ag:=by
        rw[IZ];intro q m;rw[EE]at YT;show YT q m
       rw[if_pos rfl,f0];simp[isIn,ax]
      .rw[if_neg e];simp[ax,e]
    |to h' l' r=>
      rw[BQ (by rw[(gD c).1,(gX c).1];show hk),(gX c).1];rfl
    |out h' l'=>
      rw[BQ (by rw[(gD c).1,(gX c).1];show hk),(gX c).1];rfl
   .rw[if_neg c,BQ (by rw[(iH c).1,(l6 c).1];show hk),(l6 c).1];rfl

theorem JG (h:Hs rs ks ps hd):∀ (gs) (K R) (ca) (go) (dr) (av wd) (n m) (x3),c5 K R n->Lb K ca go dr m->n+gs.length<=100->m+gs.length<=100->av.length+gs.length<=100->wd.length+gs.length<=100 ->
 ∃ R' go' bP y3,bR (fg 3) YB ((gs.map enc).map W.d) [ae<|.d zb,ae<|.d P,ae<|.m<|ml bx.length,x3] (Bl bx (aJ K R) ca go dr av wd)=.nx [ae<|.d zb,ae<|.d P,ae<|.m<|ml bx.length,y3] (Bl bx (aJ (xA ps K R gs) R') (rR ps K R ca gs) go' bP (av++vb ps K R gs)<|wd++(gs.zip<|wordsOf ps K R gs).map Ib) /\ Lb (xA ps K R gs) (rR ps K R ca gs) go' bP (m+gs.length) /\ tu dr bP (ops ps K R gs)
 |[],K,R,ca,go,dr,av,wd,n,m,x3,_,Q,_,_,_,_=>#[R,go,dr,x3,by simp[bR,vb,xA,rR],Q,.refl]
 | g::gs,K,R,ca,go,dr,av,wd,n,m,x3,J,Q,hn,hm,ha,hw=>by
   let E:bu:=[ae<|.d zb,ae<|.d P,ae<|.m<|ml bx.length,ae<|.d<|enc g]
   have z:sizeLine=16777216:=bj;rw[bE]at hn hm ha hw;let#[QC,QD,e,Q1,O1]:=bw.Sd #[adN,YO,(by rfl),adO] h J za Q za g;have a:=lY (m:=cb (dV 2) "words") (k:=fN<|fe (dV 3)<|fe (fq aI.gm 3<|fe (dV 0)<|fe (dV 2)<|fe (dV 3) fj) fj) (env:=E) (bx:=Bl bx (aJ K R) ca go dr av wd) (jE zc (by rfl)) Ia (fX [enc g,.str<|word ps K R g] (fi zc<|fi (fL zc zc e) zc) zh) Ia za;rw[aI.YD]at a;have dc:u5 af (cb (dV 2) "there") E (Bl bx (aJ (cK ps K R g)<|dI ps K R g) (tm ps K R ca g) QC QD av<|wd++[Ib (g,word ps K R g)])=.val (.d<|.au<|aX dP<|aJ (cK ps K R g)<|dI ps K R g) (Bl bx (aJ (cK ps K R g)<|dI ps K R g) (tm ps K R ca g) QC QD av<|wd++[Ib (g,word ps K R g)]):=by
    unfold u5;rw[jE rfl adN,fM,jC u9];rfl
   have b:=lY (m:=cb (dV 2) "at") (k:=fN<|fe (d2 af ak (dV 3) ze)<|fe (u5 af<|cb (dV 2) "there") fj) (jE zc adP) Ed (fX [.int<|aH g,.au<|aX dP<|aJ (cK ps K R g)<|dI ps K R g] (fi (T9 g zc)<|fi dc zc) zh) Ed za;rw[aI.adM]at b;have bd:YB E (Bl bx (aJ K R) ca go dr av wd)=.nx E (Bl bx (aJ (cK ps K R g)<|dI ps K R g) (tm ps K R ca g) QC QD (av++[.tup [.int<|aH g,.au<|aX dP<|aJ (cK ps K R g)<|dI ps K R g]])<|wd++[Ib (g,word ps K R g)]):=(fr<|gK a).trans<|gK b;let#[R',go',bP,y3,e2,Q2,O2]:=JG h gs (cK ps K R g) (dI ps K R g) (tm ps K R ca g) QC QD (av++[.tup [.int<|aH g,.au<|aX dP<|aJ (cK ps K R g)<|dI ps K R g]]) (wd++[Ib (g,word ps K R g)]) (n+1) (m+1) (ae<|.d<|enc g) (J.nx g) Q1 za za zh zh;refine#[R',go',bP,y3,?_,by rw[bE,show m+(gs.length+1)=m+1+gs.length by lia];show Q2,by rw[NK];show O1.trans O2];rw[aM,aM,gj rfl bd,e2,Gy,wz,aM,nO,nO];rfl
theorem P6 (h:Hs rs ks ps hd) {gs:List Pg}(hl:qs.length<=16) (so:dg [.lst<|gs.map enc]=ae (.lst<|qs.map enc)) :
 ∃ th go dr,lM [.d zb,.d<|.lst<|gs.map enc] bx=.val (.m<|ml bx.length) (Bl bx th (rR ps [] [] [] qs) go dr (vb ps [] [] qs)<|YK ps qs) /\ Lb (xA ps [] [] qs) (rR ps [] [] [] qs) go dr (0+qs.length) /\ ∀ q,(kD dr<|k2 q).isSome=decide (q∈ops ps [] [] qs):=by
 let#[R',go',bP,y3,e,QQ,OO]:=JG h qs [] [] [] [] [] [] [] 0 0 ag Ec #[rfl,(λ_ m=>nomatch m),aC _,aC _,aC _] za za zh zh;refine#[aJ (xA ps [] [] qs) R',go',bP,?_,QQ,λq=>by rw[OO q];rfl];have b0:xt [("there",1),("came",1),("gone",1),("doors",2),("at",0),("words",0)] [ae<|.d zb,ae<|.d<|.lst<|gs.map enc,ag,ag] bx=.val (.m<|ml bx.length) (Bl bx (aJ [] []) [] [] [] [] []):=by
  unfold xt;rfl
 have b:mW [ae<|.d zb,ae<|.d<|.lst<|gs.map enc,ag,ag] bx=.rt (.m<|ml bx.length) (Bl bx (aJ (xA ps [] [] qs) R') (rR ps [] [] [] qs) go' bP (vb ps [] [] qs)<|YK ps qs):=by
  refine(fr<|gu b0).trans ((fr<|(gH<|gf<|iP [.lst<|gs.map enc] (fi zc zc) so).trans e).trans ?_);rfl
 change pY bx.length (pX<|aQ mW [ae<|.d zb,ae<|.d<|.lst<|gs.map enc,ag,ag] bx)=_;unfold aQ;rw[b];rfl
open dz bS
noncomputable abbrev oI:Option Int->D
 |none=>.az
 |some r=>.int r
noncomputable def nJ:Pg->Option Int
 |.aG _ _ _ r _ _=>ae r
 |.to _ _ r=>ae r
 |.out ..=>ag
theorem Vv (g):kr g=oI (nJ g):=by cases g<;>rfl
theorem Vw (R) (g):Ic R g=oI (look R<|ax g):=by unfold Ic;cases look R _<;>rfl
theorem Vx (a b):Qh (.int a) (.int b)=decide (a=b):=by rw[nj];simp[Qh,xo,uH]
theorem Vy (b):Qh .az (.int b)=af:=rfl
theorem Uh (r) (a b):inD af (.int r) (.tup [oI a,oI b])=ae (.old<|.bl<|decide (a=ae r \/ b=ae r)):=by
 cases a<;>cases b<;>simp[inD,nY,nG,Vx,Vy]
abbrev dS (q:Pg×Option Int):D:=.tup [enc q.1,oI q.2,oI<|nJ q.1]
def aZ (ps:Al):Al->Al->List Pg->List (Pg×Option Int)
 |_,_,[]=>[]
 |K,R,g::gs=>if word ps K R g="takes" then (g,look R<|ax g)::aZ ps (stK K g) (eO R g) gs else aZ ps K R gs
theorem JH:∀ {gs}{K R},(vd ps K R gs).map vc=(aZ ps K R gs).map dS
 |[],_,_=>rfl
 | g::gs,K,R=>by
   unfold vd aZ;split
   .rw[aM,aM,JH];change D.tup _::_=D.tup _::_;rw[Vw,Vv]
   .show JH
theorem mF:∀ {gs}{K R},(aZ ps K R gs).map (·.1)=taken ps K R gs
 |[],_,_=>rfl
 | g::gs,K,R=>by
   unfold aZ taken;split
   .rw[aM,mF]
   .show mF
theorem iY:∀ {gs}{K R},(aZ ps K R gs).length<=gs.length
 |[],_,_=>aC _
 | g::gs,K,R=>by
   unfold aZ;split
   .show WD iY
   .show xX iY
theorem Dq:∀ {gs}{K R},((aZ ps K R gs).any λq=>decide (aH q.1=h)&&decide (q.2=ae r \/ nJ q.1=ae r))=decide ((h,r)∈ops ps K R gs)
 |[],_,_=>rfl
 | g::gs,K,R=>by
   unfold aZ ops;split
   .rw[tO,Dq,nj];simp[xY,aF,decide_eq_true_eq,List.mem_append];refine or_congr ?_ Iff.rfl;unfold tj;rw[a9];constructor
    .rintro⟨rfl,e|e⟩
     .show#[r,by rw[e];simp,rfl]
     .show#[r,qX _ (by cases g<;>simp_all[nJ,Eh]),rfl]
    .rintro⟨x,m,e⟩;let#[rfl,rfl]:=Prod.mk.inj e;refine#[rfl,?_];rcases List.mem_append.mp m with m|m
     .show .inr (by cases g<;>simp_all[nJ,Eh])
     .show .inl (by simpa using m)
   .show Dq
section
variable {S:List (Pg × Option Int)}
theorem xC (g) (h:env[i]?=ae (ae<|.d<|enc g)):d2 af ak (dV i) ze env B=.val (.d<|.int<|aH g) B:=
 fF (r:=.old _) (by rw[iO,h]) zc (by cases g<;>rfl)
theorem AB (g) (h:env[i]?=ae (ae<|.d<|enc g)):d2 af ak (dV i) (dC<|.int 2) env B=.val (.d<|.int<|ax g) B:=
 fF (r:=.old _) (by rw[iO,h]) zc (by cases g<;>rfl)
theorem JI (g) (h:env[i]?=ae (ae<|.d<|enc g)) (w):dB (d2 af aW (d2 af ak (dV i) zf)<|dC<|.str w) env B=.val (decide (bZ g=w)) B:=
 fV (fF (fF (r:=.old _) (by rw[iO,h]) zc (by cases g<;>rfl)) zc<|eq_str _ _)
theorem NM (hl:S.length<=16) (r h):iW [.d<|.lst<|S.map dS,.d<|.int r,.d<|.int h] bx=.val (.d<|.bl<|S.any λq=>decide (aH q.1=h)&&decide (q.2=ae r \/ nJ q.1=ae r)) bx:=by
 have z:=bj;refine fY<|fS<|iP (r:=.old<|.bl _) [.lst<|(S.filter λ_=>ah).map λq=>D.bl<|decide (aH q.1=h)&&decide (q.2=ae r \/ nJ q.1=ae r)] (fi (gq (gf zc) zc ?_) zc) ?_
 .refine u7 (J:=λenv=>∃ a b c,env=[a,b,c,xN r,xN h]) (λ_=>ah) (λq=>D.bl<|decide (aH q.1=h)&&decide (q.2=ae r \/ nJ q.1=ae r)) (λq=>#[_,_,_,rfl]) S _ [] zh #[_,_,_,rfl] (λq _ env ⟨a,b,c,e⟩=>by subst e;rfl) λq _=>#[rfl,λ_=>?_];have t1:d2 af aW (d2 af ak (dV 0) ze) (dV 4) [ae<|.d<|enc q.1,ae<|.d<|oI q.2,ae<|.d<|oI<|nJ q.1,xN r,xN h] bx=.val (.d<|.bl<|decide (aH q.1=h)) bx:=fF (r:=.old<|.bl<|decide (aH q.1=h)) (xC q.1 zc) zc<|rfl;cases c:decide (aH q.1=h) with
  |false=>rw[c]at t1;show(λh=>by rw[Dd h];rfl) t1
  |true=>
    rw[c]at t1;show gZ t1<|fF zc (fX [oI q.2,oI<|nJ q.1] zc zh)<|Uh _ _ _
 .simp[Qj,CF]
theorem NO (hl:S.length<=16) (l):iV [.d<|.lst<|S.map dS,.d<|.int l] bx=.val (.d (match (S.map (·.1)).find? (k8 l) with|some g=>enc g|none=>.az)) bx:=by
 have go:∀ (T:List<|Pg×Option Int) (w2 w3 w4:Option W),(fu (λenv bx=>bR (gC 3<|fH (fg 2)<|fH (fg 3)<|fH (fg 4) gE) (aV (pV (dB<|d2 af aW (d2 af ak (dV 2) zf)<|dC<|.str "in")<|dB<|d2 af aW (d2 af ak (dV 2)<|dC<|.int 2)<|dV 1) (fJ<|dV 2) bc) ((T.map dS).map W.d) env bx)<|fJ<|dC .az) [ae<|.d<|.lst<|S.map dS,xN l,w2,w3,w4] bx=.rt (.d (match (T.map (·.1)).find? (k8 l) with|some g=>enc g|none=>.az)) bx:=by
  intro T;induction T with
  |nil=>intro w2 w3 w4;rfl
  |cons q T ih=>
    intro w2 w3 w4
    let E:bu:=[ae<|.d<|.lst<|S.map dS,xN l,ae<|.d<|enc q.1,ae<|.d<|oI q.2,ae<|.d<|oI<|nJ q.1]
    have t:pV (dB<|d2 af aW (d2 af ak (dV 2) zf)<|dC<|.str "in") (dB<|d2 af aW (d2 af ak (dV 2)<|dC<|.int 2)<|dV 1) E bx=.val (k8 l q.1) bx:=by
     have a:=JI q.1 (env:=E) (B:=bx) (i:=2) zc "in";have w:decide (bZ q.1="in")=isIn q.1:=by cases q.1<;>rfl
     rw[w]at a;unfold k8;cases c:isIn q.1 with
     |false=>rw[c]at a;show Ae a
     |true=>rw[c]at a;show mZ a<|fV<|fF (r:=.old<|.bl<|decide (ax q.1=l)) (AB q.1 zc) zc<|rfl
    rw[aM,aM,aM,rW];cases c:k8 l q.1 with
    |true=>
      rw[c]at t;show gT<|Na zc<|(gJ t).trans zc
    |false=>
      rw[c]at t;have e:=ih (ae<|.d<|enc q.1) (ae<|.d<|oI q.2)<|ae<|.d<|oI<|nJ q.1;have bd:aV (pV (dB<|d2 af aW (d2 af ak (dV 2) zf)<|dC<|.str "in")<|dB<|d2 af aW (d2 af ak (dV 2)<|dC<|.int 2)<|dV 1) (fJ<|dV 2) bc E bx=.nx E bx:=(gp t).trans zc;rw[lU]at e ⊢;rw[gj rfl bd];show e
 refine fY ?_;have:=go S ag ag ag;rw[lU]at this;change fu (ic (bG<|dV 0) _ _) _ _ _=_;rw[lU,gH<|gf rfl];show this
end
noncomputable abbrev ve (q:Int×List Int):D:=.tup [.int q.1,.tup<|q.2.map D.int]
structure Hk (rs ks:List D) (ps:Al) (hd:D) (rl:List Int) (hold:Int) (kl:List<|Int×List Int):zm where
 H:Hs rs ks ps hd
 er:rs=rl.map D.int
 eh:hd=.int hold
 ek:ks=kl.map ve
 r:∀ c∈rl,0<=c /\ c<=3
 h:1<=hold /\ hold<=9
 k:∀ q∈kl,1<=q.1 /\ q.1<=999 /\ q.2.length=4 /\ ∀ x∈q.2,0<=x /\ x<=9
theorem P7 (h:kind d=ah):∃ q,d=ve q /\ 1<=q.1 /\ q.1<=999 /\ q.2.length=4 /\ ∀ x∈q.2,0<=x /\ x<=9:=by
 unfold kind at h;split at h
 .rw[aF]at h;let#[_,h]:=h;split at h
  .rw[aF]at h;let#[h1,h2]:=h;let#[i,rfl,i1,i2]:=mY h1;unfold Ea at h2;split at h2
   .erw[aF]at h2;let#[h3,h4,_]:=h2;let#[rt,rfl]:=BB h4;have n:=Ac h3;rw[aK]at n;refine#[(i,rt),rfl,i1,i2,by change rt.length=4;lia,λx m=>?_];have:=dF.mp h4 _<|vw m;simpa[wi] using this
   .cases h2
  .cases h
 .cases h
theorem FF:∀ {l},l.all kind=ah->∃ kl:List (Int×List Int),l=kl.map ve /\ ∀ q∈kl,1<=q.1 /\ q.1<=999 /\ q.2.length=4 /\ ∀ x∈q.2,0<=x /\ x<=9
 |[],_=>#[[],rfl,λ_ m=>nomatch m]
 | d::l,h=>by
   rw[vp,aF]at h;let#[q,rfl,a]:=P7 h.1;let#[kl,rfl,b]:=FF h.2;show#[q::kl,rfl,λx m=>(ba.mp m).elim (λe=>e▸a)<|b x]
theorem Vz (H:Hs rs ks ps hd):∃ rl hold kl,Hk rs ks ps hd rl hold kl:=by
 have h:=H.hh;simp[house,aF]at h;let#[h1,h2,_,h4]:=h;erw[rooms,aF]at h1;let#[rl,e1]:=BB h1.2;let#[i,e2,i1,i2]:=mY h4;erw[kinds,aF]at h2;let#[kl,e3,k3]:=FF h2.2;refine#[rl,i,kl,H,e1,e2,e3,λc m=>?_,#[i1,i2],k3];have:=dF.mp h1.2 _ (by rw[e1];show vw m);simpa[wi] using this

theorem Hk.i (X:Hk rs ks ps hd rl hold kl):YG zb rl hold:=by
 have a:=X.H.r1;have b:=X.H.r5;rw[X.er,aK]at a b;show#[#[_,_,by rw[X.er,X.eh]],X.r,#[a,b],X.h]
theorem VA {l:List Int}{i:Int}(h0:0<=i) (h1:i<l.length):ak (.tup<|l.map D.int) (.int i)=ae (.old<|.int<|l.getD i.toNat 0):=by
 have e:bM (l.map D.int) _=ae (.int<|l.getD i.toNat 0):=CN (by rw[kJ,EJ,dO za];rfl);rw[show ((i.toNat))=i by lia]at e;change (bM _ i).map Res.old=_;rw[e];rfl
theorem JJ (X:Hk rs ks ps hd rl hold kl) (h0:0<=k) (hq:kl[k.toNat]?=ae q):ak (.tup ks) (.int k)=ae (.old<|ve q):=by
 have e:bM ks _=ae _:=CN (by rw[X.ek,kJ,hq];rfl);rw[show ((k.toNat))=k by lia]at e;change (bM ks k).map Res.old=_;rw[e];rfl
theorem DZ {L:List (Int×α)} (neg) (hk:k env bx=.val (.d<|.int l) bx) (hm:m env bx=.val (.d<|.au<|aX e L) bx) :
 kT neg k m env bx=.val (.d (.bl (if neg then !((L.find? λq=>decide (q.1=l)).map (·.2)).isSome else ((L.find? λq=>decide (q.1=l)).map (·.2)).isSome))) bx:=by
 unfold kT;rw[hk,fM,hm,fM];change O.val _ bx=_;rw[j9,qv]
theorem CZ {v:α}(hk:k env bx=.val (.d<|.int l) bx) (hm:m env bx=.val (.d<|.au<|aX e L) bx) (hf:(L.find? λq=>decide (q.1=l)).map (·.2)=ae v):cG m k env bx=.val (.d<|e v) bx:=by
 unfold cG;rw[hm,fM,hk,fM];change (match kS _ _ with|some u=>O.val _ bx|none=>.bad)=_;rw[j9,hf];rfl
def Rk (n:Nat) (R:Al):zm:=∀ q∈R,0<=q.2 /\ q.2<(n)
theorem GB:∀ {gs}{K R},(∀ g∈gs,sZ nr nk g)->Rk nr R->Rk nr (pre h ps K R gs).2
 |[],_,_,_,r=>r
 | g::gs,K,R,o,r=>by
   unfold pre;split
   .show GB (λx m=>o x<|a8 _ m)<|(λok h=>by
    unfold dI;split
    .cases g with
     |aG h' l k r p w=>show λq m=>(oP m).elim (λz=>by rw[z.2];show ok.2.2.2.1)<|h q
     |to h' l r=>show λq m=>(oP m).elim (λz=>by rw[z.2];show ok.2.2)<|h q
     |out h' l=>show λq m=>h q (cX.mp m).1
    .show h) (o g<|bA ..) r
   .show r
theorem JK (h:Rk n R) (e:look R l=ae r):0<=r /\ r<(n):=by
 let#[q,e1,rfl]:=Option.map_eq_some_iff.mp e;show h q<|EI e1
theorem NP (X:Hk rs ks ps hd rl hold kl) (s:qo qs) (ok:∀ g∈qs,sZ rs.length ks.length g) (hl:qs.length<=16) (k0:0<=k) (hq:kl[k.toNat]?=ae q) (h) :
 iX [.d zb,.d zk,.d<|.lst<|(aZ ps [] [] qs).map dS,.d<|enc<|.aG h0 l k r p w,.d<|.int h] bx=.val (.d<|.int<|dX rl hold op q.2 ps qs l h) bx:=by
 have z:sizeLine=16777216:=bj;have sl:=iY (ps:=ps) (gs:=qs) (K:=[]) (R:=[]);have rv:=cA.P3 (bx:=bx) (h:=h) (S:=vd ps [] [] qs) s hl Ai;rw[JH]at rv;generalize hS:(aZ ps [] [] qs)=S at rv sl;have c4:=(X.k q<|tM hq).2.2.1
 let E:=λx5 x6 x7=>([ae<|.d zb,ae<|.d zk,ae<|.d<|.lst<|S.map dS,ae<|.d<|enc<|.aG h0 l k r p w,xN h,x5,x6,x7]:bu)
 have t1:=DZ (bx:=bx) (k:=d2 af ak (dV 3) _) (m:=dV 5) (env:=(E (ae<|.d<|.au<|bI (pre h ps [] [] qs).2) ag ag)) ah (AB _ zc) zc;have g1:=λv=>CZ (bx:=bx) (k:=d2 af ak (dV 3) _) (m:=dV 5) (env:=(E (ae<|.d<|.au<|bI (pre h ps [] [] qs).2) ag ag)) (v:=v) (AB _ zc) zc;refine fY<|qS (cV rv) ?_;unfold dX uv
 change kT ah _ _ _ _=.val (.d<|.bl<|!(look (pre h ps [] [] qs).2 l).isSome) bx at t1
 change ∀ v,look (pre h ps [] [] qs).2 l=ae v->_ at g1
 cases c:look (pre h ps [] [] qs).2 l with
 |none=>
   rw[c]at t1;show qR (fV t1) zc
 |some r'=>
   rw[c]at t1;let#[r0,r1]:=JK (GB (h:=h) (ps:=ps) ok (K:=[]) (R:=[]) λq m=>nomatch m) c;rw[X.er,aK]at r1;refine qF (fV t1)<|qS (g1 r' c) ?_;have cd:=TU (bx:=bx) (hour:=h) X.i r'.toNat za op;rw[show ((r'.toNat:Nat))=r' by lia]at cd;have eg:rl[r'.toNat]'(by lia)=rl.getD r'.toNat 0:=by rw[EJ,dO za];rfl
   rw[eg]at cd;have rb:=X.r (rl.getD r'.toNat 0) (by rw[<-eg];show tQ _);have lo:=BD (hold:=hold) (hour:=h) rb.1 op;have hi:=BE (hour:=h) rb.1 (show 0<hold by have:=X.h;lia) op;refine qS (cV cd) ?_;change fu _ _ (E (ae<|.d<|.au<|bI (pre h ps [] [] qs).2) (xN r')<|xN<|eN (rl.getD r'.toNat 0) hold h op) bx=.rt (.d<|.int<|q.2.getD (max 0<|eN (rl.getD r'.toNat 0) hold h op-if (h,r')∈ops ps [] [] qs then 1 else 0).toNat 0) bx;generalize eN (rl.getD r'.toNat 0) hold h op=cc at *;have o:=NM (bx:=bx) (S:=S) za r' h;rw[<-hS,Dq,hS]at o;have t2:dB (fq bw.iW 3<|fe (dV 2)<|fe (dV 6)<|fe (dV 4) fj) (E (ae<|.d<|.au<|bI (pre h ps [] [] qs).2) (xN r')<|xN cc) bx=.val (decide ((h,r')∈ops ps [] [] qs)) bx:=fV<|cV o;have fin:∀ x:Int,0<=x->x<=3->fJ (d2 af ak (d2 af ak (d2 af ak (d2 af ak (dV 0) zf)<|d2 af ak (dV 3)<|dC<|.int 3) zf)<|dV 7) (E (ae<|.d<|.au<|bI (pre h ps [] [] qs).2) (xN r')<|xN x) bx=.rt (.d<|.int<|q.2.getD x.toNat 0) bx:=λx x0 x3=>
    fS (fF (x:=.tup<|q.2.map D.int) (y:=.int x) (r:=.old _) (fF (x:=ve q) (y:=.int 1) (r:=.old<|.tup<|q.2.map D.int) (fF (x:=.tup ks) (y:=.int k) (r:=.old<|ve q) (fF (x:=hs rs ks ps hd) (y:=.int 1) (r:=.old<|.tup ks) zc zc zc) (fF (x:=enc<|.aG h0 l k r p w) (y:=.int 3) (r:=.old<|.int k) zc zc zc)<|JJ X k0 hq) zc zc) zc<|VA x0 za)
   by_cases d:(h,r')∈ops ps [] [] qs
   .rw[decide_eq_true d]at t2;rw[if_pos d];show(fr<|(gJ t2).trans<|gu<|iP (r:=.old<|.int<|max 0<|cc-1) [.int 0,.int<|cc-1] (fi zc<|fi (fF (x:=.int cc) (y:=.int 1) (r:=.old<|.int<|cc-1) zc zc zc) zc)<|Jw _).trans (fin (max 0<|cc-1) za za)
   .rw[decide_eq_false d]at t2;rw[if_neg d];rw[Int.sub_zero,show max 0 cc=cc by lia];show qF t2<|fin cc lo za
end bw
namespace uw
open L2 L2.DL bS dz
noncomputable def dd (l:List Int):List Int:=l.foldl ph []
theorem NQ (a) (i x:Int):x∈ph a i ↔ x∈a \/ x=i:=by
 unfold ph;split
 .ext h;let#[y,m,e]:=kB.mp h;have e':y=i:=by simpa using e
  subst e';show#[.inl,λz=>z.elim id λz=>z▸m]
 .simp
theorem NR (a) (i:Int):(ph a i).length<=a.length+1:=by
 unfold ph;split<;>simp
theorem FG (x):∀ (l a:List Int),x∈l.foldl ph a ↔ x∈a \/ x∈l
 |[],a=>by simp
 |i::l,a=>by rw[IJ,FG x l,NQ,ba];show or_assoc
theorem BR:∀ (l:List Int) {a},a.Nodup->(l.foldl ph a).Nodup
 |[],_,h=>h
 | i::l,_,h=>BR l<|(λh i=>by
   unfold ph;split
   .show h
   .ext q;rw[vz];refine#[h,by simp,λx hx y hy e=>q ?_];cases di.mp hy;subst e;show kB.mpr #[x,hx,by simp]) h i
theorem NS:∀ (l a:List Int),(l.foldl ph a).length<=a.length+l.length:=by
 intro l_;induction l_ with
 |nil=>(intro a;simp)
 |cons i l bV=>
   intro a;have h1:=bV<|ph a i;have h2:=NR a i;rw[IJ,bE];lia
theorem Ui:x∈dd l ↔ x∈l:=by rw[dd,FG];simp
theorem NT (l):(dd l).Nodup:=BR l aaC
theorem Uj (l):(dd l).length<=l.length:=by have:=NS l [];rw[dd];simpa using this
theorem mG (l):HT.dist l=dd l:=by
 unfold HT.dist firstMet dd;congr 1;apply vq;intro j;by_cases h:j<l.length
 .simp[h]
 .simp[h]
theorem LR:x∈sortI l ↔ x∈l:=(gk l).mem_iff
theorem FH (h:l.Nodup):(sortI l).Nodup:=(gk l).nodup_iff.mpr h
end uw
namespace bw
open L2 L2.DL K1 K2 dz bS aI cA
noncomputable abbrev Ej (hold:Int) (p:Int×Int):List Int:=[p.1,p.2,p.1+1*hold,p.1+2*hold,p.1+3*hold]
section
variable {bx:List Bx}
theorem NU (h1:m env B=.val (.b i) B) (hb:B[i]?=ae (.lst l)) (h2:k env B=.val (.d<|.lst r) B) (hl:l.length+r.length<=sizeLine):xq m k env B=.val (.d .az) (B.set i<|.lst<|l++r):=by
 unfold xq;rw[h1,fM];erw[hb,h2,fM];show if_pos hl
theorem QE:(bx++[x])[bx.length]?=ae x:=by simp
theorem YU:(bx++[x]).set bx.length y=bx++[y]:=by simp
theorem P8 (X:Hk rs ks ps hd rl hold kl):fO af [ag,ae 0,ae 3] (uc<|fe zf<|fe (d2 af f8 (dC<|.int 3) zf) fj) (fg 0) fR (d2 af f8 (dV 2)<|d2 af k6 (dV 0)<|d2 af ak (dV 1)<|dC<|.int 3) [ae<|.d zb,o,w2,xN b,xN e] B=.val (.d<|.lst<|[b+1*hold,b+2*hold,b+3*hold].map D.int) B:=by
 have z:=bj;have eh:=X.eh;subst eh;refine gq (C9<|fi zc<|fi (fF (r:=.old _) zc zc zc) zc) zc ?_;refine(u7 (J:=λenv=>∃ a,env=[a,ae _,ae _]) _ (λi:Int=>D.int<|b+i*hold) (λ_=>#[_,rfl]) [1,2,3] _ [] zh #[_,rfl] (λi _ env ⟨a,e⟩=>by subst e;rfl) λi m=>#[rfl,λ_=>?_]).trans ?_
 .refine fF (r:=.old _) zc (fF zc (fF zc zc zc)<|if_pos<|.inr ?_) zc;have:=X.h;lia
 .rfl
theorem P9 (X:Hk rs ks ps hd rl hold kl) (o:Option W):∀ (l:Al) (acc:List Int) (w3 w4:Option W),acc.length+l.length*5<=1000->∃ y3 y4,
 bR (gC 2<|fH (fg 3)<|fH (fg 4) gE) adA ((l.map dP).map W.d) [ae<|.d zb,o,xB bx.length,w3,w4] (bx++[.lst<|acc.map D.int])=.nx [ae<|.d zb,o,xB bx.length,y3,y4] (bx++[.lst<|(acc++(l.map<|Ej hold).flatten).map D.int]):=by
 intro l_;induction l_ with
 |nil=>show λacc w3 w4 _=>#[w3,w4,by simp[bR]]
 |cons p l bV=>
   intro acc w3 w4 n;have z:sizeLine=16777216:=bj;rw[bE]at n;let#[y3,y4,e]:=bV (acc++Ej hold p) _ _ zh;refine#[y3,y4,?_];have e1:=NU (m:=dV 2) (k:=gR af<|fe (dV 3)<|fe (dV 4) fj) (env:=[ae<|.d zb,o,xB bx.length,xN p.1,xN p.2]) (B:=bx++[.lst<|acc.map D.int]) zc QE (lX [.int p.1,.int p.2] zc zh) zh;rw[YU]at e1;have e2:=NU (m:=dV 2) (env:=[ae<|.d zb,o,xB bx.length,xN p.1,xN p.2]) (B:=bx++[.lst<|acc.map D.int++[.int p.1,.int p.2]]) zc QE (P8 X) zh;rw[YU]at e2;rw[aM,aM,gj rfl<|(fr<|gK e1).trans<|gK e2];have:acc.map D.int++[.int p.1,.int p.2]++[p.1+1*hold,p.1+2*hold,p.1+3*hold].map D.int=(acc++Ej hold p).map D.int:=by simp
   rw[this,e];simp
end
abbrev YV (q:Sx):D:=.tup [.int q.1,oI q.2.1,.int q.2.2]
noncomputable abbrev ends (bs:List Int):List (Option Int):=bs.tail.map ae++[ag]
theorem JL (f):∀ bs,Eg f bs=(bs.zip<|ends bs).map λq=>(q.1,q.2,f q.1)
 |[]=>rfl
 |[b]=>rfl
 | b::c::r=>by
   change (b,ae c,f b)::Eg f _=_;rw[JL f _];rfl
theorem Se:∀ (l:List Int) (r),nX (l.map D.int) (r.map oI)=((l.zip r).map λq=>D.tup [.int q.1,oI q.2]).map W.d
 |[],_=>rfl
 |_::_,[]=>rfl
 | x::l,y::r=>by
   change W.d _::nX _ _=_;rw[Se l r];rfl
def ux (C:List Int) (h0:Int):List Int:=(sortI<|HT.dist C).filter λh=>decide (h0<=h)
theorem FJ (C) (h0):(ux C h0).Pairwise (·<·):=List.Pairwise.filter _ ((List.pairwise_and_iff.mpr #[iQ _,(uw.FH (by rw[uw.mG];show uw.NT C))]).imp λ{a b} h=>by lia)
theorem Ds:x∈ux C h0 ↔ x∈C /\ h0<=x:=by
 unfold ux;rw[cX,uw.LR,uw.mG,uw.Ui,decide_eq_true_eq]
theorem NV (m:h0∈C):∃ r,ux C h0=h0::r:=by
 have r:=FJ C h0;have mh:=Ds.mpr #[m,Kh _];cases e:ux C h0 with
 |nil=>rw[e]at mh;cases mh
 |cons b l=>
   rw[e]at r mh;have hb:=(Ds.mp (by rw[e];show bA ..)).2;rcases ba.mp mh with rfl|mh
   .show#[l,rfl]
   .have:=(List.pairwise_cons.mp r).1 h0 mh;lia

theorem Ra (x0 x1 x2 x3 x8 x9:Option W):∀ (S:List<|Pg×Option Int) (acc:List Int) (w5 w6 w7:Option W),acc.length+S.length*2<=1000->∃ y5 y6 y7,
 bR K31.Qt adB ((S.map dS).map W.d) [x0,x1,x2,x3,xB bx.length,w5,w6,w7,x8,x9] (bx++[.lst<|acc.map D.int])=.nx [x0,x1,x2,x3,xB bx.length,y5,y6,y7,x8,x9] (bx++[.lst ((acc++((S.map (·.1)).map λg=>[aH g,aH g+1]).flatten).map D.int)]):=by
 intro l_;induction l_ with
 |nil=>show λacc w5 w6 w7 _=>#[w5,w6,w7,by simp[bR]]
 |cons q S bV=>
   intro acc w5 w6 w7 n;have z:=bj;rw[bE]at n;let#[y5,y6,y7,e]:=bV (acc++[aH q.1,aH q.1+1]) _ _ _ zh;refine#[y5,y6,y7,?_];have e1:=NU (m:=dV 4) (k:=gR af<|fe (d2 af ak (dV 5) ze)<|fe (d2 af f8 (d2 af ak (dV 5) ze) zf) fj) (env:=[x0,x1,x2,x3,xB bx.length,ae<|.d<|enc q.1,ae<|.d<|oI q.2,ae<|.d<|oI<|nJ q.1,x8,x9]) (B:=bx++[.lst<|acc.map D.int]) zc QE (lX [.int<|aH q.1,.int<|aH q.1+1] (fi (xC q.1 zc)<|fi (fF (r:=.old<|.int<|aH q.1+1) (xC q.1 zc) zc zc) zc) zh) zh;rw[YU]at e1;rw[aM,aM,gj rfl<|gK e1];have:acc.map D.int++[.int<|aH q.1,.int<|aH q.1+1]=(acc++[aH q.1,aH q.1+1]).map D.int:=by simp
   rw[this,e];simp
theorem Rb (h1:op.length<=4) (h2:tk.length<=16):(chg hold op tk).length<64:=by
 rw[cW,aaS,aaS,bB,bB];have a:((op.map<|List.length∘λp=>[p.1,p.2,p.1+1*hold,p.1+2*hold,p.1+3*hold])).sum=op.length*5:=by
  clear h1;induction op with
  |nil=>rfl
  |cons p l ih=>rw[aM,aaT,ih,bE];change 5+_=_;lia
 have b:((tk.map<|List.length∘λg=>[aH g,aH g+1])).sum=tk.length*2:=by
  clear h2;induction tk with
  |nil=>rfl
  |cons p l ih=>rw[aM,aaT,ih,bE];change 2+_=_;lia
 lia
theorem FK (X:Hk rs ks ps hd rl hold kl) (ho:op.length<=4) (s:qo qs) (ok:∀ g∈qs,sZ rs.length ks.length g) (hl:qs.length<=16) (k0:0<=k) (hq:kl[k.toNat]?=ae q) :
 j5 [.d zb,.d zk,.d<|.lst<|(aZ ps [] [] qs).map dS,.d<|enc<|.aG h0 l k r p w] bx=.val (.d<|.lst<|(Eg (dX rl hold op q.2 ps qs l)<|ux (chg hold op<|taken ps [] [] qs) h0).map YV) bx:=by
 have z:sizeLine=16777216:=bj;have sl:=iY (ps:=ps) (gs:=qs) (K:=[]) (R:=[]);have st:=mF (ps:=ps) (gs:=qs) (K:=[]) (R:=[]);have pv:=λB h=>NP (bx:=B) (op:=op) X s ok hl (h0:=h0) (l:=l) (r:=r) (p:=p) (w:=w) k0 hq h;generalize (aZ ps [] [] qs)=S at sl st pv ⊢;have tl:(taken ps [] [] qs).length<=16:=by rw[<-st,aK];lia
 have cl:=Rb (hold:=hold) ho tl;let#[y5,y6,y7,lp]:=Ra (ae<|.d zb) (ae<|.d zk) (ae<|.d<|.lst<|S.map dS) (ae<|.d<|enc<|.aG h0 l k r p w) ag ag S ((op.map<|Ej hold).flatten) ag ag ag (by
  rw[show chg hold op _=(op.map<|Ej hold).flatten++((taken ps [] [] qs).map λg=>[aH g,aH g+1]).flatten from rfl,cW]at cl;lia)
 rw[st]at lp
 change _=OS.nx _ (bx++[.lst<|(chg hold op<|taken ps [] [] qs).map D.int]) at lp
 generalize chg hold op (taken ps [] [] qs)=C at *;have dl:=uw.Uj C;have so:∀ {e:bu},e[4]?=ae (xB bx.length)->dN af yU (fe (dV 4) fj) e (bx++[.lst<|C.map D.int])=.val (.d<|.lst<|(sortI<|HT.dist C).map D.int) (bx++[.lst<|C.map D.int]):=λh=>by
  rw[C5,fi (by rw[iO,h]) rfl,fM,show d7 (bx++[.lst<|C.map D.int]) [.b bx.length]=ae [.lst<|C.map D.int] by simp[d7,bN,QE,bT,pd]];have:yU [.lst<|C.map D.int]=ae (.lst<|(sortI<|HT.dist C).map D.int):=by
   change ((intsOf<|C.map D.int).bind λns=>if ns.length<4000 /\ (HT.dist ns).length<64 then ae (Res.lst<|(sortI<|HT.dist ns).map D.int) else ag)=_;rw[K1.oK];show if_pos #[by lia,by rw[uw.mG];lia]
  rw[bT,this];rfl
 have sz:(sortI<|HT.dist C).length<64:=by rw[(gk _).length_eq,uw.mG];lia
 have bl:(ux C h0).length<64:=xV (uG ..) sz;have b1:=u7 (g:=fg 0) (tf:=dB<|d2 af pZ (dV 0)<|d2 af ak (dV 1) ze) (te:=dV 0) (B:=bx++[.lst<|C.map D.int]) (e:=D.int) (E:=λi:Int=>[xN i,ae<|.d<|enc<|.aG h0 l k r p w]) (J:=λenv=>∃ a,env=[a,ae<|.d<|enc<|.aG h0 l k r p w]) (λh=>decide (h0<=h)) (λi:Int=>D.int i) (λ_=>#[_,rfl]) (sortI<|HT.dist C) _ [] zh #[ag,rfl] (λi _ env ⟨a,e⟩=>by subst e;rfl) λi m=>#[fV<|fF (x:=.int i) (y:=.int h0) (r:=.old<|.bl<|decide (h0<=i)) zc (xC (.aG h0 l k r p w) zc)<|rfl,λ_=>rfl]
 change _=O.val ((ux C h0).map D.int) _ at b1
 generalize ux C h0=bs at *;have YN:DL.cutD (bs.map D.int) (ae 1) ag=bs.tail.map D.int:=by
  cases bs with
  |nil=>rfl
  |cons b t=>simp[DL.cutD,HT.bf];show IQ zg
 have e2:bs.tail.map D.int++[.az]=(ends bs).map oI:=by
  unfold ends;rw[pO,bB];rfl
 refine(j8 (ws:=[.d zb,.d zk,.d<|.lst<|S.map dS,.d<|enc<|.aG h0 l k r p w]) (bx':=bx++[.lst<|C.map D.int]) (qS (cV ((λX ho=>by
  let#[y3,y4,e]:=P9 X _ op [] ag ag zh;have s1:fI (gR ah fj) (fg 2) [ae _,ae _,ag,ag,ag] bx=.nx [ae<|.d zb,ae<|.d zk,ae _,ag,ag] _:=gu<|jq [] zc<|dJ _;have b:iq _ bx=.rt (.b bx.length) (bx++[.lst<|((op.map<|Ej hold).flatten).map D.int]):=
   (fr s1).trans ((fr<|(gH<|gW zc).trans e))
  change pY bx.length (pX<|aQ iq [ae<|.d zb,ae<|.d zk,ag,ag,ag] bx)=_;unfold aQ;rw[b];rfl) X ho)) ((fr<|(gH<|gf zc).trans lp).trans (qS (gq (gf<|so zc) zc b1) (qS (fF (x:=.lst<|bs.tail.map D.int) (y:=.lst [.az]) (r:=.lst<|(ends bs).map oI) (M9 (x:=.lst<|bs.map D.int) (i:=ae 1) (j:=ag) (r:=.lst<|bs.tail.map D.int) zc zc zc (by rw[<-YN];rfl)) (lX [.az] zc zh) (by rw[<-e2];show if_pos zh)) (fS (gq (bx1:=bx++[.lst<|C.map D.int]) (congrArg (O.val · _)<|Se bs<|ends bs) zc<|u7 (g:=gC 2<|fH (fg 0)<|fH (fg 1) gE) (tf:=fR) (te:=fN<|fe (dV 0)<|fe (dV 1)<|fe (fq bw.iX 5<|fe (dV 2)<|fe (dV 3)<|fe (dV 4)<|fe (dV 5)<|fe (dV 0) fj) fj) (B:=bx++[.lst<|C.map D.int]) (e:=λa:Int×Option Int=>D.tup [.int a.1,oI a.2]) (E:=λa:Int×Option Int=>[xN a.1,ae<|.d<|oI a.2,ae<|.d zb,ae<|.d zk,ae<|.d<|.lst<|S.map dS,ae<|.d<|enc<|.aG h0 l k r p w]) (J:=λenv=>∃ a b,env=[a,b,ae<|.d zb,ae<|.d zk,ae<|.d<|.lst<|S.map dS,ae<|.d<|enc<|.aG h0 l k r p w]) (λ_=>ah) (λa=>YV (a.1,a.2,dX rl hold op q.2 ps qs l a.1)) (λ_=>#[_,_,rfl]) (bs.zip<|ends bs) [ag,ag,ae<|.d zb,ae<|.d zk,ae<|.d<|.lst<|S.map dS,ae<|.d<|enc<|.aG h0 l k r p w] [] (by rw[aaP];simp;lia) #[_,_,rfl] (λi _ env ⟨a,b,e⟩=>by subst e;rfl) λa m=>#[rfl,λ_=>fX [.int a.1,oI a.2,.int<|dX rl hold op q.2 ps qs l a.1] (fi zc<|fi zc<|fi (cV<|pv _ a.1) zc) zh]))))))).trans ?_
 rw[List.filter_eq_self.mpr λ_ _=>rfl,JL,bB,kK];simp[aaR,abN]
theorem Sf (i j):minD [.int i,.int j]=ae (.old<|.int<|min i j):=by
 change ae _=_;congr 3;split<;>lia

theorem JM (x0 x1 x2 x3) (h):∀ (T) (x) (w6 w7 w8 w9),(∀ q∈T,0<=q.2.2 /\ q.2.2<=9)->∃ y6 y7 y8 y9,
 bR K31.tG YC ((T.map YV).map W.d) [x0,x1,x2,x3,xN h,xN x,w6,w7,w8,w9] bx=.nx [x0,x1,x2,x3,xN h,xN<|QB h x T,y6,y7,y8,y9] bx
 |[],x,w6,w7,w8,w9,_=>#[w6,w7,w8,w9,rfl]
 | (a,o,g)::T,x,w6,w7,w8,w9,b=>by
   have bg:0<=g /\ g<=9:=b _<|bA ..;let#[y6,y7,y8,y9,e]:=JM x0 x1 x2 x3 h T _ _ _ _ _ λy m=>b y<|a8 _ m;refine#[y6,y7,y8,y9,?_]
   let E:=λx w9=>([x0,x1,x2,x3,xN h,xN x,xN a,ae<|.d<|oI o,xN g,w9])
   have u:rG (dB<|uk af<|dV 7) (dV 4) (dN af minD<|fe (dV 7)<|fe (dV 4) fj) (E x w9) bx=.val (.d<|.int<|Ah h o) bx:=by
    cases o with
    |none=>show Vh zc zc
    |some v=>show Vi zc<|iP _ zc<|Sf v h
   have bd:YC _ bx=.nx (E _<|xN<|Ah h o) bx:=qS u (by
    change bJ (d2 af k6 (dV 8) (dN af maxD<|fe ze<|fe (d2 af c9 (dV 9)<|dV 6) fj) (E x<|xN<|Ah h o) bx) _=_;rw[fF rfl (iP [.int 0,.int<|Ah h o-a] (fi rfl<|fi (fF (r:=.old<|.int<|Ah h o-a) rfl rfl rfl) rfl)<|Jw _)<|if_pos<|.inl za,iA];rfl)
   rw[aM,aM,gj rfl bd,e];rfl
theorem Uk (X:Hk rs ks ps hd rl hold kl) (hq:q∈kl) (qs) (l h):0<=dX rl hold op q.2 ps qs l h /\ dX rl hold op q.2 ps qs l h<=9:=by
 unfold dX Ei;split
 .lia
 .rename_i r _;rw[EJ];cases c:q.2[(max 0<|eN _ hold h op-if (h,r)∈ops ps [] [] qs then 1 else 0).toNat]? with
  |none=>simp
  |some v=>show(X.k q hq).2.2.2 v (tM c)
theorem Sg (p:∀ h,0<=f h /\ f h<=9):∀ {bs},∀ q∈Eg f bs,0<=q.2.2 /\ q.2.2<=9
 |[],_,m=>nomatch m
 |[b],q,m=>by cases di.mp m;show p b
 | b::c::r,q,m=>by
   rcases ba.mp m with rfl|m
   .show p b
   .show Sg p q m
structure Cm (rs ks:List D) (ps:Al) (qs:List Pg) (kl:List<|Int×List Int) (h0 l k r p w:Int) (q:Int×List Int):zm where
 m:Pg.aG h0 l k r p w∈taken ps [] [] qs
 k0:0<=k
 hq:kl[k.toNat]?=ae q
theorem VB (X:Hk rs ks ps hd rl hold kl) (s:qo qs) (Y:Cm rs ks ps qs kl h0 l k r p w q):∃ t,ux (chg hold op<|taken ps [] [] qs) h0=h0::t /\ QA (dX rl hold op q.2 ps qs l) (h0::t):=by
 have m0:h0∈chg hold op _:=n9 _<|List.mem_flatten.mpr #[_,a9.mpr #[_,Y.m,rfl],bA ..];let#[t,e]:=NV m0;refine#[t,e,?_];rw[<-e];refine NJ (λb h hb tt=>(λs hr hh hb t=>by
  have t2:∀ g∈taken ps [] [] qs,¬ (b<aH g /\ aH g<=h) /\ ¬ (b<aH g+1 /\ aH g+1<=h):=λg m=>
   #[t _<|n9 _ (List.mem_flatten.mpr #[_,a9.mpr #[g,m,rfl],by simp]),t _<|n9 _ (List.mem_flatten.mpr #[_,a9.mpr #[g,m,rfl],by simp])]
  rcases Int.lt_or_eq_of_le hb with lt|rfl
  .unfold dX uv;rw[GA hb s λg m=>(t2 g m).1];cases look (pre b ps [] [] qs).2 l with
   |none=>rfl
   |some r=>
     have c3:rl.getD r.toNat 0<=3:=by
      rw[EJ];cases q:rl[r.toNat]? with
      |none=>simp
      |some v=>show hr v<|tM q
     erw[Ei];rw[P4 c3 hh hb λp m x mx=>t x<|qX _<|List.mem_flatten.mpr #[_,a9.mpr #[p,m,rfl],mx],if_neg λm=>?_,if_neg λm=>?_]
     .let#[g,mg,e]:=oS m;have:=(t2 g mg).2;lia
     .let#[g,mg,e]:=oS m;have:=(t2 g mg).1;lia
  .rfl) s (λc m=>(X.r c m).2) X.h.1 hb tt) (FJ _ _) λx m b eb hb=>Ds.mpr #[m,?_]
 rw[e]at eb;cases eb;lia
theorem Ul (X:Hk rs ks ps hd rl hold kl) (ho:op.length<=4) (s:qo qs) (ok:∀ g∈qs,sZ rs.length ks.length g) (hl:qs.length<=16) (Y:Cm rs ks ps qs kl h0 l k r p w q) (h) :
 gF [.d zb,.d zk,.d<|.lst<|(aZ ps [] [] qs).map dS,.d<|enc<|.aG h0 l k r p w,.d<|.int h] bx=.val (.d<|.int<|p+sm (dX rl hold op q.2 ps qs l) h0 (h-h0).toNat) bx:=by
 let#[t,e,c]:=VB X s Y;have sv:=FK (bx:=bx) X ho s ok hl (h0:=h0) (l:=l) (r:=r) (p:=p) (w:=w) Y.k0 Y.hq;rw[e]at sv;let#[y6,y7,y8,y9,lp]:=JM _ _ _ _ h _ p ag ag ag ag<|Sg λx=>Uk X (tM Y.hq) qs l x;rw[FE c]at lp;show fY<|(fr<|gu<|fF (r:=.old<|.int p) zc zc zc).trans<|(fr<|(gH<|gf<|fL zc zc sv).trans lp)
structure Sc (rs ks:List D) (ps:Al) (hd:D) (rl:List Int) (hold:Int) (kl:List<|Int×List Int) (op:Al) (gs qs:List Pg):zm where
 X:Hk rs ks ps hd rl hold kl
 G:Gs rs.length ks.length gs
 so:dg [.lst<|gs.map enc]=ae (.lst<|qs.map enc)
 pm:qs.Perm gs
 ri:Qv qs
 ol:op.length<=4
 ob:∀ p∈op,0<=p.1 /\ p.1<p.2
 oa:kE op=ah

theorem Sc.s (Z:Sc rs ks ps hd rl hold kl op gs qs):qo qs:=(λr=>by
 refine r.imp λ{a b} h=>?_;have:∀ {l m}{i j},HT.cZ (.i i::l) (.i j::m)=ah->i<=j:=λ{l m i j} h=>by
  unfold HT.cZ at h;split at h
  .ext e;cases e;show Kh _
  .have:decide _=ah:=h;simp at this;lia
 cases a<;>cases b<;>show this h) Z.ri
theorem Sc.l (Z:Sc rs ks ps hd rl hold kl op gs qs):qs.length<=16:=by rw[Z.pm.length_eq];show Z.G.l
theorem Sc.ok (Z:Sc rs ks ps hd rl hold kl op gs qs):∀ g∈qs,sZ rs.length ks.length g:=(Z.G.perm Z.pm).ok
theorem V9 (h:m (ws.map ae++List.replicate (n-ws.length) ag) bx=.nx e bx):aY n (aQ m) ws bx=.val (.d .az) bx:=by
 change pY bx.length (pX<|aQ m (ws.map ae++List.replicate _ ag) bx)=_;unfold aQ;rw[h];simp[pX,pY]
theorem NW (Z:Sc rs ks ps hd rl hold kl op gs qs):iU [.d zb,.d zk] bx=.val (.d .az) bx:=by
 have sz:=bj;have ol:=Z.ol;have lv:=TR op za bx;rw[Z.oa]at lv;have o:∀ x∈op.map dP,K2.Aa [.d x] bx=.val (.d _) bx:=λx m=>by
  let#[p,mp,rfl]:=a9.mp m;have:=Z.ob p mp;show fY<|fS<|gZ (cV<|AA zc)<|gZ (cV<|aI.BH (i:=p.1) za)<|gZ (cV<|aI.BH (i:=p.2) za)<|fF (y:=.int p.2) (r:=.old<|.bl ah) zc zc (by simp[eZ];lia)
 have m:Br [ae _,ae _] bx=.rt _ bx:=qE (cV<|aI.oM Z.X.H)<|fS<|gZ (cV<|AA (l:=op.map dP) (lo:=0) (hi:=4) (by simp[tl];lia))<|gZ (CG (gW zc) zc (by rw[aK];lia) λx m=>cV<|o x m)<|cV lv;show V9 (m:=Aw)<|(gp<|jr<|fV<|cV (fn:=lR) (l:=[.d zb,.d zk])<|fY m).trans zc
theorem QF:∀ {gs}{K R},g∈taken ps K R gs->g∈gs
 |[],_,_,m=>nomatch m
 | x::gs,K,R,m=>by
   unfold taken at m;split at m
   .rcases ba.mp m with rfl|m
    .show bA ..
    .show a8 _<|QF m
   .show a8 _<|QF m
abbrev qp (ps:Al) (qs:List Pg) (l:Int):Option Pg:=(taken ps [] [] qs).find?<|k8 l
theorem JN (Z:Sc rs ks ps hd rl hold kl op gs qs) (h:qp ps qs l=ae g):∃ h0 k r p w q,g=.aG h0 l k r p w /\ Cm rs ks ps qs kl h0 l k r p w q /\ 0<=h0 /\ (0<=p /\ p<=999) /\ (1<=q.1 /\ q.1<=999) /\ g∈qs:=by
 have m:=EI h;have c:=IT h;have mm:=QF m;have o:=Z.ok g mm;cases g with
 |aG h0 l' k r p w=>
   have el:l'=l:=of_decide_eq_true c;subst el;let#[o1,o2,#[k0,k1],o4,o5,o6]:=o;have YW:k.toNat<kl.length:=by rw[Z.X.ek,aK]at k1;lia
   show#[h0,k,r,p,w,kl[k.toNat],rfl,#[m,k0,dO YW],o1,o5,#[(Z.X.k _<|tQ YW).1,(Z.X.k _<|tQ YW).2.1],mm]
 |to h' l' r=>simp[isIn]at c
 |out h' l'=>simp[isIn]at c
theorem Um (Z:Sc rs ks ps hd rl hold kl op gs qs) (l):iV [.d<|.lst<|(aZ ps [] [] qs).map dS,.d<|.int l] bx=.val (.d (match qp ps qs l with|some g=>enc g|none=>.az)) bx:=by
 have sl:=iY (ps:=ps) (gs:=qs) (K:=[]) (R:=[]);have:=NO (bx:=bx) (S:=aZ ps [] [] qs) (by have:=Z.l;lia) l;rw[mF]at this;show this
theorem JO (Z:Sc rs ks ps hd rl hold kl op gs qs):cA.ip [.d zb,.d<|.lst<|gs.map enc] bx=.val (.d<|.lst<|(aZ ps [] [] qs).map dS) bx:=by
 rw[<-JH];show(λH hl so=>by
  have c:=YS (B:=bx) (qM ps [] [] qs) ag ag ag ag [] (by rw[JF];simp;lia);rw[Dp,kK]at c;show fY (fS<|gq (gf<|fL zc zc<|Ug H hl so) zc c)) Z.X.H Z.l Z.so

end bw
namespace cA
open L2 L2.DL K1 dz bS aI

end cA
namespace bw
open L2 L2.DL K1 K2 dz bS aI cA
structure La (ps:Al) (qs:List Pg) (B:List Bx) (N:Nat) (dr:List<|List Key×D):zm where
 c:B[N+1]?=ae (.au<|aX enc<|rR ps [] [] [] qs)
 d:B[N+3]?=ae (.dT dr)
 o:∀ q:Int×Int,(kD dr<|k2 q).isSome=decide (q∈ops ps [] [] qs)
 a:B[N+4]?=ae (.lst<|vb ps [] [] qs)

theorem Rc (Z:Sc rs ks ps hd rl hold kl op gs qs) (A:La ps qs B N dr) (k0:0<=k) (hq:kl[k.toNat]?=ae q) (r0:0<=r) (r1:r<(rl.length:Int)) :
 lP [.d zb,.d zk,.m<|ml N,.d<|.int k,.d<|.int r,.d<|.int h] B=.val (.d<|.int<|Ei rl hold op q.2 (ops ps [] [] qs) h<|ae r) B:=by
 have z:=bj;have cd:=PB (bx:=B) (hour:=h) Z.X.i r.toNat za op;rw[show ((r.toNat))=r by lia]at cd;have eg:rl[r.toNat]'(by lia)=rl.getD r.toNat 0:=by rw[EJ,dO za];rfl
 rw[eg]at cd;have rb:=Z.X.r (rl.getD r.toNat 0) (by rw[<-eg];show tQ _);have lo:=BD (hold:=hold) (hour:=h) rb.1 op;have hi:=BE (hour:=h) rb.1 (show 0<hold by have:=Z.X.h;lia) op;have c4:=(Z.X.k q<|tM hq).2.2.1;erw[Ei];generalize eN _ hold h op=cc at *
 let E:bu:=[ae<|.d zb,ae<|.d zk,ae<|.m<|ml N,xN k,xN r,xN h,xN cc]
 have tn:xu (fN<|fe (dV 5)<|fe (dV 4) fj) (cb (dV 2) "doors") E B=.val (.d<|.bl<|decide ((h,r)∈ops ps [] [] qs)) B:=by
  unfold xu;rw[(fX [.int h,.int r] rfl zh),fM,(jE rfl adO),fM];change (match B[N+3]?,uY [D.int h,D.int r] with|some (.dT l),ae k=>O.val (W.d<|.bl (kD l k).isSome) B|_,_=>.bad)=_;rw[A.d];change O.val (W.d<|.bl (kD dr<|k2 (h,r)).isSome) B=_;rw[A.o]
 have mx:dN af maxD (fe ze<|fe (d2 af c9 (dV 6)<|dN af intD<|fe (xu (fN<|fe (dV 5)<|fe (dV 4) fj)<|cb (dV 2) "doors") fj) fj) E B=.val (.d<|.int<|max 0<|cc-if (h,r)∈ops ps [] [] qs then 1 else 0) B:=by
  refine iP [.int 0,.int<|cc-if (h,r)∈ops ps [] [] qs then 1 else 0] (fi zc<|fi (fF (r:=.old<|.int<|cc-if (h,r)∈ops ps [] [] qs then 1 else 0) zc (iP (r:=.old<|.int (if (h,r)∈ops ps [] [] qs then 1 else 0)) [.bl<|decide ((h,r)∈ops ps [] [] qs)] (fi tn zc) ?_) zc) zc)<|Jw _;change ae (Res.old<|.int (if decide ((h,r)∈ops ps [] [] qs)=ah then 1 else 0))=_;congr 3;simp
 refine fY<|qS (cV cd)<|fS<|fF (fF (r:=.old<|.tup<|q.2.map D.int) (fF (fF zc zc zc) zc<|JJ Z.X k0 hq) zc zc) mx<|VA za ?_;split<;>lia
theorem GC (a) (n):fK a (n+1)=.d (.int a)::fK (a+1) n:=by
 unfold fK;rw[aaK,aM,bB];congr 1
 .simp
 .refine rf λi _=>?_;change W.d _=W.d _;congr 2;lia

end bw
namespace aI
open L2 L2.DL K1 dz bS
theorem VC (j:Nat) (hj:j<=100) (env) (b):d8 (fe (dC<|.int<|j) fj) env b=.val (fK 0 j) b:=lV (j:=j) (rfl) za

end aI
namespace cA
open L2 L2.DL K1 dz bS aI
theorem jB (h:m env B=.val [x,y] B1):eE i j m env B=.nx ((env.set i<|ae x).set j<|ae y) B1:=by
 unfold eE;rw[h,iA]


end cA
namespace bw
open L2 L2.DL K1 K2 dz bS aI cA

theorem JP:((rR ps [] [] [] qs).find? λq=>decide (q.1=l)).map (·.2)=qp ps qs l:=BQ zc
theorem CH:∀ {ps:Al},kE ps=ah->(∀ x∈ps,x.2<b)->kE (ps++[(b,e)])=ah
 |[],_,_=>rfl
 | [p],_,h=>by
   simp[kE,h p _]
 | p::q::r,a,h=>by
   simp[kE,aF]at a;change kE _=ah;have:=CH (e:=e) a.2 λx m=>h x<|a8 _ m;simp[kE,aF];show#[a.1,this]
theorem Re (n0:0<nr) (n1:nr<=30) (h:n<bx.length) (p b:Int) (ps:Al) (hl:ps.length<=1000) (w:Option W) :
 ∃ e b' q,adz [xB n,xN nr,xB bx.length,xN b,w] (pt (bx++[.lst<|ps.map dP]) n p)=.nx [xB n,xN nr,xB bx.length,xN b',w] (pt (bx++[.lst<|(ps++[(b,e)]).map dP]) n q) /\ b<e /\ e<=b+nr /\ e<b' /\ b'<=e+nr:=by
 have sz:=bj;let#[r1,p1,t1,m0,m1]:=kh (bx:=bx++[Bx.lst<|ps.map dP]) (n:=n) zh p nr n0 za;have ap:=lY (m:=dV 2) (k:=fN<|fe (dV 3)<|fe (d2 af f8 (d2 af f8 (dV 3) zf)<|fq K1.fm 2<|fe (dV 0)<|fe (dV 1) fj) fj) (env:=[xB n,xN nr,xB bx.length,xN b,w]) zc (jm h) (fX [.int b,.int<|b+1+r1] (fi zc<|fi (fF (r:=.old<|.int<|b+1+r1) (fF zc zc zc) (t1 zc zc) zc) zc) (show (2)<=sizeLine by lia)) (jm h) (by rw[aK];lia);rw[Di h,show ps.map dP++[D.tup [.int b,.int<|b+1+r1]]=(ps++[(b,b+1+r1)]).map dP by simp]at ap;let#[r2,p2,t2,k0,k1]:=kh (bx:=bx++[Bx.lst<|(ps++[(b,b+1+r1)]).map dP]) (n:=n) zh p1 nr n0 za;have b3:=jm (p:=p1) (x:=.lst<|(ps++[(b,b+1+r1)]).map dP) h;have la:bM ((ps++[(b,b+1+r1)]).map dP) (-1)=ae (dP (b,b+1+r1)):=by
  unfold bM cR;simp;rw[if_pos za];simp;have:(-1+((ps.length:Int)+1)).toNat=ps.length:=by lia
  rw[this,<-aK (f:=dP) (as:=ps)];simp
 refine#[b+1+r1,b+1+r1+1+r2,p2,(fr<|gK ap).trans<|gu<|fF (x:=.int<|b+1+r1+1) (y:=.int r2) (r:=.old<|.int<|b+1+r1+1+r2) (fF (x:=.int<|b+1+r1) (y:=.int 1) (r:=.old<|.int<|b+1+r1+1) (fF (x:=dP (b,b+1+r1)) (y:=.int 1) (r:=.old<|.int<|b+1+r1) ?_ zc zc) zc zc) (t2 zc zc) zc,by lia,by lia,by lia,by lia];generalize pt (bx++[.lst<|(ps++[(b,b+1+r1)]).map dP]) n p1=B at b3 ⊢;rw[M0,show dV 2 [xB n,xN nr,xB bx.length,xN b,w] B=.val (.b bx.length) B from rfl,fM,TJ rfl,fM,RZ b3,Bs,bT,bT];change cq af (Option.map Res.old<|bM _<|-1) _=_;rw[la];rfl
structure Ot (op:Al) (m:Int):zm where
 l:op.length<=4
 b:∀ x∈op,0<=x.1 /\ x.1<x.2 /\ x.2<=m
 a:kE op=ah
noncomputable def fB (nr:Int):Nat->Int
 |0=>nr
 |i+1=>fB nr i+2*nr
theorem VD (n0:0<nr):∀ {i},i<=3->fB nr i<=7*nr
 |0,_=>by change nr<=_;lia
 |1,_=>by change nr+2*nr<=_;lia
 |2,_=>by change nr+2*nr+2*nr<=_;lia
 |3,_=>by change nr+2*nr+2*nr+2*nr<=_;lia
theorem NX (n0:0<nr) (n1:nr<=30) (h:n<bx.length) (p):∃ ps q,K2.lH [.b n,.d<|.int nr] (pt bx n p)=.val (.d<|.tup<|ps.map dP) (pt bx n q) /\ Ot ps (8*nr):=by
 have sz:=bj;have h0:n<(bx++[Bx.lst []]).length:=by simp;lia
 let#[r0,p1,t0,m0,m1]:=kh h0 p nr n0 za;let#[y,p2,t4,my]:=adF h0 p1 [0,1,2,4] (fe ze<|fe zf<|fe (dC<|.int 2)<|fe (dC<|.int 4) fj) (λ_ _=>rfl) zc (by decide) zd;let#[c,rfl]:=EL (show 0<=y by simp at my;lia);have hc:c<=4:=by simp at my;lia
 let#[aP,bx',e2,ps,b,w,q,rfl,rfl,hl,_,_,YX,ha,_]:=j6 (g:=fg 4) (λi env bb=>∃ ps b w q,env=[xB n,xN nr,xB bx.length,xN b,w] /\ bb=pt (bx++[.lst<|ps.map dP]) n q /\ ps.length=i /\ 0<=b /\ b<=fB nr i /\ (∀ x∈ps,0<=x.1 /\ x.1<x.2 /\ x.2<=8*nr) /\ kE ps=ah /\ ∀ x∈ps,x.2<b) (fK 0 c) 0 [xB n,xN nr,xB bx.length,xN<|r0,ag] (pt (bx++[.lst<|([]).map dP]) n<|p2) #[[],_,_,_,rfl,rfl,rfl,m0,by change _<=nr;lia,(λx m=>by cases m),rfl,λx m=>by cases m] (by
  rintro i w env bb hw ⟨ps,b,w',q,rfl,rfl,hl,Qx,ajP,YX,ha,hb⟩;have hi:i<c:=by
   have:=(List.getElem?_eq_some_iff.mp hw).1;simpa[fK] using this
  let#[e,b',q',ee,o1,o2,o3,o4]:=Re n0 n1 h q b ps za<|ae w;refine#[_,_,_,_,rfl,ee,ps++[(b,e)],b',_,q',rfl,rfl,by simp[hl],by lia,by change _<=fB nr (0+i)+2*nr;lia,λx m=>?_,CH ha hb,λx m=>?_]
  .rcases List.mem_append.mp m with m|m
   .show YX x m
   .rw[di.mp m];show#[by change 0<=b;lia,o1,by change e<=8*nr;have:=VD n0 (show 0+i<=3 by lia);lia]
  .rcases List.mem_append.mp m with m|m
   .have:=hb x m;lia
   .rw[di.mp m];show o3)
 refine#[ps,q,?_,by simp[fK]at hl;lia,YX,ha];refine(j8 (ws:=[.b n,.d<|.int nr]) (d:=.tup<|ps.map dP) (bx':=pt (bx++[.lst<|ps.map dP]) n q)<|(fr<|cA.jB<|fi (w:=.b bx.length) (bx1:=pt (bx++[.lst []]) n p) (by rw[<-m7 h,<-gM (bx:=bx) (n:=n) (p:=p)];show jq [] zc (dJ _))<|fi (t0 zc zc) zc).trans<|(fr<|(gH (l:=fK 0 c)<|lV (fi (t4 _ 0 zc) zc) za).trans e2).trans<|fS ?_).trans ?_
 .rw[C5,fi (w:=.b bx.length) (l:=[]) rfl rfl,fM];have:d7 (pt (bx++[.lst<|ps.map dP]) n q) [.b bx.length]=ae [.lst<|ps.map dP]:=by erw[d7,RZ<|jm (p:=q) (x:=.lst<|ps.map dP) h,bT,pd]
  rw[this];rfl
 .rw[gM,BF h]
noncomputable abbrev wb (c:Int) (x:Int×Int):Int×Int:=(x.1+c,x.2+c)
theorem FL:∀ {ps:Al},kE ps=ah->kE (ps.map<|wb c)=ah
 |[],_=>rfl
 |[p],_=>rfl
 | p::q::r,a=>by
   simp[kE,aF,decide_eq_true_eq]at a;change kE _=ah;have:=FL (c:=c) a.2;simp[kE,aF,decide_eq_true_eq];show#[by lia,this]
theorem VE (h:n<bx.length) (p:Int) {op:Al}(ho:op.length<=4) {gs:List Pg}(hl:gs.length<=100):∃ c q,K2.mU [.b n,.d zk,.d<|.lst<|gs.map enc] (pt bx n p)=.val (.d<|.tup [.tup<|(op.map<|wb c).map dP,.lst<|(gs.map<|sh c).map enc,.int c]) (pt bx n q) /\ 0<=c /\ c<=10 ^ 39:=by
 have sz:=bj;let#[r4,q,t4,k0,k1]:=kh h p 4 zd zd;let#[y,ey,my]:=j7 (l:=[D.int 0,.int 0,.int<|10 ^ 6,.int<|10 ^ 39]) k0 (by change _<(4);show k1);obtain⟨c,rfl,c0,c1⟩:∃ c:Int,y=.int c /\ 0<=c /\ c<=10 ^ 39:=by
  simp[ba,nP,or_false]at my;rcases my with rfl|rfl|rfl|rfl<;>show#[_,rfl,by decide,by decide]
 refine#[c,q,Fp ?_ (by rw[gM,gM];show aC _),c0,c1];rw[show (gs.map _).map enc=gs.map λg=>enc _ by rw[bB];rfl,bB];show qS (fF (r:=.old<|.int c) (lX [.int 0,.int 0,.int<|10 ^ 6,.int<|10 ^ 39] (fi zc<|fi zc<|fi (fF (r:=.old _) zc zc<|Nk zd)<|fi (fF (r:=.old _) zc zc<|Nk zd) zc) (show (4)<=sizeLine by lia)) (t4 zc zc) (by erw[ak,ey,pd]))<|qS (iP (r:=.tup<|op.map λx=>dP<|wb c x) [.lst<|op.map λx=>dP<|wb c x] (fi (gq (gW zc) zc<|(u7 (E:=λx=>[xN x.1,xN x.2,xN c]) (J:=λe=>∃ a b,e=[a,b,xN c]) (λ_=>ah) (λx=>dP<|wb c x) (λ_=>#[_,_,rfl]) op [ag,ag,xN c] [] zh #[_,_,rfl] (λx _ env ⟨a,b,e⟩=>by subst e;rfl) λx _=>#[rfl,λ_=>fX [.int<|x.1+c,.int<|x.2+c] (fi (fF (x:=.int x.1) (y:=.int c) (r:=.old<|.int<|x.1+c) zc zc zc)<|fi (fF (x:=.int x.2) (y:=.int c) (r:=.old<|.int<|x.2+c) zc zc zc) zc) zh]).trans (by rw[List.filter_eq_self.mpr λ_ _=>rfl,kK])) zc) zc)<|fS<|fX [.tup<|op.map λx=>dP<|wb c x,.lst<|gs.map λg=>enc<|sh c g,.int c] (fi zc<|fi (adG (enc:=enc) (r:=[xN c]) _ (gf zc) zc (by lia) λg _=>Vt c g _)<|fi zc zc) (show (3:Nat)<=sizeLine by lia)
end bw
namespace uA
open L2 L2.DL
noncomputable section
abbrev YY:aA:=(fu (fI (fq cA.iM 2<|fe (dV 2)<|fe (dV 6) fj)<|fg 7)<|aV (dB<|kT af (dV 3)<|dV 7) (fu (fI (cG (dV 7)<|dV 3)<|gC 2<|fH (fg 8)<|fH (fg 9) gE)<|fI (d2 af f8 (dV 5)<|fq bw.lP 6<|fe (dV 0)<|fe (dV 1)<|fe (dV 2)<|fe (dV 8)<|fe (dV 9)<|fe (dV 6) fj)<|fg 5) bc)
def GD:aA:=(fu (aV (qH (dB<|kT ah (dV 3)<|cb (dV 2) "came")<|dB<|d2 af nW (d2 af ak (cG (cb (dV 2) "came")<|dV 3) ze)<|dV 4) (fJ<|dC .az) bc)<|fu (fI (d2 af ak (cG (cb (dV 2) "came")<|dV 3)<|dC<|.int 5)<|fg 5)<|fu (ic (uc<|fe (d2 af ak (cG (cb (dV 2) "came")<|dV 3) ze)<|fe (dV 4) fj) (fg 6) YY)<|fJ<|dV 5)
def g9:List W->List Bx->O W:=aY 10<|aQ GD
end
open K1 K2 dz bS aI cA bw
theorem adS:∀ {gs}{K R},(look K l).isSome=ah->kk (pre x ps K R gs).1 l=kk K l
 |[],_,_,_=>rfl
 | g::gs,K,R,k=>by
   unfold pre;split
   .rw[adS (Sb k).2];show(Sb k).1
   .rfl
theorem adT (hx:h0<=x):∀ {gs}{K R},qo gs->Pg.aG h0 l k r p w∈taken ps K R gs->kk (pre x ps K R gs).1 l=k
 |[],_,_,_,m=>nomatch m
 | g::gs,K,R,s,m=>by
   have s2:=List.pairwise_cons.mp s;rw[BP]at m;unfold pre;rcases List.mem_append.mp m with m|m
   .split at m
    .ext c;cases di.mp m;rw[if_pos (show aH (.aG h0 l k r p w)<=x from hx)];have e:look (cK ps K R<|.aG h0 l k r p w) l=ae k:=by
      rw[(gD c).1];change look (put K l k) l=ae k;rw[jG,if_pos rfl]
     rw[adS (by rw[e];rfl)];unfold kk;rw[e];rfl
    .cases m
   .rw[if_pos (by have:=s2.1 _<|QF m;have e:aH (.aG h0 l k r p w)=h0:=rfl;lia)];show adT hx s2.2 m

abbrev rS (H O:D) (N:Nat) (l h x:Int) (w6 w7 w8 w9:Option W):bu:=[ae<|.d H,ae<|.d O,ae<|.m<|ml N,ae<|.d<|.int l,ae<|.d<|.int h,ae<|.d<|.int x,w6,w7,w8,w9]
theorem CI (Z:Sc rs ks ps hd rl hold kl op gs qs) (A:La ps qs B N dr) (Y:Cm rs ks ps qs kl h0 l k r p w q):∀ (m i:Nat) (w6 w7 w8 w9),
 ∃ y6 y7 y8 y9,bR (fg 6) YY (fK (h0+i) m) (rS zb zk N l h (p+sm (dX rl hold op q.2 ps qs l) h0 i) w6 w7 w8 w9) B=.nx (rS zb zk N l h (p+sm (dX rl hold op q.2 ps qs l) h0 (i+m)) y6 y7 y8 y9) B
 |0,i,w6,w7,w8,w9=>#[w6,w7,w8,w9,rfl]
 | m+1,i,w6,w7,w8,w9=>by
   obtain⟨x,hx⟩:∃ x,x=p+sm (dX rl hold op q.2 ps qs l) h0 i:=#[_,rfl];have ex:p+sm (dX rl hold op q.2 ps qs l) h0 (i+1)=x+dX rl hold op q.2 ps qs l (h0+i):=by rw[hx];change p+(_+_)=_;lia
   have th:=(λZ A h=>by
    have ha:=A.a;rw[JE]at ha;have th:=P0 (h:=h) ha;rw[show ([])=aJ [] [] from rfl,FB Z.s]at th;show th) Z A<|h0+i
   have bd:∃ y7 y8 y9,YY (rS zb zk N l h x (xN<|h0+i) w7 w8 w9) B=.nx (rS zb zk N l h (x+dX rl hold op q.2 ps qs l (h0+i)) (xN<|h0+i) y7 y8 y9) B:=by
    have t2:=DZ (bx:=B) (k:=dV 3) (m:=dV 7) (env:=(rS zb zk N l h x (xN<|h0+i) w7 w8 w9).set 7<|ae<|.d<|.au<|aX dP<|aJ (pre (h0+i) ps [] [] qs).1 (pre (h0+i) ps [] [] qs).2) af zc zc;rw[lZ]at t2;have kc:=adT (x:=h0+i) za Z.s Y.m;cases d:look (pre (h0+i) ps [] [] qs).2 l with
    |none=>
      rw[d]at t2;have ge:dX rl hold op q.2 ps qs l (h0+i)=0:=by unfold dX bw.uv;rw[d];rfl
      rw[ge,Int.add_zero];show#[_,_,_,qS (fL zc zc th)<|(gp<|fV t2).trans zc]
    |some r'=>
      rw[d]at t2;let#[r0,r1]:=JK (GB Z.ok (R:=[]) λq m=>nomatch m) d;rw[Z.X.er,aK]at r1;have gv:=Rc (h:=h0+i) Z A Y.k0 Y.hq r0 r1;rw[show Ei rl hold op q.2 (ops ps [] [] qs) (h0+i) (ae r')=dX rl hold op q.2 ps qs l (h0+i) by unfold dX bw.uv;rw[d]]at gv;have gt:=CZ (bx:=B) (k:=dV 3) (m:=dV 7) (env:=(rS zb zk N l h x (xN<|h0+i) w7 w8 w9).set 7<|ae<|.d<|.au<|aX dP<|aJ (pre (h0+i) ps [] [] qs).1 (pre (h0+i) ps [] [] qs).2) zc zc (by rw[lZ,d,kc];rfl);refine#[_,_,_,qS (fL zc zc th)<|(gJ<|fV t2).trans<|(fr (env1:=rS zb zk N l h x (xN<|h0+i) (ae<|.d<|.au<|aX dP<|aJ (pre (h0+i) ps [] [] qs).1 (pre (h0+i) ps [] [] qs).2) (xN k)<|xN r') (bx1:=B) ?_).trans<|gu<|fF (x:=.int x) (y:=.int<|dX rl hold op q.2 ps qs l<|h0+i) (r:=.old<|.int<|x+dX rl hold op q.2 ps qs l (h0+i)) zc (fL (l:=[.d zb,.d zk,.m<|ml N,.d<|.int k,.d<|.int r',.d<|.int<|h0+i]) zc zc gv) zc];rw[C6,gt];rfl
   let#[y7,y8,y9,b]:=bd;let#[z6,z7,z8,z9,e]:=CI Z A Y m (i+1) (xN<|h0+i) y7 y8 y9;refine#[z6,z7,z8,z9,?_];rw[ex,show h0+((i+1:Nat):Int)=h0+i+1 by lia,show i+1+m=i+(m+1) by lia]at e;rw[GC,<-hx,gj rfl b];show e
def Ek (rl:List Int) (hold:Int) (op:Al) (kl:List<|Int×List Int) (ps:Al) (qs:List Pg) (l h:Int):Option Int:=match qp ps qs l with
 |some (.aG h0 _ k _ p _)=>if h<h0 then ag else ae (p+sm (dX rl hold op ((kl[k.toNat]?).getD (0,[])).2 ps qs l) h0 (h-h0).toNat)
 |_=>ag
theorem JQ (Z:Sc rs ks ps hd rl hold kl op gs qs) (A:La ps qs B N dr):uA.g9 [.d zb,.d zk,.m<|ml N,.d<|.int l,.d<|.int h] B=.val (.d<|oI<|Ek rl hold op kl ps qs l h) B:=by
 have t0:=Fv (k:=dV 3) (m:=cb (dV 2) "came") (env:=[ae<|.d zb,ae<|.d zk,ae<|.m<|ml N,xN l,xN h,ag,ag,ag,ag,ag]) ah zc (jE zc YO)<|jC A.c;rw[JP]at t0;unfold Ek;cases c:qp ps qs l with
 |none=>
   rw[c]at t0;show fY<|qR (RX<|fV t0) zc
 |some g=>
   rw[c]at t0;let#[h0,k,r,p,w,q,rfl,Y,ajQ,_]:=JN Z c;have ca:∀ {e:bu},e[2]?=ae (ae<|.m<|ml N)->e[3]?=ae (xN l)->cG (cb (dV 2) "came") (dV 3) e B=.val (.d<|enc<|.aG h0 l k r p w) B:=λa b=>lc (by rw[iO,b]) (jE (by rw[iO,a]) YO) (jC A.c) (by rw[JP,c]);have cx:∀ {e:bu}{j:Int}{y:D},e[2]?=ae (ae<|.m<|ml N)->e[3]?=ae (xN l)->ak (enc<|.aG h0 l k r p w) (.int j)=ae (.old y)->d2 af ak (cG (cb (dV 2) "came")<|dV 3) (dC<|.int j) e B=.val (.d y) B:=λa b c=>fF (ca a b) zc c;have t1:=mM (fV t0)<|fV<|fF (g:=nW) (k:=dV 4) (r:=.old<|.bl<|decide (h<h0)) (cx (j:=0) (y:=.int h0) zc zc zc) zc (by simp[nW]);erw[Y.hq,WQ];by_cases y:h<h0
   .rw[decide_eq_true y]at t1;rw[if_pos y];show fY<|qR t1 zc
   .rw[decide_eq_false y]at t1;rw[if_neg y];let#[y6,y7,y8,y9,e]:=CI (h:=h) Z A Y (h-h0).toNat 0 ag ag ag ag;rw[show h0+((0:Nat):Int)=h0 by lia,show p+sm (dX rl hold op q.2 ps qs l) h0 0=p by change p+(0:Int)=p;lia,xW]at e;show fY<|qF t1<|qS (cx (y:=.int p) zc zc zc)<|(fr<|(gH<|C9 (i:=h0) (j:=h)<|fi (cx (y:=.int h0) zc zc zc)<|fi zc zc).trans e).trans<|fS zc
end uA
namespace HT
open PySem.W

end HT
namespace L2
open PySem.W
def xD (H:Hp):List (aq×HO)->Hp
 |[]=>H
 |q::l=>upd (xD H l) q.1 q.2
theorem jn:∀ {l},b∉l.map (·.1)->xD H l b=H b
 |[],_=>rfl
 | q::l,h=>by
   rw[aM,ba,not_or]at h;change upd _ q.1 q.2 b=_;rw[fA h.1,jn h.2]
theorem cJ.any (x:cJ P w H h a o):∃ u,h.get? a=ae u:=by
 cases o with
 |lst xs=>let#[_,_,_,_,e]:=x;show#[_,e]
 |tup xs=>let#[_,_,_,o,e,_]:=x;show#[_,e]
 |dK aj=>let#[_,_,_,_,o,_,_,e,_]:=x;show#[_,e]
 |dT aj=>let#[_,_,_,_,o,_,_,e,_]:=x;show#[_,e]
 |set S n=>let#[o,_,_,_,e,_]:=x;show#[_,e]
 |ins C dx fs=>let#[_,_,_,e,_]:=x;show#[_,e]
 |own y=>show x
 |xd fs=>let#[_,#[_,_,_,e,_],_]:=x;show#[_,e]
 |Ko lo hi=>let#[_,_,_,e]:=x;show#[_,e]
 |bQ ob u=>let#[e,_]:=x;show#[_,e]
 |hO ps=>show#[_,(x)]
 |met f y=>show#[_,(x)]
 |ext φ=>let#[_,#[_,e],_]:=x;show#[_,e]


end L2
namespace L2.DL
open PySem.W

end L2.DL
namespace HT
open PySem.W

def QG (h h':aT):zm:=∀ b o,h.get? b=ae o->h'.get? b=ae o
theorem NY
 (ho:s.heap.get? f=ae (Ki "<lambda>" qual params (.Subscript (.Name x px) (.Constant (.int i) n py) pz) scope [] pm c' kF)) (pD:s.heap.CodeRec (.ref c') qual) (ahX:A.depth<recursionLimit) (lim:s.heap.NoLimit)
 (YZ:bindArgs (kla_fn "<lambda>" qual params (.Subscript (.Name x px) (.Constant (.int i) n py) pz) scope [] pm (.ref c') kF) #[[.ref t],[]]=pure [(x,.ref t)]) (hx:scope.names.lookup x=ae .local) (ahY:scope.isCoroutine=af) (ahZ:scope.isGenerator=af) (hk:scope.kind=.function) (vE:∀ x∈scope.names,x.2≠.cell)
 (d6:(x==("__debug__"))=af) (hl:IsTup s.heap t items) (i0:0<=i) (i1:i.toNat<items.size) (i2:items.size<=sizeLine) (hz:items[i.toNat]?=ae z)
 (h:∀ h' tk,QG s.heap h'->Q z { s with heap:=h',toks:=tk }):wpAny zj A (call (.ref f) [.ref t]) Q E s:=by
 refine Q7<|kla_callFunE ahX ho zc ahY ahZ zc pD ?_;rw[YZ];refine ao<|wpAny_newFunctionEnv vE (λy m=>by rw[di.mp m];show hx) (λh₁ eK vO=>#[lim.fresh _ vO,?_]) hk;have adU:=λb o e=>vO.extBut b o (cw<|bq e)<|aU _ e;refine kla_codeExpr ?_;have hm:(λy=>([(x,Value.ref t)]).reverse.lookup y) x=ae (.ref t):=by simp
 refine Subscript_<|Iu (Q5 hk hx eK hm<|ZV ?_) d6;have pl:=hl.keeps adU;have hn:=L2.yu;show WT pl.typeIs slot_tuple_getitem.lookup (aa5 pl za za (L2.AG (by unfold L2.cR;rw[if_pos i0,if_pos za])).1 hz #[rfl,h _ _ adU]) zc
theorem GE {ts:List aq}{kz:List Int}{Q:ay->aN->zm}(eK:s.heap.Ns L m) (hl:s.heap.IsList l (ts.map Value.ref).toArray) (hlen:kz.length=ts.length) (dR:ts.length<64)
 (turn:∀ (i:Nat) (t:aq) (k:Int),ts[i]?=ae t->kz[i]?=ae k->∀ (h:aT) (tk:Nat),(∀ b o,b≠L->s.heap.get? b=ae o->h.get? b=ae o) ->
  wpAny zj A.in1.in1 (call (.ref f) [.ref t]) (λv s2=>∃ h' Yp t',s2={ s with heap:=h',toks:=Yp } /\ v=.int k t' /\ QG h h') (λ_ _=>False) { s with heap:=h,toks:=tk })
 (h:∀ D h' tk out c,(∀ b o,b≠L->s.heap.get? b=ae o->h'.get? b=ae o)->h'.Ns L m->s.heap.get? D=ag->D≠L->h'.get? D=ae (seqObj "list" out c)->KskOut af kz (ts.map Value.ref) out.toList->Q (.ref D) { s with heap:=h',toks:=tk }) :
 wpAny zj A (call (.builtin "sorted") [.ref l] [(Str.ofString "key",.ref f)]) Q E s:=by
 have get:∀ {h}{own},News (sC.KO s.heap) L h (sC.ledger s.heap L L++own)->∀ b o,b≠L->s.heap.get? b=ae o->h.get? b=ae o:=λN b o n e=>(N _<|qX _<|sC.KR.mpr #[n,n,e]).1;refine ksk_sorted (kz:=kz) (news:=sC.ledger s.heap L L) (sC.agb eK) (λ⟨b,o⟩ hp=>?_) hl (by rw[aK];show hlen) (by rw[aK];show dR) (ksk_s1 _ _) (λx=>ksk_l1 _ _) (λx=>ksk_t1 f x) (λi v k hv hk h tk own F' N'=>?_) λD h' tk out c F' N' lt ko=>?_
 .let#[n1,_,e]:=sC.KR.mp hp;show#[e,n1,sC.aga _ _]
 .rw[kJ]at hv;let#[t,ht,rfl]:=Option.map_eq_some_iff.mp hv;refine nM (turn i t k ht hk h tk<|get N') (λv s2 ⟨h2,vY,t',e,ev,kp⟩=>?_) λ_ _ z=>z;subst e;show#[h2,vY,t',rfl,ev,#[F'.ns.keeps kp,λb o e=>kp b o<|F'.keep b o e,F'.above],λp hp=>#[kp _ _ (N' p hp).1,(N' p hp).2]]
 .have d:=N' _<|bA ..;refine h D h' tk out c (λb o n e=>(N' _<|a8 _<|sC.KR.mpr #[n,n,e]).1) F'.ns ?_ d.2.1 d.1 ko;cases q:s.heap.get? D with
  |none=>rfl
  |some o=>show absurd (lt _<|sC.KR.mpr #[d.2.1,d.2.1,q])<|kI _
theorem NZ (ah0:defaultsOf params env=([],[])) (vN:closureFor scope env=pure []) (adV:env.globals=mainGlobals) (hg:s.heap.Ns mainGlobals mg) (adW:env.code=.ref c) (C:CodeHd s.heap c P) (hP:s.heap.get? P=ae (tabObj ps)) (ht:TriplesOk ps.toList) (ah1:mainGlobals≠P) (hb:s.heap.BuiltinsAt mg P)
 (hH:∀ cv f h' tk kF,codeAmong pos ps.toList=ae cv->QG s.heap h'->s.heap.get? f=ag->h'.get? f=ae { cls:=.type "function",data:=.func (kla_fn "<lambda>" (env.qual ++ "<lambda>") params body scope [] ((mg "__name__").getD .none) cv kF) }->Q (.ref f) { s with heap:=h',toks:=tk })
 (hM:∀ c' f h' tk kF,codeAmong pos ps.toList=ag->Heap.ExtBut P s.heap h'->s.heap.get? f=ag->s.heap.get? c'=ag->c'≠f->h'.CodeRec (.ref c') (env.qual ++ "<lambda>")->h'.get? P=ae (tabObj<|ps++(List.toArray [rawInt pos.line,rawInt pos.col,.ref c'])) ->
  h'.get? f=ae (Ki "<lambda>" (env.qual ++ "<lambda>") params body scope [] ((mg "__name__").getD .none) c' kF)->Q (.ref f) { s with heap:=h',toks:=tk }) :
 wpAny zj A (eval (.Lambda params body scope pos) env) Q E s:=by
 refine kla_eval ah0 ?_;cases hf:codeAmong pos ps.toList with
 |some cv=>
   show kla_makeFunctionHit vN adV hg adW C hP ht hf hb λkF h' tk kp le=>(hH cv _ _ tk kF hf (λb o e=>aU _<|kp b o e) (EK le)<|bF _ zc)
 |none=>
   refine kla_makeFunction vN adV hg adW C hP ht hf ah1 hb λc' kF h' tk x l1 l2 cr hp=>?_;have up:QG h' (h'.push<|Ki "<lambda>" (env.qual ++ "<lambda>") params body scope [] ((mg "__name__").getD .none) c' kF):=λb o e=>aU _ e;refine hM c' _ _ tk kF hf (λb o n e=>up b o<|x b o n e) (EK<|cj l1<|nZ l2) (EK l1) (cw l2) ?_ (up _ _ hp)<|bF _ zc
   .let#[c,oc,vs,tq,hc,qA,r]:=cr;show#[c,oc,vs,tq,hc,up _ _ qA,r]
end HT
namespace L2
open PySem.W

theorem Dt:∀ {l},(l.map (·.1)).Nodup->(b,u)∈l->xD H l b=ae u
 |[],_,m=>nomatch m
 | q::l,nd,m=>by
   rw[aM,rY]at nd;rcases ba.mp m with rfl|m
   .show fw
   .have:b≠q.1:=λe=>nd.1<|e▸vw m;change upd _ q.1 q.2 b=ae u;rw[fA this];show Dt nd.2 m
theorem Inv.more (I:Inv X pins σ H s) (nd:(n.map (·.1)).Nodup) (hP:∀ q∈n,s.heap.get? q.1=ag \/ ∃ ps more,H q.1=ae (.hO ps) /\ q.2=.hO (ps++more)) (k:∀ b o,b≠X.env.locals->b∉n.map (·.1)->s.heap.get? b=ae o->h'.get? b=ae o)
 (ns:h'.Ns X.env.locals<|s.heap.nsMap X.env.locals) (new:∀ q∈n,cJ X.prog X.w (xD H n) h' q.1 q.2):Inv X pins σ (xD H n) { s with heap:=h',toks:=t' }:=by
 have no:∀ {b}{o},s.heap.get? b=ae o->(∀ ps,H b≠ae (.hO ps))->b∉n.map (·.1):=λ{b o} e z m=>by
  let#[q,mq,rfl]:=a9.mp m;rcases hP q mq with y|⟨ps,_,y,_⟩
  .rw[e]at y;cases y
  .show z ps y
 have there:∀ {b}{u},H b=ae u->∃ o,s.heap.get? b=ae o:=λe=>(I.aB _ _ e).any;have Ig:∀ {b}{u},H b=ae u->(∀ ps,u≠.hO ps)->b∉n.map (·.1):=λ{b u} e z=>by
  let#[o,eo]:=there e;show no eo λps y=>z ps<|Option.some.inj<|e.symm.trans y
 refine I.step (ch:=[]) (λ_ z=>nomatch z) (λb o hL _ _ e z=>k b o hL (no e λps y=>by rw[z]at y;cases y) e) (λb o hL _ _ e z=>#[o.slots,k b o hL (no e λps y=>by rw[z]at y;cases y) e])
  (λb o _ e z=>by rw[jn (no e λps y=>by rw[z]at y;cases y)];show z) (λb o _ e=>?_) (λb xs e=>by rw[jn<|Ig e λps y=>nomatch y];show e) (λb o u e=>by rw[jn<|Ig e λps y=>nomatch y];show e) (λb ps e=>?_) (λm hm=>by rw[hm.eq_nsMap];show ns) (λb u e=>?_) I.bare
 .by_cases hL:b=X.env.locals
  .let#[o',_,_,ho,_]:=ns;show#[o',hL▸ho]
  .by_cases m:b∈n.map (·.1)
   .let#[q,mq,rfl]:=a9.mp m;show(new q mq).any
   .show#[o,k b o hL m e]
 .by_cases m:b∈n.map (·.1)
  .let#[q,mq,rfl]:=a9.mp m;rcases hP q mq with y|⟨uV,more,y,z⟩
   .let#[o,eo]:=there e;rw[eo]at y;cases y
   .rw[e]at y;cases y;show#[more,by rw[Dt nd<|mq,z]]
  .show#[#[],by rw[jn m,e];simp]
 .by_cases m:b∈n.map (·.1)
  .let#[q,mq,rfl]:=a9.mp m;rw[Dt nd<|mq]at e;cases e;show new q mq
  .rw[jn m]at e;have nL:∀ {c}{v},H c=ae v->c≠X.env.locals:=λe z=>by rw[z,I.free]at e;cases e
   refine(I.aB b u e).nQ (λc v z ec=>?_) (λc z=>by rw[jn<|Ig z λps y=>nomatch y];show z) λc xs z=>by rw[jn<|Ig z λps y=>nomatch y];show z
   rcases z with rfl|z
   .show k c v (nL e) m ec
   .show k c v (nL z) (Ig z λps y=>nomatch y) ec
theorem VF (x:h.CodeRec (.ref c) q):cJ P w H h c (DL.wW c q):=by
 let#[c0,oc,vs,tq,e,ho,r]:=id x;cases e;refine#[x,#[oc,ho],λh1 h2 ⟨c1,o1,v1,t1,e1,g1,r1⟩ kk=>?_];cases e1;show#[c,o1,v1,t1,rfl,kk _ g1,r1]
structure Y0 (X:Cx) (params:Arguments) (x:Str) (px py pz:Pos) (i:Int) (n:Nat) (scope:kL) (c P:aq):zm where
 df:defaultsOf params X.env=([],[])
 cl:closureFor scope X.env=pure []
 code:X.env.code=.ref c
 hd:∀ h,X.K.In h->CodeHd h c P
 bl:X.base.BuiltinsAt X.mg P
 gP:mainGlobals≠P
 bind:∀ (qual:Str) (pm:ay) (c':aq) (kF:ay) (t:aq),bindArgs (kla_fn "<lambda>" qual params (.Subscript (.Name x px) (.Constant (.int i) n py) pz) scope [] pm (.ref c') kF) #[[.ref t],[]]=pure [(x,.ref t)]
 hx:scope.names.lookup x=ae .local
 co:scope.isCoroutine=af
 gen:scope.isGenerator=af
 kind:scope.kind=.function
 cell:∀ x∈scope.names,x.2≠.cell
 db:(x==("__debug__":Str))=af
 dp:X.A.in1.in1.depth<recursionLimit
def ah2 (X:Cx) (P:aq) (nK:Pos) (q:Str) (i:Int):List V->Hp->VK->zm:=λxs H1 Q=>∃ (a:aq) (rows:List<|aq×List V×Int) (ps:Array ay),xs=[.ref a] /\ cy X.K H1 a (rows.map λr=>V.ref r.1) /\ rows.length<64 /\ 0<=i /\
 (∀ r∈rows,H1 r.1=ae (.tup r.2.1) /\ r.2.1[i.toNat]?=ae (.int r.2.2)) /\ H1 P=ae (.hO ps) /\ TriplesOk ps.toList /\ (∀ cv,codeAmong nK ps.toList=ae cv->∃ c',cv=.ref c' /\ H1 c'=ae (DL.wW c' q)) /\
 ∀ (out:List<|aq×List V×Int) (l:aq),out.Perm rows->out.Pairwise (λa b=>a.2.2<=b.2.2)->H1 l=ag ->
  (codeAmong nK ps.toList≠ag->Q (.ref l) (xD H1 [(l,.lst<|out.map λr=>V.ref r.1)])) /\
  (codeAmong nK ps.toList=ag->∀ c',H1 c'=ag->c'≠l->c'≠P->Q (.ref l) (xD H1 [(l,.lst<|out.map λr=>V.ref r.1),(P,.hO<|ps++(List.toArray [rawInt nK.line,rawInt nK.col,.ref c'])),(c',DL.wW c' q)]))
theorem N0 {α:Type}:∀ {ps}{rows},ps.Perm ((rows.map (·.2.2)).zip ((rows.map (·.1)).map Value.ref))->∃ out:List (aq×α×Int),out.Perm rows /\ ps=out.map λr=>(r.2.2,Value.ref r.1):=by
 intro ps rows p;have e:(rows.map (·.2.2)).zip ((rows.map (·.1)).map Value.ref)=rows.map λr=>(r.2.2,Value.ref r.1):=by
  clear p;induction rows with
  |nil=>rfl
  |cons r l ih=>
    show congrArg _ ih
 rw[e]at p;let#[out,e2,p2]:=DL.oG p zc;show#[out,p2,e2]
theorem LS (Y:Y0 X params x px py pz i n scope c P) (hg:Gl X "sorted") (hm:X.mg "sorted"=ag) (ha:PA X [o] t) (hs:starEach [o] X.env=[(af,eval o X.env)]) :
 PE X (.Call (.Name "sorted" p) [o] [#[ae "key",.Lambda params (.Subscript (.Name x px) (.Constant (.int i) n py) pz) scope nK,kp]] pos) (Hb (ah2 X P nK (X.env.qual ++ "<lambda>") i) t):=by
 intro pins s σ H Q I h;refine tJ<|iI I hg hm boot_sorted ?_ zd zd;refine callWith_kw (qB (ha pos pins s σ H _ I h) λus s1 vs H1 I1 r1 q1=>?_) (by rw[hs];rfl) (by rw[hs];rfl) zc zc;change wpAny _ _ (evalAll [do let v <-eval (.Lambda params (.Subscript (.Name x px) (.Constant (.int i) n py) pz) scope nK) X.env;standAt pos;pure v]) _ _ _;let#[a,rows,ps,rfl,hl,dR,i0,hr,hP,ht,Y1,q1]:=q1;let#[u,rfl,ru]:=Vals.one r1;cases ru;have eP:s1.heap.get? P=ae (tabObj ps):=I1.aB _ _ hP;let#[m,hn,_]:=id I1.loc;have adX:X.env.locals≠P:=λe=>by have:=I1.free;rw[e,hP]at this;cases this
 let#[its,rv,#[ol,nl,e1,e2,e3,e4],hz]:=I1.list hl;have ah3:its=(rows.map (·.1)).map Value.ref:=by
  have:∀ {ts:List aq}{us:List ay},Vals (ts.map V.ref) us->us=ts.map Value.ref:=by
   intro ts;induction ts with
   |nil=>intro us r;cases r;rfl
   |cons t ts ih=>intro us r;cases r with|cons h t=>rw[ih t,show _=Value.ref _ from h];rfl
  show this (by rw[bB];show rv)
 subst ah3;have aL:a≠X.env.locals:=λe=>by
  let#[on,es,ep,g1,g2,_]:=hn;rw[<-e,e1]at g1;cases g1;rw[e4]at g2;cases g2
 have fin:∀ (f c':aq) (kF:ay) (h2:aT) (tk:Nat) (nw:List<|aq×HO),(∀ b o,b≠P->s1.heap.get? b=ae o->h2.get? b=ae o)->s1.heap.get? f=ag->h2.CodeRec (.ref c') (X.env.qual ++ "<lambda>")->c'≠X.env.locals ->
  h2.get? f=ae (Ki "<lambda>" (X.env.qual ++ "<lambda>") params (.Subscript (.Name x px) (.Constant (.int i) n py) pz) scope [] ((X.mg "__name__").getD .none) c' kF) ->
  (∀ (D:aq) (h':aT) (tk:Nat) (out:List<|aq×List V×Int) (cc:Nat),(∀ b o,b≠X.env.locals->h2.get? b=ae o->h'.get? b=ae o)->h'.Ns X.env.locals m->h2.get? D=ag->D≠X.env.locals->h'.get? D=ae (seqObj "list" ((out.map (·.1)).map Value.ref).toArray cc)->out.Perm rows->out.Pairwise (λa b=>a.2.2<=b.2.2) ->
   EP X pins σ Q (.ref D) { s1 with heap:=h',toks:=tk }) ->
  wpAny zi X.A (call (.builtin "sorted") [.ref a] [(Str.ofString "key",.ref f)]) (EP X pins σ Q) X.xe { s1 with heap:=h2,toks:=tk }:=by
  intro f c' kF h2 tk nw kp fn cr cL hf K;refine HT.GE (L:=X.env.locals) (m:=m) (kz:=rows.map (·.2.2)) ?_ #[ol,kp _ _ (λe=>by
  rw[e,eP]at e1;cases e1;cases e2) e1,e2,nl,e4] zg (by rw[aK];show dR) (λj t k ht hk h vY El=>?_) λD h' vY out cc El ns dn dL ho ko=>?_
  .let#[on,es,ep,g1,g2]:=hn;show#[on,es,ep,kp _ _ adX g1,g2]
  .rw[kJ]at ht hk;let#[r,er,rfl]:=Option.map_eq_some_iff.mp ht;rw[er]at hk;cases hk;let#[t1,t2]:=hr r<|tM er;let#[us,ru,it,uz]:=I1.tuple<|.of t1;let#[u,eu,t',rfl]:=ru.get t2;have ah4:h.CodeRec (.ref c') (X.env.qual ++ "<lambda>"):=by
    let#[c0,oc,vs,tq,e,qA,rr]:=cr;cases e;show#[c',oc,vs,tq,rfl,El _ _ cL qA,rr]
   let#[ot,g1,g2]:=it;show HT.NY (El _ _ (λe=>by
    let#[on,_,_,g1,_]:=hn;rw[e,g1]at fn;cases fn) hf) ah4 Y.dp (I1.mod.nolimit.keeps λb o eb=>El b o (cw<|kA (bq (I1.ok.bs b o eb).1) I1.ok.above)<|kp b o (λe=>by have:=(I1.bs b o eb).2;rw[e,hP]at this;cases this)<|I1.bk b o eb) (Y.bind _ _ _ _ _) Y.hx Y.co Y.gen Y.kind Y.cell Y.db #[ot,El _ _ (λe=>by have:=I1.free;rw[<-e,t1]at this;cases this)<|kp _ _ (λe=>by rw[e,hP]at t1;cases t1) g1,g2] i0 (by rw[bX];show(List.getElem?_eq_some_iff.mp eu).1) (by rw[bX,<-ru.length];show uz) (by simpa using eu) λh' tk kk=>#[h',tk,t',rfl,rfl,kk]
  .let#[zs,z1,z2,z3]:=ko;let#[adY,p1,rfl]:=N0 z1;refine K D h' vY adY cc El ns dn dL ?_ p1 ?_
   .rw[ho];have:out=((adY.map (·.1)).map Value.ref).toArray:=by
     apply Array.toList_inj.mp;rw[z2,bB,bB];rfl
    rw[this]
   .rw[rX]at z3;show z3.imp λh=>h
 have lst:∀ (h':aT) (H':Hp) (D:aq) (out:List<|aq×List V×Int) (cc:Nat),out.Perm rows->h'.get? D=ae (seqObj "list" ((out.map (·.1)).map Value.ref).toArray cc)->cJ X.prog X.w H' h' D (.lst<|out.map λr=>V.ref r.1):=λh' H' D out cc p g=>by
  refine#[by rw[aK,p.length_eq,bj];lia,_,cc,?_,g];have:∀ l:List (aq×List V×Int),Vals (l.map λr=>V.ref r.1) ((l.map (·.1)).map Value.ref):=λl=>by
   induction l with
   |nil=>show .nil
   |cons a l ih=>show .cons zc ih
  show this out
 have adZ:∃ o,s1.heap.get? X.env.locals=ae o:=let ⟨o,_,_,g,_⟩:=hn;#[o,g]
 have em:=hn.eq_nsMap;have Hn:∀ {b:aq},s1.heap.get? b=ag->H1 b=ag:=λ{b} e=>by
  cases q:H1 b with
  |none=>rfl
  |some u=>let#[o,eo]:=(I1.aB _ _ q).any;rw[eo]at e;cases e
 refine wpAny_evalAll_cons<|ai<|HT.NZ Y.df Y.cl I1.ok.glob ?_ Y.code (Y.hd _<|I1.mod.wI.keeps I1.bk) eP ht Y.gP (let ⟨bm,o,b1,b2,b3,b4,b5,b6⟩:=Y.bl;#[bm,o,b1,b2,b3,b4,I1.bk _ _ b5,b6]) (λcv f h2 tk kF hf kp fn ho=>?_) λc' f h2 tk kF hf kp fn cn cf cr hp ho=>?_
 .let#[o,es,ep,g,r]:=I1.mod.glob;show#[o,es,ep,I1.bk _ _ g,r]
 .let#[c',rfl,hc]:=Y1 cv hf;let#[oL,eL]:=adZ;refine ai (xH<|ao<|aan<|fin f c' kF h2 tk [] (λb o _ e=>kp b o e) fn ?_ (λe=>by have:=I1.free;rw[<-e,hc]at this;cases this) ho λD h' vY out cc k2 ns dn dL g p1 p2=>?_)
  .let#[c0,oc,vs,tq,e,qA,rr]:=(I1.aB _ _ hc).1;cases e;show#[c',oc,vs,tq,rfl,kp _ _ qA,rr]
  .have d1:s1.heap.get? D=ag:=by
    cases q:s1.heap.get? D with
    |none=>rfl
    |some o=>rw[kp _ _ q]at dn;cases dn
   show#[.ref D,_,I1.more zg (λq m=>by rw[di.mp m];show .inl d1) (λb o n1 _ e=>k2 b o n1<|kp b o e) (em▸ns) (λq m=>by rw[di.mp m];show lst h' _ D out cc p1 g),rfl,(q1 out D p1 p2<|Hn d1).1 (by rw[hf];show λz=>nomatch z)]
 .have cL:c'≠X.env.locals:=λe=>by let#[o,eo]:=adZ;rw[e,eo]at cn;cases cn
  have cP:c'≠P:=λe=>by rw[e,eP]at cn;cases cn
  refine ai<|xH<|ao<|aan<|fin f c' kF h2 tk [] (λb o n1 e=>kp b o n1 e) fn cr cL ho λD h' vY out cc k2 ns dn dL g p1 p2=>?_;have dP:D≠P:=λe=>by rw[e,hp]at dn;cases dn
  have d1:s1.heap.get? D=ag:=by
   cases q:s1.heap.get? D with
   |none=>rfl
   |some o=>rw[kp _ _ dP q]at dn;cases dn
  have cD:c'≠D:=λe=>by
   let#[c0,oc,vs,tq,e0,qA,rr]:=cr;cases e0;rw[e,dn]at qA;cases qA
  refine#[.ref D,_,I1.more (by simp[dP,Ne.symm cD,Ne.symm cP]) (λq m=>?_) (λb o n1 n2 e=>k2 b o n1<|kp b o (λz=>n2 (by simp[z])) e) (em▸ns) λq m=>?_,rfl,(q1 out D p1 p2<|Hn d1).2 hf c' (Hn cn) cD cP]
  .erw[ba,nP,or_false]at m;rcases m with rfl|rfl|rfl
   .show .inl d1
   .show .inr #[ps,_,hP,rfl]
   .show .inl cn
  .erw[ba,nP,or_false]at m;rcases m with rfl|rfl|rfl
   .show lst h' _ D out cc p1 g
   .show k2 P _ (Ne.symm adX) hp
   .refine VF ?_;let#[c0,oc,vs,tq,e,qA,rr]:=cr;cases e;show#[c',oc,vs,tq,rfl,k2 _ _ cL qA,rr]
end L2
namespace L2.DL
open PySem.W

noncomputable def QH (i:Int):D->Option Int
 |.tup l=>(match l[i.toNat]? with|some (.int k)=>ae k|_=>ag)
 |_=>ag
def keysAt (i:Int):List D->Option (List<|D×Int)
 |[]=>ae []
 |d::l=>(QH i d).bind λk=>(keysAt i l).map λt=>(d,k)::t
noncomputable def sortBy (ks:List<|D×Int):List D:=(ks.mergeSort λa b=>decide (a.2<=b.2)).map (·.1)
def Ih (bo:Bool) (P:aq) (pos:Pos) (q:Str) (i:Int) (m:DE W):DE W:=λenv bx=>fC (m env bx) λx bx1=>match bN bx1 x with
 | some (.lst l)=>(match keysAt i l,bx1[0]? with
   |some ks,ae (Bx.tb P' pos' q')=>if l.length<64 /\ 0<=i /\ (ks.map (·.2)).Nodup /\ P'=P /\ pos'=pos /\ q'=q then cq bo (ae<|.lst<|sortBy ks) bx1 else .bad
   |_,_=>.bad)
 |_=>.bad
theorem LU:∀ {l}{ks}{vs},keysAt i l=ae ks->aE F l vs->∃ rows:List (aq×List V×Int),vs=rows.map (λr=>V.ref r.1) /\ (∀ r∈rows,F r.1=ae (.tup r.2.1) /\ r.2.1[i.toNat]?=ae (.int r.2.2)) /\ Paired (λ(p) (r)=>p.2=r.2.2 /\ Den F p.1 (.ref r.1)) ks rows:=by
 intro l;induction l with
 |nil=>intro ks vs e h;cases e;cases (h);show#[[],rfl,λ_ m=>(nomatch m),.nil]
 |cons d l ih=>
   intro ks vs e h;let#[k,e1,e2]:=Option.bind_eq_some_iff.mp e;let#[t,e3,rfl]:=Option.map_eq_some_iff.mp e2;let#[v,yD,rfl,h1,h2]:=h;let#[rows,rfl,a,b]:=ih e3 h2;unfold QH at e1;split at e1
   .split at e1
    .ext k' ek;cases e1;let#[p,ws,rfl,f1,f2]:=id h1;let#[w,ew,dw]:=f2.get ek;cases (dw);refine#[(p,ws,k)::rows,rfl,λr m=>?_,.cons #[rfl,h1] b];rcases ba.mp m with rfl|m
     .show#[f1,ew]
     .show a r m
    .cases e1
   .cases e1
theorem BS:∀ {l}{m}{i:Nat}{a},Paired R l m->l[i]?=ae a->∃ b,m[i]?=ae b /\ R a b
 |_,_,_,_,.nil,e=>by simp at e
 |_,_,0,_,.cons r _,e=>by simp at e;subst e;show#[_,rfl,r]
 | _,_,i+1,a,.cons _ t,e=>by
   let#[b,e1,e2]:=BS t (by simpa using e);show#[b,by simpa using e1,e2]
theorem Uo {l:List (D×Int)}(nd:(l.map (·.2)).Nodup) (ma:a∈l) (mb:b∈l) (e:a.2=b.2):a=b:=by
 induction l with
 |nil=>cases ma
 |cons x l ih=>
   rw[aM,rY]at nd;rcases ba.mp ma with h1|h1
   .rcases ba.mp mb with h2|h2
    .rw[h1,h2]
    .show absurd (a9.mpr #[b,h2,by rw[<-e,h1]]) nd.1
   .rcases ba.mp mb with h2|h2
    .show absurd (a9.mpr #[a,h1,by rw[e,h2]]) nd.1
    .show ih nd.2 h1 h2
theorem FM:∀ {l:List α}{m m':List β},Paired R l m->m'.Perm m->∃ l',l'.Perm l /\ Paired R l' m':=by
 intro l m m' h p;induction p generalizing l with
 |nil=>cases h;show#[[],.nil,.nil]
 |cons x p ih=>
   cases h with
   |cons a t=>
     let#[l',q,t']:=ih t;show#[_::l',q.cons _,.cons a t']
 |swap x y l0=>
   cases h with
   |cons a t=>
     cases t with
     |cons b t=>show#[_::_::_,.swap ..,.cons b<|.cons a t]
 |trans p1 p2 HK HL=>
   let#[l1,q1,t1]:=HL h;let#[l2,q2,t2]:=HK t1;show#[l2,q2.trans q1,t2]
theorem CJ {out:List (aq×List V×Int)}(nd:(ks.map (·.2)).Nodup) (h:Paired (λ(p) (r)=>p.2=r.2.2 /\ Den F p.1 (.ref r.1)) ks rows) (p:out.Perm rows) (o:out.Pairwise λa b=>a.2.2<=b.2.2):aE F (sortBy ks) (out.map λr=>V.ref r.1):=by
 let#[l,q,t]:=FM h p;have ol:l.Pairwise λa b=>a.2<=b.2:=by
  have:∀ {l:List (D×Int)}{out:List (aq×List V×Int)},Paired (λ(p) (r)=>p.2=r.2.2 /\ Den F p.1 (.ref r.1)) l out->out.Pairwise (λa b=>a.2.2<=b.2.2)->l.Pairwise λa b=>a.2<=b.2:=by
   intro l out t;induction t with
   |nil=>intro _;show .nil
   |@cons a b l m Y2 t ih=>
     intro o;rw[List.pairwise_cons]at o ⊢;refine#[λx mx=>?_,ih o.2];let#[j,hj]:=List.mem_iff_getElem?.mp mx;let#[y,hy,e]:=BS t hj;rw[Y2.1,e.1];show o.1 y<|tM hy
  show this t o
 have e:l=ks.mergeSort λa b=>decide (a.2<=b.2):=by
  refine afc (λa b ma mb x y=>(Uo nd (q.mem_iff.mp ma) ((EG ks _).mem_iff.mp mb)<|abd x y)) ol ?_<|q.trans (EG ks _).symm
  .have:=IM (le:=λa b:D×Int=>decide (a.2<=b.2)) (λa b c x y=>by lia) (λa b=>by lia) ks;show this.imp λh=>of_decide_eq_true h
 unfold sortBy;rw[<-e];clear e ol q o p h nd;induction t with
 |nil=>rfl
 |cons Y2 t ih=>show#[_,_,rfl,Y2.2,ih]
theorem LV (bo) (Y:Y0 X params x px py pz i n scope c P) (hg:Gl X "sorted") (hm:X.mg "sorted"=ag) (ho:PD X T Z o ma) (hs:b9 o=ah) :
 PD X T Z (.Call (.Name "sorted" p) [o] [#[ae "key",.Lambda params (.Subscript (.Name x px) (.Constant (.int i) n py) pz) scope nK,kp]] pos) (Ih bo P nK (X.env.qual ++ "<lambda>") i ma):=by
 refine PE.imp (LS Y hg hm (gU ho i5<|fE hs [] X.env)<|fE hs [] X.env) λσ H Q=>bK λF r env bx R h=>#[F,r,env,bx,R,End.bind h λw bx1 F1 r1 v H1 g1 R1 d1 h1=>?_];split at h1
 case h_2=>show h1.elim
 ext l el;split at h1
 case h_2=>show h1.elim
 ext ks P' pos' q' ek eb;split at h1
 case isFalse=>show h1.elim
 ext hc;let#[dR,i0,nd,rfl,rfl,rfl]:=hc;let#[a,vs,rfl,ha,dl]:=R1.rD d1 el;let#[rows,rfl,hr,pr]:=LU ek dl;have hz:0<r1.length:=by rw[R1.len];show(List.getElem?_eq_some_iff.mp eb).1
 have er:=dO hz;let#[eP,fP,ps,hP,ht,Y1]:=R1.box 0 _ _ eb er;subst eP;have lr:rows.length=l.length:=by rw[<-aK,<-dl.length]
 refine#[a,rows,ps,rfl,.of ha,by lia,i0,λr m=>#[R1.fh _ _ (hr r m).1,(hr r m).2],hP,ht,λcv e=>?_,λout l0 p1 p2 hl=>#[λ_=>(gN R1 h1 #[l0,_,rfl,hl,rfl,CJ nd pr p1 p2]),λhn c' ad0 hZ Yu=>?_]]
 .let#[c',e1,e2]:=Y1 cv e;show#[c',e1,R1.fh _ _ e2]
 .have g2:=R1.uN (o:=wW c'<|X.env.qual ++ "<lambda>") ad0;have fc:upd F1 c' (wW c'<|X.env.qual ++ "<lambda>") r1[0]=ag:=by rw[fA<|Ne.symm Yu];show fP
  have R3:=(R1.yF (o:=wW c'<|X.env.qual ++ "<lambda>") ad0).write (o:=.hO<|ps++(List.toArray [rawInt pos'.line,rawInt pos'.col,.ref c'])) (c:=.tb r1[0] pos'<|X.env.qual ++ "<lambda>") er fc #[rfl,fc,_,fw,?_,λcv e=>?_]
  .rw[show bx1.set 0 (.tb r1[0] pos'<|X.env.qual ++ "<lambda>")=bx1 from(by let#[Qx,ah5]:=List.getElem?_eq_some_iff.mp eb;rw[<-ah5];show List.set_getElem_self Qx)]at R3;show gN R3 (End.weak g2 h1) #[l0,_,rfl,by rw[fA (λz=>by rw[z,hP]at hl;cases hl),fA<|Ne.symm hZ];show hl,rfl,aE.mono g2.s _<|CJ nd pr p1 p2]
  .rw[Xa];show TriplesOk_snoc _ _ _ _ ht
  .rw[Xa,show ((List.toArray [rawInt pos'.line,rawInt pos'.col,Value.ref c'])).toList=[rawInt pos'.line,rawInt pos'.col,.ref c'] from rfl,codeAmong_snoc _ ht hn]at e;cases e;show#[c',rfl,fw]
end L2.DL
namespace HT
open PySem.W

end HT
namespace L2
open PySem.W

end L2
namespace L2.DL
open PySem.W

end L2.DL
namespace HT
open PySem.W

end HT
namespace L2
open PySem.W

theorem GF (h:Pairs (kM P w) es xs):es.map (·.val)=xs.map (·.2):=by
 induction h with
 |nil=>rfl
 |cons _ h2 _ ih=>rw[aM,aM,ih,h2]
theorem Rg {xs:List (Key×ay)}(r:KV aj xs):Vals (aj.map (·.2)) (xs.map (·.2)):=by
 induction r with
 |nil=>show .nil
 |cons h t ih=>show .cons h.2 ih

def ah6 (td:TE):TE:=λσ H Q=>td σ H λx H1=>∃ a aj,x=.ref a /\ H1 a=ae (.dK aj) /\ ∀ l,H1 l=ag->Q (.ref l) (upd H1 l (.lst (aj.map (·.2))))
theorem N1 (hc:X.calm=ah) (hg:Gl X "list") (hm:X.mg "list"=ag) (ho:PE X o td) (hb:attributeBase o "values" X.env (eval o X.env)=eval o X.env) (hl:(apos.endLine==kY.line)=ah) :
 PE X (.Call (.Name "list" p) [.Call (.Attribute o "values" apos) [] [] kY] [] pos) (ah6 td):=by
 intro pins s σ H Q I h;refine tJ<|iI I hg hm (by decide +kernel:bootBuiltins "list"=ae (.type "list")) ?_ zd zd;refine callWith_type1 ?_ (DL.fE zc [] X.env) zc;rw[DL.fE rfl [] X.env];change wpAny _ _ (spliced ((af,eval (.Call (.Attribute o "values" apos) [] [] kY) X.env)::backTo pos (starEach [] X.env))) _ _ s;refine wF<|Wq hb zc hl Xi abF PySem.F.type_dict_values<|br (ho pins s σ H _ I h) λu s1 x H1 I1 rx hh=>?_;let#[a,aj,ex,ea,q1]:=hh;subst ex;obtain rfl:u=Value.ref a:=rx;let#[t1,t2,_]:=F7 I1<|.inl #[aj,.inl ea];refine#[t1,t2,Kj zc<|aeu ?_];let#[zl,hd,xs,rel,dd]:=DP I1.aB ea;let#[ob,es,ep,hq,h2,h3,_,h4,_]:=id dd;refine Eu abF dd.typeIs PySem.F.entry_dict_values (PySem.F.args_dict_values_1 _) (HT.Gm a hd) #[dd.typeIs,?_];have up:∀ b o,s1.heap.get? b=ae o->(s1.heap.push { cls:=.type "dict_values",data:=.fields (List.toArray [.ref a]) }).get? b=ae o:=λb o e=>aU _ e;have I2:Inv X pins σ H1 { s1 with heap:=s1.heap.push { cls:=.type "dict_values",data:=.fields (List.toArray [.ref a]) } }:=I1.kept up;refine wD (kdl_call (HT.Tk (xs.map (·.2)) ep) (I1.ok.hd hc) #[#[_,bF _ zc,rfl,rfl],#[ob,es,up a ob hq,h3,GF h4]] (by rw[aK,<-Paired.length rel];show zl) λh' tk acc c hk hD HS=>?_);have ev:acc.toList=xs.map (·.2):=by
  apply vq;intro j;by_cases hj:j<acc.size
  .have ej:acc[j]?=ae acc[j]:=by simp
   rw[qw,ej];show(HS.2 j _ ej).symm
  .have h3:=HS.1;rw[qw,EM za,qZ za]
 show#[.ref _,_,(I2.laid (t':=tk) (o:=.lst (aj.map (·.2))) (λb u e=>hk b u e) (aC _) #[by rw[aK];show zl,acc.toList,c,(by rw[ev];show Rg rel),by simpa using hD]),rfl,q1 _<|I2.aB.fresh<|aC _]
end L2
namespace L2.DL
open PySem.W

theorem aO.vals:∀ {l}{r},aO F l r->aE F (l.map (·.2)) (r.map (·.2))
 |[],_,h=>by cases (h);rfl
 | (k,d)::l,_,h=>by
   let#[v,t,rfl,h1,h2]:=h;show#[v,_,rfl,h1,aO.vals h2]
def QI (bo:Bool) (m:DE W):DE W:=λenv bx=>fC (m env bx) λx bx1=>match x with
 | .b n=>(match bx1[n]? with
   |some (.au l)=>cq bo (ae (.lst (l.map (·.2)))) bx1
   |_=>.bad)
 |_=>.bad
theorem FN (s:Sub F H):∀ {ds}{vs},K0 F H ds vs->aE H ds vs
 |[],_,h=>h
 | d::ds,_,⟨v,t,e,h1,h2⟩=>by
   let#[F',s',d']:=G2 s h1;show#[v,t,e,Den.mono s' d d',FN s h2]
def vf (k:DE<|List W):DE W:=λenv bx=>fC (k env bx) λws bx1=>match d7 bx1 ws with
 |some ds=>if rL (.tup ds)=ah /\ ds.length<=sizeLine then .val (.d<|.str (toPy<|.tup ds).shown) bx1 else .bad
 |none=>.bad

end L2.DL
namespace K31
open L2 L2.DL
noncomputable section
abbrev Y3:aA:=(fu (eE 10 5<|fe (d2 af f8 (dC<|.int 3)<|fq K1.fm 2<|fe (dV 0)<|fe (dV 2) fj)<|fe (fq K1.fm 2<|fe (dV 0)<|fe (dV 4) fj) fj)<|uu (dV 3) (d2 af ak (gR af<|fe (fN<|fe (dV 10)<|fe (dC<|.str "out")<|fe (dV 5) fj)<|fe (fN<|fe (dV 10)<|fe (dC<|.str "to")<|fe (dV 5)<|fe (fq K1.fm 2<|fe (dV 0)<|fe (dN af cY<|fe (d2 af ak (dV 1) ze) fj) fj) fj) fj)<|d2 af sH (fq K1.fm 2<|fe (dV 0)<|fe (dC<|.int 4) fj)<|dC<|.int 3)<|dC<|.bl ah)
abbrev ad1:aA:=(fu (fI (d2 af ak (gR af<|fe (dC<|.int 3)<|fe (fq K1.fm 2<|fe (dV 0)<|fe (dC<|.int 9) fj)<|fe (fq K1.fm 2<|fe (dV 0)<|fe (dC<|.int 30) fj) fj)<|fq K1.fm 2<|fe (dV 0)<|fe (dC<|.int 3) fj)<|fg 6)<|fu (eE 7 8<|fe (fq K1.fm 2<|fe (dV 0)<|fe (dN af cY<|fe (d2 af ak (dV 1) zf) fj) fj)<|fe (fq K1.fm 2<|fe (dV 0)<|fe (dN af cY<|fe (d2 af ak (dV 1) ze) fj) fj) fj)<|uu (dV 3) (fN<|fe (fq K1.fm 2<|fe (dV 0)<|fe (dC<|.int 6) fj)<|fe (dC<|.str "in")<|fe (dV 5)<|fe (dV 7)<|fe (dV 8)<|fe (dV 6)<|fe (fq K1.fm 2<|fe (dV 0)<|fe (dC<|.int 9) fj) fj)<|dC<|.bl ah)
def FO:aA:=(fu (eE 3 4<|fe uZ<|fe (d2 af f8 (dC<|.int 2)<|fq K1.fm 2<|fe (dV 0)<|fe (dC<|.int 7) fj) fj)<|fu (ic (d8<|fe (dV 4) fj) (fg 5) ad1)<|fu (ic (d8<|fe (fq K1.fm 2<|fe (dV 0)<|fe (dC<|.int 8) fj) fj) (fg 9) Y3)<|fJ<|fq aI.jW 2<|fe (dV 0)<|fe (Qp af<|dV 3) fj)
def lg:List W->List Bx->O W:=aY 11<|aQ FO
abbrev QJ:aA:=(fu (eE 9 10<|fe (d2 af ak (dV 7) ze)<|fe (d2 af ak (dV 7)<|dC<|.int 2) fj)<|fu (eE 11 12<|fe (d2 af ak (cG (dV 8)<|dV 10) ze)<|fe (fq uA.g9 5<|fe (dV 0)<|fe (dV 1)<|fe (dV 3)<|fe (dV 10)<|fe (dV 9) fj) fj)<|fu (fI (uq af [ag,ae 8,ae 11] 8 (fg 0) (dB<|d2 af aW (d2 af ak (cG (dV 1)<|dV 0) ze)<|dV 2)<|dV 0)<|fg 13)<|fu (fI (fO af [ag,ae 0,ae 1,ae 3,ae 9] (bG<|dV 13) (fg 0) fR<|fN<|fe (d2 af c9 ze<|fq uA.g9 5<|fe (dV 1)<|fe (dV 2)<|fe (dV 3)<|fe (dV 0)<|fe (dV 4) fj)<|fe (dV 0) fj)<|fg 14)<|fu (fI (dN af dg<|fe (fO af [ag,ae 12] (bG<|dV 14) (fg 0) (dB<|d2 af nW (d2 af c9 ze<|d2 af ak (dV 0) ze)<|dV 1)<|dV 0) fj)<|fg 15)<|fu (aV (dB<|d2 af kZ (dV 15)<|gR af fj) (gz<|nC (dV 5)<|fN<|fe (dV 7)<|fe (d2 af ak (d2 af ak (dV 15) ze) zf) fj) bc)<|aV (dB<|d2 af pZ (dV 12)<|d2 af ak (d2 af ak (d2 af ak (dV 0) zf)<|dV 11) ze) (gz<|nC (dV 6)<|dV 10) bc)
def AC:aA:=(fu (eE 3 4<|fe (fq aI.lM 2<|fe (dV 0)<|fe (dV 2) fj)<|fe (xt [("there",1),("came",1),("gone",1),("doors",2)]) fj)<|fu (eE 5 6<|fe (gR ah fj)<|fe (gR ah fj) fj)<|fu (ic (bG<|dN af dg<|fe (dV 2) fj) (fg 7)<|fu (fI (u5 ah<|cb (dV 4) "there")<|fg 8)<|aV (pV (dB<|d2 af aW (fq aI.gm 3<|fe (dV 0)<|fe (dV 4)<|fe (dV 7) fj)<|dC<|.str "takes")<|dB<|d2 af aW (d2 af ak (dV 7) zf)<|dC<|.str "out") QJ bc)<|fJ<|fN<|fe (sQ 5)<|fe (dN af dg<|fe (dV 6) fj) fj)
def iZ:List W->List Bx->O W:=aY 16<|aQ AC
abbrev Y4:aA:=(aV (dB<|d2 af aW (d2 af ak (dV 9)<|dC<|.int 3)<|d2 af ak (dV 4)<|dC<|.int 3) (fu (fI (fq bw.gF 5<|fe (dV 0)<|fe (dV 1)<|fe (dV 2)<|fe (dV 9)<|fe (dV 5) fj)<|fg 10)<|aV (dB<|d2 af nW (dV 10)<|dV 8) (eE 7 8<|fe (d2 af ak (dV 9)<|dC<|.int 2)<|fe (dV 10) fj) bc) bc)
def GG:aA:=(fu (fI (fq bw.gF 5<|fe (dV 0)<|fe (dV 1)<|fe (dV 2)<|fe (dV 4)<|fe (dV 5) fj)<|fg 6)<|fu (eE 7 8<|fe (dC .az)<|fe (dV 6) fj)<|fu (ic (bG<|Ih af 294 #[214,38,214,58] "elder_of.<locals>.<lambda>" 2<|dV 3) (fg 9) Y4)<|fJ<|dV 7)
def jo:List W->List Bx->O W:=aY 11<|aQ GG
abbrev ad2:aA:=(fu (aV (dB<|d2 af aW (d2 af ak (dV 6) zf)<|dC<|.str "in") (qj (dV 5) (d2 af ak (dV 6)<|dC<|.int 2)<|dV 6) bc)<|aV (dB<|d2 af aW (d2 af ak (dV 6) zf)<|dC<|.str "out") (fu (fI (yX (dV 5)<|d2 af ak (dV 6)<|dC<|.int 2)<|fg 9)<|fu (fI (fq K31.jo 6<|fe (dV 0)<|fe (dV 1)<|fe (dV 3)<|fe (QI af<|dV 5)<|fe (dV 9)<|fe (d2 af ak (dV 6) ze) fj)<|fg 10)<|aV (dB<|uk ah<|dV 10) (gz<|nC (dV 4)<|fN<|fe (dV 6)<|fe (dV 10) fj) bc) bc)
def Rh:aA:=(fu (gz<|fq bw.iU 2<|fe (dV 0)<|fe (dV 1) fj)<|fu (gz<|fq aI.iE 2<|fe (dV 0)<|fe (dV 2) fj)<|fu (fI (fq cA.ip 2<|fe (dV 0)<|fe (dV 2) fj)<|fg 3)<|fu (fI (gR ah fj)<|fg 4)<|fu (fI (pI ah [])<|fg 5)<|fu (ic (bG<|dV 3) tG ad2)<|fJ<|dV 4)
def BU:List W->List Bx->O W:=aY 11<|aQ Rh
abbrev Y5:aA:=(aV (dB<|d2 af aW (d2 af ak (dV 5) zf)<|dC<|.str "out") (fu (fI (fq bw.iV 2<|fe (dV 3)<|fe (d2 af ak (dV 5)<|dC<|.int 2) fj)<|fg 8)<|aV (dB<|d2 af pZ (fq bw.gF 5<|fe (dV 0)<|fe (dV 1)<|fe (dV 3)<|fe (dV 8)<|fe (d2 af ak (dV 5) ze) fj)<|fq bw.iG 2<|fe (dV 0)<|fe (dV 8) fj) (gz<|nC (dV 4)<|d2 af ak (dV 5)<|dC<|.int 2) bc) bc)
def N2:aA:=(fu (gz<|fq bw.iU 2<|fe (dV 0)<|fe (dV 1) fj)<|fu (gz<|fq aI.iE 2<|fe (dV 0)<|fe (dV 2) fj)<|fu (fI (fq cA.ip 2<|fe (dV 0)<|fe (dV 2) fj)<|fg 3)<|fu (fI (gR ah fj)<|fg 4)<|fu (ic (bG<|dV 3) Qt Y5)<|fJ<|dN ah dg<|fe (dV 4) fj)
def Ak:List W->List Bx->O W:=aY 9<|aQ N2
abbrev ez:aA:=(fu (gz<|nC (dV 13)<|fN<|fe (fN<|fe ze<|fe (dC<|.str "out")<|fe ze fj)<|fe zf fj)<|gz<|yZ (dV 14) ze<|dC<|.int 9)
abbrev Y6:aA:=(fu (eE 13 14<|fe (fq K31.BU 3<|fe (dV 4)<|fe (dV 7)<|fe (dV 8) fj)<|fe (fq K31.Ak 3<|fe (dV 4)<|fe (dV 7)<|fe (dV 8) fj) fj)<|fu (aV (qH (dB<|d2 af kZ (vf<|fe (dV 13)<|fe (dV 14) fj)<|yM<|dV 10)<|dB<|d2 af kZ (vf<|fe (dV 4)<|fe (dV 7)<|fe (dV 8) fj)<|dV 11) (fJ<|dC<|.bl af) bc) ez)
abbrev Y7:aA:=(fu (fI (fq K31.lg 3<|fe (dV 2)<|fe (dV 4)<|fe (d2 af ak (gR af<|fe (dC<|.int 6)<|fe (dC<|.int 30) fj)<|fq K1.fm 2<|fe (dV 2)<|fe (dC<|.int 2) fj) fj)<|fg 6)<|fu (fI (fq K2.mU 3<|fe (dV 2)<|fe (fq K2.lH 2<|fe (dV 2)<|fe (dC<|.int 12) fj)<|fe (dV 6) fj)<|gC 3<|fH (fg 7)<|fH (fg 8)<|fH (fg 9) gE)<|fu (eE 10 11<|fe (fq K31.iZ 3<|fe (dV 4)<|fe (dV 7)<|fe (dV 8) fj)<|fe (vf<|fe (dV 4)<|fe (dV 7)<|fe (dV 8) fj) fj)<|ic (d8<|fe (dC<|.int 2) fj) (fg 12) Y6)
def Sh:aA:=(fu (ic (d8<|fe (dN af maxD<|fe zf<|fe (dN af minD<|fe (vU<|dV 0)<|fe (dC<|.int 4) fj) fj) fj) (fg 1)<|fu (fI (fq K1.jT 1<|fe (fq K1.ig 2<|fe (dV 0)<|fe (dV 1) fj) fj)<|fg 2)<|fu (fI (fq aI.iS 1<|fe (dV 2) fj)<|fg 3)<|fu (fI (fN<|fe (d2 af ak (dV 3) ze)<|fe (p9 af (d2 af ak (dV 3) zf) qJ<|p8<|d2 af f8 zf<|fq K1.fm 2<|fe (dV 2)<|fe (dC<|.int 2) fj)<|fe (fN fj)<|fe (d2 af ak (dV 3)<|dC<|.int 3) fj)<|fg 4)<|ic (d8<|fe (dC<|.int 3) fj) (fg 5) Y7)<|fJ<|dC<|.bl ah)
def Dv:List W->List Bx->O W:=aY 15<|aQ Sh
end
open HT K1 K2 dz bS aI cA bw uA
abbrev wP (g:Pg):Int×Pg:=(ax g,g)
def wt (W:List Pg):Pg->List Pg
 |.aG h l k r p w=>W++[.aG h l k r p w]
 |.to ..=>W
 |.out _ l=>W.filter λg=>decide (ax g≠l)
structure Wi (ps:Al) (tk:List Pg) (K R:Al) (W q2:List Pg):zm where
 k:R.map (·.1)=W.map ax
 i:∀ g∈W,isIn g=ah /\ look K (ax g)=ae (cT g) /\ tk.find? (k8<|ax g)=ae g
 p:∃ pre,tk=pre++taken ps K R q2 /\ ∀ x∈pre,isIn x=ah->(look K<|ax x).isSome=ah
section
variable {K R:Al} {W:List Pg}
theorem N3 (h:(R.any λq=>decide (q.1=l))=ah):(put R l r).map (·.1)=R.map (·.1):=by
 unfold put;rw[if_pos h,bB];refine rf λq _=>?_;change (if q.1=l then (q.1,r) else q).1=q.1;split<;>rfl
theorem Wi.skip (I:Wi ps tk K R W (g::q2)) (h:¬ word ps K R g="takes"):Wi ps tk K R W q2:=
 #[I.k,I.i,by
  let#[pre,e,a]:=I.p;refine#[pre,e.trans ?_,a];rw[show taken ps K R (g::q2)=taken ps K R q2 from if_neg h]]
theorem Wi.step (I:Wi ps tk K R W (g::q2)) (J:c5 K R n) (h:word ps K R g="takes"):Wi ps tk (stK K g) (eO R g) (wt W g) q2:=by
 let#[pre,e,a]:=I.p;rw[show taken ps K R (g::q2)=g::taken ps (stK K g) (eO R g) q2 from if_pos h]at e;have e2:tk=(pre++[g])++taken ps (stK K g) (eO R g) q2:=by rw[e];simp
 cases g with
 |aG h' l k r p w=>
   have hl:look K l=ag:=by
    cases c:look K l with
    |none=>rfl
    |some v=>rw[show word ps K R (.aG h' l k r p w)="there" by simp[word,c]]at h;show absurd h zd
   have nR:l∉R.map (·.1):=λm=>by
    let#[q,mq,eq]:=a9.mp m;have:=J.sub q mq;rw[eq,hl]at this;cases this
   have aR:(R.any λq=>decide (q.1=l))=af:=by
    rw[EE];intro q m z;show nR<|a9.mpr #[q,m,of_decide_eq_true z]
   refine#[?_,λx m=>?_,pre++[.aG h' l k r p w],e2,λx m hx=>?_]
   .change (put R l r).map (·.1)=(W++[_]).map ax;unfold put;rw[aR,if_neg zd,pO,pO,I.k];rfl
   .rcases List.mem_append.mp m with m|m
    .let#[i1,i2,i3]:=I.i x m;refine#[i1,?_,i3];change look (put K l k) (ax x)=_;rw[jG,if_neg (λz=>by rw[z,hl]at i2;cases i2)];show i2
    .rw[di.mp m];refine#[rfl,?_,?_]
     .change look (put K l k) l=ae k;rw[jG,if_pos rfl]
     .rw[e,IV,IZ.mpr λx mx z=>?_]
      .change (List.find? _ (Pg.aG h' l k r p w::_))=_;rw[rW,show k8 (ax<|.aG h' l k r p w) (.aG h' l k r p w)=ah by simp[isIn]]
      .have z:(isIn x&&decide (ax x=l))=ah:=z;rw[aF]at z;have:=a x mx z.1;rw[of_decide_eq_true z.2,hl]at this;cases this
   .change (look (put K l k)<|ax x).isSome=ah;rw[jG];split
    .rfl
    .ext c;rcases List.mem_append.mp m with m|m
     .show a x m hx
     .show absurd (by rw[di.mp m];rfl) c
 |to h' l r=>
   have c:(R.any λq=>decide (q.1=l))=ah:=by
    cases c:look R l with
    |none=>rw[show word ps K R (.to h' l r)="none" by simp[word,c]]at h;show absurd h zd
    |some v=>
      let#[q,m,e]:=jD c;show kB.mpr #[q,m,decide_eq_true e]
   show#[(N3 c).trans I.k,I.i,pre++[_],e2,λx m hx=>(List.mem_append.mp m).elim (λm=>a x m hx) λm=>by rw[di.mp m]at hx;cases hx]
 |out h' l=>
   refine#[?_,λx m=>I.i x (cX.mp m).1,pre++[_],e2,λx m hx=>(List.mem_append.mp m).elim (λm=>a x m hx) λm=>by rw[di.mp m]at hx;cases hx];change (R.filter λq=>decide (q.1≠l)).map (·.1)=(W.filter λg=>decide (ax g≠l)).map ax;have:=congrArg (List.filter λx=>decide (x≠l)) I.k;rw[wB,wB]at this;show this
theorem Wi.there (I:Wi ps tk K R W q2) (e:word ps K R (.out h l)="takes"):∃ g∈W,ax g=l:=by
 cases c:look R l with
 |none=>rw[show word ps K R _="none" by simp[word,c]]at e;show absurd e zd
 |some v=>
   let#[q,m,eq]:=jD c;have:l∈W.map ax:=by rw[<-I.k];show a9.mpr #[q,m,eq]
   show a9.mp this
theorem Wi.nd (I:Wi ps tk K R W q2) (J:c5 K R n):(W.map ax).Nodup:=by rw[<-I.k];show J.nd
theorem Y8:Wi ps (taken ps [] [] qs) [] [] [] qs:=#[rfl,(λ_ m=>nomatch m),[],rfl,λ_ m=>nomatch m]
end
def qN (f:Pg->Int) (k:Int):Option Int×Int->List Pg->Option Int×Int
 |s,[]=>s
 |s,g::r=>qN f k (if cT g=k /\ s.2<f g then (ae<|ax g,f g) else s) r
abbrev kG (k:Int) (S:List Pg):List Pg:=S.filter λg=>decide (cT g=k)
theorem l7 (f) (k):∀ (W) (s),((∀ g∈kG k W,f g<=s.2) /\ qN f k s W=s) \/
 ∃ T1 g T2,kG k W=T1++g::T2 /\ qN f k s W=(ae<|ax g,f g) /\ s.2<f g /\ (∀ x∈T1,f x<f g) /\ ∀ x∈T2,f x<=f g
 |[],s=>.inl #[λ_ m=>(nomatch m),rfl]
 | g::W,s=>by
   by_cases c:cT g=k
   .have ef:kG k (g::W)=g::kG k W:=by unfold kG;rw[yc,if_pos<|decide_eq_true c]
    rw[ef];unfold qN;by_cases d:s.2<f g
    .rw[if_pos #[c,d]];rcases l7 f k W (ae _,f g) with⟨a,e⟩|⟨T1,y,T2,e1,e2,e3,e4,e5⟩
     .show .inr #[[],g,kG k W,rfl,e,d,λ_ m=>(nomatch m),a]
     .refine .inr #[g::T1,y,T2,by rw[e1];rfl,e2,by lia,λx m=>?_,e5];rcases ba.mp m with rfl|m
      .show e3
      .show e4 x m
    .rw[if_neg λz=>d z.2];rcases l7 f k W s with⟨a,e⟩|⟨T1,y,T2,e1,e2,e3,e4,e5⟩
     .refine .inl #[λx m=>?_,e];rcases ba.mp m with rfl|m
      .lia
      .show a x m
     .refine .inr #[g::T1,y,T2,by rw[e1];rfl,e2,e3,λx m=>?_,e5];rcases ba.mp m with rfl|m
      .lia
      .show e4 x m
   .have ef:kG k (g::W)=kG k W:=by unfold kG;rw[yc,if_neg (by simpa using c)]
    rw[ef];unfold qN;rw[if_neg λz=>c z.1];show l7 f k W s
def uB (S:List Pg):List Pg:=S.mergeSort λa b=>decide (ax a<=ax b)
theorem l8 (S):(uB S).Perm S:=EG S _
theorem Uq (nd:(S.map ax).Nodup):(uB S).Pairwise λa b=>ax a<ax b:=by
 refine List.Pairwise.imp₂ (λ{a b} (x) (y)=>?_) (IM (le:=λa b:Pg=>decide _) (λa b c h1 h2=>by lia) (λa b=>by lia) S)<|rX.mp<|((l8 S).map _).nodup_iff.mpr nd;lia
noncomputable abbrev qO:Bx:=.tb 294 #[214,38,214,58] "elder_of.<locals>.<lambda>"
theorem LW:∀ S:List Pg,keysAt 2 (S.map enc)=ae (S.map λg=>(enc g,ax g)):=by
 intro l_;induction l_ with
 |nil=>show rfl
 |cons g S bV=>
   change (QH 2 _).bind _=_;rw[show QH 2 _=ae (ax g) by cases g<;>rfl,bT];rw[bV];rfl
section
variable {St:D}
theorem N4 (hm:m env B=.val (.d<|.lst<|S.map enc) B) (tb:B[0]?=ae qO) (nd:(S.map ax).Nodup) (l:S.length<=16):Ih af 294 #[214,38,214,58] "elder_of.<locals>.<lambda>" 2 m env B=.val (.d<|.lst<|(uB S).map enc) B:=by
 unfold Ih;rw[hm,fM];erw[bN,LW,tb];rw[if_pos (by refine#[by rw[aK];lia,by decide,by rw[bB];show nd,?_];simp),ir,jj];congr 3;unfold sortBy uB;rw[<-List.map_mergeSort (r:=λa b=>decide _) λa _ b _=>rfl,bB];rfl
theorem Ri (hg:isIn g=ah) (h:env[i]?=ae (ae<|.d<|enc g)):d2 af ak (dV i) (dC<|.int 3) env B=.val (.d<|.int<|cT g) B:=
 fF (r:=.old _) (by rw[iO,h]) zc (by cases g with|aG=>rfl|_=>cases hg)
abbrev Rf (f:Pg->Int) (H Ou St:D) (h:Int) (B:List Bx) (g:Pg):zm:=isIn g=ah /\ bw.gF [.d H,.d Ou,.d St,.d<|enc g,.d<|.int h] B=.val (.d<|.int<|f g) B
theorem BV (r0:Rf f H Ou St h B g0) (x3 x6):∀ (T) (s) (w9 vg),(∀ g∈T,Rf f H Ou St h B g) ->
 ∃ y9 bL,bR (fg 9) Y4 ((T.map enc).map W.d) [ae<|.d H,ae<|.d Ou,ae<|.d St,x3,ae<|.d<|enc g0,xN h,x6,ae<|.d<|oI s.1,xN s.2,w9,vg] B=.nx [ae<|.d H,ae<|.d Ou,ae<|.d St,x3,ae<|.d<|enc g0,xN h,x6,ae<|.d<|oI (qN f (cT g0) s T).1,ae<|.d<|.int (qN f (cT g0) s T).2,y9,bL] B
 |[],s,w9,vg,_=>#[w9,vg,rfl]
 | g::T,s,w9,vg,hT=>by
   let#[i1,ra]:=hT g<|bA ..;have i0:=r0.1;have ih:=λs w9 vg=>BV r0 x3 x6 T s w9 vg λx m=>hT x<|a8 _ m;change ∃ y9 bL,bR (fg 9) Y4 (W.d (enc g)::(T.map enc).map W.d) _ B=_
   let E:=λ(x7 x8 x9 bh)=>([ae<|.d H,ae<|.d Ou,ae<|.d St,x3,ae<|.d<|enc g0,xN h,x6,x7,x8,x9,bh])
   unfold qN;generalize f g=v at *;by_cases c:cT g=cT g0
   .have t1:∀ {e:bu},e[9]?=ae (ae<|.d<|enc g)->e[4]?=ae (ae<|.d<|enc g0)->dB (d2 af aW (d2 af ak (dV 9)<|dC<|.int 3)<|d2 af ak (dV 4)<|dC<|.int 3) e B=.val ah B:=λa b=>fV<|fF (r:=.old<|.bl ah) (Ri i1 a) (Ri i0 b) (by simp[aW,c]);by_cases d:s.2<v
    .rw[if_pos #[c,d]];let#[y9,bL,e]:=ih (ae<|ax g,v) (ae<|.d<|enc g)<|xN v;refine#[y9,bL,(gj zc ?_).trans e];show(gJ<|t1 zc zc).trans (qS (cV ra)<|(gJ<|fV<|fF (r:=.old<|.bl ah) zc zc (by simp[nW];lia)).trans<|cA.jB<|fi (AB g zc)<|fi zc zc)
    .rw[if_neg λz=>d z.2];let#[y9,bL,e]:=ih s (ae<|.d<|enc g)<|xN v;refine#[y9,bL,(gj zc ?_).trans e];show(gJ<|t1 zc zc).trans (qS (cV ra)<|(gp<|fV<|fF (x:=.int v) (y:=.int s.2) (r:=.old<|.bl af) zc zc (by simp[nW];lia)).trans zc)
   .rw[if_neg λz=>c z.1];let#[y9,bL,e]:=ih s (ae<|.d<|enc g) vg;refine#[y9,bL,(gj (env1:=E (ae<|.d<|oI s.1) (xN s.2) (ae<|.d<|enc g) vg) (bx1:=B) (env2:=E (ae<|.d<|oI s.1) (xN s.2) (ae<|.d<|enc g) vg) (bx2:=B) zc ?_).trans e];show(gp<|fV<|fF (x:=.int<|cT g) (y:=.int<|cT g0) (r:=.old<|.bl af) (Ri i1 zc) (Ri i0 zc) (by simp[aW,c])).trans zc
theorem Rj (r0:Rf f H Ou St h B g0) (hS:∀ g∈S,Rf f H Ou St h B g) (nd:(S.map ax).Nodup) (l:S.length<=16) (tb:B[0]?=ae qO) :
 jo [.d H,.d Ou,.d St,.d<|.lst<|S.map enc,.d<|enc g0,.d<|.int h] B=.val (.d<|oI (qN f (cT g0) (ag,f g0)<|uB S).1) B:=by
 let#[y9,bL,e]:=BV r0 _ _ _ (ag,f g0) ag ag λg m=>hS g<|(l8 S).mem_iff.mp m;show fY<|qS (cV r0.2)<|(fr<|cA.jB<|fi zc<|fi zc zc).trans<|(fr<|(gH<|gf<|N4 zc tb nd l).trans e).trans<|fS zc
end
section
variable {f:Pg -> Int × α} {S:List Pg}
theorem Rm (hf:∀ g,(f g).1=ax g) (h:ax g∉S.map ax):put (S.map f) (ax g) (f g).2=(S++[g]).map f:=by
 unfold put;rw[if_neg,pO]
 .rw[<-hf g];rfl
 .rw[kB];rintro⟨q,m,e⟩;let#[x,mx,rfl]:=a9.mp m;show h (a9.mpr #[x,mx,by rw[<-hf];show of_decide_eq_true e])
theorem Rn (hf:∀ g,(f g).1=ax g):qm (S.map f) l=(S.filter λg=>decide (ax g≠l)).map f:=by
 unfold qm;rw[wB];congr 1;refine aaU λx _=>?_;change decide _=_;rw[hf]
end
def dY (J:List Pg) (l:Int):Pg:=(J.find? λg=>decide (ax g=l)).getD<|.out 0 0
theorem N5 (m:l∈J.map ax):dY J l∈J /\ ax (dY J l)=l:=by
 unfold dY;cases c:J.find? λg=>decide (ax g=l) with
 |none=>
   let#[g,mg,e]:=a9.mp m;show absurd (IZ.mp c g mg) (by simp[e])
 |some y=>show#[EI c,of_decide_eq_true<|IT (p:=λg=>decide (ax g=l)) c]
def pL (fv:Int->Int->Int) (Q:List Pg):Pg->Option Int
 |.out h l=>(qN (λg=>fv (ax g) h) (cT<|dY Q l) (ag,fv (ax<|dY Q l) h)<|uB<|Q.filter λg=>decide (ax g≠l)).1
 |_=>ag
def dA (fv:Int->Int->Int) (ps:Al):Al->Al->List Pg->List Pg->List (Pg×Int)
 |_,_,_,[]=>[]
 |K,R,Q,g::q2=>if word ps K R g="takes" then ((pL fv Q g).map λe=>(g,e)).toList++dA fv ps (stK K g) (eO R g) (wt Q g) q2 else dA fv ps K R Q q2
abbrev c6 (x:Pg×Int):D:=.tup [enc x.1,.int x.2]
abbrev bz (rl:List Int) (hold:Int) (op:Al) (kl:List<|Int×List Int) (ps:Al) (qs:List Pg) (l h:Int):Int:=(Ek rl hold op kl ps qs l h).getD 0
theorem Ur {S:List Pg}(nd:(S.map ax).Nodup) (m:g∈S):((S.map wP).find? λq=>decide (q.1=ax g)).map (·.2)=ae g:=oQ (q:=wP g) (by rw[bB];show nd)<|a9.mpr #[g,m,rfl]
section
variable {S:List Pg}
theorem Ro (Z:Sc rs ks ps hd rl hold kl op gs qs) (c:qp ps qs (ax g)=ae g) (hh:aH g<=h):isIn g=ah /\ Ek rl hold op kl ps qs (ax g) h=ae (bz rl hold op kl ps qs (ax g) h) /\ bw.gF [.d zb,.d zk,.d<|.lst<|(aZ ps [] [] qs).map dS,.d<|enc g,.d<|.int h] B=.val (.d<|.int<|bz rl hold op kl ps qs (ax g) h) B:=by
 let#[h0,k,r,p,w,q,e,Y,_,_]:=JN Z c;have:Ek rl hold op kl ps qs (ax g) h=ae (p+sm (dX rl hold op q.2 ps qs<|ax g) h0 (h-h0).toNat):=by
  unfold Ek;rw[c,e];erw[Y.hq,WQ];rw[if_neg (by rw[e]at hh;have:h0<=h:=hh;lia)]
 refine#[by rw[e];rfl,by unfold bz;rw[this];rfl,?_];unfold bz;rw[this,e];show(Ul (bx:=B) Z.X Z.ol Z.s Z.ok Z.l Y h)
abbrev Bt (B:List Bx) (T:List<|Pg×Int) (S:List Pg):List Bx:=B++[.lst<|T.map c6,.au<|aX enc<|S.map wP]
theorem ad3:(Bt B T S)[B.length]?=ae (.lst<|T.map c6):=by simp
theorem Y9:(Bt B T S)[B.length+1]?=ae (.au<|aX enc<|S.map wP):=by simp
theorem ah7:(Bt B T S).set B.length (.lst<|T'.map c6)=Bt B T' S:=by simp
theorem ad4:(Bt B T S).set (B.length+1) (.au<|aX enc<|S'.map wP)=Bt B T S':=by simp
theorem Us (hm:m env B=.val (.b i) B) (hb:B[i]?=ae (.au<|aX enc<|S.map wP)):QI af m env B=.val (.d<|.lst<|S.map enc) B:=by
 unfold QI;rw[hm,fM];simp[hb];unfold aX;rw[bB,bB];rfl
abbrev tE (H O P St:D) (n:Nat) (x6 x7 x8 x9 bh:Option W):bu:=[ae<|.d H,ae<|.d O,ae<|.d P,ae<|.d St,ae<|.b n,ae<|.b<|n+1,x6,x7,x8,x9,bh]
theorem LX (Z:Sc rs ks ps hd rl hold kl op gs qs) (tb:B[0]?=ae qO) {St}(rT:St=.lst ((aZ ps [] [] qs).map dS)):∀ (q2) (K R) (Q) (T) (n) (x6 x7 x8 x9 bh),c5 K R n->n+q2.length<=16->Wi ps (taken ps [] [] qs) K R Q q2->(∀ g∈Q,∀ x∈q2,aH g<=aH x)->qo q2->T.length+q2.length<=100 ->
 ∃ Q' y6 y7 y8 y9 bL,bR tG ad2 (((aZ ps K R q2).map dS).map W.d) (tE zb zk P St B.length x6 x7 x8 x9 bh) (Bt B T Q)=.nx (tE zb zk P St B.length y6 y7 y8 y9 bL) (Bt B (T++dA (bz rl hold op kl ps qs) ps K R Q q2) Q'):=by
 intro q2;induction q2 with
 |nil=>intro K R Q T n x6 x7 x8 x9 bh _ _ _ _ _ _;show#[Q,x6,x7,x8,x9,bh,by rw[show T++dA (bz rl hold op kl ps qs) ps K R Q []=T from nq T];rfl]
 |cons g q2 Ii=>
   intro K R Q T n x6 x7 x8 x9 bh J hn I hb so hT;rw[bE]at hn hT;have wc:=(List.pairwise_cons.mp so).2;have sz:=bj;unfold aZ dA;by_cases cB:word ps K R g="takes"
   case neg=>
    rw[if_neg cB,if_neg cB];show Ii K R Q T n x6 x7 x8 x9 bh J za (I.skip cB) (λx m y my=>hb x m y<|a8 _ my) wc za
   rw[if_pos cB,if_pos cB];have I':=I.step J cB;have J':=J.step cB;have nd:=I.nd J;have lW:Q.length<=16:=by
    have:=congrArg List.length I.k;rw[aK,aK]at this;have:=J.lr;lia
   have ih:=λT x9 bh hb hT=>Ii (stK K g) (eO R g) (wt Q g) T (n+1) (ae<|.d<|enc g) (ae<|.d<|oI<|look R<|ax g) (ae<|.d<|oI<|nJ g) x9 bh J' za I' hb wc hT;have rp:=λ(B) {x:Pg} (m) (h) (hh:aH x<=h)=>Ro (B:=B) Z (I.i x m).2.2 hh;rw[<-rT]at rp
   let E:=λ(x9 bh)=>tE zb zk P St B.length (ae<|.d<|enc g) (ae<|.d<|oI<|look R<|ax g) (ae<|.d<|oI<|nJ g) x9 bh
   have w:=λ(B)=>JI g (B:=B) (env:=E x9 bh) (i:=6) zc;cases g with
   |aG h' l k r p w'=>
     have ni:l∉Q.map ax:=λm=>by
      have:=I'.nd J';rw[show wt Q (.aG h' l k r p w')=Q++[.aG h' l k r p w'] from rfl,pO,vz]at this;show this.2.2 _ m l (bA ..) zc
     have pu:=BL (B:=Bt B T Q) (i:=B.length+1) (l:=l) (env:=E x9 bh) (v:=dV 6) (m:=dV 5) (k:=d2 af ak (dV 6)<|dC<|.int 2) zc zc (AB (.aG h' l k r p w') zc) Y9 (by rw[aK];lia);rw[show put (Q.map wP) l (.aG h' l k r p w')=(Q++[Pg.aG h' l k r p w']).map wP from Rm (f:=wP) (g:=.aG h' l k r p w') (λ_=>rfl) ni,ad4]at pu;let#[Q',y6,y7,y8,y9,bL,e]:=ih T x9 bh (λx m y my=>by
      rcases List.mem_append.mp m with m|m
      .show hb x m y<|a8 _ my
      .rw[di.mp m];show(List.pairwise_cons.mp so).1 y my) za
     show#[Q',y6,y7,y8,y9,bL,(gj (env1:=E x9 bh) (bx1:=Bt B T Q) zc<|(fr<|(gJ<|w _ "in").trans pu).trans<|(gp<|w _ "out").trans zc).trans e]
   |to h' l r=>
     let#[Q',y6,y7,y8,y9,bL,e]:=ih T x9 bh (λx m y my=>hb x m y<|a8 _ my) za;show#[Q',y6,y7,y8,y9,bL,(gj (env1:=E x9 bh) (bx1:=Bt B T Q) zc<|(fr<|(gp<|w _ "in").trans zc).trans<|(gp<|w _ "out").trans zc).trans e]
   |out h' l=>
     let#[m0,el]:=N5 (J:=Q) (l:=l)<|a9.mpr<|I.there cB;have hW:∀ x∈Q,aH x<=h':=λx m=>hb x m (.out h' l)<|bA ..;have ev:∀ {B2:List Bx},B2[0]?=ae qO->jo [.d zb,.d zk,.d St,.d<|.lst<|(Q.filter λg=>decide (ax g≠l)).map enc,.d<|enc<|dY Q l,.d<|.int h'] B2=.val (.d<|oI<|pL (bz rl hold op kl ps qs) Q<|.out h' l) B2:=λ{B2} t=>
      Rj (f:=λg=>bz rl hold op kl ps qs (ax g) h') #[(rp B2 m0 h'<|hW _ m0).1,(rp B2 m0 h'<|hW _ m0).2.2] (λx m=>#[(rp B2 (cX.mp m).1 h'<|hW _ (cX.mp m).1).1,(rp B2 (cX.mp m).1 h'<|hW _ (cX.mp m).1).2.2]) (nd.sublist<|(IU).map _) (cj (uG ..) lW) t
     have pp:=Nz (e:=enc) (x:=dY Q l) (L:=Q.map wP) (B:=Bt B T Q) (i:=B.length+1) (l:=l) (env:=E x9 bh) (m:=dV 5) (k:=d2 af ak (dV 6)<|dC<|.int 2) zc (AB (.out h' l) zc) Y9 (by have:=Ur nd m0;rw[el]at this;show this);rw[Rn (f:=wP) λ_=>rfl,ad4]at pp;have hr:=xC (.out h' l) (B:=Bt B T<|Q.filter λg=>decide (ax g≠l)) (env:=E (ae<|.d<|enc<|dY Q l) bh) (i:=6) zc;let#[Q',y6,y7,y8,y9,bL,e]:=ih (T++((pL (bz rl hold op kl ps qs) Q<|.out h' l).map λe=>(Pg.out h' l,e)).toList) (ae<|.d<|enc<|dY Q l) (ae<|.d<|oI<|pL (bz rl hold op kl ps qs) Q<|.out h' l) (λx m y my=>hb x (cX.mp m).1 y<|a8 _ my) (by
      rw[cW];cases pL (bz rl hold op kl ps qs) Q (.out h' l)<;>simp<;>lia)
     refine#[Q',y6,y7,y8,y9,bL,(gj (env1:=E x9 bh) (bx1:=Bt B T Q) (env2:=E (ae<|.d<|enc<|dY Q l)<|ae<|.d<|oI<|pL (bz rl hold op kl ps qs) Q<|.out h' l) (bx2:=Bt B (T++((pL (bz rl hold op kl ps qs) Q<|.out h' l).map λe=>(Pg.out h' l,e)).toList)<|Q.filter λg=>decide (ax g≠l)) zc ?_).trans (by rw[nO]at e;show e)];refine(fr<|(gp<|w _ "in").trans zc).trans ((gJ<|w _ "out").trans<|qS pp<|qS (fL (fi zc<|fi zc<|fi zc<|fi (Us zc Y9)<|fi zc<|fi hr zc) zc<|ev<|(λtb=>by
      have:=(List.getElem?_eq_some_iff.mp tb).1;rw[Bt,dZ this];show tb) tb) ?_)
     cases pL (bz rl hold op kl ps qs) Q (.out h' l) with
     |none=>
       rw[show T++(Option.map (λe=>(Pg.out h' l,e)) ag).toList=T from nq _];show(gp<|fV (b:=af) zc).trans zc
     |some y=>
       refine(gJ<|fV (b:=ah) zc).trans ((gK<|lY (i:=B.length) zc ad3 (fX [enc<|.out h' l,.int y] zc zh) ad3 (by rw[aK];lia)).trans ?_);rw[show T.map c6++[D.tup [enc<|.out h' l,.int y]]=(T++[(Pg.out h' l,y)]).map c6 by rw[pO];rfl,ah7];rfl
theorem Rp (Z:Sc rs ks ps hd rl hold kl op gs qs) (tb:B[0]?=ae qO) :
 ∃ Q',BU [.d zb,.d zk,.d<|.lst<|gs.map enc] B=.val (.b B.length) (Bt B (dA (bz rl hold op kl ps qs) ps [] [] [] qs) Q'):=by
 obtain⟨St,rT⟩:∃ St,St=D.lst ((aZ ps [] [] qs).map dS):=#[_,rfl];let#[Q',y6,y7,y8,y9,bL,f]:=LX Z tb rT qs [] [] [] [] 0 ag ag ag ag ag Ec (by have:=Z.l;lia) Y8 (λ_ m=>nomatch m) Z.s (by have:=Z.l;change 0+_<=_;lia);have sv:=JO (bx:=B) Z;have it:∀ {e}{B},e[3]?=ae (ae<|.d St)->bG (dV 3) e B=.val (((aZ ps [] [] qs).map dS).map W.d) B:=λa=>gf (by rw[iO,a,rT]);rw[<-rT]at sv;refine#[Q',Dh<|qE (cV<|NW Z)<|qE (cV<|aI.oN Z.X.H Z.G)<|qS (cV sv)<|qS (jq [] zc<|dJ _)<|qS (by simp[pI,cq,aX])<|(fr<|(gH<|it zc).trans f).trans<|fS zc]
end
def lm (kl:List<|Int×List Int) (g:Pg):Int:=((kl[(cT g).toNat]?).getD (0,[])).1
def Ij (ps:Al) (qs:List Pg) (l:Int):Pg:=(qp ps qs l).getD<|.out 0 0
def k9 (rl:List Int) (hold:Int) (op:Al) (kl:List<|Int×List Int) (ps:Al) (qs:List Pg) (h l:Int):Bool:=decide (lm kl (Ij ps qs l)<=bz rl hold op kl ps qs l h)
noncomputable def qr (F:Int->Int->Bool):Pg->Option Int
 |.out h l=>if F h l then ae l else ag
 |_=>ag

theorem VG (Z:Sc rs ks ps hd rl hold kl op gs qs) (c:qp ps qs (ax g)=ae g):bw.iG [.d zb,.d<|enc g] B=.val (.d<|.int<|lm kl g) B:=by
 let#[h0,k,r,p,w,q,e,Y,_]:=JN Z c;generalize ax g=l at e Y;subst e;have:lm kl (.aG h0 l k r p w)=q.1:=by
  change ((kl[k.toNat]?).getD (0,[])).1=q.1;rw[Y.hq];rfl
 rw[this];show fY<|fS<|fF (r:=.old _) (fF (fF zc zc zc) (fF zc zc zc)<|JJ Z.X Y.k0 Y.hq) zc zc
theorem Am:∀ {q2}{K R}{Q}{n},c5 K R n->Wi ps (taken ps [] [] qs) K R Q q2->(∀ g∈Q,∀ x∈q2,aH g<=aH x)->qo q2->∀ x∈aZ ps K R q2,bZ x.1="out"->∃ g,qp ps qs (ax x.1)=ae g /\ ax g=ax x.1 /\ aH g<=aH x.1
 |[],_,_,_,_,_,_,_,_=>λ_ m=>nomatch m
 | g::q2,K,R,Q,n,J,I,hb,so=>by
   have wc:=(List.pairwise_cons.mp so).2;unfold aZ;by_cases cB:word ps K R g="takes"
   case neg=>
    rw[if_neg cB];show Am J (I.skip cB) (λx m y my=>hb x m y<|a8 _ my) wc
   rw[if_pos cB];intro x m hx;rcases ba.mp m with rfl|m
   .cases g with
    |out h' l=>
      let#[y,my,e]:=I.there cB;have:=(I.i y my).2.2;refine#[y,?_,e,hb y my _<|bA ..];rw[<-e];show this
    |_=>show absurd hx (by dsimp only[bZ];decide)
   .refine Am (J.step cB) (I.step J cB) (λy my z mz=>?_) wc x m hx;cases g with
    |aG h' l k r p w=>
      rcases List.mem_append.mp my with my|my
      .show hb y my z<|a8 _ mz
      .rw[di.mp my];show(List.pairwise_cons.mp so).1 z mz
    |to=>show hb y my z<|a8 _ mz
    |out=>show hb y (cX.mp my).1 z<|a8 _ mz
noncomputable abbrev Bi (B:List Bx) (T:List Int):List Bx:=B++[.lst<|T.map D.int]
theorem Za:(Bi B T)[B.length]?=ae (.lst<|T.map D.int):=by simp
theorem ah8:(Bi B T).set B.length (.lst<|T'.map D.int)=Bi B T':=by simp
abbrev cU (rl:List Int) (hold:Int) (op:Al) (kl:List<|Int×List Int) (ps:Al) (qs:List Pg) (X:List<|Pg×Option Int):List Int:=(X.map (·.1)).filterMap<|qr<|k9 rl hold op kl ps qs
abbrev QK (H O P St:D) (n:Nat) (x5 x6 x7 x8:Option W):bu:=[ae<|.d H,ae<|.d O,ae<|.d P,ae<|.d St,ae<|.b n,x5,x6,x7,x8]
theorem JR (Z:Sc rs ks ps hd rl hold kl op gs qs) {St}(rT:St=.lst ((aZ ps [] [] qs).map dS)):∀ (X) (T) (x5 x6 x7 x8),(∀ x∈X,bZ x.1="out"->∃ g,qp ps qs (ax x.1)=ae g /\ ax g=ax x.1 /\ aH g<=aH x.1)->T.length+X.length<=100 ->
 ∃ y5 y6 y7 y8,bR Qt Y5 ((X.map dS).map W.d) (QK zb zk P St B.length x5 x6 x7 x8) (Bi B T)=.nx (QK zb zk P St B.length y5 y6 y7 y8) (Bi B<|T++cU rl hold op kl ps qs X)
 |[],T,x5,x6,x7,x8,_,_=>#[x5,x6,x7,x8,by rw[show T++cU rl hold op kl ps qs []=T from nq T];rfl]
 | x::X,T,x5,x6,x7,x8,hX,hl=>by
   have z:=bj;rw[bE]at hl;have ih:=λT x8 l=>JR (B:=B) Z (P:=P) rT X T (ae<|.d<|enc x.1) (ae<|.d<|oI x.2) (ae<|.d<|oI<|nJ x.1) x8 (λy m=>hX y<|a8 _ m) l
   let E:=λ(x8)=>QK zb zk P St B.length (ae<|.d<|enc x.1) (ae<|.d<|oI x.2) (ae<|.d<|oI<|nJ x.1) x8
   have w:=JI x.1 (B:=Bi B T) (env:=E x8) (i:=5) zc;by_cases ho:bZ x.1="out"
   case neg=>
    let#[y5,y6,y7,y8,e]:=ih T x8 za;have w2:=w "out";rw[decide_eq_false ho]at w2;refine#[y5,y6,y7,y8,(gj zc<|(gp w2).trans zc).trans ?_];have:qr (k9 rl hold op kl ps qs) x.1=ag:=by
     cases hx:x.1 with
     |out=>rw[hx]at ho;show absurd zc ho
     |_=>rfl
    unfold cU;rw[aM,n8,this];show e
   let#[g,cg,el,hh]:=hX x (bA ..) ho;have QL:qp ps qs (ax g)=ae g:=by rw[el];show cg
   rw[ho]at w;have c1:=Um (bx:=Bi B T) Z<|ax x.1;rw[cg]at c1;have r1:=(Ro (B:=Bi B T) Z QL hh).2.2;rw[<-rT]at c1 r1;have l1:=VG (B:=Bi B T) Z QL;have lt:=λx8=>AB x.1 (B:=Bi B T) (env:=E x8) (i:=5) zc;have hr:=xC x.1 (B:=Bi B T) (env:=E<|ae<|.d<|enc g) (i:=5) zc;have eb:qr (k9 rl hold op kl ps qs) x.1=if decide (lm kl g<=bz rl hold op kl ps qs (ax g) (aH x.1)) then ae (ax x.1) else ag:=by
    have a:Ij ps qs (ax x.1)=g:=by unfold Ij;rw[cg];rfl
    rw[el];cases hx:x.1 with
    |out h' l=>
      rw[hx]at a;change (if k9 rl hold op kl ps qs h' l then ae l else ag)=_;unfold k9;rw[show Ij ps qs l=g from a];rfl
    |_=>rw[hx]at ho;show absurd ho (by dsimp only[bZ];decide)
   generalize ah9:decide (lm kl g<=bz rl hold op kl ps qs (ax g) (aH x.1))=bv at eb;have t:dB (d2 af pZ (fq bw.gF 5<|fe (dV 0)<|fe (dV 1)<|fe (dV 3)<|fe (dV 8)<|fe (d2 af ak (dV 5) ze) fj)<|fq bw.iG 2<|fe (dV 0)<|fe (dV 8) fj) (E<|ae<|.d<|enc g) (Bi B T)=.val bv (Bi B T):=fV<|fF (r:=.old<|.bl bv) (fL (fi zc<|fi zc<|fi zc<|fi zc<|fi hr zc) zc r1) (cV l1) (by rw[<-ah9];rfl);have st:∀ {o:OS},(aV (dB<|d2 af pZ (fq bw.gF 5<|fe (dV 0)<|fe (dV 1)<|fe (dV 3)<|fe (dV 8)<|fe (d2 af ak (dV 5) ze) fj)<|fq bw.iG 2<|fe (dV 0)<|fe (dV 8) fj) (gz<|nC (dV 4)<|d2 af ak (dV 5)<|dC<|.int 2) bc) (E<|ae<|.d<|enc g) (Bi B T)=o->Y5 (E x8) (Bi B T)=o:=λk=>(gJ<|w "out").trans<|qS (fL (fi zc<|fi (lt x8) zc) zc c1) k;cases bv with
   |false=>
     let#[y5,y6,y7,y8,e]:=ih T (ae<|.d<|enc g) za;refine#[y5,y6,y7,y8,(gj zc<|st<|(gp t).trans zc).trans ?_];unfold cU;rw[aM,n8,eb];show e
   |true=>
     let#[y5,y6,y7,y8,e]:=ih (T++[ax x.1]) (ae<|.d<|enc g) (by rw[cW];change T.length+1+_<=_;lia);refine#[y5,y6,y7,y8,(gj (env2:=E<|ae<|.d<|enc g) (bx2:=Bi B<|T++[ax x.1]) zc<|st<|(gJ t).trans<|(gK<|lY zc Za (lt _) Za (by rw[aK];lia)).trans ?_).trans ?_]
     .rw[show T.map D.int++[D.int<|ax x.1]=(T++[ax x.1]).map D.int by rw[pO];rfl,ah8]
     .unfold cU;rw[aM,n8,eb];rw[nO]at e;show e
theorem Rq (h:env[i]?=ae (xB n)) (hb:B[n]?=ae (.lst l)) (hs:dg [.lst l]=ae (.lst r)):dN ah dg (fe (dV i) fj) env B=.val (.b B.length) (B++[.lst r]):=by
 rw[C5,fi (by rw[iO,h]) rfl,fM];erw[d7,bN,hb,bT,pd,hs];rw[Tw]
theorem JS (h:T.length<64):dg [.lst<|T.map D.int]=ae (.lst<|(sortI T).map D.int):=by
 have:uf [.lst<|T.map D.int]=ae (.lst<|(sortI T).map D.int):=by
  erw[uf,K1.oK,bT];rw[if_pos h]
 unfold dg;rw[this]
theorem N6 (Z:Sc rs ks ps hd rl hold kl op gs qs) :
 Ak [.d zb,.d zk,.d<|.lst<|gs.map enc] B=.val (.b<|B.length+1) (Bi B (cU rl hold op kl ps qs<|aZ ps [] [] qs)++[.lst<|(sortI<|cU rl hold op kl ps qs<|aZ ps [] [] qs).map D.int]):=by
 have ll:(aZ ps [] [] qs).length<=16:=by have:=iY (ps:=ps) (gs:=qs) (K:=[]) (R:=[]);have:=Z.l;lia
 obtain⟨St,rT⟩:∃ St,St=D.lst ((aZ ps [] [] qs).map dS):=#[_,rfl];let#[y5,y6,y7,y8,e]:=JR Z rT (aZ ps [] [] qs) [] ag ag ag ag (Am Ec Y8 (λ_ m=>nomatch m) Z.s) (by change 0+_<=_;lia);rw[kK]at e;have sl:(cU rl hold op kl ps qs<|aZ ps [] [] qs).length<64:=by
  have:=IW (qr<|k9 rl hold op kl ps qs) ((aZ ps [] [] qs).map (·.1));rw[aK]at this;change (List.filterMap _ _).length<64;lia
 have sv:=JO (bx:=B) Z;have it:∀ {e}{B:List Bx},e[3]?=ae (ae<|.d St)->bG (dV 3) e B=.val (((aZ ps [] [] qs).map dS).map W.d) B:=λa=>gf (by rw[iO,a,rT]);rw[<-rT]at sv;have:=Rq (env:=QK zb zk (.lst<|gs.map enc) St B.length y5 y6 y7 y8) (i:=4) zc Za<|JS sl;rw[show (Bi B<|cU rl hold op kl ps qs<|aZ ps [] [] qs).length=B.length+1 by simp]at this;show Dh<|qE (cV<|NW Z)<|qE (cV<|aI.oN Z.X.H Z.G)<|qS (cV sv)<|qS (jq [] zc<|dJ _)<|(fr<|(gH<|it zc).trans e).trans<|fS this
abbrev eP (f:Pg->Int) (g:Pg):Int×Int:=(0-f g,ax g)
theorem N7 (nd:(Q.map ax).Nodup) (hl:∀ g∈Q,ax g=l->f g=own) {qs:List (Int×Int)}(hp:qs.Perm<|((kG k Q).map<|eP f).filter λp=>decide (0-p.1>own)) (so:qs.Pairwise λa b=>nH b a=af) :
 (qN f k (ag,own)<|uB<|Q.filter λg=>decide (ax g≠l)).1=qs.head?.map (·.2):=by
 have into:∀ {p},p∈qs->∃ g,g∈kG k (uB<|Q.filter λg=>decide (ax g≠l)) /\ p=eP f g /\ own<f g:=λ{p} m=>by
  let#[m1,m2]:=cX.mp<|hp.mem_iff.mp m;let#[g,mg,rfl]:=a9.mp m1;let#[g1,g2]:=cX.mp mg;have lt:own<f g:=by
   lia
  refine#[g,cX.mpr #[(l8 _).mem_iff.mpr<|cX.mpr #[g1,decide_eq_true λe=>?_],g2],rfl,lt];have:=hl g g1 e;lia
 have uC:((Q.filter λg=>decide (ax g≠l)).map ax).Nodup:=nd.sublist<|(IU).map _;rcases l7 f k (uB<|Q.filter λg=>decide (ax g≠l)) (ag,own) with⟨a,e⟩|⟨T1,g,T2,e1,e2,e3,e4,e5⟩
 .rw[e];cases qs with
  |nil=>rfl
  |cons p r=>
    let#[g,mg,_,lt]:=into<|bA ..;have:=a g mg;show absurd lt za
 .rw[e2];have mg:g∈kG k (uB<|Q.filter λg=>decide (ax g≠l)):=by rw[e1];simp
  have e3:=e3;have mq:eP f g∈qs:=by
   let#[m1,m2]:=cX.mp mg;have m3:=(cX.mp<|(l8 _).mem_iff.mp m1).1;show hp.mem_iff.mpr<|cX.mpr #[a9.mpr #[g,cX.mpr #[m3,m2],rfl],decide_eq_true (by change 0-(0-f g)>own;lia)]
  have pw:(T1++g::T2).Pairwise λa b=>ax a<ax b:=by
   rw[<-e1];show(Uq uC).sublist IU
  cases qs with
  |nil=>cases mq
  |cons p r=>
    change ae (ax g)=ae p.2;rcases ba.mp mq with rfl|mr
    .rfl
    let#[y,my,rfl,ly]:=into<|bA ..;have nl:=(List.pairwise_cons.mp so).1 _ mr;rw[e1]at my;rcases List.mem_append.mp my with my|my
    .have:=e4 y my;rw[Nm<|.inl (by change 0-f g<0-f y;lia)]at nl;cases nl
    .rcases ba.mp my with rfl|my
     .rfl
     .have a1:=e5 y my;have a2:=(List.pairwise_cons.mp (List.pairwise_append.mp pw).2.1).1 y my;rw[Nm (by
       by_cases c:f y=f g
       .show .inr #[by change 0-f g=0-f y;lia,a2]
       .show .inl (by change 0-f g<0-f y;lia))]at nl
      cases nl
section
variable {K:Al} {S:List Pg}
theorem Ut (hm:m env B=.val (.b i) B) (hb:B[i]?=ae (.au L)):u5 ah m env B=.val (.b B.length) (B++[.au L]):=by
 unfold u5;rw[hm,fM,jC hb];rfl
abbrev ad5:DE W:=uq af [ag,ae 8,ae 11] 8 (fg 0) (dB<|d2 af aW (d2 af ak (cG (dV 1)<|dV 0) ze)<|dV 2)<|dV 0
theorem VH (J:c5 K R n) (hn:n<=100) (hb:B[b]?=ae (.au<|aX dP<|aJ K R)) (h8:env[8]?=ae (xB b)) (aia:env[11]?=ae (xN k)) :
 ad5 env B=.val (.d<|.lst<|(R.filter λq=>decide (kk K q.1=k)).map λq=>D.int q.1) B:=by
 have z:sizeLine=16777216:=bj;have lr:=J.lr;have nt:((aJ K R).map (·.1)).Nodup:=by rw[oR];show J.nd
 have hf:=pN (a:=.fD<|aX dP<|aJ K R) (List.getElem?_eq_some_iff.mp hb).1;have c:=xy (tf:=dB<|d2 af aW (d2 af ak (cG (dV 1)<|dV 0) ze)<|dV 2) (te:=dV 0) (r:=[xB b,xN k]) (λq=>decide (kk K q.1=k)) (λq=>.int q.1) R ag [] zh λq m=>
  #[fV<|fF (r:=.old<|.bl<|decide (kk K q.1=k)) (x:=.int<|kk K q.1) (fF (r:=.old<|.int<|kk K q.1) (lc zc zc (Nu hf)<|oQ (q:=(q.1,(kk K q.1,q.2))) nt<|a9.mpr #[q,m,rfl]) zc zc) zc (by simp[aW]),λ_=>rfl]
 unfold ad5 uq;erw[h8,hb];have s:eV [ag,ae 8,ae 11] env=[ag,xB b,xN k]:=by simp[h8,aia]
 have kw:rN (aX dP<|aJ K R)=(R.map λq=>D.int q.1).map W.d:=by
  rw[BJ];simp[aJ,abN]
 rw[s,kw,c,fM];change v8 b (.val _ _)=_;unfold v8;erw[R0 hb];rfl
theorem VI (I:Wi ps tk K R Q q2):(R.filter λq=>decide (kk K q.1=k)).map (λq=>D.int q.1)=(kG k Q).map λg=>D.int (ax g):=by
 have e:∀ {α}(f:Int->α) (p) (L:Al),(L.filter λq=>p q.1).map (λq=>f q.1)=((L.map (·.1)).filter p).map f:=λf p L=>by
  rw[wB,bB];rfl
 rw[e D.int (λl=>decide (kk K l=k)) R,I.k,wB,bB];refine congrArg (List.map _)<|aaU λg m=>?_;change decide (kk K (ax g)=k)=decide (cT g=k);unfold kk;rw[(I.i g m).2.1];rfl
abbrev aib:DE W:=fO af [ag,ae 0,ae 1,ae 3,ae 9] (bG<|dV 13) (fg 0) fR<|fN<|fe (d2 af c9 ze<|fq uA.g9 5<|fe (dV 1)<|fe (dV 2)<|fe (dV 3)<|fe (dV 0)<|fe (dV 4) fj)<|fe (dV 0) fj
theorem VJ (Z:Sc rs ks ps hd rl hold kl op gs qs) (A:La ps qs B N dr) (hS:∀ g∈S,qp ps qs (ax g)=ae g /\ aH g<=h) (lS:S.length<=100) (h0:env[0]?=ae (ae<|.d zb)) (h1:env[1]?=ae (ae<|.d zk)) (h3:env[3]?=ae (ae<|.m<|ml N)) (h9:env[9]?=ae (xN h)) (aic:env[13]?=ae (ae<|.d<|.lst<|S.map λg=>D.int<|ax g)) :
 aib env B=.val (.d<|.lst<|(S.map<|eP λg=>bz rl hold op kl ps qs (ax g) h).map dP) B:=by
 have z:sizeLine=16777216:=bj;have c:=xy (tf:=fR) (te:=fN<|fe (d2 af c9 ze<|fq uA.g9 5<|fe (dV 1)<|fe (dV 2)<|fe (dV 3)<|fe (dV 0)<|fe (dV 4) fj)<|fe (dV 0) fj) (r:=[ae<|.d zb,ae<|.d zk,ae<|.m<|ml N,xN h]) (λ_=>ah) (λg=>dP (0-bz rl hold op kl ps qs (ax g) h,ax g)) S ag [] zh λg m=>
  #[rfl,λ_=>by
   have r:=JQ (l:=ax g) (h:=h) Z A;rw[(Ro (B:=B) Z (hS g m).1 (hS g m).2).2.1]at r;show fX [.int<|0-bz rl hold op kl ps qs (ax g) h,.int<|ax g] (fi (fF (x:=.int 0) (y:=.int<|bz rl hold op kl ps qs (ax g) h) (r:=.old<|.int<|0-bz rl hold op kl ps qs (ax g) h) zc (fL (fi zc<|fi zc<|fi zc<|fi zc<|fi zc zc) zc r) zc)<|fi zc zc) zh]
 rw[kK,List.filter_eq_self.mpr λ_ _=>rfl]at c;rw[bB];show gq (gf (by rw[iO,aic])) (by simp[h0,h1,h3,h9]) c
abbrev ad6:DE W:=dN af dg<|fe (fO af [ag,ae 12] (bG<|dV 14) (fg 0) (dB<|d2 af nW (d2 af c9 ze<|d2 af ak (dV 0) ze)<|dV 1)<|dV 0) fj
theorem Uu {L:List (Int×Int)}(lL:L.length<64) (aid:env[12]?=ae (xN own)) (aie:env[14]?=ae (xP L)) :
 ∃ q:List (Int×Int),q.Perm (L.filter λp=>decide (0-p.1>own)) /\ q.Pairwise (λa b=>nH b a=af) /\ ad6 env B=.val (.d<|.lst<|q.map dP) B:=by
 have z:sizeLine=16777216:=bj;let#[q,p1,p2,p3]:=K1.Ju (L.filter λp=>decide (0-p.1>own))<|xV (uG ..) lL;refine#[q,p1,p2,?_];have c:=xy (tf:=dB<|d2 af nW (d2 af c9 ze<|d2 af ak (dV 0) ze)<|dV 1) (te:=dV 0) (bx:=B) (r:=[xN own]) (λp=>decide (0-p.1>own)) dP L ag [] zh λp m=>
  #[fV<|fF (r:=.old<|.bl<|decide (0-p.1>own)) (fF zc (fF (x:=dP p) (y:=.int 0) (r:=.old<|.int p.1) zc zc zc) zc) zc zc,λ_=>rfl]
 rw[kK]at c;have d:=gq (env:=env) (bx:=B) (src:=[ag,ae 12]) (mi:=bG<|dV 14) (gf (by rw[iO,aie])) (by simp[aid]) c;unfold ad6;rw[C5,fi d rfl,fM];erw[d7,bN,bT,pd,p3];rw[ir,jj]
end
section
variable {K:Al}
theorem La.more (A:La ps qs B N dr) (X):La ps qs (B++X) N dr:=by
 have m:∀ {i}{x},B[i]?=ae x->(B++X)[i]?=ae x:=λe=>by
  rw[dZ (List.getElem?_eq_some_iff.mp e).1];show e
 show#[m A.c,m A.d,A.o,m A.a]
abbrev lE (H O P:D) (N:Nat) (M:List<|Str×Nat) (b:Nat) (x7 x8 x9 bh dU cC cH cu eA:Option W):bu:=[ae<|.d H,ae<|.d O,ae<|.d P,ae<|.m<|ml N,ae<|.m M,ae<|.b<|b+4,ae<|.b<|b+5,x7,x8,x9,bh,dU,cC,cH,cu,eA]
theorem aif (Z:Sc rs ks ps hd rl hold kl op gs qs) (c:qp ps qs (ax g)=ae g):∃ q,ak (.tup ks) (.int<|cT g)=ae (.old<|ve q) /\ lm kl g=q.1:=by
 let#[h0,k,r,p,w,q,e,Y,_]:=JN Z c;generalize ax g=l at e Y;subst e;refine#[q,JJ Z.X Y.k0 Y.hq,?_];change ((kl[k.toNat]?).getD (0,[])).1=q.1;rw[Y.hq];rfl
theorem VL (Z:Sc rs ks ps hd rl hold kl op gs qs) (A:La ps qs B N ad7) (J:c5 K R n) (hn:n<=100) (I:Wi ps (taken ps [] [] qs) K R Q q2) (hQ:∀ g∈Q,aH g<=h) (lQ:Q.length<=60) (ad8:l∈Q.map ax) (hb:(Bl B th ca go dr (T.map c6) (Bd.map D.int) ex)[b]?=ae (.au<|aX dP<|aJ K R)) (lT:T.length<=100) (lB:Bd.length<=100) (x9 bh dU cC cH cu eA:Option W) :
 ∃ y9 bL kH eC dD dE rV,QJ (lE zb zk P N M B.length (ae<|.d<|enc<|.out h l) (xB b) x9 bh dU cC cH cu eA) (Bl B th ca go dr (T.map c6) (Bd.map D.int) ex) =
  .nx (lE zb zk P N M B.length (ae<|.d<|enc<|.out h l) (xB b) y9 bL kH eC dD dE rV) (Bl B th ca go dr ((T++((pL (bz rl hold op kl ps qs) Q<|.out h l).map λe=>(Pg.out h l,e)).toList).map c6) ((Bd++(qr (k9 rl hold op kl ps qs)<|.out h l).toList).map D.int) ex):=by
 have z:sizeLine=16777216:=bj;let#[m0,el]:=N5 ad8;have nd:=I.nd J;have i0:=I.i _ m0;have cg:=i0.2.2;have QL:qp ps qs l=ae (dY Q l):=by rw[el]at cg;show cg
 have A':=λ{th ca go}{dr:List (List Key×D)}{av wd ex}=>La.more A (Bx.au (aX dP th)::.au (aX enc ca)::.au (bI go)::.dT dr::.lst av::.lst wd::ex);generalize hX:Bl B th ca go dr (T.map c6) (Bd.map D.int) ex=X at hb;have AX:La ps qs X N ad7:=by rw[<-hX];show A'
 obtain⟨own,ho⟩:∃ o,o=bz rl hold op kl ps qs l h:=#[_,rfl];have ad9:=JQ (l:=l) (h:=h) Z AX;have rp:=(Ro (B:=X) Z cg<|hQ _ m0).2.1;rw[el]at rp;rw[rp,<-ho]at ad9;let#[q0,mq,aih]:=a9.mp (show l∈R.map (·.1) by rw[I.k];show ad8);have nt:((aJ K R).map (·.1)).Nodup:=by rw[oR];show J.nd
 have hk:kk K l=cT (dY Q l):=by
  have:=i0.2.1;rw[el]at this;unfold kk;rw[this];rfl
 have kd:∀ {e:bu},e[8]?=ae (xB b)->e[10]?=ae (xN l)->d2 af ak (cG (dV 8)<|dV 10) ze e X=.val (.d<|.int<|cT<|dY Q l) X:=λ{e} a1 a2=>by
  have f:=oQ nt<|a9.mpr #[q0,mq,rfl];rw[aih,hk]at f;show fF (r:=.old<|.int<|cT<|dY Q l) (lc (by rw[iO,a2]) (by rw[iO,a1]) (jC hb) f) zc zc
 have lK:(kG (cT<|dY Q l) Q).length<=60:=cj (uG ..) lQ
 let E:=lE zb zk P N M B.length (ae<|.d<|enc<|.out h l) (xB b) (xN h) (xN l) (xN<|cT<|dY Q l)<|xN own
 have kv:=VH (env:=E cH cu eA) J hn hb zc zc;rw[VI I]at kv;have rv:=λcu eA=>VJ (env:=E (ae<|.d<|.lst<|(kG (cT<|dY Q l) Q).map λg=>D.int<|ax g) cu eA) Z AX (λg m=>#[(I.i g (cX.mp m).1).2.2,hQ g (cX.mp m).1]) za zc zc zc zc zc;let#[q,p1,p2,ev]:=Uu (env:=E (ae<|.d<|.lst<|(kG (cT<|dY Q l) Q).map λg=>D.int<|ax g) (xP<|(kG (cT<|dY Q l) Q).map<|eP λg=>bz rl hold op kl ps qs (ax g) h) eA) (by rw[aK];lia) zc zc;have he:pL (bz rl hold op kl ps qs) Q (.out h l)=q.head?.map (·.2):=by
  have:=N7 (f:=λg=>bz rl hold op kl ps qs (ax g) h) (k:=cT<|dY Q l) (own:=own) (l:=l) nd (λg m e=>by change bz rl hold op kl ps qs (ax g) h=own;rw[e,ho]) p1 p2;change (qN (λg=>bz rl hold op kl ps qs (ax g) h) (cT<|dY Q l) (ag,bz rl hold op kl ps qs (ax<|dY Q l) h) _).1=_;rw[el,<-ho];show this
 let#[ql,aii,aij]:=aif Z cg;have aik:qr (k9 rl hold op kl ps qs) (.out h l)=if decide (ql.1<=own) then ae l else ag:=by
  change (if k9 rl hold op kl ps qs h l then ae l else ag)=_;unfold k9 Ij;rw[QL,WQ,aij,<-ho]
 rw[he,aik]
 let E2:=E (ae<|.d<|.lst<|(kG (cT<|dY Q l) Q).map λg=>D.int<|ax g) (xP<|(kG (cT<|dY Q l) Q).map<|eP λg=>bz rl hold op kl ps qs (ax g) h)<|xP q
 refine#[xN h,xN l,xN<|cT<|dY Q l,xN own,_,_,_,((fr<|jB (xC (.out h l) (i:=7) zc)<|AB (.out h l) (i:=7) zc).trans ((fr<|jB (kd zc zc)<|fL (fi zc<|fi zc<|fi zc<|fi zc<|fi zc zc) zc ad9).trans<|qS kv<|qS (rv _ _)<|qS ev ?_):QJ (lE zb zk P N M B.length (ae<|.d<|enc<|.out h l) (xB b) x9 bh dU cC cH cu eA) X=.nx E2 _)];have s2:∀ {T':List (Pg×Int)},aV (dB<|d2 af pZ (dV 12)<|d2 af ak (d2 af ak (d2 af ak (dV 0) zf)<|dV 11) ze) (gz<|nC (dV 6)<|dV 10) bc E2 (Bl B th ca go dr (T'.map c6) (Bd.map D.int) ex)=.nx E2 (Bl B th ca go dr (T'.map c6) ((Bd++(if decide (ql.1<=own) then ae l else ag).toList).map D.int) ex):=λ{T'}=>by
  have t:dB (d2 af pZ (dV 12)<|d2 af ak (d2 af ak (d2 af ak (dV 0) zf)<|dV 11) ze) E2 (Bl B th ca go dr (T'.map c6) (Bd.map D.int) ex)=.val (decide (ql.1<=own)) (Bl B th ca go dr (T'.map c6) (Bd.map D.int) ex):=fV<|fF (g:=pZ) (x:=.int own) (y:=.int ql.1) (r:=.old<|.bl<|decide (ql.1<=own)) zc (fF (x:=ve ql) (y:=.int 0) (r:=.old<|.int ql.1) (fF (x:=.tup ks) (y:=.int<|cT<|dY Q l) (r:=.old<|ve ql) (fF (x:=hs rs ks ps hd) (y:=.int 1) (r:=.old<|.tup ks) zc zc zc) zc aii) zc zc) zc;cases c:decide (ql.1<=own) with
  |false=>
    rw[c]at t;rw[show Bd++(if af=ah then ae l else ag).toList=Bd from nq _];show(gp t).trans zc
  |true=>
    rw[c]at t;refine(gJ t).trans ((gK<|lY (i:=B.length+5) (d:=.int l) zc Ia zc Ia (by rw[aK];lia)).trans ?_);rw[show Bd.map D.int++[D.int l]=(Bd++[l]).map D.int by rw[pO];rfl,aI.YD];rfl
 rw[<-hX];cases q with
 |nil=>
   rw[show T++(Option.map (λe=>(Pg.out h l,e)) (Option.map (·.2) ([]:List<|Int×Int).head?)).toList=T from nq _];show(fr<|(gp<|fV (b:=af) zc).trans zc).trans s2
 |cons p r=>
   refine(fr<|(gJ<|fV (b:=ah)<|fF (g:=kZ) (x:=.lst<|(p::r).map dP) (y:=.lst []) (r:=.old<|.bl ah) zc zc (by simp[kZ,aW,dP])).trans<|(gK<|lY (i:=B.length+4) (d:=c6 (.out h l,p.2)) zc Ed (fX [enc<|.out h l,.int p.2] (fi zc<|fi (fF (x:=dP p) (y:=.int 1) (r:=.old<|.int p.2) (fF (x:=.lst<|(p::r).map dP) (y:=.int 0) (r:=.old<|dP p) zc zc (by simp[ak,bM,cR])) zc zc) zc) zh) Ed (by rw[aK];lia)).trans ?_).trans s2;rw[show T.map c6++[c6 (Pg.out h l,p.2)]=(T++[(Pg.out h l,p.2)]).map c6 by rw[pO];rfl,aI.adM];rfl
end

abbrev ltB:aA:=(fu (fI (u5 ah<|cb (dV 4) "there")<|fg 8)<|aV (pV (dB<|d2 af aW (fq aI.gm 3<|fe (dV 0)<|fe (dV 4)<|fe (dV 7) fj)<|dC<|.str "takes")<|dB<|d2 af aW (d2 af ak (dV 7) zf)<|dC<|.str "out") QJ bc)
theorem aea:Bl B th ca go dr av wd ex++[d]=Bl B th ca go dr av wd (ex++[d]):=by simp[Bl]
theorem ail:(Bl B th ca go dr av wd<|ex++[d])[B.length+6+ex.length]?=ae d:=by
 rw[<-aea,<-BK (th:=th) (ca:=ca) (go:=go) (dr:=dr) (av:=av) (wd:=wd)];simp
theorem Rr (hb:∀ x∈Q,∀ y∈g::q2,aH x<=aH y) (so:qo (g::q2)):∀ x∈wt Q g,∀ y∈q2,aH x<=aH y:=λy my z mz=>by
 cases g with
 |aG h' l k r p w=>
   rcases List.mem_append.mp my with my|my
   .show hb y my z<|a8 _ mz
   .rw[di.mp my];show(List.pairwise_cons.mp so).1 z mz
 |to=>show hb y my z<|a8 _ mz
 |out=>show hb y (cX.mp my).1 z<|a8 _ mz
theorem VM {K}(h:word ps K R g="takes"):cU rl hold op kl ps qs (aZ ps K R (g::q2))=(qr (k9 rl hold op kl ps qs) g).toList++cU rl hold op kl ps qs (aZ ps (stK K g) (eO R g) q2):=by
 unfold cU;rw[show aZ ps K R (g::q2)=(g,look R _)::aZ ps _ _ q2 from if_pos h,aM,n8];cases qr _ g<;>rfl
theorem Rs (Z:Sc rs ks ps hd rl hold kl op gs qs) (A:La ps qs B N ad7) (hM:Mp M B.length):∀ (q2) (K R) (ca) (go) (dr) (Q) (T) (Bd) (ex) (n m) (x7 x8 x9 bh dU cC cH cu eA),c5 K R n->n+q2.length<=16->Wi ps (taken ps [] [] qs) K R Q q2->(∀ g∈Q,∀ x∈q2,aH g<=aH x)->qo q2->T.length+q2.length<=100->Bd.length+q2.length<=100->Lb K ca go dr m->m+q2.length<=50 ->
 ∃ qK qL go' bP tF y7 y8 y9 bL kH eC dD dE rV,bR (fg 7) ltB ((q2.map enc).map W.d) (lE zb zk P N M B.length x7 x8 x9 bh dU cC cH cu eA) (Bl B (aJ K R) ca go dr (T.map c6) (Bd.map D.int) ex)=.nx (lE zb zk P N M B.length y7 y8 y9 bL kH eC dD dE rV) (Bl B qK qL go' bP ((T++dA (bz rl hold op kl ps qs) ps K R Q q2).map c6) ((Bd++cU rl hold op kl ps qs (aZ ps K R q2)).map D.int) tF):=by
 intro q2;induction q2 with
 |nil=>intro K R ca go dr Q T Bd ex n m x7 x8 x9 bh dU cC cH cu eA _ _ _ _ _ _ _ _ _;show#[aJ K R,ca,go,dr,ex,x7,x8,x9,bh,dU,cC,cH,cu,eA,by rw[show T++dA (bz rl hold op kl ps qs) ps K R Q []=T from nq T,show Bd++cU rl hold op kl ps qs (aZ ps K R [])=Bd from nq Bd];rfl]
 |cons g q2 Ii=>
   intro K R ca go dr Q T Bd ex n m x7 x8 x9 bh dU cC cH cu eA J hn I hb so hT aim L hm;rw[bE]at hn hT aim hm;have wc:=(List.pairwise_cons.mp so).2
   let X:=Bx.au<|aX dP<|aJ K R
   let#[go',bP,ov,L',_]:=Sd hM Z.X.H J za L za g
   let E:=λx9 bh dU cC cH cu eA=>lE zb zk P N M B.length (ae<|.d<|enc g) (xB<|B.length+6+ex.length) x9 bh dU cC cH cu eA
   have c1:=Ut (m:=cb (dV 4) "there") (env:=lE zb zk P N M B.length (ae<|.d<|enc g) x8 x9 bh dU cC cH cu eA) (B:=Bl B (aJ K R) ca go dr (T.map c6) (Bd.map D.int) ex) (jE zc hM.t) u9;rw[BK,aea]at c1;have t1:dB (d2 af aW (fq aI.gm 3<|fe (dV 0)<|fe (dV 4)<|fe (dV 7) fj)<|dC<|.str "takes") (E x9 bh dU cC cH cu eA) (Bl B (aJ K R) ca go dr (T.map c6) (Bd.map D.int)<|ex++[X])=.val (decide (word ps K R g="takes")) _:=fV<|fF (r:=.old<|.bl<|decide (word ps K R g="takes")) (fL (fi zc<|fi zc<|fi zc zc) zc ov) zc (by simp[aW]);by_cases cB:word ps K R g="takes"
   case neg=>
    rw[decide_eq_false cB]at t1;rw[show cK ps K R g=K from if_neg cB,show dI ps K R g=R from if_neg cB,(l6 cB).1]at t1;rw[show cK ps K R g=K from if_neg cB,(l6 cB).1]at L';let#[qK,qL,Ik,Il,tF,y7,y8,y9,bL,kH,eC,dD,dE,rV,e]:=Ii K R ca go' bP Q T Bd (ex++[X]) n (m+1) (ae<|.d<|enc g) (xB<|B.length+6+ex.length) x9 bh dU cC cH cu eA J za (I.skip cB) (λx m y my=>hb x m y<|a8 _ my) wc za za L' za;refine#[qK,qL,Ik,Il,tF,y7,y8,y9,bL,kH,eC,dD,dE,rV,(gj zc<|qS c1<|(gp<|Ae t1).trans zc).trans ?_];rw[show dA (bz rl hold op kl ps qs) ps K R Q (g::q2)=dA (bz rl hold op kl ps qs) ps K R Q q2 from if_neg cB,show aZ ps K R (g::q2)=aZ ps K R q2 from if_neg cB];show e
   rw[decide_eq_true cB]at t1;have I':=I.step J cB;have J':=J.step cB;have w:=λ(B)=>JI g (B:=B) (env:=E x9 bh dU cC cH cu eA) (i:=7) zc "out";rw[show cK ps K R g=stK K g from if_pos cB,show dI ps K R g=eO R g from if_pos cB,(gX cB).1]at t1;rw[show cK ps K R g=stK K g from if_pos cB,(gX cB).1]at L';have ih:=λT Bd x9 bh dU cC cH cu eA a b=>Ii (stK K g) (eO R g) (stC ca g) go' bP (wt Q g) T Bd (ex++[X]) (n+1) (m+1) (ae<|.d<|enc g) (xB<|B.length+6+ex.length) x9 bh dU cC cH cu eA J' za I' (Rr hb so) wc a b L' za;rw[show dA (bz rl hold op kl ps qs) ps K R Q (g::q2)=((pL (bz rl hold op kl ps qs) Q g).map λe=>(g,e)).toList++dA (bz rl hold op kl ps qs) ps (stK K g) (eO R g) (wt Q g) q2 from if_pos cB,VM cB,<-nO,<-nO];by_cases ho:bZ g="out"
   case neg=>
    have w':=λB=>w B;rw[show decide (bZ g="out")=af from decide_eq_false ho]at w';have e0:pL (bz rl hold op kl ps qs) Q g=ag /\ qr (k9 rl hold op kl ps qs) g=ag:=by
     cases g with
     |out=>show absurd zc ho
     |_=>show#[rfl,rfl]
    rw[e0.1,e0.2];let#[qK,qL,Ik,Il,tF,y7,y8,y9,bL,kH,eC,dD,dE,rV,e]:=ih T Bd x9 bh dU cC cH cu eA za za;refine#[qK,qL,Ik,Il,tF,y7,y8,y9,bL,kH,eC,dD,dE,rV,(gj (env1:=lE zb zk P N M B.length (ae<|.d<|enc g) x8 x9 bh dU cC cH cu eA) zc<|qS c1<|(gp<|mZ t1<|w' _).trans zc).trans ?_];rw[show T++(Option.map (λe=>(g,e)) (ag:Option Int)).toList=T from nq _,show Bd++(ag:Option Int).toList=Bd from nq _];show e
   cases g with
   |out h l=>
     have ov:=VL (h:=h) (l:=l) (P:=P) (M:=M) Z A J za I (λx m=>hb x m (.out h l)<|bA ..) (by
      have:=congrArg List.length I.k;rw[aK,aK]at this;have:=J.lr;lia) (a9.mpr<|I.there cB) (th:=aJ (stK K<|.out h l)<|eO R<|.out h l) (ca:=stC ca<|.out h l) (go:=go') (dr:=bP) (T:=T) (Bd:=Bd) (ex:=ex++[X]) ail za za x9 bh dU cC cH cu eA
     let#[y9,bL,kH,eC,dD,dE,rV,o]:=ov;have l1:∀ {α:Type}(o:Option α),o.toList.length<=1:=λo=>by cases o<;>simp
     let#[qK,qL,Ik,Il,tF,z7,z8,z9,aeb,aec,aed,Zb,Zc,ain,e]:=ih (T++((pL (bz rl hold op kl ps qs) Q<|.out h l).map λe=>(Pg.out h l,e)).toList) (Bd++(qr (k9 rl hold op kl ps qs)<|.out h l).toList) y9 bL kH eC dD dE rV (by rw[cW];have:=l1<|(pL (bz rl hold op kl ps qs) Q<|.out h l).map λe=>(Pg.out h l,e);lia) (by rw[cW];have:=l1<|qr (k9 rl hold op kl ps qs)<|.out h l;lia);show#[qK,qL,Ik,Il,tF,z7,z8,z9,aeb,aec,aed,Zb,Zc,ain,(gj (env1:=lE zb zk P N M B.length (ae<|.d<|enc<|.out h l) x8 x9 bh dU cC cH cu eA) zc<|qS c1<|(gJ<|mZ t1<|w _).trans o).trans e]
   |_=>show absurd ho (by dsimp only[bZ];decide)

noncomputable abbrev m4 (n:Nat):List (Str×Nat):=[("there",n),("came",n+1),("gone",n+2),("doors",n+3)]
theorem aio:Mp (m4 n) n:=#[rfl,by rfl,by rfl,by rfl]
theorem Rt:xt [("there",1),("came",1),("gone",1),("doors",2)] env B=.val (.m<|m4 B.length) (B++[.au [],.au [],.au [],.dT []]):=by
 rfl
theorem Ru (h:env[i]?=ae (xB n)) (hb:B[n]?=ae (.lst l)) (hs:dg [.lst l]=ae (.lst r)):dN af dg (fe (dV i) fj) env B=.val (.d<|.lst r) B:=by
 rw[C5,fi (by rw[iO,h]) rfl,fM];erw[d7,bN,hb,bT,pd,hs];rw[ir,jj]
theorem N8 (Z:Sc rs ks ps hd rl hold kl op gs qs):iZ [.d zb,.d zk,.d<|.lst<|gs.map enc] B=.val (.d<|.tup [.lst<|(dA (bz rl hold op kl ps qs) ps [] [] [] qs).map c6,.lst<|(sortI<|cU rl hold op kl ps qs<|aZ ps [] [] qs).map D.int]) B:=by
 have z:sizeLine=16777216:=bj;have zl:=Z.l;let#[th,go,dr,lr,_,oo]:=bw.P6 Z.X.H Z.l Z.so;obtain⟨B1,QM⟩:∃ B1,B1=Bl B th (rR ps [] [] [] qs) go dr (vb ps [] [] qs) (YK ps qs):=#[_,rfl];have A:La ps qs B1 B.length dr:=by rw[QM];show#[YL,adL,oo,Ed]
 have b1:B1.take B.length=B:=by rw[QM];simp[Bl]
 have l1:B.length<=B1.length:=by rw[QM,BK];lia
 rw[<-QM]at lr;have lb:Lb [] [] [] [] 0:=#[rfl,(λ_ m=>nomatch m),aC _,aC _,aC _];let#[qK,qL,go',bP,tF,y7,y8,y9,bL,kH,eC,dD,dE,rV,e]:=Rs Z A aio qs [] [] [] [] [] [] [] [] [] 0 0 ag ag ag ag ag ag ag ag ag Ec za Y8 (λ_ m=>nomatch m) Z.s (by change 0+_<=_;lia) (by change 0+_<=_;lia) lb za;rw[kK,kK]at e;have sl:(cU rl hold op kl ps qs<|aZ ps [] [] qs).length<64:=by
  have:=IW (qr<|k9 rl hold op kl ps qs) ((aZ ps [] [] qs).map (·.1));have:=iY (ps:=ps) (gs:=qs) (K:=[]) (R:=[]);rw[aK]at *;change (List.filterMap _ _).length<64;lia
 have it:∀ {e:bu}{C:List Bx},e[2]?=ae (ae<|.d<|.lst<|gs.map enc)->bG (dN af dg<|fe (dV 2) fj) e C=.val ((qs.map enc).map W.d) C:=λ{e C} a=>gf<|iP [.lst<|gs.map enc] (fi (by rw[iO,a]) zc) Z.so;have fz:=Nh (k:=5) (i:=B1.length+4) (env:=lE zb zk (.lst<|gs.map enc) B.length (m4 B1.length) B1.length y7 y8 y9 bL kH eC dD dE rV) zc<|Ed (bx:=B1) (th:=qK) (ca:=qL) (go:=go') (dr:=bP) (av:=(dA (bz rl hold op kl ps qs) ps [] [] [] qs).map c6) (wd:=(cU rl hold op kl ps qs<|aZ ps [] [] qs).map D.int) (ex:=tF);have sb:=Ru (B:=(Bl B1 qK qL go' bP ((dA (bz rl hold op kl ps qs) ps [] [] [] qs).map c6) ((cU rl hold op kl ps qs<|aZ ps [] [] qs).map D.int) tF).set (B1.length+4) .dead) (env:=lE zb zk (.lst<|gs.map enc) B.length (m4 B1.length) B1.length y7 y8 y9 bL kH eC dD dE rV) (i:=6) (n:=B1.length+5) zc (by rw[nN za];show Ia)<|JS sl;have m:AC [ae<|.d zb,ae<|.d zk,ae<|.d<|.lst<|gs.map enc,ag,ag,ag,ag,ag,ag,ag,ag,ag,ag,ag,ag,ag] B=.rt (.d<|.tup [.lst<|(dA (bz rl hold op kl ps qs) ps [] [] [] qs).map c6,.lst<|(sortI<|cU rl hold op kl ps qs<|aZ ps [] [] qs).map D.int]) ((Bl B1 qK qL go' bP ((dA (bz rl hold op kl ps qs) ps [] [] [] qs).map c6) ((cU rl hold op kl ps qs<|aZ ps [] [] qs).map D.int) tF).set (B1.length+4) .dead):=by
  refine(fr<|jB (cV lr) Rt).trans ((fr<|jB (jq [] zc<|dJ _)<|jq [] zc<|dJ _).trans ?_);have eb:B1++[Bx.au [],.au [],.au [],.dT []]++[Bx.lst []]++[Bx.lst []]=Bl B1 (aJ [] []) [] [] [] (([]:List<|Pg×Int).map c6) (([]:List Int).map D.int) []:=by simp[Bl,aJ,aX]
  have en:(B1++[Bx.au [],.au [],.au [],.dT []]).length=B1.length+4:=by simp
  have aip:(B1++[Bx.au [],.au [],.au [],.dT []]++[Bx.lst []]).length=B1.length+5:=by simp
  rw[eb,en,aip];show(fr<|(gH<|it zc).trans e).trans (fS<|fX [_,_] (fi fz<|fi sb zc) zh)
 refine(j8 (ws:=[.d zb,.d zk,.d<|.lst<|gs.map enc]) m).trans ?_;rw[List.take_set_of_le za];unfold Bl;rw[List.take_append_of_le_length l1,b1]
section
variable {rs ks:List D}
theorem Uv (a:env[i]?=ae (ae<|.d<|hs rs ks [] hd)):dN af cY (fe (d2 af ak (dV i) zf) fj) env B=.val (.d<|.int ks.length) B:=
 iP (r:=.old _) [.tup ks] (fi (fF (r:=.old _) (by rw[iO,a]) zc zc) zc) zc
theorem N9 (a:env[i]?=ae (ae<|.d<|hs rs ks [] hd)):dN af cY (fe (d2 af ak (dV i) ze) fj) env B=.val (.d<|.int rs.length) B:=
 iP (r:=.old _) [.tup rs] (fi (fF (r:=.old _) (by rw[iO,a]) zc zc) zc) zc
def Gz (nr nk:Nat) (i:Nat) (gs:List Pg):zm:=gs.Nodup /\ (∀ g∈gs,Gd nr nk 40 g) /\ gs.length<=i
theorem putK (h:n<bx.length) (S:Gz rs.length ks.length i gs) (hi:i<=100) (og:Gd rs.length ks.length 40 g) (e3:env[3]?=ae (xB bx.length)) (em:m env (pt (bx++[.dT<|gs.map ke]) n p)=.val (.d<|enc g) (pt (bx++[.dT<|gs.map ke]) n q)) :
 ∃ g2,uu (dV 3) m (dC<|.bl ah) env (pt (bx++[.dT<|gs.map ke]) n p)=.nx env (pt (bx++[.dT<|g2.map ke]) n q) /\ Gz rs.length ks.length (i+1) g2:=by
 let#[nd,ok,hl]:=S;have sz:=bj;let#[g2,e2,n2,m2,l2]:=Ua;let#[l,el,kl]:=NE g;refine#[g2,?_,n2 nd,λx mx=>(m2 x mx).elim (ok x) λz=>z▸og,by lia];have b1:=jm (p:=q) (x:=.dT<|gs.map ke) h;rw[el]at em;unfold uu;rw[Tt,iA,show dV 3 env (pt (bx++[.dT<|gs.map ke]) n p)=_ by rw[iO,e3],iA,em,iA];erw[b1,kl];rw[if_pos zh,e2,Di h]
noncomputable abbrev oE (n b:Nat) (H:D) (near many:Int) (x5 x6 x7 x8 x9 bh:Option W):bu:=[ae<|.b n,ae<|.d H,ae<|.d<|.int near,ae<|.b b,ae<|.d<|.int many,x5,x6,x7,x8,x9,bh]
theorem Wa (H:Hs rs ks [] hd) (h:n<bx.length) (S:Gz rs.length ks.length i gs) (i9:i<=9) (x6 x7 x8 x9 bh:Option W) :
 ∃ g2 q y6 y7 y8,ad1 (oE n bx.length (hs rs ks [] hd) near many (xN i) x6 x7 x8 x9 bh) (pt (bx++[.dT<|gs.map ke]) n p)=.nx (oE n bx.length (hs rs ks [] hd) near many (xN i) y6 y7 y8 x9 bh) (pt (bx++[.dT<|g2.map ke]) n q) /\ Gz rs.length ks.length (i+1) g2:=by
 have sz:=bj;have r1:=H.r1;have r5:=H.r5;have k1:=H.k1;have k4:=H.k4;have hb:n<(bx++[Bx.dT<|gs.map ke]).length:=by simp;lia
 let#[ra,p1,ta,a0,a1]:=kh hb p 9 zd zd;let#[rb,p2,t2,b0,b1]:=kh hb p1 30 zd zd;let#[rc,p3,t3,c0,c1]:=kh hb p2 3 zd zd;let#[k,p4,t4,d0,d1]:=kh hb p3 ks.length za za;let#[r,p5,t5,e0,e1]:=kh hb p4 rs.length za za;let#[h',p6,t6,f0,f1]:=kh hb p5 6 zd zd;let#[w,p7,t7,j0,j1]:=kh hb p6 9 zd zd;let#[d,ed,md]:=j7 (l:=[D.int 3,.int ra,.int rb]) c0 c1;obtain⟨rp,rfl,aiq,ajR⟩:∃ rp:Int,d=.int rp /\ 0<=rp /\ rp<=29:=by
  erw[ba,nP,or_false]at md;rcases md with rfl|rfl|rfl<;>show#[_,rfl,by lia,by lia]
 let#[g2,e2,S2]:=putK (env:=oE n bx.length (hs rs ks [] hd) near many (xN i) (xN rp) (xN k) (xN r) x9 bh) (m:=(fN<|fe (fq K1.fm 2<|fe (dV 0)<|fe (dC<|.int 6) fj)<|fe (dC<|.str "in")<|fe (dV 5)<|fe (dV 7)<|fe (dV 8)<|fe (dV 6)<|fe (fq K1.fm 2<|fe (dV 0)<|fe (dC<|.int 9) fj) fj)) (g:=.aG h' i k r rp w) h S za #[#[f0,#[by lia,by lia],#[d0,d1],#[e0,e1],#[aiq,by lia],j0,by lia],by change h'<40;lia] zc<|fX [.int h',.str "in",.int i,.int k,.int r,.int rp,.int w] (fi (t6 zc zc)<|fi zc<|fi zc<|fi zc<|fi zc<|fi zc<|fi (t7 zc zc) zc) zh;show#[g2,_,_,_,_,qS (fF (r:=.old<|.int rp) (lX [.int 3,.int ra,.int rb] (fi zc<|fi (ta zc zc)<|fi (t2 zc zc) zc) zh) (t3 zc zc) (by erw[ak,ed,pd]))<|(fr<|cA.jB<|fi (t4 zc<|Uv zc)<|fi (t5 zc<|N9 zc) zc).trans e2,S2]
theorem Wb (H:Hs rs ks [] hd) (h:n<bx.length) (S:Gz rs.length ks.length i gs) (i9:i<=99) (n0:0<near) (n1:near<=30) (m0:0<many) (m1:many<=9) (x5 x6 x7 x8 x9 bh:Option W) :
 ∃ g2 q y5 bL,Y3 (oE n bx.length (hs rs ks [] hd) near many x5 x6 x7 x8 x9 bh) (pt (bx++[.dT<|gs.map ke]) n p)=.nx (oE n bx.length (hs rs ks [] hd) near many y5 x6 x7 x8 x9 bL) (pt (bx++[.dT<|g2.map ke]) n q) /\ Gz rs.length ks.length (i+1) g2:=by
 have sz:=bj;have r1:=H.r1;have r5:=H.r5;have hb:n<(bx++[Bx.dT<|gs.map ke]).length:=by simp;lia
 let#[ra,p1,ta,a0,a1]:=kh hb p near za za;let#[l,p2,t2,b0,b1]:=kh hb p1 many za za;let#[r,p3,t3,c0,c1]:=kh hb p2 rs.length za za;let#[rd,p4,t4,d0,d1]:=kh hb p3 4 zd zd;let#[d,ed,md]:=j7 (l:=[enc<|.out (3+ra) l,enc<|.to (3+ra) l r]) (i:=rd / 3) za (by change _<(2);lia);have cd:yJ rd 3:=by unfold yJ;lia
 obtain⟨g,rfl,og⟩:∃ g,d=enc g /\ Gd rs.length ks.length 40 g:=by
  erw[ba,nP,or_false]at md;rcases md with rfl|rfl
  .show#[_,rfl,#[by lia,by lia,by lia],by change 3+ra<40;lia]
  .show#[_,rfl,#[by lia,#[by lia,by lia],by lia,by lia],by change 3+ra<40;lia]
 let#[g2,e2,S2]:=putK (env:=oE n bx.length (hs rs ks [] hd) near many (xN l) x6 x7 x8 x9<|xN<|3+ra) (m:=(d2 af ak (gR af<|fe (fN<|fe (dV 10)<|fe (dC<|.str "out")<|fe (dV 5) fj)<|fe (fN<|fe (dV 10)<|fe (dC<|.str "to")<|fe (dV 5)<|fe (fq K1.fm 2<|fe (dV 0)<|fe (dN af cY<|fe (d2 af ak (dV 1) ze) fj) fj) fj) fj)<|d2 af sH (fq K1.fm 2<|fe (dV 0)<|fe (dC<|.int 4) fj)<|dC<|.int 3)) (q:=p4) h S za og zc<|fF (y:=.int<|rd / 3) (r:=.old<|enc g) (lX [enc<|.out (3+ra) l,enc<|.to (3+ra) l r] (fi (fX [.int<|3+ra,.str "out",.int l] zc zh)<|fi (fX [.int<|3+ra,.str "to",.int l,.int r] (fi zc<|fi zc<|fi zc<|fi (t3 zc<|N9 zc) zc) zh) zc) zh) (fF (x:=.int rd) (y:=.int 3) (r:=.old<|.int<|rd / 3) (t4 zc zc) zc (by simp[sH,cd])) (by erw[ak,ed,pd]);show#[g2,_,_,_,(fr<|cA.jB<|fi (fF (x:=.int 3) (y:=.int ra) (r:=.old<|.int<|3+ra) zc (ta zc zc) zc)<|fi (t2 zc zc) zc).trans e2,S2]
theorem Rv (H:Hs rs ks [] hd) (h:n<bx.length) (p) (n0:0<near) (n1:near<=30):∃ gs q,lg [.b n,.d<|hs rs ks [] hd,.d<|.int near] (pt bx n p)=.val (.d<|.lst<|gs.map enc) (pt bx n q) /\ Gz rs.length ks.length 16 gs:=by
 have sz:=bj;have h0:n<(bx++[Bx.dT []]).length:=by simp;lia
 let#[r7,p1,t7,a0,a1]:=kh h0 p 7 zd zd;let#[c,hc]:=EL (show 0<=2+r7 by lia)
 let#[env1,bx1,f1,gs,x5,x6,x7,x8,q1,rfl,rfl,S1]:=j6 (g:=fg 5) (λi env bb=>∃ (gs:List Pg) (x5 x6 x7 x8:Option W) (q:Int),env=oE n bx.length (hs rs ks [] hd) near (2+r7) x5 x6 x7 x8 ag ag /\ bb=pt (bx++[.dT<|gs.map ke]) n q /\ Gz rs.length ks.length i gs) (fK 0 c) 0 (oE n bx.length (hs rs ks [] hd) near (2+r7) ag ag ag ag ag ag) (pt (bx++[.dT<|([]:List Pg).map ke]) n p1) #[[],_,_,_,_,_,rfl,rfl,.nil,λ_ m=>(nomatch m),aC _] (by
  rintro i w env bb hw ⟨gs,x5,x6,x7,x8,q,rfl,rfl,S⟩;let#[rfl,hi]:=BG hw;rw[xW]at S;let#[g2,q',y6,y7,y8,e,S2]:=Wa (p:=q) (near:=near) (many:=2+r7) H h S za x6 x7 x8 ag ag;rw[W9];show#[_,_,_,_,rfl,e,g2,_,_,_,_,q',rfl,rfl,by rw[xW];show S2])
 rw[show 0+(fK 0 c).length=c by simp[fK]]at S1;have h1:n<(bx++[Bx.dT<|gs.map ke]).length:=by simp;lia
 let#[r8,q2,t8,b0,b1]:=kh h1 q1 8 zd zd;let#[c2,hZ]:=EL b0
 let#[env2,bx2,f2,uD,y5,y9,bL,q3,rfl,rfl,S2]:=j6 (g:=fg 9) (body:=Y3) (λi env bb=>∃ (gs:List Pg) (x5 x9 bh:Option W) (q:Int),env=oE n bx.length (hs rs ks [] hd) near (2+r7) x5 x6 x7 x8 x9 bh /\ bb=pt (bx++[.dT<|gs.map ke]) n q /\ Gz rs.length ks.length (c+i) gs) (fK 0 c2) 0 (oE n bx.length (hs rs ks [] hd) near (2+r7) x5 x6 x7 x8 ag ag) (pt (bx++[.dT<|gs.map ke]) n q2) #[gs,_,_,_,_,rfl,rfl,S1] (by
  rintro i w env bb hw ⟨gs,x5,x9,bh,q,rfl,rfl,S⟩;let#[rfl,hi]:=BG hw;let#[g2,q',y5,bL,e,S2]:=Wb (p:=q) (near:=near) (many:=2+r7) H h S za n0 n1 za za x5 x6 x7 x8 (xN<|0+(i:Int)) bh;show#[_,_,_,_,rfl,e,g2,_,_,_,q',rfl,rfl,S2])
 rw[show c+(0+(fK 0 c2).length)=c+c2 by simp[fK]]at S2;let#[ds,q4,e3,pm]:=PY (bx:=bx++[.dT<|uD.map ke]) (n:=n) zh q3 (uD.map enc) (by have:=S2.2.2;simp;lia);let#[g3,rfl,pg]:=oG pm zc;have lt:Qp af (dV 3) (oE n bx.length (hs rs ks [] hd) near (2+r7) y5 x6 x7 x8 y9 bL) (pt (bx++[.dT<|uD.map ke]) n q3)=.val (.d<|.lst<|uD.map enc) (pt (bx++[.dT<|uD.map ke]) n q3):=by
  have b1:=jm (p:=q3) (x:=.dT<|uD.map ke) h;have v4:dV 3 (oE n bx.length (hs rs ks [] hd) near (2+r7) y5 x6 x7 x8 y9 bL) (pt (bx++[.dT<|uD.map ke]) n q3)=.val (.b bx.length) (pt (bx++[.dT<|uD.map ke]) n q3):=rfl;unfold Qp;rw[v4,fM];erw[b1,PZ];rfl
 refine#[g3,q4,?_,pg.nodup_iff.mpr S2.1,λg m=>S2.2.1 g<|pg.mem_iff.mp m,by rw[pg.length_eq];have:=S2.2.2;lia];have dt:uZ [xB n,ae<|.d<|hs rs ks [] hd,xN near,ag,ag,ag,ag,ag,ag,ag,ag] (pt bx n p)=.val (.b bx.length) (pt (bx++[.dT<|([]:List Pg).map ke]) n p):=by
  unfold uZ;rw[gM,m7 h];rfl
 have air:d8 (fe (dV 4) fj) (oE n bx.length (hs rs ks [] hd) near (2+r7) ag ag ag ag ag ag) (pt (bx++[.dT<|([]:List Pg).map ke]) n p1)=.val (fK 0 c) (pt (bx++[.dT<|([]:List Pg).map ke]) n p1):=by
  have:=lV (k:=fe (dV 4) fj) (env:=oE n bx.length (hs rs ks [] hd) near (2+r7) ag ag ag ag ag ag) (bx:=pt (bx++[.dT<|([]:List Pg).map ke]) n p1) (bx1:=pt (bx++[.dT<|([]:List Pg).map ke]) n p1) (j:=2+r7) zc za;rw[hc,nv]at this;rw[hc];show this
 have ais:d8 (fe (fq K1.fm 2<|fe (dV 0)<|fe (dC<|.int 8) fj) fj) (oE n bx.length (hs rs ks [] hd) near (2+r7) x5 x6 x7 x8 ag ag) (pt (bx++[.dT<|gs.map ke]) n q1)=.val (fK 0 c2) (pt (bx++[.dT<|gs.map ke]) n q2):=by
  have:=lV (k:=fe (fq K1.fm 2<|fe (dV 0)<|fe (dC<|.int 8) fj) fj) (env:=oE n bx.length (hs rs ks [] hd) near (2+r7) x5 x6 x7 x8 ag ag) (bx:=pt (bx++[.dT<|gs.map ke]) n q1) (bx1:=pt (bx++[.dT<|gs.map ke]) n q2) (j:=r8) (fi (t8 zc zc) zc) za;rw[hZ,nv]at this;show this
 refine(j8 (ws:=[.b n,.d<|hs rs ks [] hd,.d<|.int near]) (d:=.lst<|g3.map enc) (bx':=pt (bx++[.dT<|uD.map ke]) n q4)<|(fr<|cA.jB<|fi dt<|fi (fF (x:=.int 2) (y:=.int r7) (r:=.old<|.int<|2+r7) zc (t7 zc zc) zc) zc).trans<|(fr<|(gH air).trans f1).trans<|(fr<|(gH ais).trans f2).trans<|fS<|fL (l:=[.b n,.d<|.lst<|uD.map enc]) (fi zc<|fi lt zc) zc e3).trans ?_;rw[gM,BF h]
end
section
variable {qs:List Pg}
theorem Uw {W}(h:(qN f k (ag,v) W).1=ae e):∃ g∈W,ax g=e:=by
 rcases l7 f k W (ag,v) with⟨_,z⟩|⟨T1,g,T2,z,w,_⟩
 .rw[z]at h;cases h
 .rw[w]at h;injection h with h;show#[g,(cX.mp (show g∈kG k W by rw[z];simp)).1,h]
theorem oT:∀ {q2}{K R}{Q},(∀ x∈Q,x∈qs)->(∀ x∈q2,x∈qs)->(dA fv ps K R Q q2).length<=q2.length /\ ∀ t∈dA fv ps K R Q q2,t.1∈qs /\ ∃ g∈qs,ax g=t.2
 |[],_,_,_,_,_=>#[aC _,λ_ m=>nomatch m]
 | g::q2,K,R,Q,hQ,h2=>by
   have h3:=λx m=>h2 x<|a8 _ m;have hg:=h2 g<|bA ..;unfold dA;split
   .let#[l,i]:=oT (Q:=wt Q g) (λx m=>by
     cases g with
     |aG=>show(List.mem_append.mp m).elim (hQ x) λm=>by rw[di.mp m];show hg
     |to=>show hQ x m
     |out=>show hQ x (cX.mp m).1) h3
    cases c:pL fv Q g with
    |none=>show#[xX l,i]
    |some e=>
      refine#[WD l,λt m=>?_];rcases ba.mp m with rfl|m
      .refine#[hg,?_];cases g with
       |out h' l'=>
         let#[y,m,z]:=Uw c;show#[y,hQ y (cX.mp<|(l8 _).mem_iff.mp m).1,z]
       |_=>cases c
      .show i t m
   .let#[l,i]:=oT hQ h3;show#[xX l,i]
theorem GH:∀ {q2}{K R},∀ x∈aZ ps K R q2,x.1∈q2
 |[],_,_=>λ_ m=>nomatch m
 | g::q2,K,R=>λx m=>by
   unfold aZ at m;split at m
   .rcases ba.mp m with rfl|m
    .show bA ..
    .show a8 _<|GH x m
   .show a8 _<|GH x m
theorem aee (o:sZ nr nk g):0<=ax g /\ ax g<=9:=by
 cases g with
 |out=>show o.2
 |_=>show o.2.1
abbrev tH (T:List<|Pg×Int) (U:List Int):D:=.tup [.lst<|T.map c6,.lst<|U.map D.int]
theorem Ux (Z:Sc rs ks ps hd rl hold kl op gs qs) (hb:∀ g∈qs,(aH g).natAbs<=10 ^ 41):rL (tH (dA (bz rl hold op kl ps qs) ps [] [] [] qs)<|sortI<|cU rl hold op kl ps qs<|aZ ps [] [] qs)=ah:=by
 have sz:=bj;have zl:=Z.l;let#[tl,ti]:=oT (q2:=qs) (Q:=[]) (λ_ m=>nomatch m) λ_ m=>m;have ub:∀ u∈sortI (cU rl hold op kl ps qs<|aZ ps [] [] qs),u.natAbs<=10 ^ 41:=λu m=>by
  let#[g,mg,e]:=List.mem_filterMap.mp<|(gk _).mem_iff.mp m;let#[x,mx,rfl]:=a9.mp mg;have:=aee<|Z.ok x.1<|GH x mx;cases hx:x.1 with
  |out h' l=>
    rw[hx]at this e;have e:(if k9 rl hold op kl ps qs h' l then ae l else ag)=ae u:=e;split at e
    .injection e with e;have:0<=l /\ l<=9:=this;lia
    .cases e
  |_=>rw[hx]at e;cases e
 have ul:(sortI<|cU rl hold op kl ps qs<|aZ ps [] [] qs).length<=16:=by
  have:=IW (qr<|k9 rl hold op kl ps qs) ((aZ ps [] [] qs).map (·.1));have:=iY (ps:=ps) (gs:=qs) (K:=[]) (R:=[]);rw[(gk _).length_eq];rw[aK]at *;change (List.filterMap _ _).length<=16;lia
 generalize sortI (cU rl hold op kl ps qs<|aZ ps [] [] qs)=U at *;generalize dA (bz rl hold op kl ps qs) ps [] [] [] qs=T at *;have a:=bp.of (a:=2) (b:=16000) (l:=T.map c6) λd m=>by
  let#[x,mx,rfl]:=a9.mp m;let#[m1,g,m2,e]:=ti x mx;have:=aee<|Z.ok g m2;show(Sm.tup<|bp.cons (JD zd Z.X.H.r5 Z.X.H.k4 (Z.ok _ m1)<|hb _ m1)<|bp.cons (Sm.int za) bp.nil).mono zd zd
 have b:=bp.of (a:=2) λd m=>by
  let#[u,mu,rfl]:=a9.mp m;show Sm.int<|ub u mu
 rw[aK]at a b;show BA (Sm.tup<|bp.cons (Sm.lst a)<|bp.cons (Sm.lst b) bp.nil) zd zd za
theorem VN (X:Hk rs ks [] hd rl hold kl):Sm (10 ^ 41) 4 1000000 (hs rs ks [] hd):=by
 have it:∀ {i}{a},i.natAbs<=10 ^ 41->Sm (10 ^ 41) a 1921 (.int i):=λh=>Sm.int h;have r5:=X.H.r5;have k4:=X.H.k4;have rm:=bp.of (a:=2) (l:=rl.map D.int) λd m=>by
  let#[c,mc,rfl]:=a9.mp m;show it (by have:=X.r c mc;lia)
 have km:=bp.of (a:=2) (b:=9625) λd m=>by
  let#[q,mq,rfl]:=a9.mp m;have kq:=X.k q mq;have rr:=bp.of (a:=0) (l:=q.2.map D.int) λd m=>by
   let#[c,mc,rfl]:=a9.mp m;show it (by have:=kq.2.2.2 c mc;lia)
  rw[aK,kq.2.2.1]at rr;show(Sm.tup<|bp.cons (it (i:=q.1) za)<|bp.cons (Sm.tup rr) bp.nil).mono zd zd
 rw[X.er]at r5;rw[X.ek]at k4;have all:=Sm.tup<|bp.cons (Sm.tup rm)<|bp.cons (Sm.tup km)<|bp.cons ((Sm.tup bp.nil))<|bp.cons (it (i:=hold) (by have:=X.h;lia)) bp.nil;rw[X.er,X.ek,X.eh];refine all.mono (aC _) ?_;rw[aK]at r5 k4;rw[aK,aK];lia
theorem Dw (h:k env B=.val ws B1) (r:d7 B1 ws=ae ds) (c:rL (.tup ds)=ah) (l:ds.length<=100):vf k env B=.val (.d<|.str (toPy<|.tup ds).shown) B1:=by
 have sz:=bj;unfold vf;rw[h,fM];erw[r];rw[if_pos #[c,by lia]]
theorem JT (x):kZ (.str x) (.str x)=ae (.old<|.bl af):=by
 rw[aI.ne_str,decide_eq_true rfl];rfl
noncomputable abbrev QN (l:List Int) (k:Int) (n:Nat) (W0 H:D) (x5 x6:Option W) (O P:D) (x9:Option W) (Du Ke:D) (cC cH cu:Option W):bu:=[ae<|.s l,ae<|.d<|.int k,ae<|.b n,ae<|.d W0,ae<|.d H,x5,x6,ae<|.d O,ae<|.d P,x9,ae<|.d Du,ae<|.d Ke,cC,cH,cu]
theorem VO (Z:Sc rs ks ps hd rl hold kl op gs qs) (tb:B[0]?=ae qO) (sd:rL (tH (dA (bz rl hold op kl ps qs) ps [] [] [] qs)<|sortI<|cU rl hold op kl ps qs<|aZ ps [] [] qs)=ah) (sk:rL (.tup [hs rs ks ps hd,.tup<|op.map dP,.lst<|gs.map enc])=ah) (l) (k) (n) (W0) (x5 x6 x9 cC cH cu) :
 ∃ dD dE B',Y6 (QN l k n W0 zb x5 x6 zk (.lst<|gs.map enc) x9 (tH (dA (bz rl hold op kl ps qs) ps [] [] [] qs)<|sortI<|cU rl hold op kl ps qs<|aZ ps [] [] qs) (.str (toPy<|.tup [hs rs ks ps hd,.tup<|op.map dP,.lst<|gs.map enc]).shown) cC cH cu) B=.nx (QN l k n W0 zb x5 x6 zk (.lst<|gs.map enc) x9 (tH (dA (bz rl hold op kl ps qs) ps [] [] [] qs)<|sortI<|cU rl hold op kl ps qs<|aZ ps [] [] qs) (.str (toPy<|.tup [hs rs ks ps hd,.tup<|op.map dP,.lst<|gs.map enc]).shown) cC dD dE) B' /\ ∀ i<B.length,B'[i]?=B[i]?:=by
 have sz:=bj;have zl:=Z.l;let#[Q',tv]:=Rp Z tb;have tl:=(oT (ps:=ps) (fv:=bz rl hold op kl ps qs) (q2:=qs) (K:=[]) (R:=[]) (Q:=[]) (λ_ m=>nomatch m) λ_ m=>m).1;have ul:(sortI<|cU rl hold op kl ps qs<|aZ ps [] [] qs).length<=16:=by
  have:=IW (qr<|k9 rl hold op kl ps qs) ((aZ ps [] [] qs).map (·.1));have:=iY (ps:=ps) (gs:=qs) (K:=[]) (R:=[]);rw[(gk _).length_eq];rw[aK]at *;change (List.filterMap _ _).length<=16;lia
 have sv:=N6 (B:=Bt B (dA (bz rl hold op kl ps qs) ps [] [] [] qs) Q') Z;generalize sortI (cU rl hold op kl ps qs<|aZ ps [] [] qs)=U at *;generalize cU rl hold op kl ps qs (aZ ps [] [] qs)=U0 at *;generalize dA (bz rl hold op kl ps qs) ps [] [] [] qs=T at *;have e1:(Bt B T Q').length+1=B.length+3:=by simp
 rw[e1]at sv;obtain⟨C,hC⟩:∃ C,C=Bi (Bt B T Q') U0++[.lst<|U.map D.int]:=#[_,rfl];have c0:C[B.length]?=ae (.lst<|T.map c6):=by rw[hC];simp[Bi]
 have c3:C[B.length+3]?=ae (.lst<|U.map D.int):=by rw[hC];simp[Bi]
 have ci:∀ i<B.length,C[i]?=B[i]?:=λi h=>by rw[hC];erw[nO];rw[dZ h]
 rw[<-hC]at sv;have r1:∀ {env:bu},env[13]?=ae (xB B.length)->env[14]?=ae (xB<|B.length+3)->vf (fe (dV 13)<|fe (dV 14) fj) env C=.val (.d<|.str (toPy<|tH T U).shown) C:=λa b=>Dw (fi (by rw[iO,a])<|fi (by rw[iO,b]) zc) (by erw[d7,bN,c0,c3,bT,pd]) sd (by change (2:Nat)<=100;decide);have r2:∀ {env:bu}{C:List Bx},env[10]?=ae (ae<|.d<|tH T U)->yM (dV 10) env C=.val (.d<|.str (toPy<|tH T U).shown) C:=λa=>Pv (by rw[iO,a]) sd;have r3:∀ {env:bu}{C:List Bx},fe (dV 4) (fe (dV 7)<|fe (dV 8) fj) env C=.val [.d zb,.d zk,.d<|.lst<|gs.map enc] C->vf (fe (dV 4)<|fe (dV 7)<|fe (dV 8) fj) env C=.val (.d<|.str (toPy<|.tup [hs rs ks ps hd,.tup<|op.map dP,.lst<|gs.map enc]).shown) C:=λa=>Dw a zc sk (by change (3:Nat)<=100;decide);generalize (toPy<|.tup [hs rs ks ps hd,.tup<|op.map dP,.lst<|gs.map enc]).shown=kept at *;generalize (toPy<|tH T U).shown=ds at *
 let E:=QN l k n W0 zb x5 x6 zk (.lst<|gs.map enc) x9 (tH T U) (.str kept) cC (xB B.length)<|xB<|B.length+3
 have a1:=lY (m:=dV 13) (k:=fN<|fe (fN<|fe ze<|fe (dC<|.str "out")<|fe ze fj)<|fe zf fj) (env:=E) (d:=.tup [.tup [.int 0,.str "out",.int 0],.int 1]) zc c0 (fX [.tup [.int 0,.str "out",.int 0],.int 1] (fi (fX [.int 0,.str "out",.int 0] zc (by change (3:Nat)<=_;lia)) zc) (by change (2:Nat)<=_;lia)) c0 (by rw[aK];lia);obtain⟨C2,Zd⟩:∃ C2,C2=C.set B.length (.lst<|T.map c6++[.tup [.tup [.int 0,.str "out",.int 0],.int 1]]):=#[_,rfl];rw[<-Zd]at a1;have c4:C2[B.length+3]?=ae (.lst<|U.map D.int):=by rw[Zd,nN za];show c3
 have a2:yZ (dV 14) ze (dC<|.int 9) E C2=.val (.d .az) (C2.set (B.length+3)<|.lst (.int 9::U.map D.int)):=by
  unfold yZ;rw[show dV 14 E C2=.val (.b<|B.length+3) C2 from rfl,fM];erw[c4,Tt,fM];rw[if_pos #[by decide,by lia,by rw[aK];lia]];rfl
 refine#[xB B.length,xB<|B.length+3,C2.set (B.length+3)<|.lst (.int 9::U.map D.int),(fr<|cA.jB<|fi (cV tv)<|fi (cV sv) zc).trans<|qF (mM (fV<|fF (r:=.old<|.bl af) (r1 zc zc) (r2 zc)<|JT ds)<|fV<|fF (r:=.old<|.bl af) (r3 zc) zc<|JT kept)<|qE a1<|gK a2,λi h=>?_];rw[nN za,Zd,nN za];show ci i h
def Pb (n:Nat) (B:List Bx):zm:=B[0]?=ae qO /\ ∃ q,B[n]?=ae (.lst [.int q])
theorem Pb.of (h:Pb n B) (e:∀ i<B.length,C[i]?=B[i]?):Pb n C:=by
 let#[t,q,p]:=h;show#[(e 0 (List.getElem?_eq_some_iff.mp t).1).trans t,q,(e n (List.getElem?_eq_some_iff.mp p).1).trans p]
noncomputable abbrev Ze (l:List Int) (k:Int) (n:Nat) (W0 H:D) (x5 x6 x7 x8 x9 bh dU cC cH cu:Option W):bu:=[ae<|.s l,ae<|.d<|.int k,ae<|.b n,ae<|.d W0,ae<|.d H,x5,x6,x7,x8,x9,bh,dU,cC,cH,cu]
theorem Wc (X:Hk rs ks [] hd rl hold kl) (hb:Pb n B) (l) (k) (W0) (x5 x6 x7 x8 x9 bh dU cC cH cu) :
 ∃ y6 y7 y8 y9 bL kH eC dD dE B',Y7 (Ze l k n W0 (hs rs ks [] hd) x5 x6 x7 x8 x9 bh dU cC cH cu) B=.nx (Ze l k n W0 (hs rs ks [] hd) x5 y6 y7 y8 y9 bL kH eC dD dE) B' /\ Pb n B':=by
 have sz:=bj;let#[t0,q0,p0]:=hb;have hn:n<B.length:=(List.getElem?_eq_some_iff.mp p0).1;have n0:0≠n:=λz=>by rw[<-z,t0]at p0;cases p0
 have eB:B=pt B n q0:=by
  unfold pt;refine vq λi=>?_;by_cases c:n=i
  .rw[<-c,p0,pN hn]
  .rw[nN c]
 have tA:∀ q,Pb n (pt B n q):=λq=>#[by unfold pt;rw[nN<|Ne.symm n0];show t0,q,Gu hn];let#[near,q1,t1,mn]:=adF hn q0 [6,30] (fe (dC<|.int 6)<|fe (dC<|.int 30) fj) (λ_ _=>rfl) zc (by decide) zd;have aef:0<near /\ near<=30:=by simp at mn;lia
 let#[gs,q2,e2,nd,ok,gl]:=Rv X.H hn q1 aef.1 aef.2;let#[op,q4,e4,O]:=NX (nr:=12) zd zd hn q2;let#[qP,q5,e5,c0,c1]:=VE hn q4 O.l (gs:=gs) za;have O2:Ot (op.map<|wb qP) (10 ^ 40):=#[by rw[aK];show O.l,λx m=>by
  let#[y,my,rfl]:=a9.mp m;have:=O.b y my;show#[by change 0<=y.1+qP;lia,by change y.1+qP<y.2+qP;lia,by change y.2+qP<=_;lia],FL O.a]
 have l1:(gs.map<|sh qP).length<=16:=by rw[aK];show gl
 have o1:∀ g∈gs.map (sh qP),Lt rs.length ks.length g:=λg m=>by
  let#[g0,m0,rfl]:=a9.mp m;show Vs (ok g0 m0) c0 c1<|Kh _
 have n1:(gs.map<|sh qP).Nodup:=rX.mpr<|nd.imp λh z=>h<|Ub z;generalize gs.map (sh qP)=g1 at *;generalize op.map (wb qP)=oo at *;let#[qs,pq,ait,so]:=Js n1 za;have Z:Sc rs ks [] hd rl hold kl oo g1 qs:=#[X,#[λg m=>(o1 g m).1,n1,l1],so g1<|.refl _,pq,ait,O2.l,λx m=>#[(O2.b x m).1,(O2.b x m).2.1],O2.a];have lt:iZ [.d<|hs rs ks [] hd,.d<|.tup<|oo.map dP,.d<|.lst<|g1.map enc] (pt B n q5)=.val (.d<|tH (dA (bz rl hold oo kl [] qs) [] [] [] [] qs)<|sortI<|cU rl hold oo kl [] qs<|aZ [] [] [] qs) (pt B n q5):=N8 Z;have sd:=Ux Z λg m=>cj (o1 g<|pq.mem_iff.mp m).2 zd;have sk:rL (.tup [hs rs ks [] hd,.tup<|oo.map dP,.lst<|g1.map enc])=ah:=by
  have a:=VN X;have b:=bp.of (B:=10 ^ 41) (a:=1) (l:=oo.map dP) λd m=>by
   let#[x,mx,rfl]:=a9.mp m;have:=O2.b x mx;show(Sm.tup<|bp.cons (Sm.int za)<|bp.cons (Sm.int za) bp.nil)
  have cc:=bp.of (B:=10 ^ 41) (a:=1) (b:=14000) (l:=g1.map enc) λd m=>by
   let#[g,mg,rfl]:=a9.mp m;show JD zd X.H.r5 X.H.k4 (o1 g mg).1<|cj (o1 g mg).2 zd
  rw[aK]at b cc;have ol:=O2.l;refine BA (Sm.tup<|bp.cons a<|bp.cons ((Sm.tup b).mono (show _<=4 by decide)<|aC _)<|bp.cons ((Sm.lst cc).mono (show _<=4 by decide)<|aC _) bp.nil) zd zd za
 have aiu:=λ(B:List Bx) (tb:B[0]?=ae qO) (cC cH cu:Option W)=>VO Z tb sd sk l k n W0 x5 (ae<|.d<|.lst<|gs.map enc) (xN qP) cC cH cu;have r3:∀ {env:bu}{C:List Bx},fe (dV 4) (fe (dV 7)<|fe (dV 8) fj) env C=.val [.d<|hs rs ks [] hd,.d<|.tup<|oo.map dP,.d<|.lst<|g1.map enc] C->vf (fe (dV 4)<|fe (dV 7)<|fe (dV 8) fj) env C=.val (.d<|.str (toPy<|.tup [hs rs ks [] hd,.tup<|oo.map dP,.lst<|g1.map enc]).shown) C:=λa=>Dw a zc sk (by change (3:Nat)<=100;decide);clear sd sk;generalize (toPy<|.tup [hs rs ks [] hd,.tup<|oo.map dP,.lst<|g1.map enc]).shown=kept at *;generalize tH (dA (bz rl hold oo kl [] qs) [] [] [] [] qs) (sortI<|cU rl hold oo kl [] qs<|aZ [] [] [] qs)=du at *
 let E:=QN l k n W0 (hs rs ks [] hd) x5 (ae<|.d<|.lst<|gs.map enc) (.tup<|oo.map dP) (.lst<|g1.map enc) (xN qP) du<|.str kept
 let#[aP,b',e,eC,dD,dE,rfl,hp]:=j6 (g:=fg 12) (body:=Y6) (λ_ env b=>∃ eC dD dE,env=E eC dD dE /\ Pb n b) (fK 0 2) 0 (E cC cH cu) (pt B n q5) #[_,_,_,rfl,tA q5] (by
  rintro i w env b hw ⟨eC,dD,dE,rfl,hp⟩;let#[Zb,Zc,b',e,hi]:=aiu b hp.1 (ae w) dD dE;show#[E (ae w) dD dE,b,_,_,rfl,e,_,_,_,rfl,hp.of hi])
 refine#[ae<|.d<|.lst<|gs.map enc,ae<|.d<|.tup<|oo.map dP,ae<|.d<|.lst<|g1.map enc,xN qP,ae<|.d du,ae<|.d<|.str kept,eC,dD,dE,b',?_,hp];rw[eB];show qS (fL (l:=[.b n,.d<|hs rs ks [] hd,.d<|.int near]) (fi zc<|fi zc<|fi (t1 _ 2 zc) zc) zc e2)<|qG (fL (l:=[.b n,.d zk,.d<|.lst<|gs.map enc]) (fi zc<|fi (fL (l:=[.b n,.d<|.int 12]) zc zc e4)<|fi zc zc) zc e5) zc<|(fr<|cA.jB<|fi (cV lt)<|fi (r3 zc) zc).trans<|(gH<|aI.VC 2 zd _ _).trans e
end
theorem VP (k1:1<=ks.length) (r0:0<=r):∃ m,1<=m /\ DL.cutD ks ag (ae<|1+r)=ks.take m:=by
 refine#[HT.bf ks.length ks.length<|ae<|1+r,?_,?_]
 .change 1<=(if (1+r)<0 then (1+r+(ks.length)).toNat else min (1+r).toNat ks.length);lia
 .unfold DL.cutD;rw[HT.DC,aaB,IE]
theorem Uy (H:Hs rs ks ps hd) (m1:1<=m):Hs rs (ks.take m) [] hd:=by
 have k1:=H.k1;have k4:=H.k4;have lk:1<=(ks.take m).length /\ (ks.take m).length<=4:=by rw[wy];lia
 refine#[H.r1,H.r5,lk.1,lk.2,λ_ m=>(nomatch m),dJ _,?_];have h:=H.hh;simp[house,aF]at h ⊢;refine#[h.1,?_,rfl,h.2.2.2];have h2:=h.2.1;simp[kinds,aF,dF]at h2 ⊢;show#[by erw[tl];simp;lia,λx mx=>h2.2 x<|List.mem_of_mem_take mx]
abbrev aeg:aA:=(fu (fI (fq K1.jT 1<|fe (fq K1.ig 2<|fe (dV 0)<|fe (dV 1) fj) fj)<|fg 2)<|fu (fI (fq aI.iS 1<|fe (dV 2) fj)<|fg 3)<|fu (fI (fN<|fe (d2 af ak (dV 3) ze)<|fe (p9 af (d2 af ak (dV 3) zf) qJ<|p8<|d2 af f8 zf<|fq K1.fm 2<|fe (dV 2)<|fe (dC<|.int 2) fj)<|fe (fN fj)<|fe (d2 af ak (dV 3)<|dC<|.int 3) fj)<|fg 4)<|ic (d8<|fe (dC<|.int 3) fj) (fg 5) Y7)
theorem Wd:Sh=fu (ic (d8<|fe (dN af maxD<|fe zf<|fe (dN af minD<|fe (vU<|dV 0)<|fe (dC<|.int 4) fj) fj) fj) (fg 1) aeg) (fJ<|dC<|.bl ah):=rfl
theorem gY {α:Type}{l:List α}(h:l.length=n+1):∃ x t,l=x::t /\ t.length=n:=by
 cases l with
 |nil=>cases h
 |cons x t=>show#[x,t,rfl,Nat.succ.inj h]
theorem VQ (l) (k:Nat) (bx) (tb:bx[0]?=ae qO) (xs:bu) (hx:xs.length=13):∃ (ys:bu) (bx':List Bx),ys.length=14 /\ bx'[0]?=ae qO /\ aeg (ae (.s l)::xN (k)::xs) bx=.nx (ae (.s l)::ys) bx':=by
 iterate 3 (have h:=gY hx;clear hx;let#[_,xs,rfl,hx]:=h)
 have h:=gY hx;clear hx;let#[x5,xs,rfl,hx]:=h;have h:=gY hx;clear hx;let#[x6,xs,rfl,hx]:=h;have h:=gY hx;clear hx;let#[x7,xs,rfl,hx]:=h;have h:=gY hx;clear hx;let#[x8,xs,rfl,hx]:=h;have h:=gY hx;clear hx;let#[x9,xs,rfl,hx]:=h;have h:=gY hx;clear hx;let#[bh,xs,rfl,hx]:=h;have h:=gY hx;clear hx;let#[dU,xs,rfl,hx]:=h;have h:=gY hx;clear hx;let#[cC,xs,rfl,hx]:=h;have h:=gY hx;clear hx;let#[cH,xs,rfl,hx]:=h;have h:=gY hx;clear hx;let#[cu,xs,rfl,hx]:=h;cases yd hx;have sz:=bj;let#[c,ec]:=TQ l k bx;let#[p,ep]:=Ve c bx;have b0:0<bx.length:=(List.getElem?_eq_some_iff.mp tb).1;obtain⟨A,hn,pA,tA⟩:∃ A:List Bx,bx.length<A.length /\ bx++[Bx.lst [D.int p]]=pt A bx.length p /\ ∀ q,Pb bx.length (pt A bx.length q):=
  #[bx++[.lst [.int p]],by simp,by unfold pt;simp,λq=>#[by unfold pt;rw[nN za,dZ b0];show tb,q,Gu zg]]
 rw[pA]at ep;generalize bx.length=n at *;let#[rs,ks,ps,hd,q,eh,H]:=aI.ND hn p;let#[r,q1,tr,r0,r1]:=kh hn q 2 zd zd;let#[m,m1,em]:=VP H.k1 r0;let#[rl,hold,kl,X]:=Vz<|Uy H m1
 let E:=Ze l k n zb<|hs rs (ks.take m) [] hd
 let#[aP,b',e,y5,y6,y7,y8,y9,bL,kH,eC,dD,dE,rfl,hp]:=j6 (g:=fg 5) (λ_ env b=>∃ y5 y6 y7 y8 y9 bL kH eC dD dE,env=E y5 y6 y7 y8 y9 bL kH eC dD dE /\ Pb n b) (fK 0 3) 0 (E x5 x6 x7 x8 x9 bh dU cC cH cu) (pt A n q1) #[_,_,_,_,_,_,_,_,_,_,rfl,tA q1] (by
  rintro i w env b hw ⟨y5,y6,y7,y8,y9,bL,kH,eC,dD,dE,rfl,hp⟩;let#[z6,z7,z8,z9,aeb,aec,aed,Zb,Zc,b',e,hq]:=Wc X hp l k zb (ae w) y6 y7 y8 y9 bL kH eC dD dE;show#[E (ae w) y6 y7 y8 y9 bL kH eC dD dE,b,_,_,rfl,e,_,_,_,_,_,_,_,_,_,_,rfl,hq])
 refine#[_,b',?_,hp.1,qS (fL (fi (fL (fi zc<|fi zc zc) zc ec) zc) zc ep)<|qS (fL (fi zc zc) zc eh)<|qS (fX [.tup rs,.tup<|ks.take m,.tup [],hd] (fi (fF (r:=.old<|.tup rs) zc zc zc)<|fi (M9 (x:=.tup ks) (r:=.tup<|ks.take m) (fF (y:=.int 1) (r:=.old<|.tup ks) zc zc zc) zc (Jq<|fF (x:=.int 1) (y:=.int r) (r:=.old<|.int<|1+r) zc (tr zc zc) zc) (by erw[ue,em]))<|fi (fX [] zc<|dJ _)<|fi (fF (x:=hs rs ks ps hd) (y:=.int 3) (r:=.old hd) zc zc zc) zc) (by change (4:Nat)<=_;lia))<|(gH<|aI.VC 3 zd _ _).trans e];rfl
theorem aiv (l) (bx) (xs:bu):∃ c,d8 (fe (dN af maxD<|fe zf<|fe (dN af minD<|fe (vU<|dV 0)<|fe (dC<|.int 4) fj) fj) fj) (ae (.s l)::xs) bx=.val (fK 0 c) bx:=by
 have e3:=iP [.int 1,.int<|min (l.length) 4] (g:=maxD) (fi (m:=dC _) zc<|fi (iP (env:=ae (.s l)::xs) (bx:=bx) _ (fi (m:=vU<|dV 0) zc<|fi (m:=dC _) (ks:=fj) zc zc)<|Sf _ _) (ks:=fj) zc) zc;generalize hz:(if min (l.length:Int) 4>1 then min (l.length:Int) 4 else 1)=z at e3;show#[z.toNat,lV (fi e3 zc) za]
theorem law_true (l) (hl:l.length<=1000):∃ bx',K31.Dv [.s l] [qO]=.val (.d<|.bl ah) bx':=by
 let#[c,ec]:=aiv l _ _;let#[aP,bx',e,#[ys,rfl,hy],tb]:=j6 (g:=fg 1) (λ_ env b=>(∃ ys,env=ae _::ys /\ ys.length=14) /\ b[0]?=ae qO) (fK 0 c) 0 (ae _::List.replicate 14 ag) [qO] #[#[_,rfl,rfl],rfl] (by
  rintro i w env b hw ⟨⟨ys,rfl,hy⟩,tb⟩;let#[k,_,rfl]:=a9.mp<|tM hw;let#[x,ys,rfl,h]:=gY hy;let#[zs,bx',hz,aiw,e]:=VQ l k b tb ys h;show#[ae _::ae _::ys,b,_,_,by rw[W9];rfl,e,#[zs,rfl,hz],aiw])
 refine#[_,j8 (bx':=bx') ?_];show(fr<|(gH ec).trans e).trans (fS zc)
end K31
namespace L2
open PySem.W

end L2
namespace L2.DL
open PySem.W

structure Cf where
 N:List Str
 nm:List (Str×NameKind)
 f:Bool
 bx:List Str
 dc:List Str
 wk:List (Str×Nat)   -- 1: a tuple of ajS,2: a box that is walked,3: a dict with tuple keys
 QO:Str
 fs:List (Str×(Nat×(List W->List Bx->O W)))
 gl:List (Str×Int)
 bl:List Str
 rb:Bool
 ow:List Str
 lm:Option aq:=ag   -- the table of its code,if it has a aix
 qn:Str:=""
structure c7 (c:Cf) (k:Nat) (X:Cx) (Z:Xs):zm where
 N:X.N=c.N
 nm:X.env.scope.names=c.nm
 kd:X.env.scope.kind=.function
 calm:X.calm=ah
 fn:c.f=ah->∀ x,X.fn x=ah
 ow:∀ x,x∈c.ow->X.fn x=ah
 nd:c.N.Nodup
 room:eS k X.A
 fs:∀ x n fn,c.fs.lookup x=ae (n,fn)->∃ kk ps,uS X.prog X.w X.K X.mg X.base Z.cl kk x ps fn /\ ps.length=n /\ kk<=k
 gl:∀ x v,c.gl.lookup x=ae v->∃ t,X.mg x=ae (.int v t)
 bl:∀ x,x∈c.bl->X.mg x=ag
 aiy:Passes (vP X.prog X.w) X Z.E
 ti:sJ X.K "int"
 tb:sJ X.K "bool"
 tt:sJ X.K "tuple"
 tl:sJ X.K "list"
 own:PassesOwn zi X.A X.env X.xe
 lm:∀ P,c.lm=ae P->∃ cc,X.env.code=.ref cc /\ X.env.qual=c.qn /\ (∀ h,X.K.In h->PySem.W.CodeHd h cc P) /\ X.base.BuiltinsAt X.mg P /\ mainGlobals≠P
noncomputable def aS {α}:DE α:=λ_ _=>.bad

theorem fG:PD X T Z e aS:=λ_ _ _ _ _ _ h=>by
 let#[_,_,_,_,_,h]:=h;show h.elim
theorem gQ:wY X T Z e aS:=λ_ _ _ _ _ _ h=>by
 let#[_,_,_,_,_,h]:=h;show h.elim
theorem JU:K3 X T Z e aS:=λ_ _ _ _ _ _ _ h=>by
 let#[_,_,_,_,_,h]:=h;show h.elim
theorem Dx:yH X T Z tg e aS:=λ_ _ _ _ _ _ h=>by
 let#[_,_,_,_,_,h]:=h;show h.elim
noncomputable def xE:DG:=λ_ _ _=>ag
noncomputable def aiz:vR:=λ_ _ _=>ag
theorem mH:sF X T e xE:=λ_ _ _ _ _ _ _ _ _ h=>by
 let#[_,_,_,_,_,_,_,h]:=h;show h.elim
noncomputable def Cf.kd (c:Cf) (x:Str) (n:Nat):Bool:=match c.wk.lookup x with|some k=>k==n|none=>af
def Im (c:Cf) (n:Nat):aD->Bool
 |.Name x _=>c.kd x n
 |.Subscript _ (.Constant (.str x) _ _) _=>c.kd x n
 |_=>af
noncomputable def xF (c:Cf):aD->Bool
 |.Name x _=>c.dc.contains x
 |.Subscript _ (.Constant (.str x) _ _) _=>c.dc.contains x
 |.Call (.Name x _) _ _ _=>c.dc.contains x
 |_=>af
noncomputable def Cf.ix (c:Cf) (x:Str):Option Nat:=c.N.findIdx? λy=>decide (y=x)
theorem Cf.Zf {c:Cf}(h:c.ix x=ae i):c.N[i]?=ae x:=by
 let#[h1,h2,_]:=List.findIdx?_eq_some_iff_getElem.mp h;rw[dO h1,of_decide_eq_true h2]
noncomputable def Cf.QP (c:Cf) (x:Str):Bool:=(decide (c.nm.lookup x=ae .local)||decide (c.nm.lookup x=ae .cell)||decide (c.nm.lookup x=ae .free))&&!(x==("__debug__"))&&!(x==("__classdict__"))
noncomputable def Cf.Io (c:Cf) (x:Str):Bool:=decide (c.nm.lookup x=ae .globalImplicit)&&!(x==("__debug__"))&&decide (x≠("__name__"))
noncomputable def Cf.xG (c:Cf) (x:Str):Bool:=(decide (c.nm.lookup x=ae .local)||decide (c.nm.lookup x=ae .cell))&&(c.f||decide (x∈c.ow)||decide (c.nm.lookup x=ae .local))
def Cf.ng (c:Cf) (x:Str):Bool:=c.Io x&&decide (x∈c.bl)

theorem c7.aeh (O:c7 c k X Z) (h:c.QP x=ah):yp X.env.scope x /\ (x==("__debug__"))=af /\ (x==("__classdict__"))=af:=by
 erw[Cf.QP,aF,xY,decide_eq_true_eq,tL]at h;unfold yp;rw[O.nm];show#[or_assoc.mp h.1.1,h.1.2,h.2]
theorem c7.gb (O:c7 c k X Z) (h:c.Io x=ah):Gl X x /\ (x==("__debug__"))=af /\ x≠("__name__"):=by
 erw[Cf.Io,aF,decide_eq_true_eq,tL]at h;unfold Gl Env.kindOf;rw[O.nm];show#[h.1.1,h.1.2,h.2]
theorem c7.lo (O:c7 c k X Z) (h:c.xG x=ah):Loc X.env.scope x /\ (X.fn x=ah \/ X.env.scope.names.lookup x=ae .local):=by
 simp[Cf.xG,aF,xY,decide_eq_true_eq]at h;unfold Loc;rw[O.nm];show#[h.1,h.2.imp (λz=>z.elim (λz=>O.fn z x)<|O.ow x) id]
theorem c7.blt (O:c7 c k X Z) (h:c.ng x=ah):Gl X x /\ (x==("__debug__"))=af /\ x≠("__name__") /\ X.mg x=ag:=by
 simp[Cf.ng,aF,decide_eq_true_eq]at h;let#[a,b,d]:=O.gb h.1;show#[a,b,d,O.bl x h.2]
theorem c7.at (O:c7 c k X Z) (h:c.ix x=ae i):X.N[i]?=ae x:=by rw[O.N];show c.Zf h
theorem c7.uC (O:c7 c k X Z):X.N.Nodup:=by rw[O.N];show O.nd
theorem c7.u0 (O:c7 c k X Z):X.A.units+100<cLine:=by have:=O.room.un;lia
theorem c7.u1 (O:c7 c k X Z):X.A.units+1<cLine:=by have:=O.room.un;lia
def Zg (c:Cf) (fz:Bool) (x:Str):DE W:=match c.ix x with
 |some i=>if c.QP x then (if fz&&c.bx.contains x then sQ i else dV i) else aS
 | none=>match c.gl.lookup x with
   |some v=>if c.Io x then dC (.int v) else aS
   |none=>aS
theorem Oa (O:c7 c k X Z) (fz):PD X T Z (.Name x pos) (Zg c fz x):=by
 unfold Zg;split
 .ext i e;split
  .ext h;let#[a,b,d]:=O.aeh h;split
   .show S8 i (O.at e) a b d
   .show Mq i (O.at e) a b d
  .show fG
 .split
  .ext v e;split
   .ext h;let#[a,b,_]:=O.gb h;show(λhg hm hd=>by
     let#[t,hm]:=hm;show DJ (Om (v:=.int v) hg hm #[t,rfl] hd) λ_=>rfl) a (O.gl x v e) b
   .show fG
  .show fG

def wg (f:aD->DE W):List aD->DE (List W)
 |[]=>fj
 |e::es=>if b9 e then fe (f e) (wg f es) else aS
theorem m8 (h:∀ e,PD X T Z e<|f e):∀ es,rC X T Z es (wg f es)
 |[]=>mj
 | e::es=>by
   unfold wg;split
   .ext n;show oH (h e) (m8 h es) n
   .show(λ_ _ _ _ _ _ _ h=>by
    let#[_,_,_,_,_,h]:=h;show h.elim)
def Zh (f:aD->DE W):List aD->DE W
 |[]=>aS
 |[a]=>f a
 |a::r=>gG (f a)<|Zh f r
theorem JV (h:∀ e,PD X T Z e<|f e):∀ es,PD X T Z (.BoolOp .And es pos) (Zh f es)
 |[]=>fG
 |[a]=>(λh=>Sw h)<|h a
 | a::b::r=>(λha hb=>by
   refine PE.imp (Sy ha hb) λσ H Q=>bK λF r env bx R h=>?_;refine#[F,r,env,bx,R,End.bind h λw bx1 F1 r1 v H1 g1 R1 d1 h1=>?_];split at h1
   .show#[ah,d1,(#[F1,r1,env,bx1,R1,h1])]
   .show#[af,d1,(h1 F1 r1 _ H1 (.refl F1 r1) R1 zc)]
   .show h1.elim) (h a)<|JV h _
def Zi (f:aD->DE Bool):List aD->DE Bool
 |[]=>aS
 |[a]=>f a
 |a::r=>pV (f a)<|Zi f r
theorem FP (h:∀ e,wY X T Z e<|t e):∀ es,K3 X T Z (.BoolOp .And es pos) (Zi t es)
 |[]=>JU
 |[a]=>(λh=>Oo h)<|h a
 | a::b::r=>(λha hb=>by
   refine PW.imp (Su ha hb) λσ H Q=>bK λF r env bx R h=>?_;refine#[F,r,env,bx,R,End.bind h λk bx1 F1 r1 v H1 g1 R1 d1 h1=>?_];subst d1;cases k with
   |true=>show#[F1,r1,env,bx1,R1,h1]
   |false=>show h1 F1 r1 _ H1 (.refl F1 r1) R1 zc) (h a)<|FP h _
def Zj (f:aD->DE Bool):List aD->DE Bool
 |[]=>aS
 |[a]=>f a
 |a::r=>qH (f a)<|Zj f r
theorem JW (h:∀ e,wY X T Z e<|t e):∀ es,K3 X T Z (.BoolOp .Or es pos) (Zj t es)
 |[]=>JU
 |[a]=>(λh=>Ss h)<|h a
 | a::b::r=>(λha hb=>by
   refine PW.imp (UL ha hb) λσ H Q=>bK λF r env bx R h=>?_;refine#[F,r,env,bx,R,End.bind h λk bx1 F1 r1 v H1 g1 R1 d1 h1=>?_];subst d1;cases k with
   |false=>show#[F1,r1,env,bx1,R1,h1]
   |true=>show h1 F1 r1 _ H1 (.refl F1 r1) R1 zc) (h a)<|JW h _
def QR (g:aD->DG):List aD->vR
 |[]=>gE
 |e::es=>if b9 e then fH (g e) (QR g es) else aiz
theorem Ob (h:∀ e,sF X T e<|g e):∀ es,K5 X T es (QR g es)
 | []=>(tW.imp GM λv σ H Q=>Hg λF r env bx w R d h=>by
   cases w with
   |nil=>show#[d,h F r σ H (.refl F r) R]
   |cons _ _=>show h.elim)
 | e::es=>by
   unfold QR;split
   .ext n;show(λh1 h2 hn=>Lh h1 h2 (by rw[lF hn];rfl)) (h e) (Ob h es) n
   .show(λ_ _ _ _ _ _ _ _ _ h=>by
    let#[_,_,_,_,_,_,_,h]:=h;show h.elim)
def aei:Operator->Option (D->D->Option Res)
 |.Add=>ae f8|.Sub=>ae c9|.Mult=>ae k6|.FloorDiv=>ae sH|.Mod=>ae ud|.Pow=>ae xa
 |_=>ag
def vh:CmpOp->Option (D->D->Option Res)
 |.Eq=>ae aW|.NotEq=>ae kZ|.Lt=>ae eZ|.LtE=>ae nE|.Gt=>ae nW|.GtE=>ae pZ|.In=>ae (inD af)|.NotIn=>ae<|inD ah
 |_=>ag
theorem Rw (h:aei op=ae g):∃ q,cE X (binaryOp op) q /\ pE q g:=by
 cases op<;>cases h
 .show#[_,(SH.or<|OE.or<|Mw.or<|SQ.or FT),agE]
 .show#[_,(ab8 λ_ _ _ _ _ _ _ q=>sub_int q),(K7 λ_ _ _=>rfl)]
 .show#[_,(SI.or SR),(by
  intro F H x y v w Q s sub rx ry e k;unfold k6 at e;split at e
  .ext i j;split at e
   .ext hc;cases e;show .inl #[i,j,rx,ry,hc,k _ _ #[rfl,rfl]]
   .cases e
  .ext l j;split at e
   .ext hc;cases e;let#[a,vs,rfl,h1,h2]:=rx;show .inr #[a,j,vs,rfl,ry,h1,hc.1,hc.2.1,by rw[<-h2.length];show hc.2.2,λp hp=>k _ _ #[p,_,rfl,hp,rfl,h2.rep _]]
   .cases e
  .cases e)]
 .show#[_,(Kz λi j _ _ _ _ _ hc q=>by
  show mod_int' za (by rw[Int.fmod_eq_emod_of_nonneg i za];show q)),(X6 λ_ _ _=>rfl)]
 .show#[_,(Kz λ_ _ _ _ _ _ _ hc q=>pow_int_small hc.1 hc.2.1 hc.2.2 q),(X6 λ_ _ _=>rfl)]
 .show#[_,(Kz λi j _ _ _ _ _ hc q=>by
  have h1:=hc.1;have h2:=hc.2;refine floordiv_int za (by rw[Int.fdiv_eq_ediv_of_nonneg i za];show q)<|.inl<|PyProof.noPylong_of_log2 ?_;have h3:j.natAbs.log2<133:=(aat za).mpr za;lia),(X6 λ_ _ _=>rfl)]
theorem mI (hu:X.A.units+100<cLine) (h:vh op=ae g):∃ q,cE X (compareOp op) q /\ pE q g:=by
 cases op<;>cases h
 .show#[_,(λhu=>(OL za).or<|S0 hu) hu,(λF H x y v w Q s sub rx ry e k=>(S5 e).imp (λe=>agI F H x y v w Q s sub rx ry e k) λe=>ac4 af F H x y v w Q s sub rx ry e k)]
 .show#[_,(λhu=>(OM za).or<|S3 hu) hu,(λF H x y v w Q s sub rx ry e k=>(S6 e).imp (λe=>agK F H x y v w Q s sub rx ry e k) λe=>ac4 ah F H x y v w Q s sub rx ry e k)]
 .show#[_,(λhu=>UQ.or<|Tr hu) za,(by
  intro F H x y v w Q s sub rx ry e k;unfold eZ at e;split at e
  .cases e;show .inl #[_,_,rx,ry,k _ _ #[rfl,rfl]]
  .split at e
   .ext l m e1 e2;split at e
    .ext c;cases e;rw[oF e1]at rx;rw[oF e2]at ry;let#[p,vs,rfl,h1,h2]:=rx;let#[q,us,rfl,h3,h4]:=ry;show .inr #[F,p,q,vs,us,l,m,rfl,rfl,sub,h1,h3,h2,h4,c,k _ _ #[rfl,rfl]]
    .cases e
   .cases e
  .cases e)]
 .show#[_,S7 za,(K7 λ_ _ _=>rfl)]
 .show#[_,(KA λ_ _ _ _ _ _ _ q=>gt_int q),(K7 λ_ _ _=>rfl)]
 .show#[_,(KA λ_ _ _ _ _ _ _ q=>ge_int q),(K7 λ_ _ _=>rfl)]
 .show#[_,J9.or<|(λhu=>by
  intro pins s σ H x y v u Q I rx ry h;let#[F,dx,dy,sub,hx,hy,ox,oy,l,hl,q]:=h;let#[as,ra]:=g6 I sub hx rx;let#[bs,rb]:=g6 I sub hy ry;let#[x1,x2]:=lD ox;let#[y1,y2]:=lD oy;rcases hl with rfl|rfl
  .show SeqAt.in_list_reads rb ra y1 x1 za (by rw[jy];show#[.bl _,H,I,rfl,q])
  .show SeqAt.in_tuple_reads rb ra y1 x1 za (by rw[jy];show#[.bl _,H,I,rfl,q])) hu,okIn af]
 .show#[_,CP.or<|(λhu=>by
  intro pins s σ H x y v u Q I rx ry h;let#[F,dx,dy,sub,hx,hy,ox,oy,l,hl,q]:=h;let#[as,ra]:=g6 I sub hx rx;let#[bs,rb]:=g6 I sub hy ry;let#[x1,x2]:=lD ox;let#[y1,y2]:=lD oy;rcases hl with rfl|rfl
  .show SeqAt.notIn_list_reads rb ra y1 x1 za (by rw[jy];show#[.bl _,H,I,rfl,q])
  .show SeqAt.notIn_tuple_reads rb ra y1 x1 za (by rw[jy];show#[.bl _,H,I,rfl,q])) hu,okIn ah]
def Zk:List (Str×(Bool×(String×(List D->Option Res)))):=
 [("len",af, "len",cY),("all",af, "all",eJ),("any",af, "any",Qj),("sorted",af, "sorted",dg),("max",af, "max",maxD),("min",af, "min",minD),
  ("tuple",ah, "tuple",uP),("list",ah, "list",yK),("int",ah, "int",intD)]
def aiA (X:Cx) (x:Str) (p:Bool×(String×(List D->Option Res))):zm:=
 match p with
 |(af,id,g)=>bootBuiltins x=ae (.builtin id) /\ ∃ q,pS X (.builtin id) q /\ rF q g
 |(ah,id,g)=>bootBuiltins x=ae (.type id) /\ ∃ q,pS X (.type id) q /\ rF q g
theorem jb {α:Type}{P:Str->α->zm}:∀ {l:List _}{x}{a},(∀ p∈l,P p.1 p.2)->l.lookup x=ae a->P x a
 |[],_,_,_,e=>by cases e
 | (y,b)::r,x,a,h,e=>by
   rw[nu]at e;cases hx:x==y with
   |true=>
     rw[hx]at e;cases e;have:x=y:=by simpa using hx
     subst this;show h _<|bA ..
   |false=>
     rw[hx]at e;show jb (λp m=>h p<|a8 _ m) e
theorem Rx (hc:X.calm=ah) (hu:X.A.units+100<cLine) (h:Zk.lookup x=ae p):aiA X x p:=by
 refine jb (λp m=>?_) h;simp[Zk,ba,nP,or_false]at m;rcases m with rfl|rfl|rfl|rfl|rfl|rfl|rfl|rfl|rfl
 .show#[rfl,_,om,(by
  intro F H xs vs Q s sub rx e k;unfold cY at e;split at e
  .cases e;let#[v,t,rfl,#[a,us,rfl,h1,h2],rt]:=rx;cases (rt);show#[a,us,rfl,.inl<|.of h1,k _ _ #[rfl,by rw[<-h2.length];rfl]]
  .cases e;let#[v,t,rfl,#[a,us,rfl,h1,h2],rt]:=rx;cases (rt);show#[a,us,rfl,.inr<|.of<|sub _ _ h1,k _ _ #[rfl,by rw[<-h2.length];rfl]]
  .cases e)]
 .show#[rfl,_,Ll hc,(by
  intro F H xs vs Q s sub rx e k;unfold eJ at e;split at e
  .ext l;let#[v,t,rfl,#[a,us,rfl,h1,h2],rt]:=rx;cases (rt);cases e1:qI l with
   |none=>rw[e1]at e;cases e
   |some bs=>
     rw[e1]at e;cases e;have q1:=h2.X9 e1;subst q1;show#[a,bs,rfl,h1,k _ _ #[rfl,rfl]]
  .cases e)]
 .show#[rfl,_,Lx hc,(by
  intro F H xs vs Q s sub rx e k;unfold Qj at e;split at e
  .ext l;let#[v,t,rfl,#[a,us,rfl,h1,h2],rt]:=rx;cases (rt);cases e1:qI l with
   |none=>rw[e1]at e;cases e
   |some bs=>
     rw[e1]at e;cases e;have q1:=h2.X9 e1;subst q1;show#[a,bs,rfl,h1,k _ _ #[rfl,rfl]]
  .cases e)]
 .show#[rfl,_,Gf hu,(by
  intro F H xs vs Q s sub rx e k;unfold dg at e;cases er:uf xs with
  |some r=>
    rw[er]at e;cases e;show .inl<|agV F H xs vs Q s sub rx er k
  |none=>
    rw[er]at e;dsimp only at e;split at e
    .ext l;cases e1:rowsOf l with
     |none=>rw[e1]at e;cases e
     |some rs=>
       rw[e1]at e;erw[bT]at e;split at e
       .ext hc;cases e;let#[v,t,rfl,#[a,us,rfl,h1,h2],rt]:=rx;cases (rt);let#[b1,b2]:=Cr e1;subst b1;show .inr #[F,a,us,rs,rfl,sub,.of h1,h2,b2,hc.1,hc.2,λq ys hq hy=>k _ _ #[q,ys,rfl,hq,rfl,hy]]
       .cases e
    .cases e)]
 .show#[rfl,_,(λhc=>by
  intro pins s σ H xs us Q I r h;let#[i,j,rfl,q]:=h;let#[u,w',rfl,#[t,rfl],#[t',rfl]]:=vals2 r;refine max_two_ints (I.ok.hd hc) λh' tk k=>#[_,H,I.kept k,?_,q];by_cases hj:j>i
  .rw[if_pos hj,if_pos hj];show#[_,rfl]
  .rw[if_neg hj,if_neg hj];show#[_,rfl]) hc,agO]
 .show#[rfl,_,(λhc=>by
  intro pins s σ H xs us Q I r h;let#[i,j,rfl,q]:=h;let#[u,w',rfl,#[t,rfl],#[t',rfl]]:=vals2 r;refine min_two_ints (I.ok.hd hc) λh' tk k=>#[_,H,I.kept k,?_,q];by_cases hj:j<i
  .rw[if_pos hj,if_pos hj];show#[_,rfl]
  .rw[if_neg hj,if_neg hj];show#[_,rfl]) hc,agP]
 .show#[rfl,_,(by
  intro pins s σ H xs us Q I r h;let#[p,ys,rfl,h]:=h;let#[u,rfl,rx]:=vals1 r;cases rx;rcases h with⟨hq,q⟩|⟨hq,q⟩
  .let#[its,r',pl,hz]:=I.list hq;have hlen:=r'.length;refine call_tuple_list pl.isList (λh' kp=>?_) (by simp[bX]<;>lia);have I1:Inv X pins σ H { s with heap:=h' }:=I.kept kp;have I2:Inv X pins σ (upd H h'.objs.size<|.tup ys) { s with heap:=h'.push { cls:=.type "tuple",data:=.seq its.toArray } }:=
    I1.laid (λb o e=>aU _ e) (aC _) (#[hz,its,r',IsTup.new _ _])
   show#[.ref h'.objs.size,_,I2,rfl,q _<|I1.aB.fresh<|aC _]
  .let#[its,r',pl,hz]:=I.tuple hq;show call_tuple_same pl #[.ref p,H,I,rfl,q]),agM]
 .show#[rfl,_,(by
  intro pins s σ H xs us Q I r h;let#[p,ys,rfl,hq,q]:=h;let#[u,rfl,rx]:=vals1 r;cases rx
  have fin:∀ (its),Vals ys its->ys.length<=sizeLine->∀ (h') (c'),(∀ b o',s.heap.get? b=ae o'->h'.get? b=ae o') ->
   h'.get? s.heap.objs.size=ae { cls:=.type "list",dict:=ag,data:=.seq its.toArray c',slots:=#[] }->EP X pins σ Q _ { s with heap:=h' }:=λits r' hz h' c' kp e=>
   #[.ref s.heap.objs.size,_,I.laid kp (aC _) (show cJ X.prog X.w _ h' _ (.lst ys) from#[hz,its,c',r',e]),rfl,q _<|I.aB.fresh<|aC _]
  rcases hq with hq|hq
  .let#[its,r',pl,hz]:=I.list hq;have hlen:=r'.length;let#[o,ho,hc,n,hd]:=pl.isList;show aao p (.inl zc) ho hc hd (λh' c' kp e=>fin its r' hz h' c' kp e) (by simp[bX]<;>lia)
  .let#[its,r',pl,hz]:=I.tuple hq;have hlen:=r'.length;let#[o,ho,hc,n,hd]:=pl;show aao p (.inr zc) ho hc hd (λh' c' kp e=>fin its r' hz h' c' kp e) (by simp[bX]<;>lia)),agN]
 .show#[rfl,_,(by
  intro pins s σ H xs us Q I r h;rcases h with⟨i,rfl,q⟩|⟨k,rfl,q⟩
  .let#[u,rfl,t,rfl]:=vals1 r;show call_int_int #[.int i,H,I,#[_,rfl],q]
  .let#[u,rfl,r1]:=vals1 r;cases r1;show call_int_bool #[.int _,H,I.tok _,#[_,rfl],q]),ahi]
noncomputable def aej:List (Str×String):=[("int","int"),("bool","bool"),("tuple","tuple"),("list","list")]
noncomputable def QS:aD->Bool
 |.Call ..=>af
 |_=>ah
theorem lh (h:QS o=ah):attributeBase o a env whole=whole:=by
 cases o<;>first|rfl|cases h
noncomputable def plainT:aD->Bool
 |.BoolOp ..|.UnaryOp ..|.IfExp ..|.Compare ..=>af
 |_=>ah
theorem LY (h:plainT e=ah) (whole):PySem.isTrue e env whole=(do let v <-whole;standAt e.pos;holding [v] (truthy v)):=by
 cases e<;>first|rfl|cases h
noncomputable def QT:aD->Bool
 |.Set ..=>af
 |_=>ah
theorem jH (h:QT e=ah) (x):foldedSetIterable e env x=pure x:=by
 cases e<;>first|rfl|cases h
noncomputable def k8:aD->Bool
 |.ListComp ..|.SetComp ..|.DictComp ..=>ah
 |_=>af
theorem l9 (h:k8 e=af):swapsWith e t l env=pure af:=by
 cases e<;>first|rfl|cases h
noncomputable def Ip:aD->Bool
 |.Slice ..=>af
 |_=>ah

theorem BW (h:Ip b=ah):XO b:=λ_ _=>by
 cases b<;>first|rfl|cases h
theorem Ry (h:Ip b=ah):Yc b:=λ_ _=>by
 cases b<;>first|rfl|cases h
theorem Iq (h:b9 e=ah):((backTo pos<|starEach [e] env).all (λx=>!x.1)&&(backToKw pos<|keywordEach [] env).all (λx=>x.1.isSome)&&decide ([e].length+([]:List Keyword).length+(if ([]:List Keyword).isEmpty then 0 else 1)<30))=ah:=by
 rw[fE h];rfl

def Em (c:Cf) (f:aD->DE W) (bo:Bool) (x:Str) (es:List aD):DE W:=
 match c.fs.lookup x with
 | some (n,fn)=>(match es with
   |[]=>aS
   |e::es=>if c.Io x&&qh (e::es) then fq fn n (wg f (e::es)) else aS)
 | none=>match Zk.lookup x with
   | some (_,_,g)=>(match es with
     |[]=>aS
     |e::es=>if c.ng x&&qh (e::es) then dN bo g (wg f (e::es)) else aS)
   |none=>aS
theorem AO (O:c7 c k X Z) (h:∀ e,PD X T Z e<|f e) (bo) (es):PD X T Z (.Call (.Name x p) es [] pos) (Em c f bo x es):=by
 unfold Em;split
 .ext n fn e;split
  .show fG
  .split
   .ext a as q;rw[aF]at q;let#[g1,g2,_]:=O.gb q.1;let#[kk,ps,hh,hn,hk]:=O.fs x n fn e;show U2 hh O.room hk g1 O.aiy (m8 h _) q.2 hn g2
   .show fG
 .split
  .ext ty id g e;split
   .show fG
   .split
    .ext a as q;rw[aF]at q;let#[g1,g2,g3,g4]:=O.blt q.1;have b:=Rx O.calm O.u0 e;cases ty with
     |false=>
       let#[b1,qq,b2,b3]:=b;show U1 bo b2 b3 g1 g4 b1 (m8 h _) q.2 g3 g2
     |true=>
       let#[b1,qq,b2,b3]:=b;show Tf bo b2 b3 g1 g4 b1 (m8 h _) q.2 g3 g2
    .show fG
  .show fG
noncomputable def Zl (c:Cf):aD->Bool
 |.Name x _=>decide (x=c.QO)
 |_=>af
def En (c:Cf) (f:aD->DE W) (bo:Bool) (x:Str) (a:aD):DE W:=
 if x="len" /\ Zl c a=ah then (if c.ng "len"&&b9 a then vU (f a) else aS)
 else if x="list" /\ Im c 3 a=ah then (if c.ng "list"&&b9 a then Qp bo (f a) else aS) else if x="dict" then (if c.ng "dict"&&b9 a then u5 bo (f a) else aS) else Em c f bo x [a]
def Zm (c:Cf) (f:aD->DE W) (bo:Bool) (x:Str) (es:List aD):DE W:=
 if x="isinstance" then (match es with
  | [a,.Name t _]=>(match aej.lookup t with
    |some n=>if c.ng "isinstance"&&c.ng t&&b9 a then mJ n (f a) else aS
    |none=>aS)
  |_=>aS)
 else if x="repr" then (match es with
  | [e]=>(match e with
    |.Tuple es _ _=>if c.ng "repr"&&qh es then vf (wg f es) else aS
    |a=>if c.ng "repr"&&b9 a then yM (f a) else aS)
  |_=>aS)
 else match es with
  | [e]=>(match e with
    | .Call g as [] cp=>(match g with
      | .Name y _=>(match as with
        |[a]=>if x="sorted" /\ y="set" then (if c.ng "sorted"&&c.ng "set"&&b9 a then dN bo yU (fe (f a) fj) else aS) else Em c f bo x [e]
        |_=>En c f bo x e)
      | .Attribute o n ap=>(match as with
        |[]=>if x="list" /\ n="values" then (if c.ng "list"&&QS o&&(ap.endLine==cp.line) then QI bo (f o) else aS) else Em c f bo x [e]
        |_=>En c f bo x e)
      |_=>En c f bo x e)
    |e=>En c f bo x e)
  |es=>Em c f bo x es
theorem Oc (O:c7 c k X Z) (h:∀ e,PD X T Z e<|f e) (bo) (es):PD X T Z (.Call (.Name x p) es [] pos) (Zm c f bo x es):=by
 unfold Zm;split
 .ext hx;subst hx;rcases es with _|⟨a,_|⟨e,es⟩⟩<;>try show fG
  cases e<;>try show fG
  cases es<;>try show fG
  .ext t tp;dsimp only;split
   .ext n e;split
    .ext q;erw[aF]at q;let#[g1,g2,g3,g4]:=O.blt q.1.1;let#[j1,j2,j3,j4]:=O.blt q.1.2;let#[y1,y2]:=(λO h=>by
      refine jb (P:=λx n=>sJ X.K n /\ bootBuiltins x=ae (.type n)) (λp m=>?_) h;simp[aej,ba,nP,or_false]at m;rcases m with rfl|rfl|rfl|rfl
      .show#[O.ti,rfl]
      .show#[O.tb,rfl]
      .show#[O.tt,rfl]
      .show#[O.tl,rfl]) O e
     show(λhT hg hm xb xc hv ha hs hn d6=>OK hT hg hm xb xc hv ha hn d6 (fE hs _ X.env) (fE zc _ X.env)<|jx zc) y1 g1 g4 j1 j4 y2 (h a) q.2 j3 j2
    .show fG
   .show fG
 .split
  .ext hx;subst hx;have rp:∀ a,PD X T Z (.Call (.Name "repr" p) [a] [] pos) (if c.ng "repr"&&b9 a then yM (f a) else aS):=λa=>by
    split
    .ext q;rw[aF]at q;let#[g1,g2,g3,g4]:=O.blt q.1;show(λhr hg hm ha he=>by
      refine PE.imp (lu (Cn hr) hg hm (by decide +kernel) (gU ha i5 he) zd (rfl) he (by rfl)) λσ H Q=>bK λF r env bx R h=>?_;refine#[F,r,env,bx,R,End.bind h λw bx1 F1 r1 v H1 g1 R1 d1 h1=>?_];split at h1
      .ext d er;let#[F2,sub,d2]:=G2 R1.fh<|R1.rD d1 er;split at h1
       .ext hc;unfold rL at hc;rw[aF,aF]at hc;show#[F2,d,v,rfl,sub,d2,hc.1.1,of_decide_eq_true hc.1.2,of_decide_eq_true hc.2,h1 F1 r1 _ H1 (.refl F1 r1) R1 zc]
       .show h1.elim
      .show h1.elim) O.room g1 g4 (h a) (fE q.2 _ _)
    .show fG
   rcases es with _|⟨e,_|_⟩<;>try show fG
   cases e<;>try show rp _
   .dsimp only;split
    .ext q;rw[aF]at q;let#[g1,g2,g3,g4]:=O.blt q.1;show(λhr hg hm ha=>by
      refine PE.imp (lu (Cn hr) hg hm (by decide +kernel) (gU (FU ha) i5 zc) zd (rfl) zc (by rfl)) λσ H Q=>bK λF r env bx R h=>?_;refine#[F,r,env,bx,R,End.bind h λws bx1 F1 r1 vs H1 g1 R1 d1 h1=>?_];split at h1
      .ext ds er;split at h1
       .ext hc;have dh:=FN R1.fh<|R1.X0 d1 er;refine#[by rw[<-dh.length];show hc.2,λq hq=>?_];have hs:=hc.1;unfold rL at hs;rw[aF,aF]at hs;show#[upd H1 q<|.tup vs,.tup ds,.ref q,rfl,Sub.refl _,#[q,vs,rfl,fw,aE.mono (ia hq) ds dh],hs.1.1,of_decide_eq_true hs.1.2,of_decide_eq_true hs.2,h1 F1 r1 _ _ (.refl F1 r1) (R1.X3 hq) zc]
       .show h1.elim
      .show h1.elim) O.room g1 g4 (m8 h _)
    .show fG
  .have one:∀ a,PD X T Z (.Call (.Name x p) [a] [] pos) (En c f bo x a):=λa=>by
    unfold En;split
    .ext hx;let#[rfl,_]:=hx;split
     .ext q;rw[aF]at q;let#[g1,g2,g3,g4]:=O.blt q.1;show(λhg hm ha he=>by
       refine PE.imp (lu om hg hm PySem.boot_len (gU ha i5 he) zd (rfl) he (by rfl)) λσ H Q=>bK λF r env bx R h=>?_;refine#[F,r,env,bx,R,End.bind h λw bx1 F1 r1 v H1 g1 R1 d1 h1=>?_];cases w with
       |b _=>show h1.elim
       |d _=>show h1.elim
       |x _=>show h1.elim
       |t _=>show h1.elim
       |m _=>show h1.elim
       |s l=>
         let#[q,o,rfl,k]:=d1;refine#[q,_,rfl,.inl<|.inl<|.inr #[o,R1.fh _ _ k],?_];rw[aK];show h1 F1 r1 _ H1 (.refl F1 r1) R1 zc) g1 g4 (h a) (fE q.2 _ _)
     .show fG
    split
    .ext hx;let#[rfl,_]:=hx;split
     .ext q;rw[aF]at q;let#[g1,g2,g3,g4]:=O.blt q.1;show(λbo hc hg hm ho hs=>by
       refine PE.imp (MV hc hg hm ho hs) λσ H Q=>bK λF r env bx R h=>#[F,r,env,bx,R,End.bind h λx bx1 F1 r1 v H1 g1 R1 d1 h1=>?_];split at h1
       case h_2=>show h1.elim
       let#[a,rfl,ha]:=d1;let#[c,hc,kc]:=R1.eI ha;rw[hc]at h1;split at h1
       case h_2=>show h1.elim
       ext l0 e0;cases e0;let#[_,aj,k1,k2]:=kc;refine#[a,aj,rfl,k1,λbs hb l hl=>?_];let#[F2,g2,R2,d2]:=Rel.qy R1 k2 hb;show gN R2 (End.weak g2 h1) #[l,_,rfl,hl,rfl,d2]) bo O.calm g1 g4 (h a) q.2
     .show fG
    split
    .ext hx;subst hx;split
     .ext q;rw[aF]at q;let#[g1,g2,g3,g4]:=O.blt q.1;show(λbo hg hm ho hs=>by
       refine PE.imp (LD hg hm ho hs) λσ H Q=>bK λF r env bx R h=>#[F,r,env,bx,R,End.bind h λx bx1 F1 r1 v H1 g1 R1 d1 h1=>?_];split at h1
       .ext l q;let#[a,aj,rfl,k1,k2]:=CY R1 d1 q;show#[a,aj,rfl,k1,λl hl=>gN R1 h1 #[l,_,rfl,hl,rfl,k2]]
       .show h1.elim) bo g1 g4 (h a) q.2
     .show fG
    .show AO O h bo _
   rcases es with _|⟨e,_|⟨e2,es⟩⟩<;>try show AO O h bo _
   cases e<;>try show one _
   ext g as ks cp;cases ks<;>try show one _
   cases g<;>try show one _
   .ext o n ap;cases as<;>try show one _
    dsimp only;split
    .ext hx;let#[rfl,rfl]:=hx;split
     .ext q;erw[aF]at q;let#[g1,g2,g3,g4]:=O.blt q.1.1;show(λbo hc hg hm ho hb hl=>by
       refine PE.imp (N1 hc hg hm ho hb hl) λσ H Q=>bK λF r env bx R h=>#[F,r,env,bx,R,End.bind h λx bx1 F1 r1 v H1 g1 R1 d1 h1=>?_];split at h1
       case h_2=>show h1.elim
       let#[a,rfl,ha]:=d1;let#[c,hc,kc]:=R1.eI ha;rw[hc]at h1;split at h1
       case h_2=>show h1.elim
       ext l0 e0;cases e0;let#[_,aj,k1,k2]:=kc;show#[a,aj,rfl,k1,λl hl=>gN R1 h1 #[l,_,rfl,hl,rfl,k2.vals]]) bo O.calm g1 g4 (h o) (lh q.1.2) q.2
     .show fG
    .show AO O h bo _
   .ext y q1;rcases as with _|⟨a,_|_⟩<;>try show one _
    dsimp only;split
    .ext hx;let#[rfl,rfl]:=hx;split
     .ext q;erw[aF]at q;let#[g1,g2,g3,g4]:=O.blt q.1.1;let#[j1,j2,j3,j4]:=O.blt q.1.2;show(λbo hc hg hm xb xc ha hs=>PE.imp (Gk hc hg hm xb xc ha hs)<|Mr ahA) bo O.calm g1 g4 j1 j4 (oH (h a) mj q.2) q.2
     .show fG
    .show AO O h bo _
def Zn (dd:Bool) (f:aD->DE W) (o:aD) (m:Str) (es:List aD):DE W:=match es with
 |[e]=>if b9 e then (if dd then (if m="get" then yW (f o) (f e) else if m="pop" then yX (f o) (f e) else aS) else if m="extend" then xq (f o) (f e) else if m="append" then nC (f o) (f e) else if m="pop" then yS (f o) (f e) else aS) else aS
 |[e,g]=>if b9 e&&b9 g&&decide (m="insert") then yZ (f o) (f e) (f g) else aS
 |_=>aS
theorem Rz (hu:X.A.units+1<cLine) (dd) (h:∀ e,PD X T Z e<|f e) (es) (hb:QS o=ah) (hl:(apos.endLine==pos.line)=ah):PD X T Z (.Call (.Attribute o m apos) es [] pos) (Zn dd f o m es):=by
 unfold Zn;split
 .ext e;split
  .ext n;split
   .split
    .ext z;subst z;show(λhu ho ha m=>PE.imp (Mx hu ho ha m) λσ H Q h=>Pa h) hu (h o) (h e) #[lh hb,Iq n,hl,by rw[fE n];rfl]
    .split
     .ext z;subst z;show(λho ha m=>PE.imp (My ho ha m) λσ H Q h=>Tl h) (h o) (h e) #[lh hb,Iq n,hl,by rw[fE n];rfl]
     .show fG
   .split
    .ext z;subst z;show(λho ha uI uJ uK hs=>PE.imp (GS Kn PySem.F.slot_list_extend PySem.F.type_list_extend Lc ho (gU ha i5 hs) uI uJ uK hs (by rfl)) λσ H Q h=>U5 h) (h o) (h e) (lh hb) (Iq n) hl (fE n _ _)
    .split
     .ext z;subst z;show(λho ha uI uJ uK hs=>PE.imp (GS Kn PySem.F.slot_list_append PySem.F.type_list_append Ce ho (gU ha i5 hs) uI uJ uK hs (by rfl)) λσ H Q h=>UW h) (h o) (h e) (lh hb) (Iq n) hl (fE n _ _)
     .split
      .ext z;subst z;show(λho ha eK uI uJ uK=>PE.imp (GS Kn PySem.F.slot_list_pop PySem.F.type_list_pop Mm ho (gU ha i5<|fE eK [] X.env) uI uJ uK (fE eK [] X.env) (by rfl)) λσ H Q h=>O0 h) (h o) (h e) n (lh hb) (Iq n) hl
      .show fG
  .show fG
 .ext e g;split
  .ext q;erw[aF,decide_eq_true_eq]at q;let#[#[n1,n2],z]:=q;subst z;show Tn (h o) (h e) (h g) (lh hb) ((λh hf=>by
    rw[fE h,fE hf];rfl) n1 n2) hl n1 n2
  .show fG
 .show fG
noncomputable def Zo (on names:List<|Str×NameKind):List (Str×NameKind):=names.map λ(n,k)=>if k==NameKind.free&&on.lookup n==ae .cell then (n,NameKind.cell) else (n,k)
noncomputable def QU:Nat->aD->List Str
 |_,.Name x _=>[x]
 |n+1,.Tuple es _ _=>es.flatMap<|QU n
 |_,_=>[]
def Cf.cN (c:Cf) (tg:aD) (sc:kL):List Str:=QU 4 tg++c.N.filter λx=>decide (sc.names.lookup x=ae .free)
def Cf.src (c:Cf) (tg:aD) (sc:kL):List (Option Nat):=(QU 4 tg).map (λ_=>ag)++(c.N.filter λx=>decide (sc.names.lookup x=ae .free)).map c.ix
def Cf.inner (c:Cf) (tg:aD) (sc:kL):Cf:={ c with N:=c.cN tg sc,nm:=Zo c.nm sc.names,f:=af,bx:=[],lm:=ag,ow:=(QU 4 tg).filter λx=>decide (sc.names.lookup x=ae .cell) }
def Cf.QV (c:Cf) (tg:aD) (sc:kL):Bool:=Ym c.N { kind:=.function,names:=c.nm,isGenerator:=af,isCoroutine:=af } sc (c.cN tg sc) (c.src tg sc)&&decide (c.cN tg sc).Nodup

theorem c7.inner (O:c7 c k X Z) (h:c.QV tg sc=ah):t9 X (c.cN tg sc) (c.src tg sc) sc /\ ∀ cl s H C fp,c7 (c.inner tg sc) k (X.comp (c.cN tg sc) sc cl s H C fp) #[E0,Z.cl]:=by
 unfold Cf.QV at h;rw[aF,decide_eq_true_eq]at h;have S:=Gb (λx=>by unfold Env.kindOf;rw[O.nm]) O.N h.1;refine#[S,λcl s H C fp=>#[rfl,?_,S.kind,O.calm,λz=>(by cases z),λx m=>(cX.mp m).2,h.2,O.room,O.fs,O.gl,O.bl,GX,O.ti,O.tb,O.tt,O.tl,PassesOwn.never,λ_ z=>nomatch z]];change (relabel sc X.env).names=Zo c.nm sc.names;unfold relabel Zo Env.kindOf;rw[O.kd,O.nm];simp
structure Cm where
 e:Cf->Bool->Bool->aD->DE W
 t:Cf->aD->DE Bool
 g:Cf->aD->DG
 s:Cf->dW->aA
structure Good (m:Cm):zm where
 e:∀ {c:Cf}{k:Nat}{X:Cx}{Z:Xs},c7 c k X Z->∀ {T:Fr}(bo fz:Bool) (e:aD),PD X T Z e (m.e c bo fz e)
 t:∀ {c:Cf}{k:Nat}{X:Cx}{Z:Xs},c7 c k X Z->∀ {T:Fr}(e:aD),wY X T Z e (m.t c e)
 g:∀ {c:Cf}{k:Nat}{X:Cx}{Z:Xs},c7 c k X Z->∀ {T:Fr}(e:aD),sF X T e (m.g c e)
 s:∀ {c:Cf}{k:Nat}{X:Cx}{Z:Xs},c7 c k X Z->∀ {T:Fr}(st:dW),nU X T Z st (m.s c st)
section
variable (m:Cm) (c:Cf)
def cI (tg it:aD):DE (List W):=match it with
 |.Call (.Name x _) [a] [] _=>
   if x="range" then (if c.ng "range"&&b9 a then d8 (fe (m.e c af af a) fj) else aS)
   else bG (m.e c af ah it)
 |.Call (.Name x _) [a,b] [] _=>
   if x="range" then (if c.ng "range"&&b9 a&&b9 b then uc (fe (m.e c af af a)<|fe (m.e c af af b) fj) else aS)
   else if x="zip" then (if c.ng "zip"&&b9 a&&b9 b then uR (fe (m.e c af af a)<|fe (m.e c af af b) fj) else aS)
   else bG (m.e c af ah it)
 |_=>bG<|m.e c af ah it
def cF (ifs:List aD):DE Bool:=match ifs with
 |[]=>fR
 |[t]=>m.t c t
 |_=>aS
def QW (e:aD):Option Nat:=match e with
 |.Name x _=>if c.dc.contains x&&c.QP x then c.ix x else ag
 |_=>ag
def Zp (bo:Bool) (elt tg it:aD) (ifs:List aD) (sc:kL):DE W:=
 if c.QV tg sc&&QT it then fO bo (c.src tg sc) (cI m c tg it) (m.g (c.inner tg sc) tg) (cF m (c.inner tg sc) ifs) (m.e (c.inner tg sc) af af elt) else aS
def cO (o:Option aD):DE (Option Int):=match o with
 |none=>qJ
 |some e=>p8<|m.e c af af e
def Ir (a:aD) (op:CmpOp) (b:aD):DE W:=
 if xF c b then (match op with
  |.In=>if behindInMarks .In b=af then kT af (m.e c af af a) (m.e c af af b) else aS
  |.NotIn=>if behindInMarks .NotIn b=af then kT ah (m.e c af af a) (m.e c af af b) else aS
  |_=>aS)
 else if Im c 3 b then (match op with
  |.In=>if behindInMarks .In b=af then xu (m.e c af af a) (m.e c af af b) else aS
  |_=>aS)
 else match op,b with
  |.Is,.Constant .none _ _=>uk af<|m.e c af af a
  |.IsNot,.Constant .none _ _=>uk ah<|m.e c af af a
  | _,_=>match vh op with
    |some g=>if behindInMarks op b=af then d2 af g (m.e c af af a) (m.e c af af b) else aS
    |none=>aS
def Zq (a:aD) (op kX:CmpOp) (b d:aD):DE W:=match vh op,vh kX with
 |some g,ae g'=>if lastMarks [op,kX] [b,d]=af then d3 g g' (m.e c af af a) (m.e c af af b) (m.e c af af d) else aS
 |_,_=>aS
def Zr (bo:Bool) (a b:aD):DE W:=match b with
 |.Slice lo hi ag _=>p9 bo (m.e c af af a) (cO m c lo)<|cO m c hi
 |.Slice ag ag (ae<|.UnaryOp .USub (.Constant (.int i) _ _) _) _=>if i=1 then Ya bo (m.e c af af a) else aS
 |.Constant (.str k) _ _=>cb (m.e c af af a) k
 |b=>if Ip b then (if Zl c a then Hu (m.e c af af a) (m.e c af af b) else if xF c a then cG (m.e c af af a) (m.e c af af b) else d2 af ak (m.e c af af a) (m.e c af af b)) else aS
def Zs (bo:Bool) (ks:List<|Option aD) (vs:List aD):DE W:=match ks,vs with
 |[],[]=>pI bo []
 | ks,vs=>match Yy (λk=>c.kd k 3) ks vs with
   |some l=>if !ks.isEmpty&&decide (ks.length<=15) then xt l else aS
   |none=>aS
def Zt (v:Const):DE W:=match v with
 |.int i=>dC<|.int i
 |.bool b=>dC<|.bl b
 |.none=>dC .az
 |.str x=>dC<|.str x
 |_=>aS
def Zu (op:UnaryOp) (a:aD):DE W:=match op with
 |.USub=>K8<|m.e c af af a
 |.Not=>X2<|m.e c af af a
 |_=>aS
def Zv (op:BoolOp) (es:List aD):DE W:=match op with
 |.And=>Zh (m.e c af af) es
 |.Or=>aS
def aek (a:aD) (ops:List CmpOp) (bs:List aD):DE W:=match ops,bs with
 |[op],[b]=>Ir m c a op b
 |[op,kX],[b,d]=>Zq m c a op kX b d
 |_,_=>aS
def Zw (pa:Arguments) (y:Str) (sc:kL):Bool:=pa.posonlyargs.isEmpty&&pa.vararg.isNone&&pa.kwonlyargs.isEmpty&&pa.kw_defaults.isEmpty&&pa.kwarg.isNone&&pa.defaults.isEmpty&&decide (pa.args.map (·.arg)=[y]) &&
 decide (sc.names=[(y,.local)])&&!sc.isCoroutine&&!sc.isGenerator&&decide (sc.kind=.function)&&!(y==("__debug__"))
def Zx (bo:Bool) (x:Str) (es:List aD) (kn:Str) (pa:Arguments) (y:Str) (i:Int) (sc:kL) (nK:Pos):DE W:=match es,c.lm with
 |[a],ae P=>if x="sorted" /\ kn="key" then (if Zw pa y sc&&c.ng "sorted"&&b9 a then Ih bo P nK (c.qn ++ "<lambda>") i (m.e c af af a) else aS) else aS
 |_,_=>aS
def Zy (bo:Bool) (f:aD) (es:List aD) (ks:List Keyword) (pos:Pos):DE W:=match f with
 | .Name x _=>(match ks with
   |[]=>Zm c (m.e c af af) bo x es
   |[⟨ae kn,.Lambda pa (.Subscript (.Name y _) (.Constant (.int i) _ _) _) sc nK,_⟩]=>Zx m c bo x es kn pa y i sc nK
   |_=>aS)
 | .Attribute o n apos=>(match ks with
   |[]=>if QS o&&(apos.endLine==pos.line) then Zn (xF c o) (m.e c af af) o n es else aS
   |_::_=>aS)
 |_=>aS
def Zz (bo:Bool) (elt:aD) (gs:List Comprehension) (sc:kL):DE W:=match gs with
 |[⟨tg,it,ifs,0⟩]=>Zp m c bo elt tg it ifs sc
 |_=>aS
def sE (bo fz:Bool) (e:aD):DE W:=match e with
 |.Constant v _ _=>Zt v
 |.Name x _=>Zg c fz x
 |.Tuple es _ _=>fN<|wg (m.e c af fz) es
 |.List es _=>gR bo<|wg (m.e c af af) es
 |.Dict ks vs _=>Zs c bo ks vs
 | .BinOp a op b _=>(match aei op with
   |some g=>d2 bo g (m.e c af af a)<|m.e c af af b
   |none=>aS)
 |.UnaryOp op a _=>Zu m c op a
 |.BoolOp op es _=>Zv m c op es
 |.Compare a ops bs _=>aek m c a ops bs
 |.IfExp t a b _=>rG (m.t c t) (m.e c af af a)<|m.e c af af b
 |.Subscript a b _=>Zr m c bo a b
 |.Call f es ks pos=>Zy m c bo f es ks pos
 |.ListComp elt gs sc _=>Zz m c bo elt gs sc
 |_=>aS
def sT (e:aD):DE Bool:=match e with
 |.BoolOp .And es _=>Zi (m.t c) es
 |.BoolOp .Or es _=>Zj (m.t c) es
 |.UnaryOp .Not a _=>pF<|m.t c a
 | .Compare a [op] [b] _=>if xF c b then dB (Ir m c a op b) else if Im c 3 b then (match op with
   |.In=>if behindInMarks .In b=af then dB (xu (m.e c af af a)<|m.e c af af b) else aS
   |_=>aS) else (match op,b with
   |.Is,.Constant .none _ _=>dB<|uk af<|m.e c af af a
   |.IsNot,.Constant .none _ _=>dB<|uk ah<|m.e c af af a
   | _,_=>match vh op with
     |some g=>if behindInMarks op b=af then dB (d2 af g (m.e c af af a)<|m.e c af af b) else aS
     |none=>aS)
 | .Compare a [op,kX] [b,d] _=>(match vh op,vh kX with
   |some g,ae g'=>if lastMarks [op,kX] [b,d]=af then dB (d3 g g' (m.e c af af a) (m.e c af af b)<|m.e c af af d) else aS
   |_,_=>aS)
 |e=>if plainT e then dB (m.e c af af e) else aS
def sG (tg:aD):DG:=match tg with
 | .Name x _=>(match c.ix x with
   |some i=>if c.xG x then fg i else xE
   |none=>xE)
 |.Tuple es _ _=>if qh es then gC es.length (QR (m.g c) es) else xE
 |.Subscript o i _=>if Ip i then Ht (m.e c af af o) (m.e c af af i) else xE
 |_=>xE
end
section
variable {m:Cm} {c:Cf} {k:Nat} {X:Cx} {Z:Xs} {T:Fr} (G:Good m) (O:c7 c k X Z)
include G O
theorem Od (tg it):yH X T Z tg it (cI m c tg it):=by
 cases it<;>try show oC<|G.e O _ _ _
 ext f es ks pos;cases f<;>try show oC<|G.e O _ _ _
 rcases es with _|⟨a,_|⟨b,_|_⟩⟩<;>cases ks<;>try show oC<|G.e O _ _ _
 .unfold cI;dsimp only;split
  .ext z;subst z;split
   .ext q;rw[aF]at q;let#[g1,g2,g3,g4]:=O.blt q.1;show(λhg hm ha hs=>by
     refine PI.imp (J3 hg hm ha hs) λσ H Q=>bK λF r env bx R h=>?_;refine#[F,r,env,bx,R,End.bind h λws bx1 F1 r1 vs H1 g1 R1 d1 h1=>?_];split at h1
     .ext j;split at h1
      .ext hj;let#[v,t,rfl,e1,e2]:=d1;cases (e2);cases (e1);show#[j,rfl,hj.1,hj.2,h1 F1 r1 _ H1 (.refl F1 r1) R1<|ou 0 j.toNat]
      .show h1.elim
     .show h1.elim) g1 g4 (oH (G.e O _ _ a) mj q.2) (fE q.2 _ _)
   .show Dx
  .show oC<|G.e O _ _ _
 .unfold cI;dsimp only;split
  .ext z;subst z;split
   .ext q;simp[aF]at q;let#[#[q,n1],n2]:=q;let#[g1,g2,g3,g4]:=O.blt q;show F6 g1 g4 (oH (G.e O _ _ a) (oH (G.e O _ _ b) mj n2) n1) (by rw[fE n1,fE n2];rfl)<|fE n2 _ _
   .show Dx
  .split
   .ext z;subst z;split
    .ext q;simp[aF]at q;let#[#[q,n1],n2]:=q;let#[g1,g2,g3,g4]:=O.blt q;show OV g1 g4 (oH (G.e O _ _ a) (oH (G.e O _ _ b) mj n2) n1) (by rw[fE n1,fE n2];rfl)<|fE n2 _ _
    .show Dx
   .show oC<|G.e O _ _ _
theorem Oe (ifs):PF X ifs (wX T Z<|cF m c ifs):=by
 unfold cF;split
 .show(λpins s σ H Q I ⟨F,r,env,bx,R,h⟩=>SS pins s σ H Q I<|h F r ah H (.refl F r) R zc)
 .show(λh=>SU h) (G.t O _)
 .show λ_ _ _ _ _ _ h=>by let#[_,_,_,_,_,h]:=h;show h.elim
omit G in
theorem JX (h:QW c e=ae i):PD X T Z e (dV i):=by
 unfold QW at h;split at h
 .split at h
  .ext q;rw[aF]at q;let#[a,b,d]:=O.aeh q.2;show Mq i (O.at h) a b d
  .cases h
 .cases h
theorem Of (bo) (elt tg it) (ifs) (sc) (pos):PD X T Z (.ListComp elt [#[tg,it,ifs,0]] sc pos) (Zp m c bo elt tg it ifs sc):=by
 unfold Zp;split
 .ext q;rw[aF]at q;let#[S,OO]:=O.inner q.1
  show(λbo hc S hi hg hf he hs=>PE.imp (OG hc S hi (λcl s H C fp pins s' σ' H' v u Q I rv ⟨T,q⟩=>hg T cl s H C fp pins s' σ' H' v u Q I rv q)
   (λcl s H C fp pins s' σ' H' Q I ⟨T,q⟩=>hf T cl s H C fp pins s' σ' H' Q I q) (λcl s H C fp pins s' σ' H' Q I ⟨T,q⟩=>he T cl s H C fp pins s' σ' H' Q I q) hs) λσ H Q h=>Mv h) bo O.calm S (Od G O tg it) (λ_ _ _ _ _ _=>G.g (OO _ _ _ _ _) tg) (λ_ _ _ _ _ _=>Oe G (OO _ _ _ _ _) ifs) (λ_ _ _ _ _ _=>G.e (OO _ _ _ _ _) _ _ elt) (λx=>jH q.2 x)
 .show fG
theorem Og (a) (op) (b) (pos):PD X T Z (.Compare a [op] [b] pos) (Ir m c a op b):=by
 unfold Ir;split
 .split
  .split
   .ext q;show(λhu hi ho hm=>PE.imp (AR (CT hu hi ho) hm) λσ H Q h=>DZ h) O.u1 (G.e O _ _ a) (G.e O _ _ b) q
   .show fG
  .split
   .ext q;show(λhu hi ho hm=>PE.imp (AR (Ck hu hi ho) hm) λσ H Q h=>ML h) O.u1 (G.e O _ _ a) (G.e O _ _ b) q
   .show fG
  .show fG
 split
 .split
  .split
   .ext q;show(λhu hi ho hm=>PE.imp (AR (CT hu hi ho) hm) λσ H Q h=>RU h) O.u1 (G.e O _ _ a) (G.e O _ _ b) q
   .show fG
  .show fG
 .have dflt:∀ op b,PD X T Z (.Compare a [op] [b] pos) (match vh op with
   |some g=>if behindInMarks op b=af then d2 af g (m.e c af af a) (m.e c af af b) else aS
   |none=>aS):=λop b=>by
   split
   .ext g e;let#[q,h1,h2]:=mI O.u0 e;split
    .ext z;show(λho hg ha hb hm=>PE.imp (Ow ho ha hb hm)<|GT hg) h1 h2 (G.e O _ _ a) (G.e O _ _ b) z
    .show fG
   .show fG
  cases op<;>try show dflt _ _
  all_goals (cases b<;>try show dflt _ _)
  all_goals (rename_i v _ _ _ _;cases v<;>try show dflt _ _)
  .show(λha=>by
   refine PE.imp (AR<|L6 ha) λσ H Q=>bK λF r env bx R h=>?_;refine#[F,r,env,bx,R,End.bind h λx bx1 F1 r1 v H1 g1 R1 d1 h1=>?_];cases x with
   |d d=>
     rw[AI<|d1];cases d<;>show h1 F1 r1 _ H1 (.refl F1 r1) R1 zc
   |_=>show h1.elim) (G.e O _ _ a)
  .show(λha=>by
   refine PE.imp (AR<|GL ha) λσ H Q=>bK λF r env bx R h=>?_;refine#[F,r,env,bx,R,End.bind h λx bx1 F1 r1 v H1 g1 R1 d1 h1=>?_];cases x with
   |d d=>
     rw[AI<|d1];cases d<;>show h1 F1 r1 _ H1 (.refl F1 r1) R1 zc
   |_=>show h1.elim) (G.e O _ _ a)
theorem Oh (a) (op kX) (b d) (pos):PD X T Z (.Compare a [op,kX] [b,d] pos) (Zq m c a op kX b d):=by
 unfold Zq;split
 .ext g g' e e';let#[q,h1,h2]:=mI O.u0 e;let#[q',ZA,ZC]:=mI O.u0 e';split
  .ext z;show(λho pC hg Hh ha hb hc hm=>PE.imp (Mf ho pC ha hb hc hm) λσ H Q h=>GU hg Hh h) h1 ZA h2 ZC (G.e O _ _ a) (G.e O _ _ b) (G.e O _ _ d) z
  .show fG
 .show fG
theorem Si (o):agU X T Z o (cO m c o):=by
 unfold cO;split
 .show(PO.imp OC λσ H Q=>bK λF r env bx R h=>h F r ag H (.refl F r) R zc)
 .show(λh=>by
  refine PO.imp (OD h) λσ H Q=>bK λF r env bx R h=>?_;refine#[F,r,env,bx,R,End.bind h λw bx1 F1 r1 v H1 g1 R1 d1 h1=>?_];split at h1
  .ext i;show#[i,d1,h1 F1 r1 _ H1 (.refl F1 r1) R1 zc]
  .show h1.elim) (G.e O _ _ _)
theorem RC (bo) (a b) (pos):PD X T Z (.Subscript a b pos) (Zr m c bo a b):=by
 have ael:∀ b,Ip b=ah->PD X T Z (.Subscript a b pos) (if Zl c a then Hu (m.e c af af a) (m.e c af af b) else if xF c a then cG (m.e c af af a) (m.e c af af b) else d2 af ak (m.e c af af a) (m.e c af af b)):=λb n=>by
  split
  .show S9 (G.e O _ _ a) (G.e O _ _ _)<|BW n
  .split
   .show(λhu ho hi hs=>PE.imp (G0 hu ho hi hs) λσ H Q h=>CZ h) O.u1 (G.e O _ _ a) (G.e O _ _ _) (Ry n)
   .show(λho hg ha hb hs=>PE.imp (RQ ho ha hb hs)<|GT hg) (GR.or<|SL.or SM) agF (G.e O _ _ a) (G.e O _ _ _) (BW n)
 cases b<;>try show ael _ zc
 .rename_i v _ _;cases v<;>try show ael _ zc
  show Tq O.u1<|G.e O _ _ a
 rename_i lo hi st _;rcases st with _|st
 .show(λbo ha hl hu=>by
  refine PE.imp (Mj SX ha hl hu) λσ H Q=>bK λF r env bx R h=>?_;refine#[F,r,env,bx,R,End.bind h λx bx1 F1 r1 v H1 g1 R1 d1 h1=>?_];refine#[F1,r1,env,bx1,R1,End.bind h1 λi bx2 F2 r2 i' H2 g2 R2 d2 h2=>?_];refine#[F2,r2,env,bx2,R2,End.bind h2 λj bU F3 r3 j' H3 g3 R3 d3 h3=>?_];subst d2 d3;cases e1:bN bU x with
  |none=>rw[e1]at h3;show h3.elim
  |some d=>
    rw[e1]at h3;simp[bT]at h3;cases e2:ue d i j with
    |none=>rw[e2]at h3;show h3.elim
    |some s=>
      rw[e2]at h3;show agR R3.fh (R3.rD (g3.den<|g2.den d1) e1) e2 λu H' k=>gN R3 h3 k) bo (G.e O _ _ a) (Si G O _) (Si G O _)
 cases st<;>try show fG
 rename_i op e _;cases op<;>try show fG
 cases e<;>try show fG
 rename_i v _ _;cases v<;>try show fG
 cases lo<;>cases hi<;>try show fG
 unfold Zr;try dsimp only
 split
 .ext z;subst z;show(λbo ha=>by
  refine PE.imp (SY (i:=0) ha) λσ H Q=>bK λF r env bx R h=>?_;refine#[F,r,env,bx,R,End.bind h λx bx1 F1 r1 v H1 g1 R1 d1 h1=>?_];cases e1:bN bx1 x with
  |none=>rw[e1]at h1;show h1.elim
  |some d=>
    rw[e1]at h1;cases d with
    |lst l=>
      let#[a,vs,rfl,k1,k2]:=R1.rD d1 e1;show#[a,vs,rfl,.of k1,λp hp=>gN R1 h1 #[p,_,rfl,hp,rfl,k2.reverse]]
    |_=>show h1.elim) bo (G.e O _ _ a)
 .show fG
omit G O in
theorem RD (bo:Bool) (ks:List<|Option aD) (vs:List aD) (pos:Pos):PD X T Z (.Dict ks vs pos) (Zs c bo ks vs):=by
 unfold Zs;split
 .show(λbo=>PE.imp (DR) λσ H Q ⟨F,r,env,bx,R,h⟩=>(λp hp=>gN R h #[p,[],rfl,hp,rfl,rfl])) bo
 .split
  .ext l e;split
   .ext q;rw[aF,decide_eq_true_eq]at q;let#[a,b,d,_]:=Jh e;show(λh Hd hl h0 Ye=>by
     refine PE.imp (OT h Hd hl h0 Ye) λσ H Q=>bK λF r env bx R h=>λp hp=>?_;unfold xt at h;split at h
     case isFalse=>show h.elim
     ext nd;have hn:=R.yE hp;have hT:T.H₀ p=ag:=by
      cases q:T.H₀ p with
      |none=>rfl
      |some u=>rw[R.keep p u q hn]at hp;cases hp
     refine Cw (R.X3 hp) fw hn λas H2 R2 h2 n2 hl=>#[h2,HU l as,rfl,by simp;lia,?_];have nk:((HU l as).map (·.1)).Nodup:=by
      rw[Jg hl,List.Nodup,rX];show(rX.mp nd.1).imp λh z=>h<|Sum.inr.inj z
     rw[Cy nk,kK];let#[a1,a2]:=D5 hl;rw[R.len]at a1 a2;show h _ _ _ _ #[ia<|R.sD hp,ya r as] (R2.own (R.sD hp) n2 hT) #[p,as,rfl,by rw[a2];show fw,a1]) a b d (λz=>by rw[z]at q;show absurd q.1 zd) q.2
   .show fG
  .show fG
omit G O in
theorem RE (v:Const) (k:Nat) (pos:Pos):PD X T Z (.Constant v k pos) (Zt v):=by
 unfold Zt;split
 .show(DJ L5 λ_=>rfl)
 .show(DJ UK λ_=>rfl)
 .show(DJ Sq λ_=>rfl)
 .show(DJ AQ λ_=>rfl)
 .show fG
theorem Uz (op) (a) (pos):PD X T Z (.UnaryOp op a pos) (Zu m c op a):=by
 unfold Zu;split
 .show(λha=>by
  refine PE.imp (RP Md ha) λσ H Q=>bK λF r env bx R h=>?_;refine#[F,r,env,bx,R,End.bind h λw bx1 F1 r1 v H1 g1 R1 d1 h1=>?_];split at h1
  .ext i;show#[i,d1,h1 F1 r1 _ H1 (.refl F1 r1) R1 zc]
  .show h1.elim) (G.e O _ _ _)
 .show(λha=>by
  refine PE.imp (Sz ha) λσ H Q=>bK λF r env bx R h=>?_;refine#[F,r,env,bx,R,End.bind h λw bx1 F1 r1 v H1 g1 R1 d1 h1=>?_];split at h1
  .ext k;show#[k,d1,h1 F1 r1 _ H1 (.refl F1 r1) R1 zc]
  .show h1.elim) (G.e O _ _ _)
 .show fG
theorem UA (op) (es) (pos):PD X T Z (.BoolOp op es pos) (Zv m c op es):=by
 unfold Zv;split
 .show JV (G.e O _ _) _
 .show fG
theorem UB (a) (ops) (bs) (pos):PD X T Z (.Compare a ops bs pos) (aek m c a ops bs):=by
 rcases ops with _|⟨op,_|⟨kX,_|_⟩⟩<;>rcases bs with _|⟨b,_|⟨d,_|_⟩⟩<;>try show fG
 .show Og G O _ _ _ _
 .show Oh G O _ _ _ _ _ _
include G O in
theorem UC (h:Zw pa y sc=ah) (hP:c.lm=ae P):∃ cc,Y0 X pa y px py pz i n sc cc P /\ X.env.qual=c.qn:=by
 let#[cc,h1,h2,h3,h4,h5]:=O.lm P hP;let#[a1,a2,a3,a4,a5,a6,a7]:=pa;erw[Zw,aF,tL,decide_eq_true_eq,aaV,aaZ]at h;let#[#[#[#[#[#[h,e7],e8],e9],aiB],aiC],aiD]:=h;let#[#[#[#[#[rfl,rfl],rfl],rfl],rfl],rfl]:=h;refine#[cc,#[rfl,?_,h1,h3,h4,h5,λqual pm c' kF t=>?_,by rw[e8];simp,e9,aiB,aiC,λx m=>by rw[e8]at m;rw[di.mp m];show(λz=>nomatch z),aiD,?_],h2]
 .unfold closureFor;rw[e8];rfl
 .cases a2 with
  |nil=>cases e7
  |cons b bs=>
    cases bs with
    |cons _ _=>cases e7
    |nil=>
      cases e7;have n0:(do notAStandIn Value.none;pure (ag:Option<|Array ay))=pure ag:=rfl;simp[bindArgs,seqItems?,n0]
 .have:=O.room.dp;change X.A.depth<_;lia
theorem RF (bo) (x) (p) (es) (kn) (pa) (y) (px) (i) (n) (py pz) (sc) (nK kp pos):PD X T Z (.Call (.Name x p) es [#[ae kn,.Lambda pa (.Subscript (.Name y px) (.Constant (.int i) n py) pz) sc nK,kp]] pos) (Zx m c bo x es kn pa y i sc nK):=by
 unfold Zx;split
 .ext a P hP;split
  .ext hx;let#[rfl,rfl]:=hx;split
   .ext q;simp[aF]at q;let#[g1,g2,g3,g4]:=O.blt q.1.2;let#[cc,Y,e]:=UC G O q.1.1 hP;rw[<-e];show LV bo Y g1 g4 (G.e O _ _ a) q.2
   .show fG
  .show fG
 .show fG
theorem UD (bo) (f) (es) (ks) (pos):PD X T Z (.Call f es ks pos) (Zy m c bo f es ks pos):=by
 cases f<;>try show fG
 .cases ks<;>try show fG
  unfold Zy;dsimp only;split
  .ext q;rw[aF]at q;show Rz O.u1 _ (G.e O _ _) _ q.1 q.2
  .show fG
 .rcases ks with _|⟨⟨kn,v,kp⟩,ks⟩
  .show Oc O (G.e O _ _) bo _
  cases kn<;>try show fG
  cases v<;>try show fG
  rename_i b _ _;cases b<;>try show fG
  rename_i y i _;cases y<;>try show fG
  cases i<;>try show fG
  rename_i v _ _;cases v<;>try show fG
  cases ks<;>try show fG
  show RF G O bo _ _ _ _ _ _ _ _ _ _ _ _ _ _ _
theorem UE (bo) (elt) (gs) (sc) (pos):PD X T Z (.ListComp elt gs sc pos) (Zz m c bo elt gs sc):=by
 unfold Zz;split
 .show Of G O bo _ _ _ _ _ _
 .show fG
theorem VR (bo fz) (e):PD X T Z e (sE m c bo fz e):=by
 cases e<;>try show fG
 .show UA G O _ _ _
 .unfold sE;dsimp only;split
  .ext g e;let#[q,h1,h2]:=Rw e;show(λbo ho hg ha hb=>PE.imp (UN ho ha hb)<|GT hg) bo h1 h2 (G.e O _ _ _) (G.e O _ _ _)
  .show fG
 .show Uz G O _ _ _
 .show(λhc ha hb=>by
  refine PE.imp (L7 hc ha hb) λσ H Q=>bK λF r env bx R h=>?_;refine#[F,r,env,bx,R,End.bind h λk bx1 F1 r1 v H1 g1 R1 d1 h1=>?_];subst d1;cases k with
  |true=>show#[F1,r1,env,bx1,R1,h1]
  |false=>show#[F1,r1,env,bx1,R1,h1]) (G.t O _) (G.e O _ _ _) (G.e O _ _ _)
 .show RD bo _ _ _
 .show UE G O bo _ _ _ _
 .show UB G O _ _ _ _
 .show UD G O bo _ _ _ _
 .show RE _ _ _
 .show RC G O bo _ _ _
 .show Oa O fz
 .show(λbo h=>by
  refine PE.imp (Mh h) λσ H Q=>bK λF r env bx R h=>?_;refine#[F,r,env,bx,R,End.bind h λws bx1 F1 r1 vs H1 g1 R1 d1 h1=>?_];cases e:pW ws with
  |none=>rw[e]at h1;show h1.elim
  |some l=>
    rw[e]at h1;simp[bT]at h1;split at h1
    .have dl:=d1.ds e;refine#[by rw[<-dl.length];assumption,λp hp=>gN R1 h1 #[p,vs,rfl,hp,rfl,dl]]
    .show h1.elim) bo (m8 (G.e O _ _) _)
 .show(λh=>by
  refine PE.imp (FU h) λσ H Q=>bK λF r env bx R h=>?_;refine#[F,r,env,bx,R,End.bind h λws bx1 F1 r1 vs H1 g1 R1 d1 h1=>?_];cases e:pW ws with
  |none=>rw[e]at h1;show h1.elim
  |some l=>
    rw[e]at h1;simp[bT]at h1;split at h1
    .have dl:=d1.ds e;refine#[by rw[<-dl.length];assumption,λp hp=>gN R1 h1<|.inr #[p,vs,rfl,hp,rfl,dl]]
    .show h1.elim) (m8 (G.e O _ _) _)
theorem VS (e):wY X T Z e (sT m c e):=by
 cases e<;>try show(λh he=>PT.imp (Sr h he) λσ H Q h=>Lg h) (G.e O _ _ _) (λw=>LY zc w)
 .rename_i op _ _;cases op
  .show RR<|FP (G.t O) _
  .show RR<|JW (G.t O) _
 .rename_i op _ _;cases op<;>try show gQ
  show(λh=>by
   refine PT.imp (Sv h) λσ H Q=>bK λF r env bx R h=>?_;refine#[F,r,env,bx,R,End.bind h λk bx1 F1 r1 v H1 g1 R1 d1 h1=>?_];subst d1;show h1 F1 r1 _ H1 (.refl F1 r1) R1 zc) (G.t O _)
 .show gQ
 .ext a ops bs pos;rcases ops with _|⟨op,_|⟨kX,_|_⟩⟩<;>rcases bs with _|⟨b,_|⟨d,_|_⟩⟩<;>try show gQ
  .unfold sT;dsimp only;split
   .ext h;unfold Ir;rw[if_pos h];cases op<;>try show gQ
    .dsimp only;split
     .ext q;show(λhu hi ho hm=>PT.imp (AS (CT hu hi ho) hm) λσ H Q h=>DZ<|Lg h) O.u1 (G.e O _ _ a) (G.e O _ _ b) q
     .show gQ
    .dsimp only;split
     .ext q;show(λhu hi ho hm=>PT.imp (AS (Ck hu hi ho) hm) λσ H Q h=>ML<|Lg h) O.u1 (G.e O _ _ a) (G.e O _ _ b) q
     .show gQ
   .split
    .cases op<;>try show gQ
     dsimp only;split
     .ext q;show(λhu hi ho hm=>PT.imp (AS (CT hu hi ho) hm) λσ H Q h=>RU<|Lg h) O.u1 (G.e O _ _ a) (G.e O _ _ b) q
     .show gQ
    have dflt:∀ op b,wY X T Z (.Compare a [op] [b] pos) (match vh op with
     |some g=>if behindInMarks op b=af then dB (d2 af g (m.e c af af a)<|m.e c af af b) else aS
     |none=>aS):=λop b=>by
     split
     .ext g e;let#[q,h1,h2]:=mI O.u0 e;split
      .ext z;show(λho hg ha hb hm=>by
       refine PT.imp (Ox ho ha hb hm) λσ H Q h=>?_;let#[F,r,env,bx,R,h]:=h;refine GT hg σ H _ #[F,r,env,bx,R,End.bind h λw bx1 F1 r1 v H1 g1 R1 d1 h1=>?_];split at h1
       .ext k;show#[k,d1,h1 F1 r1 k H1 (.refl F1 r1) R1 zc]
       .show h1.elim) h1 h2 (G.e O _ _ _) (G.e O _ _ _) z
      .show gQ
     .show gQ
    cases op<;>try show dflt _ _
    all_goals (cases b<;>try show dflt _ _)
    all_goals (rename_i v _ _ _ _;cases v<;>try show dflt _ _)
    .show PT.imp (AS (L6<|G.e O _ _ _) zc) λσ H Q h=>(λh=>by
     let#[F,r,env,bx,R,h]:=h;refine#[F,r,env,bx,R,End.bind h λx bx1 F1 r1 v H1 g1 R1 d1 h1=>?_];cases x with
     |d d=>
       rw[AI<|d1];cases d<;>show h1 F1 r1 _ H1 (.refl F1 r1) R1 zc
     |_=>show h1.elim)<|Lg h
    .show PT.imp (AS (GL<|G.e O _ _ _) zc) λσ H Q h=>(λh=>by
     let#[F,r,env,bx,R,h]:=h;refine#[F,r,env,bx,R,End.bind h λx bx1 F1 r1 v H1 g1 R1 d1 h1=>?_];cases x with
     |d d=>
       rw[AI<|d1];cases d<;>show h1 F1 r1 _ H1 (.refl F1 r1) R1 zc
     |_=>show h1.elim)<|Lg h
  .unfold sT;dsimp only;split
   .ext g g' e e';let#[q,h1,h2]:=mI O.u0 e;let#[q',ZA,ZC]:=mI O.u0 e';split
    .ext z;show(λho pC hg Hh ha hb hc hm=>by
     refine PT.imp (Mg ho pC ha hb hc hm) λσ H Q h=>?_;let#[F,r,env,bx,R,h]:=h;refine GU hg Hh #[F,r,env,bx,R,End.bind h λw bx1 F1 r1 v H1 g1 R1 d1 h1=>?_];split at h1
     .ext k;show#[k,d1,h1 F1 r1 k H1 (.refl F1 r1) R1 zc]
     .show h1.elim) h1 ZA h2 ZC (G.e O _ _ _) (G.e O _ _ _) (G.e O _ _ _) z
    .show gQ
   .show gQ
theorem VT (tg):sF X T tg (sG m c tg):=by
 unfold sG;split
 .split
  .ext i e;split
   .ext h;let#[a,b]:=O.lo h;show Mt i O.uC (O.at e) a b
   .show mH
  .show mH
 .split
  .ext h;show(λhc h eK hn=>OH hc h ((mP eK).1.trans hn) (mP eK).2) O.calm (Ob (G.g O) _) h zc
  .show mH
 .split
  .ext o i pos h;show OU (G.e O _ _ o) (G.e O _ _ i) (λv=>by cases i<;>first|rfl|cases h)
  .show mH
 .show mH
end
end L2.DL
namespace L2
end L2
namespace L2.DL
open PySem.W

theorem RG (hk:env.blockKind=.function) (na:b9 a=ah) (nb:b9 b=ah) (h:(env.kindOf x==ae .local&&env.kindOf y==ae .local)=af) :
 swappedStores [.Tuple [.Name x px,.Name y py] kt pt] (.Tuple [a,b] k2 vG) env=pure ag:=by
 have hp:∀ (x:Str) (p:Pos),(Expr.Name x p).pos=p:=λ_ _=>rfl;unfold swappedStores;erw[aaW,pd,hp];rw[Bool.and_eq_false_iff]at h;rcases h with h|h
 .erw[n8,aaX,h,IG];by_cases q:(env.kindOf y==ae .local&&py.line==px.line)=ah
  .simp[q]
  .simp[q]
 .erw[n8,aaX,h,IG];by_cases z:env.kindOf x=ae .local<;>simp[z]
def wj (f:dW->aA):List dW->aA
 |[]=>bc
 |[s]=>f s
 |s::r=>fu (f s)<|wj f r
theorem m9 (h:∀ s,nU X T Z s<|f s):∀ b,K4 X T Z b (wj f b)
 |[]=>(kW.imp Op λD σ H=>bK λF r env bx R h=>h F r σ H (.refl F r) R)
 |[s]=>(λh1=>Oq h1)<|h s
 |s::a::r=>Ms (h s)<|m9 h _
noncomputable def ZD:aD->aD->Bool
 |.Tuple ..,.Tuple ..|.List ..,.Tuple ..=>af
 |_,_=>ah
theorem Sj (h:ZD tg e=ah):swappedStores [tg] e env=pure ag:=by
 cases tg with
 |Tuple es n p=>cases e<;>first|rfl|cases h
 |List es p=>cases e<;>first|rfl|cases h
 |_=>rfl
noncomputable def QX (c:Cf) (x:Str) (tp cp:Pos) (sc:kL):Bool:=c.nm.lookup x==ae .local&&tp.line==cp.line&&!(sc.names.any λ(n,k)=>n==x&&(k==.local||k==.cell))

theorem c7.block (O:c7 c k X Z):X.env.blockKind=.function:=by unfold Env.blockKind;rw[O.kd];rfl
theorem JY (O:c7 c k X Z):swapsWith (.ListComp elt gs sc cp) (ae<|.Name x tp) l X.env=pure (QX c x tp cp sc):=by
 have h:swapsWith (.ListComp elt gs sc cp) (ae<|.Name x tp) l X.env=pure _:=rfl;rw[h,O.block];unfold Env.kindOf QX;rw[O.nm];rfl
theorem lj (h:k8 e=af):swapsWithSole [t] e l env=pure af:=l9 h
section
variable (m:Cm) (c:Cf)
noncomputable def vi:aD->Bool
 |.Dict [] [] _=>ah
 |_=>af
def ZE (x:Str) (tp:Pos) (e:aD):aA:=match c.ix x with
 | some i=>if c.xG x then (match e with
   | .ListComp elt gs sc cp=>(match gs with|[⟨tg,it,ifs,n⟩]=>if n=0 then (if c.QV tg sc&&QT it&&QX c x tp cp sc then (match QW c it with
     |some j=>fI (uq (c.bx.contains x) (c.src tg sc) j (m.g (c.inner tg sc) tg) (cF m (c.inner tg sc) ifs)<|m.e (c.inner tg sc) af af elt)<|fg i
     |none=>fI (fO (c.bx.contains x) (c.src tg sc) (cI m c tg it) (m.g (c.inner tg sc) tg) (cF m (c.inner tg sc) ifs)<|m.e (c.inner tg sc) af af elt)<|fg i) else if QX c x tp cp sc then d9 else fI (m.e c (c.bx.contains x) af e) (fg i)) else d9|_=>d9)
   |e=>if k8 e then d9 else fI (if c.kd x 3&&vi e then uZ else m.e c (c.bx.contains x) af e) (fg i)) else d9
 |none=>d9
def aem (c:Cf) (x y:Str) (px py:Pos) (a b:aD):Bool:=b9 a&&b9 b&&decide (x≠y)&&c.xG x&&c.xG y&&(if c.nm.lookup x==ae .local&&c.nm.lookup y==ae .local then px.line==py.line&&!([a,b].all<|foldedForSure 8)&&!([a,b].all<|constantsAlone 8) else ah)
def ZF (x y:Str) (px py:Pos) (a b:aD):aA:=match c.ix x,c.ix y with
 |some i,ae j=>if aem c x y px py a b then eE i j (fe (if c.kd x 3&&vi a then uZ else m.e c (c.bx.contains x) af a)<|fe (m.e c (c.bx.contains y) af b) fj) else d9
 |_,_=>d9
def ZG (tg e:aD):aA:=match tg,e with
 |.Name x tp,e=>ZE m c x tp e
 |.Tuple [.Name x px,.Name y py] _ _,.Tuple [a,b] _ _=>ZF m c x y px py a b
 |.Subscript o i p,e=>if k8 e then d9 else if Im c 3 o then uu (m.e c af af o) (m.e c af af i) (m.e c af af e) else if xF c o then qj (m.e c af af o) (m.e c af af i) (m.e c af af e) else fI (m.e c af af e) (m.g c<|.Subscript o i p)
 |tg,e=>if !k8 e&&b9 tg&&ZD tg e then fI (m.e c af af e) (m.g c tg) else d9
def ZH (t:aD) (op:Operator) (e:aD):aA:=match t with
 | .Name x _=>(match c.ix x with
   | some i=>if c.xG x then (match op with
     |.Add=>Qr af i<|m.e c af af e
     |_=>d9) else d9
   |none=>d9)
 |_=>d9
def sS (st:dW):aA:=match st with
 |.Assign [tg] e _=>ZG m c tg e
 |.Return (ae e) _=>fJ<|m.e c c.rb (!c.rb) e
 |.Expr e _=>if k8 e then d9 else gz (m.e c af af e)
 |.If t a b _=>aV (m.t c t) (wj (m.s c) a)<|wj (m.s c) b
 | .For tg it body [] _=>if QT it then (match QW c it with
   |some j=>y0 j (m.g c tg)<|wj (m.s c) body
   |none=>if Im c 2 it then HV (m.e c af af it) (m.g c tg) (wj (m.s c) body) else ic (cI m c tg it) (m.g c tg) (wj (m.s c) body)) else d9
 |.AugAssign t op e _=>ZH m c t op e
 |.Delete [.Subscript o i _] _=>if xF c o then yY (m.e c af af o) (m.e c af af i) else d9
 |.Break _=>acI
 |.Continue _=>acJ
 |_=>d9
end
section
variable {m:Cm} {c:Cf} {k:Nat} {X:Cx} {Z:Xs} {T:Fr} (G:Good m) (O:c7 c k X Z)
include G O
theorem RH (x) (e) (tp pos):nU X T Z (.Assign [.Name x tp] e pos) (ZE m c x tp e):=by
 unfold ZE;split
 .ext i hi;split
  .ext hl;let#[l1,l2]:=O.lo hl;have second:∀ e,nU X T Z (.Assign [.Name x tp] e pos) (if k8 e then d9 else fI (if c.kd x 3&&vi e then uZ else m.e c (c.bx.contains x) af e) (fg i)):=λe=>by
    split
    .show fT
    .ext h;refine GW i ?_ O.uC (O.at hi) l1 (l9 (by simpa using h)) l2;split
     .ext q;rw[aF]at q;revert q;cases e with
      |Dict ks vs p=>cases ks<;>cases vs<;>first|(intro _;show Jb)|(intro q;show absurd q.2 (by simp[vi]))
      |_=>intro q;show absurd q.2 (by simp[vi])
     .show G.e O _ _ _
   cases e<;>try show second _
   ext elt gs sc cp;rcases gs with _|⟨⟨tg,it,ifs,n⟩,_|_⟩<;>try show fT
   dsimp only;split
   case isFalse=>show fT
   .ext hn;subst hn;split
    .ext q;rw[aF,aF]at q;let#[S,OO]:=O.inner q.1.1;have sw:=JY O (elt:=elt) (gs:=[#[tg,it,ifs,0]]) (sc:=sc) (cp:=cp) (tp:=tp) (x:=x) (l:=pos.line);rw[q.2]at sw;split
     .show LB i _ O.calm S (JX O (by assumption)) (λ_ _ _ _ _ _=>G.g (OO _ _ _ _ _) tg) (λ_ _ _ _ _ _=>Oe G (OO _ _ _ _ _) ifs) (λ_ _ _ _ _ _=>G.e (OO _ _ _ _ _) _ _ elt) O.uC (O.at hi) l1 sw l2 λx=>jH q.1.2 x
     .show MJ i _ O.calm S (Od G O tg it) (λ_ _ _ _ _ _=>G.g (OO _ _ _ _ _) tg) (λ_ _ _ _ _ _=>Oe G (OO _ _ _ _ _) ifs) (λ_ _ _ _ _ _=>G.e (OO _ _ _ _ _) _ _ elt) O.uC (O.at hi) l1 sw l2 λx=>jH q.1.2 x
    .split
     .show fT
     .ext q;refine GW i (G.e O _ _ _) O.uC (O.at hi) l1 ?_ l2;rw[JY O,Bool.eq_false_iff.mpr q]
  .show fT
 .show fT
theorem RI (x y) (a b) (px py pt vG pos) (kt k2):nU X T Z (.Assign [.Tuple [.Name x px,.Name y py] kt pt] (.Tuple [a,b] k2 vG) pos) (ZF m c x y px py a b):=by
 unfold ZF;split
 .ext i j hi hj;split
  .ext q;unfold aem at q;rw[aF,aF,aF,aF,aF,decide_eq_true_eq]at q;let#[#[#[#[#[na,nb],kP],hx],hy],q]:=q;have pa:PD X T Z a (if c.kd x 3&&vi a then uZ else m.e c (c.bx.contains x) af a):=by
    split
    .ext q;rw[aF]at q;revert q;cases a with
     |Dict ks vs p=>cases ks<;>cases vs<;>first|(intro _;show Jb)|(intro q;show absurd q.2 (by simp[vi]))
     |_=>intro q;show absurd q.2 (by simp[vi])
    .show G.e O _ _ _
   have ps:rC X T Z [a,b] (fe (if c.kd x 3&&vi a then uZ else m.e c (c.bx.contains x) af a)<|fe (m.e c (c.bx.contains y) af b) fj):=oH pa (oH (G.e O _ _ b) mj nb) na;have kx:X.env.kindOf x=c.nm.lookup x:=by unfold Env.kindOf;rw[O.nm]
   have ky:X.env.kindOf y=c.nm.lookup y:=by unfold Env.kindOf;rw[O.nm]
   by_cases h:(c.nm.lookup x==ae NameKind.local&&c.nm.lookup y==ae NameKind.local)=ah
   .rw[if_pos h]at q;erw[aF,tL]at q;rw[aF]at h;have h1:c.nm.lookup x=ae .local:=by simpa using h.1
    have h2:c.nm.lookup y=ae .local:=by simpa using h.2
    refine(λi j hc hN ha hi hj EY hx hy hw hs=>PS.imp (SE hc hN hi hj EY hx hy ha hw hs) λD σ H h=>US h) i j O.calm O.uC ps (O.at hi) (O.at hj) (λz=>?_) (by rw[O.nm];show h1) (by rw[O.nm];show h2) ((λhk hx hy hl kP na nb nf nc=>by
     have hd:([x,y]).eraseDups.length=2:=by
      have:(y==x)=af:=by simpa using Ne.symm kP
      simp[List.eraseDups_cons,this]
     have hp:∀ (x) (p),(Expr.Name x p).pos=p:=λ_ _=>rfl;unfold swappedStores;erw[hk,aaW,pd,hp,];simp[(by simpa using hl),hd,hx,hy,nf,nc];rintro(h|h)
     .cases a<;>first|(cases h;done)|cases na
     .cases b<;>first|(cases h;done)|cases nb) O.block (kx.trans h1) (ky.trans h2) q.1.1 kP na nb q.1.2 q.2) (lj rfl)
    subst z;have:=(c.Zf hi).symm.trans<|c.Zf hj;show kP<|Option.some.inj this
   .let#[l1,l2]:=O.lo hx;let#[l3,l4]:=O.lo hy;refine MM i j O.calm O.uC ps (O.at hi) (O.at hj) l1 l3 l2 l4 (lj zc) (RG O.block na nb ?_) zc zc zc zc zc;rw[kx,ky];simpa using h
  .show fT
 .show fT
theorem RJ (tg e) (pos):nU X T Z (.Assign [tg] e pos) (ZG m c tg e):=by
 have dflt:∀ tg e,nU X T Z (.Assign [tg] e pos) (if !k8 e&&b9 tg&&ZD tg e then fI (m.e c af af e) _ else d9):=λtg e=>by
  split
  .ext q;simp[aF,tL]at q;show GV (G.e O _ _ _) (G.g O _) (lj q.1.1) (Sj q.2) (by rw[lF q.1.2];rfl)
  .show fT
 cases tg<;>try show dflt _ _
 .unfold ZG;try dsimp only
  split
  .show fT
  .ext h;split
   .show(λhu ho hi hv hs=>by
    refine PS.imp (G1 hu ho hi hv hs) λD σ H=>bK λF r env bx R h=>?_;refine#[F,r,env,bx,R,End.bJ h λz bx1 F1 r1 t H1 g1 R1 d1 h1=>#[F1,r1,env,bx1,R1,End.bJ h1 λx bx2 F2 r2 v H2 g2 R2 d2 h2=>#[F2,r2,env,bx2,R2,End.bJ h2 λy bU F3 r3 u H3 g3 R3 d3 h3=>?_]]];split at h3
    .let#[a,rfl,ha]:=(g3.den d2);let#[c,hc,kc]:=R3.eI ha;rw[hc]at h3;split at h3
     .ext l k e1 e2;cases e1;split at h3
      .ext hl;let#[hF,aj,k1,k2]:=kc;let#[b,us,rfl,f1,f2]:=d3;cases C0 e2 f2;show#[a,_,rfl,.inr #[aj,k,b,k1,rfl,R3.fh _ _ f1,by rw[<-k2.length];show hl,rfl],h3 F3 r3 _ _ (.refl F3 r3)<|R3.write ha hF #[hF,_,fw,k2.put2<|g3.den<|g2.den d1]]
      .show h3.elim
     .show h3.elim
    .show h3.elim) O.u1 (G.e O _ _ _) (G.e O _ _ _) (G.e O _ _ _) (l9 (by simpa using h))
   split
   .show(λhu ho hi hv hs=>PS.imp (G1 hu ho hi hv hs) λD σ H h=>U3 h) O.u1 (G.e O _ _ _) (G.e O _ _ _) (G.e O _ _ _) (l9 (by simpa using h))
   .show GV (G.e O _ _ _) (G.g O _) (lj (by simpa using h)) (Sj zc) zc
 .show RH G O _ _ _ _
 .rename_i es _ _;rcases es with _|⟨x,_|⟨y,es⟩⟩<;>try show dflt _ _
  all_goals (cases x<;>try show dflt _ _)
  all_goals (cases y<;>try show dflt _ _)
  cases es<;>try show dflt _ _
  cases e<;>try show dflt _ _
  rename_i vs _ _;rcases vs with _|⟨a,_|⟨b,vs⟩⟩<;>try show dflt _ _
  cases vs<;>try show dflt _ _
  show RI G O _ _ _ _ _ _ _ _ _ _ _
theorem RK (t) (op) (e) (pos):nU X T Z (.AugAssign t op e pos) (ZH m c t op e):=by
 unfold ZH;split
 .split
  .ext i hi;split
   .ext hl;let#[l1,l2]:=O.lo hl;split
    .show(λi he hN hi hx hf=>PS.imp (SF hN hi hx he SG hf) λD σ H h=>U7 af h) i (G.e O _ _ _) O.uC (O.at hi) l1 l2
    .show fT
   .show fT
  .show fT
 .show fT
theorem VU (st):nU X T Z st (sS m c st):=by
 cases st<;>try show fT
 .rename_i v _;cases v<;>try show fT
  show(λh=>PS.imp (SA h) λD σ H ⟨F,r,env,bx,R,h⟩=>(#[F,r,env,bx,R,End.bJ h λw bx1 F1 r1 v H1 g1 R1 d1 h1=>h1 F1 r1 v H1 (.refl F1 r1) R1.drop d1])) (G.e O _ _ _)
 .rename_i ts _;rcases ts with _|⟨t,ts⟩<;>try show fT
  cases t<;>try show fT
  cases ts<;>try show fT
  unfold sS;dsimp only;split
  .show(λho hi=>PS.imp (OR ho hi) λD σ H h=>U4 h) (G.e O _ _ _) (G.e O _ _ _)
  .show fT
 .rename_i ts _ _;rcases ts with _|⟨_,_|_⟩<;>try show fT
  show RJ G O _ _ _
 .show RK G O _ _ _ _
 .rename_i tg it bd oe _;cases oe<;>try show fT
  unfold sS;dsimp only;split
  .ext h;split
   .show(λhp hc hi hg hb hs=>PS.imp (Jc<|FS hp hc (MT hi) hg hb hs) λD σ H h=>To h) O.own O.calm (JX O (by assumption)) (G.g O _) (m9 (G.s O) _) (λx=>jH h x)
   .split
    .show(λhp hc hi hg hb hs=>PS.imp (FS hp hc (Ov hi) hg hb hs) λD σ H h=>Ts h) O.own O.calm (G.e O _ _ _) (G.g O _) (m9 (G.s O) _) (λx=>jH h x)
    .show(λhp hc hi hg hb hs=>PS.imp (FS hp hc hi hg hb hs) λD σ H h=>UT h) O.own O.calm (Od G O _ _) (G.g O _) (m9 (G.s O) _) (λx=>jH h x)
  .show fT
 .show(λhc ha hb=>by
  refine PS.imp (UM hc ha hb) λD σ H=>bK λF r env bx R h=>?_;refine#[F,r,env,bx,R,End.bJ h λw bx1 F1 r1 v H1 g1 R1 d1 h1=>?_];subst d1;cases w with
  |true=>show#[F1,r1,env,bx1,R1,h1]
  |false=>show#[F1,r1,env,bx1,R1,h1]) (G.t O _) (m9 (G.s O) _) (m9 (G.s O) _)
 .unfold sS;dsimp only;split
  .show fT
  .ext h;show(λh hs=>PS.imp (Os h hs) λD σ H ⟨F,r,env,bx,R,h⟩=>(#[F,r,env,bx,R,End.bJ h λw bx1 F1 r1 v H1 g1 R1 d1 h1=>h1 F1 r1 σ H1 (.refl F1 r1) R1])) (G.e O _ _ _) (l9 (by simpa using h))
 .show(PS.imp L9 λD σ H=>bK λF r env bx R h=>h F r σ H (.refl F r) R)
 .show(PS.imp DA λD σ H=>bK λF r env bx R h=>h F r σ H (.refl F r) R)
end
def aiE (m:Cm):Cm:=#[λc bo fz e=>sE m c bo fz e,λc e=>sT m c e,λc e=>sG m c e,λc st=>sS m c st]
def cm:Nat->Cm
 |0=>#[λ_ _ _ _=>aS,λ_ _=>aS,λ_ _=>xE,λ_ _=>d9]
 |n+1=>aiE<|cm n
theorem oU:∀ n,Good (cm n)
 |0=>#[λ_ _ _ _ _=>fG,λ_ _ _=>gQ,λ_ _ _=>mH,λ_ _ _=>fT]
 |n+1=>#[λO _ bo fz e=>VR (oU n) O bo fz e,λO _ e=>VS (oU n) O e,λO _ e=>VT (oU n) O e,λO _ st=>VU (oU n) O st]
structure FI where
 x:Str
 ps:List Str
 N:List Str
 bx:List Str
 dc:List Str
 wk:List (Str×Nat)
 fl:Nat   -- 1: its list is a box as it is returned,2: may raise,4: has a try,8: calls itself
 st:dW
 fn:List W->List Bx->O W
structure Tx where
 QO:Str
 gl:List (Str×Int)
 bl:List Str
 P:aq   -- the table of the code that has a aix
noncomputable def FI.b (f:FI) (i:Nat):Bool:=f.fl / i % 2==1
noncomputable def aiF (r:List FI):List (Str×(Nat×(List W->List Bx->O W))):=r.map λg=>(g.x,(g.ps.length,g.fn))
def FI.cf (t:Tx) (fs:List<|Str×(Nat×(List W->List Bx->O W))) (f:FI):Cf:=
 { N:=f.N,nm:=(fQ f.st).names,f:=ah,bx:=f.bx,dc:=f.dc,wk:=f.wk,QO:=t.QO,fs:=fs,gl:=t.gl,bl:=t.bl,rb:=f.b 1,ow:=[],lm:=if f.b 64 then ae t.P else ag,qn:=f.x ++ ".<locals>." }
def FI.body (t:Tx) (fs:List<|Str×(Nat×(List W->List Bx->O W))) (f:FI):List W->List Bx->O W:=
 let m:=wj ((cm 40).s<|f.cf t fs)<|iB f.st
 aY f.N.length (aQ m)
def FI.ok (f:FI):Bool:=decide ((fQ f.st).kind=.function)&&!(fQ f.st).isCoroutine&&!(fQ f.st).isGenerator&&decide f.N.Nodup&&decide (f.N.take f.ps.length=f.ps) &&
 f.ps.all (λx=>decide ((fQ f.st).names.lookup x=ae .local)||decide ((fQ f.st).names.lookup x=ae .cell))&&(fQ f.st).names.all λy=>decide (y.2≠.free)
theorem FI.scope {f:FI}(h:f.ok=ah):E8 f.N f.ps (fQ f.st):=by
 erw[FI.ok,aF,decide_eq_true_eq,dF,xY,tL]at h;let#[#[#[#[#[#[h1,h2],h3],h4],h5],h6],h7]:=h;show#[h1,h2,h3,h4,h5,h6,λy m=>h7 y m]
def FI.Is (t:Tx) (r:List FI) (f:FI):zm:=f.fn=f.body t (aiF r)
noncomputable def ZI (t:Tx):List FI->zm
 |[]=>True
 |f::r=>f.Is t r /\ ZI t r
noncomputable def QY:List FI->Nat
 |[]=>0
 |_::r=>QY r+1
section
variable {P:eR} {w:cQ} {K:PySem.W.Frag} {mg:Str -> Option ay} {base:aT} {cl:Nat -> aq}
structure aen (K:PySem.W.Frag) (mg:Str->Option ay) (t:Tx):zm where
 gl:∀ x v,t.gl.lookup x=ae v->∃ u,mg x=ae (.int v u)
 bl:∀ x,x∈t.bl->mg x=ag
 ti:sJ K "int"
 tb:sJ K "bool"
 tt:sJ K "tuple"
 tl:sJ K "list"
def codeHdIn (K:PySem.W.Frag) (cd:ay) (P:aq):Bool:=match cd with
 | .ref c=>(match K.lookup c with
   |some ⟨.type "code",_,.fields vs,_⟩=>decide (vs[11]?=ae (.ref P))&&(match vs.getD 18 .none with|.str _ _=>ah|_=>af)&&(match vs.getD 7 .none with|.int _ _=>ah|_=>af)&&(match vs.getD 9 .none with|.bool _=>ah|_=>af)&&(match vs.getD 10 .none with|.int _ _=>ah|_=>af)&&decide (c≠P)
   |_=>af)
 |_=>af
theorem CK {P}(e:codeHdIn K cd P=ah):∃ c,cd=.ref c /\ ∀ h,K.In h->PySem.W.CodeHd h c P:=by
 unfold codeHdIn at e;split at e
 case h_2=>cases e
 ext c;split at e
 case h_2=>cases e
 ext od vs sl lk;erw[aF,decide_eq_true_eq]at e;let#[#[#[#[#[e1,e2],e3],e4],e5],e6]:=e;refine#[c,rfl,λh KX=>?_];split at e2
 case h_2=>cases e2
 ext file tf f1;split at e3
 case h_2=>cases e3
 ext fl tg f2;split at e4
 case h_2=>cases e4
 ext nG f3;split at e5
 case h_2=>cases e5
 ext tx tt f4;show#[_,vs,file,tf,fl,tg,nG,tx,tt,KX _ _ lk,rfl,rfl,e1,by rw[Array.getD_eq_getD_getElem?,e1];rfl,f1,f2,f3,f4,e6]
def QZ (K:PySem.W.Frag) (x:Str) (P:aq):Bool:=match PySem.W.nsIn K mainGlobals x with
 |some (ae<|.ref f)=>(match K.lookup f with|some ⟨_,_,.func fd,_⟩=>codeHdIn K fd.code P|_=>af)
 |_=>af
structure aeo (base:aT) (mg:Str->Option ay) (P:aq):zm where
 bi:base.BuiltinsAt mg P
 gP:mainGlobals≠P
theorem _root_.L2.qD.aiG {x qual:Str}{st:dW}{f:aq}{fd:FuncData}{N ps:List Str}{k:Nat}{sp:Sp}(F:qD K x qual st f fd) (S:E8 N ps<|fQ st) (len:∀ vs H Q E,sp vs H Q E->vs.length=ps.length)
 (E9:∀ (A:kU) (outer:List Env) (s:aN) (H:Hp) (vs:List V) (Q:VK) (E:XK),eS k (A.deeper<|envOfC qual (fQ st) s.heap.objs.size f fd.code)->sp vs H Q E ->
  ∃ t,kW (yy XU P w K mg base N qual (fQ st) f fd.code A outer s H E).EW (iB st) t /\ t { nx:=λ_ H'=>Q .az H',rt:=Q } (start N vs) H):rz P w K mg base XU (k+1) f fd ps sp:=by
 let#[oc,od,kV,doc,pm,an,eD,ct,sr,rfl,lk,pD]:=F.ex;refine UR lk pD S len λA outer s H vs Q E hr yz=>?_;let#[t,h,q]:=E9 A outer s H vs Q E hr yz;show#[t,h.EW,q]
theorem RL {st}(d:Def K mg x st ps) (S:E8 N ps<|fQ st)
 (E9:∀ (f) (fd),mg x=ae (.ref f)->qD K x x st f fd->∀ (A) (outer) (s) (H) (E) (n) (F0),eS k (A.deeper<|envOfC x (fQ st) s.heap.objs.size f fd.code) ->
  K4 (yy XU P w K mg base N x (fQ st) f fd.code A outer s H E).EW #[H,n,F0] #[E0,cl] (iB st) m):uS P w K mg base cl (k+1) x ps (aY N.length<|aQ m):=by
 let#[f,fd,F,hm,hb]:=d;refine#[f,fd,?_,hm,F.kp,hb,F.obj]
 refine(λG=>#[G.len,λA outer s H args us vs Q E hr e0 hb hv hs=>xK (G.run A outer s H args us vs Q E hr e0 hb hv hs) λr s' h=>by
  cases r with
  |error e=>show False.elim h
  |ok fl=>
    cases fl with
    |ret u=>show h
    |next=>show h
    |brk=>show h
    |cont=>show h]) (F.aiG S (λvs H Q E h=>?_) λA outer s H vs Q E hr h=>?_)
 .let#[F,r,ws,bx,_,d,hl,_]:=h;rw[<-d.length];show hl
 .let#[F1,r,ws,bx,R,d,hl,h]:=h;refine#[_,E9 f fd hm F A outer s H E r.length F1 hr,F1,r,envOf N.length ws,bx,R.start d,?_];have h':=OJ<|OI R.len.symm h;unfold aQ at h';cases e:m _ bx with
  |nx env bx1=>simp[e]at h';show h'
  |rt w bx1=>simp[e]at h';show h'
  |bk env bx1=>simp[e]at h';show h'
  |ct env bx1=>simp[e]at h';show h'
  |exc n bx1=>simp[e]at h';show h'.elim
  |bad=>simp[e]at h';show h'
theorem Oi (B:aen K mg t) {f:FI}(d:Def K mg f.x f.st f.ps) (ho:f.ok=ah) (L:f.b 64=ah->aeo base mg t.P /\ ∀ fa fd,mg f.x=ae (.ref fa)->qD K f.x f.x f.st fa fd->codeHdIn K fd.code t.P=ah) (F:∀ x n fn,fs.lookup x=ae (n,fn)->∃ kk ps,uS P w K mg base cl kk x ps fn /\ ps.length=n /\ kk<=k):uS P w K mg base cl (k+1) f.x f.ps (f.body t fs):=by
 have S:=FI.scope ho;refine RL d S λfa fd hm hF A outer s H E n F0 hr=>m9 ((oU 40).s (k:=k) ?_) _;refine#[rfl,rfl,S.kind,rfl,λ_ _=>rfl,(λx m=>nomatch m),S.nd,hr,F,B.gl,B.bl,GX,B.ti,B.tb,B.tt,B.tl,PassesOwn.never,λP hP=>?_];by_cases hb:f.b 64=ah
 .let#[l1,l2]:=L hb;have eP:t.P=P:=by
   have:(if f.b 64 then ae t.P else ag)=ae P:=hP;rw[if_pos hb]at this;show Option.some.inj this
  subst eP;let#[cc,e1,e2]:=CK<|l2 fa fd hm hF;show#[cc,e1,rfl,e2,l1.bi,l1.gP]
 .have:(if f.b 64 then ae t.P else ag)=ae P:=hP;rw[if_neg hb]at this;cases this
def ZJ:List FI->Bool
 |[]=>ah
 |f::r=>f.ok&&ZJ r
theorem JZ (B:aen K mg t):∀ (l),ZI t l->ZJ l=ah->(∀ f∈l,Def K mg f.x f.st f.ps)->(∀ f∈l,f.b 64=ah->aeo base mg t.P /\ ∀ fa fd,mg f.x=ae (.ref fa)->qD K f.x f.x f.st fa fd->codeHdIn K fd.code t.P=ah)->∀ f∈l,∃ kk,uS P w K mg base cl kk f.x f.ps f.fn /\ kk<=QY l
 |[],_,_,_,_=>λf m=>nomatch m
 | f::r,A,C,D,LL=>by
   let#[A1,A2]:=A;have C':(f.ok&&ZJ r)=ah:=C;rw[aF]at C';have ih:=JZ B r A2 C'.2 (λg m=>D g<|a8 _ m) λg m=>LL g<|a8 _ m;intro g m;rcases ba.mp m with rfl|m
   .rw[A1];show#[QY r+1,Oi B (D g<|bA ..) C'.1 (LL g<|bA ..) (λx n fn e=>by
    refine jb (P:=λx (p)=>∃ kk ps,uS P w K mg base cl kk x ps p.2 /\ ps.length=p.1 /\ kk<=QY r) (λp m=>?_) e;let#[g,aiH,rfl]:=a9.mp m;let#[kk,h1,h2]:=ih g aiH;show#[kk,g.ps,h1,rfl,h2]),aC _]
   .let#[kk,h1,h2]:=ih g m;show#[kk,h1,xX h2]
end
noncomputable def aep (o:Obj):Bool:=match o.cls with|.type n=>n == "list"|_=>af
def ZK (K:PySem.W.Frag):Bool:=K.all λp=>!aep p.2
theorem LZ {K}(h:ZK K=ah) (e:K.lookup a=ae o):o.cls≠.type "list":=by
 intro c;unfold ZK at h;rw[dF]at h;have m:(a,o)∈K:=by
  clear h;induction K with
  |nil=>cases e
  |cons p K ih=>
    rw[nu]at e;cases q:a==p.1 with
    |true=>
      rw[q]at e;cases e;have:a=p.1:=by simpa using q
      subst this;show bA ..
    |false=>
      rw[q]at e;show a8 _<|ih e
 have:=h _ m;simp[aep,c]at this
noncomputable def tys:List String:=["NoneType","bool","int","str","tuple","list","dict"]
def ZL (K:PySem.W.Frag):Bool:=tys.all λS=>["int","bool","tuple","list"].all λT=>PySem.W.kitOne K (.type S) (.type T)==ae (vT S T)
theorem Dy {K}(h:ZL K=ah) (m:T∈["int","bool","tuple","list"]):sJ K T:=by
 intro d;unfold ZL at h;rw[dF]at h;have m1:sI d∈tys:=by cases d<;>simp[sI,tys]
 have z:=h _ m1;rw[dF]at z;show beq_iff_eq.mp<|z _ m
theorem UF {K:PySem.W.Frag}{st}{kV}(X:K.In h) (G:h.Ns mainGlobals mg)
 (a:PySem.W.nsIn K mainGlobals x=ae (ae<|.ref f)) (l:K.lookup f=ae #[oc,od,.func<|PySem.W.fnOf x x (jc st) (iB st) (fQ st) .none kV doc pm an eD ct,sr])
 (c:PySem.W.codeIn K eD x=ah) (k:PySem.W.keepIn K (.ref f)=ah) (hb:∀ fd,qD K x x st f fd->Binds K fd ps []):Def K mg x st ps:=
 #[f,_,Mn l c k,PySem.W.mg_of X G a,hb _<|Mn l c k]
noncomputable def ZM (K:Frag) (bl:List Str):Bool:=bl.all λx=>match nsIn K mainGlobals x with|some ag=>ah|_=>af
noncomputable def ZN (K:Frag) (gl:List<|Str×Int):Bool:=gl.all λp=>match nsIn K mainGlobals p.1 with|some (ae<|.int v _)=>v==p.2|_=>af
theorem GI {K:Frag}(X:K.In h) (G:h.Ns mainGlobals mg) (c:ZM K bl=ah):∀ x,x∈bl->mg x=ag:=λx m=>by
 unfold ZM at c;rw[dF]at c;have z:=c x m;split at z
 .next e=>show mg_none_of X G e
 .cases z
theorem Oj {K:Frag}(X:K.In h) (G:h.Ns mainGlobals mg) (c:ZN K gl=ah):∀ x v,gl.lookup x=ae v->∃ u,mg x=ae (.int v u):=λx v e=>by
 unfold ZN at c;rw[dF]at c;refine jb (P:=λx (v)=>∃ u,mg x=ae (.int v u)) (λp m=>?_) e;have z:=c p m;split at z
 .next v u e=>
  have:v=p.2:=by simpa using z
  subst this;show#[u,mg_of X G e]
 .cases z
def ZO (K:Frag) (x:Str) (st:dW):zm:=∃ (f:aq) (oc:ay) (od:Option aq) (kV dc pm:ay) (an:Option aq) (cd ct:ay) (sl:Array _),nsIn K mainGlobals x=ae (ae<|.ref f) /\
 K.lookup f=ae #[oc,od,.func<|fnOf x x (jc st) (iB st) (fQ st) .none kV dc pm an cd ct,sl] /\ codeIn K cd x=ah /\ keepIn K (.ref f)=ah
theorem dIn_mk {K}{st}{kV}(a:nsIn K mainGlobals x=ae (ae<|.ref f))
 (l:K.lookup f=ae #[oc,od,.func<|fnOf x x (jc st) (iB st) (fQ st) .none kV dc pm an cd ct,sl]) (c:codeIn K cd x=ah) (k:keepIn K (.ref f)=ah):ZO K x st:=#[f,oc,od,kV,dc,pm,an,cd,ct,sl,a,l,c,k]
noncomputable def ZP (a:Arguments) (ps:List Str):Bool:=a.posonlyargs.isEmpty&&a.vararg.isNone&&a.kwonlyargs.isEmpty&&a.kwarg.isNone&&decide (a.args.map (·.arg)=ps)&&decide ps.Nodup
theorem A0 {β:Type}{f g:Str->Option β}:∀ {l:List Str},(∀ n∈l,f n=g n)->l.filterMap f=l.filterMap g:=by
 intro l_;induction l_ with
 |nil=>show λ_=>rfl
 |cons n l bV=>(intro h;rw[n8,n8,h n<|bA ..,bV λm q=>h m<|a8 _ q])
theorem FQ:∀ {ps:List Str}{us:List ay},us.length=ps.length->ps.Nodup->(∀ n∈ps,((ps.zip us).lookup n).isNone=af) /\ ps.filterMap (λn=>((ps.zip us).lookup n).map (n,·))=ps.zip us
 |[],_,_,_=>#[(λ_ h=>nomatch h),rfl]
 |p::ps,[],h,_=>by cases h
 | p::ps,u::us,h,nd=>by
   let#[n1,n2]:=rY.mp nd;let#[a,b]:=FQ (by simpa using h) n2;have ne:∀ n∈ps,(n==p)=af:=λn m=>beq_eq_false_iff_ne.mpr λz=>n1<|z▸m;refine#[λn m=>?_,?_]
   .rw[wz,nu];cases q:n==p with
    |true=>rfl
    |false=>
      rcases ba.mp m with z|z
      .rw[z]at q;simp at q
      .show a n z
   .rw[wz,List.filterMap_cons_some (b:=(p,u)) zg];congr 1;show Eq.trans (A0 λn m=>by rw[nu,ne n m]) b
theorem GJ (h:ZP a ps=ah) (kV doc pm) (an) (eD ct) (us) (hl:us.length=ps.length) :
 bindArgs (fnOf x x a b sc .none kV doc pm an eD ct) #[us,[]]=pure (ps.zip us):=by
 let#[po,ar,va,ko,kd,kw,df]:=a;simp[ZP,aF,decide_eq_true_eq,aaV,aaZ]at h;let#[#[#[#[#[rfl,rfl],rfl],rfl],rfl],nd]:=h;let#[z1,z2]:=FQ hl nd;erw[bindArgs];have m0:∀ l:List Str,(∀ n∈l,n∈ar.map _)->l.filter (λn=>(((ar.map _).zip us).lookup n).isNone)=[]:=λl h=>List.filter_eq_nil_iff.mpr λn m=>by rw[z1 n<|h n m];decide
 have n0:(do notAStandIn Value.none;pure (ag:Option<|Array ay))=pure ag:=rfl;erw[aaL,kK,nq,EH,pure_bind,seqItems?,n0,hl,kI,decide_false,IG,ED,if_false,WO,List.drop_nil,rh,IE,IL,List.drop_length,aaJ,m0 _ λ_ h=>h,List.isEmpty_nil,Bool.not_true,z2]
noncomputable def AllIn (K:Frag):List FI->zm
 |[]=>True
 |f::r=>ZO K f.x f.st /\ AllIn K r
theorem aeq {K:Frag}(X:K.In h) (G:h.Ns mainGlobals mg):∀ {l},AllIn K l->(l.all λf=>ZP (jc f.st) f.ps)=ah->∀ f∈l,Def K mg f.x f.st f.ps
 |[],_,_=>λ_ m=>nomatch m
 | g::r,d,q=>λf m=>by
   rw[vp,aF]at q;rcases ba.mp m with rfl|m
   .let#[f,oc,od,kV,dc,pm,an,cd,ct,sl,a,l,c,k]:=d.1;show UF X G a l c k λfd F=>F.binds<|GJ q.1
   .show aeq X G d.2 q.2 f m
noncomputable def ZQ (K:Frag):List (Str×dW)->zm
 |[]=>True
 |(x,st)::r=>ZO K x st /\ ZQ K r
theorem J0 {K}:∀ {r},ZQ K (r.map λf=>(f.x,f.st))->AllIn K r
 |[],_=>trivial
 |_::_,h=>#[h.1,J0 h.2]
end L2.DL
namespace L2
open PySem.W
theorem L0 {K:Frag}
 (KX:K.In s1.heap) (eK:s1.heap.Ns mainGlobals mg) (hb:s1.heap.Ns builtinsNs mb) (aiI:∀ x:Str,x ≠ "__name__"->mb x=bootBuiltins x) (aiJ:s1.heap.NoLimit) (hg:s1.gens=#[])
 (ha:s1.heap.get? a=ae { cls:=.type "list",data:=.seq vs.toArray }) (hi:IntsAre vs ns) (hl:ns.length<=sizeLine) (hr:eS k callerA) (hT:s1.heap.get? T=ae (tabObj #[])) (aiK:isCodeTable s1.heap T) (ZR:K.lookup T=ag) (ZS:K.lookup a=ag)
 (aiL:s1.heap.BuiltinsAt mg T) (F:∀ base:aT,K.In base->base.Ns mainGlobals mg->base.BuiltinsAt mg T->rz P w K mg base CX k fa fd [x] sp) (YZ:∀ (s:aN) (u:ay),BindsTo s fd #[[u],[]] [(x,u)])
 (yz:∀ (H:Hp) (o:Obj),H a=ae (.bQ o<|.lst<|ns.map V.int)->H T=ae (.hO #[])->T≠a->(∀ b,b≠a->b≠T->H b=ag)->sp [.ref a] H (λv _=>v=.bl ah) λ_ _ _=>False)
 (aiM:∀ H e s',CX [] H s1 (λ_ _ _=>False) e s'->False) :
 codeAny (model P w) callerA (.call (.ref fa) #[[.ref a],[]]) (λr s'=>r=.ok (.ret<|.bool ah) /\ OldK s1.heap s'.heap /\ s'.os=s1.os /\ AllBare s'.gens) s1:=by
 have ta:T≠a:=λe=>by rw[e,ha]at hT;cases hT
 let u:HO:=.bQ { cls:=.type "list",data:=.seq vs.toArray }<|.lst<|ns.map V.int
 let H:=upd (upd (λ_=>ag) a u) T<|.hO #[]
 have HT:H T=ae (.hO #[]):=fw;have Ha:H a=ae u:=(fA<|Ne.symm ta).trans fw;have Hn:∀ b,b≠a->b≠T->H b=ag:=λb n1 n2=>by change upd _ T _ b=ag;rw[fA n2,fA n1]
 have nd:∀ {b}{o}{es}{ep},s1.heap.get? b=ae o->o.data=.dict es ep->H b=ag:=λ{b o es ep} e d=>Hn b (λz=>by rw[z,ha]at e;cases e;cases d) (λz=>by rw[z,hT]at e;cases e;cases d)
 have up:∀ {b}{o},s1.heap.get? b=ae o->H b=ag->(ER s1.heap H).get? b=ae o:=λe n=>(λe n=>PySem.W.hideAll_get _ e λhm=>by
  have q:=(cX.mp hm).2;rw[n]at q;simp at q) e n
 have Q0:∀ {b}{m},s1.heap.Ns b m->(ER s1.heap H).Ns b m:=λ⟨o,es,ep,e,d,r⟩=>#[o,es,ep,up e<|nd e d,d,r];have wI:=λb o e=>up (KX b o e) (Hn b (λz=>by rw[z,ZS]at e;cases e) λz=>by rw[z,ZR]at e;cases e);have bb:(ER s1.heap H).BuiltinsAt mg T:=by
  let#[bm,o,b1,b2,b3,b4,b5,b6,b7]:=aiL;show#[bm,o,b1,b2,b3,b4,up b5<|Hn bm (λz=>by rw[z,ha]at b5;cases b5;show absurd (show Value.type "list"=Value.type "module" from b6) zd) b4,b6,b7]
 refine xK ((F _ wI (Q0 eK) bb).run callerA [] s1 H #[[.ref a],[]] [.ref a] [.ref a] _ _ hr #[rfl,#[wI,Q0 eK,#[mb,Q0 hb,aiI],let ⟨mc,h1,h2⟩:=aiJ;#[mc,Q0 h1,h2]],λb o e=>Ol e,EC<|(λh H=>PySem.W.hideAll_size _ _) _ _,trivial,λb hb=>absurd (show b∈([]) from hb) zg,(λb v e=>by
  by_cases z:b=T
  .subst z;rw[HT]at e;cases e;show hT
  .by_cases y:b=a
   .subst y;rw[Ha]at e;cases e;show#[ha,by rw[aK];show hl,vs,_,Cg hi,ha]
   .rw[Hn b y z]at e;cases e),.of_eq hg] (YZ s1<|.ref a) (.cons rfl .nil)<|yz H _ Ha HT ta Hn) λr s' h=>?_
 cases r with
 |error e=>show(aiM H e s' h).elim
 |ok fl=>
   cases fl with
   |ret v=>
     let#[d,H',os,bare,un,aer,r',q]:=h;cases (q);cases (r');refine#[rfl,#[λb o e=>?_,λb o e=>(un.there b o e zg)],os,bare]
     .by_cases z:b=T
      .subst z;let#[more,t1]:=un.sf b _ HT;rw[hT]at e;cases e;show .inr<|.inl #[aiK,rfl,#[],more,rfl,(aer b _ t1)]
      .by_cases y:b=a
       .subst y;rw[ha]at e;cases e;show .inl (aer b _<|un.rj b _ _ Ha).1
       .show .inl<|un.keep b o e (Hn b y z) (by intro m;show absurd (show b∈([]) from m) zg) zg
   |_=>show False.elim h
end L2
namespace L2.DL
open PySem.W
theorem RM (hS:H a=ae (.bQ o<|.lst<|ns.map V.int)) (hT:H T=ae (.hO #[])) (ta:T≠a) (hf:∃ bx',fn [.s ns] [.tb T pos q]=.val (.d<|.bl ah) bx') :
 yG cl 1 fn [.ref a] H (λv _=>v=.bl ah) λ_ _ _=>False:=by
 let#[bx',hf]:=hf;have fo:=λ{b u} e=>by
  by_cases z:b=T
  .have e':(if b=T then ag else H b)=ae u:=e;rw[if_pos z]at e';cases e'
  .have e':=e
   rwa [if_neg z]at e'
 refine#[λb=>if b=T then ag else H b,[T],[.s ns],[.tb T pos q],#[λb u e=>fo e,λi w e=>by simp at e,rfl,by simp,λn c b e1 e2=>?_,λb u e _=>e,λn b h e=>?_,aC _,aC _,λb u e=>.inr<|.inl e],#[.ref a,[],rfl,#[a,o,rfl,(if_neg<|Ne.symm ta).trans hS],rfl],rfl,?_]
 .cases n with
  |succ n=>simp at e1
  |zero=>
    cases e1;cases e2;show#[rfl,(if_pos zc),#[],hT,trivial,λcv e=>by cases e]
 .cases n with
  |zero=>show absurd h zg
  |succ n=>simp at e
 .rw[hf];intro F' r' v H' _ _ d;show d
theorem RN {l:PySem.W.OpenLaw}{K:PySem.W.Frag}{st:dW}(cl:Nat->aq) (Q3:mg "law"=ae (.ref fa)) (D:Def K mg "law" st ["_law_script"])
 (hB:∀ (fd:FuncData) (f:aq),qD K "law" "law" st f fd->∀ (s:aN) (u:ay),BindsTo s fd #[[u],[]] [("_law_script",u)])
 (H:∀ base:aT,K.In base->base.Ns mainGlobals mg->base.BuiltinsAt mg T->∃ kk,uS l.prog w K mg base cl kk "law" ["_law_script"] fn /\ kk<=k) :
 ∃ (cl:Nat->aq) (fd:FuncData),(∀ (s:aN) (u:ay),BindsTo s fd #[[u],[]] [("_law_script",u)]) /\ ∀ base:aT,K.In base->base.Ns mainGlobals mg->base.BuiltinsAt mg T->rz l.prog w K mg base (vP l.prog w) k fa fd ["_law_script"] (yG cl 1 fn):=by
 let#[f,fd,F,hm,_]:=D;rw[Q3]at hm;cases hm;refine#[cl,fd,hB fd fa F,λbase hK hN hT=>?_];let#[kk,#[f',ajT,ok,aes,_,_,o,hl,hd],le]:=H base hK hN hT;rw[Q3]at aes;cases aes;let#[o2,sy,hd2]:=F.obj;rw[hl]at sy;cases sy;rw[hd]at hd2;cases hd2;show ok.mono le
theorem walk_dT {l:OpenLaw}{K:Params->Frag}(hk:eS k callerA) (hn:l.most=ae 63) (XT:d.params.defaults=[])
 (hY:∀ (w:cQ) (h:aT),YP w h->(K w.params).In h) (nl:∀ w:cQ,ZK (K w.params)=ah) (hx:((recsOf q).any λd=>decide (d.name=x))=ah) (hL:∀ w:cQ,QZ (K w.params) x T=ah) (ZR:∀ w:cQ,(K w.params).lookup T=ag) (hf:∀ ns:List Int,ns.length<=63->∃ bx',fn [.s ns] [.tb T pos qn]=.val (.d<|.bl ah) bx')
 (F:∀ (w:cQ) (mg:Str->Option ay) (fa:aq) (h:aT),(K w.params).In h->h.Ns mainGlobals mg->mg d.name=ae (.ref fa) ->
  ∃ (cl:Nat->aq) (fd:FuncData),(∀ (s:aN) (u:ay),BindsTo s fd #[[u],[]] [("_law_script",u)]) /\ ∀ base:aT,(K w.params).In base->base.Ns mainGlobals mg->base.BuiltinsAt mg T->rz l.prog w (K w.params) mg base (vP l.prog w) k fa fd ["_law_script"] (yG cl 1 fn)) :
 WalkO q loose XP YP l.row.toRowW d [] (λf vs=>PySem.call f vs):=by
 let#[dT,aiN,en]:=kB.mp hx;cases of_decide_eq_true en;refine sC.af9 hn XT λw s0 s1 mg mb fa o pm cd doc a vs ns G Y ho hd pD hmg KN hints hlen hg=>?_;have KX:=hY w _ Y;let#[cl,fd,hb,hF]:=F w mg fa _ KX G.T.g hmg;let#[ta,to,ajU,tc,tP,m1,m2,m3,m4,m5,m6]:=G.T.tab dT aiN;have eT:tP=T:=by
  have Eo:=hL w;unfold QZ at Eo;split at Eo
  case h_2=>cases Eo
  ext f en;have mf:=mg_of KX G.T.g en;rw[m1]at mf;cases mf;split at Eo
  case h_2=>cases Eo
  ext oc od fd2 sl lk;have e3:=KX _ _ lk;rw[m2]at e3;cases e3;cases m3;let#[c,ec,aiO]:=CK Eo;rw[m4]at ec;cases ec;let#[o1,ahf,_,_,_,_,_,_,_,g1,g2,g3,g4,_]:=aiO _ KX;let#[#[o2,yI,q1,q2,q3,q4],_]:=m6;rw[g1]at q1;cases q1;rw[g3]at q3;cases q3;rw[g4]at q4;cases q4;rfl
 subst eT;have ZS:(K w.params).lookup a=ag:=by
  cases e:(K w.params).lookup a with
  |none=>rfl
  |some oo=>
    have e2:=KX _ _ e;rw[KN]at e2;cases e2;show absurd zc<|LZ (nl w) e
 refine L0 KX G.T.g G.T.b G.T.builtins G.T.nolimit hg KN hints (cj hlen zd) hk m6.2 m6.isCodeTable (ZR w) ZS ?_ hF hb (λH o h1 h2 h3 _=>RM h1 h2 h3<|hf ns hlen) λH e s' z=>by
  let#[_,_,_,_,_,_,_,_,_,_,_,_,_,z]:=z;show z
 let#[bm,ob,b1,b2,b3,b4,b5,b6]:=G.T.bmain;refine#[bm,ob,b1,b2,λz=>?_,λz=>?_,b3,b4,b5,b6]
 .let#[og,es,ep,g1,g2,_]:=G.T.g;rw[<-z,b3]at g1;cases g1;rw[b6]at g2;cases g2
 .have t:=m6.2;rw[<-z,b3]at t;cases t;cases b4
end L2.DL
namespace K31
open L2 L2.DL
noncomputable section
def top (i:Nat):dW:=PySem.Challenge.pw_rimehold_k31_out_of_turn.main.body.getD i<|.Pass #[0,0,0,0]
noncomputable def tx:L2.DL.Tx:=#["_law_script",[("COLDEST",3),("MOST_OUTS",4),("MOST_PAGES",16),("LAST_LOT",9)],["all","any","bool","dict","int","isinstance","len","list","max","min","range","repr","set","sorted","tuple","zip"],294]
noncomputable def r0:List FI:=[]
def r1:List FI:=#["_law_pot",["_law_cell"],["_law_cell","_law_number","_law_j","_law_more"],[],[],[],1,top 53,K1.jT]::r0
def r2:List FI:=#["_law_take",["_law_pot_here","_law_far_here"],["_law_pot_here","_law_far_here","_law_found"],[],[],[],0,top 54,K1.fm]::r1
def r3:List FI:=#["_law_kind_of",["_law_pot_here"],["_law_pot_here","_law_top","_law_rates"],[],[],[],0,top 56,K1.ij]::r2
def r4:List FI:=#["_law_house",["_law_pot_here"],["_law_pot_here","_law_rooms","_law_kinds","_law_pairs","_law_other"],[],[],[],0,top 57,aI.iS]::r3
def r5:List FI:=#["_law_cell_at",["_law_script","_law_k"],["_law_script","_law_k"],[],[],[],0,top 52,K1.ig]::r4
def r6:List FI:=#["_law_mixed",["_law_pot_here","_law_some"],["_law_pot_here","_law_some","_law_left"],["_law_left"],[],[],0,top 55,aI.jW]::r5
def r7:List FI:=#["_law_goods",["_law_pot_here","_law_house_here","_law_near"],["_law_pot_here","_law_house_here","_law_near","_law_found","_law_many","_law_lot","_law_ripe_here","_law_kind","_law_room","_law_turn","_law_hour"],["_law_found"],[],[("_law_found",3)],0,top 67,K31.lg]::r6
def r8:List FI:=#["_law_far",["_law_pot_here","_law_outs_here","_law_pages"],["_law_pot_here","_law_outs_here","_law_pages","_law_by","_law_later"],[],[],[],0,top 59,K2.mU]::r7
def r9:List FI:=#["_law_outs",["_law_pot_here","_law_near"],["_law_pot_here","_law_near","_law_found","_law_begin","_law_turn"],["_law_found"],[],[],0,top 58,K2.lH]::r8
def Yi:List FI:=#["_law_mates",["_law_house_here","_law_there","_law_kind"],["_law_house_here","_law_there","_law_kind","_law_found","_law_lot","_law_other"],["_law_found"],["_law_there"],[],0,top 61,aI.gO]::r9
def aiP:List FI:=#["_law_read_one",["_law_house_here","_law_box","_law_page"],["_law_house_here","_law_box","_law_page","_law_hour","_law_word","_law_lot","_law_there","_law_kind","_law_room"],["_law_there"],["_law_there","came","gone","there"],[("doors",3)],0,top 62,aI.gm]::Yi
def aiQ:List FI:=#["_law_read",["_law_house_here","_law_pages"],["_law_house_here","_law_pages","_law_box","_law_page"],[],["_law_box"],[("doors",3)],0,top 63,aI.lM]::aiP
def aiR:List FI:=#["_law_there_at",["_law_box","_law_hour"],["_law_box","_law_hour","_law_found","_law_when","_law_there"],[],["_law_found"],[("at",2)],0,top 64,cA.iM]::aiQ
def aiS:List FI:=#["_law_cold",["_law_house_here","_law_outs_here","_law_room","_law_hour"],["_law_house_here","_law_outs_here","_law_room","_law_hour","_law_cold_here","_law_begin","_law_end"],[],[],[],0,top 60,K2.lI]::aiR
def aiT:List FI:=#["_law_gain",["_law_house_here","_law_outs_here","_law_box","_law_kind","_law_room","_law_hour"],["_law_house_here","_law_outs_here","_law_box","_law_kind","_law_room","_law_hour","_law_cold_here"],[],[],[("doors",3)],0,top 65,bw.lP]::aiS
def aiU:List FI:=#["_law_ripe",["_law_house_here","_law_outs_here","_law_box","_law_lot","_law_hour"],["_law_house_here","_law_outs_here","_law_box","_law_lot","_law_hour","_law_found","_law_when","_law_there","_law_kind","_law_room"],[],["_law_there","_law_there_at","came"],[],0,top 66,uA.g9]::aiT
def aiV:List FI:=#["_law_turns",["_law_house_here","_law_outs_here","_law_pages"],["_law_house_here","_law_outs_here","_law_pages","_law_whole","_law_box","_law_found","_law_bad","_law_page","_law_there","_law_hour","_law_lot","_law_kind","_law_own","_law_some","_law_rows","_law_elders"],["_law_bad","_law_found","_law_there"],["_law_box","_law_there","there"],[("doors",3)],0,top 68,K31.iZ]::aiU
def aiW:List FI:=#["is_tuple",["thing","fewest","most"],["thing","fewest","most"],[],[],[],0,top 9,K1.gh]::aiV
def aiX:List FI:=#["is_whole",["thing"],["thing"],[],[],[],0,top 6,K1.jg]::aiW
def aiY:List FI:=#["is_within",["thing","least","greatest"],["thing","least","greatest"],[],[],[],0,top 7,K1.f9]::aiX
def aiZ:List FI:=#["are_rooms",["thing"],["thing"],[],[],[],0,top 15,K1.jP]::aiY
def ai0:List FI:=#["are_rates",["thing"],["thing"],[],[],[],0,top 18,K1.jQ]::aiZ
def ai1:List FI:=#["is_kind",["thing"],["thing"],[],[],[],0,top 17,K1.mT]::ai0
def ai2:List FI:=#["are_kinds",["thing"],["thing"],[],[],[],0,top 16,K1.jR]::ai1
def ai3:List FI:=#["is_rising",["things"],["things"],[],[],[],0,top 10,K1.ie]::ai2
def ai4:List FI:=#["is_pair_apart",["thing","many"],["thing","many"],[],[],[],0,top 20,K1.iz]::ai3
def ai5:List FI:=#["are_apart",["thing","many"],["thing","many"],[],[],[],0,top 19,K1.jS]::ai4
def ai6:List FI:=#["is_house",["thing"],["thing","rooms","kinds","apart","hold"],[],[],[],0,top 14,K1.lG]::ai5
def ai7:List FI:=#["need_house",["thing"],["thing"],[],[],[],0,top 21,bS.iD]::ai6
def ai8:List FI:=#["lie_apart",["outs"],["outs"],[],[],[],0,top 24,K2.jU]::ai7
def ai9:List FI:=#["is_hour",["thing"],["thing"],[],[],[],0,top 8,K2.i7]::ai8
def aja:List FI:=#["is_out",["thing"],["thing"],[],[],[],0,top 23,K2.Aa]::ai9
def ajb:List FI:=#["are_outs",["house","thing"],["house","thing"],[],[],[],0,top 22,bw.lR]::aja
def ajc:List FI:=#["need_outs",["house","thing"],["house","thing"],[],[],[],0,top 25,bw.iU]::ajb
def ajd:List FI:=#["greatest_parts",["house","word"],["house","word","last_kind","last_room"],[],[],[],0,top 32,aI.io]::ajc
def aje:List FI:=#["is_page",["house","thing"],["house","thing","greatest"],[],[],[],0,top 33,aI.jX]::ajd
def ajf:List FI:=#["are_pages",["house","thing"],["house","thing"],[],[],[],0,top 34,aI.jY]::aje
def ajg:List FI:=#["need_pages",["house","thing"],["house","thing"],[],[],[],0,top 35,aI.iE]::ajf
def ajh:List FI:=#["room_entered",["page"],["page"],[],[],[],0,top 37,aI.fU]::ajg
def aji:List FI:=#["may_share",["house","kind","other"],["house","kind","other"],[],[],[],0,top 28,aI.iT]::ajh
def ajj:List FI:=#["word_for",["house","kinds","rooms","page"],["house","kinds","rooms","page","deed","lot","room","kind","neighbours"],[],["kinds","rooms"],[],0,top 38,aI.ji]::aji
def ajk:List FI:=#["read",["house","pages"],["house","pages","told","kinds","rooms","page","lot","word"],["kinds","rooms","told"],["kinds","rooms"],[],0,top 36,aI.C4]::ajj
def ajl:List FI:=#["steps_taken",["house","pages"],["house","pages"],[],[],[],0,top 39,cA.ip]::ajk
def ajm:List FI:=#["hours_of_change",["house","outs"],["house","outs","hours","begin","end"],["hours"],[],[],1,top 27,bw.ja]::ajl
def ajn:List FI:=#["rooms_behind",["steps","hour"],["steps","hour","rooms","page","left","entered"],["rooms"],["rooms"],[],0,top 40,cA.iN]::ajm
def ajo:List FI:=#["cold_by_outs",["house","outs","room","hour"],["house","outs","room","hour","cold","begin","end"],[],[],[],0,top 26,K2.iJ]::ajn
def ajp:List FI:=#["is_opened",["steps","room","hour"],["steps","room","hour"],[],[],[],0,top 41,bw.iW]::ajo
def ajq:List FI:=#["points_in",["house","outs","steps","coming","hour"],["house","outs","steps","coming","hour","rooms","room","cold"],[],["rooms"],[],0,top 47,bw.iX]::ajp
def ajr:List FI:=#["stretches",["house","outs","steps","coming"],["house","outs","steps","coming","hours","page","left","entered","begins","ends"],["hours"],[],[],0,top 48,bw.j5]::ajq
def ajs:List FI:=#["ripe_at",["house","outs","steps","coming","hour"],["house","outs","steps","coming","hour","ripe","begin","end","points","until"],[],[],[],0,top 49,bw.gF]::ajr
def ajt:List FI:=#["elder_of",["house","outs","steps","waiting","leaving","hour"],["house","outs","steps","waiting","leaving","hour","ripe","elder","most","coming","other"],[],[],[],64,top 50,K31.jo]::ajs
def aju:List FI:=#["turns",["house","outs","pages"],["house","outs","pages","steps","told","waiting","page","left","entered","leaving","elder"],["told","waiting"],["waiting"],[],1,top 43,K31.BU]::ajt
def ajv:List FI:=#["coming_of",["steps","lot"],["steps","lot","page","left","entered"],[],[],[],0,top 45,bw.iV]::aju
def ajw:List FI:=#["limit_of",["house","coming"],["house","coming"],[],[],[],0,top 46,bw.iG]::ajv
def ajx:List FI:=#["spoilt",["house","outs","pages"],["house","outs","pages","steps","lots","page","left","entered","coming"],["lots"],[],[],1,top 44,K31.Ak]::ajw
def iL:FI:=#["law",["_law_script"],["_law_script","_law_k","_law_pot_here","_law_whole","_law_house_here","_law_turn","_law_some","_law_outs_here","_law_pages","_law_by","_law_dues","_law_kept","_law_lap","_law_found","_law_bad"],["_law_bad","_law_found"],[],[],0,top 69,K31.Dv]
def Q4:List FI:=iL::ajx
theorem UG:ZI tx Q4:=by
 iterate 56 refine And.intro (by change _=_;kernel_rfl) ?_
 trivial
end
open PySem.W
abbrev nl:List (Str×dW):=("law",top 69)::("spoilt",top 44)::("limit_of",top 46)::("coming_of",top 45)::("turns",top 43)::("elder_of",top 50)::("ripe_at",top 49)::("stretches",top 48)::("points_in",top 47)::("is_opened",top 41)::("cold_by_outs",top 26)::("rooms_behind",top 40)::("hours_of_change",top 27)::("steps_taken",top 39)::("read",top 36)::("word_for",top 38)::("may_share",top 28)::("room_entered",top 37)::("need_pages",top 35)::("are_pages",top 34)::("is_page",top 33)::("greatest_parts",top 32)::("need_outs",top 25)::("are_outs",top 22)::("is_out",top 23)::("is_hour",top 8)::("lie_apart",top 24)::("need_house",top 21)::("is_house",top 14)::("are_apart",top 19)::("is_pair_apart",top 20)::("is_rising",top 10)::("are_kinds",top 16)::("is_kind",top 17)::("are_rates",top 18)::("are_rooms",top 15)::("is_within",top 7)::("is_whole",top 6)::("is_tuple",top 9)::("_law_turns",top 68)::("_law_ripe",top 66)::("_law_gain",top 65)::("_law_cold",top 60)::("_law_there_at",top 64)::("_law_read",top 63)::("_law_read_one",top 62)::("_law_mates",top 61)::("_law_outs",top 58)::("_law_far",top 59)::("_law_goods",top 67)::("_law_mixed",top 55)::("_law_cell_at",top 52)::("_law_house",top 57)::("_law_kind_of",top 56)::("_law_take",top 54)::("_law_pot",top 53)::[]
theorem UH {l:PySem.W.OpenLaw}{K:Frag}(X:K.In h) (G:h.Ns mainGlobals mg) (Q3:mg "law"=ae (.ref fa))
 (z0:ZM K tx.bl=ah) (g0:ZN K tx.gl=ah) (y1:ZL K=ah)
 (D:ZQ K nl)
 (lm:QZ K "elder_of" 294=ah) :
 ∃ (cl:Nat->aq) (fd:FuncData),(∀ (s:aN) (u:ay),BindsTo s fd #[[u],[]] [("_law_script",u)]) /\ ∀ base:aT,K.In base->base.Ns mainGlobals mg->base.BuiltinsAt mg 294->rz l.prog w K mg base (vP l.prog w) 56 fa fd ["_law_script"] (yG cl 1 K31.Dv):=by
 have DF:=aeq X G (J0<|(show (Q4.map λf:FI=>(f.x,f.st))=nl by kernel_rfl)▸D) (by kernel_rfl);refine RN (λ_=>0) Q3 (DF iL<|bA ..) (λfd f F s u=>?_) λbase _ _ hT=>?_
 .let#[#[oc,od,kV,doc,pm,an,eD,ct,sr,rfl,_,_],_]:=F;show .of_eq zc
 .refine JZ ((λX G z g y=>#[Oj X G g,GI X G z,Dy y zg,Dy y zg,Dy y zg,Dy y zg]) X G z0 g0 y1) Q4 UG (by kernel_rfl) DF (λf m hb=>#[#[hT,by decide],λfa fd hm F=>?_]) iL<|bA ..;have ex:f.x="elder_of":=by
   have:=dF.mp (show (Q4.all λf=>!f.b 64||decide (f.x="elder_of"))=ah by kernel_rfl) f m;rw[hb]at this;show of_decide_eq_true this
  rw[<-ex]at lm;show(λX G L hm F=>by
   unfold QZ at L;split at L
   case h_2=>cases L
   ext f en;have mf:=mg_of X G en;rw[hm]at mf;cases mf;let#[oc,od,kV,doc,pm,an,eD,ct,sr,rfl,lk,_]:=F.ex;rw[lk]at L;show L) X G lm hm F
end K31
end
structure PySem.W.Fast:Prop where(tw10054864746593171557 tw10062947891986332047 tw10114456579532955283 tw10313945288842455711 tw10352844871726159551 tw10395073505904327548 tw10407592854467717004 tw10485328676035981713 tw10507124037485649683 tw1052799863133372522 tw10615276899642757072 tw10650352293510617386 tw10658105377774839897 tw10661451184277632908 tw10679930090263717421 tw10806290377856129633 tw11041490729223316948 tw11075022725468895549 tw11143858703854203533 tw1119121831929287607 tw11241284696346463378 tw11316487545386126631 tw11388330673186531062 tw11458627732334570436 tw11464312274234548677 tw11477707532994485360 tw11484405200999099189 tw11487857221292436941 tw11490750756731904292 tw11498370014762138302 tw11543042709266599320 tw11751752784566352436 tw1179077341942195452 tw11803315663615642517 tw11808075387038048962 tw11819894656947258181 tw11832205454339806459 tw12057200940944467728 tw12092554961968508540 tw12117846692776315029 tw12125085024682970536 tw12289703846752240526 tw12314468955776534800 tw12320796651859630977 tw12381171816446042141 tw12387653647811005205 tw12400842791545784047 tw12417839428998084051 tw12424330150641242903 tw12449955937928141277 tw12454829157135937352 tw12544934393921688085 tw12612302570421419331 tw12794049222878272657 tw12865670118519071382 tw1291933526633675940 tw13017425622257341685 tw13141323500770658256 tw13190087628524276996 tw13192833150220823850 tw13243700977028246164 tw13322484136221119991 tw13361091415746489420 tw13379032571558494853 tw13411811364830524361 tw13421669384479637264 tw13569260326533741364 tw13677718715511680230 tw13734316366433322454 tw13748723471569737715 tw13821341218322914975 tw13840666557014349941 tw13915803247447133141 tw14021407747913017490 tw14038343312175872286 tw14147448243275081957 tw14158973525023706061 tw14200778856651396166 tw14262079897031499524 tw14278711631989228421 tw14305012416002232833 tw1437448351370789741 tw14409449008598764118 tw14426470281888052443 tw14434010528329447500 tw14540579972059724627 tw14565013956933537033 tw14575026363672765439 tw14611529607423817764 tw14671441290176704821 tw14725848795824216695 tw14906096099470390317 tw14968652981928449965 tw15031416668854947753 tw15070729516675109889 tw15108827410163056787 tw15187752887000894988 tw15217684107900589209 tw15222086000327413339 tw15252652512890296624 tw15333380837116049479 tw15429265098465604331 tw15605316514558111851 tw15698224192918830842 tw15725938717554129715 tw15867368671187036488 tw15911475662089355833 tw15931585413614653831 tw16011850270823714721 tw16122331650391125935 tw16597870477359914509 tw1663550305516058664 tw167005564440883033 tw1676446866507618108 tw16771963218768840761 tw16805682168257803474 tw1682336694420577459 tw16905175009418878917 tw16943335452074131249 tw16954952981368848743 tw1696881665697161734 tw16974811230003235945 tw17128085509893685881 tw17134203022679560640 tw17276495684959735050 tw17326975161396903620 tw1733513093254892090 tw17359070083328276934 tw17487526554833921525 tw17591896918809513594 tw17619633433610594746 tw17629035173199683933 tw17634641437072800917 tw17643324441649362769 tw17796715813928168421 tw17833524625137223060 tw17897471136987272330 tw17898003213298340899 tw17900384716463405961 tw17932790368662519539 tw17945697928652855375 tw17959254477860609438 tw17975636907547448933 tw17999872003826645145 tw1801786511082731705 tw18060935053140270025 tw1810157278545328505 tw18136772029612717033 tw18256528646057585522 tw18357679730270956922 tw18367024659975946872 tw1864595008106415921 tw1882734229690569235 tw1883160811811549556 tw1941478324043231099 tw1961239244210769647 tw196198316453880724 tw2018952035428279472 tw2043045653435306256 tw2061494653358108875 tw2071623587309698117 tw2121834607207824911 tw225558131154807389 tw2281724069060974184 tw2310908556663656668 tw2344473922949759661 tw2363934074932824297 tw2398382971511558261 tw2416569737623711770 tw2440294712971011521 tw2442034017531397933 tw2465404673268205468 tw2658323450289601324 tw2698994835774617911 tw2723641485425320603 tw2735686106193102556 tw2768378991831081425 tw3140255450726170948 tw3402924357296822416 tw3463793730159270378 tw3501886455596240588 tw3649709501332167377 tw366413618426025104 tw37715988723884586 tw3835948326585992792 tw3964022315414046428 tw4042842893465104921 tw40489206821741179 tw4078050482006492931 tw4086743243116177993 tw4109624310473162987 tw4140590690714601208 tw426151315916619419 tw4473651262689328747 tw4604887005595925668 tw4788396737491076662 tw4794768762712797171 tw4890105614306562849 tw4958766793550654667 tw4991022014892551301 tw5047132931011117794 tw509990468143736077 tw5200120488812028128 tw5224738497869155298 tw5257121348311629447 tw5298648394545969997 tw5334720838069812621 tw5525649155830883344 tw5630311527607394280 tw5754861222716665859 tw5755342199265416714 tw5801863879062258576 tw5834120137789798412 tw5892184888131594114 tw5923121787705611986 tw5931355479533289284 tw5951186502978034402 tw6094760359948699986 tw6149316446667437316 tw6188187862608805134 tw6221053356196518281 tw6293025506749676117 tw6465285602726400889 tw6490173840275410877 tw6517427359037427035 tw6566392843140171904 tw6667371035366694619 tw680532636505112457 tw6805440253902009821 tw6821471538052268144 tw7084427025825293783 tw7121118349324340801 tw7249878561493171897 tw7473243682505881593 tw7705559482493245498 tw7885194045812713162 tw79173895247240576 tw8082678373972784444 tw811765380092042838 tw8215616266614891006 tw8220445170162923211 tw8239589445577706256 tw835103044431450978 tw8370283337501863864 tw8371822337876609733 tw84365023979800201 tw845179791898414243 tw8541289045375055835 tw8629251267829316830 tw8682327039510623380 tw8743224253651746246 tw8958384679477632782 tw9008486373612830580 tw9013129006985764245 tw9034761630790767620 tw9085447764242708836 tw9086685492163487961 tw9122319499435098549 tw9139461318748867876 tw9149276519467612646 tw9177024402588653565 tw9180598570835745239 tw9217442262327719535 tw9343479314116163306 tw9368575298432512513 tw9371286972592690767 tw9467245381133380074 tw9550829614963682943 tw9551849388571347029 tw959783601953862780 tw9664734916059549547 tw9674717782976222500 tw9682461689289182036:True)
open_top hdk31 for PySem.Challenge.rw_rimehold_k31_out_of_turn

set_option maxRecDepth 100000 in
set_option maxHeartbeats 0 in
theorem PySem.Challenge.cw_rimehold_k31_out_of_turn_holds : PySem.Challenge.rw_rimehold_k31_out_of_turn.Holds :=
 hdk31 (by
 k_fill
 refine L2.DL.walk_dT (l:=PySem.Challenge.rw_rimehold_k31_out_of_turn) (k:=56) (fn:=K31.Dv) (T:=294) (x:="elder_of") ⟨rfl,by decide,by decide,rfl⟩ rfl rfl (λw h Y=>PySem.W.km_in_of Y) ?kq_nl ?kq_x ?kq_L ?kq_K (λns h=>K31.law_true ns (by lia)) ?kq_F
 case kq_nl =>
  intro w;kernel_rfl
 case kq_x=>kernel_rfl
 case kq_L =>
  intro w;kernel_rfl
 case kq_K =>
  intro w;kernel_rfl
 case kq_F =>
  intro w mg fa h KX G hmg
  refine' K31.UH KX G hmg ?kq_z0 ?kq_g0 ?kq_y1 ?kq_D ?kq_lm
  (case kq_z0=>kernel_rfl)
  (case kq_g0=>kernel_rfl)
  (case kq_y1=>kernel_rfl)
  (case kq_D=>(iterate 56 refine And.intro (L2.DL.dIn_mk (by k_is) (by k_is) (by k_is) (by k_is)) ?_);exact trivial)
  (case kq_lm=>kernel_rfl)
 )
