import PyProof.Rows.All
import Wide.All
import OpenK.AllK
import Wide.FinOn
import Lean
import PyProof.EqAt
import PyProof.EqKinds
import PyProof.TupleCall
import PyProof.Walks
import PyProof.ListMulRoad
import PyProof.ReprRoads
import PyProof.NeData
import PyProof.P3In
import PyProof.ZipIter
import PyProof.Draws
import PyProof.TupleIter
import PyProof.Rows.StrRules
import PyProof.CompUse
import PyProof.ListRange
import KE.KDictLaws
import PyProof.EnumFor
import PyProof.EnumMake
import PyProof.EnumStmt
import PyProof.ConsumeWalk
import KE.KMinKey
import PyProof.ListNew
import PyProof.Rows.SetFrom
import PyProof.WalksMore
import KE.KDictList
import PySem.Challenge.RW_rimehold_k51_the_fewest_openings
set_option Elab.async false
set_option linter.all false
set_option maxRecDepth 100000
set_option maxHeartbeats 4000000
set_option exponentiation.threshold 3000
section
variable {a it : PySem.Addr}{o : PySem.Obj}{u : PySem.Value}{P prog : PySem.Program}{w : PySem.World}{h h' base : PySem.Heap}{x : PySem.Str}{e c tg iter elt : PySem.Expr}{pins : List (PySem.Addr × PySem.Obj)}{s : PySem.Shared}{t' i j k n ep : Nat}{ch fp r : List PySem.Addr}{N : List PySem.Str}{M : PySem.Model}{A : PySem.Around}{E Q : PySem.Value -> PySem.Shared -> Prop}{t : PySem.SetTable}{α : Type}{pos apos : PySem.Pos}{K : PySem.W.Frag}{st : PySem.Stmt}{es : Array (Int × PySem.Value)}{vs us : List PySem.Value}{R : PySem.Result -> PySem.Shared -> Prop}{p ns : List Int}{f : PySem.Value -> PySem.Value -> PySem.Sem PySem.Value}{op : PySem.CmpOp}{mA mg : PySem.Str -> Option PySem.Value}{fd : PySem.FuncData}{ps : List (Int × Int)}{nG : Array (Option PySem.Value)}{items : Array PySem.Value}{cl : Nat -> PySem.Addr}{ifs : List PySem.Expr}{bo : Bool}{rs : List (List Int)}{gens : List PySem.Comprehension}
open PySem renaming wpAny_bind->ae,wpAny_pure->ag,sizeLine_eq->ba,wpAny_holding->cn,wpAny_newObj_type->cS,wpAny_mono->c6,wpAny_call_entry->dr,wpAny_field->eI,wpAny_rule->h9,mem_of_lookup->kE,wpAny_truthy_bool->k7,wpAny_Call_Name_kw->k8,strLen_append->k9,wpAny_callSpecial?_slot->pq,codeAny_builtin->p6,wpAny_seqItems->p7,wpAny_setField->p8,wpAny_askSetting->p9,wpAny_standAt->qM,wpAny_setField_rec->rW,wpAny_attempt->rX,plainId_quiet->rY,wpAny_passesOwn->tP,wpAny_typeOf->tQ,wpAny_of_eq->tR,wpAny_letGo->tU,intKind_is->tV,wpAny_setState_of->tW,wpAny_load->u4,wpAny_pyIter_list->u5,codeAny_mono->u6,wpAny_newList->u7,not_mem_of_deeper->u9,wpAny_fieldsOf->va,pushCells_keeps->wC,wpAny_onRaise->wD,wpAny_pyIter_slot->wF,wpAny_isInstance->wG,wpAny_updateSeq->wH,wpAny_setEntries_of->wI,wpAny_execs_nil->yE,wpAny_runValue->yF,boot_len->yG,wpAny_handled->yH,wpAny_throw->yI,isSubtype_stop->yJ,wpAny_pyIter_tuple->yK,wpAny_tryCatch->yL,wpAny_isOneOf_valiter->yM,wpAny_Name->Hj,concat_meets->Hk,noFill_tuple_add->Hl,seq_tuple_add->Hm,evalPart_none->Hn,seqIndex_of->Ho,call_meets->Hq,wpAny_comprehension_free->Hr,call_repr_slot->Hs,wpAny_updateSeq_pair->Ht,wpAny_newTuple->Hu,fits_of_scanBound->Hv,codeAny_of_tree->Hw,wpAny_dictEntries->Hx,wpAny_typeNameOfWhole_valiter->Hy,wpAny_typeNameOf_valiter->Hz,storedH_new->HC,piled_cons->HD,wpAny_eqBool_int->Vr,wpAny_execs_cons->Vs,wpAny_assign_Name->Vt,wpAny_bindName->Vu,rangeSize_one->Vv,call_range_1->Vw,intBits_le_64->Vx,name_of_addr->Vy,wpAny_sequenceKey->Vz,evalPart_some->VA,wpAny_Slice->VB,wpAny_getItem_list_slice->VC,call_list_seq->VD,wpAny_alloc->VE,codeAny_loop->VF,wpAny_noted->VG,codeAny_compStart_list->VH,tupleText_mem_le->VI,listText_mem_le->VJ,listText_nil->VL,dictText_mem_le->VM,wpAny_storeSet_of->VN,sub_set_self->VO,typeLookup_type->VP,builtinLookup_eq_fast->VQ,isSubtype_type->VR,entryFor_alias->VS,wpAny_setEpoch_of->VT,wpAny_dictEpoch->VU,wpAny_notOrdered_dict->VV,wpAny_Call_method->VW,call_meetsIn->VX
open Nat renaming le_refl->ak,le_trans->bc,ne_of_lt->bL,zero_le->cT,lt_of_lt_of_le->dM,lt_irrefl->dO,lt_succ_self->eJ,le_of_lt->ke,lt_succ_of_lt->ng,sub_self->nH,le_succ->nI,zero_add->nJ,lt_or_ge->qN,le_of_eq->rZ,le_of_not_lt->tX,ne_of_gt->vc,le_add_right->vd,not_lt_zero->ve,lt_trans->yN,sub_zero->yO,lt_of_le_of_lt->yP,min_eq_left->yQ,pow_le_pow_right->yR,pow_succ->yS,mul_comm->yT,le_antisymm->HE,max_eq_right->VY,mod_lt->VZ,lt_of_lt_of_eq->V0,add_sub_cancel->V1,succ_mul->V2,mod_eq_of_lt->V3,two_mul->V4,mul_assoc->V5
open Bool renaming and_eq_true->aA,false_ne_true->b9,eq_iff_iff->nK,not_eq_true'->qb,false_eq_true->wJ,or_eq_true->yU,and_self->yV,false_and->HF,true_and->V6
open PySem.Heap renaming get?_push_of_some->aC,lt_size->aK,get?_push_size->aR,get?_update_self->pw,size_push->qc,get?_none_of_le->vf,get?_update_other->yW,size_update->V7,get?_update_ne->V8
open List renaming length_map->aF,map_cons->aS,size_toArray->aU,length_cons->bA,mem_cons_of_mem->bF,mem_append_right->bG,mem_cons_self->bQ,length_append->cb,mem_append_left->cH,getElem?_eq_getElem->cJ,getElem?_append_right->cU,getElem?_append_left->dt,map_map->dv,append_assoc->eK,all_eq_true->bR,map_append->eL,mem_cons->aP,getElem?_map->kg,length_nil->kF,lookup_cons->kG,not_mem_nil->nL,exists_cons_of_ne_nil->nM,filterMap_cons->pz,all_cons->pB,exists_cons_of_length_pos->qd,append_nil->qO,length_set->qP,prefix_refl->qQ,getElem?_eq_none->qR,all_map->qS,getElem?_set_ne->sd,length_take->se,any_eq_true->kh,mem_filter->cD,nodup_append->sf,length_range->tY,mem_map->aT,length_filter_le->tZ,getElem?_set_self->vg,map_nil->vh,forIn_cons->vi,mem_singleton->a7,getElem_mem->vj,find?_cons->vk,forIn_nil->vm,set_append_right->vn,filter_eq_nil_iff->vo,any_cons->wK,prefix_append->wL,ext_getElem?->wM,pairwise_map->wN,eq_nil_of_length_eq_zero->wO,isEmpty_iff->wQ,mem_range->kl,find?_eq_none->wR,mem_of_find?_eq_some->wU,mem_of_getElem?->yX,length_drop->yY,reverse_cons->yZ,replicate_succ->za,flatten_cons->zb,map_congr_left->zc,zipIdx_nil->zd,filter_cons_of_neg->ze,filter_cons_of_pos->zf,map_id->zg,append_of_mem->zh,of_mem_zip->HG,length_replicate->HJ,zip_cons_cons->HK,filterMap_map->HL,cons_append->HM,drop_zero->HN,zipIdx_cons->HP,any_map->HQ,take_of_length_le->HR,getElem?_cons_succ->HS,nil_append->HU,isEmpty_map->HV,nil_sublist->HW,mem_append->bH,find?_some->HX,filterMap_nil->HY,getElem?_replicate->V9,getElem?_take_of_lt->Wa,take_sublist->Wb,zip_nil_left->Wc,zip_nil_right->Wd,length_singleton->We,nodup_cons->qT,take_zero->Wf,take_length->Wg,mergeSort_perm->Wh,pairwise_mergeSort->Wi,nodup_nil->Wj,forIn_toArray->Wk,map_snd_zip->Wl,mapM_toArray->Wm,getElem_of_mem->Wn,pairwise_append->vp,pairwise_lt_range->Wo,length_eraseIdx_of_lt->Wq,filter_cons->Wr,getElem?_cons_zero->Ws,set_append_left->Wt,getElem?_concat_length->Wu,length_pos_of_mem->Wv,map_take->Ww,mem_of_mem_take->Wx,any_nil->Wy,head?_cons->Wz
open Option renaming bind_some->a9,map_some->qf,getD_some->zi,getD_none->WA
open PyProof.Rows renaming wpS_bind->bM,step_dedup->cq,wpS_pure->cV,size_push'->qg,callWith_type1->vq,listItems_at->vt,wpS_get->vv,wpS_forRange->vw,slot_tuple_getitem->vz,listUpdate_at->zj,mirror_perm->zk,wpS_reverse->zm,wpS_mono->zo,assignInOrder_cons->HZ,boot_range->Ia,tail_any->Ib,get?_update_seq->Ic,kind_sorted->Ie,plain_sorted->Ig,entry_sorted->Ih,args_sorted1->Ii,slot_list_sort->Ij,entry_list_sort->Ik,args_list_sort->Il,wpS_lift->Im,wpS_modify->Io,mem_zip_self->Ip,seqEpoch_at->Iq,pairsOf_size->Ir,firstMet_length_le->Iu,isTrue_plain->WB,assignInOrder_nil->WC,lt_int->WD,slicePart_none->WE,entry_tuple_getitem->WG,args_tuple_getitem->WH,tupleItemsOf_->WI,subscriptTail_builtinR->WJ,list_sort_tree->WK,sortedAll_at->WL,sortedAll_old->WM,pairsOf_toList->WN,callWith_builtin1->Zt,evalArgs_empty->Zu
open Int renaming toNat_natCast->dQ,eq_ofNat_of_zero_le->Iv,zero_add->Iw,le_refl->Iy,ediv_one->WO
open Array renaming length_toList->km,getElem?_toList->pC,toList_push->Iz,getElem?_eq_none->IC,getElem_toList->WQ,toList_extract->WR
open PySem.Obj renaming data_mapFields->nN,isFreed_of_fields->vA,cls_mapFields->wV,data_mapDictKeys->WS
open PySem.W renaming kia_one->pD,kitx_list->WT,kitx_dict->WU,cellsFrom_some->WV,mg_of->WW
open PySem.Calls renaming spliced_cons->sh,spliced_nil->t6,callWith_builtin->ID,call_function_entry->IE,evalArgs_plain->WX
open PySem.Around renaming under_plainId->t7
open PyProof.Rows.KeyOrd renaming kle_refl->vB,kle_trans->zp,kle_of_klt->zq,kle_antisymm->WY
open PySem.F renaming plain_min_loop->vC,slot_tuple_iterator_next->zr,slot_zip_next->wW,slot_tuple_add->IF,entry_tuple_add->IG,args_tuple_add_2->IH,plainAttrs_list->II,entry_tuple_iterator_next->WZ,args_tuple_iterator_next_1->W0,slot_zip_iter->W2,entry_zip_next->W3,args_zip_next_1->W4,entry_min_loop->W5,plain_set_new->W6,slot_set_iter->W7,plain_list_iadd->W8,slot_dict_values_iter->W9,slot_dict_valueiterator_next->IJ,plainAttrs_dict->Xa,slot_dict_setdefault->Xc,slot_dict_values->Xd
open PySem.PyData renaming shownKv_eq->IK
open PyProof.Rows.F renaming plain_set_update_loop->IL,entry_set_update_loop->Xe
open PySem.SeqAt.EqAt renaming int_str->Xf,str_int->Xg,int_int->Xh,str_str->Xi,none_bool->Zv,none_int->Zw,none_str->Zx,bool_none->Zy,bool_bool->Zz,bool_int->ZA,bool_str->ZC,int_none->ZD,int_bool->ZE,str_none->ZF,str_bool->ZG
open PyProof.Rows.LSm renaming kept_iter->Xj
open PySem.Code renaming quiet_builtin->Xk
open PySem.ReprEntriesK renaming of_two->Xl
open PyProof.Rows.IntsAre renaming int_at->Xm
open PySem.EqNone renaming eq_none_none->ZH,eq_none_bool->ZI,eq_none_int->ZJ,eq_none_str->ZK,eq_bool_none->ZL,eq_int_none->ZM,eq_str_none->ZN,ne_none_none->ZO,ne_none_bool->ZP,ne_none_int->ZQ,ne_none_str->ZR,ne_bool_none->ZS,ne_int_none->ZT,ne_str_none->ZU
open PySem.EqMixed renaming eq_bool_str->ZV,eq_int_str->ZW,eq_str_bool->ZX,eq_str_int->ZY,ne_bool_str->ZZ,ne_int_str->Z0,ne_str_bool->Z1,ne_str_int->Z2
open PySem.AutoSeq1 renaming sub_tuple_tuple->Z3,list_extend_list_list_0->Z4
open List.Pairwise renaming imp_of_mem->Z5
open PySem.SetTable renaming fits_plain_off->Z6
open List.Perm renaming append_left->Z7,of_eq->Z8
namespace L2
open PySem PySem.Spec PyProof.Rows
noncomputable abbrev Key:=Sum Int Str
noncomputable def qU:Key->Value->Bool
 |.inl k,v=>Value.isInt k v
 |.inr x,v=>Value.isStrOf x v
noncomputable def Z9 (w:World):Key->Int
 |.inl k=>hashInt k
 |.inr x=>hashStr w x
theorem fX:∀ {k:Key}{v:Value},qU k v=true->(∃ i t,k=Sum.inl i /\ v=Value.int i t) \/ (∃ x t,k=Sum.inr x /\ v=Value.str x t)
 | .inl i,v,h=>by
   obtain⟨t,e⟩:=Value.isInt_shape (k:=i) (v:=v) h;exact .inl ⟨i,t,rfl,e⟩
 | .inr x,v,h=>by
   obtain⟨t,e⟩:=Value.isStrOf_shape (x:=x) (v:=v) h;exact .inr ⟨x,t,rfl,e⟩
theorem GS (i:Int) (t:Tok):qU (.inl i) (.int i t)=true:=by simp[qU,Value.isInt]
theorem GT (x:Str) (t:Tok):qU (.inr x) (.str x t)=true:=by simp[qU,Value.isStrOf]
theorem PV (a b:Int):decide ((Sum.inl a:Key)=Sum.inl b)=(a==b):=by
 by_cases e:a=b
 ·subst e;simp
 ·have h:¬ (Sum.inl a:Key)=Sum.inl b:=λq=>e (Sum.inl.inj q);rw[decide_eq_false h];exact(beq_eq_false_iff_ne.mpr e).symm
theorem PX (a b:Str):decide ((Sum.inr a:Key)=Sum.inr b)=decide (a=b):=by
 by_cases e:a=b
 ·subst e;simp
 ·have h:¬ (Sum.inr a:Key)=Sum.inr b:=λq=>e (Sum.inr.inj q);rw[decide_eq_false h,decide_eq_false e]
theorem PY (a:Int) (b:Str):decide ((Sum.inl a:Key)=Sum.inr b)=false:=decide_eq_false (λq=>nomatch q)
theorem PZ (a:Str) (b:Int):decide ((Sum.inr a:Key)=Sum.inl b)=false:=decide_eq_false (λq=>nomatch q)
noncomputable def eM (prog:Program) (w:World):PySem.KeyKind prog w Key where
 is:=qU
 hash:=Z9 w
 inj:=λv a b ha hb=>by
  rcases fX ha with⟨i,t,rfl,rfl⟩|⟨x,t,rfl,rfl⟩
  ·rcases fX hb with⟨j,u,rfl,e⟩|⟨y,u,rfl,e⟩
   ·injection e with e1 _;rw[e1]
   ·exact nomatch e
  ·rcases fX hb with⟨j,u,rfl,e⟩|⟨y,u,rfl,e⟩
   ·exact nomatch e
   ·injection e with e1 _;rw[e1]
 byValue:=λk v h=>by
  rcases fX h with⟨i,t,rfl,rfl⟩|⟨x,t,rfl,rfl⟩<;>rfl
 pyHash:=λhv h=>by
  rcases fX hv with⟨i,t,rfl,rfl⟩|⟨x,t,rfl,rfl⟩
  ·exact wpAny_pyHash_int h
  ·exact wpAny_pyHash_str h
 eqBool:=λhu hv h=>by
  rcases fX hu with⟨i,t,rfl,rfl⟩|⟨x,t,rfl,rfl⟩
  ·rcases fX hv with⟨j,u,rfl,rfl⟩|⟨y,u,rfl,rfl⟩
   ·rw[PV]at h;exact Vr h
   ·rw[PY]at h;exact Xf i t y u _ _ _ _ h
  ·rcases fX hv with⟨j,u,rfl,rfl⟩|⟨y,u,rfl,rfl⟩
   ·rw[PZ]at h;exact Xg x t j u _ _ _ _ h
   ·rw[PX]at h;exact wpAny_eqBool_str h
 «strs»:=λk x t v h=>by
  rcases fX h with⟨i,u,rfl,e⟩|⟨y,u,rfl,e⟩
  ·exact nomatch e
  ·injection e with e1 _;subst e1;cases v<;>rfl
theorem Ci (prog:Program) (w:World) (i:Int) (t:Tok):(eM prog w).is (.inl i) (.int i t)=true:=GS i t
theorem Cj (prog:Program) (w:World) (x:Str) (t:Tok):(eM prog w).is (.inr x) (.str x t)=true:=GT x t
end L2
variable {xs : List (List L2.Key × PySem.Addr × PySem.Value)}
namespace L2
open PySem PySem.Spec PyProof.Rows
inductive V where
 |aq|bl (b:Bool)|int (i:Int)|str (x:Str)|kn (b:Array UInt8)|sj (b:UInt64)|ref (a:Addr)|ty (n:String)
 deriving DecidableEq
noncomputable def RelV:V->Value->Prop
 |.aq,u=>u=Value.none
 |.bl b,u=>u=Value.bool b
 |.int i,u=>∃ t,u=Value.int i t
 |.str x,u=>∃ t,u=Value.str x t
 |.kn b,u=>∃ t,u=Value.bytes b t
 |.sj b,u=>∃ t,u=Value.float b t
 |.ref a,u=>u=Value.ref a
 |.ty n,u=>u=Value.type n
abbrev Vals:List V->List Value->Prop:=Paired RelV
theorem Vals.length {xs:List V}{us:List Value}(r:Vals xs us):xs.length=us.length:=Paired.length r
theorem Vals.get:∀ {xs:List V}{us:List Value}{i:Nat}{x:V},Vals xs us->xs[i]?=some x->∃ u,us[i]?=some u /\ RelV x u
 |_,_,_,_,.nil,e=>by simp at e
 |_,_,0,_,.cons r _,e=>by simp at e;subst e;exact⟨_,rfl,r⟩
 | _,_,i+1,x,.cons _ t,e=>by
   obtain⟨u,h1,h2⟩:=Vals.get (i:=i) (x:=x) t (by simpa using e);exact⟨u,by simpa using h1,h2⟩
theorem Vals.set {x:V}{u:Value}(r:RelV x u):∀ {xs:List V}{us:List Value}(i:Nat),Vals xs us->Vals (xs.set i x) (us.set i u)
 |_,_,_,.nil=>.nil
 |_,_,0,.cons _ t=>.cons r t
 |_,_,i+1,.cons q t=>.cons q (Vals.set r i t)
theorem Vals.append:∀ {xs ys:List V}{us ws:List Value},Vals xs us->Vals ys ws->Vals (xs++ys) (us++ws)
 |_,_,_,_,.nil,s=>s
 |_,_,_,_,.cons r t,s=>.cons r (Vals.append t s)
theorem Vals.take:∀ {xs:List V}{us:List Value}(n:Nat),Vals xs us->Vals (xs.take n) (us.take n)
 |_,_,0,_=>.nil
 |_,_,_+1,.nil=>.nil
 |_,_,n+1,.cons r t=>.cons r (Vals.take n t)
theorem Vals.drop:∀ {xs:List V}{us:List Value}(n:Nat),Vals xs us->Vals (xs.drop n) (us.drop n)
 |_,_,0,r=>r
 |_,_,_+1,.nil=>.nil
 |_,_,n+1,.cons _ t=>Vals.drop n t
noncomputable def vD:Option V->Option Value->Prop
 |some v,some u=>RelV v u
 |none,none=>True
 |_,_=>False
def KV {κ:Type}:List (κ×V)->List (κ×Value)->Prop:=Paired λ(p:κ×V) (q:κ×Value)=>p.1=q.1 /\ RelV p.2 q.2
noncomputable def kV:Key->V
 |.inl i=>.int i
 |.inr x=>.str x
inductive HO where
 /-- a list -/
 |lst (xs:List V)
 /-- a tuple (never changes) -/
 |tup (xs:List V)
 /-- a dict aab keys are ints and texts;one aab keys are tuples of ints and texts (pE empty one is both) -/
 |dK (ah:List (Key×V))|dT (ah:List (List Key×V))
 /-- a set of ints: af members,af size -/
 |set (S:Int->Bool) (n:Nat)
 /-- an instance of pE class at C,af dict at dx,af attributes -/
 |ins (C dx:Addr) (fs:List (Str×V))
 /-- pE dict of pE instance at x -/
 |own (x:Addr)
 /-- pE dict of an exception -/
 |xd (fs:List (Str×V))
 /-- a bound method,f of x -/
 |met (f x:Addr)
 /-- a range object lo,lo+1,.. below hi -/
 |IM (lo hi:Int)
 /-- a thing Xn is known to pE object (pE aeN;a dict while a loop walks it): read,never written while it is so -/
 |ko (o:Obj) (u:HO)
 /-- a code aeO table -/
 |t8 (ps:Array Value)
 /-- any other thing,by aeP is true of af one object (a def of aeQ own: aeR a S n:=HO.ext λh=>..) -/
 |ext (φ:Heap->Prop)
noncomputable abbrev Hp:=Addr->Option HO
noncomputable def upd (H:Hp) (a:Addr) (o:HO):Hp:=λb=>if b=a then some o else H b
theorem fI {H:Hp}{o:HO}:upd H a o a=some o:=by unfold upd;rw[if_pos rfl]
theorem fJ {H:Hp}{b:Addr}{o:HO}(h:b≠a):upd H a o b=H b:=by unfold upd;rw[if_neg h]
theorem To {H:Hp}{b:Addr}{o u:HO}(h:H a=some o) (h':H b=some u) (d:o≠u):a≠b:=by
 intro e;subst e;rw[h]at h';exact d (Option.some.inj h')
theorem f9 {H:Hp}{b:Addr}{o:HO}(h:H a=some o) (h':H b=none):a≠b:=by
 intro e;subst e;rw[h]at h';cases h'
section
variable (P : Program) (w : World)
noncomputable def br (H:Hp) (h:Heap) (a:Addr):HO->Prop
 |.lst xs=>xs.length<=sizeLine /\ ∃ (af:List Value) (n:Nat),Vals xs af /\ h.get? a=some { cls:=.type "list",data:=.seq af.toArray n }
 |.tup xs=>xs.length<=sizeLine /\ ∃ af:List Value,Vals xs af /\ IsTup h a af.toArray
 |.dK ah=>ah.length<=sizeLine /\ (a==sysModules)=false /\ ∃ vs,KV ah vs /\ h.DictOf (eM P w) a vs
 |.dT ah=>ah.length<=sizeLine /\ (a==sysModules)=false /\ ∃ xs:List (List Key×Addr×Value),
  Paired (λ(p:List Key×V) (q:List Key×Addr×Value)=>p.1=q.1 /\ H q.2.1=some (.tup (p.1.map kV)) /\ RelV p.2 q.2.2) ah xs /\
  ∃ o es ep,h.get? a=some o /\ o.ExactDict /\ o.data=.dict es ep /\ es.toList=xs.map (entryOfKey (tupleKind (eM P w))) /\ (xs.map (·.1)).Nodup
 |.set S n=>h.SetOf (intKind P w) a S n
 |.ins C dx fs=>H dx=some (.own a) /\ fs.length<=1000 /\ dx≠a /\ h.get? a=some (PySem.W.instObj C dx) /\
  ∃ mA,h.Ns1 dx mA /\ (∀ f,vD (fs.lookup f) (mA f)) /\ PySem.Within mA (fs.map (·.1))
 |.own _=>∃ o,h.get? a=some o
 |.xd fs=>∃ mA,h.Ns1 a mA /\ ∀ f,vD (fs.lookup f) (mA f)
 |.IM lo hi=>∃ t u v,h.get? a=some { cls:=.type "range",data:=.fields #[.int lo t,.int hi u,.int 1 v] }
 |.ko o u=>h.get? a=some o /\ br H h a u
 |.t8 ps=>h.get? a=some { cls:=.none,data:=.fields ps }
 |.met f x=>h.get? a=some (PySem.W.methodObj (.ref f) (.ref x))
 |.ext φ=>φ h /\ (∃ o,h.get? a=some o) /\ ∀ h1 h2:Heap,φ h1->(∀ o,h1.get? a=some o->h2.get? a=some o)->φ h2
def bV (H:Hp) (h:Heap):Prop:=∀ a o,H a=some o->br P w H h a o
end
section
variable {H H' : Hp} {o : HO}
theorem br.lt (x:br P w H h a o):a<h.objs.size:=by
 cases o with
 |lst xs=>obtain⟨_,_,_,_,e⟩:=x;exact aK e
 |tup xs=>obtain⟨_,_,_,p⟩:=x;exact p.lt
 |dK ah=>obtain⟨_,_,_,_,o,_,_,e,_⟩:=x;exact aK e
 |dT ah=>obtain⟨_,_,_,_,o,_,_,e,_⟩:=x;exact aK e
 |set S n=>obtain⟨o,_,_,_,e,_⟩:=x;exact aK e
 |ins C dx fs=>obtain⟨_,_,_,e,_⟩:=x;exact aK e
 |own y=>obtain⟨_,e⟩:=x;exact aK e
 |xd fs=>obtain⟨_,⟨_,_,_,e,_⟩,_⟩:=x;exact aK e
 |IM lo hi=>obtain⟨_,_,_,e⟩:=x;exact aK e
 |ko ob u=>obtain⟨e,_⟩:=x;exact aK e
 |t8 ps=>exact aK (show h.get? a=some _ from x)
 |met f y=>exact aK (show h.get? a=some _ from x)
 |ext φ=>obtain⟨_,⟨_,e⟩,_⟩:=x;exact aK e
theorem Paired.IP {α β:Type}{F G:α->β->Prop}:∀ {l₁:List α}{l₂:List β},Paired F l₁ l₂->(∀ a b,F a b->G a b)->Paired G l₁ l₂
 |_,_,.nil,_=>.nil
 |_,_,.cons r t,f=>.cons (f _ _ r) (Paired.IP t f)
theorem br.eX (x:br P w H h a o) (k:∀ b u,(b=a \/ H b=some (.own a))->h.get? b=some u->h'.get? b=some u)
 (ho:∀ b,H b=some (.own a)->H' b=some (.own a)) (ht:∀ b xs,H b=some (.tup xs)->H' b=some (.tup xs)):br P w H' h' a o:=by
 induction o with
 |lst xs=>obtain⟨z,af,n,r,e⟩:=x;exact⟨z,af,n,r,k _ _ (.inl rfl) e⟩
 |tup xs=>obtain⟨z,af,r,ob,e,c⟩:=x;exact⟨z,af,r,ob,k _ _ (.inl rfl) e,c⟩
 |dK ah=>obtain⟨z,y,vs,r,ob,es,ep,e,c⟩:=x;exact⟨z,y,vs,r,ob,es,ep,k _ _ (.inl rfl) e,c⟩
 | dT ah =>
   obtain⟨z,y,xs,r,ob,es,ep,e,c⟩:=x;exact⟨z,y,xs,Paired.IP r λp q z=>⟨z.1,ht _ _ z.2.1,z.2.2⟩,ob,es,ep,k _ _ (.inl rfl) e,c⟩
 |set S n=>obtain⟨ob,es,ep,t,e,c⟩:=x;exact⟨ob,es,ep,t,k _ _ (.inl rfl) e,c⟩
 | ins C dx fs =>
   obtain⟨d,z,ne,e,mA,⟨od,es,ep,e2,c⟩,r⟩:=x;exact⟨ho _ d,z,ne,k _ _ (.inl rfl) e,mA,⟨od,es,ep,k _ _ (.inr d) e2,c⟩,r⟩
 |own y=>obtain⟨ob,e⟩:=x;exact⟨ob,k _ _ (.inl rfl) e⟩
 |xd fs=>obtain⟨mA,⟨od,es,ep,e,c⟩,r⟩:=x;exact⟨mA,⟨od,es,ep,k _ _ (.inl rfl) e,c⟩,r⟩
 |IM lo hi=>obtain⟨t,u,v,e⟩:=x;exact⟨t,u,v,k _ _ (.inl rfl) e⟩
 |ko ob u ih=>obtain⟨e,q⟩:=x;exact⟨k _ _ (.inl rfl) e,ih q⟩
 | t8 ps =>
   have e:h.get? a=some { cls:=.none,data:=.fields ps }:=x;show h'.get? a=some { cls:=.none,data:=.fields ps };exact k a _ (.inl rfl) e
 | met f y =>
   have e:h.get? a=some (PySem.W.methodObj (.ref f) (.ref y)):=x;show h'.get? a=some (PySem.W.methodObj (.ref f) (.ref y));exact k a _ (.inl rfl) e
 |ext φ=>obtain⟨p,⟨o,e⟩,st⟩:=x;exact⟨st _ _ p λo q=>k _ _ (.inl rfl) q,⟨o,k _ _ (.inl rfl) e⟩,st⟩
theorem bV.lt (x:bV P w H h) (e:H a=some o):a<h.objs.size:=(x a o e).lt
theorem bV.fresh (x:bV P w H h) (e:h.objs.size<=a):H a=none:=by
 cases q:H a with
 |none=>rfl
 |some u=>exact absurd (dM (x.lt q) e) (dO _)
theorem bV.kept (x:bV P w H h) (k:∀ b u,h.get? b=some u->h'.get? b=some u):bV P w H h':=λa o e =>
 (x a o e).eX (λb u _ q=>k b u q) (λ_ q=>q) λ_ _ q=>q
theorem bV.laid (x:bV P w H h) (k:∀ b u,h.get? b=some u->h'.get? b=some u) (hp:h.objs.size<=a) (new:br P w (upd H a o) h' a o):bV P w (upd H a o) h':=λb u e=>by
 have hn:=x.fresh hp;by_cases hb:b=a
 ·subst hb;rw[fI]at e;cases e;exact new
 ·rw[fJ hb]at e;exact(x b u e).eX (λc v _ q=>k c v q) (λc q=>by rw[fJ (f9 q hn)];exact q) λc xs q=>by rw[fJ (f9 q hn)];exact q
end
def Rd (H:Hp) (a:Addr) (u:HO):Prop:=H a=some u \/ ∃ o,H a=some (.ko o u)
theorem Rd.ok {H:Hp}{u:HO}(r:Rd H a u) (x:bV P w H h):br P w H h a u:=by
 rcases r with r|⟨o,r⟩
 ·exact x a u r
 ·obtain⟨_,q⟩:=x a _ r;exact q
noncomputable def wX:Option HO->Prop
 |some (.lst _)=>True
 |some (.dK _)=>True
 |some (.dT _)=>True
 |some (.set _ _)=>True
 |some (.ins _ _ _)=>True
 |some (.ext _)=>True
 |_=>False
section
variable {H : Hp} {x e : Addr} {o' : HO}
theorem bV.write (ok:bV P w H h) (mu:wX (H x)) (he:e=x \/ H e=some (.own x)) (k:∀ b u,b≠e->h.get? b=some u->h'.get? b=some u) (vE:∃ u,h'.get? e=some u)
 (new:br P w (upd H x o') h' x o'):bV P w (upd H x o') h':=λb u q=>by
 have Xo:∀ c y,H c=some (.own y)->c≠x:=λc y r z=>by subst z;rw[r]at mu;exact mu
 have aac:∀ c xs,H c=some (.tup xs)->c≠x:=λc xs r z=>by subst z;rw[r]at mu;exact mu
 by_cases hb:b=x
 ·subst hb;rw[fI]at q;cases q;exact new
 ·rw[fJ hb]at q;by_cases t9:b=e
  ·have q':H b=some (.own x):=by
    rcases he with z|z
    ·exact absurd (t9.trans z) hb
    ·rw[t9];exact z
   rw[q]at q';cases q';obtain⟨v,hv⟩:=vE;exact⟨v,by rw[t9];exact hv⟩
  ·refine(ok b u q).eX (λc v hc r=>k c v ?_ r) (λc r=>by rw[fJ (Xo c b r)];exact r) λc xs r=>by rw[fJ (aac c xs r)];exact r
   rcases hc with rfl|hc
   ·exact t9
   ·rintro rfl;rcases he with z|z
    ·exact Xo c b hc z
    ·rw[hc]at z;cases z;exact hb rfl
end
structure Un (fs ex:List Addr) (H H':Hp) (h h':Heap):Prop where
 keep:∀ b o,h.get? b=some o->H b=none->b∉fs->b∉ex->h'.get? b=some o
 slot:∀ b o,h.get? b=some o->H b=none->b∈fs->b∉ex->∃ sl,h'.get? b=some { o with slots:=sl }
 free:∀ b o,h.get? b=some o->H b=none->b∉ex->H' b=none
 there:∀ b o,h.get? b=some o->b∉ex->∃ o',h'.get? b=some o'
 pF:∀ b xs,H b=some (.tup xs)->H' b=some (.tup xs)
 nO:∀ b o u,H b=some (.ko o u)->H' b=some (.ko o u)
 pG:∀ b ps,H b=some (.t8 ps)->∃ more,H' b=some (.t8 (ps++more))
section
variable {fs aad ex aeS : List Addr} {H H1 H2 : Hp} {h1 h2 : Heap} {x e : Addr} {o : HO}
theorem Un.any (u:Un fs ex H H1 h h1) {b:Addr}{ob:Obj}(q:h.get? b=some ob) (n:H b=none) (hx:b∉ex):∃ sl,h1.get? b=some { ob with slots:=sl }:=by
 by_cases hb:b∈fs
 ·exact u.slot b ob q n hb hx
 ·exact⟨ob.slots,u.keep b ob q n hb hx⟩
theorem Un.kept (k:∀ b u,h.get? b=some u->h'.get? b=some u):Un fs ex H H h h' :=
 ⟨λb ob q _ _ _=>k b ob q,λb ob q _ _ _=>⟨ob.slots,k b ob q⟩,λ_ _ _ n _=>n,λb ob q _=>⟨ob,k b ob q⟩,λ_ _ q=>q,λ_ _ _ q=>q,λ_ ps q=>⟨#[],by rw[q];simp⟩⟩
theorem Un.refl:Un fs ex H H h h:=Un.kept λ_ _ q=>q
theorem Un.laid (k:∀ b u,h.get? b=some u->h'.get? b=some u) (hp:h.objs.size<=a) (hn:H a=none):Un fs ex H (upd H a o) h h' where
 keep:=λb u q _ _ _=>k b u q
 slot:=λb u q _ _ _=>⟨u.slots,k b u q⟩
 free:=λb u q n _=>by rw[fJ (bL (dM (aK q) hp))];exact n
 there:=λb u q _=>⟨u,k b u q⟩
 pF:=λb xs q=>by rw[fJ (f9 q hn)];exact q
 nO:=λb u xs q=>by rw[fJ (f9 q hn)];exact q
 pG:=λb ps q=>⟨#[],by rw[fJ (f9 q hn),q];simp⟩
theorem Un.write (mu:wX (H x)) (he:e=x \/ H e=some (.own x)) (k:∀ b u,b≠e->h.get? b=some u->h'.get? b=some u) (vE:∃ u,h'.get? e=some u):Un fs ex H (upd H x o) h h':=by
 have hx:∀ b,H b=none->b≠x:=λb n z=>by subst z;rw[n]at mu;exact mu
 have hb:∀ b,H b=none->b≠e:=λb n z=>by
  subst z;rcases he with r|r
  ·exact hx b n r
  ·rw[n]at r;cases r
 have hm:∀ b u,H b=some u->¬ wX (some u)->b≠x:=λb u q nm z=>by subst z;rw[q]at mu;exact nm mu
 refine⟨λb u q n _ _=>k b u (hb b n) q,λb u q n _ _=>⟨u.slots,k b u (hb b n) q⟩,λb u q n _=>by rw[fJ (hx b n)];exact n,λb u q _=>?_,
  λb xs q=>by rw[fJ (hm b _ q λz=>z)];exact q,λb u xs q=>by rw[fJ (hm b _ q λz=>z)];exact q,λb ps q=>⟨#[],by rw[fJ (hm b _ q λz=>z),q];simp⟩⟩
 by_cases t9:b=e
 ·subst t9;exact vE
 ·exact⟨u,k b u t9 q⟩
end
noncomputable def zt (h:Heap) (H:Hp):List Addr:=(List.range h.objs.size).filter λa=>(H a).isSome
noncomputable def qV (h:Heap) (H:Hp):Heap:=PySem.W.hideAll h (zt h H)
theorem GU (h:Heap) (H:Hp):(qV h H).objs.size=h.objs.size:=PySem.W.hideAll_size _ _
theorem JZ {H:Hp}{b:Addr}(e:h.get? b=some o) (n:H b=none):(qV h H).get? b=some o :=
 PySem.W.hideAll_get _ e λhm=>by
  have q:(H b).isSome=true:=(cD.mp hm).2;rw[n]at q;simp at q
theorem Nt {H:Hp}{b:Addr}(e:(qV h H).get? b=some o):h.get? b=some o /\ H b=none:=by
 have e':h.get? b=some o:=PySem.W.of_hideAll (zt h H) e;refine⟨e',?_⟩;cases q:H b with
 |none=>rfl
 | some x =>
   have hm:b∈zt h H:=cD.mpr ⟨kl.mpr (aK e'),by simp[q]⟩;have z:(qV h H).get? b=none:=PySem.W.hideAll_none (zt h H) hm;rw[z]at e;cases e
end L2
variable {H H' F : L2.Hp}{v : L2.V}{ah : List (List L2.Key × L2.V)}
namespace L2
open PySem PySem.Spec PyProof.Rows
structure Mod (K:PySem.W.Frag) (mg:Str->Option Value) (base:Heap):Prop where
 IQ:K.In base
 glob:base.Ns mainGlobals mg
 blt:∃ mb,base.Ns builtinsNs mb /\ ∀ x:Str,x ≠ "__name__"->mb x=bootBuiltins x
 nolimit:base.NoLimit
structure Cx where
 prog:Program
 w:World
 K:PySem.W.Frag
 mg:Str->Option Value
 base:Heap
 A:Around
 N:List Str
 s₀:Shared
 H₀:Hp
 env:Env
 outer:List Env
 stack:List Env
 ex:List Addr
 fn:Str->Bool
 calm:Bool
 pn:List (Addr×Obj)
 xe:Value->Shared->Prop
noncomputable def nh (l:List Env):List Addr:=l.filterMap (·.frame)
noncomputable abbrev Cx.fs (X:Cx):List Addr:=nh X.outer
def vF (sc:Scope) (x:Str):Prop:=sc.names.lookup x=some .local \/ sc.names.lookup x=some .cell \/ sc.names.lookup x=some .free
def Loc (sc:Scope) (x:Str):Prop:=sc.names.lookup x=some .local \/ sc.names.lookup x=some .cell
def Look (env:Env) (h:Heap) (m:Str->Option Value) (x:Str) (u:Value):Prop :=
 (env.kindOf x=some .local /\ m x=some u) \/ ((env.kindOf x=some .cell \/ env.kindOf x=some .free) /\ ∃ c,env.cells.lookup x=some c /\ h.IsCell c (some u))
structure Cx.Ok (X:Cx):Prop where
 mod:Mod X.K X.mg X.base
 kind:X.env.scope.kind=.function
 glob:X.env.globals=mainGlobals
 blt:X.env.builtins=builtinsNs
 above:X.s₀.heap.objs.size<=X.env.locals
 inj:∀ x y c,X.env.cells.lookup x=some c->X.env.cells.lookup y=some c->x=y
 has:∀ x,(X.env.kindOf x=some .cell \/ X.env.kindOf x=some .free)->∃ c,X.env.cells.lookup x=some c
 wY:∀ x c,X.fn x=true->X.env.cells.lookup x=some c->X.s₀.heap.objs.size<=c
 hd:X.calm=true->X.A.handled=none
 frames:X.A.frames=some X.stack
 zu:X.stack=X.outer \/ (X.stack=X.env::X.outer /\ X.env.frame=some X.env.locals)
 sk:∀ b∈X.ex,b≠X.env.locals /\ ∀ x c,X.env.cells.lookup x=some c->c≠b
 bs:∀ b o,X.base.get? b=some o->X.s₀.heap.get? b=some o /\ X.H₀ b=none
 ua:X.base.objs.size<=X.s₀.heap.objs.size
 wZ:∀ b o,X.base.get? b=some o->b∉X.ex
 ub:∀ b∈X.ex,b∉X.fs
 pH:X.s₀.heap.FunFrames X.base X.outer
 vG:∀ b∈X.fs,X.H₀ b=none
structure Inv (X:Cx) (pins:List (Addr×Obj)) (σ:List (Option V)) (H:Hp) (s:Shared):Prop where
 ok:X.Ok
 os:s.os=X.s₀.os
 bare:AllBare s.gens
 base:Un X.fs X.ex X.H₀ H X.s₀.heap s.heap
 loc:∃ m,s.heap.Ns X.env.locals m /\ ∀ (i:Nat) (x:Str) (v:V),X.N[i]?=some x->σ[i]?=some (some v)->vF X.env.scope x->∃ u,RelV v u /\ Look X.env s.heap m x u
 cell:∀ x c,X.env.cells.lookup x=some c->∃ v,s.heap.IsCell c v
 free:H X.env.locals=none
 nP:∀ x c,X.env.cells.lookup x=some c->H c=none
 pin:∀ p∈X.pn++pins,s.heap.get? p.1=some p.2 /\ H p.1=none /\ p.1≠X.env.locals /\ p.1∉X.fs /\ ∀ v,p.2.data≠.cell v
 ar:bV X.prog X.w H s.heap
 len:σ.length=X.N.length
section
variable {X : Cx} {σ : List (Option V)} 
theorem Cx.Ok.aae (ok:X.Ok) {b:Addr}(e:X.base.get? b=some o):b∉X.fs:=λhb=>by
 have:=(ok.pH.mem hb).1;rw[e]at this;cases this
theorem Inv.bs (I:Inv X pins σ H s):∀ b o,X.base.get? b=some o->s.heap.get? b=some o /\ H b=none:=λb o e =>
 ⟨I.base.keep b o (I.ok.bs b o e).1 (I.ok.bs b o e).2 (I.ok.aae e) (I.ok.wZ b o e),I.base.free b o (I.ok.bs b o e).1 (I.ok.bs b o e).2 (I.ok.wZ b o e)⟩
theorem Inv.bk (I:Inv X pins σ H s):∀ b o,X.base.get? b=some o->s.heap.get? b=some o:=λb o e=>(I.bs b o e).1
theorem Inv.mod (I:Inv X pins σ H s):Mod X.K X.mg X.base:=I.ok.mod
theorem Inv.dz (I:Inv X pins σ H s):X.K.In s.heap:=I.ok.mod.IQ.keeps I.bk
theorem Inv.lt (I:Inv X pins σ H s):X.env.locals<s.heap.objs.size:=let ⟨_,hn,_⟩:=I.loc;hn.lt
theorem Inv.sz (I:Inv X pins σ H s):X.s₀.heap.objs.size<=s.heap.objs.size:=bc I.ok.above (ke I.lt)
theorem Inv.aaf (I:Inv X pins σ H s) (h:s.heap.objs.size<=a):a∉X.fs:=λhb=>by
 obtain⟨_,o,ho,_⟩:=I.ok.pH.mem hb;exact absurd (dM (aK ho) (bc I.sz h)) (dO _)
theorem Inv.uc (I:Inv X pins σ H s):∀ x c,X.env.cells.lookup x=some c->c≠X.env.locals:=λx c e z=>by
 obtain⟨v,o,ho,hd⟩:=I.cell x c e;obtain⟨m,⟨o',es,ep,kq,aag,_⟩,_⟩:=I.loc;rw[z,kq]at ho;cases ho;rw[aag]at hd;cases hd
theorem Inv.pH (I:Inv X pins σ H s):s.heap.FunFrames X.base X.outer:=by
 have all:∀ (l:List Env),(∀ b∈nh l,b∈X.fs)->X.s₀.heap.FunFrames X.base l->s.heap.FunFrames X.base l:=by
  intro l;induction l with
  |nil=>intro _ _;trivial
  | cons env r ih =>
    intro hs hl;obtain⟨hk,⟨L,o,hf,hn,ho,hd⟩,hr⟩:=hl;have hL:L∈X.fs:=hs L (by unfold nh;rw[pz,hf];exact bQ);obtain⟨sl,e⟩:=I.base.slot L o ho (I.ok.vG L hL) hL λz=>I.ok.ub L z hL;exact⟨hk,⟨L,_,hf,hn,e,hd⟩,ih (λb hb=>hs b (by unfold nh;rw[pz,hf];exact bF _ hb)) hr⟩
 exact all X.outer (λ_ hb=>hb) I.ok.pH
theorem Inv.stack (I:Inv X pins σ H s):s.heap.FunFrames X.base X.stack:=by
 rcases I.ok.zu with e|⟨e,hf⟩
 ·rw[e];exact I.pH
 ·rw[e];obtain⟨m,hn,_⟩:=I.loc;refine .cons (by rw[I.ok.kind];decide) hf hn ?_ I.pH;exact vf (bc I.ok.ua I.ok.above)
theorem Inv.IS (I:Inv X pins σ H s):∀ b∈nh X.stack,b∈X.env.locals::X.fs:=λb hb=>by
 rcases I.ok.zu with e|⟨e,hf⟩
 ·rw[e]at hb;exact bF _ hb
 ·rw[e]at hb;unfold nh at hb;rw[pz,hf]at hb;exact hb
theorem Inv.Xp (I:Inv X pins σ H s):∀ b∈nh X.stack,H b=none:=λb hb=>by
 rcases aP.mp (I.IS b hb) with e|hb
 ·rw[e];exact I.free
 ·obtain⟨_,o,ho,_⟩:=I.ok.pH.mem hb;exact I.base.free b o ho (I.ok.vG b hb) λz=>I.ok.ub b z hb
theorem Inv.step {g':Array GenState}{d':Drawn}(I:Inv X pins σ H s)
 (qh:∀ b∈ch,(b∈X.ex \/ X.s₀.heap.objs.size<=b) /\ b≠X.env.locals /\ (∀ x c,X.env.cells.lookup x=some c->c≠b) /\ ∀ p∈X.pn++pins,p.1≠b)
 (keep:∀ b o,b≠X.env.locals->b∉X.fs->b∉ch->s.heap.get? b=some o->H b=none->h'.get? b=some o)
 (slot:∀ b o,b≠X.env.locals->b∈X.fs->b∉ch->s.heap.get? b=some o->H b=none->∃ sl,h'.get? b=some { o with slots:=sl }) (free:∀ b o,b∉ch->s.heap.get? b=some o->H b=none->H' b=none)
 (there:∀ b o,b∉ch->s.heap.get? b=some o->∃ o',h'.get? b=some o')
 (pF:∀ b xs,H b=some (.tup xs)->H' b=some (.tup xs)) (nO:∀ b o u,H b=some (.ko o u)->H' b=some (.ko o u)) (pG:∀ b ps,H b=some (.t8 ps)->∃ more,H' b=some (.t8 (ps++more)))
 (ns:∀ m,s.heap.Ns X.env.locals m->h'.Ns X.env.locals m) (ar:bV X.prog X.w H' h') (hg:AllBare g') :
 Inv X pins σ H' { s with heap:=h',gens:=g',drawn:=d',toks:=t' }:=by
 have Xq:∀ b o,X.s₀.heap.get? b=some o->b≠X.env.locals:=λb o e=>bL (dM (aK e) I.ok.above);have eY:∀ b o,X.s₀.heap.get? b=some o->b∉X.ex->b∉ch:=λb o e hx hb=>by
  rcases(qh b hb).1 with z|z
  ·exact hx z
  ·exact absurd (dM (aK e) z) (dO _)
 have cellK:∀ x c,X.env.cells.lookup x=some c->∀ v,s.heap.IsCell c v->h'.IsCell c v:=λx c e v ⟨o,ho,hd⟩=>by
  have pI:c∉ch:=λz=>(qh c z).2.2.1 x c e rfl;by_cases hc:c∈X.fs
  ·obtain⟨sl,q⟩:=slot c o (I.uc x c e) hc pI ho (I.nP x c e);exact⟨_,q,hd⟩
  ·exact⟨o,keep c o (I.uc x c e) hc pI ho (I.nP x c e),hd⟩
 refine⟨I.ok,I.os,hg,⟨λb o e n hb hx=>?_,λb o e n hb hx=>?_,λb o e n hx=>?_,λb o e hx=>?_,λb xs e=>pF b xs (I.base.pF b xs e),λb o xs e=>nO b o xs (I.base.nO b o xs e),λb ps e=>?_⟩,?_,λx c e=>?_,?_,λx c e=>?_,λp hp=>?_,ar,I.len⟩
 ·exact keep b o (Xq b o e) hb (eY b o e hx) (I.base.keep b o e n hb hx) (I.base.free b o e n hx)
 ·obtain⟨sl,e1⟩:=I.base.slot b o e n hb hx;obtain⟨aah,e2⟩:=slot b _ (Xq b o e) hb (eY b o e hx) e1 (I.base.free b o e n hx);exact⟨aah,e2⟩
 ·obtain⟨o',e1⟩:=I.base.there b o e hx;exact free b o' (eY b o e hx) e1 (I.base.free b o e n hx)
 ·obtain⟨o',e1⟩:=I.base.there b o e hx;exact there b o' (eY b o e hx) e1
 ·obtain⟨m1,e1⟩:=I.base.pG b ps e;obtain⟨m2,e2⟩:=pG b _ e1;exact⟨m1++m2,by rw[e2,Array.append_assoc]⟩
 ·obtain⟨m,hn,hl⟩:=I.loc;refine⟨m,ns m hn,λi x v e1 e2 e3=>?_⟩;obtain⟨u,r,l⟩:=hl i x v e1 e2 e3;refine⟨u,r,?_⟩;rcases l with l|⟨k,c,e,z⟩
  ·exact .inl l
  ·exact .inr ⟨k,c,e,cellK x c e _ z⟩
 ·obtain⟨v,z⟩:=I.cell x c e;exact⟨v,cellK x c e v z⟩
 ·obtain⟨m,⟨o,_,_,ho,_⟩,_⟩:=I.loc;exact free _ o (λz=>(qh _ z).2.1 rfl) ho I.free
 ·obtain⟨v,o,ho,hd⟩:=I.cell x c e;exact free c o (λz=>(qh c z).2.2.1 x c e rfl) ho (I.nP x c e)
 ·obtain⟨e,n,ne,nf,d⟩:=I.pin p hp;have pI:p.1∉ch:=λz=>(qh p.1 z).2.2.2 p hp rfl;exact⟨keep p.1 p.2 ne nf pI e n,free p.1 p.2 pI e n,ne,nf,d⟩
theorem Inv.un (I:Inv X pins σ H s) (u:Un X.fs [] H H' s.heap h') (ar:bV X.prog X.w H' h'):Inv X pins σ H' { s with heap:=h',toks:=t' }:=by
 obtain⟨m,⟨o,es,ep,ho,r⟩,_⟩:=id I.loc;obtain⟨sl,hL⟩:=u.any ho I.free (by simp);exact I.step (g':=s.gens) (d':=s.drawn) (ch:=[]) (λ_ z=>nomatch z) (λb o _ hb _ e n=>u.keep b o e n hb (by simp)) (λb o _ hb _ e n=>u.slot b o e n hb (by simp)) (λb o _ e n=>u.free b o e n (by simp)) (λb o _ e=>u.there b o e (by simp)) u.pF u.nO u.pG (λm' hm=>by
  obtain⟨o',es',qW,kq,r'⟩:=hm;rw[ho]at kq;cases kq;exact⟨_,es',qW,hL,r'⟩) ar I.bare
theorem Inv.call {g':Array GenState}{d':Drawn}(I:Inv X pins σ H s) (u:Un (nh X.stack) ch H H' s.heap h') (ar:bV X.prog X.w H' h') (hg:AllBare g')
 (qh:∀ b∈ch,(b∈X.ex \/ X.s₀.heap.objs.size<=b) /\ b≠X.env.locals /\ (∀ x c,X.env.cells.lookup x=some c->c≠b) /\ ∀ p∈X.pn++pins,p.1≠b) :
 Inv X pins σ H' { s with heap:=h',gens:=g',drawn:=d',toks:=t' }:=by
 obtain⟨m,⟨o,es,ep,ho,r⟩,_⟩:=id I.loc;obtain⟨sl,hL⟩:=u.any ho I.free λz=>(qh _ z).2.1 rfl;exact I.step (ch:=ch) qh (λb o hL hb hc e n=>u.keep b o e n (λz=>(aP.mp (I.IS b z)).elim hL hb) hc) (λb o _ _ hc e n=>u.any e n hc) (λb o hc e n=>u.free b o e n hc) (λb o hc e=>u.there b o e hc) u.pF u.nO u.pG (λm' hm=>by
  obtain⟨o',es',qW,kq,r'⟩:=hm;rw[ho]at kq;cases kq;exact⟨_,es',qW,hL,r'⟩) ar hg
theorem Inv.turned (I:Inv X pins σ H s) (k:∀ b o,b≠it->s.heap.get? b=some o->h'.get? b=some o) (hn:H it=none) (hL:it≠X.env.locals)
 (h1:it∈X.ex \/ X.s₀.heap.objs.size<=it) (h2:∀ x c,X.env.cells.lookup x=some c->c≠it) (h3:∀ p∈X.pn++pins,p.1≠it):Inv X pins σ H { s with heap:=h',toks:=t' }:=by
 have Xr:∀ b u,H b=some u->b≠it:=λb u e z=>by rw[z,hn]at e;cases e
 refine I.step (g':=s.gens) (d':=s.drawn) (ch:=[it]) (λb hb=>?_) (λb o _ _ hc e _=>k b o (λz=>hc (by simp[z])) e) (λb o _ _ hc e _=>⟨o.slots,k b o (λz=>hc (by simp[z])) e⟩) (λ_ _ _ _ n=>n)
  (λb o hc e=>⟨o,k b o (λz=>hc (by simp[z])) e⟩) (λ_ _ e=>e) (λ_ _ _ e=>e) (λb ps e=>⟨#[],by rw[e];simp⟩) (λm hm=>?_) (λb u e=>?_) I.bare
 ·have e:b=it:=by simpa using hb
  subst e;exact⟨h1,hL,h2,h3⟩
 ·obtain⟨o,es,ep,ho,r⟩:=hm;exact⟨o,es,ep,k _ o (Ne.symm hL) ho,r⟩
 ·refine(I.ar b u e).eX (λc v hc q=>k c v ?_ q) (λ_ q=>q) λ_ _ q=>q;rcases hc with z|z
  ·rw[z];exact Xr b u e
  ·exact Xr c _ z
theorem Inv.tok (I:Inv X pins σ H s) (t:Nat):Inv X pins σ H { s with toks:=t }:=I.un (h':=s.heap) (t':=t) Un.refl I.ar
theorem Inv.kept {t':Nat}(I:Inv X pins σ H s) (k:∀ b u,s.heap.get? b=some u->h'.get? b=some u):Inv X pins σ H { s with heap:=h',toks:=t' }:=I.un (Un.kept k) (I.ar.kept k)
theorem Inv.laid {a:Addr}{o:HO}{t':Nat}(I:Inv X pins σ H s) (k:∀ b u,s.heap.get? b=some u->h'.get? b=some u) (hp:s.heap.objs.size<=a) (new:br X.prog X.w (upd H a o) h' a o) :
 Inv X pins σ (upd H a o) { s with heap:=h',toks:=t' }:=I.un (Un.laid k hp (I.ar.fresh hp)) (I.ar.laid k hp new)
theorem Inv.write {x e:Addr}{o:HO}{t':Nat}(I:Inv X pins σ H s) (mu:wX (H x)) (he:e=x \/ H e=some (.own x)) (k:∀ b u,b≠e->s.heap.get? b=some u->h'.get? b=some u) (vE:∃ u,h'.get? e=some u)
 (new:br X.prog X.w (upd H x o) h' x o):Inv X pins σ (upd H x o) { s with heap:=h',toks:=t' }:=I.un (Un.write mu he k vE) (I.ar.write mu he k vE new)
theorem Inv.zv {Xt:List (Addr×Obj)}(I:Inv X pins σ H s) (h:∀ p∈Xt,s.heap.get? p.1=some p.2 /\ H p.1=none /\ p.1≠X.env.locals /\ p.1∉X.fs /\ ∀ v,p.2.data≠.cell v):Inv X Xt σ H s :=
 ⟨I.ok,I.os,I.bare,I.base,I.loc,I.cell,I.free,I.nP,λp hp=>(bH.mp hp).elim (λz=>I.pin p (cH _ z)) (h p),I.ar,I.len⟩
theorem Ck (hN:N.Nodup) (a:N[i]?=some x) (b:N[j]?=some x):i=j:=by
 obtain⟨h1,e1⟩:=List.getElem?_eq_some_iff.mp a;obtain⟨h2,e2⟩:=List.getElem?_eq_some_iff.mp b;exact(List.getElem_inj hN).mp (e1.trans e2.symm)
theorem A7 {Q:Unit->Shared->Prop}(I:Inv X pins σ H s) (hN:X.N.Nodup) (hi:X.N[i]?=some x) (hx:Loc X.env.scope x) (r:RelV v u)
 (h:∀ s',Inv X pins (σ.set i (some v)) H s'->(∃ a,Heap.SameBut a s.heap s'.heap /\ (a=X.env.locals \/ X.env.cells.lookup x=some a))->Q () s') (hf:X.fn x=true \/ X.env.scope.names.lookup x=some .local:=by first|exact .inl rfl|exact .inr rfl|assumption):wpAny M A (storeName X.env x u) Q E s:=by
 obtain⟨m,hn,hl⟩:=id I.loc;have aai:(X.env.scope.kind==.class||(X.env.scope.kind==.module&&X.env.locals != X.env.globals))=false:=by rw[I.ok.kind];rfl
 have Xu:i<σ.length:=by rw[I.len];exact(List.getElem?_eq_some_iff.mp hi).1
 have uc:=I.uc;have tracked:∀ {a:Addr}{h':Heap},(∃ o,s.heap.get? a=some o /\ H a=none)->Heap.SameBut a s.heap h'->bV X.prog X.w H h':=λ{a h'} ha hs b ob e=>by
  obtain⟨_,_,Xv⟩:=ha;refine(I.ar b ob e).eX (λc w' hc q=>(hs.2 c ?_).trans q) (λ_ q=>q) λ_ _ q=>q;rintro rfl;rcases hc with rfl|hc
  ·rw[Xv]at e;cases e
  ·rw[Xv]at hc;cases hc
 rcases hx with hk|hk
 ·refine wpAny_storeName_local hk hn (λh' aaj hs=>?_) aai;obtain⟨oL,_,_,zw,_⟩:=id hn;refine h _ ⟨I.ok,I.os,I.bare,⟨λb o e n hb hx=>?_,λb o e n hb hx=>?_,I.base.free,λb o e hx=>?_,I.base.pF,I.base.nO,I.base.pG⟩,⟨_,aaj,λj y v' e1 e2 e3=>?_⟩,λy c e=>?_,I.free,I.nP,λp hp=>?_,tracked ⟨oL,zw,I.free⟩ hs,by simpa using I.len⟩ ⟨_,hs,.inl rfl⟩
  ·exact(hs.2 b (bL (dM (aK e) I.ok.above))).trans (I.base.keep b o e n hb hx)
  ·obtain⟨sl,e1⟩:=I.base.slot b o e n hb hx;exact⟨sl,(hs.2 b (bL (dM (aK e) I.ok.above))).trans e1⟩
  ·obtain⟨o',e1⟩:=I.base.there b o e hx;exact⟨o',(hs.2 b (bL (dM (aK e) I.ok.above))).trans e1⟩
  ·by_cases hj:j=i
   ·subst hj;rw[hi]at e1;cases e1;rw[vg Xu]at e2;cases e2;exact⟨u,r,.inl ⟨hk,by simp⟩⟩
   ·rw[sd (Ne.symm hj)]at e2;obtain⟨u',r',q⟩:=hl j y v' e1 e2 e3;refine⟨u',r',?_⟩;rcases q with⟨k,e⟩|⟨k,c,e,z⟩
    ·refine .inl ⟨k,?_⟩;have:y≠x:=λe=>hj (Ck hN e1 (e▸hi));simp[this,e]
    ·exact .inr ⟨k,c,e,z.sameBut hs (uc y c e)⟩
  ·obtain⟨w',z⟩:=I.cell y c e;exact⟨w',z.sameBut hs (uc y c e)⟩
  ·obtain⟨e,n,ne,nf,d⟩:=I.pin p hp;exact⟨(hs.2 p.1 ne).trans e,n,ne,nf,d⟩
 ·have IT:X.fn x=true:=by
   rcases hf with z|z
   ·exact z
   ·rw[z]at hk;cases hk
  obtain⟨c,hc⟩:=I.ok.has x (.inl hk);obtain⟨w',z⟩:=I.cell x c hc;refine wpAny_storeName_cell I.ok.kind hk hc z (λh' Xw hs=>?_);obtain⟨oc,Xx,aak⟩:=id z;refine h { s with heap:=h' } ⟨I.ok,I.os,I.bare,⟨λb o e n hb hx=>?_,λb o e n hb hx=>?_,I.base.free,λb o e hx=>?_,I.base.pF,I.base.nO,I.base.pG⟩,⟨m,hn.sameBut hs (Ne.symm (uc x c hc)),λj y v' e1 e2 e3=>?_⟩,λy c' e=>?_,I.free,I.nP,λp hp=>?_,tracked ⟨oc,Xx,I.nP x c hc⟩ hs,by simpa using I.len⟩ ⟨c,hs,.inr hc⟩
  ·exact(hs.2 b (bL (dM (aK e) (I.ok.wY x c IT hc)))).trans (I.base.keep b o e n hb hx)
  ·obtain⟨sl,e1⟩:=I.base.slot b o e n hb hx;exact⟨sl,(hs.2 b (bL (dM (aK e) (I.ok.wY x c IT hc)))).trans e1⟩
  ·obtain⟨o',e1⟩:=I.base.there b o e hx;exact⟨o',(hs.2 b (bL (dM (aK e) (I.ok.wY x c IT hc)))).trans e1⟩
  ·by_cases hj:j=i
   ·subst hj;rw[hi]at e1;cases e1;rw[vg Xu]at e2;cases e2;exact⟨u,r,.inr ⟨.inl hk,c,hc,Xw⟩⟩
   ·rw[sd (Ne.symm hj)]at e2;obtain⟨u',r',q⟩:=hl j y v' e1 e2 e3;refine⟨u',r',?_⟩;rcases q with q|⟨k,c',e,z'⟩
    ·exact .inl q
    ·refine .inr ⟨k,c',e,z'.sameBut hs ?_⟩;rintro rfl;exact hj (Ck hN e1 (I.ok.inj _ _ _ e hc▸hi))
  ·by_cases cu:c'=c
   ·subst cu;exact⟨_,Xw⟩
   ·obtain⟨w2,z2⟩:=I.cell y c' e;exact⟨w2,z2.sameBut hs cu⟩
  ·obtain⟨e,n,ne,nf,d⟩:=I.pin p hp;refine⟨(hs.2 p.1 ?_).trans e,n,ne,nf,d⟩;intro q;rw[q,Xx]at e;have q':oc=p.2:=Option.some.inj e;exact d w' (by rw[<-q'];exact aak)
theorem mF {Q:Unit->Shared->Prop}(I:Inv X pins σ H s) (hN:X.N.Nodup) (hi:X.N[i]?=some x) (hx:Loc X.env.scope x) (r:RelV v u)
 (h:∀ s',Inv X pins (σ.set i (some v)) H s'->Q () s') (hf:X.fn x=true \/ X.env.scope.names.lookup x=some .local:=by first|exact .inl rfl|exact .inr rfl|assumption):wpAny M A (storeName X.env x u) Q E s :=
 A7 I hN hi hx r (λs' I' _=>h s' I') hf
theorem Inv.IU {s':Shared}(I:Inv X pins σ H s) (ho:s'.os=s.os) (u:Un (nh X.stack) ch H H' s.heap s'.heap) (ar:bV X.prog X.w H' s'.heap) (hg:AllBare s'.gens)
 (qh:∀ b∈ch,(b∈X.ex \/ X.s₀.heap.objs.size<=b) /\ b≠X.env.locals /\ (∀ x c,X.env.cells.lookup x=some c->c≠b) /\ ∀ p∈X.pn++pins,p.1≠b):Inv X pins σ H' s':=by
 obtain⟨h',g',d',t',o'⟩:=s';have e:o'=s.os:=ho;subst e;exact I.call (g':=g') (t':=t') (d':=d') u ar hg qh
end
noncomputable abbrev XK:=Value->Option Addr->Hp->Prop
noncomputable abbrev St:=List (Option V)
noncomputable abbrev VK:=V->Hp->Prop
noncomputable abbrev TE:=St->Hp->VK->Prop
noncomputable abbrev TT:=St->Hp->(Bool->Hp->Prop)->Prop
noncomputable abbrev TA:=St->Hp->(List V->Hp->Prop)->Prop
structure Ends where
 nx:St->Hp->Prop
 rt:VK
 bk:St->Hp->Prop:=λ_ _=>False
 ct:St->Hp->Prop:=λ_ _=>False
noncomputable abbrev TS:=Ends->St->Hp->Prop
def EP (X:Cx) (pins:List (Addr×Obj)) (σ:St) (Q:VK) (u:Value) (s':Shared):Prop:=∃ v H',Inv X pins σ H' s' /\ RelV v u /\ Q v H'
def TP (X:Cx) (pins:List (Addr×Obj)) (σ:St) (Q:Bool->Hp->Prop) (b:Bool) (s':Shared):Prop:=∃ H',Inv X pins σ H' s' /\ Q b H'
def AP (X:Cx) (pins:List (Addr×Obj)) (σ:St) (Q:List V->Hp->Prop) (us:List Value) (s':Shared):Prop:=∃ vs H',Inv X pins σ H' s' /\ Vals vs us /\ Q vs H'
def SP (X:Cx) (pins:List (Addr×Obj)) (D:Ends) (f:Flow) (s':Shared):Prop :=
 match f with
 |.next=>∃ σ' H',Inv X pins σ' H' s' /\ D.nx σ' H'
 |.brk=>∃ σ' H',Inv X pins σ' H' s' /\ D.bk σ' H'
 |.cont=>∃ σ' H',Inv X pins σ' H' s' /\ D.ct σ' H'
 |.ret u=>∃ v σ' H',Inv X pins σ' H' s' /\ RelV v u /\ D.rt v H'
def PE (X:Cx) (e:Expr) (t:TE):Prop :=
 ∀ (pins:List (Addr×Obj)) (s:Shared) (σ:St) (H:Hp) (Q:VK),Inv X pins σ H s->t σ H Q->wpAny (model X.prog X.w) X.A (eval e X.env) (EP X pins σ Q) X.xe s
def PT (X:Cx) (e:Expr) (t:TT):Prop :=
 ∀ (pins:List (Addr×Obj)) (s:Shared) (σ:St) (H:Hp) (Q:Bool->Hp->Prop),Inv X pins σ H s->t σ H Q->wpAny (model X.prog X.w) X.A (isTrue e X.env (eval e X.env)) (TP X pins σ Q) X.xe s
def PW (X:Cx) (e:Expr) (t:TT):Prop :=
 ∀ (whole:Sem Value) (pins:List (Addr×Obj)) (s:Shared) (σ:St) (H:Hp) (Q:Bool->Hp->Prop),Inv X pins σ H s->t σ H Q->wpAny (model X.prog X.w) X.A (isTrue e X.env whole) (TP X pins σ Q) X.xe s
theorem PW.pt {X:Cx}{t:TT}(h:PW X e t):PT X e t:=h _
def PA (X:Cx) (es:List Expr) (t:TA):Prop :=
 ∀ (pos:Pos) (pins:List (Addr×Obj)) (s:Shared) (σ:St) (H:Hp) (Q:List V->Hp->Prop),Inv X pins σ H s->t σ H Q->wpAny (model X.prog X.w) X.A (spliced (backTo pos (starEach es X.env))) (AP X pins σ Q) X.xe s
def PS (X:Cx) (st:Stmt) (t:TS):Prop :=
 ∀ (pins:List (Addr×Obj)) (s:Shared) (σ:St) (H:Hp) (D:Ends),Inv X pins σ H s->t D σ H->wpAny (model X.prog X.w) X.A (exec st X.env) (SP X pins D) X.xe s
def dR (X:Cx) (st:List Stmt) (t:TS):Prop :=
 ∀ (pins:List (Addr×Obj)) (s:Shared) (σ:St) (H:Hp) (D:Ends),Inv X pins σ H s->t D σ H->wpAny (model X.prog X.w) X.A (execs st X.env) (SP X pins D) X.xe s
theorem ao {t:Sem α}{Q Q':α->Shared->Prop}(h:wpAny M A t Q E s) (hQ:∀ a s,Q a s->Q' a s):wpAny M A t Q' E s:=c6 h hQ λ_ _ x=>x
end L2
variable {X : L2.Cx}{σ : L2.St}{q : List L2.V -> L2.Hp -> L2.VK -> Prop}
namespace L2
open PySem PySem.Spec PyProof.Rows
section
def aal (i:Nat):TE:=λσ H Q=>∃ v,σ[i]?=some (some v) /\ Q v H
def tC (v:V):TE:=λ_ H Q=>Q v H
theorem J0 (hN:X.N[i]?=some x) (hv:vF X.env.scope x) (hd:(x==("__debug__":Str))=false:=by decide) (nj:(x==("__classdict__":Str))=false:=by decide):PE X (.Name x pos) (aal i):=by
 intro pins s σ H Q I h;obtain⟨v,e,h⟩:=h;obtain⟨m,hn,hl⟩:=I.loc;obtain⟨u,r,l⟩:=hl i x v hN e hv;have fin:EP X pins σ Q u s:=⟨v,H,I,r,h⟩;rcases l with⟨hk,hm⟩|⟨hk,c,hc,zx⟩
 ·exact Hj (wpAny_loadName_local I.ok.kind hk hn hm fin) hd
 ·rcases hk with hk|hk
  ·exact Hj (wpAny_loadName_cell I.ok.kind hk hc zx fin) hd
  ·exact Hj (wpAny_loadName_free I.ok.kind hk hc zx fin nj) hd
theorem Dq {i j pos}:PE X (.Constant (.int i) j pos) (tC (.int i)):=λ_ _ _ H _ I h=>wpAny_Constant_int ⟨.int i,H,I.tok _,⟨_,rfl⟩,h⟩
theorem Tp {b j pos}:PE X (.Constant (.bool b) j pos) (tC (.bl b)):=λ_ _ _ H _ I h=>Constant_bool ⟨.bl b,H,I,rfl,h⟩
theorem P0 {j pos}:PE X (.Constant .none j pos) (tC .aq):=λ_ _ _ H _ I h=>Constant_none ⟨.aq,H,I,rfl,h⟩
theorem P3 {x j pos}:PE X (.Constant (.str x) j pos) (tC (.str x)):=λ_ _ _ H _ I h=>Calls.Constant_str ⟨.str x,H,I.tok _,⟨_,rfl⟩,h⟩
def Gl (X:Cx) (x:Str):Prop:=X.env.kindOf x=some .globalImplicit
theorem Fy (I:Inv X pins σ H s) (hg:Gl X x) (hm:X.mg x=some u) (h:Q u s)
 (hd:(x==("__debug__":Str))=false:=by decide):wpAny (model X.prog X.w) X.A (eval (.Name x pos) X.env) Q E s :=
 Calls.Name_function_global I.ok.kind hg (Calls.loadGlobal_global (by rw[I.ok.glob];exact I.mod.glob.keeps I.bk) hm h) hd
theorem gM (I:Inv X pins σ H s) (hg:Gl X x) (hm:X.mg x=none) (hv:bootBuiltins x=some u) (h:Q u s)
 (hn:x ≠ "__name__":=by decide) (hd:(x==("__debug__":Str))=false:=by decide):wpAny (model X.prog X.w) X.A (eval (.Name x pos) X.env) Q E s:=by
 obtain⟨mb,h1,h2⟩:=I.mod.blt;exact Calls.Name_function_global I.ok.kind hg (Calls.loadGlobal_builtin (by rw[I.ok.glob];exact I.mod.glob.keeps I.bk) hm (by rw[I.ok.blt];exact h1.keeps I.bk) ((h2 x hn).trans hv) h) hd
theorem Nu (hg:Gl X x) (hm:X.mg x=some u) (r:RelV v u) (hd:(x==("__debug__":Str))=false:=by decide):PE X (.Name x pos) (tC v):=
 λ_ _ _ H _ I h=>Fy I hg hm ⟨v,H,I,r,h⟩ hd
theorem Fz (hg:Gl X x) (hm:X.mg x=none) (hv:bootBuiltins x=some u) (r:RelV v u) (hn:x ≠ "__name__":=by decide) (hd:(x==("__debug__":Str))=false:=by decide):PE X (.Name x pos) (tC v):=
 λ_ _ _ H _ I h=>gM I hg hm hv ⟨v,H,I,r,h⟩ hn hd
variable {a b : Expr} {ta tb : TE} 
noncomputable def tB (t:TE):TT:=λσ H Q=>t σ H λx H1=>∃ c,x=.bl c /\ Q c H1
theorem P4 {t:TE}(h:PE X e t) (he:∀ whole,isTrue e X.env whole=(do let v <-whole;standAt e.pos;holding [v] (truthy v)):=by intro _;rfl):PT X e (tB t):=by
 intro pins s σ H Q I hw;refine WB (ao (h pins s σ H _ I hw) λv s1 ⟨x,H1,I1,r1,q1⟩=>?_) (he _);obtain⟨d,rfl,q⟩:=q1;cases r1;exact k7 ⟨H1,I1,q⟩
variable {tA zy : TT} {rest : List Expr}
noncomputable def aam (t u:TT):TT:=λσ H Q=>t σ H λc H1=>if c=true then u σ H1 Q else Q false H1
noncomputable def aan (t u:TT):TT:=λσ H Q=>t σ H λc H1=>if c=true then Q true H1 else u σ H1 Q
noncomputable def aao (t:TT):TT:=λσ H Q=>t σ H λc H1=>Q (!c) H1
theorem Nv (ha:PT X a tA):PW X (.BoolOp .And [a] pos) tA:=by
 intro wh pins s σ H Q I h;refine isTrue_and (ao (ha pins s σ H Q I h) λc s1 e=>?_);cases c with
 |true=>exact isTrue_and_nil e
 |false=>exact e
theorem P5 (ha:PT X a tA):PW X (.BoolOp .Or [a] pos) tA:=by
 intro wh pins s σ H Q I h;refine isTrue_or (ao (ha pins s σ H Q I h) λc s1 e=>?_);cases c with
 |false=>exact isTrue_or_nil e
 |true=>exact e
theorem P6 (ha:PT X a tA) (hb:PW X (.BoolOp .And (b::rest) pos) zy):PW X (.BoolOp .And (a::b::rest) pos) (aam tA zy):=by
 intro wh pins s σ H Q I h;refine isTrue_and (ao (ha pins s σ H _ I h) λc s1 ⟨H1,I1,q1⟩=>?_);cases c with
 |true=>exact hb wh pins s1 σ H1 Q I1 q1
 |false=>exact⟨H1,I1,q1⟩
theorem Tq (ha:PT X a tA) (hb:PW X (.BoolOp .Or (b::rest) pos) zy):PW X (.BoolOp .Or (a::b::rest) pos) (aan tA zy):=by
 intro wh pins s σ H Q I h;refine isTrue_or (ao (ha pins s σ H _ I h) λc s1 ⟨H1,I1,q1⟩=>?_);cases c with
 |true=>exact⟨H1,I1,q1⟩
 |false=>exact hb wh pins s1 σ H1 Q I1 q1
theorem P7 (ha:PT X a tA):PT X (.UnaryOp .Not a pos) (aao tA):=by
 intro pins s σ H Q I h;exact isTrue_not (ha pins s σ H (λc H1=>Q (!c) H1) I h)
def aap (ta tb:TE):TE:=λσ H Q=>ta σ H λx H1=>∃ c,x=.bl c /\ if c=true then tb σ H1 Q else Q (.bl false) H1
def aaq (ta:TE):TE:=λσ H Q=>ta σ H λx H1=>∃ c,x=.bl c /\ Q (.bl (!c)) H1
theorem P8 {op}{t:TE}(h:PE X a t):PE X (.BoolOp op [a] pos) t:=λpins s σ H Q I hw=>BoolOp_one (h pins s σ H Q I hw)
theorem P9 (ha:PE X a ta) (hb:PE X (.BoolOp .And (b::rest) pos) tb):PE X (.BoolOp .And (a::b::rest) pos) (aap ta tb):=by
 intro pins s σ H Q I h;refine BoolOp_and (ao (ha pins s σ H _ I h) λv s1 ⟨x,H1,I1,r1,q1⟩=>?_);obtain⟨c,rfl,q1⟩:=q1;cases r1;refine k7 ?_;cases c with
 |true=>exact hb pins s1 σ H1 Q I1 q1
 |false=>exact⟨.bl false,H1,I1,rfl,q1⟩
theorem Ra (ha:PE X a ta):PE X (.UnaryOp .Not a pos) (aaq ta):=by
 intro pins s σ H Q I h;refine UnaryOp_ (ao (ha pins s σ H _ I h) λv s1 ⟨x,H1,I1,r1,q1⟩=>?_);obtain⟨c,rfl,q1⟩:=q1;cases r1;exact not_of (k7 ⟨.bl (!c),H1,I1,rfl,q1⟩)
def aar (t:TT) (ta tb:TE):TE:=λσ H Q=>t σ H λc H1=>if c=true then ta σ H1 Q else tb σ H1 Q
theorem J1 (hc:PT X c tA) (ha:PE X a ta) (hb:PE X b tb):PE X (.IfExp c a b pos) (aar tA ta tb):=by
 intro pins s σ H Q I h;refine wpAny_IfExp (ao (hc pins s σ H _ I h) λd s1 ⟨H1,I1,q1⟩=>?_);cases d with
 |true=>exact ha pins s1 σ H1 Q I1 q1
 |false=>exact hb pins s1 σ H1 Q I1 q1
end
def bu (K:PySem.W.Frag) (H:Hp) (a:Addr) (xs:List V):Prop :=
 Rd H a (.lst xs) \/
  ∃ (o:Obj) (af:Array Value) (n:Nat),K.lookup a=some o /\ o.cls=.type "list" /\ o.dict=none /\ o.data=.seq af n /\ af.size<=sizeLine /\ Vals xs af.toList
def aV (K:PySem.W.Frag) (H:Hp) (a:Addr) (xs:List V):Prop :=
 Rd H a (.tup xs) \/
  ∃ (o:Obj) (af:Array Value) (n:Nat),K.lookup a=some o /\ o.cls=.type "tuple" /\ o.data=.seq af n /\ af.size<=sizeLine /\ Vals xs af.toList
noncomputable def aas:Value->Option V
 |.none=>some .aq
 |.bool b=>some (.bl b)
 |.int i _=>some (.int i)
 |.str x _=>some (.str x)
 |.bytes b _=>some (.kn b)
 |.float b _=>some (.sj b)
 |.ref a=>some (.ref a)
 |.type n=>some (.ty n)
 |_=>none
theorem RelV.abs {x:V}(r:RelV x u):aas u=some x:=by
 cases x with
 |aq=>cases r;rfl
 |bl _=>cases r;rfl
 |int _=>obtain⟨t,rfl⟩:=r;rfl
 |str _=>obtain⟨t,rfl⟩:=r;rfl
 |kn _=>obtain⟨t,rfl⟩:=r;rfl
 |sj _=>obtain⟨t,rfl⟩:=r;rfl
 |ref _=>cases r;rfl
 |ty _=>cases r;rfl
theorem RelV.inj {x y:V}{u:Value}(r:RelV x u) (q:RelV y u):x=y:=Option.some.inj (r.abs.symm.trans q.abs)
theorem Vals.inj:∀ {xs ys:List V}{us:List Value},Vals xs us->Vals ys us->xs=ys
 |_,_,_,.nil,.nil=>rfl
 |_,_,_,.cons r t,.cons r' t'=>by rw[r.inj r',Vals.inj t t']
section
variable {xs ys : List V}
theorem bu.of (h:H a=some (.lst xs)):bu K H a xs:=.inl (.inl h)
theorem aV.of (h:H a=some (.tup xs)):aV K H a xs:=.inl (.inl h)
theorem Inv.list (I:Inv X pins σ H s) (h:bu X.K H a xs):∃ af:List Value,Vals xs af /\ PlainL s.heap a af.toArray /\ xs.length<=sizeLine:=by
 rcases h with h|⟨o,af,n,hk,hc,hd,hs,hz,r⟩
 ·obtain⟨z,af,n,r,e⟩:=h.ok I.ar;exact⟨af,r,⟨_,n,e,rfl,rfl,rfl⟩,z⟩
 ·refine⟨af.toList,r,⟨o,n,I.dz a o hk,hc,hd,by simpa using hs⟩,?_⟩;have e:=r.length;simp only[km]at e;omega
theorem Inv.tuple (I:Inv X pins σ H s) (h:aV X.K H a xs):∃ af:List Value,Vals xs af /\ IsTup s.heap a af.toArray /\ xs.length<=sizeLine:=by
 rcases h with h|⟨o,af,n,hk,hc,hs,hz,r⟩
 ·obtain⟨z,af,r,p⟩:=h.ok I.ar;exact⟨af,r,p,z⟩
 ·refine⟨af.toList,r,⟨o,I.dz a o hk,hc,n,by simpa using hs⟩,?_⟩;have e:=r.length;simp only[km]at e;omega
theorem Inv.aat (I:Inv X pins σ H s) (h:bu X.K H a xs) (h':bu X.K H a ys):xs=ys:=by
 obtain⟨af,r,⟨o,n,e,_,_,d⟩,_⟩:=I.list h;obtain⟨its',r',⟨o',n',e',_,_,d'⟩,_⟩:=I.list h';rw[e]at e';cases e';rw[d]at d';injection d' with d1 _;have:af=its':=by simpa using congrArg Array.toList d1
 subst this;exact r.inj r'
theorem Inv.IV (I:Inv X pins σ H s) (h:aV X.K H a xs) (h':aV X.K H a ys):xs=ys:=by
 obtain⟨af,r,⟨o,e,_,n,d⟩,_⟩:=I.tuple h;obtain⟨its',r',⟨o',e',_,n',d'⟩,_⟩:=I.tuple h';rw[e]at e';cases e';rw[d]at d';injection d' with d1 _;have:af=its':=by simpa using congrArg Array.toList d1
 subst this;exact r.inj r'
end
noncomputable abbrev Cx.qi (X:Cx) (E:Value->Shared->Prop):Cx:={ X with xe:=E }
noncomputable abbrev Cx.vH (X:Cx):Cx:=X.qi λ_ _=>False
theorem Cx.Ok.qi {X:Cx}(ok:X.Ok) (E:Value->Shared->Prop):(X.qi E).Ok :=
 ⟨ok.mod,ok.kind,ok.glob,ok.blt,ok.above,ok.inj,ok.has,ok.wY,ok.hd,ok.frames,ok.zu,ok.sk,ok.bs,ok.ua,ok.wZ,ok.ub,ok.pH,ok.vG⟩
theorem Cx.Ok.sr (ok:(X.qi E).Ok):X.Ok :=
 ⟨ok.mod,ok.kind,ok.glob,ok.blt,ok.above,ok.inj,ok.has,ok.wY,ok.hd,ok.frames,ok.zu,ok.sk,ok.bs,ok.ua,ok.wZ,ok.ub,ok.pH,ok.vG⟩
theorem Inv.qi (I:Inv X pins σ H s) (E:Value->Shared->Prop):Inv (X.qi E) pins σ H s:=⟨I.ok.qi E,I.os,I.bare,I.base,I.loc,I.cell,I.free,I.nP,I.pin,I.ar,I.len⟩
theorem Inv.sr (I:Inv (X.qi E) pins σ H s):Inv X pins σ H s:=⟨I.ok.sr,I.os,I.bare,I.base,I.loc,I.cell,I.free,I.nP,I.pin,I.ar,I.len⟩
theorem SP.sr {D:Ends}{f:Flow}{s':Shared}(h:SP (X.qi E) pins D f s'):SP X pins D f s':=by
 cases f with
 |next=>obtain⟨σ',H',I,q⟩:=h;exact⟨σ',H',I.sr,q⟩
 |brk=>obtain⟨σ',H',I,q⟩:=h;exact⟨σ',H',I.sr,q⟩
 |cont=>obtain⟨σ',H',I,q⟩:=h;exact⟨σ',H',I.sr,q⟩
 |ret u=>obtain⟨v,σ',H',I,r,q⟩:=h;exact⟨v,σ',H',I.sr,r,q⟩
theorem dR.vH {st:List Stmt}{t:TS}(h:dR X.vH st t):dR X st t:=λpins s σ H D I hw =>
 c6 (h pins s σ H D (I.qi _) hw) (λ_ _ q=>q.sr) λ_ _ z=>False.elim z
section
variable {rest : List Stmt} {t u : TS} {te : TE} 
def Xy:TS:=λD σ H=>D.nx σ H
def aau (t u:TS):TS:=λD σ H=>t { D with nx:=u D } σ H
theorem Nw:dR X [] Xy:=λ_ _ σ H _ I h=>yE ⟨σ,H,I,h⟩
theorem J2 (h1:PS X st t) (h2:dR X rest u):dR X (st::rest) (aau t u):=by
 intro pins s σ H D I h;refine Vs (ao (h1 pins s σ H { D with nx:=u D } I h) λf s1 q=>?_);cases f with
 | next =>
   obtain⟨σ',H',I',q⟩:=q;exact h2 pins s1 σ' H' D I' q
 |ret v=>exact q
 |brk=>exact q
 |cont=>exact q
theorem Nx (h1:PS X st t):dR X [st] t:=by
 intro pins s σ H D I h;refine Vs (ao (h1 pins s σ H D I h) λf s1 q=>?_);cases f with
 |next=>exact yE q
 |ret v=>exact q
 |brk=>exact q
 |cont=>exact q
theorem Ny:PS X (.Pass pos) Xy:=λ_ _ σ H _ I h=>wpAny_Pass ⟨σ,H,I,h⟩
theorem Inv.quiet (I:Inv X pins σ H s):interactive X.env=false:=by simp[interactive,I.ok.kind]
def aav (te:TE):TS:=λD σ H=>te σ H λ_ H1=>D.nx σ H1
theorem Nz (he:PE X e te) (hs:swapsWith e none pos.line X.env=pure false:=by rfl):PS X (.Expr e pos) (aav te):=by
 intro pins s σ H D I h;exact wpAny_Expr_any (ao (he pins s σ H _ I h) λv s1 ⟨x,H1,I1,r1,q1⟩=>⟨σ,H1,I1,q1⟩) I.quiet hs
def aaw (te:TE):TS:=λD σ H=>te σ H D.rt
theorem Rb (he:PE X e te):PS X (.Return (some e) pos) (aaw te):=by
 intro pins s σ H D I h;exact wpAny_Return_some (ao (he pins s σ H _ I h) λv s1 ⟨x,H1,I1,r1,q1⟩=>⟨x,σ,H1,I1,r1,q1⟩)
def aax (c:TT) (t u:TS):TS:=λD σ H=>c σ H λb H1=>if b=true then t D σ H1 else u D σ H1
theorem Tr {a b:List Stmt}{tc:TT}(hc:PT X c tc) (ha:dR X a t) (hb:dR X b u):PS X (.If c a b pos) (aax tc t u):=by
 intro pins s σ H D I h;refine wpAny_If (ao (hc pins s σ H _ I h) λd s1 ⟨H1,I1,q1⟩=>?_);cases d with
 |true=>exact ha pins s1 σ H1 D I1 q1
 |false=>exact hb pins s1 σ H1 D I1 q1
end
noncomputable abbrev TG:=V->St->Hp->(St->Hp->Prop)->Prop
noncomputable abbrev qX:=List V->St->Hp->(St->Hp->Prop)->Prop
def PG (X:Cx) (target:Expr) (t:TG):Prop :=
 ∀ (pins:List (Addr×Obj)) (s:Shared) (σ:St) (H:Hp) (v:V) (u:Value) (Q:St->Hp->Prop),Inv X pins σ H s->RelV v u->t v σ H Q ->
  wpAny (model X.prog X.w) X.A (assign target X.env u) (λ_ s'=>∃ σ' H',Inv X pins σ' H' s' /\ Q σ' H') X.xe s
def qj (X:Cx) (ts:List Expr) (t:qX):Prop :=
 ∀ (pins:List (Addr×Obj)) (s:Shared) (σ:St) (H:Hp) (vs:List V) (us:List Value) (Q:St->Hp->Prop),Inv X pins σ H s->Vals vs us->t vs σ H Q ->
  wpAny (model X.prog X.w) X.A (assignInOrder ((assignEach ts X.env).map (·.2)) us) (λ_ s'=>∃ σ' H',Inv X pins σ' H' s' /\ Q σ' H') X.xe s
noncomputable abbrev IW:=V->V->V->Hp->(Hp->Prop)->Prop
def Xz (X:Cx) (t:IW):Prop :=
 ∀ (pins:List (Addr×Obj)) (s:Shared) (σ:St) (H:Hp) (o i v:V) (ov iv u:Value) (Q:Hp->Prop),Inv X pins σ H s->RelV o ov->RelV i iv->RelV v u->t o i v H Q ->
  wpAny (model X.prog X.w) X.A (setItem ov iv u) (λ_ s'=>∃ H',Inv X pins σ H' s' /\ Q H') X.xe s
def IZ (i:Nat):TG:=λv σ H Q=>Q (σ.set i (some v)) H
theorem BK (hN:X.N.Nodup) (hi:X.N[i]?=some x) (hx:Loc X.env.scope x) (hf:X.fn x=true \/ X.env.scope.names.lookup x=some .local:=by first|exact .inl rfl|exact .inr rfl|assumption):PG X (.Name x pos) (IZ i):=by
 intro pins s σ H v u Q I r h;exact Vt (mF I hN hi hx r (λs' I'=>⟨_,H,I',h⟩) hf)
noncomputable def aay:qX:=λvs σ H Q=>vs=[] /\ Q σ H
noncomputable def aaz (t:TG) (u:qX):qX:=λvs σ H Q=>∃ v r,vs=v::r /\ t v σ H λσ' H'=>u r σ' H' Q
theorem FA:qj X [] aay:=by
 intro pins s σ H vs us Q I r h;obtain⟨e,h⟩:=h;subst e;cases r;exact WC ⟨σ,H,I,h⟩
theorem Ac {es:List Expr}{t:TG}{u:qX}(h1:PG X e t) (h2:qj X es u)
 (hs:(assignEach (e::es) X.env).map (·.2)=assign e X.env::(assignEach es X.env).map (·.2):=by rfl):qj X (e::es) (aaz t u):=by
 intro pins s σ H vs us Q I r h;obtain⟨v,vr,e1,h⟩:=h;subst e1;cases r with
 | cons r rr =>
   rw[hs];refine HZ (ao (h1 pins s σ H _ _ _ I r h) λ_ s1 ⟨σ1,H1,I1,q1⟩=>?_);exact h2 pins s1 σ1 H1 _ _ Q I1 rr q1
def aaA (K:PySem.W.Frag) (n:Nat) (t:qX):TG:=λv σ H Q=>∃ a xs,v=.ref a /\ aV K H a xs /\ xs.length=n /\ t xs σ H Q
theorem J3 {es:List Expr}{t:qX}(hc:X.calm=true) (h:qj X es t)
 (hn:(assignEach es X.env).length=n:=by rfl) (w8:(assignEach es X.env).findIdx? (·.1)=none:=by rfl):PG X (.Tuple es k pos) (aaA X.K n t):=by
 intro pins s σ H v u Q I r hw;obtain⟨a,xs,e1,hq,hl,hw⟩:=hw;subst e1;cases r;obtain⟨af,rv,ht,hz⟩:=I.tuple hq;refine assign_Tuple_tuple (I.ok.hd hc) ht (by simp[hn,<-hl,rv.length]) w8 λh' hx=>?_;have I1:Inv X pins σ H { s with heap:=h' }:=I.kept (t':=s.toks) λb o e=>hx b o (bL (aK e)) e;exact h pins _ σ H xs _ Q I1 (by simpa using rv) hw
def aaB (to ti:TE) (t:IW):TG:=λv σ H Q=>to σ H λo H1=>ti σ H1 λi H2=>t o i v H2 λH3=>Q σ H3
theorem Rc {o i:Expr}{to ti:TE}{t:IW}(ho:PE X o to) (hi:PE X i ti) (hs:Xz X t)
 (ha:∀ v,assign (.Subscript o i pos) X.env v=(do
  let ov <-holding [v] (eval o X.env)
  let iv <-holding [v,ov] (eval i X.env)
  standAt pos
  holding [v,ov,iv] (setItem ov iv v)
  release [v,ov,iv] []):=by intro _;rfl):PG X (.Subscript o i pos) (aaB to ti t):=by
 intro pins s σ H v u Q I r h;rw[ha];refine ae (cn (ao (ho pins s σ H _ I h) λov s1 ⟨x,H1,I1,r1,q1⟩=>?_));refine ae (cn (ao (hi pins s1 σ H1 _ I1 q1) λiv s2 ⟨y,H2,I2,r2,q2⟩=>?_));refine ae (qM (ae (cn (ao (hs pins s2 σ H2 x y v ov iv u _ I2 r1 r2 r q2) λ_ s3 ⟨H3,I3,q3⟩=>?_))));exact wpAny_release ⟨σ,H3,I3,q3⟩
def zz (te:TE) (g:TG):TS:=λD σ H=>te σ H λx H1=>g x σ H1 D.nx
theorem J4 {te:TE}{g:TG}(he:PE X e te) (hg:PG X tg g) (hs:swapsWithSole [tg] e pos.line X.env=pure false:=by rfl) (hw:swappedStores [tg] e X.env=pure none:=by rfl)
 (h1:(assignEach [tg] X.env).map (·.2)=[assign tg X.env]:=by rfl):PS X (.Assign [tg] e pos) (zz te g):=by
 intro pins s σ H D I h;refine wpAny_Assign_stores (ao (he pins s σ H _ I h) λv s1 ⟨x,H1,I1,r1,q1⟩=>?_) hs hw;rw[h1];exact ao (hg pins s1 σ H1 x v _ I1 r1 q1) λ_ s2 q=>q
theorem Re {te:TE}{pos':Pos}(hN:X.N.Nodup) (hi:X.N[i]?=some x) (hx:Loc X.env.scope x) (he:PE X e te) (hs:swapsWith e (some (.Name x pos')) pos.line X.env=pure false:=by rfl) (hf:X.fn x=true \/ X.env.scope.names.lookup x=some .local:=by first|exact .inl rfl|exact .inr rfl|assumption) :
 PS X (.Assign [.Name x pos'] e pos) (zz te (IZ i)):=by
 intro pins s σ H D I h;refine wpAny_Assign_Name (ao (he pins s σ H _ I h) λv s1 ⟨y,H1,I1,r1,q1⟩=>?_) hs;exact mF I1 hN hi hx r1 (λs2 I2=>⟨_,H1,I2,q1⟩) hf
def XA (i j:Nat) (ta:TA):TS:=λD σ H=>ta σ H λvs H1=>∃ v w,vs=[v,w] /\ D.nx ((σ.set i (some v)).set j (some w)) H1
theorem Rf {y:Str}{a b:Expr}{ta:TA}{px py pt:Pos}{kt k2 eZ}(hc:X.calm=true) (hN:X.N.Nodup) (hi:X.N[i]?=some x) (hj:X.N[j]?=some y) (w9:i≠j)
 (hx:X.env.scope.names.lookup x=some .local) (hy:X.env.scope.names.lookup y=some .local) (ha:PA X [a,b] ta)
 (hw:swappedStores [.Tuple [.Name x px,.Name y py] kt pt] (.Tuple [a,b] k2 eZ) X.env=pure (some [x,y]))
 (hs:swapsWithSole [.Tuple [.Name x px,.Name y py] kt pt] (.Tuple [a,b] k2 eZ) pos.line X.env=pure false:=by rfl) :
 PS X (.Assign [.Tuple [.Name x px,.Name y py] kt pt] (.Tuple [a,b] k2 eZ) pos) (XA i j ta):=by
 intro pins s σ H D I h;rw[exec_Assign_arm];refine ae (qM ?_);rw[hs];refine ae (ag ?_);rw[if_neg (by decide)];refine ae (Tuple_ (ao (ha _ pins s σ H _ I h) λus s1 ⟨vs,H1,I1,r1,q1⟩=>?_));obtain⟨v,w,e1,q1⟩:=q1;subst e1;obtain⟨u1,u2,rfl,rv,xa⟩:∃ u1 u2,us=[u1,u2] /\ RelV v u1 /\ RelV w u2:=by
  cases r1 with
  | cons p q =>
    cases q with
    | cons p' q' =>
      cases q';exact⟨_,_,rfl,p,p'⟩
 refine cS ?_ (by show 2<=sizeLine;decide);have I2:Inv X pins σ H1 { s1 with heap:=s1.heap.push { cls:=.type "tuple",data:=.seq [u1,u2].toArray } }:=I1.kept (t':=s1.toks) λb o e=>aC _ e;rw[hw];refine ae (ag ?_);show wpAny (model X.prog X.w) X.A (do rule "assign.swapped-stores";let items <-unpackItems (.ref s1.heap.objs.size) 2 none;assignInOrder [λv=>bindName X.env y v,λv=>bindName X.env x v] items.reverse;pure Flow.next) _ _ _;refine ae (h9 (ae (unpackItems_tuple (items:=#[u1,u2]) (I.ok.hd hc) (IsTup.new s1.heap _) λh' aaC=>?_)));have I3:=I2.kept (h':=h') (t':=s1.toks) λb o e=>aaC b o (bL (aK e)) e;show wpAny _ _ (assignInOrder [λv=>bindName X.env y v,λv=>bindName X.env x v] [u2,u1] >>= λ_=>pure Flow.next) _ _ _;refine ae (HZ (Vu (mF I3 hN hj (.inl hy) xa (λs2 I4=>?_) (.inr hy))));refine HZ (Vu (mF I4 hN hi (.inl hx) rv (λs3 I5=>WC (ag ?_)) (.inr hx)));rw[List.set_comm _ _ (Ne.symm w9)]at I5;exact⟨_,H1,I5,q1⟩
def XB (c:TT) (tb:TS):TS:=λD σ H=>∃ W:Nat->St->Hp->Prop,(∃ m,W m σ H) /\ ∀ m σ H,W m σ H ->
 c σ H λb H1=>if b=true then ∃ N:St->Hp->Prop,(∀ σ' H',N σ' H'->∃ m',m'<m /\ W m' σ' H') /\ tb { D with nx:=N,ct:=N,bk:=D.nx } σ H1 else D.nx σ H1
theorem J5 {body:List Stmt}{tc:TT}{tb:TS}(hp:PassesOwn (model X.prog X.w) X.A X.env X.xe) (hc:PT X c tc) (hb:dR X body tb):PS X (.While c body [] pos) (XB tc tb):=by
 intro pins s σ H D I h;obtain⟨W,⟨m0,w0⟩,turn⟩:=h;refine wpAny_While (codeAny_whileLoop (λn s'=>∃ σ' H',Inv X pins σ' H' s' /\ W n σ' H') ?_ m0 ⟨σ,H,I,w0⟩);rintro n s1 ⟨σ1,H1,I1,w1⟩;refine tP hp (ao (hc pins s1 σ1 H1 _ I1 (turn n σ1 H1 w1)) λb s2 ⟨H2,I2,q2⟩=>?_);cases b with
 | true =>
   obtain⟨N,hN,q2⟩:=q2;rw[if_pos rfl];refine tP hp (ao (hb pins s2 σ1 H2 _ I2 q2) λf s3 q3=>?_);cases f with
   | next =>
     obtain⟨σ3,H3,I3,n3⟩:=q3;obtain⟨m',hm,w3⟩:=hN σ3 H3 n3;exact⟨m',hm,σ3,H3,I3,w3⟩
   | cont =>
     obtain⟨σ3,H3,I3,n3⟩:=q3;obtain⟨m',hm,w3⟩:=hN σ3 H3 n3;exact⟨m',hm,σ3,H3,I3,w3⟩
   |brk=>exact q3
   |ret v=>exact q3
 | false =>
   rw[if_neg b9];exact yE ⟨σ1,H2,I2,q2⟩
structure It where
 go:Nat->Hp->Prop
 xb:Nat->Hp->V->Hp->Prop
 stop:Nat->Hp->Prop
def c7 (X:Cx) (pins:List (Addr×Obj)) (H:Hp) (b:Addr):Prop :=
 H b=none /\ b≠X.env.locals /\ b∉X.fs /\ (b∈X.ex \/ X.s₀.heap.objs.size<=b) /\ (∀ x c,X.env.cells.lookup x=some c->c≠b) /\ ∀ p∈X.pn++pins,p.1≠b
theorem Inv.vI {b:Addr}(I:Inv X pins σ H s) (hb:s.heap.objs.size<=b) (hn:H' b=none):c7 X pins H' b:=by
 refine⟨hn,vc (dM I.lt hb),I.aaf hb,.inr (bc I.sz hb),λx c e z=>?_,λp hp z=>?_⟩
 ·obtain⟨v,q⟩:=I.cell x c e;exact absurd (dM q.lt (by rw[z];exact hb)) (dO _)
 ·exact absurd (dM (aK (I.pin p hp).1) (by rw[z];exact hb)) (dO _)
structure Turn (P:Program) (w:World) (K:PySem.W.Frag) (tg:Expr) (J:It) (fp:List Addr) (it:Addr) (tn:Nat->Heap->Prop):Prop where
 mem:it∈fp
 obj:∀ i h,tn i h->∀ b∈fp,∃ o,h.get? b=some o /\ ∀ v,o.data≠.cell v
 keep:∀ i h h',tn i h->(∀ b∈fp,∀ o,h.get? b=some o->h'.get? b=some o)->tn i h'
 item:∀ (X:Cx),X.prog=P->X.w=w->X.K=K->X.calm=true->∀ (i:Nat) (pins:List (Addr×Obj)) (s:Shared) (σ:St) (H:Hp) (E:Value->Shared->Prop),Inv X pins σ H s->(∀ b∈fp,c7 X pins H b)->tn i s.heap->J.go i H ->
  wpAny (model P w) X.A (pyNext (.ref it)) (λr s1=>∃ u,r=some u /\
   wpAny (model P w) X.A (letOwnedTupleGo tg (.ref it) u) (λ_ s2=>∃ x H',Inv X pins σ H' s2 /\ RelV x u /\ J.xb i H x H' /\ tn (i+1) s2.heap /\ ∀ b∈fp,H' b=none) E s1) E s
 done:∀ (X:Cx),X.prog=P->X.w=w->X.K=K->X.calm=true->∀ (i:Nat) (pins:List (Addr×Obj)) (s:Shared) (σ:St) (H:Hp) (E:Value->Shared->Prop),Inv X pins σ H s->(∀ b∈fp,c7 X pins H b)->tn i s.heap->J.stop i H ->
  wpAny (model P w) X.A (pyNext (.ref it)) (λr s1=>r=none /\ Inv X pins σ H s1) E s
 self:∀ (A:Around) (i:Nat) (s:Shared) (Q:Value->Shared->Prop) (E:Value->Shared->Prop),tn i s.heap->Q (.ref it) s->wpAny (model P w) A (pyIter (.ref it)) Q E s
noncomputable abbrev TI:=St->Hp->(It->Hp->Prop)->Prop
def XC (X:Cx) (pins:List (Addr×Obj)) (σ:St) (tg:Expr) (R:It->Hp->Prop) (vJ:Value) (s2:Shared):Prop :=
 ∃ (it:Addr) (fp:List Addr) (tn:Nat->Heap->Prop) (J:It) (H':Hp),vJ=.ref it /\ Inv X pins σ H' s2 /\ Turn X.prog X.w X.K tg J fp it tn /\ tn 0 s2.heap /\ (∀ b∈fp,c7 X pins H' b) /\ R J H'
def PI (X:Cx) (tg iter:Expr) (wi:TI):Prop :=
 ∀ (pins:List (Addr×Obj)) (s:Shared) (σ:St) (H:Hp) (R:It->Hp->Prop),Inv X pins σ H s->wi σ H R ->
  wpAny (model X.prog X.w) X.A (eval iter X.env) (λv s1=>wpAny (model X.prog X.w) X.A (pyIter v) (XC X pins σ tg R) X.xe s1) X.xe s
theorem J6 {n:String}{vs:Array Value}{Q:Unit->Shared->Prop}(ho:s.heap.get? it=some o) (hc:o.cls=.type n) (hd:o.data=.fields vs)
 (hn:["enumerate", "zip", "dict_itemiterator", "dict_reverseitemiterator", "odict_iterator", "itertools.zip_longest", "itertools.pairwise"].contains n=false) (hQ:Q () s):wpAny M A (letOwnedTupleGo tg (.ref it) u) Q E s:=by
 unfold letOwnedTupleGo;cases tg<;>first
  |exact ag hQ
  |(cases u<;>first
   |exact ag hQ
   | (refine ae (u4 ho ?_)
      rw[hc,hd];show wpAny M A (if (["enumerate", "zip", "dict_itemiterator", "dict_reverseitemiterator", "odict_iterator", "itertools.zip_longest", "itertools.pairwise"].contains n&&vs[0]?==some (rawInt _))=true then _ else _) Q E s;rw[if_neg (by intro h;rw[hn,HF]at h;cases h)];exact ag hQ))
noncomputable def zA (K:PySem.W.Frag) (a:Addr):It :=
 ⟨λi H=>∃ xs x,bu K H a xs /\ xs[i]?=some x,λi H x H'=>H'=H /\ ∀ xs,bu K H a xs->xs[i]?=some x,λi H=>∃ xs,bu K H a xs /\ xs.length<=i⟩
noncomputable def Ka (K:PySem.W.Frag) (a:Addr):It :=
 ⟨λi H=>∃ xs x,aV K H a xs /\ xs[i]?=some x,λi H x H'=>H'=H /\ ∀ xs,aV K H a xs->xs[i]?=some x,λi H=>∃ xs,aV K H a xs /\ xs.length<=i⟩
noncomputable def xc (lo:Int) (n:Nat):It:=⟨λi _=>i<n,λi H x H'=>H'=H /\ x=.int (lo+i),λi _=>n<=i⟩
theorem A8 (a it:Addr):Turn P w K tg (zA K a) [it] it (λi h=>h.IsListIter it a i) where
 mem:=by simp
 obj:=λi h st b hb=>by
  have e:b=it:=by simpa using hb
  subst e;obtain⟨o,e,c,d⟩:=st;exact⟨o,e,λv z=>by rw[d]at z;cases z⟩
 keep:=λi h h' st k=>st.at λo e=>k it (by simp) o e
 item:=by
  intro X hP hw hK hc i pins s σ H E I hf st hg;subst hP hw hK;obtain⟨xs,x,hq,hx⟩:=hg;obtain⟨af,rv,p,hz⟩:=I.list hq;obtain⟨u,hu,ru⟩:=rv.get hx;obtain⟨f0,f1,f2,f3,f4,f5⟩:=hf it (by simp);refine wpAny_pyNext_list_item st p.isList (x:=u) (by simpa using hu) λh' sx sb=>?_;have I1:Inv X pins σ H { s with heap:=h' }:=I.turned (t':=s.toks) (λb o hb e=>(sb.2 b hb).trans e) f0 f1 f3 f4 f5;obtain⟨o,e,c,d⟩:=id sx;exact⟨u,rfl,J6 (s:={ s with heap:=h' }) e c d (by decide) ⟨x,H,I1,ru,⟨rfl,λys hy=>by rw[I.aat hy hq];exact hx⟩,sx,λb hb=>(hf b hb).1⟩⟩
 done:=by
  intro X hP hw hK hc i pins s σ H E I hf st hg;subst hP hw hK;obtain⟨xs,hq,hx⟩:=hg;obtain⟨af,rv,p,hz⟩:=I.list hq;obtain⟨f0,f1,f2,f3,f4,f5⟩:=hf it (by simp);have hl:=rv.length;exact wpAny_pyNext_list_end (I.ok.hd hc) st p.isList (by simp;omega) λh' eb=>⟨rfl,I.turned (t':=s.toks) (λb o hb e=>eb b o hb e) f0 f1 f3 f4 f5⟩
 self:=λ_ _ _ _ _ st h=>wpAny_pyIter_listiter st h
theorem Ds (a it:Addr):Turn P w K tg (Ka K a) [it] it (λi h=>h.IsTupleIter it a i) where
 mem:=by simp
 obj:=λi h st b hb=>by
  have e:b=it:=by simpa using hb
  subst e;obtain⟨o,e,c,d⟩:=st;exact⟨o,e,λv z=>by rw[d]at z;cases z⟩
 keep:=λi h h' st k=>st.at λo e=>k it (by simp) o e
 item:=by
  intro X hP hw hK hc i pins s σ H E I hf st hg;subst hP hw hK;obtain⟨xs,x,hq,hx⟩:=hg;obtain⟨af,rv,p,hz⟩:=I.tuple hq;obtain⟨u,hu,ru⟩:=rv.get hx;obtain⟨f0,f1,f2,f3,f4,f5⟩:=hf it (by simp);refine wpAny_pyNext_tuple_item st (show s.heap.IsTuple a af.toArray from p) (x:=u) (by simpa using hu) λh' sx sb=>?_;have I1:Inv X pins σ H { s with heap:=h' }:=I.turned (t':=s.toks) (λb o hb e=>(sb.2 b hb).trans e) f0 f1 f3 f4 f5;obtain⟨o,e,c,d⟩:=id sx;exact⟨u,rfl,J6 (s:={ s with heap:=h' }) e c d (by decide) ⟨x,H,I1,ru,⟨rfl,λys hy=>by rw[I.IV hy hq];exact hx⟩,sx,λb hb=>(hf b hb).1⟩⟩
 done:=by
  intro X hP hw hK hc i pins s σ H E I hf st hg;subst hP hw hK;obtain⟨xs,hq,hx⟩:=hg;obtain⟨af,rv,p,hz⟩:=I.tuple hq;obtain⟨f0,f1,f2,f3,f4,f5⟩:=hf it (by simp);have hl:=rv.length;exact wpAny_pyNext_tuple_end (I.ok.hd hc) st (show s.heap.IsTuple a af.toArray from p) (by simp;omega) λh' eb=>⟨rfl,I.turned (t':=s.toks) (λb o hb e=>eb b o hb e) f0 f1 f3 f4 f5⟩
 self:=λ_ _ _ _ _ st h=>wpAny_pyIter_tupleiter st h
theorem Dt (it:Addr) (lo:Int) (n:Nat):Turn P w K tg (xc lo n) [it] it (λi h=>IsRangeIter h it (lo+(i:Nat)*1) ((n:Int)-(i:Nat)) 1) where
 mem:=by simp
 obj:=λi h st b hb=>by
  have e:b=it:=by simpa using hb
  subst e;exact⟨_,st,λv z=>by
   have z':Data.fields _=Data.cell v:=z;cases z'⟩
 keep:=λi h h' st k=>k it (by simp) _ st
 item:=by
  intro X hP hw hK hc i pins s σ H E I hf st hg;subst hP hw hK;obtain⟨f0,f1,f2,f3,f4,f5⟩:=hf it (by simp);have W:=Walks.range (prog:=X.prog) (w:=X.w) (I.ok.hd hc) it lo 1 n;refine W.item i s _ _ hg st λv h' tk hv sx kk=>?_;obtain⟨t,rfl⟩:=hv;have I1:Inv X pins σ H { s with heap:=h',toks:=tk }:=I.turned (λb o hb e=>kk b o (by simpa using hb) e) f0 f1 f3 f4 f5;refine⟨_,rfl,J6 (s:={ s with heap:=h',toks:=tk }) (n:="range_iterator") sx rfl rfl (by decide) ⟨.int (lo+i),H,I1,⟨t,?_⟩,⟨rfl,rfl⟩,sx,λb hb=>(hf b hb).1⟩⟩;rw[Int.mul_one]
 done:=by
  intro X hP hw hK hc i pins s σ H E I hf st hg;subst hP hw hK;obtain⟨f0,f1,f2,f3,f4,f5⟩:=hf it (by simp);exact wpAny_pyNext_range_end (I.ok.hd hc) st (by have:n<=i:=hg;omega) λh' eb=>⟨rfl,I.turned (t':=s.toks) (λb o hb e=>eb b o hb e) f0 f1 f3 f4 f5⟩
 self:=λ_ _ _ _ _ st h=>wpAny_pyIter_rangeiter st h
def XD (K:PySem.W.Frag) (tl:TE):TI:=λσ H R=>tl σ H λx H1=>∃ a,x=.ref a /\ (∃ xs,bu K H1 a xs) /\ R (zA K a) H1
theorem NA {l:Expr}{tl:TE}(hl:PE X l tl):PI X tg l (XD X.K tl):=by
 intro pins s σ H R I h;refine ao (hl pins s σ H _ I h) λv s1 ⟨x,H1,I1,r1,q1⟩=>?_;obtain⟨a,e,⟨xs,hq⟩,q⟩:=q1;subst e;cases r1;obtain⟨af,rv,p,hz⟩:=I1.list hq;refine u5 p.isList ?_;refine⟨s1.heap.objs.size,[s1.heap.objs.size],_,_,H1,rfl,I1.kept (t':=s1.toks) λb o e=>aC _ e,A8 a _,⟨_,aR _ rfl,rfl,rfl⟩,λb hb=>?_,q⟩;have e:b=s1.heap.objs.size:=by simpa using hb
 subst e;exact I1.vI (ak _) (I1.ar.fresh (ak _))
theorem Cl {R:It->Hp->Prop}{lo hi:Int}{t u v:Tok}{tk:Nat}(I:Inv X pins σ H s) (h1:-(2 ^ 62)<=lo) (h2:lo<2 ^ 62) (h3:-(2 ^ 62)<=hi) (h4:hi<2 ^ 62)
 (q:R (xc lo (hi-lo).toNat) H):wpAny (model X.prog X.w) X.A (pyIter (.ref s.heap.objs.size)) (XC X pins σ tg R) E { s with heap:=s.heap.push { cls:=.type "range",data:=.fields #[.int lo t,.int hi u,.int 1 v] },toks:=tk }:=by
 refine wpAny_pyIter_range (IsRange.new ..) (small_one h1 h2 h3 h4) ?_;have I1:Inv X pins σ H { s with heap:=s.heap.push { cls:=.type "range",data:=.fields #[.int lo t,.int hi u,.int 1 v] },toks:=tk }:=I.kept λb o e=>aC _ e;refine⟨(s.heap.push { cls:=.type "range",data:=.fields #[.int lo t,.int hi u,.int 1 v] }).objs.size,[(s.heap.push { cls:=.type "range",data:=.fields #[.int lo t,.int hi u,.int 1 v] }).objs.size],_,_,H,rfl,
  I1.kept (t':=tk) λb o e=>aC _ e,Dt _ lo (hi-lo).toNat,?_,λb hb=>?_,q⟩
 ·have e1:lo+((0:Nat):Int)*1=lo:=by simp
  have e2:(((hi-lo).toNat:Nat):Int)-((0:Nat):Int)=Builtin.Range.rangeSize lo hi 1:=by rw[Vv];split<;>omega
  show IsRangeIter _ _ (lo+((0:Nat):Int)*1) ((((hi-lo).toNat:Nat):Int)-((0:Nat):Int)) 1;rw[e1,e2];exact aR _ rfl
 ·have e:b=(s.heap.push { cls:=.type "range",data:=.fields #[.int lo t,.int hi u,.int 1 v] }).objs.size:=by simpa using hb
  subst e;exact I1.vI (ak _) (I1.ar.fresh (ak _))
def aaD (ta:TA):TI:=λσ H R=>ta σ H λvs H1=>∃ j:Int,vs=[.int j] /\ -(2 ^ 62)<=j /\ j<2 ^ 62 /\ R (xc 0 j.toNat) H1
def aaE (ta:TA):TI:=λσ H R=>ta σ H λvs H1=>∃ i j:Int,vs=[.int i,.int j] /\ (-(2 ^ 62)<=i /\ i<2 ^ 62 /\ -(2 ^ 62)<=j /\ j<2 ^ 62) /\ R (xc i (j-i).toNat) H1
theorem GV {a:Expr}{ta:TA}{p:Pos}(hg:Gl X "range") (hm:X.mg "range"=none) (ha:PA X [a] ta) (hs:starEach [a] X.env=[(false,eval a X.env)]:=by rfl):PI X tg (.Call (.Name "range" p) [a] [] pos) (aaD ta):=by
 intro pins s σ H R I h;refine Call_ (gM I hg hm Ia (vq (ao (ha pos pins s σ H _ I h) λus s1 ⟨vs,H1,I1,r1,q1⟩=>?_) hs rfl));obtain⟨j,e,q1,q2,q⟩:=q1;subst e;cases r1 with
 | cons r rr =>
   cases rr;obtain⟨t,rfl⟩:=r;exact Vw (Cl I1 (by omega) (by omega) q1 q2 (by simpa using q))
theorem GW {a b:Expr}{ta:TA}{p:Pos}(hg:Gl X "range") (hm:X.mg "range"=none) (ha:PA X [a,b] ta) (hs:starEach [a,b] X.env=[(false,eval a X.env),(false,eval b X.env)]:=by rfl) (dZ:starEach [b] X.env=[(false,eval b X.env)]:=by rfl) :
 PI X tg (.Call (.Name "range" p) [a,b] [] pos) (aaE ta):=by
 intro pins s σ H R I h;refine Call_ (gM I hg hm Ia (vq (ao (ha pos pins s σ H _ I h) λus s1 ⟨vs,H1,I1,r1,q1⟩=>?_) (by rw[hs,dZ]) (by rw[dZ];rfl)));obtain⟨i,j,e,⟨q1,q2,q3,q4⟩,q⟩:=q1;subst e;cases r1 with
 | cons r rr =>
   cases rr with
   | cons r' rr =>
     cases rr;obtain⟨t,rfl⟩:=r;obtain⟨t',rfl⟩:=r';exact call_range_2 (Cl I1 q1 q2 q3 q4 q)
def XE (wi:TI) (g:TG) (tb:TS):TS:=λD σ H=>wi σ H λJ H1=>∃ W:Nat->Nat->St->Hp->Prop,(∃ m,W 0 m σ H1) /\ ∀ i m σ H,W i m σ H ->
 (J.stop i H /\ D.nx σ H) \/ (J.go i H /\ ∃ N:St->Hp->Prop,(∀ σ' H',N σ' H'->∃ m',m'<m /\ W (i+1) m' σ' H') /\ ∀ x H',J.xb i H x H'->g x σ H' λσ2 H2=>tb { D with nx:=N,ct:=N,bk:=D.nx } σ2 H2)
noncomputable def qY (fp:List Addr) (h:Heap):List (Addr×Obj):=fp.filterMap λb=>(h.get? b).map λo=>(b,o)
theorem gF {b:Addr}(hb:b∈fp) (e:h.get? b=some o):(b,o)∈qY fp h:=List.mem_filterMap.mpr ⟨b,hb,by rw[e];rfl⟩
theorem A9 {p:Addr×Obj}(hp:p∈qY fp h):p.1∈fp /\ h.get? p.1=some p.2:=by
 obtain⟨b,hb,e⟩:=List.mem_filterMap.mp hp;cases q:h.get? b with
 |none=>rw[q]at e;cases e
 | some o =>
   rw[q]at e;have e':(b,o)=p:=Option.some.inj e;subst e';exact⟨hb,q⟩
theorem Inv.pinned (I:Inv X pins σ H s) (hf:∀ b∈fp,c7 X pins H b) (ho:∀ b∈fp,∃ o,s.heap.get? b=some o /\ ∀ v,o.data≠.cell v):Inv X (pins++qY fp s.heap) σ H s :=
 I.zv λp hp=>(bH.mp hp).elim (λz=>I.pin p (bG _ z)) λz=>by
  obtain⟨hb,e⟩:=A9 z;obtain⟨f0,f1,f2,_⟩:=hf p.1 hb;obtain⟨o,e',d⟩:=ho p.1 hb;rw[e]at e';cases e';exact⟨e,f0,f1,f2,d⟩
theorem Inv.sy {pl:List (Addr×Obj)}(I:Inv X (pins++pl) σ H s):Inv X pins σ H s:=I.zv λp hp=>I.pin p (bG _ (cH _ hp))
theorem Rg {body:List Stmt}{wi:TI}{g:TG}{tb:TS}(hp:PassesOwn (model X.prog X.w) X.A X.env X.xe) (hc:X.calm=true) (hi:PI X tg iter wi) (hg:PG X tg g) (hb:dR X body tb)
 (hs:∀ x,foldedSetIterable iter X.env x=pure x:=by intro _;rfl):PS X (.For tg iter body [] pos) (XE wi g tb):=by
 intro pins s σ H D I h;refine wpAny_For (ao (hi pins s σ H _ I h) λv s1 h1=>ao h1 λvJ s2 h2=>?_) hs;obtain⟨it,fp,tn,J,H2,e,I2,T,nq,f2,W,⟨m0,w0⟩,turn⟩:=h2;subst e;have zB:∀ {H':Hp},(∀ b∈fp,H' b=none)->∀ b∈fp,c7 X pins H' b:=λhn b hb=>⟨hn b hb,(f2 b hb).2⟩;refine codeAny_forLoop_any (λn s'=>∃ i σ' H',Inv X pins σ' H' s' /\ tn i s'.heap /\ (∀ b∈fp,H' b=none) /\ W i n σ' H') ?_ m0 ⟨0,σ,H2,I2,nq,λb hb=>(f2 b hb).1,w0⟩;rintro n s3 ⟨i,σ3,H3,I3,pJ,XF,w3⟩;rcases turn i n σ3 H3 w3 with⟨stop,qn⟩|⟨go,N,hN,step⟩
 ·refine tP hp (ao (T.done X rfl rfl rfl hc i pins s3 σ3 H3 X.xe I3 (zB XF) pJ stop) λr s4 ⟨hr,I4⟩=>?_);subst hr;exact yE ⟨σ3,H3,I4,qn⟩
 ·refine tP hp (ao (T.item X rfl rfl rfl hc i pins s3 σ3 H3 X.xe I3 (zB XF) pJ go) λr s4 ⟨u,hr,h4⟩=>?_);subst hr;refine tP hp (ao h4 λ_ s5 ⟨x,H5,I5,r5,y5,nQ,qk⟩=>?_);have aaF:=I5.pinned (zB qk) (T.obj _ _ nQ);refine tP hp (ao (hg _ s5 σ3 H5 x u _ aaF r5 (step x H5 y5)) λ_ s6 ⟨σ6,H6,I6,q6⟩=>?_);refine tP hp (ao (hb _ s6 σ6 H6 _ I6 q6) λf s7 q7=>?_);have again:∀ {σ7:St}{H7:Hp},Inv X (pins++qY fp s5.heap) σ7 H7 s7->N σ7 H7->∃ m,m<n /\ ∃ i σ' H',Inv X pins σ' H' s7 /\ tn i s7.heap /\ (∀ b∈fp,H' b=none) /\ W i m σ' H':=λ{σ7 H7} I7 n7=>by
   obtain⟨m',hm,w7⟩:=hN σ7 H7 n7;refine⟨m',hm,i+1,σ7,H7,I7.sy,T.keep _ _ _ nQ λb hb o e=>(I7.pin (b,o) (bG _ (bG _ (gF hb e)))).1,λb hb=>?_,w7⟩;obtain⟨o,e,d⟩:=T.obj _ _ nQ b hb;exact(I7.pin (b,o) (bG _ (bG _ (gF hb e)))).2.1
  cases f with
  |next=>obtain⟨σ7,H7,I7,n7⟩:=q7;exact again I7 n7
  |cont=>obtain⟨σ7,H7,I7,n7⟩:=q7;exact again I7 n7
  |brk=>obtain⟨σ7,H7,I7,q7⟩:=q7;exact⟨σ7,H7,I7.sy,q7⟩
  |ret v=>obtain⟨x7,σ7,H7,I7,r7,q7⟩:=q7;exact⟨x7,σ7,H7,I7.sy,r7,q7⟩
noncomputable abbrev R2:=V->V->Hp->VK->Prop
def aM (X:Cx) (f:Value->Value->Sem Value) (r:R2):Prop :=
 ∀ (pins:List (Addr×Obj)) (s:Shared) (σ:St) (H:Hp) (x y:V) (v u:Value) (Q:VK),Inv X pins σ H s->RelV x v->RelV y u->r x y H Q ->
  wpAny (model X.prog X.w) X.A (f v u) (EP X pins σ Q) X.xe s
def Kb (X:Cx) (f:Value->Sem Value) (r:V->Hp->VK->Prop):Prop :=
 ∀ (pins:List (Addr×Obj)) (s:Shared) (σ:St) (H:Hp) (x:V) (v:Value) (Q:VK),Inv X pins σ H s->RelV x v->r x H Q ->
  wpAny (model X.prog X.w) X.A (f v) (EP X pins σ Q) X.xe s
def dA (X:Cx) (f:Value) (r:List V->Hp->VK->Prop):Prop :=
 ∀ (pins:List (Addr×Obj)) (s:Shared) (σ:St) (H:Hp) (xs:List V) (us:List Value) (Q:VK),Inv X pins σ H s->Vals xs us->r xs H Q ->
  wpAny (model X.prog X.w) X.A (call f us) (EP X pins σ Q) X.xe s
def aaG (X:Cx) (r:V->Hp->(Bool->Hp->Prop)->Prop):Prop :=
 ∀ (pins:List (Addr×Obj)) (s:Shared) (σ:St) (H:Hp) (x:V) (v:Value) (Q:Bool->Hp->Prop),Inv X pins σ H s->RelV x v->r x H Q ->
  wpAny (model X.prog X.w) X.A (truthy v) (TP X pins σ Q) X.xe s
def xf (r:R2) (ta tb:TE):TE:=λσ H Q=>ta σ H λx H1=>tb σ H1 λy H2=>r x y H2 Q
def aaH (r:V->Hp->VK->Prop) (ta:TE):TE:=λσ H Q=>ta σ H λx H1=>r x H1 Q
def rI (C:Int->Int->Prop) (g:Int->Int->V):R2:=λx y H Q=>∃ i j,x=.int i /\ y=.int j /\ C i j /\ Q (g i j) H
def eN (g:Int->Int->V):R2:=λx y H Q=>∃ i j,x=.int i /\ y=.int j /\ Q (g i j) H
def rU (g:Int->V):V->Hp->VK->Prop:=λx H Q=>∃ i,x=.int i /\ Q (g i) H
section
variable {a b : Expr} {ta tb tc : TE} 
theorem Kc (ha:PE X a ta) (hb:PE X b tb) {R:V->V->Hp->Prop}(I:Inv X pins σ H s)
 (h:ta σ H λx H1=>tb σ H1 λy H2=>R x y H2) 
 (hf:∀ v u s2 x y H2,Inv X pins σ H2 s2->RelV x v->RelV y u->R x y H2->wpAny (model X.prog X.w) X.A (f v u) Q X.xe s2) :
 wpAny (model X.prog X.w) X.A (eval a X.env) (λv s₁=>wpAny (model X.prog X.w) X.A (eval b X.env) (λu s₂=>wpAny (model X.prog X.w) X.A (f v u) Q X.xe s₂) X.xe s₁) X.xe s:=by
 refine ao (ha pins s σ H _ I h) λv s1 ⟨x,H1,I1,r1,q1⟩=>?_;refine ao (hb pins s1 σ H1 _ I1 q1) λu s2 ⟨y,H2,I2,r2,q2⟩=>?_;exact hf v u s2 x y H2 I2 r1 r2 q2
theorem Ts {op:Operator}{r:R2}(ho:aM X (binaryOp op) r) (ha:PE X a ta) (hb:PE X b tb):PE X (.BinOp a op b pos) (xf r ta tb):=by
 intro pins s σ H Q I h;exact wpAny_BinOp (Kc ha hb I h λv u s2 x y H2 I2 rx ry q=>ho pins s2 σ H2 x y v u Q I2 rx ry q)
theorem Px {op:UnaryOp}{r:V->Hp->VK->Prop}(ho:Kb X (unaryOp op) r) (ha:PE X a ta):PE X (.UnaryOp op a pos) (aaH r ta):=by
 intro pins s σ H Q I h;exact UnaryOp_ (ao (ha pins s σ H _ I h) λv s1 ⟨x,H1,I1,r1,q1⟩=>ho pins s1 σ H1 x v Q I1 r1 q1)
theorem zC {C:Int->Int->Prop}{g:Int->Int->Int}
 (rule:∀ (i j:Int) (t u:Tok) (s:Shared) (Q:Value->Shared->Prop) (E:Value->Shared->Prop),C i j->Q (.int (g i j) s.toks) { s with toks:=s.toks+1 }->wpAny (model X.prog X.w) X.A (f (.int i t) (.int j u)) Q E s) :
 aM X f (rI C λi j=>.int (g i j)):=by
 intro pins s σ H x y v u Q I rx ry h;obtain⟨i,j,rfl,rfl,hc,q⟩:=h;obtain⟨t,rfl⟩:=rx;obtain⟨t',rfl⟩:=ry;exact rule i j t t' s _ _ hc ⟨.int (g i j),H,I.tok _,⟨_,rfl⟩,q⟩
theorem XG {g:Int->Int->Int}
 (rule:∀ (i j:Int) (t u:Tok) (s:Shared) (Q:Value->Shared->Prop) (E:Value->Shared->Prop),Q (.int (g i j) s.toks) { s with toks:=s.toks+1 }->wpAny (model X.prog X.w) X.A (f (.int i t) (.int j u)) Q E s) :
 aM X f (eN λi j=>.int (g i j)):=by
 intro pins s σ H x y v u Q I rx ry h;obtain⟨i,j,rfl,rfl,q⟩:=h;obtain⟨t,rfl⟩:=rx;obtain⟨t',rfl⟩:=ry;exact rule i j t t' s _ _ ⟨.int (g i j),H,I.tok _,⟨_,rfl⟩,q⟩
theorem zD {g:Int->Int->Bool}
 (rule:∀ (i j:Int) (t u:Tok) (s:Shared) (Q:Value->Shared->Prop) (E:Value->Shared->Prop),Q (.bool (g i j)) s->wpAny (model X.prog X.w) X.A (f (.int i t) (.int j u)) Q E s) :
 aM X f (eN λi j=>.bl (g i j)):=by
 intro pins s σ H x y v u Q I rx ry h;obtain⟨i,j,rfl,rfl,q⟩:=h;obtain⟨t,rfl⟩:=rx;obtain⟨t',rfl⟩:=ry;exact rule i j t t' s _ _ ⟨.bl (g i j),H,I,rfl,q⟩
def vK (i j:Int):Prop:=0<j /\ j<1073741824
def vL (i j:Int):Prop:=0<=j /\ j<=1000000 /\ i.natAbs<2 ^ 64
def sC (i j:Int):Prop:=(-(2 ^ 64)<i /\ i<2 ^ 64) \/ (-(2 ^ 64)<j /\ j<2 ^ 64)
theorem sC.ok {i j:Int}(h:sC i j):IntMulOk i j:=by
 rcases h with⟨h1,h2⟩|⟨h1,h2⟩
 ·exact .of_left (Vx h1 h2)
 ·exact .of_right (Vx h1 h2)
theorem Rh:aM X (binaryOp .Add) (eN λi j=>.int (i+j)):=XG λ_ _ _ _ _ _ _ q=>add_int q
theorem Ri:aM X (binaryOp .Sub) (eN λi j=>.int (i-j)):=XG λ_ _ _ _ _ _ _ q=>sub_int q
theorem Rj:aM X (binaryOp .Mult) (rI sC λi j=>.int (i*j)):=zC λ_ _ _ _ _ _ _ hc q=>mul_int q hc.ok
theorem NB:aM X (binaryOp .FloorDiv) (rI vK λi j=>.int (i / j)):=zC λi j _ _ _ _ _ hc q=>by
 have h1:(0:Int)<j:=hc.1;have h2:j<1073741824:=hc.2;exact floordiv_int (by omega) (by rw[Int.fdiv_eq_ediv_of_nonneg i (by omega)];exact q) (.inl (PyProof.noPylong_small (by omega)))
theorem Rk:aM X (binaryOp .Mod) (rI (λ_ j=>0<j) λi j=>.int (i % j)):=zC λi j _ _ _ _ _ hc q=>by
 have h1:(0:Int)<j:=hc;exact mod_int' (by omega) (by rw[Int.fmod_eq_emod_of_nonneg i (by omega)];exact q)
theorem Rm:aM X (binaryOp .Pow) (rI vL λi j=>.int (i ^ j.toNat)):=zC λ_ _ _ _ _ _ _ hc q=>pow_int_small hc.1 hc.2.1 hc.2.2 q
theorem aaI {f:Value->Sem Value}{g:Int->Int}
 (rule:∀ (i:Int) (t:Tok) (s:Shared) (Q:Value->Shared->Prop) (E:Value->Shared->Prop),Q (.int (g i) s.toks) { s with toks:=s.toks+1 }->wpAny (model X.prog X.w) X.A (f (.int i t)) Q E s) :
 Kb X f (rU λi=>.int (g i)):=by
 intro pins s σ H x v Q I rx h;obtain⟨i,rfl,q⟩:=h;obtain⟨t,rfl⟩:=rx;exact rule i t s _ _ ⟨.int (g i),H,I.tok _,⟨_,rfl⟩,q⟩
theorem J7:Kb X (unaryOp .USub) (rU λi=>.int (-i)):=aaI λ_ _ _ _ _ q=>neg_int q
end
noncomputable def XH:V->V->Bool
 |.aq,.aq=>true|.aq,.int _=>true|.int _,.aq=>true|.aq,.bl _=>true|.bl _,.aq=>true|.aq,.str _=>true|.str _,.aq=>true
 |.int _,.int _=>true|.bl _,.bl _=>true|.str _,.str _=>true|.kn _,.kn _=>true
 |.int _,.str _=>true|.str _,.int _=>true|.bl _,.str _=>true|.str _,.bl _=>true
 |_,_=>false
def Kd:R2:=λx y H Q=>XH x y=true /\ Q (.bl (decide (x=y))) H
def Ke:R2:=λx y H Q=>XH x y=true /\ Q (.bl (!decide (x=y))) H
theorem FB {i j:Int}:decide (V.int i=V.int j)=(i==j):=by
 rw[nK];simp
theorem J8 {i j:Bool}:decide (V.bl i=V.bl j)=(i==j):=by
 rw[nK];simp
theorem FC {i j:Str}:decide (V.str i=V.str j)=(i==j):=by
 rw[nK];simp
theorem FD {i j:Array UInt8}:decide (V.kn i=V.kn j)=(i.toList==j.toList):=by
 rw[nK];cases i;cases j;simp
section
variable {a b : Expr} {ta tb tc : TE} 
theorem fS {Q:VK}{k k':Bool}(I:Inv X pins σ H s) (q:Q (.bl k) H) (e:k=k'):EP X pins σ Q (.bool k') s:=by
 subst e;exact⟨.bl k,H,I,rfl,q⟩
theorem Tt:aM X (compareOp .Eq) Kd:=by
 intro pins s σ H x y v u Q I rx ry h;obtain⟨hs,q⟩:=h;cases x with
 | aq =>
   cases rx;cases y with
   |aq=>cases ry;exact ZH (fS I q (by simp))
   |bl j=>cases ry;exact ZI (fS I q (by simp))
   |int j=>obtain⟨t',rfl⟩:=ry;exact ZJ (fS I q (by simp))
   |str j=>obtain⟨t',rfl⟩:=ry;exact ZK (fS I q (by simp))
   |_=>exact absurd (show false=true from hs) b9
 | bl i =>
   cases rx;cases y with
   |aq=>cases ry;exact ZL (fS I q (by simp))
   |bl j=>cases ry;exact eq_bool (fS I q J8)
   |str j=>obtain⟨t',rfl⟩:=ry;exact ZV (fS I q (by simp))
   |_=>exact absurd (show false=true from hs) b9
 | int i =>
   obtain⟨t,rfl⟩:=rx;cases y with
   |aq=>cases ry;exact ZM (fS I q (by simp))
   |int j=>obtain⟨t',rfl⟩:=ry;exact eq_int (fS I q FB)
   |str j=>obtain⟨t',rfl⟩:=ry;exact ZW (fS I q (by simp))
   |_=>exact absurd (show false=true from hs) b9
 | str i =>
   obtain⟨t,rfl⟩:=rx;cases y with
   |aq=>cases ry;exact ZN (fS I q (by simp))
   |bl j=>cases ry;exact ZX (fS I q (by simp))
   |int j=>obtain⟨t',rfl⟩:=ry;exact ZY (fS I q (by simp))
   |str j=>obtain⟨t',rfl⟩:=ry;exact eq_str (fS I q FC)
   |_=>exact absurd (show false=true from hs) b9
 | kn i =>
   obtain⟨t,rfl⟩:=rx;cases y with
   |kn j=>obtain⟨t',rfl⟩:=ry;exact PySem.W.eq_bytes (fS I q FD)
   |_=>exact absurd (show false=true from hs) b9
 |_=>cases y<;>exact absurd (show false=true from hs) b9
theorem Tu:aM X (compareOp .NotEq) Ke:=by
 intro pins s σ H x y v u Q I rx ry h;obtain⟨hs,q⟩:=h;cases x with
 | aq =>
   cases rx;cases y with
   |aq=>cases ry;exact ZO (fS I q (by simp))
   |bl j=>cases ry;exact ZP (fS I q (by simp))
   |int j=>obtain⟨t',rfl⟩:=ry;exact ZQ (fS I q (by simp))
   |str j=>obtain⟨t',rfl⟩:=ry;exact ZR (fS I q (by simp))
   |_=>exact absurd (show false=true from hs) b9
 | bl i =>
   cases rx;cases y with
   |aq=>cases ry;exact ZS (fS I q (by simp))
   |bl j=>cases ry;exact ne_bool (fS I q (congrArg not J8))
   |str j=>obtain⟨t',rfl⟩:=ry;exact ZZ (fS I q (by simp))
   |_=>exact absurd (show false=true from hs) b9
 | int i =>
   obtain⟨t,rfl⟩:=rx;cases y with
   |aq=>cases ry;exact ZT (fS I q (by simp))
   |int j=>obtain⟨t',rfl⟩:=ry;exact ne_int (fS I q (congrArg not FB))
   |str j=>obtain⟨t',rfl⟩:=ry;exact Z0 (fS I q (by simp))
   |_=>exact absurd (show false=true from hs) b9
 | str i =>
   obtain⟨t,rfl⟩:=rx;cases y with
   |aq=>cases ry;exact ZU (fS I q (by simp))
   |bl j=>cases ry;exact Z1 (fS I q (by simp))
   |int j=>obtain⟨t',rfl⟩:=ry;exact Z2 (fS I q (by simp))
   |str j=>obtain⟨t',rfl⟩:=ry;exact ne_str (fS I q (congrArg not FC))
   |_=>exact absurd (show false=true from hs) b9
 | kn i =>
   obtain⟨t,rfl⟩:=rx;cases y with
   |kn j=>obtain⟨t',rfl⟩:=ry;exact PySem.W.ne_bytes (fS I q (congrArg not FD))
   |_=>exact absurd (show false=true from hs) b9
 |_=>cases y<;>exact absurd (show false=true from hs) b9
theorem Tv:aM X (compareOp .Lt) (eN λi j=>.bl (decide (i<j))):=zD λ_ _ _ _ _ _ _ q=>lt_int q
theorem Tw:aM X (compareOp .LtE) (eN λi j=>.bl (decide (i<=j))):=zD λ_ _ _ _ _ _ _ q=>le_int q
theorem Ty:aM X (compareOp .Gt) (eN λi j=>.bl (decide (j<i))):=zD λ_ _ _ _ _ _ _ q=>gt_int q
theorem Tz:aM X (compareOp .GtE) (eN λi j=>.bl (decide (j<=i))):=zD λ_ _ _ _ _ _ _ q=>ge_int q
theorem aM.or {r r':R2}(h:aM X f r) (h':aM X f r'):aM X f (λx y H Q=>r x y H Q \/ r' x y H Q):=by
 intro pins s σ H x y v u Q I rx ry q;rcases q with q|q
 ·exact h pins s σ H x y v u Q I rx ry q
 ·exact h' pins s σ H x y v u Q I rx ry q
theorem NC {r:R2}(ho:aM X (compareOp op) r) (ha:PE X a ta) (hb:PE X b tb) (hm:behindInMarks op b=false):PE X (.Compare a [op] [b] pos) (xf r ta tb):=by
 intro pins s σ H Q I h;exact wpAny_Compare1 (Kc ha hb I h λv u s2 x y H2 I2 rx ry q=>ho pins s2 σ H2 x y v u Q I2 rx ry q) hm
noncomputable def XI (t:TE):TT:=λσ H Q=>t σ H λx H'=>∃ k,x=.bl k /\ Q k H'
theorem ND {r:R2}(ho:aM X (compareOp op) r) (ha:PE X a ta) (hb:PE X b tb) (hm:behindInMarks op b=false):PT X (.Compare a [op] [b] pos) (XI (xf r ta tb)):=by
 intro pins s σ H Q I h;refine wpAny_isTrue_Compare1 (ao (ha pins s σ H _ I h) λv s1 ⟨x,H1,I1,r1,q1⟩=>ao (hb pins s1 σ H1 _ I1 q1) λu s2 ⟨y,H2,I2,r2,q2⟩ =>
  ao (ho pins s2 σ H2 x y v u _ I2 r1 r2 q2) λc s3 ⟨z,H3,I3,r3,k,e,q3⟩=>?_) hm
 subst e;cases r3;exact k7 ⟨H3,I3,q3⟩
def Kf (r r':R2) (ta tb tc:TE):TE:=λσ H Q=>ta σ H λx H1=>tb σ H1 λy H2=>r x y H2 λz H3=>∃ k,z=.bl k /\
 (if k=true then tc σ H3 λw' H4=>r' y w' H4 Q else Q (.bl false) H3)
theorem J9 {cj:CmpOp}{r r':R2}(ho:aM X (compareOp op) r) (kq:aM X (compareOp cj) r') (ha:PE X a ta) (hb:PE X b tb) (hc:PE X c tc)
 (hm:lastMarks [op,cj] [b,c]=false:=by with_unfolding_all rfl):PE X (.Compare a [op,cj] [b,c] pos) (Kf r r' ta tb tc):=by
 intro pins s σ H Q I h;refine Compare_chain (ao (ha pins s σ H _ I h) λv s1 ⟨x,H1,I1,r1,q1⟩=>chain_link (ao (hb pins s1 σ H1 _ I1 q1) λu s2 ⟨y,H2,I2,r2,q2⟩ =>
  ao (ho pins s2 σ H2 x y v u _ I2 r1 r2 q2) λd s3 ⟨z,H3,I3,r3,k,e,q3⟩=>?_)) hm
 subst e;cases r3;refine k7 ?_;cases k with
 |false=>exact ite_ff ⟨.bl false,H3,I3,rfl,q3⟩
 |true=>exact ite_tt (chain_last (ao (hc pins s3 σ H3 _ I3 q3) λw' s4 ⟨z',H4,I4,r4,q4⟩=>kq pins s4 σ H4 y z' u w' Q I4 r2 r4 q4))
theorem La {cj:CmpOp}{r r':R2}(ho:aM X (compareOp op) r) (kq:aM X (compareOp cj) r') (ha:PE X a ta) (hb:PE X b tb) (hc:PE X c tc)
 (hm:lastMarks [op,cj] [b,c]=false:=by with_unfolding_all rfl):PT X (.Compare a [op,cj] [b,c] pos) (XI (Kf r r' ta tb tc)):=by
 intro pins s σ H Q I h;refine isTrue_chain (ao (ha pins s σ H _ I h) λv s1 ⟨x,H1,I1,r1,q1⟩=>test_link (ao (hb pins s1 σ H1 _ I1 q1) λu s2 ⟨y,H2,I2,r2,q2⟩ =>
  ao (ho pins s2 σ H2 x y v u _ I2 r1 r2 q2) λd s3 ⟨z,H3,I3,r3,k,e,q3⟩=>?_)) hm
 subst e;cases r3;refine k7 ?_;cases k with
 | false =>
   obtain⟨k',e',q'⟩:=q3;cases e';exact ite_ff ⟨H3,I3,q'⟩
 | true =>
   refine ite_tt (test_last (ao (hc pins s3 σ H3 _ I3 q3) λw' s4 ⟨z',H4,I4,r4,q4⟩=>ao (kq pins s4 σ H4 y z' u w' _ I4 r2 r4 q4) λd' s5 ⟨z2,H5,I5,r5,k2,e2,q5⟩=>?_));subst e2;cases r5;exact k7 ⟨H5,I5,q5⟩
def Kg (K:PySem.W.Frag) (x:V) (H:Hp) (k:Bool):Prop :=
 match x with
 |.aq=>k=false
 |.bl b=>k=b
 |.int i=>k=(i != 0)
 |.str y=>y.length<=sizeLine /\ k=((y.length:Int) != 0)
 |.kn y=>y.size<=sizeLine /\ k=((y.size:Int) != 0)
 |.ref p=>(∃ xs,bu K H p xs /\ k=!xs.isEmpty) \/ (∃ xs,aV K H p xs /\ k=!xs.isEmpty) \/ ∃ ah,H p=some (.dK ah) /\ k=!ah.isEmpty
 |_=>False
theorem Du {κ:Type}{ah:List (κ×V)}{vs:List (κ×Value)}(r:KV ah vs):(!vs.isEmpty)=!ah.isEmpty:=by
 cases r<;>rfl
theorem Ad {xs:List V}{af:List Value}(r:Vals xs af):(!af.toArray.isEmpty)=!xs.isEmpty:=by
 cases r<;>simp
theorem sD:(sizeLine:Nat)<2 ^ 63:=by rw[ba];decide
theorem Rn:aaG X (λx H Q=>∃ k,Kg X.K x H k /\ Q k H):=by
 intro pins s σ H x v Q I rx h;obtain⟨k,e,q⟩:=h;have hl:=sD;have hs:sizeLine=16777216:=ba;cases x with
 | aq =>
   cases rx;have e':k=false:=e;subst e';exact truthy_none ⟨H,I,q⟩
 | bl b =>
   cases rx;have e':k=b:=e;subst e';exact k7 ⟨H,I,q⟩
 | int i =>
   obtain⟨t,rfl⟩:=rx;have e':k=(i != 0):=e;subst e';exact PySem.P.truthy_int ⟨H,I,q⟩
 | str y =>
   obtain⟨t,rfl⟩:=rx;obtain⟨hy,e'⟩:y.length<=sizeLine /\ k=((y.length:Int) != 0):=e;subst e';exact PySem.P.truthy_str (by omega) ⟨H,I.tok _,q⟩
 | kn y =>
   obtain⟨t,rfl⟩:=rx;obtain⟨hy,e'⟩:y.size<=sizeLine /\ k=((y.size:Int) != 0):=e;subst e';exact PySem.W.truthy_bytes (by omega) ⟨H,I.tok _,q⟩
 | ref p =>
   cases rx;have e':(∃ xs,bu X.K H p xs /\ k=!xs.isEmpty) \/ (∃ xs,aV X.K H p xs /\ k=!xs.isEmpty) \/ ∃ ah,H p=some (.dK ah) /\ k=!ah.isEmpty:=e;rcases e' with⟨xs,hx,e'⟩|⟨xs,hx,e'⟩|⟨ah,hx,e'⟩
   ·subst e';obtain⟨af,r,pl,hz⟩:=I.list hx;have hlen:=r.length;exact wpAny_truthy_list pl.isList (by simp only[aU];omega) ⟨H,I.tok _,by rw[Ad r];exact q⟩
   ·subst e';obtain⟨af,r,pl,hz⟩:=I.tuple hx;have hlen:=r.length;exact truthy_tuple pl (by simp only[aU];omega) ⟨H,I.tok _,by rw[Ad r];exact q⟩
   ·subst e';obtain⟨hz,hS,vs,r,m⟩:ah.length<=sizeLine /\ (p==sysModules)=false /\ ∃ vs,KV ah vs /\ s.heap.DictOf (eM X.prog X.w) p vs:=I.ar p _ hx;have hlen:ah.length=vs.length:=Paired.length r;exact wpAny_truthy_dict hS m (by omega) ⟨H,I.tok _,by rw[Du r];exact q⟩
 |_=>exact(show False from e).elim
theorem Lb (ha:PE X a ta) (he:∀ whole,isTrue a X.env whole=(do let v <-whole;standAt a.pos;holding [v] (truthy v))) :
 PT X a (λσ H Q=>ta σ H λx H'=>∃ k,Kg X.K x H' k /\ Q k H'):=by
 intro pins s σ H Q I h;exact WB (ao (ha pins s σ H _ I h) λv s1 ⟨x,H1,I1,r1,q1⟩=>Rn pins s1 σ H1 x v Q I1 r1 q1) (he _)
theorem Dv:aM X (binaryOp .Add) (λx y H Q=>∃ i j,x=.str i /\ y=.str j /\ i.length+j.length<=sizeLine /\ Q (.str (i++j)) H):=by
 intro pins s σ H x y v u Q I rx ry h;obtain⟨i,j,rfl,rfl,hz,q⟩:=h;obtain⟨t,rfl⟩:=rx;obtain⟨t',rfl⟩:=ry;exact add_str (λt' tk=>⟨.str (i++j),H,I.tok _,⟨_,rfl⟩,q⟩) hz
theorem vals1 {x:V}(r:Vals [x] us):∃ u,us=[u] /\ RelV x u:=by
 cases r with
 |cons r1 r2=>cases r2;exact⟨_,rfl,r1⟩
theorem vals2 {x y:V}(r:Vals [x,y] us):∃ u w',us=[u,w'] /\ RelV x u /\ RelV y w':=by
 cases r with
 | cons r1 r2 =>
   cases r2 with
   |cons r3 r4=>cases r4;exact⟨_,_,rfl,r1,r3⟩
theorem GX (hc:X.calm=true):dA X (.builtin "max") (λxs H Q=>∃ i j,xs=[.int i,.int j] /\ Q (.int (if j>i then j else i)) H):=by
 intro pins s σ H xs us Q I r h;obtain⟨i,j,rfl,q⟩:=h;obtain⟨u,w',rfl,⟨t,rfl⟩,⟨t',rfl⟩⟩:=vals2 r;refine max_two_ints (I.ok.hd hc) λh' tk k=>⟨_,H,I.kept k,?_,q⟩;by_cases hj:j>i
 ·rw[if_pos hj,if_pos hj];exact⟨_,rfl⟩
 ·rw[if_neg hj,if_neg hj];exact⟨_,rfl⟩
theorem GY (hc:X.calm=true):dA X (.builtin "min") (λxs H Q=>∃ i j,xs=[.int i,.int j] /\ Q (.int (if j<i then j else i)) H):=by
 intro pins s σ H xs us Q I r h;obtain⟨i,j,rfl,q⟩:=h;obtain⟨u,w',rfl,⟨t,rfl⟩,⟨t',rfl⟩⟩:=vals2 r;refine min_two_ints (I.ok.hd hc) λh' tk k=>⟨_,H,I.kept k,?_,q⟩;by_cases hj:j<i
 ·rw[if_pos hj,if_pos hj];exact⟨_,rfl⟩
 ·rw[if_neg hj,if_neg hj];exact⟨_,rfl⟩
end
structure Kh (h:Heap) (x dx C:Addr) (mA:Str->Option Value):Prop where
 obj:h.get? x=some (PySem.W.instObj C dx)
 ns:h.Ns1 dx mA
 ne:dx≠x
theorem GZ {dx:Addr}(n:h.Ns1 dx mA):∃ od,h.get? dx=some od /\ ∀ name,PySem.W.lookIn name od=some (mA name):=by
 obtain⟨o,es,ep,ho,hd,hk,_,hm⟩:=n;refine⟨o,ho,λname=>?_⟩;have e:=hm name;unfold nsFind findBy at e;rw[<-Array.find?_toList]at e;unfold PySem.W.lookIn;rw[hd];dsimp only;split
 ·rename_i y q;rw[q]at e;exact congrArg some e
 ·rename_i q;rw[q]at e;have a:es.toList.any (·.refKey)=false:=by
   rw[List.any_eq_false];intro y hy;obtain⟨z,t,aaJ⟩:=hk y (Array.mem_toList_iff.mp hy);simp[DictEntry.refKey,aaJ]
  have a':¬ es.toList.any (·.refKey)=true:=by rw[a];exact b9
  rw[if_neg a'];exact congrArg some e
theorem Kh.look {x dx C:Addr}(I:Kh h x dx C mA):∃ od,PySem.W.InstAt h x (PySem.W.instObj C dx) C (some od) /\ ∀ name,PySem.W.lookIn name od=some (mA name):=
 let ⟨od,ho,hl⟩:=GZ I.ns
 ⟨od,⟨I.obj,rfl,rfl,ho⟩,hl⟩
section
variable {x dx C f : Addr} {name : Str} {v : Value}
end
section
variable {C dx : Addr} {fs aad : List (Str × V)}
theorem NE (ar:bV P w H h) (e:H a=some (.ins C dx fs)):∃ mA,Kh h a dx C mA /\ (∀ f,vD (fs.lookup f) (mA f)) /\ PySem.Within mA (fs.map (·.1)) /\ fs.length<=1000 /\ H dx=some (.own a):=by
 obtain⟨d,z,ne,ob,mA,n,r,q⟩:=(show br P w H h a (.ins C dx fs) from ar a _ e);exact⟨mA,⟨ob,n,ne⟩,r,q,z,d⟩
end
structure Ki (K:PySem.W.Frag) (C:Addr):Prop where
 pg:PySem.W.plainGet K C Str.empty=true
 hd:PySem.W.hasDictIn K C=true
 po:PySem.W.plainOver K C=true
 sa:PySem.W.findIn K (.ref C) "__setattr__"=some (some (.builtin "object.__setattr__"))
theorem Ki.get {C:Addr}(c:Ki K C) (f:Str):PySem.W.plainGet K C f=true:=c.pg
section
variable {C dx : Addr} {fs : List (Str × V)} {f : Str} 
end
section
variable {o value : Expr} {f : Str} {pos' XJ : Pos} {ta tv : TE}
end
section
variable {c : Value} {b : Bool}
inductive kH (K:PySem.W.Frag) (H:Hp):V->Value->Prop where
 |aq:kH K H .aq (.type "NoneType")
 |bl (x:Bool):kH K H (.bl x) (.type "bool")
 |int (i:Int):kH K H (.int i) (.type "int")
 |str (x:Str):kH K H (.str x) (.type "str")
 |sj (x:UInt64):kH K H (.sj x) (.type "float")
 |lst {a:Addr}{xs:List V}(e:H a=some (.lst xs)):kH K H (.ref a) (.type "list")
 |ko {a:Addr}{o:Obj}{xs:List V}(e:H a=some (.ko o (.lst xs))):kH K H (.ref a) (.type "list")
 |tup {a:Addr}{xs:List V}(e:H a=some (.tup xs)):kH K H (.ref a) (.type "tuple")
 |dK {a:Addr}{ah:List (Key×V)}(e:H a=some (.dK ah)):kH K H (.ref a) (.type "dict")
 |dT {a:Addr}{ah:List (List Key×V)}(e:H a=some (.dT ah)):kH K H (.ref a) (.type "dict")
 |ins {a C dx:Addr}{fs:List (Str×V)}(e:H a=some (.ins C dx fs)) (cl:Ki K C) (ha:PySem.W.findIn K (.ref C) "__class__"=some (some (.builtin "object.__class__")))
  (hn:PySem.W.specialIn K (.builtin "object.__class__") "__get__"=some (some (.builtin "getset_descriptor.__get__"))) (XM:PySem.W.takesIn K (.builtin "object.__class__")=some true)
  (hm:PySem.W.mroIn K C (.type "object")=some true):kH K H (.ref a) (.ref C)
theorem G0 {x:V}{t:Value}(I:Inv X pins σ H s) (rx:RelV x u) (ty:kH X.K H x t) (e:PySem.W.kitOne X.K t c=some b) (h:∀ tk,Q (.bool b) { s with toks:=tk }) :
 wpAny (model X.prog X.w) A (call (.builtin "isinstance") [u,c]) Q E s:=by
 cases ty with
 |aq=>cases (show u=Value.none from rx);exact pD PySem.W.kitx_none I.dz True.intro e (λz=>nomatch z) h
 |bl y=>cases (show u=Value.bool y from rx);exact pD PySem.W.kitx_bool I.dz True.intro e (λz=>nomatch z) h
 |int i=>obtain⟨t,q⟩:=(show ∃ t,u=Value.int i t from rx);cases q;exact pD PySem.W.kitx_int I.dz True.intro e (λz=>nomatch z) h
 |str y=>obtain⟨t,q⟩:=(show ∃ t,u=Value.str y t from rx);cases q;exact pD PySem.W.kitx_str I.dz True.intro e (λz=>nomatch z) h
 |sj y=>obtain⟨t,q⟩:=(show ∃ t,u=Value.float y t from rx);cases q;exact pD PySem.W.kitx_float I.dz True.intro e (λz=>nomatch z) h
 | @lst a xs ea =>
   cases (show u=Value.ref a from rx);obtain⟨_,_,n,_,h1⟩:=(show br X.prog X.w H s.heap a (.lst xs) from I.ar a _ ea);exact pD WT I.dz ⟨_,h1,rfl⟩ e (λz=>nomatch z) h
 | @ko a ob xs ea =>
   cases (show u=Value.ref a from rx);obtain⟨_,_,_,n,_,h1⟩:=(show br X.prog X.w H s.heap a (.ko ob (.lst xs)) from I.ar a _ ea);exact pD WT I.dz ⟨_,h1,rfl⟩ e (λz=>nomatch z) h
 | @tup a xs ea =>
   cases (show u=Value.ref a from rx);obtain⟨_,_,_,p⟩:=(show br X.prog X.w H s.heap a (.tup xs) from I.ar a _ ea);obtain⟨o,h1,h2,_⟩:=p;exact pD PySem.W.kitx_tuple I.dz ⟨o,h1,h2⟩ e (λz=>nomatch z) h
 | @dK a ah ea =>
   cases (show u=Value.ref a from rx);obtain⟨_,_,vs,_,p⟩:=(show br X.prog X.w H s.heap a (.dK ah) from I.ar a _ ea);obtain⟨o,es,ep,h1,h2,_⟩:=p;exact pD WU I.dz ⟨o,h1,h2.1⟩ e (λz=>nomatch z) h
 | @dT a ah ea =>
   cases (show u=Value.ref a from rx);obtain⟨_,_,xs,_,o,es,ep,h1,h2,_⟩:=(show br X.prog X.w H s.heap a (.dT ah) from I.ar a _ ea);exact pD WU I.dz ⟨o,h1,h2.1⟩ e (λz=>nomatch z) h
 | @ins a C dx fs ea cl ha hn XM hm =>
   cases (show u=Value.ref a from rx);obtain⟨mA,O,_⟩:=NE I.ar ea;obtain⟨od,J,_⟩:=O.look;exact pD (PySem.W.kitx_own (cl.get _) cl.hd ha hn XM hm) I.dz J e (λz=>nomatch z) h
end
structure cw (k:Nat) (A:Around):Prop where
 hd:A.handled=none
 dp:A.depth+3*k+5<recursionLimit
 un:A.units+16*k+200<cLine
 gd:A.guards=some []
theorem cw.mono (r:cw k A) (h:j<=k):cw j A:=⟨r.hd,by have:=r.dp;omega,by have:=r.un;omega,r.gd⟩
theorem cw.deeper {k:Nat}{A:Around}(r:cw (k+1) A) (env:Env):cw k (A.deeper env):=
 ⟨r.hd,by have:=r.dp;show A.depth+1+3*k+5<_;omega,by have:=r.un;show A.units+3+16*k+200<_;omega,by first|exact r.gd|(rw[<-r.gd];first|rfl|simp[Around.under,Code.isGuard,guardIds])⟩
theorem cw.depth {k:Nat}{A:Around}(r:cw k A):A.depth<recursionLimit:=by have:=r.dp;omega
theorem cw.units {k:Nat}{A:Around}(r:cw k A):A.units+64<cLine:=by have:=r.un;omega
def zE:TA:=λ_ H Q=>Q [] H
def zF (ta:TE) (tr:TA):TA:=λσ H Q=>ta σ H λx H1=>tr σ H1 λxs H2=>Q (x::xs) H2
section
variable {es : List Expr} {te : TE} {t : TA} 
theorem jG:PA X [] zE:=λ_ _ _ _ H Q I h=>t6 ⟨[],H,I,.nil,h⟩
theorem g9 (ha:PE X e te) (hr:PA X es t) (hs:starEach (e::es) X.env=(false,eval e X.env)::starEach es X.env:=by rfl):PA X (e::es) (zF te t):=by
 intro pos pins s σ H Q I h;rw[hs];show wpAny _ _ (spliced ((false,eval e X.env)::backTo pos (starEach es X.env))) _ _ s;refine sh (ao (ha pins s σ H _ I h) λu s1 ⟨x,H1,I1,r1,q1⟩=>?_);exact ao (hr pos pins s1 σ H1 _ I1 q1) λus s2 ⟨xs,H2,I2,r2,q2⟩=>⟨x::xs,H2,I2,.cons r1 r2,q2⟩
def aaK (t:TA):TE:=λσ H Q=>t σ H λxs H1=>xs.length<=sizeLine /\ ∀ p,H1 p=none->Q (.ref p) (upd H1 p (.tup xs))
def aaL (t:TA):TE:=λσ H Q=>t σ H λxs H1=>xs.length<=sizeLine /\ ∀ p,H1 p=none->Q (.ref p) (upd H1 p (.lst xs))
theorem Dw {x1}(h:PA X es t):PE X (.Tuple es x1 pos) (aaK t):=by
 intro pins s σ H Q I hq;refine wpAny_Tuple_spliced (ao (h pos pins s σ H _ I hq) λus s1 ⟨xs,H1,I1,r,z,q⟩=>⟨by rw[<-r.length];exact z,?_⟩);have hf:H1 s1.heap.objs.size=none:=I1.ar.fresh (ak _);refine⟨.ref s1.heap.objs.size,upd H1 s1.heap.objs.size (.tup xs),I1.laid (t':=s1.toks) (λb u e=>aC _ e) (ak _) ?_,rfl,q _ hf⟩;exact⟨z,us,r,⟨_,aR _ rfl,rfl,_,rfl⟩⟩
theorem Ro (h:PA X es t):PE X (.List es pos) (aaL t):=by
 intro pins s σ H Q I hq;refine wpAny_List_spliced (ao (h pos pins s σ H _ I hq) λus s1 ⟨xs,H1,I1,r,z,q⟩=>⟨by rw[<-r.length];exact z,?_⟩);have hf:H1 s1.heap.objs.size=none:=I1.ar.fresh (ak _);refine⟨.ref s1.heap.objs.size,upd H1 s1.heap.objs.size (.lst xs),I1.laid (t':=s1.toks) (λb u e=>aC _ e) (ak _) ?_,rfl,q _ hf⟩;exact⟨z,us,0,r,aR _ rfl⟩
end
noncomputable abbrev Sp:=List V->Hp->VK->XK->Prop
noncomputable abbrev nR:=List Env->Hp->Shared->XK->Value->Shared->Prop
structure zG (P:Program) (w:World) (K:PySem.W.Frag) (mg:Str->Option Value) (base:Heap) (A:Around) (outer:List Env) (s:Shared) (H:Hp):Prop where
 frames:A.frames=some outer
 mod:Mod K mg base
 bs:∀ b o,base.get? b=some o->s.heap.get? b=some o /\ H b=none
 ua:base.objs.size<=s.heap.objs.size
 pH:s.heap.FunFrames base outer
 vG:∀ b∈nh outer,H b=none
 ar:bV P w H s.heap
 bare:AllBare s.gens
def CE (outer:List Env) (P:Program) (w:World) (H:Hp) (s:Shared) (Q:VK) (u:Value) (s':Shared):Prop :=
 ∃ v H',s'.os=s.os /\ AllBare s'.gens /\ Un (nh outer) [] H H' s.heap s'.heap /\ bV P w H' s'.heap /\ RelV v u /\ Q v H'
def CR (CX:nR) (outer:List Env) (P:Program) (w:World) (H:Hp) (s:Shared) (Q:VK) (E:XK) (r:Result) (s':Shared):Prop :=
 match r with
 |.ok (.ret u)=>CE outer P w H s Q u s'
 |.ok _=>False
 |.error e=>CX outer H s E e s'
structure eO (P:Program) (w:World) (K:PySem.W.Frag) (mg:Str->Option Value) (base:Heap) (CX:nR) (k:Nat) (f:Addr) (fd:FuncData) (ps:List Str) (sp:Sp):Prop where
 len:∀ vs H Q E,sp vs H Q E->vs.length=ps.length
 run:∀ (A:Around) (outer:List Env) (s:Shared) (H:Hp) (args:Args) (us:List Value) (vs:List V) (Q:VK) (E:XK),cw k A->zG P w K mg base A outer s H->BindsTo s fd args (ps.zip us)->Vals vs us->sp vs H Q E ->
  codeAny (model P w) A (.call (.ref f) args) (CR CX outer P w H s Q E) s
theorem eO.mono {P:Program}{w:World}{K:PySem.W.Frag}{mg:Str->Option Value}{base:Heap}{CX:nR}{j k:Nat}{f:Addr}{fd:FuncData}{ps:List Str}{sp:Sp}(F:eO P w K mg base CX j f fd ps sp) (h:j<=k) :
 eO P w K mg base CX k f fd ps sp:=⟨F.len,λA outer s H args us vs Q E hr=>F.run A outer s H args us vs Q E (hr.mono h)⟩
section
variable {s' : Shared}
theorem Inv.aaM (I:Inv X pins σ H s):zG X.prog X.w X.K X.mg X.base X.A X.stack s H :=
 ⟨I.ok.frames,I.ok.mod,I.bs,bc I.ok.ua I.sz,I.stack,I.Xp,I.ar,I.bare⟩
theorem Inv.after {Q:VK}(I:Inv X pins σ H s) (h:CE X.stack X.prog X.w H s Q u s'):EP X pins σ Q u s':=by
 obtain⟨v,H',os,bare,un,ar,r,q⟩:=h;obtain⟨hh,g,d,t,Kj⟩:=s';obtain rfl:Kj=s.os:=os;exact⟨v,H',I.call (h':=hh) (g':=g) (d':=d) (t':=t) (ch:=[]) un ar bare (λb z=>absurd z (by simp)),r,q⟩
end
def XO (sp:Sp) (qZ:List V) (E:XK) (t:TA):TE:=λσ H Q=>t σ H λvs H1=>sp (vs++qZ) H1 Q E
def Binds (K:PySem.W.Frag) (fd:FuncData) (ps:List Str) (ds:List Value):Prop :=
 ∀ (s:Shared) (us:List Value),K.In s.heap->(us++ds).length=ps.length->BindsTo s fd ⟨us,[]⟩ (ps.zip (us++ds))
theorem Binds.all {ps:List Str}(h:∀ us:List Value,us.length=ps.length->bindArgs fd ⟨us,[]⟩=pure (ps.zip us)):Binds K fd ps []:=λs us _ hl=>by
 rw[qO]at hl ⊢;exact .of_eq (h us hl)
def Passes (CX:nR) (X:Cx) (E:XK):Prop:=∀ (pins:List (Addr×Obj)) (σ:St) (H:Hp) (s:Shared) (e:Value) (s':Shared),Inv X pins σ H s->CX X.stack H s E e s'->X.xe e s'
section
variable {CX : nR} {f C : Addr} {ps : List Str} {sp : Sp} {qZ : List V} {ds : List Value} {E : XK} {m : Str} {p : Pos} {o : Expr} {es : List Expr} {ta : TE} {t : TA}
theorem Rp {Q:VK}{vs:List V}(F:eO X.prog X.w X.K X.mg X.base CX k f fd ps sp) (hr:cw k X.A) (hb:Binds X.K fd ps ds) (hd:Vals qZ ds) (hx:Passes CX X E)
 (I:Inv X pins σ H s) (r:Vals vs us) (h:sp (vs++qZ) H Q E):wpAny (model X.prog X.w) X.A (call (.ref f) us) (EP X pins σ Q) X.xe s:=by
 have r2:Vals (vs++qZ) (us++ds):=r.append hd;have hl:(us++ds).length=ps.length:=by rw[<-r2.length];exact F.len _ _ _ _ h
 refine wpAny_call (u6 (F.run X.A X.stack s H ⟨us,[]⟩ (us++ds) (vs++qZ) Q E hr I.aaM (hb s us I.dz hl) r2 h) λr s' hq=>?_);cases r with
 |error e=>exact hx pins σ H s e s' I hq
 | ok fl =>
   cases fl with
   |ret u=>exact I.after hq
   |next=>exact False.elim hq
   |brk=>exact False.elim hq
   |cont=>exact False.elim hq
theorem NF (F:eO X.prog X.w X.K X.mg X.base CX k f fd ps sp) (hr:cw k X.A) (hg:Gl X x) (hm:X.mg x=some (.ref f)) (hk:PySem.W.keepIn X.K (.ref f)=true) (hb:Binds X.K fd ps ds) (hd:Vals qZ ds) (hx:Passes CX X E)
 (ha:PA X (e::es) t) (cx:(x==("__debug__":Str))=false:=by decide) (he:starEach (e::es) X.env=(false,eval e X.env)::starEach es X.env:=by rfl) (ed:(backTo pos (starEach es X.env)).any (·.1)=false:=by rfl) :
 PE X (.Call (.Name x p) (e::es) [] pos) (XO sp qZ E t):=by
 intro pins s σ H Q I h;refine k8 (Fy I hg hm ?_ cx);refine PySem.W.callWith_K (h₀:=X.base) I.ok.mod.IQ hk (ao (ha pos pins s σ H _ I h) λus s1 ⟨vs,H1,I1,r,q⟩=>⟨I1.dz,?_⟩) he ed;exact Rp F hr hb hd hx I1 r q
end
section
variable {CX : nR} {f C : Addr} {ps ks : List Str} {sp : Sp} {E : XK} {m : Str} {p aeT : Pos} {o : Expr} {es : List Expr} {aeU : List Keyword} {te ta : TE} {t tk : TA} {nm : Option Str}
variable {g : List Value -> List Value -> List Value} {gV : List V -> List V -> List V}
end
structure vM (N P:List Str) (sc:Scope):Prop where
 kind:sc.kind=.function
 co:sc.isCoroutine=false
 gen:sc.isGenerator=false
 nd:N.Nodup
 pre:N.take P.length=P
 par:∀ x∈P,sc.names.lookup x=some .local \/ sc.names.lookup x=some .cell
 aaN:∀ y∈sc.names,y.2≠.free
theorem Ba {kindOf:Str->Option NameKind}{x:Str}:∀ {binds:List (Str×Value)}{m:Str->Option Value},(∀ v,(x,v)∉binds)->bindL kindOf binds m x=m x
 |[],_,_=>rfl
 | (n,v)::r,m,h=>by
   unfold bindL;rw[Ba λw hw=>h w (bF _ hw)];split
   ·have:x≠n:=by rintro rfl;exact h v bQ
    simp[this]
   ·rfl
theorem Bb {kindOf:Str->Option NameKind}{x:Str}:∀ {binds:List (Str×Value)}{m:Str->Option Value},(∀ v,(x,v)∉binds)->bindC kindOf binds m x=m x
 |[],_,_=>rfl
 | (n,v)::r,m,h=>by
   unfold bindC;rw[Bb λw hw=>h w (bF _ hw)];split
   ·rfl
   ·have:x≠n:=by rintro rfl;exact h v bQ
    simp[this]
theorem Bc {kindOf:Str->Option NameKind}{x:Str}{v:Value}:∀ {P:List Str}{vs:List Value}{i:Nat}{m:Str->Option Value},P.Nodup->P[i]?=some x->vs[i]?=some v->kindOf x=some .local ->
 bindL kindOf (P.zip vs) m x=some v
 |[],_,_,_,_,h,_,_=>by simp at h
 |_::_,[],_,_,_,_,h,_=>by simp at h
 | p::P,w::vs,0,m,nd,h1,h2,hk=>by
   simp at h1 h2;subst h1;subst h2;show bindL kindOf ((p,w)::P.zip vs) m p=_;unfold bindL;rw[Ba λv hv=>(qT.mp nd).1 (HG hv).1,if_pos hk];simp
 | p::P,w::vs,i+1,m,nd,h1,h2,hk=>by
   show bindL kindOf ((p,w)::P.zip vs) m x=_;unfold bindL;exact Bc (i:=i) (qT.mp nd).2 (by simpa using h1) (by simpa using h2) hk
theorem Bd {kindOf:Str->Option NameKind}{x:Str}{v:Value}:∀ {P:List Str}{vs:List Value}{i:Nat}{m:Str->Option Value},P.Nodup->P[i]?=some x->vs[i]?=some v->kindOf x≠some .local ->
 bindC kindOf (P.zip vs) m x=some v
 |[],_,_,_,_,h,_,_=>by simp at h
 |_::_,[],_,_,_,_,h,_=>by simp at h
 | p::P,w::vs,0,m,nd,h1,h2,hk=>by
   simp at h1 h2;subst h1;subst h2;show bindC kindOf ((p,w)::P.zip vs) m p=_;unfold bindC;rw[Bb λv hv=>(qT.mp nd).1 (HG hv).1,if_neg hk];simp
 | p::P,w::vs,i+1,m,nd,h1,h2,hk=>by
   show bindC kindOf ((p,w)::P.zip vs) m x=_;unfold bindC;exact Bd (i:=i) (qT.mp nd).2 (by simpa using h1) (by simpa using h2) hk
noncomputable def start (N:List Str) (vs:List V):St:=vs.map some++List.replicate (N.length-vs.length) none
noncomputable def sF (CX:nR) (P:Program) (w:World) (K:PySem.W.Frag) (mg:Str->Option Value) (base:Heap) (N:List Str) (qual:Str) (scope:Scope) (f:Addr) (cd:Value) (A:Around) (outer:List Env) (s:Shared) (H:Hp) (E:XK):Cx where
 prog:=P
 w:=w
 K:=K
 mg:=mg
 base:=base
 A:=A.deeper (envOfC qual scope s.heap.objs.size f cd)
 N:=N
 s₀:=s
 H₀:=H
 env:=envOfC qual scope s.heap.objs.size f cd
 outer:=outer
 stack:=envOfC qual scope s.heap.objs.size f cd::outer
 ex:=[]
 calm:=true
 fn:=λ_=>true
 pn:=[]
 xe:=λe s'=>wpAny (model P w) (A.deeper (envOfC qual scope s.heap.objs.size f cd)) (leaving (envOfC qual scope s.heap.objs.size f cd) e) (λ_ Kk=>CX outer H s E e Kk) (λe' Kk=>CX outer H s E e' Kk) s'
theorem Ae {sc:Scope}(h:sc.names.lookup x=some .cell):∃ c,(cellsFrom n sc.names []).lookup x=some c:=by
 have q:=WV sc.names n [] (.inl h);exact Option.isSome_iff_exists.mp q
theorem G1 {CX:nR}{ps:List Str}{qual:Str}{scope:Scope}{f:Addr}{cd:Value}{outer:List Env}{s1:Shared}{E:XK}{vs:List V}
 (S:vM N ps scope) (hd:A.handled=none) (e0:zG P w K mg base A outer s H) (hl:vs.length=ps.length) (r:Vals vs us)
 (x:InCallC s s.heap.objs.size (bindL (envOfC qual scope s.heap.objs.size f cd).kindOf (ps.zip us) λ_=>none) (cellsFrom (s.heap.objs.size+1) scope.names []) (bindC (envOfC qual scope s.heap.objs.size f cd).kindOf (ps.zip us) λ_=>none) s1) :
 Inv (sF CX P w K mg base N qual scope f cd A outer s H E) [] (start N vs) H s1:=by
 have ed:ps.length<=N.length:=by have:=congrArg List.length S.pre;rw[se]at this;omega
 obtain⟨h1,tk,rfl,hk⟩:=x.done;have xg:∀ b:Addr,b∉(sF CX P w K mg base N qual scope f cd A outer s H E).ex:=λb z=>absurd (show b∈([]:List Addr) from z) (by simp);refine⟨⟨e0.mod,S.kind,rfl,rfl,ak _,λy z c h1 h2=>?_,λy hy=>?_,λy c _ h=>?_,λ_=>hd,Around.frames_deeper e0.frames,.inr ⟨rfl,rfl⟩,λb z=>absurd z (xg b),e0.bs,e0.ua,λb _ _=>xg b,λb z=>absurd z (xg b),e0.pH,e0.vG⟩,
  rfl,e0.bare,Un.kept hk,⟨_,x.toInCall.ns,λi y v h1 h2 h3=>?_⟩,λy c h=>⟨_,x.cell y c h⟩,e0.ar.fresh (ak _),λy c h=>?_,λp hp=>absurd (show p∈([]:List (Addr×Obj)) from hp) (by simp),e0.ar.kept hk,?_⟩
 ·exact Vy x.apart (kE h1) (kE h2)
 ·have hy:scope.names.lookup y=some .cell \/ scope.names.lookup y=some .free:=hy;rcases hy with hy|hy
  ·exact Ae hy
  ·exact absurd rfl (S.aaN _ (kE hy))
 ·exact ke (x.above y c (kE h))
 ·have hi:i<vs.length:=by
   unfold start at h2;by_cases hi:i<vs.length
   ·exact hi
   ·rw[cU (by simpa using hi)]at h2;rw[V9]at h2;split at h2<;>cases h2
  have ha:vs[i]?=some v:=by
   unfold start at h2;rw[dt (by simpa using hi),kg]at h2;cases e:vs[i]? with
   |none=>rw[e]at h2;cases h2
   |some a=>rw[e]at h2;cases h2;rfl
  obtain⟨u,hu,rv⟩:=r.get ha;have hp:ps[i]?=some y:=by
   rw[<-S.pre,Wa (by omega)];exact h1
  have XQ:ps.Nodup:=by rw[<-S.pre];exact S.nd.sublist (Wb _ _)
  refine⟨u,rv,?_⟩;rcases S.par y (yX hp) with k|k
  ·exact .inl ⟨k,Bc XQ hp hu k⟩
  ·obtain⟨c,e⟩:=Ae (n:=s.heap.objs.size+1) k;refine .inr ⟨.inl k,c,e,?_⟩;have q:=x.cell y c e;rw[Bd XQ hp hu (by show scope.names.lookup y≠_;rw[k];decide)]at q;exact q
 ·exact e0.ar.fresh (ke (x.above y c (kE h)))
 ·unfold start;show _=N.length;rw[cb,aF,HJ];omega
theorem TB {CX:nR}{f:Addr}{name qual:Str}{params:Arguments}{body:List Stmt}{scope:Scope}{dV kV doc pm aZ ct oc:Value}{an od:Option Addr}
 {ps:List Str}{sp:Sp}(lk:K.lookup f=some ⟨oc,od,.func (PySem.W.fnOf name qual params body scope dV kV doc pm an aZ ct),nG⟩) (nj:PySem.W.codeIn K aZ qual=true) (S:vM N ps scope)
  (len:∀ vs H Q E,sp vs H Q E->vs.length=ps.length)
  (ud:∀ (A:Around) (outer:List Env) (s:Shared) (H:Hp) (vs:List V) (Q:VK) (E:XK),cw k (A.deeper (envOfC qual scope s.heap.objs.size f aZ))->sp vs H Q E ->
   ∃ t,dR (sF CX P w K mg base N qual scope f aZ A outer s H E) body t /\ t { nx:=λ_ H'=>Q .aq H',rt:=Q } (start N vs) H) :
  eO P w K mg base CX (k+1) f (PySem.W.fnOf name qual params body scope dV kV doc pm an aZ ct) ps sp:=by
  refine⟨len,λA outer s H args us vs Q E hr e0 hb r vN=>?_⟩;have hl:=len _ _ _ _ vN;have KX:K.In s.heap:=e0.mod.IQ.keeps λb o e=>(e0.bs b o e).1;have lim:s.heap.NoLimit:=e0.mod.nolimit.keeps λb o e=>(e0.bs b o e).1;have aaO:∀ y∈ps.zip us,scope.names.lookup y.1=some .local \/ (scope.names.lookup y.1=some .cell /\ ((cellsFrom (s.heap.objs.size+1) scope.names []).lookup y.1).isSome=true):=λ⟨n,v⟩ hy=>by
   rcases S.par n (HG hy).1 with q|q
   ·exact .inl q
   ·exact .inr ⟨q,WV _ _ _ (.inl q)⟩
  refine codeAny_call_function hr.depth (KX _ _ lk) rfl S.co S.gen rfl (PySem.W.codeRec_of KX nj) (hb _ _ _ _ ?_);refine wpAny_newFunctionEnv_cells S.kind aaO λenv he s1 x=>?_;subst he;refine⟨lim.keeps x.toInCall.keep,codeAny_func ?_⟩;obtain⟨t,ht,hq⟩:=ud A outer s H vs Q E (hr.deeper _) vN;have I:Inv (sF CX P w K mg base N qual scope f aZ A outer s H E) [] (start N vs) H s1:=G1 S hr.hd e0 hl r x;refine c6 (ht [] s1 (start N vs) H _ I hq) (λfl s' hs=>?_) λe s' hs=>hs;have fin:∀ {σ':St}{H':Hp}{v:V}{u:Value},Inv (sF CX P w K mg base N qual scope f aZ A outer s H E) [] σ' H' s'->RelV v u->Q v H'->CE outer P w H s Q u s' :=
   λ{σ' H' v u} J rv q=>⟨v,H',J.os,J.bare,J.base,J.ar,rv,q⟩
  cases fl with
  | ret u =>
    obtain⟨v,σ',H',J,rv,q⟩:=hs;exact fin J rv q
  | next =>
    obtain⟨σ',H',J,q⟩:=hs;exact fin (v:=V.aq) (u:=Value.none) J rfl q
  | brk =>
    obtain⟨_,_,_,q⟩:=hs;exact False.elim q
  | cont =>
    obtain⟨_,_,_,q⟩:=hs;exact False.elim q
end L2
variable {CX : L2.nR}
namespace L2
open PySem PySem.Spec PyProof.Rows
section
variable {p : Pos} {es : List Expr} {t : TA} {id T : String} {r : List V -> Hp -> VK -> Prop}
def vO (r:List V->Hp->VK->Prop) (t:TA):TE:=λσ H Q=>t σ H λvs H1=>r vs H1 Q
theorem jz (hc:dA X (.builtin id) r) (hg:Gl X x) (hm:X.mg x=none) (hv:bootBuiltins x=some (.builtin id)) (ha:PA X (e::es) t) (hn:x ≠ "__name__":=by decide) (cx:(x==("__debug__":Str))=false:=by decide)
 (he:starEach (e::es) X.env=(false,eval e X.env)::starEach es X.env:=by rfl) (ed:(backTo pos (starEach es X.env)).any (·.1)=false:=by rfl):PE X (.Call (.Name x p) (e::es) [] pos) (vO r t):=by
 intro pins s σ H Q I h;refine k8 (gM I hg hm hv ?_ hn cx);exact Zt (ao (ha pos pins s σ H _ I h) λus s1 ⟨vs,H1,I1,r1,q1⟩=>hc pins s1 σ H1 vs us Q I1 r1 q1) he ed
theorem G2 (hc:dA X (.type T) r) (hg:Gl X x) (hm:X.mg x=none) (hv:bootBuiltins x=some (.type T)) (ha:PA X (e::es) t) (hn:x ≠ "__name__":=by decide) (cx:(x==("__debug__":Str))=false:=by decide)
 (he:starEach (e::es) X.env=(false,eval e X.env)::starEach es X.env:=by rfl) (ed:(backTo pos (starEach es X.env)).any (·.1)=false:=by rfl):PE X (.Call (.Name x p) (e::es) [] pos) (vO r t):=by
 intro pins s σ H Q I h;refine k8 (gM I hg hm hv ?_ hn cx);exact vq (ao (ha pos pins s σ H _ I h) λus s1 ⟨vs,H1,I1,r1,q1⟩=>hc pins s1 σ H1 vs us Q I1 r1 q1) he ed
end
end L2
namespace HT
open PySem PyProof.Rows
noncomputable def lexLt:List Int->List Int->Bool
 |[],[]=>false
 |[],_::_=>true
 |_::_,[]=>false
 |x::xs,y::ys=>if x=y then lexLt xs ys else decide (x<y)
theorem fG (x y:Int) (xs ys:List Int):lexLt (x::xs) (y::ys)=if x=y then lexLt xs ys else decide (x<y):=rfl
theorem lT:lexLt [] []=false:=rfl
theorem Af (y:Int) (ys:List Int):lexLt [] (y::ys)=true:=rfl
theorem Ag (x:Int) (xs:List Int):lexLt (x::xs) []=false:=rfl
theorem Lc (A:Around) (s:Shared) (a:Int) (t:Tok) (c:Int) (u:Tok):∃ e,SeqAt.EqAt A s (.int a t) (.int c u) e /\ (e=true ↔ a=c):=
 ⟨(a==c),Xh a t c u,by simp⟩
theorem Ld (A:Around) (s:Shared) (a:Int) (t:Tok) (c:Int) (u:Tok) (prog:Program) (w:World) (E:Value->Shared->Prop) (Q:Value->Shared->Prop) (h:Q (.bool (decide (a<c))) s) :
 wpAny (model prog w) A (richCompare .Lt (.int a t) (.int c u)) Q E s :=
 (WD h:wpAny (model prog w) A (compareOp .Lt (.int a t) (.int c u)) Q E s)
section
open PySem.SeqAt
open PySem.AutoSeq1 (wpAny_loadPart')
open PySem.MeetsSeq PySem.MeetsSeq2 PySem.MeetsSeq3
theorem AX (l b:Addr) (items ql:Array Value) (n n2:Nat) (dd sH:Option Addr) (sl sI:Array (Option Value)) (ns ms:List Int) (hi:IntsAre items.toList ns) (hj:IntsAre ql.toList ms) :
 Meets (Builtin.«tuple.__lt__» ⟨[.ref l,.ref b],[]⟩)
  (λ_ R s=>s.heap.get? l=some { cls:=.type "tuple",dict:=dd,data:=.seq items n,slots:=sl } /\ s.heap.get? b=some { cls:=.type "tuple",dict:=sH,data:=.seq ql n2,slots:=sI } /\
   R (.ok (.ret (.bool (lexLt ns ms)))) s):=
 .of_wp λprog w A R s h=>by
  obtain⟨hp,g,d,tk,os⟩:=s;obtain⟨hl,hb,h⟩:=h;have f2:=Z3;have z1:items.size=ns.length:=by rw[<-hi.length];simp
  have z2:ql.size=ms.length:=by rw[<-hj.length];simp
  wp_walk using wpAny_loadPart' hl,wpAny_loadPart' hb,wpAny_forIn_list _ (λrest b s'=>b.1=none /\ s'=⟨hp,g,d,tk,os⟩ /\ ∃ (vs ws:List Value) (aW nu:List Int),rest=vs.zip ws /\
   IntsAre vs aW /\ IntsAre ws nu /\ aW.length+ql.size=nu.length+items.size /\ R (.ok (.ret (.bool (lexLt aW nu)))) ⟨hp,g,d,tk,os⟩) _
  case turn =>
   rintro⟨y,x⟩ rest b s' ⟨Kl,rfl,vs,ws,aW,nu,hz,Km,zH,hlen,hR⟩;cases Km with
   |nil=>rw[Wc]at hz;cases hz
   | cons a t aaP =>
     cases zH with
     |nil=>rw[Wd]at hz;cases hz
     | cons c u aaQ =>
       rw[HK]at hz;injection hz with aaR aaS;injection aaR with hy hx;subst hy hx;rw[fG]at hR;simp only[bA]at hlen;obtain⟨e,he,XR⟩:=Lc A.in1 ⟨hp,g,d,tk,os⟩ a t c u;refine ae (he prog w _ _ ?_);cases e with
       | true =>
         rw[if_pos (XR.mp rfl)]at hR
         wp_walk
         exact⟨rfl,rfl,_,_,_,_,aaS,aaP,aaQ,by omega,hR⟩
       | false =>
         rw[if_neg (λq=>absurd (XR.mpr q) b9)]at hR;have aaT:=Ld A.in1 ⟨hp,g,d,tk,os⟩ a t c u prog w
         wp_walk using aaT
         exact⟨_,rfl,by simpa using hR⟩
  case fin =>
   rintro⟨b1,b2⟩ s' ⟨Kl,rfl,vs,ws,aW,nu,hz,Km,zH,hlen,hR⟩;simp only at Kl;subst Kl;have hv:lexLt aW nu=decide (items.size<ql.size):=by
    cases Km with
    | nil =>
      cases zH with
      | nil =>
        simp only[kF]at hlen;rw[lT];exact(decide_eq_false (by omega)).symm
      | cons c u hw =>
        simp only[kF,bA]at hlen;rw[Af];exact(decide_eq_true (by omega)).symm
    | cons a t hv =>
      cases zH with
      | nil =>
        simp only[kF,bA]at hlen;rw[Ag];exact(decide_eq_false (by omega)).symm
      | cons c u hw =>
        rw[HK]at hz;cases hz
   rw[hv]at hR
   wp_walk
   exact⟨_,rfl,by simpa[Builtin.Tuple.tupleCompareSizes] using hR⟩
  case h =>
   exact⟨rfl,rfl,items.toList,ql.toList,ns,ms,rfl,hi,hj,by omega,h⟩
end
theorem Ah {l b:Addr}{ql:Array Value}{ms:List Int}(hl:IsTup s.heap l items) (hb:IsTup s.heap b ql) (hi:IntsAre items.toList ns) (hj:IntsAre ql.toList ms)
 (hu:A.units<cLine) (h:Q (.bool (lexLt ns ms)) s):wpAny (model prog w) A (compareOp .Lt (.ref l) (.ref b)) Q E s:=by
 obtain⟨⟨cls,dd,data,sl⟩,ho,hc,n,hd⟩:=id hl;obtain⟨⟨XS,sH,data2,sI⟩,qm,e6,n2,hd2⟩:=id hb;simp only at hc hd e6 hd2;subst hc hd e6 hd2;exact richCompare_meets_room (op:=.Lt) ⟨_,ho,rfl⟩ ⟨_,qm,rfl⟩ PySem.F.slot_tuple_lt PySem.F.entry_tuple_lt (PySem.F.args_tuple_lt_2 _ _) (AX l b items ql n n2 dd sH sl sI ns ms hi hj)
  ⟨ho,qm,show Value.bool (lexLt ns ms)≠Value.notImplemented /\ Q (.bool (lexLt ns ms)) s from⟨(λx=>nomatch x),h⟩⟩ hu
theorem NG {t b:Addr}{ws:List Value}(ht:IsTup s.heap t vs.toArray) (hb:IsTup s.heap b ws.toArray) (hv:vs≠[])
 (h1:ws=[]->Q (.ref t) s) (h2:ws≠[]->Q (.ref s.heap.objs.size) { s with heap:=s.heap.push { cls:=.type "tuple",data:=.seq (vs++ws).toArray } })
 (hsz:vs.length+ws.length<=sizeLine):wpAny (model prog w) A (binaryOp .Add (.ref t) (.ref b)) Q E s:=by
 obtain⟨⟨cls,dd,data,sl⟩,ho,hc,n,hd⟩:=id ht;obtain⟨⟨XS,sH,data2,sI⟩,qm,e6,n2,hd2⟩:=id hb;simp only at hc hd e6 hd2;subst hc hd e6 hd2;have e:vs.toArray++ws.toArray=(vs++ws).toArray:=by simp
 by_cases hw:ws=[]
 ·exact Hk ⟨_,ho,rfl⟩ ⟨_,qm,rfl⟩ Hl Hm IF IG (IH _ _)
   (tuple_addW1 t b vs.toArray ws.toArray n n2 dd sH sl sI (by simpa using hv) (by simp[hw])) ⟨ho,qm,h1 hw⟩
 ·refine Hk ⟨_,ho,rfl⟩ ⟨_,qm,rfl⟩ Hl Hm IF IG (IH _ _)
   (tuple_addW2 t b vs.toArray ws.toArray n n2 dd sH sl sI (by simpa using hv) (by simpa using hw) (by rw[aU,aU];exact hsz)) ⟨ho,qm,?_⟩
  rw[e];exact h2 hw
noncomputable def aE (n d:Nat):Option Int->Nat
 |none=>d
 |some v=>if v<0 then (v+(n:Int)).toNat else min v.toNat n
theorem Cn (n d:Nat):aE n d none=d:=rfl
theorem FE (n d k:Nat):aE n d (some (k:Int))=min k n:=by
 show (if (k:Int)<0 then ((k:Int)+(n:Int)).toNat else min (k:Int).toNat n)=min k n;rw[if_neg (by omega),dQ]
theorem Rq (n d:Nat) (hd:d<=n) (o:Option Int):aE n d o<=n:=by
 cases o with
 |none=>exact hd
 | some v =>
   show (if v<0 then (v+(n:Int)).toNat else min v.toNat n)<=n;by_cases hv:v<0
   ·rw[if_pos hv];omega
   ·rw[if_neg hv];exact Nat.min_le_right _ _
theorem FF (v:Int) (n d:Nat):(if v<0 then max (v+(n:Int)) 0 else min v (n:Int))=((aE n d (some v):Nat):Int):=by
 show (if v<0 then max (v+(n:Int)) 0 else min v (n:Int))=(((if v<0 then (v+(n:Int)).toNat else min v.toNat n):Nat):Int);by_cases hv:v<0
 ·simp only[if_pos hv];omega
 ·simp only[if_neg hv];omega
theorem Dx (lo hi:Option Int) (n:Nat):Builtin.Slice.sliceAdjust lo hi 1 (n:Int)=(((aE n 0 lo:Nat):Int),((aE n n hi:Nat):Int)):=by
 have h1:¬ ((1:Int)<0):=by omega
 unfold Builtin.Slice.sliceAdjust;simp only[h1,if_false];refine Prod.ext ?_ ?_
 ·cases lo with
  |none=>rfl
  |some v=>exact FF v n 0
 ·cases hi with
  |none=>rfl
  |some v=>exact FF v n n
theorem Dy (i j:Nat):Builtin.Slice.slicePlaces (i:Int) (j:Int) 1=j-i:=by
 unfold Builtin.Slice.slicePlaces;have h1:(1:Int)>0:=by omega
 simp only[h1,if_true,WO];split<;>omega
theorem Ai {v:Value}{o:Option Int}{Q:Option Int->Shared->Prop}(p:IsPart v o) (h:Q o s):wpAny (model prog w) A (Builtin.Slice.slicePartIndex v) Q E s:=by
 cases p with
 |none=>exact WE h
 |int i t=>exact slicePart_int h
theorem jA {sl:Addr}{vl vu:Value}{lo hi:Option Int}{Q:Int×Int×Nat->Shared->Prop}(hs:s.heap.IsSliceOf sl vl vu .none) (pl:IsPart vl lo) (pu:IsPart vu hi)
 (h:Q (((aE n 0 lo:Nat):Int),1,aE n n hi-aE n 0 lo) s):wpAny (model prog w) A (Builtin.Slice.sliceApplied (.ref sl) (pure (n:Int))) Q E s:=by
 obtain⟨os,ue,zI,eP⟩:=id hs;unfold Builtin.Slice.sliceApplied Builtin.Slice.sliceFields;refine ae (ae (eI ue eP (x:=vl) rfl (ae (eI ue eP (x:=vu) rfl (ae (eI ue eP (x:=.none) rfl (ag ?_)))))));refine ae (WE ?_);show wpAny _ _ (if ((1:Int)==0)=true then _ else _) _ _ s;rw[if_neg (by decide)];refine ae (Ai pl (ae (Ai pu (ae (ag ?_)))));show wpAny _ _ (match Builtin.Slice.sliceAdjust lo hi 1 (n:Int) with|(lo,hi)=>pure (lo,(1:Int),Builtin.Slice.slicePlaces lo hi 1)) _ _ s;rw[Dx lo hi n];show wpAny _ _ (pure (((aE n 0 lo:Nat):Int),(1:Int),Builtin.Slice.slicePlaces ((aE n 0 lo:Nat):Int) ((aE n n hi:Nat):Int) 1)) _ _ s;rw[Dy];exact ag h
theorem Le (xs:Array Value) (i k:Nat):((List.range k).filterMap λ(m:Nat)=>xs[((i:Int)+(m:Int)*1).toNat]?).toArray=((xs.toList.drop i).take k).toArray:=by
 have e:(λ(m:Nat)=>xs[((i:Int)+(m:Int)*1).toNat]?)=λm=>xs[i+m]?:=by
  funext m;have:((i:Int)+(m:Int)*1).toNat=i+m:=by omega
  rw[this]
 rw[e];have:=pick_run xs i k;rw[HL]at this;have e2:((λx=>xs[x]?)∘λx=>i+x)=λm=>xs[i+m]?:=rfl;rw[e2]at this;rw[this]
theorem mG {t sl:Addr}{vl vu:Value}{lo hi:Option Int}(ht:IsTup s.heap t items) (hs:s.heap.IsSliceOf sl vl vu .none) (pl:IsPart vl lo) (pu:IsPart vu hi)
 (hw:¬ (aE items.size 0 lo=0 /\ aE items.size items.size hi=items.size))
 (h:Q (.ref s.heap.objs.size) { s with heap:=s.heap.push { cls:=.type "tuple",data:=.seq ((items.toList.drop (aE items.size 0 lo)).take (aE items.size items.size hi-aE items.size 0 lo)).toArray } })
 (hsz:items.size<=sizeLine):wpAny (model prog w) A (getItem (.ref t) (.ref sl)) Q E s:=by
 have zJ:sizeOk (.seq ((items.toList.drop (aE items.size 0 lo)).take (aE items.size items.size hi-aE items.size 0 lo)).toArray):=by
  show ((items.toList.drop (aE items.size 0 lo)).take (aE items.size items.size hi-aE items.size 0 lo)).toArray.size<=sizeLine;rw[aU,se,yY,km];omega
 have hj:aE items.size items.size hi<=items.size:=Rq _ _ (ak _) hi;obtain⟨os,ue,zI,eP⟩:=id hs;have Kn:s.TypeIs (.ref sl) "slice":=⟨os,ue,zI⟩;unfold getItem;try with_reducible refine cn ?_
 first|refine ae (ag ?_)|skip
 refine ae (Vz ht.typeIs (by decide) ?_);refine ae (pq (name:=Str.ofString "__getitem__") ht.typeIs vz
  (dr vz ht.typeIs WG ?_ (WH _ _)))
 show wpAny _ _ (Builtin.Tuple.tupleItemsOf (.ref t) >>= _) _ _ s;refine ae (WI ht ?_);refine ae (tQ Kn ?_);rw[if_pos (by decide)];refine ae (jA hs pl pu ?_);have Ko:¬ ((((aE items.size 0 lo:Nat):Int)==0&&(1:Int)==1&&(aE items.size items.size hi-aE items.size 0 lo)==items.size)=true):=by
  intro q;rw[aA,aA]at q;have q1:((aE items.size 0 lo:Nat):Int)=0:=eq_of_beq q.1.1;have q2:aE items.size items.size hi-aE items.size 0 lo=items.size:=eq_of_beq q.2;exact hw ⟨by omega,by omega⟩
 show wpAny _ _ (if (((aE items.size 0 lo:Nat):Int)==0&&(1:Int)==1&&(aE items.size items.size hi-aE items.size 0 lo)==items.size)=true then _ else _) _ _ s;rw[if_neg Ko,Le];first
  |exact ae (m:=Builtin.Tuple.tupleExact _) (cS (ag ⟨_,rfl,ag h⟩) zJ)
  |exact ae (m:=Builtin.Tuple.tupleExact _) (cS (ae (ag (ag ⟨_,rfl,ag h⟩))) zJ)
  |exact ae (ae (m:=Builtin.Tuple.tupleExact _) (cS (ag (ag ⟨_,rfl,ag h⟩)) zJ))
  |exact ae (ae (m:=Builtin.Tuple.tupleExact _) (cS (ag ⟨_,rfl,ag h⟩) zJ))
end HT
namespace L2
open PySem PySem.Spec PyProof.Rows
noncomputable abbrev TO:=St->Hp->(Option Int->Hp->Prop)->Prop
def PO (X:Cx) (e:Option Expr) (t:TO):Prop :=
 ∀ (pins:List (Addr×Obj)) (s:Shared) (σ:St) (H:Hp) (Q:Option Int->Hp->Prop),Inv X pins σ H s->t σ H Q ->
  wpAny (model X.prog X.w) X.A (evalPart e X.env) (λu s'=>∃ o H',Inv X pins σ H' s' /\ IsPart u o /\ Q o H') X.xe s
noncomputable def aaU:TO:=λ_ H Q=>Q none H
noncomputable def aaV (t:TE):TO:=λσ H Q=>t σ H λx H1=>∃ i,x=.int i /\ Q (some i) H1
theorem iY:∀ {us:List Value},Vals (ns.map V.int) us->IntsAre us ns:=by
 induction ns with
 |nil=>intro us r;rw[vh]at r;cases r;exact .nil
 | cons n ns ih =>
   intro us r;rw[aS]at r;cases r with
   | cons r1 r2 =>
     obtain⟨t,e⟩:=r1;subst e;exact .cons n t (ih r2)
section
variable {te : TE} {lo hi : Option Expr} {tl th : TO} {p2 : Pos}
theorem NH:PO X none aaU:=by
 intro pins s σ H Q I h;rw[Hn];exact ag ⟨none,H,I,.none,h⟩
theorem NI (h:PE X e te):PO X (some e) (aaV te):=by
 intro pins s σ H Q I hw;rw[VA];refine ao (h pins s σ H _ I hw) λu s1 ⟨x,H1,I1,r1,q1⟩=>?_;obtain⟨i,rfl,q⟩:=q1;obtain⟨t,rfl⟩:=r1;exact⟨some i,H1,I1,.int i t,q⟩
def rf (X:Cx) (r:V->Option Int->Option Int->Hp->VK->Prop):Prop :=
 ∀ (pins:List (Addr×Obj)) (s:Shared) (σ:St) (H:Hp) (x:V) (v vl vu:Value) (lo hi:Option Int) (sl:Addr) (Q:VK),Inv X pins σ H s->RelV x v->s.heap.IsSliceOf sl vl vu .none->IsPart vl lo->IsPart vu hi->r x lo hi H Q ->
  ∃ T id,typeLookup (.type T) "__getitem__"=pure (some (.builtin id)) /\ s.TypeIs v T /\ wpAny (model X.prog X.w) X.A (getItem v (.ref sl)) (EP X pins σ Q) X.xe s
theorem rf.or {r r':V->Option Int->Option Int->Hp->VK->Prop}(h:rf X r) (h':rf X r'):rf X (λx lo hi H Q=>r x lo hi H Q \/ r' x lo hi H Q):=by
 intro pins s σ H x v vl vu lo hi sl Q I rx hs pl pu q;rcases q with q|q
 ·exact h pins s σ H x v vl vu lo hi sl Q I rx hs pl pu q
 ·exact h' pins s σ H x v vl vu lo hi sl Q I rx hs pl pu q
def aaW (r:V->Option Int->Option Int->Hp->VK->Prop) (te:TE) (tl th:TO):TE:=λσ H Q=>te σ H λx H1=>tl σ H1 λl H2=>th σ H2 λu H3=>r x l u H3 Q
theorem Lg {r:V->Option Int->Option Int->Hp->VK->Prop}(hr:rf X r) (he:PE X e te) (hl:PO X lo tl) (hu:PO X hi th):PE X (.Subscript e (.Slice lo hi none p2) pos) (aaW r te tl th):=by
 intro pins s σ H Q I h;refine Subscript_ (ao (he pins s σ H _ I h) λv s1 ⟨x,H1,I1,r1,q1⟩=>?_);refine VB (ao (hl pins s1 σ H1 _ I1 q1) λvl s2 ⟨l,H2,I2,pl,q2⟩=>ao (hu pins s2 σ H2 _ I2 q2) λvu s3 ⟨u,H3,I3,pu,q3⟩=>?_);rw[Hn];refine ag ?_;have I4:Inv X pins σ H3 { s3 with heap:=s3.heap.push { cls:=.type "slice",data:=.fields #[vl,vu,.none] } }:=I3.kept (t':=s3.toks) λb ob q=>aC _ q;obtain⟨T,id,hT,ht,hg⟩:=hr pins { s3 with heap:=s3.heap.push { cls:=.type "slice",data:=.fields #[vl,vu,.none] } } σ H3 x v vl vu l u s3.heap.objs.size Q I4 r1 (Heap.IsSliceOf.new ..) pl pu q3;show wpAny (model X.prog X.w) X.A (subscriptTail e (.Slice lo hi none p2) v (.ref s3.heap.objs.size)) (EP X pins σ Q) X.xe { s3 with heap:=s3.heap.push { cls:=.type "slice",data:=.fields #[vl,vu,.none] } };exact Ib (ops:=[.ref s3.heap.objs.size,v]) ht hT hg (by with_unfolding_all rfl)
noncomputable def sJ (xs:List V) (lo hi:Option Int):List V:=(xs.drop (HT.aE xs.length 0 lo)).take (HT.aE xs.length xs.length hi-HT.aE xs.length 0 lo)
theorem oJ (xs:List V) (lo hi:Option Int):(sJ xs lo hi).length<=xs.length:=by
 unfold sJ;rw[se,yY];omega
def XT (K:PySem.W.Frag):V->Option Int->Option Int->Hp->VK->Prop:=λx lo hi H Q=>∃ a xs,x=.ref a /\ aV K H a xs /\
 ¬ (HT.aE xs.length 0 lo=0 /\ HT.aE xs.length xs.length hi=xs.length) /\ ∀ p,H p=none->Q (.ref p) (upd H p (.tup (sJ xs lo hi)))
theorem Rr:rf X (XT X.K):=by
 intro pins s σ H x v vl vu lo hi sl Q I rx hs pl pu h;obtain⟨a,xs,rfl,hx,hw,q⟩:=h;cases rx;obtain⟨af,r,ht,hz⟩:=I.tuple hx;have hlen:af.toArray.size=xs.length:=by rw[aU];exact r.length.symm
 refine⟨"tuple",_,vz.lookup,ht.typeIs,?_⟩;refine HT.mG ht hs pl pu (by rw[hlen];exact hw) ?_ (by rw[hlen];exact hz);rw[hlen];refine⟨.ref s.heap.objs.size,_,I.laid (t':=s.toks) (o:=.tup (sJ xs lo hi)) (λb ob q=>aC _ q) (ak _) ?_,rfl,q _ (I.ar.fresh (ak _))⟩;exact⟨bc (oJ xs lo hi) hz,_,(r.drop (HT.aE xs.length 0 lo)).take (HT.aE xs.length xs.length hi-HT.aE xs.length 0 lo),IsTup.new _ _⟩
def Kq (K:PySem.W.Frag):R2:=λx y H Q=>∃ a b ns ms,x=.ref a /\ y=.ref b /\ aV K H a (ns.map V.int) /\ aV K H b (ms.map V.int) /\ Q (.bl (HT.lexLt ns ms)) H
theorem Rs (hu:X.A.units<cLine):aM X (compareOp .Lt) (Kq X.K):=by
 intro pins s σ H x y v u Q I rx ry h;obtain⟨a,b,ns,ms,rfl,rfl,ha,hb,q⟩:=h;cases rx;cases ry;obtain⟨af,r1,p1,_⟩:=I.tuple ha;obtain⟨kI,r2,p2,_⟩:=I.tuple hb;have i1:IntsAre af.toArray.toList ns:=iY r1;have i2:IntsAre kI.toArray.toList ms:=iY r2;exact HT.Ah p1 p2 i1 i2 hu ⟨.bl (HT.lexLt ns ms),H,I,rfl,q⟩
def XU (K:PySem.W.Frag):R2:=λx y H Q=>∃ a b xs ys,x=.ref a /\ y=.ref b /\ aV K H a xs /\ aV K H b ys /\ xs≠[] /\ xs.length+ys.length<=sizeLine /\
 (ys=[]->Q (.ref a) H) /\ (ys≠[]->∀ p,H p=none->Q (.ref p) (upd H p (.tup (xs++ys))))
theorem Vals.Kr {xs:List V}(r:Vals xs us):us=[] ↔ xs=[]:=by
 cases r with
 |nil=>simp
 |cons _ _=>simp
theorem NJ:aM X (binaryOp .Add) (XU X.K):=by
 intro pins s σ H x y v u Q I rx ry h;obtain⟨a,b,xs,ys,rfl,rfl,ha,hb,hx,hz,q1,q2⟩:=h;cases rx;cases ry;obtain⟨af,r1,p1,_⟩:=I.tuple ha;obtain⟨kI,r2,p2,_⟩:=I.tuple hb;refine HT.NG p1 p2 (λz=>hx (r1.Kr.mp z)) (λz=>⟨.ref a,H,I,rfl,q1 (r2.Kr.mp z)⟩) (λz=>?_) (by rw[<-r1.length,<-r2.length];exact hz);refine⟨.ref s.heap.objs.size,_,I.laid (t':=s.toks) (o:=.tup (xs++ys)) (λb ob q=>aC _ q) (ak _) ?_,rfl,q2 (λw=>z (r2.Kr.mpr w)) _ (I.ar.fresh (ak _))⟩;exact⟨by rw[cb];exact hz,_,r1.append r2,IsTup.new _ _⟩
end
noncomputable def cz (n:Nat) (i:Int):Option Nat:=if 0<=i then (if i<n then some i.toNat else none) else if -(n:Int)<=i then some (i+n).toNat else none
noncomputable def aY (xs:List α) (i:Int):Option α:=(cz xs.length i).bind λj=>xs[j]?
theorem FG {i:Int}(h:cz n i=some j):seqIndex? i n=some j /\ j<n /\ -(n:Int)<=i /\ i<n:=by
 unfold cz at h;by_cases h0:0<=i
 ·rw[if_pos h0]at h;by_cases h1:i<n
  ·rw[if_pos h1]at h;have e:i.toNat=j:=Option.some.inj h;exact⟨by rw[Ho h0 h1,e],by omega,by omega,h1⟩
  ·rw[if_neg h1]at h;cases h
 ·rw[if_neg h0]at h;by_cases h1:-(n:Int)<=i
  ·rw[if_pos h1]at h;have e:(i+n).toNat=j:=Option.some.inj h;exact⟨by rw[seqIndex_neg (by omega) h1,e],by omega,h1,by omega⟩
  ·rw[if_neg h1]at h;cases h
theorem BL {xs:List α}{i:Int}{v:α}(h:aY xs i=some v):∃ j,seqIndex? i xs.length=some j /\ xs[j]?=some v /\ j<xs.length /\ -(xs.length:Int)<=i /\ i<xs.length:=by
 unfold aY at h;cases e:cz xs.length i with
 |none=>rw[e]at h;cases h
 | some j =>
   rw[e]at h;obtain⟨h1,h2,h3,h4⟩:=FG e;exact⟨j,h1,h,h2,h3,h4⟩
def zK (b:Expr):Prop:=∀ o i,subscripted b false o i=operate [o,i] (getItem o i)
def qo (X:Cx) (r:R2):Prop :=
 ∀ (value slice:Expr) (pins:List (Addr×Obj)) (s:Shared) (σ:St) (H:Hp) (x y:V) (v u:Value) (Q:VK),Inv X pins σ H s->RelV x v->RelV y u->r x y H Q ->
  subscripted slice false v u=operate [v,u] (getItem v u)->wpAny (model X.prog X.w) X.A (subscriptTail value slice v u) (EP X pins σ Q) X.xe s
def XW (X:Cx) (id:String) (r:V->List V->Hp->VK->Prop):Prop :=
 ∀ (pins:List (Addr×Obj)) (s:Shared) (σ:St) (H:Hp) (x:V) (xs:List V) (v:Value) (us:List Value) (Q:VK),Inv X pins σ H s->RelV x v->Vals xs us->r x xs H Q ->
  wpAny (model X.prog X.w) X.A (call (.builtin id) (v::us)) (EP X pins σ Q) X.xe s
section
variable {a b : Expr} {ta tb : TE} 
theorem qo.or {r r':R2}(h:qo X r) (h':qo X r'):qo X (λx y H Q=>r x y H Q \/ r' x y H Q):=by
 intro value slice pins s σ H x y v u Q I rx ry q hs;rcases q with q|q
 ·exact h value slice pins s σ H x y v u Q I rx ry q hs
 ·exact h' value slice pins s σ H x y v u Q I rx ry q hs
theorem Lh {r:R2}(hr:qo X r) (ha:PE X a ta) (hb:PE X b tb) (hs:zK b):PE X (.Subscript a b pos) (xf r ta tb):=by
 intro pins s σ H Q I h;exact Subscript_ (Kc ha hb I h λv u s2 x y H2 I2 rx ry q=>hr a b pins s2 σ H2 x y v u Q I2 rx ry q (hs _ _))
def XX (K:PySem.W.Frag):R2:=λx y H Q=>∃ p xs i v,x=.ref p /\ y=.int i /\ bu K H p xs /\ aY xs i=some v /\ Q v H
def XY (K:PySem.W.Frag):R2:=λx y H Q=>∃ p xs i v,x=.ref p /\ y=.int i /\ aV K H p xs /\ aY xs i=some v /\ Q v H
def XZ:R2:=λx y H Q=>∃ z i c,x=.str z /\ y=.int i /\ z.length<=sizeLine /\ aY z.cps.toList i=some c /\ Q (.str ⟨#[c]⟩) H
theorem FH:qo X (XX X.K):=by
 intro value slice pins s σ H x y v u Q I rx ry h hs;obtain⟨p,xs,i,z,rfl,rfl,hq,he,q⟩:=h;cases rx;obtain⟨t,rfl⟩:=ry;obtain⟨af,r,pl,hz⟩:=I.list hq;obtain⟨j,h1,h2,h3,h4,h5⟩:=BL he;obtain⟨w,ew,xa⟩:=r.get h2;have hl:=r.length;have hn:=sD;have fin:EP X pins σ Q w s:=⟨z,H,I,xa,q⟩;by_cases h0:0<=i
 ·have hj:i.toNat=j:=by
   rw[Ho h0 h5]at h1;exact Option.some.inj h1
  exact item_listR pl.isList h0 (by omega) (by rw[hj];simpa using ew) fin hs
 ·have hj:(i+(af.toArray.size:Int)).toNat=j:=by
   rw[seqIndex_neg (by omega) h4]at h1;rw[aU,<-hl];exact Option.some.inj h1
  exact WJ (x:=w) pl.isList.typeIs slot_list_getitem.lookup
   (wpAny_getItem_list_neg (Q:=λr s'=>r=w /\ EP X pins σ Q r s') pl.isList (by omega) (by rw[aU]<;>omega) (by omega) (by rw[hj];simpa using ew) ⟨rfl,fin⟩) hs
theorem Rt:qo X (XY X.K):=by
 intro value slice pins s σ H x y v u Q I rx ry h hs;obtain⟨p,xs,i,z,rfl,rfl,hq,he,q⟩:=h;cases rx;obtain⟨t,rfl⟩:=ry;obtain⟨af,r,pl,hz⟩:=I.tuple hq;obtain⟨j,h1,h2,h3,h4,h5⟩:=BL he;obtain⟨w,ew,xa⟩:=r.get h2;have hl:=r.length;have hn:=sD;have fin:EP X pins σ Q w s:=⟨z,H,I,xa,q⟩;exact WJ (x:=w) pl.typeIs slot_tuple_getitem.lookup
  (getItem_tuple (j:=j) (Q:=λr s'=>r=w /\ EP X pins σ Q r s') pl (by omega) (by omega) (by rw[aU,<-hl];exact h1) (by simpa using ew) ⟨rfl,fin⟩) hs
theorem Ru:qo X XZ:=by
 intro value slice pins s σ H x y v u Q I rx ry h hs;obtain⟨z,i,c,rfl,rfl,hz,he,q⟩:=h;obtain⟨t,rfl⟩:=rx;obtain⟨t',rfl⟩:=ry;obtain⟨j,h1,h2,h3,h4,h5⟩:=BL he;have hl:z.cps.toList.length=z.length:=by simp[Str.length]
 rw[hl]at h1 h4 h5;have hn:=sD;exact Ib (typeIs_str s z t) slot_str_getitem.lookup (getItem_str (c:=c) (by
  have e1:decide (i < -(2 ^ 63:Int))=false:=decide_eq_false (by omega);have e2:decide (i>=2 ^ 63)=false:=decide_eq_false (by omega);rw[e1,e2,Bool.or_false]) (by rw[h1];simpa using h2) ⟨.str ⟨#[c]⟩,H,I.tok _,⟨_,rfl⟩,q⟩) hs
def X0 (K:PySem.W.Frag):R2:=λx y H Q=>XX K x y H Q \/ XY K x y H Q \/ XZ x y H Q
theorem Li:qo X (X0 X.K):=FH.or (Rt.or Ru)
theorem Dz (af:List Value) (n j:Nat) (u:Value):Obj.mapSeq (·.setIfInBounds j u) { cls:=.type "list",data:=.seq af.toArray n }={ cls:=.type "list",data:=.seq (af.set j u).toArray n }:=by
 simp[Obj.mapSeq]
theorem Inv.lst {pins:List (Addr×Obj)}{σ:St}{H:Hp}{s:Shared}{p:Addr}{xs:List V}(I:Inv X pins σ H s) (h:H p=some (.lst xs)) :
 ∃ (af:List Value) (n:Nat),Vals xs af /\ s.heap.get? p=some { cls:=.type "list",data:=.seq af.toArray n } /\ xs.length<=sizeLine:=by
 obtain⟨z,af,n,r,e⟩:=I.ar p _ h;exact⟨af,n,r,e,z⟩
theorem Inv.aaX {p:Addr}{xs ys:List V}{af its':List Value}{n':Nat}{f:Obj->Obj}(I:Inv X pins σ H s) (h:H p=some (.lst xs))
 (ho:s.heap.get? p=some { cls:=.type "list",data:=.seq af.toArray n }) (hf:f { cls:=.type "list",data:=.seq af.toArray n }={ cls:=.type "list",data:=.seq its'.toArray n' }) (r:Vals ys its') (hz:ys.length<=sizeLine) (t:Nat) :
 Inv X pins σ (upd H p (.lst ys)) { s with heap:=s.heap.update p f,toks:=t }:=by
 have e:(s.heap.update p f).get? p=some { cls:=.type "list",data:=.seq its'.toArray n' }:=by
  rw[pw f ho (by rw[hf]<;>rfl),hf]
 refine I.write (x:=p) (e:=p) (by rw[h];trivial) (.inl rfl) (λb u hb q=>(yW _ _ (Ne.symm hb)).trans q) ⟨_,e⟩ ?_;exact⟨hz,its',n',r,e⟩
def aaY:V->V->V->Hp->(Hp->Prop)->Prop:=λo i v H Q=>∃ p xs k j,o=.ref p /\ i=.int k /\ H p=some (.lst xs) /\ cz xs.length k=some j /\ Q (upd H p (.lst (xs.set j v)))
theorem Lj:Xz X aaY:=by
 intro pins s σ H o i v ov iv u Q I ro ri rv h;obtain⟨p,xs,k,j,rfl,rfl,hp,hj,q⟩:=h;cases ro;obtain⟨t,rfl⟩:=ri;obtain⟨af,n,r,ho,hz⟩:=I.lst hp;obtain⟨h1,h2,h3,h4⟩:=FG hj;have hl:=r.length;have hn:=sD;have I':Inv X pins σ (upd H p (.lst (xs.set j v))) { s with heap:=s.heap.update p (Obj.mapSeq (·.setIfInBounds j u)) } :=
  I.aaX hp ho (Dz af n j u) (r.set rv j) (by rw[qP];exact hz) s.toks
 by_cases h0:0<=k
 ·have hk:k.toNat=j:=by
   rw[Ho h0 h4]at h1;exact Option.some.inj h1
  exact PySem.W.ki_setAt ho h0 (by omega) (by rw[aU,<-hl];exact h4) (by rw[hk];exact⟨_,I',q⟩)
 ·have hk:(k+(af.toArray.size:Int)).toNat=j:=by
   rw[seqIndex_neg (by omega) h3]at h1;rw[aU,<-hl];exact Option.some.inj h1
  exact PySem.W.ki_setBack ho (by omega) (by rw[aU,<-hl];exact h3) (by omega) (by rw[hk];exact⟨_,I',q⟩)
theorem BM (lo hi:Option Int) (n:Nat):(sliceBounds lo hi none n).1=((HT.aE n 0 lo:Nat):Int) /\ (sliceBounds lo hi none n).2.1=((HT.aE n n hi:Nat):Int) /\ (sliceBounds lo hi none n).2.2=1:=by
 refine⟨?_,?_,rfl⟩
 ·cases lo with
  |none=>simp[sliceBounds,HT.aE]
  | some i =>
    simp only[sliceBounds,HT.aE,WA,show (1:Int)>0 by decide,if_true];by_cases h:i<0
    ·simp only[h,if_true]<;>omega
    ·simp only[h,if_false]<;>omega
 ·cases hi with
  |none=>simp[sliceBounds,HT.aE]
  | some i =>
    simp only[sliceBounds,HT.aE,WA,show (1:Int)>0 by decide,if_true];by_cases h:i<0
    ·simp only[h,if_true]<;>omega
    ·simp only[h,if_false]<;>omega
theorem AY (af:List Value) (lo hi:Option Int):slicePick af.toArray lo hi none=((af.drop (HT.aE af.length 0 lo)).take (HT.aE af.length af.length hi-HT.aE af.length 0 lo)).toArray:=by
 obtain⟨h1,h2,h3⟩:=BM lo hi af.toArray.size;unfold slicePick;rw[h1,h2,h3];simp only[sliceRange_one,pick_run,aU]<;>rfl
def X1 (K:PySem.W.Frag):V->Option Int->Option Int->Hp->VK->Prop:=λx lo hi H Q=>∃ a xs,x=.ref a /\ bu K H a xs /\ ∀ p,H p=none->Q (.ref p) (upd H p (.lst (sJ xs lo hi)))
theorem NK:rf X (X1 X.K):=by
 intro pins s σ H x v vl vu lo hi sl Q I rx hs pl pu h;obtain⟨a,xs,rfl,hx,q⟩:=h;cases rx;obtain⟨af,r,ht,hz⟩:=I.list hx;have hlen:=r.length;refine⟨"list",_,slot_list_getitem.lookup,ht.isList.typeIs,?_⟩;refine VC ht.isList hs pl pu .none (by simp) ?_ (by rw[aU]<;>omega);rw[AY,<-hlen];refine⟨.ref s.heap.objs.size,_,I.laid (t':=s.toks) (o:=.lst (sJ xs lo hi)) (λb ob q=>aC _ q) (ak _) ?_,rfl,q _ (I.ar.fresh (ak _))⟩;exact⟨bc (oJ xs lo hi) hz,_,0,(r.drop (HT.aE xs.length 0 lo)).take (HT.aE xs.length xs.length hi-HT.aE xs.length 0 lo),aR _ rfl⟩
noncomputable def e9:V->Bool
 |.aq=>true
 |.bl _=>true
 |.int _=>true
 |.str _=>true
 |_=>false
noncomputable def eu:V->V->Bool
 |.aq,.aq=>true
 |.bl a,.bl b=>a==b
 |.bl a,.int b=>(if a then 1 else 0)==b
 |.int a,.bl b=>a==(if b then 1 else 0)
 |.int a,.int b=>a==b
 |.str a,.str b=>a==b
 |_,_=>false
theorem Lk {y x:V}{v:Value}(ry:RelV y u) (rx:RelV x v) (fy:e9 y=true) (fx:e9 x=true):SeqAt.EqAt A s u v (eu y x):=by
 cases y with
 | aq =>
   cases ry;cases x with
   |aq=>cases rx;exact SeqAt.EqAt.same _
   |bl b=>cases rx;exact Zv b
   |int b=>obtain⟨t,rfl⟩:=rx;exact Zw b t
   |str b=>obtain⟨t,rfl⟩:=rx;exact Zx b t
   |_=>exact absurd (show false=true from fx) b9
 | bl a =>
   cases ry;cases x with
   |aq=>cases rx;exact Zy a
   |bl b=>cases rx;exact Zz a b
   |int b=>obtain⟨t,rfl⟩:=rx;exact ZA a b t
   |str b=>obtain⟨t,rfl⟩:=rx;exact ZC a b t
   |_=>exact absurd (show false=true from fx) b9
 | int a =>
   obtain⟨t',rfl⟩:=ry;cases x with
   |aq=>cases rx;exact ZD a t'
   |bl b=>cases rx;exact ZE a t' b
   |int b=>obtain⟨t,rfl⟩:=rx;exact Xh a t' b t
   |str b=>obtain⟨t,rfl⟩:=rx;exact Xf a t' b t
   |_=>exact absurd (show false=true from fx) b9
 | str a =>
   obtain⟨t',rfl⟩:=ry;cases x with
   |aq=>cases rx;exact ZF a t'
   |bl b=>cases rx;exact ZG a t' b
   |int b=>obtain⟨t,rfl⟩:=rx;exact Xg a t' b t
   |str b=>obtain⟨t,rfl⟩:=rx;exact Xi a t' b t
   |_=>exact absurd (show false=true from fx) b9
 |_=>exact absurd (show false=true from fy) b9
noncomputable def kr (x:V) (u:Value):Bool:=match u with
 |.none=>eu .aq x
 |.bool b=>eu (.bl b) x
 |.int i _=>eu (.int i) x
 |.str z _=>eu (.str z) x
 |_=>false
theorem Ll {x y:V}(r:RelV y u) (f:e9 y=true):kr x u=eu y x:=by
 cases y with
 |aq=>cases r;rfl
 |bl b=>cases r;rfl
 |int i=>obtain⟨t,rfl⟩:=r;rfl
 |str z=>obtain⟨t,rfl⟩:=r;rfl
 |_=>exact absurd (show false=true from f) b9
theorem mH {x:V}:∀ {xs:List V}{us:List Value},Vals xs us->xs.all e9=true->us.any (kr x)=xs.any λy=>eu y x
 |_,_,.nil,_=>rfl
 | y::xs,u::us,.cons r t,f=>by
   rw[pB,aA]at f;rw[wK,wK,Ll r f.1,mH t f.2]
theorem j7 {A:Around}{s:Shared}{x:V}{v:Value}(rx:RelV x v) (fx:e9 x=true):∀ {xs:List V}{us:List Value},Vals xs us->xs.all e9=true->∀ u∈us,SeqAt.EqAt A s u v (kr x u)
 |_,_,.nil,_=>λu hu=>by cases hu
 | y::xs,u::us,.cons r t,f=>λu' hu=>by
   rw[pB,aA]at f;rcases aP.mp hu with rfl|hu
   ·rw[Ll r f.1];exact Lk r rx f.1 fx
   ·exact j7 rx fx t f.2 u' hu
noncomputable def zL (x:V) (xs:List V):Bool:=xs.any λy=>eu y x
def zM (K:PySem.W.Frag) (neg:Bool):R2:=λx y H Q=>∃ p xs,y=.ref p /\ (bu K H p xs \/ aV K H p xs) /\ e9 x=true /\ xs.all e9=true /\ Q (.bl (if neg then !zL x xs else zL x xs)) H
theorem G3:aM X (compareOp .In) (zM X.K false):=by
 intro pins s σ H x y v u Q I rx ry h;obtain⟨p,xs,rfl,hq,fx,fs,q⟩:=h;cases ry;rcases hq with hq|hq
 ·obtain⟨af,r,pl,hz⟩:=I.list hq;refine SeqAt.in_listAt (kr x) pl.isList (λw hw=>j7 rx fx r fs w (by simpa using hw)) ⟨.bl _,H,I,rfl,?_⟩;rw[show af.toArray.any (kr x)=af.any (kr x) by simp,mH r fs];exact q
 ·obtain⟨af,r,pl,hz⟩:=I.tuple hq;refine SeqAt.in_tupleAt (kr x) pl (λw hw=>j7 rx fx r fs w (by simpa using hw)) ⟨.bl _,H,I,rfl,?_⟩;rw[show af.toArray.any (kr x)=af.any (kr x) by simp,mH r fs];exact q
theorem BN:aM X (compareOp .NotIn) (zM X.K true):=by
 intro pins s σ H x y v u Q I rx ry h;obtain⟨p,xs,rfl,hq,fx,fs,q⟩:=h;cases ry;rcases hq with hq|hq
 ·obtain⟨af,r,pl,hz⟩:=I.list hq;refine SeqAt.notIn_listAt (kr x) pl.isList (λw hw=>j7 rx fx r fs w (by simpa using hw)) ⟨.bl _,H,I,rfl,?_⟩;rw[show af.toArray.any (kr x)=af.any (kr x) by simp,mH r fs];exact q
 ·obtain⟨af,r,pl,hz⟩:=I.tuple hq;refine SeqAt.notIn_tupleAt (kr x) pl (λw hw=>j7 rx fx r fs w (by simpa using hw)) ⟨.bl _,H,I,rfl,?_⟩;rw[show af.toArray.any (kr x)=af.any (kr x) by simp,mH r fs];exact q
theorem jH:dA X (.builtin "len") (λxs H Q=>∃ p ys,xs=[.ref p] /\ (bu X.K H p ys \/ aV X.K H p ys) /\ Q (.int ys.length) H):=by
 intro pins s σ H xs us Q I r h;obtain⟨p,ys,rfl,hq,q⟩:=h;obtain⟨u,rfl,rx⟩:=vals1 r;cases rx;have hn:=sD;rcases hq with hq|hq
 ·obtain⟨af,r',pl,hz⟩:=I.list hq;have hlen:=r'.length;exact Calls.call_len_list pl.isList (by simp only[aU]<;>omega) ⟨.int ys.length,H,I.tok _,⟨s.toks+1,by rw[aU,hlen]⟩,q⟩
 ·obtain⟨af,r',pl,hz⟩:=I.tuple hq;have hlen:=r'.length;exact len_tuple pl (by simp only[aU]<;>omega) ⟨.int ys.length,H,I.tok _,⟨s.toks+1,by rw[aU,hlen]⟩,q⟩
theorem BO:dA X (.type "list") (λxs H Q=>∃ p ys,xs=[.ref p] /\ (bu X.K H p ys \/ aV X.K H p ys) /\ ∀ l,H l=none->Q (.ref l) (upd H l (.lst ys))):=by
 intro pins s σ H xs us Q I r h;obtain⟨p,ys,rfl,hq,q⟩:=h;obtain⟨u,rfl,rx⟩:=vals1 r;cases rx
 have fin:∀ (af:List Value),Vals ys af->ys.length<=sizeLine->∀ (h':Heap) (c':Nat),(∀ b o',s.heap.get? b=some o'->h'.get? b=some o') ->
  h'.get? s.heap.objs.size=some { cls:=.type "list",dict:=none,data:=.seq af.toArray c',slots:=#[] }->EP X pins σ Q (.ref s.heap.objs.size) { s with heap:=h' }:=λaf r' hz h' c' kp e =>
  ⟨.ref s.heap.objs.size,_,I.laid (t':=s.toks) kp (ak _) (show br X.prog X.w _ h' _ (.lst ys) from⟨hz,af,c',r',e⟩),rfl,q _ (I.ar.fresh (ak _))⟩
 rcases hq with hq|hq
 ·obtain⟨af,r',pl,hz⟩:=I.list hq;have hlen:=r'.length;obtain⟨o,ho,hc,n,hd⟩:=pl.isList;exact VD p (.inl rfl) ho hc hd (λh' c' kp e=>fin af r' hz h' c' kp e) (by simp only[aU]<;>omega)
 ·obtain⟨af,r',pl,hz⟩:=I.tuple hq;have hlen:=r'.length;obtain⟨o,ho,hc,n,hd⟩:=pl;exact VD p (.inr rfl) ho hc hd (λh' c' kp e=>fin af r' hz h' c' kp e) (by simp only[aU]<;>omega)
theorem AZ:dA X (.type "tuple") (λxs H Q=>∃ p ys,xs=[.ref p] /\ ((bu X.K H p ys /\ ∀ l,H l=none->Q (.ref l) (upd H l (.tup ys))) \/ (aV X.K H p ys /\ Q (.ref p) H))):=by
 intro pins s σ H xs us Q I r h;obtain⟨p,ys,rfl,h⟩:=h;obtain⟨u,rfl,rx⟩:=vals1 r;cases rx;rcases h with⟨hq,q⟩|⟨hq,q⟩
 ·obtain⟨af,r',pl,hz⟩:=I.list hq;have hlen:=r'.length;refine call_tuple_list pl.isList (λh' kp=>?_) (by simp only[aU]<;>omega);have I1:Inv X pins σ H { s with heap:=h' }:=I.kept (t':=s.toks) kp;have I2:Inv X pins σ (upd H h'.objs.size (.tup ys)) { s with heap:=h'.push { cls:=.type "tuple",data:=.seq af.toArray } } :=
   I1.laid (t':=s.toks) (λb o e=>aC _ e) (ak _) (show br X.prog X.w _ _ _ (.tup ys) from⟨hz,af,r',IsTup.new _ _⟩)
  exact⟨.ref h'.objs.size,_,I2,rfl,q _ (I1.ar.fresh (ak _))⟩
 ·obtain⟨af,r',pl,hz⟩:=I.tuple hq;exact call_tuple_same pl ⟨.ref p,H,I,rfl,q⟩
def X2 (K:PySem.W.Frag) (T:String) (x:V) (H:Hp):Prop:=match x with
 |.str _=>T="str"
 |.int _=>T="int"
 |.ref p=>(T="list" /\ ∃ xs,bu K H p xs) \/ (T="tuple" /\ ∃ o,K.lookup p=some o /\ o.cls=.type "tuple" /\ o.dict=none) \/
  (T="dict" /\ ((∃ ah,H p=some (.dK ah)) \/ ∃ ah,H p=some (.dT ah))) \/ (T="set" /\ ∃ S n,H p=some (.set S n))
 |_=>False
theorem Rv {T:String}{x:V}{v:Value}(I:Inv X pins σ H s) (r:RelV x v) (ty:X2 X.K T x H) :
 s.TypeIs v T /\ ∀ a,v=.ref a->∃ ob,s.heap.get? a=some ob /\ ob.dict=none:=by
 cases x with
 | str z =>
   obtain⟨t,rfl⟩:=r;cases (show T="str" from ty);exact⟨typeIs_str s z t,λ_ e=>nomatch e⟩
 | int i =>
   obtain⟨t,rfl⟩:=r;cases (show T="int" from ty);exact⟨typeIs_int s i t,λ_ e=>nomatch e⟩
 | ref p =>
   cases r;rcases ty with⟨rfl,xs,hq⟩|⟨rfl,o,hk,hc,hd⟩|⟨rfl,hk⟩|⟨rfl,S,n,hk⟩
   ·obtain⟨af,_,pl,_⟩:=I.list hq;refine⟨pl.isList.typeIs,λa e=>?_⟩;cases e;obtain⟨o,n,e,c,hd,_⟩:=pl;exact⟨o,e,hd⟩
   ·refine⟨⟨o,I.dz p o hk,hc⟩,λa e=>?_⟩;cases e;exact⟨o,I.dz _ o hk,hd⟩
   ·have z:∃ o,s.heap.get? p=some o /\ o.ExactDict:=by
     rcases hk with⟨ah,hk⟩|⟨ah,hk⟩
     ·obtain⟨_,_,_,_,o,_,_,e,ex,_⟩:=I.ar p _ hk;exact⟨o,e,ex⟩
     ·obtain⟨_,_,_,_,o,_,_,e,ex,_⟩:=I.ar p _ hk;exact⟨o,e,ex⟩
    obtain⟨o,e,ex⟩:=z;refine⟨⟨o,e,ex.1⟩,λa e2=>?_⟩;cases e2;exact⟨o,e,ex.2.1⟩
   ·obtain⟨o,_,_,_,e,ex,_⟩:=I.ar p _ hk;refine⟨⟨o,e,ex.1⟩,λa e2=>?_⟩;cases e2;exact⟨o,e,ex.2.1⟩
 |_=>exact False.elim ty
def zN (K:PySem.W.Frag) (T:String) (r:V->List V->Hp->VK->Prop) (to:TE) (t:TA):TE:=λσ H Q=>to σ H λx H1=>X2 K T x H1 /\ t σ H1 λxs H2=>r x xs H2 Q
variable {o : Expr} {es : List Expr} {to : TE} {t : TA} {name : Str} {bf : Pos} {T id : String} {r : V -> List V -> Hp -> VK -> Prop}
theorem Lm (pa:PlainAttrs T) (slot:Slot T name id) (aaZ:typeOf (.builtin id)=pure (.type "method_descriptor")) (hm:XW X id r) (ho:PE X o to) (ha:PA X (e::es) t)
 (uf:attributeBase o name X.env (eval o X.env)=eval o X.env:=by rfl)
 (ug:((backTo bf (starEach (e::es) X.env)).all (λx=>!x.1)&&(backToKw bf (keywordEach [] X.env)).all (λx=>x.1.isSome)
  && decide ((e::es).length+([]:List Keyword).length+(if ([]:List Keyword).isEmpty then 0 else 1)<30))=true:=by rfl)
 (uh:(apos.endLine==bf.line)=true:=by rfl) (hs:starEach (e::es) X.env=(false,eval e X.env)::starEach es X.env:=by rfl) (aa0:(backTo bf (starEach es X.env)).any (·.1)=false:=by rfl) :
 PE X (.Call (.Attribute o name apos) (e::es) [] bf) (zN X.K T r to t):=by
 intro pins s σ H Q I h;refine wpAny_Call_method_late uf ug uh rfl (ao (ho pins s σ H _ I h) λv s1 ⟨x,H1,I1,r1,ty,q1⟩=>?_);obtain⟨h1,h2⟩:=Rv I1 r1 ty;refine⟨T,id,pa,slot,aaZ,h1,h2,?_⟩;have hA:=ha bf pins s1 σ H1 _ I1 q1;rw[hs]at hA ⊢;refine ID (by show (false||(backTo bf (starEach es X.env)).any (·.1))=false;rw[aa0]<;>rfl) (WX ?_);exact ao hA λus s2 ⟨vs,H2,I2,r2,q2⟩=>hm pins s2 σ H2 x vs v us Q I2 r1 r2 q2
/- xs.append(e),list.index on a aeV tuple .. are XW facts of 06m -/
end
def Ks (X:Cx) (id:String) (r:V->List V->Hp->VK->Prop):Prop :=
 ∀ (pins:List (Addr×Obj)) (s:Shared) (σ:St) (H:Hp) (x:V) (xs:List V) (v:Value) (us:List Value) (Q:VK),Inv X pins σ H s->RelV x v->Vals xs us->r x xs H Q ->
  wpAny (model X.prog X.w) X.A (call (.builtin id) (v::us)) (EP X pins σ Q) X.xe s
theorem Vals.one:∀ {x:V}{us:List Value},Vals [x] us->∃ u,us=[u] /\ RelV x u
 |_,_,.cons r .nil=>⟨_,rfl,r⟩
theorem Vals.two:∀ {x y:V}{us:List Value},Vals [x,y] us->∃ u v,us=[u,v] /\ RelV x u /\ RelV y v
 |_,_,_,.cons r (.cons q .nil)=>⟨_,_,rfl,r,q⟩
theorem Vals.reverse {xs:List V}{us:List Value}(h:Vals xs us):Vals xs.reverse us.reverse:=by
 induction h with
 |nil=>exact .nil
 |cons r t ih=>rw[yZ,yZ];exact Vals.append ih (.cons r .nil)
theorem Vals.rep {xs:List V}{us:List Value}(h:Vals xs us):∀ k:Nat,Vals (List.replicate k xs).flatten (List.replicate k us).flatten
 |0=>.nil
 | k+1=>by
   rw[za,za,zb,zb];exact Vals.append h (Vals.rep h k)
section
variable {l b : Addr} {xs ys zs : List V}
theorem Inv.X3 {af its':List Value}{f:Array Value->Array Value}(I:Inv X pins σ H s) (hH:H l=some (.lst xs))
 (e:s.heap.get? l=some { cls:=.type "list",data:=.seq af.toArray n }) (hf:f af.toArray=its'.toArray) (hv:Vals ys its') (hz:ys.length<=sizeLine) :
 Inv X pins σ (upd H l (.lst ys)) { s with heap:=s.heap.update l (Obj.mapSeq f),toks:=t' }:=by
 have q:=PySem.IsL.update e f;rw[hf]at q;refine I.write (x:=l) (e:=l) (by rw[hH];exact trivial) (.inl rfl) (λb' u hb hu=>(yW s.heap (Obj.mapSeq f) (Ne.symm hb)).trans hu) ⟨_,q⟩ ?_;exact⟨hz,its',_,hv,q⟩
theorem Inv.aa1 {af:List Value}(I:Inv X pins σ H s) (hv:Vals ys af) (hz:ys.length<=sizeLine) :
 Inv X pins σ (upd H s.heap.objs.size (.lst ys)) { s with heap:=s.heap.push { cls:=.type "list",data:=.seq af.toArray },toks:=t' } :=
 I.laid (λ_ _ q=>aC _ q) (ak _) ⟨hz,af,0,hv,aR _ rfl⟩
theorem Inv.fresh (I:Inv X pins σ H s):H s.heap.objs.size=none:=I.ar.fresh (ak _)
theorem Inv.vP (I:Inv X pins σ H s) (hH:H l=some (.lst xs)):xs.length<=sizeLine /\ ∃ (af:List Value) (n:Nat),Vals xs af /\ xs.length=af.length /\ s.heap.get? l=some { cls:=.type "list",data:=.seq af.toArray n }:=by
 obtain⟨z,af,n,r,e⟩:=I.ar l _ hH;exact⟨z,af,n,r,r.length,e⟩
theorem aa2 (h:n<=sizeLine):Builtin.List.listTooLong n=false:=by
 unfold Builtin.List.listTooLong;exact decide_eq_false (by omega)
end
def X4:V->List V->Hp->VK->Prop:=λx vs H Q=>∃ l xs y,x=.ref l /\ vs=[y] /\ H l=some (.lst xs) /\ xs.length<sizeLine /\ Q .aq (upd H l (.lst (xs++[y])))
theorem m8:Ks X "list.append" X4:=by
 intro pins s σ H x vs v us Q I rx rv h;obtain⟨l,xs,y,rfl,rfl,hH,hz,q⟩:=h;cases rx;obtain⟨u,rfl,ru⟩:=rv.one;obtain⟨z,af,n,r,hl,e⟩:=I.vP hH;refine Hq F.slot_list_append ⟨_,e,rfl⟩ F.entry_list_append (F.args_list_append_2 _ _) (PySem.list_append l af.toArray n u (by rw[aU];omega)) ⟨e,?_⟩;refine⟨.aq,_,I.X3 (its':=af++[u]) hH e (by simp) (r.append (.cons ru .nil)) ?_,rfl,q⟩;rw[cb,We];omega
def X5:V->List V->Hp->VK->Prop:=λx vs H Q=>∃ l b xs zs,x=.ref l /\ vs=[.ref b] /\ H l=some (.lst xs) /\ H b=some (.lst zs) /\ xs.length+zs.length<=sizeLine /\ Q .aq (upd H l (.lst (xs++zs)))
theorem G4:Ks X "list.extend" X5:=by
 intro pins s σ H x vs v us Q I rx rv h;obtain⟨l,b,xs,zs,rfl,rfl,hH,hB,hz,q⟩:=h;cases rx;obtain⟨u,rfl,ru⟩:=rv.one;cases ru;obtain⟨z,af,n,r,hl,e⟩:=I.vP hH;obtain⟨z2,kI,n2,r2,qp,e2⟩:=I.vP hB;have hsz:af.toArray.size+kI.toArray.size<=sizeLine:=by rw[aU,aU];omega
 have aa3:¬ (!af.toArray.isEmpty&&Builtin.List.listTooLong (af.toArray.size+kI.toArray.size))=true:=by
  rw[aa2 hsz,Bool.and_false];exact b9
 refine Hq F.slot_list_extend ⟨_,e,rfl⟩ F.entry_list_extend (F.args_list_extend_2 _ _)
  (Z4 l af.toArray n b kI.toArray n2 aa3 (by rw[aU];omega) (by omega)) ⟨e,e2,?_⟩
 refine⟨.aq,_,I.X3 (its':=af++kI) hH e (by simp) (r.append r2) ?_,rfl,q⟩;rw[cb];omega
def X6:R2:=λx y H Q=>∃ l b xs zs,x=.ref l /\ y=.ref b /\ H l=some (.lst xs) /\ H b=some (.lst zs) /\ xs.length+zs.length<=sizeLine /\ ∀ p,H p=none->Q (.ref p) (upd H p (.lst (xs++zs)))
theorem Rw:aM X (binaryOp .Add) X6:=by
 intro pins s σ H x y v u Q I rx ry h;obtain⟨l,b,xs,zs,rfl,rfl,hH,hB,hz,q⟩:=h;cases rx;cases ry;obtain⟨z,af,n,r,hl,e⟩:=I.vP hH;obtain⟨z2,kI,n2,r2,qp,e2⟩:=I.vP hB;refine PySem.P.add_list e e2 ?_ (by rw[aU,aU];omega);have ea:af.toArray++kI.toArray=(af++kI).toArray:=by simp
 rw[ea];exact⟨.ref _,_,I.aa1 (t':=s.toks) (r.append r2) (by rw[cb];omega),rfl,q _ I.fresh⟩
end L2
namespace X7
open PySem PySem.W PySem.Calls PyProof.Rows
theorem oR {P:Params}:∀ (ns:List Int) (vs:List Value),WellAll P h vs (ns.map WData.int)->IntsAre vs ns:=by
 intro ns;induction ns with
 | nil =>
   intro vs w;rw[vh]at w;cases w;exact .nil
 | cons n ns ih =>
   intro vs w;rw[aS]at w;cases w with
   | cons a b =>
     cases a;exact .cons _ _ (ih _ b)
theorem G5 {l:OpenLaw}(hn:l.most=some n) {P:Params}{args:List WData}{vals:List Value}
 (zO:l.row.toRowW.claim.pre args=true) (Kt:WellAll P h vals args) :
 ∃ a vs ns,vals=[Value.ref a] /\ args=[WData.list (ns.map WData.int)] /\ h.get? a=some { cls:=.type "list",data:=.seq vs.toArray } /\ IntsAre vs ns /\ ns.length<=n:=by
 have aa4:WShape.hasAll [] args [.list .int]=true:=(pre_splitW zO).1;have hc:l.pre.holds [] { args:=args }=true:=(pre_splitW zO).2;obtain⟨d,r,rfl,h1,h2⟩:=hasAllW_cons aa4;obtain rfl:=hasAllW_nil h2;obtain⟨xs,rfl,h3⟩:=hasW_list h1;obtain⟨ns,rfl⟩:=items_int h3;have hlen:ns.length<=n:=by
  unfold OpenLaw.pre at hc;have h4:(WTm.not (.lt (.lit (.int (n:Int))) (.len (.arg 0)))).holds [] { args:=[.list (ns.map .int)] }=true:=by
   have h4:=(holds_andW hc).1;rw[hn]at h4;exact h4
  have h5:=condW_of h4 (w_not (w_lt w_lit (w_len_list (w_arg rfl))));rw[aF]at h5;refine tX λq=>?_;have q':(n:Int)<((ns.length:Nat):Int):=by omega
  first
   |(rw[decide_eq_true q']at h5;exact absurd h5 (by decide))
   |(simp at h5;omega)
 cases Kt with
 | cons w1 w2 =>
   cases w2;cases w1 with
   |list ho aa5=>exact⟨_,_,ns,rfl,rfl,ho,oR ns _ aa5,hlen⟩
theorem G6 (l:OpenLaw) (args:List WData):l.row.toRowW.claim.post args (.bool true) args=true :=
 postW_of (r:=l.row.toRowW) (X:=(true==true))
  (show WShape.has [] (.bool true) .bool=true by first|rfl|decide|simp[WShape.has,WShape.arms,WShape.armsAll])
  (show (WTm.eq .res (.lit (.bool true))).value [] { args:=args,res:=some (.bool true),after:=args }=some (.bool (true==true)) from w_eq_bool (w_res rfl) w_lit) rfl
theorem aa6 {l:OpenLaw}{q:Program}{loose:List Str}{XP:(Str->Option Value)->Heap->Prop}{YP:World->Heap->Prop}{d:DefRec}
 (hn:l.most=some n) (Ku:d.params.defaults=[])
 (call:∀ (w:World) (s₀ s₁:Shared) (mg mb:Str->Option Value) (fa:Addr) (o:Obj) (pm cd doc:Value) (a:Addr) (vs:List Value) (ns:List Int),
  Ground q loose [] XP w s₀ mg mb s₁.heap->YP w s₁.heap ->
  s₁.heap.get? fa=some o->o.data=.func (docDef d.name d.params d.body d.scope pm cd doc)->s₁.heap.CodeRec cd d.name->mg d.name=some (.ref fa) ->
  s₁.heap.get? a=some { cls:=.type "list",data:=.seq vs.toArray }->IntsAre vs ns->ns.length<=n->s₁.gens=#[] ->
  codeAny (model l.prog w) callerA (.call (.ref fa) ⟨[.ref a],[]⟩) (λr s'=>r=.ok (.ret (.bool true)) /\ OldK s₁.heap s'.heap /\ s'.os=s₁.os /\ AllBare s'.gens) s₁) :
 WalkO q loose XP YP l.row.toRowW d [] (λf vs=>PySem.call f vs):=by
 intro w s₀ s₁ mg mb G Y fa o pm cd doc dV kV ho hd nj hD hmg hg args vals as zO aeW aeX Kt aeY;obtain rfl:dV=.none:=Dflts.none hD Ku;obtain rfl:kV=.none:=Dflts.noKw hD;obtain⟨a,vs,ns,rfl,rfl,Kv,hints,hlen⟩:=G5 hn zO Kt;refine enter_call (u6 (call w s₀ s₁ mg mb fa o pm cd doc a vs ns G Y ho (fd_plain hd) nj hmg Kv hints hlen hg) λr s' hq=>?_);obtain⟨rfl,h2,h3,h4⟩:=hq;exact⟨.inl ⟨.bool true,.bool true,[],rfl,λ_=>rfl,.bool true,G6 l _,λ_=>⟨List.Pairwise.nil,λ_ hm=>(nomatch hm)⟩⟩,h2,h3,h4⟩
end X7
namespace L2
open PySem PySem.Spec PyProof.Rows
theorem Be:∀ {vs:List Value}{ns:List Int},IntsAre vs ns->Vals (ns.map V.int) vs
 |_,_,.nil=>.nil
 |_,_,.cons n t h=>.cons ⟨t,rfl⟩ (Be h)
def Kw (H:Hp):Prop:=∀ b,H b=none \/ ∃ o xs,H b=some (.ko o (.lst xs))
theorem Ln {mb:Str->Option Value}{fa:Addr}{sp:Sp}{s₁:Shared} 
 (KX:K.In s₁.heap) (c8:s₁.heap.Ns mainGlobals mg) (hb:s₁.heap.Ns builtinsNs mb) (aa7:∀ x:Str,x ≠ "__name__"->mb x=bootBuiltins x) (aa8:s₁.heap.NoLimit) (hg:s₁.gens=#[])
 (ha:s₁.heap.get? a=some { cls:=.type "list",data:=.seq vs.toArray }) (hi:IntsAre vs ns) (hl:ns.length<=sizeLine) (hr:cw k callerA)
 (F:∀ base:Heap,K.In base->base.Ns mainGlobals mg->eO P w K mg base CX k fa fd [x] sp) (aa9:∀ (s:Shared) (u:Value),BindsTo s fd ⟨[u],[]⟩ [(x,u)])
 (vN:∀ H:Hp,Kw H->bu K H a (ns.map V.int)->sp [.ref a] H (λv _=>v=.bl true) λ_ _ _=>False)
 (aba:∀ H e s',CX [] H s₁ (λ_ _ _=>False) e s'->False) :
 codeAny (model P w) callerA (.call (.ref fa) ⟨[.ref a],[]⟩) (λr s'=>r=.ok (.ret (.bool true)) /\ OldK s₁.heap s'.heap /\ s'.os=s₁.os /\ AllBare s'.gens) s₁:=by
 have rv:=Be hi;have abb:=hi.length
 have core:∀ H:Hp,Kw H->bu K H a (ns.map V.int)->bV P w H s₁.heap->(∀ b,H b≠none->b=a)->(H a≠none->K.lookup a=none) ->
  codeAny (model P w) callerA (.call (.ref fa) ⟨[.ref a],[]⟩) (λr s'=>r=.ok (.ret (.bool true)) /\ OldK s₁.heap s'.heap /\ s'.os=s₁.os /\ AllBare s'.gens) s₁:=by
  intro H hO hS ar hA hK;have jr:∀ {b:Addr}{o:Obj},s₁.heap.get? b=some o->H b=none->(qV s₁.heap H).get? b=some o:=λe n=>JZ e n;have xg:∀ {b:Addr}{o:Obj}{es:Array DictEntry}{ep:Nat},s₁.heap.get? b=some o->o.data=.dict es ep->H b=none:=λ{b o es ep} e d=>by
   cases q:H b with
   |none=>rfl
   | some u =>
     have e':b=a:=hA b (by rw[q];simp);subst e';rw[ha]at e;cases e;have d':Data.seq vs.toArray _=Data.dict es ep:=d;cases d'
  have zP:∀ {b:Addr}{m:Str->Option Value},s₁.heap.Ns b m->(qV s₁.heap H).Ns b m:=λ{b m} ⟨o,es,ep,e,d,r⟩=>⟨o,es,ep,jr e (xg e d),d,r⟩;have X8:K.In (qV s₁.heap H):=λb o e=>jr (KX b o e) (by
   cases q:H b with
   |none=>rfl
   | some u =>
     have e':b=a:=hA b (by rw[q];simp);subst e';rw[hK (by rw[q];simp)]at e;cases e)
  have hM:Mod K mg (qV s₁.heap H):=⟨X8,zP c8,⟨mb,zP hb,aa7⟩,let ⟨mc,h1,h2⟩:=aa8;⟨mc,zP h1,h2⟩⟩;have e0:zG P w K mg (qV s₁.heap H) callerA [] s₁ H:=⟨rfl,hM,λb o e=>Nt e,rZ (GU _ _),trivial,λb hb=>absurd (show b∈([]:List Addr) from hb) (by simp),ar,.of_eq hg⟩;refine u6 ((F _ X8 (zP c8)).run callerA [] s₁ H ⟨[.ref a],[]⟩ [.ref a] [.ref a] _ _ hr e0 (aa9 s₁ (.ref a)) (.cons rfl .nil) (vN H hO hS)) λr s' h=>?_;cases r with
  |error e=>exact(aba H e s' h).elim
  | ok fl =>
    cases fl with
    |next=>exact False.elim h
    |brk=>exact False.elim h
    |cont=>exact False.elim h
    | ret u =>
      obtain⟨v,H',os,bare,un,abd,r',q⟩:=h;have q':v=.bl true:=q;subst q';obtain rfl:u=Value.bool true:=r';refine⟨rfl,OldK.of_keep λb o e=>?_,os,bare⟩;cases q:H b with
      |none=>exact un.keep b o e q (by intro z;exact absurd (show b∈([]:List Addr) from z) (by simp)) (by simp)
      | some u =>
        rcases hO b with z|⟨ob,xs,z⟩
        ·rw[q]at z;cases z
        ·have z2:=un.nO b ob _ z;obtain⟨e1,_⟩:=ar b _ z;obtain⟨e2,_⟩:=abd b _ z2;rw[e]at e1;cases e1;exact e2
 cases hk:K.lookup a with
 | some o =>
   have e:=KX a o hk;rw[ha]at e;cases e;refine core (λ_=>none) (λ_=>.inl rfl) (.inr ⟨_,vs.toArray,_,hk,rfl,rfl,rfl,by rw[aU,abb];exact hl,by simpa using rv⟩) (λb u z=>by have z':(none:Option HO)=some u:=z;cases z') (λb z=>absurd rfl z) λz=>absurd rfl z
 | none =>
   refine core (λb=>if b=a then some (.ko { cls:=.type "list",data:=.seq vs.toArray } (.lst (ns.map V.int))) else none) (λb=>?_) (.inl (.inr ⟨{ cls:=.type "list",data:=.seq vs.toArray },if_pos rfl⟩)) (λb u z=>?_) (λb z=>?_) λ_=>hk
   ·by_cases hb:b=a
    ·exact .inr ⟨_,_,if_pos hb⟩
    ·exact .inl (if_neg hb)
   ·by_cases hb:b=a
    ·have z':=(if_pos hb).symm.trans z;cases z';subst hb;exact⟨ha,by rw[aF];exact hl,vs,_,rv,ha⟩
    ·have z':=(if_neg hb).symm.trans z;cases z'
   ·by_cases hb:b=a
    ·exact hb
    ·exact absurd (if_neg hb) z
noncomputable abbrev X9 (_:K.In h):PySem.W.Frag:=K
end L2
/- aeZ ae0 ae1 (shape;ae2,My.* are ae3):
 My.ae4: a structure of pE addresses Xn ae5 ae6 names (classes,ae7);My.Txt K t: a structure (Prop) of pE equations over K;
 My.abe:{K}{implicit addresses ..}(e1:nsIn K mainGlobals "law"=some (some (.ref f))) (e2:K.lookup f=some ⟨oc,od,.func (fnOf "law" "law" params body scope dV kV doc pm an aZ ct),sl⟩) (e3:codeIn K aZ "law"=true) ..:∃ t,My.Txt K t
set_option maxRecDepth 100000 in
set_option maxHeartbeats 0 in
theorem PySem.Challenge.cw_LID_holds : PySem.Challenge.abf.Holds := by
 w_on;o_law;k_head;(case hw=>w_witness2)
 k_fill
 refine L2.ae8 (l:=PySem.Challenge.abf) (n:=63) (k:=40) (x:="script") (CX:=λw=>..) (sp:=λ_=>My.Ya) rfl (by decide) rfl ⟨rfl,by decide,by decide⟩ (λw h Y=>PySem.W.kIn_of Y) ?F ?S ?C
 case F =>
  intro w mg fa h KX G hmg;have T:∃ t,My.Txt (L2.X9 KX) t:=by
   dsimp only[L2.X9]                          -- K ae9 xh as «<heap const> w.params» for k_is
   refine' My.abe ?e1 ?e2 ?e3 ..
   (case e1=>PySem.W.k_is)                    -- in pE order: a name->af address->af object->af parts
   (case e2=>PySem.W.k_is)
   ..
  obtain⟨t,T⟩:=T;have e0:=hmg.symm.trans (WW KX G T.law)
  cases e0                                       -- fa is pE afa own address
  exact⟨_,λs u=>.of_eq rfl,λbase kb nb=>My.abg T kb nb⟩     -- if «.of_eq rfl» comes afb early: refine' ⟨_,?b,λbase kb nb=>My.abg T kb nb⟩;exact λs u=>.of_eq rfl
 case S=>exact λw H a ns hl hO hS=>..
 case C=>exact ..
(pE tactic k_is has no namespace: write k_is) -/
namespace L2
open PySem PySem.Spec PyProof.Rows
noncomputable def jh (s:Stmt):Arguments:=match s with
 |.FunctionDef _ a _ _ _ _ _ _ _ _=>a
 |_=>{ posonlyargs:=[],args:=[],vararg:=none,kwonlyargs:=[],kw_defaults:=[],kwarg:=none,defaults:=[] }
noncomputable def gT (s:Stmt):List Stmt:=match s with
 |.FunctionDef _ _ b _ _ _ _ _ _ _=>b
 |_=>[]
noncomputable def fL (s:Stmt):Scope:=match s with
 |.FunctionDef _ _ _ _ _ _ sc _ _ _=>sc
 |_=>{ kind:=.function,names:=[],isGenerator:=false,isCoroutine:=false }
abbrev xi:nR:=λ_ _ _ _ _ _=>False
noncomputable abbrev E0:XK:=λ_ _ _=>False
structure nS (K:PySem.W.Frag) (x qual:Str) (st:Stmt) (f:Addr) (fd:FuncData):Prop where
 ex:∃ (oc:Value) (od:Option Addr) (kV doc pm:Value) (an:Option Addr) (aZ ct:Value) (nG:Array (Option Value)),
  fd=PySem.W.fnOf x qual (jh st) (gT st) (fL st) .none kV doc pm an aZ ct /\ K.lookup f=some ⟨oc,od,.func fd,nG⟩ /\ PySem.W.codeIn K aZ qual=true
 kp:PySem.W.keepIn K (.ref f)=true
theorem nS.ok {qual:Str}{f:Addr}{ps:List Str}{sp:Sp}(F:nS K x qual st f fd) (S:vM N ps (fL st)) (len:∀ vs H Q E,sp vs H Q E->vs.length=ps.length)
 (ud:∀ (aZ:Value) (A:Around) (outer:List Env) (s:Shared) (H:Hp) (vs:List V) (Q:VK) (E:XK),cw k (A.deeper (envOfC qual (fL st) s.heap.objs.size f aZ))->sp vs H Q E ->
  ∃ t,dR (sF xi P w K mg base N qual (fL st) f aZ A outer s H E).vH (gT st) t /\ t { nx:=λ_ H'=>Q .aq H',rt:=Q } (start N vs) H):eO P w K mg base xi (k+1) f fd ps sp:=by
 obtain⟨oc,od,kV,doc,pm,an,aZ,ct,nG,rfl,lk,nj⟩:=F.ex;refine TB lk nj S len λA outer s H vs Q E hr vN=>?_;obtain⟨t,h,q⟩:=ud aZ A outer s H vs Q E hr vN;exact⟨t,h.vH,q⟩
theorem nS.binds {qual:Str}{f:Addr}{ps:List Str}(F:nS K x qual st f fd)
 (h:∀ (kV doc pm:Value) (an:Option Addr) (aZ ct:Value) (us:List Value),us.length=ps.length->bindArgs (PySem.W.fnOf x qual (jh st) (gT st) (fL st) .none kV doc pm an aZ ct) ⟨us,[]⟩=pure (ps.zip us)):Binds K fd ps []:=by
 obtain⟨oc,od,kV,doc,pm,an,aZ,ct,nG,rfl,lk,nj⟩:=F.ex;exact .all (h kV doc pm an aZ ct)
theorem Lo {qual:Str}{f:Addr}{oc:Value}{od an:Option Addr}{kV doc pm aZ ct:Value}(l:K.lookup f=some ⟨oc,od,.func (PySem.W.fnOf x qual (jh st) (gT st) (fL st) .none kV doc pm an aZ ct),nG⟩)
 (c:PySem.W.codeIn K aZ qual=true) (k:PySem.W.keepIn K (.ref f)=true):nS K x qual st f (PySem.W.fnOf x qual (jh st) (gT st) (fL st) .none kV doc pm an aZ ct):=⟨⟨oc,od,kV,doc,pm,an,aZ,ct,nG,rfl,l,c⟩,k⟩
noncomputable def cW (cells:List (Str×Addr)):List (Str×NameKind)->List (Str×Addr)->List (Str×Addr)
 |[],acc=>acc
 |(n,k)::r,acc=>cW cells r (if k==.free then (match cells.lookup n with|some c=>(n,c)::acc|none=>acc) else acc)
theorem jI {env:Env}:∀ (names:List (Str×NameKind)) (acc:List (Str×Addr)),(∀ y∈names,y.2=.free->∃ c,env.cells.lookup y.1=some c) ->
 (forIn names acc (λ(x:Str×NameKind) (r:List (Str×Addr))=>(match x with
  |(name,kind)=>if (kind==NameKind.free)=true then (do let a <-cellOf env name;pure (ForInStep.yield ((name,a)::r))) else pure (ForInStep.yield r):Sem (ForInStep (List (Str×Addr))))))=(pure (cW env.cells names acc):Sem _)
 |[],acc,_=>rfl
 | (n,k)::r,acc,h=>by
   rw[vi];by_cases hk:k=.free
   ·subst hk;obtain⟨c,e⟩:=h (n,.free) bQ rfl;have e':env.cells.lookup n=some c:=e;have e1:cellOf env n=pure c:=by unfold cellOf;rw[e']
    dsimp only;rw[if_pos (by decide),e1];have q:=jI (env:=env) r ((n,c)::acc) λy hy=>h y (bF _ hy);have z:cW env.cells ((n,NameKind.free)::r) acc=cW env.cells r ((n,c)::acc):=by
     show cW env.cells r _=_;rw[if_pos (by decide),e']
    rw[z,<-q];rfl
   ·dsimp only;have hb:(k==NameKind.free)=false:=by simpa using hk
    rw[if_neg (by rw[hb];decide)];have q:=jI (env:=env) r acc λy hy=>h y (bF _ hy);have z:cW env.cells ((n,k)::r) acc=cW env.cells r acc:=by
     show cW env.cells r _=_;rw[if_neg (by rw[hb];decide)]
    rw[z,<-q];rfl
theorem lX {scope:Scope}{env:Env}(h:∀ y∈scope.names,y.2=.free->∃ c,env.cells.lookup y.1=some c):closureFor scope env=pure (cW env.cells scope.names []):=by
 have q:=jI (env:=env) scope.names [] h;unfold closureFor;first
  |exact q
  |(dsimp only;rw[show (forIn scope.names ([]:List (Str×Addr)) _:Sem _)=_ from q];rfl)
  |(rw[<-q];rfl)
theorem Co {cells:List (Str×Addr)}:∀ (names:List (Str×NameKind)) (acc:List (Str×Addr)),(∀ x c,acc.lookup x=some c->cells.lookup x=some c)->∀ x c,(cW cells names acc).lookup x=some c->cells.lookup x=some c
 |[],_,h=>h
 | (n,k)::r,acc,h=>by
   refine Co r _ ?_;intro x c e;by_cases hk:(k==NameKind.free)=true
   ·rw[if_pos hk]at e;cases q:cells.lookup n with
    |none=>rw[q]at e;exact h x c e
    | some a =>
      rw[q]at e;have e':((n,a)::acc).lookup x=some c:=e;rw[kG]at e';cases hx:x==n with
      |true=>rw[hx]at e';rw[eq_of_beq hx,q];exact e'
      |false=>rw[hx]at e';exact h x c e'
   ·rw[if_neg hk]at e;exact h x c e
theorem Cp {cells:List (Str×Addr)}:∀ (names:List (Str×NameKind)) (acc:List (Str×Addr)) (x:Str),((∃ c,acc.lookup x=some c) \/ ((x,NameKind.free)∈names /\ ∃ c,cells.lookup x=some c))->∃ c,(cW cells names acc).lookup x=some c
 |[],_,x,h=>h.elim id λz=>nomatch z.1
 | (n,k)::r,acc,x,h=>by
   refine Cp r _ x ?_;rcases h with⟨c,e⟩|⟨hm,c,e⟩
   ·left;by_cases hk:(k==NameKind.free)=true
    ·rw[if_pos hk];cases q:cells.lookup n with
     |none=>exact⟨c,e⟩
     | some a =>
       show ∃ c,((n,a)::acc).lookup x=some c;rw[kG];cases hx:x==n with
       |true=>exact⟨a,rfl⟩
       |false=>exact⟨c,e⟩
    ·rw[if_neg hk];exact⟨c,e⟩
   ·rcases aP.mp hm with z|z
    ·have z1:x=n:=congrArg Prod.fst z;have z2:NameKind.free=k:=congrArg Prod.snd z;subst z1;subst z2;left;rw[if_pos (by decide),e];exact⟨c,by show ((x,c)::acc).lookup x=_;rw[kG,beq_self_eq_true]⟩
    ·exact .inr ⟨z,c,e⟩
theorem lY {env:Env}:∀ (names:List (Str×NameKind)) (x:Str) (k':NameKind),
 (names.map λ(n,k)=>if (k==NameKind.free&&env.scope.kind==.function&&env.kindOf n==some .cell) then (n,NameKind.cell) else (n,k)).lookup x=some k' ->
 ∃ k,names.lookup x=some k /\ (k'=k \/ (k=.free /\ k'=.cell))
 |[],_,_,h=>by simp at h
 | (n,k)::r,x,k',h=>by
   have h':List.lookup x ((if (k==NameKind.free&&env.scope.kind==.function&&env.kindOf n==some .cell)=true then (n,NameKind.cell) else (n,k))::(r.map λ(n,k)=>if (k==NameKind.free&&env.scope.kind==.function&&env.kindOf n==some .cell) then (n,NameKind.cell) else (n,k)))=some k':=h;by_cases hc:(k==NameKind.free&&env.scope.kind==.function&&env.kindOf n==some .cell)=true
   ·rw[if_pos hc,kG]at h';rw[kG];cases hx:x==n with
    | true =>
      rw[hx]at h';have hk:k=.free:=by
       cases hq:(k==NameKind.free) with
       |true=>exact eq_of_beq hq
       |false=>rw[hq]at hc;simp at hc
      exact⟨k,rfl,.inr ⟨hk,(Option.some.inj h').symm⟩⟩
    |false=>rw[hx]at h';exact lY r x k' h'
   ·rw[if_neg hc,kG]at h';rw[kG];cases hx:x==n with
    |true=>rw[hx]at h';exact⟨k,rfl,.inl (Option.some.inj h').symm⟩
    |false=>rw[hx]at h';exact lY r x k' h'
theorem jJ {env:Env}:∀ (names:List (Str×NameKind)) (x:Str),names.lookup x=some .free ->
 (names.map λ(n,k)=>if (k==NameKind.free&&env.scope.kind==.function&&env.kindOf n==some .cell) then (n,NameKind.cell) else (n,k)).lookup x=some .cell \/
 (names.map λ(n,k)=>if (k==NameKind.free&&env.scope.kind==.function&&env.kindOf n==some .cell) then (n,NameKind.cell) else (n,k)).lookup x=some .free
 |[],_,h=>by simp at h
 | (n,k)::r,x,h=>by
   show List.lookup x ((if (k==NameKind.free&&env.scope.kind==.function&&env.kindOf n==some .cell)=true then (n,NameKind.cell) else (n,k))::_)=_ \/ List.lookup x ((if (k==NameKind.free&&env.scope.kind==.function&&env.kindOf n==some .cell)=true then (n,NameKind.cell) else (n,k))::_)=_;rw[kG]at h;by_cases hc:(k==NameKind.free&&env.scope.kind==.function&&env.kindOf n==some .cell)=true
   ·rw[if_pos hc,kG];cases hx:x==n with
    |true=>exact .inl rfl
    |false=>rw[hx]at h;exact jJ r x h
   ·rw[if_neg hc,kG];cases hx:x==n with
    |true=>rw[hx]at h;exact .inr h
    |false=>rw[hx]at h;exact jJ r x h
theorem ir:∀ (names:List (Str×NameKind)) (n:Nat) (acc:List (Str×Addr)),cellsFrom n names acc=cellsFrom n names []++acc
 |[],_,_=>rfl
 | (x,k)::r,n,acc=>by
   unfold cellsFrom;split
   ·rw[ir r (n+1) ((x,n)::acc),ir r (n+1) [(x,n)],eK];rfl
   ·exact ir r n acc
theorem m9:∀ (names:List (Str×NameKind)) (n:Nat) {x:Str}{c:Addr},(x,c)∈cellsFrom n names []->(x,NameKind.cell)∈names
 |[],_,_,_,h=>nomatch h
 | (y,k)::r,n,x,c,h=>by
   unfold cellsFrom at h;split at h
   ·rename_i hk;rw[ir]at h;rcases bH.mp h with h|h
    ·exact bF _ (m9 r _ h)
    ·cases a7.mp h;rw[<-eq_of_beq hk];exact bQ
   ·exact bF _ (m9 r _ h)
theorem Aj {α:Type}:∀ {l:List (Str×α)}{x:Str}{a b:α},(l.map (·.1)).Nodup->(x,a)∈l->(x,b)∈l->a=b
 | (y,c)::l,x,a,b,h,ha,hb=>by
   rw[aS,qT]at h;rcases aP.mp ha with e|ha<;>rcases aP.mp hb with e'|hb
   ·rw[<-e']at e;exact(Prod.mk.inj e).2
   ·exact absurd (aT.mpr ⟨_,hb,(Prod.mk.inj e).1⟩) h.1
   ·exact absurd (aT.mpr ⟨_,ha,(Prod.mk.inj e').1⟩) h.1
   ·exact Aj h.2 ha hb
theorem jK {α:Type}{x:Str}:∀ {l m:List (Str×α)},(l++m).lookup x=match l.lookup x with|some a=>some a|none=>m.lookup x
 |[],m=>rfl
 | (y,a)::l,m=>by
   rw[HM,kG,kG];cases x==y with
   |true=>rfl
   |false=>exact jK
theorem lZ {scope:Scope}{globals:Addr}{cl:List (Str×Addr)}{qual:Str}{env:Env}{Q:Env->Shared->Prop}
 (h:Q { scope:=scope,locals:=s.heap.objs.size,globals:=globals,cells:=cellsFrom (s.heap.objs.size+1) scope.names cl,qual:=qual,func:=none,code:=env.code,frame:=env.frame,builtins:=env.builtins }
  { s with heap:=pushCells (s.heap.push { cls:=.type "dict",data:=.dict #[] }) scope.names }) :
 wpAny M A (newFunctionEnv scope globals cl [] qual none .none (some env)) Q E s:=by
 unfold newFunctionEnv;refine ae (VE (ae (wpAny_layCells _ (λname kind cells=>by cases hk:kind==NameKind.cell<;>simp[hk]) _ _ _ _ ?_)));rw[show ({ s with heap:=s.heap.push { cls:=.type (if (some env).isSome=true then "dict" else "frame"),data:=.dict #[] } }:Shared).heap.objs.size=s.heap.objs.size+1 from qc ..];exact ae (ag (ag h))
noncomputable abbrev Cx.comp (X:Cx) (N:List Str) (scope:Scope) (cl:List (Str×Addr)) (s:Shared) (H:Hp) (C:Addr) (fp:List Addr):Cx :=
 { X with N:=N,s₀:=s,H₀:=H,env:=compEnvC scope cl C X.env,outer:=X.stack,stack:=X.stack,ex:=fp,fn:=λx=>decide (scope.names.lookup x=some .cell),pn:=[],xe:=λ_ _=>False }
structure kJ (X:Cx) (N:List Str) (src:List (Option Nat)) (scope:Scope):Prop where
 kind:scope.kind=.function
 nk:(scope.names.map (·.1)).Nodup
 names:∀ y∈scope.names,y.2=.local->scope.names.lookup y.1=some .local
 has:∀ y∈scope.names,y.2=.free->X.env.kindOf y.1=some .cell \/ X.env.kindOf y.1=some .free
 abh:src.length=N.length
 abi:∀ (j i:Nat) (x:Str),src[j]?=some (some i)->N[j]?=some x->X.N[i]?=some x /\ scope.names.lookup x=some .free
noncomputable def rh (src:List (Option Nat)) (σ:St):St:=src.map λo=>o.bind λi=>(σ[i]?).bind id
def PF (X:Cx) (ifs:List Expr) (t:TT):Prop :=
 ∀ (pins:List (Addr×Obj)) (s:Shared) (σ:St) (H:Hp) (Q:Bool->Hp->Prop),Inv X pins σ H s->t σ H Q ->
  wpAny (model X.prog X.w) X.A (forIn ifs true λc r=>if r=true then do let ok <-isTrue c X.env (eval c X.env);pure (ForInStep.yield ok) else pure (ForInStep.yield r)) (TP X pins σ Q) X.xe s
theorem Rx:PF X [] (λ_ H Q=>Q true H):=λ_ _ _ H _ I h=>wpAny_tests_nil ⟨H,I,h⟩
theorem Ry {t:TT}(h:PT X c t):PF X [c] t:=λpins s σ H Q I hw=>wpAny_tests_one (h pins s σ H Q I hw)
def abj (J:It) (g:TG) (tf:TT) (te:TE) (D:Addr) (Q:VK) (σ0:St) (H0:Hp):Prop :=
 ∃ W:Nat->Nat->St->Hp->Prop,(∃ m,W 0 m σ0 H0) /\ ∀ i m σ' H',W i m σ' H' ->
  (J.stop i H' /\ Q (.ref D) H') \/ (J.go i H' /\ ∃ N:St->Hp->Prop,(∀ σ2 H2,N σ2 H2->∃ m',m'<m /\ W (i+1) m' σ2 H2) /\ ∀ x H2,J.xb i H' x H2->g x σ' H2 λσ2 H3=>tf σ2 H3 λb H4 =>
   if b=true then te σ2 H4 λy H5=>∃ ys,H5 D=some (.lst ys) /\ ys.length<sizeLine /\ N σ2 (upd H5 D (.lst (ys++[y]))) else N σ2 H4)
def zQ (src:List (Option Nat)) (wi:TI) (g:TG) (tf:TT) (te:TE):TE:=λσ H Q=>wi σ H λJ H1=>∀ D,H1 D=none->abj J g tf te D Q (rh src σ) (upd H1 D (.lst []))
noncomputable abbrev pK (P:Program) (w:World) (A:Around) (env:Env) (R:Result->Shared->Prop):Value->Shared->Prop :=
 notedBy (model P w) A env λx z=>R (.error x) z
noncomputable abbrev Kx (ifs:List Expr) (env:Env):Sem Bool :=
 forIn ifs true λc r=>if r=true then do let ok <-isTrue c env (eval c env);pure (ForInStep.yield ok) else pure (ForInStep.yield r)
theorem mI {scope:Scope}{it acc:Value}{env:Env}
 (J:Nat->Shared->Prop) (N:Value->Nat->Shared->Prop)
 (hN:∀ v n z,N v n z->wpAny (model prog w) A (letOwnedTupleGo tg it v) (λ_ z1 =>
  wpAny (model prog w) A (assign tg env v) (λ_ z2 =>
  wpAny (model prog w) A (Kx ifs env) (λb z3 =>
   if b=true then wpAny (model prog w) A (eval elt env) (λy z4 =>
    wpAny (model prog w) A (call (.builtin "list.append") [acc,y])
     (λ_ z5=>∃ k,k<n /\ J k z5) (pK prog w A env R) z4) (pK prog w A env R) z3
   else ∃ k,k<n /\ J k z3)
   (pK prog w A env R) z2) (pK prog w A env R) z1) (pK prog w A env R) z)
 (go:∀ n z,J n z->wpAny (model prog w) A (pyNext it)
  (λr z1=>match r with|none=>R (.ok .next) z1|some v=>N v n z1) (pK prog w A env R) z)
 (n:Nat) (h:J n s) :
 codeAny (model prog w) A (.compLoop (.ListComp elt [⟨tg,iter,ifs,0⟩] scope pos) 0 it acc env) R s:=by
 refine VF rfl J (λk z hz=>?_) n h;show wpAny _ A (Sem.onRaise (compTurn _ 0 it acc env) _) _ _ z;refine VG ?_;rw[compTurn_list];refine ae (qM (ae ?_));refine c6 (go k z hz) (λr z1 h1=>?_) λ_ _ q=>q;cases r with
 |none=>exact ag h1
 | some v =>
   refine ae (c6 (hN v k z1 h1) (λ_ z2 h2=>ae ?_) λ_ _ q=>q);refine c6 h2 (λ_ z3 h3=>ae ?_) λ_ _ q=>q;refine c6 h3 (λb z4 h4=>?_) λ_ _ q=>q;cases b with
   |false=>exact ag ⟨rfl,h4⟩
   | true =>
     refine ae (ae (c6 h4 (λy z5 h5=>ae ?_) λ_ _ q=>q));exact c6 h5 (λ_ z6 h6=>ag (ag ⟨rfl,h6⟩)) λ_ _ q=>q
theorem kJ.cells {N:List Str}{src:List (Option Nat)}{scope:Scope}(S:kJ X N src scope) (ok:X.Ok):∀ y∈scope.names,y.2=.free->∃ c,X.env.cells.lookup y.1=some c :=
 λy hy hf=>ok.has y.1 (S.has y hy hf)
theorem Cq {cells:List (Str×Addr)}{x:Str}{c:Addr}:∀ (names:List (Str×NameKind)) (acc:List (Str×Addr)),(x,c)∉acc->(x,c)∈cW cells names acc->(x,NameKind.free)∈names
 |[],_,h,e=>absurd e h
 | (n,k)::r,acc,h,e=>by
   by_cases hx:x=n /\ k=.free
   ·obtain⟨rfl,rfl⟩:=hx;exact bQ
   ·refine bF _ (Cq r _ ?_ e);by_cases hk:(k==NameKind.free)=true
    ·rw[if_pos hk];cases q:cells.lookup n with
     |none=>exact h
     | some a =>
       intro z;rcases aP.mp z with z|z
       ·exact hx ⟨(Prod.mk.inj z).1,eq_of_beq hk⟩
       ·exact h z
    ·rw[if_neg hk];exact h
theorem Ak {src:List (Option Nat)}{scope:Scope}{s':Shared} 
 (S:kJ X N src scope) (I:Inv X pins σ H s) (Ky:∀ b∈fp,c7 X pins H b /\ b<s.heap.objs.size) (hh:s'={ s with heap:=pushCells (s.heap.push { cls:=.type "dict",data:=.dict #[] }) scope.names }) :
 Inv (X.comp N scope (cellsFrom (s.heap.objs.size+1) scope.names (cW X.env.cells scope.names [])) s H s.heap.objs.size fp) [] (rh src σ) H s':=by
 subst hh;have hk:∀ b o,s.heap.get? b=some o->(pushCells (s.heap.push { cls:=.type "dict",data:=.dict #[] }) scope.names).get? b=some o:=λb o e=>wC _ _ b o (aC _ e);have c8:(pushCells (s.heap.push { cls:=.type "dict",data:=.dict #[] }) scope.names).Ns s.heap.objs.size (λ_=>none):=(Heap.Ns.new s.heap (.type "dict")).keeps (wC _ _);have ok:=cellsFrom_ok scope.names (s.heap.push { cls:=.type "dict",data:=.dict #[] }) (s.heap.objs.size+1) [] ⟨λ_ _ hm=>(nomatch hm),List.Pairwise.nil⟩ (by rw[qc];exact ak _);rw[qc]at ok;have split:∀ x c,(cellsFrom (s.heap.objs.size+1) scope.names (cW X.env.cells scope.names [])).lookup x=some c->(cellsFrom (s.heap.objs.size+1) scope.names []).lookup x=some c \/ (cW X.env.cells scope.names []).lookup x=some c:=λx c e=>by
  rw[ir,jK]at e;cases q:(cellsFrom (s.heap.objs.size+1) scope.names []).lookup x with
  |some a=>rw[q]at e;exact .inl e
  |none=>rw[q]at e;exact .inr e
 have own:∀ x c,(cellsFrom (s.heap.objs.size+1) scope.names []).lookup x=some c->s.heap.objs.size<c /\ (pushCells (s.heap.push { cls:=.type "dict",data:=.dict #[] }) scope.names).IsCell c none:=λx c e=>by
  obtain⟨a,b⟩:=ok.empty x c (kE e);exact⟨b,a⟩
 have Yb:∀ x,scope.names.lookup x=some .free->(cellsFrom (s.heap.objs.size+1) scope.names (cW X.env.cells scope.names [])).lookup x=(cW X.env.cells scope.names []).lookup x:=λx e=>by
  rw[ir,jK];cases q:(cellsFrom (s.heap.objs.size+1) scope.names []).lookup x with
  |some a=>exact absurd (Aj S.nk (kE e) (m9 _ _ (kE q))) (by decide)
  |none=>rfl
 have low:∀ x c,X.env.cells.lookup x=some c->c<s.heap.objs.size:=λx c e=>by
  obtain⟨v,o,ho,_⟩:=I.cell x c e;exact aK ho
 have sub:=Co (cells:=X.env.cells) scope.names [] (λx c e=>by simp at e);have abk:∀ x,((relabel scope X.env).names.lookup x=some .cell \/ (relabel scope X.env).names.lookup x=some .free)->scope.names.lookup x=some .free \/ scope.names.lookup x=some .cell:=λx hx=>by
  have go:∀ k',(k'=NameKind.cell \/ k'=NameKind.free)->(relabel scope X.env).names.lookup x=some k'->scope.names.lookup x=some .free \/ scope.names.lookup x=some .cell:=λk' zR e=>by
   obtain⟨k,e1,q⟩:=lY (env:=X.env) scope.names x k' e;rcases q with q|⟨q,_⟩
   ·subst q;rcases zR with z|z
    ·subst z;exact .inr e1
    ·subst z;exact .inl e1
   ·subst q;exact .inl e1
  exact hx.elim (go _ (.inl rfl)) (go _ (.inr rfl))
 have Yc:∀ x,scope.names.lookup x=some .free->∃ c,(cW X.env.cells scope.names []).lookup x=some c /\ X.env.cells.lookup x=some c:=λx e=>by
  have hm:=kE e;obtain⟨c,e1⟩:=Cp (cells:=X.env.cells) scope.names [] x (.inr ⟨hm,S.cells I.ok (x,.free) hm rfl⟩);exact⟨c,e1,sub x c e1⟩
 refine⟨⟨I.ok.mod,?_,I.ok.glob,I.ok.blt,ak _,λx y c e1 e2=>?_,λx hx=>?_,λx c e=>?_,I.ok.hd,I.ok.frames,.inl rfl,λb hb=>?_,I.bs,bc I.ok.ua I.sz,λb o e hb=>?_,λb hb=>?_,I.stack,I.Xp⟩,
  rfl,I.bare,Un.kept hk,⟨_,c8,λj x v e1 e2 e3=>?_⟩,λx c e=>?_,I.ar.fresh (ak _),λx c e=>?_,λp hp=>absurd (show p∈([]:List (Addr×Obj)) from hp) (by simp),I.ar.kept hk,?_⟩
 ·exact S.kind
 ·rcases split x c e1 with q1|q1<;>rcases split y c e2 with q2|q2
  ·exact Vy ok.apart (kE q1) (kE q2)
  ·exact absurd (yN (own x c q1).1 (low y c (sub y c q2))) (dO _)
  ·exact absurd (yN (own y c q2).1 (low x c (sub x c q1))) (dO _)
  ·exact I.ok.inj x y c (sub x c q1) (sub y c q2)
 ·rcases abk x hx with k|k
  ·obtain⟨c,e1,_⟩:=Yc x k;exact⟨c,(Yb x k).trans e1⟩
  ·obtain⟨c,e1⟩:=Ae (n:=s.heap.objs.size+1) k;refine⟨c,?_⟩;show (cellsFrom (s.heap.objs.size+1) scope.names (cW X.env.cells scope.names [])).lookup x=some c;rw[ir,jK,e1]
 ·intro hl;rcases split x c hl with q|q
  ·exact ke (own x c q).1
  ·have k:scope.names.lookup x=some .cell:=of_decide_eq_true e;have m:(x,NameKind.free)∈scope.names:=Cq _ _ (by simp) (kE q);exact absurd (Aj S.nk (kE k) m) (by decide)
 ·obtain⟨f,hl⟩:=Ky b hb;refine⟨bL hl,λx c e=>?_⟩;rcases split x c e with q|q
  ·exact vc (yN hl (own x c q).1)
  ·exact f.2.2.2.2.1 x c (sub x c q)
 ·obtain⟨f,_⟩:=Ky b hb;obtain⟨_,_,_,f4,_⟩:=f;rcases f4 with z|z
  ·exact I.ok.wZ b o e z
  ·have q:=(I.ok.bs b o e).1;exact absurd (dM (aK q) z) (dO _)
 ·obtain⟨f,_⟩:=Ky b hb;intro hz;rcases aP.mp (I.IS b hz) with e|e
  ·exact f.2.1 e
  ·exact f.2.2.1 e
 ·have hs:∃ i,src[j]?=some (some i) /\ σ[i]?=some (some v):=by
   have rj:(src.map λo=>o.bind λi=>(σ[i]?).bind id)[j]?=some (some v):=e2;rw[kg]at rj;cases q:src[j]? with
   |none=>rw[q]at rj;cases rj
   | some o =>
     rw[q]at rj;cases o with
     |none=>cases rj
     | some i =>
       refine⟨i,rfl,?_⟩;have zS:(σ[i]?).bind id=some v:=Option.some.inj rj;cases z:σ[i]? with
       |none=>rw[z]at zS;cases zS
       | some o' =>
         rw[z]at zS;have:o'=some v:=zS;rw[this]
  obtain⟨i,abl,hσ⟩:=hs;obtain⟨hN,sL⟩:=S.abi j i x abl e1;have Yd:=S.has (x,.free) (kE sL) rfl;obtain⟨m,_,hl⟩:=I.loc;obtain⟨u,r,lk⟩:=hl i x v hN hσ (.inr Yd);refine⟨u,r,?_⟩;rcases lk with⟨k,_⟩|⟨_,c,ec,zx⟩
  ·rcases Yd with z|z
   ·rw[z]at k;cases k
   ·rw[z]at k;cases k
  ·obtain⟨c',ui,rj⟩:=Yc x sL;have:c'=c:=by rw[ec]at rj;exact(Option.some.inj rj).symm
   subst this;refine .inr ⟨?_,c',(Yb x sL).trans ui,?_⟩
   ·exact jJ (env:=X.env) scope.names x sL
   ·obtain⟨o,ho,hd⟩:=zx;exact⟨o,hk _ _ ho,hd⟩
 ·rcases split x c e with q|q
  ·exact⟨none,(own x c q).2⟩
  ·obtain⟨v,o,ho,hd⟩:=I.cell x c (sub x c q);exact⟨v,o,hk _ _ ho,hd⟩
 ·rcases split x c e with q|q
  ·exact I.ar.fresh (ke (own x c q).1)
  ·exact I.nP x c (sub x c q)
 ·show (rh src σ).length=N.length;unfold rh;rw[aF];exact S.abh
theorem FJ {src:List (Option Nat)}{scope:Scope}{wi:TI}{g:TG}{tf:TT}{te:TE}
 (hc:X.calm=true) (S:kJ X N src scope) (hi:PI X tg iter wi)
 (hg:∀ cl s H C fp,PG (X.comp N scope cl s H C fp) tg g) (hf:∀ cl s H C fp,PF (X.comp N scope cl s H C fp) ifs tf) (he:∀ cl s H C fp,PE (X.comp N scope cl s H C fp) elt te)
 (hs:∀ x,foldedSetIterable iter X.env x=pure x:=by intro _;rfl):PE X (.ListComp elt [⟨tg,iter,ifs,0⟩] scope pos) (zQ src wi g tf te):=by
 intro pins s σ H Q I h;rw[eval_ListComp];refine Hr (use:=none) rfl hs (lX (S.cells I.ok)) S.kind S.names (ao (hi pins s σ H _ I h) λxv s1 h1=>ao h1 λvJ s2 h2=>?_);obtain⟨it,fp,tn,J,H2,e,I2,T,nq,f2,hW⟩:=h2;subst e;refine cS ?_;generalize hD:s2.heap.objs.size=D;have xj:H2 D=none:=I2.ar.fresh (rZ hD);have I3:Inv X pins σ (upd H2 D (.lst [])) { s2 with heap:=s2.heap.push { cls:=.type "list",dict:=none,data:=.seq ([]:List Value).toArray } }:=by
  subst hD;exact I2.laid (t':=s2.toks) (λb u e=>aC _ e) (ak _) ⟨cT _,[],0,.nil,aR _ rfl⟩
 obtain⟨W,⟨m0,w0⟩,turn⟩:=hW D xj;have up:∀ b o,s2.heap.get? b=some o->(s2.heap.push { cls:=.type "list",dict:=none,data:=.seq ([]:List Value).toArray }).get? b=some o:=λb u e=>aC _ e;have xk:=T.obj _ _ nq;have pJ:tn 0 (s2.heap.push { cls:=.type "list",dict:=none,data:=.seq ([]:List Value).toArray }):=T.keep _ _ _ nq λb _ o e=>up b o e;have sM:∀ b∈fp,b<s2.heap.objs.size:=λb hb=>by obtain⟨o,e,_⟩:=xk b hb;exact aK e
 have f3:∀ b∈fp,c7 X pins (upd H2 D (.lst [])) b:=λb hb=>⟨by rw[fJ (by rw[<-hD];exact bL (sM b hb))];exact(f2 b hb).1,(f2 b hb).2⟩;generalize xl:({ s2 with heap:=s2.heap.push { cls:=.type "list",dict:=none,data:=.seq ([]:List Value).toArray } }:Shared)=s3 at I3 ⊢;have sN:s3.heap=s2.heap.push { cls:=.type "list",dict:=none,data:=.seq ([]:List Value).toArray }:=by rw[<-xl]
 rw[<-sN]at pJ;have Kz:∀ b∈fp,b<s3.heap.objs.size:=λb hb=>by rw[sN,qc];exact ng (sM b hb)
 generalize abm:upd H2 D (.lst [])=H3 at I3 f3 w0;refine lZ ?_;generalize sO:pushCells (s3.heap.push { cls:=.type "dict",data:=.dict #[] }) scope.names=h₁;have k1:∀ b o,s3.heap.get? b=some o->h₁.get? b=some o:=λb o e=>by rw[<-sO];exact wC _ _ b o (aC _ e)
 have IY:=Ak S I3 (λb hb=>⟨f3 b hb,Kz b hb⟩) (s':={ s3 with heap:=h₁ }) (by rw[sO]);have sP:tn 0 h₁:=T.keep _ _ _ pJ λb _ o e=>k1 b o e;generalize uj:cellsFrom (s3.heap.objs.size+1) scope.names (cW X.env.cells scope.names [])=cl at IY ⊢;generalize hC:s3.heap.objs.size=C at IY ⊢;have qr:∀ {H':Hp},(∀ b∈fp,H' b=none)->∀ b∈fp,c7 (X.comp N scope cl s3 H3 C fp) [] H' b:=λhn b hb=>by
  refine⟨hn b hb,?_,?_,.inl hb,?_,λp hp=>absurd (show p∈([]:List (Addr×Obj)) from hp) (by simp)⟩
  ·exact(IY.ok.sk b hb).1
  ·exact IY.ok.ub b hb
  ·intro x c e z;exact(IY.ok.sk b hb).2 x c e z
 have fin:∀ (σ':St) (H':Hp) (s':Shared),Inv (X.comp N scope cl s3 H3 C fp) [] σ' H' s'->∀ h',Heap.SameBut C s'.heap h'->Inv X pins σ H' { s' with heap:=h' }:=λσ' H' s' I' h' nT=>by
  have qt:H' C=none:=I'.free;have kp:∀ b o,b≠C->s'.heap.get? b=some o->h'.get? b=some o:=λb o hb e=>nT.extBut b o hb e;have xm:s3.heap.get? C=none:=by rw[<-hC];exact vf (ak _)
  have eY:∀ b o,s3.heap.get? b=some o->b≠C:=λb o e z=>by rw[z,xm]at e;cases e
  have U:=I'.base;refine I3.IU (s':={ s' with heap:=h' }) (ch:=fp) I'.os ⟨λb o e n hb hx=>kp b o (eY b o e) (U.keep b o e n hb hx),λb o e n hb hx=>?_,U.free,λb o e hx=>?_,U.pF,U.nO,U.pG⟩ ?_ I'.bare λb hb=>?_
  ·obtain⟨sl,e1⟩:=U.slot b o e n hb hx;exact⟨sl,kp b _ (eY b o e) e1⟩
  ·obtain⟨o',e1⟩:=U.there b o e hx;exact⟨o',kp b o' (eY b o e) e1⟩
  ·intro b ob e;refine(I'.ar b ob e).eX (λc w' cu q=>kp c w' (λz=>?_) q) (λ_ q=>q) λ_ _ q=>q;rcases cu with z1|z1
   ·rw[<-z1,z,qt]at e;cases e
   ·rw[z,qt]at z1;cases z1
  ·exact⟨(f3 b hb).2.2.2.1,(f3 b hb).2.1,λx c e=>(f3 b hb).2.2.2.2.1 x c e,(f3 b hb).2.2.2.2.2⟩
 have loop:∀ s4:Shared,s4={ s3 with heap:=h₁ } ->
  codeAny (model X.prog X.w) X.A (.compLoop (.ListComp elt [⟨tg,iter,ifs,0⟩] scope pos) 0 (.ref it) (.ref D) (compEnvC scope cl C X.env)) (compPost (model X.prog X.w) X.A X.xe none (EP X pins σ Q) (.ref D) C) s4:=by
  rintro s4 rfl;refine mI (λn s'=>∃ i σ' H',Inv (X.comp N scope cl s3 H3 C fp) [] σ' H' s' /\ tn i s'.heap /\ (∀ b∈fp,H' b=none) /\ W i n σ' H') _ (λ_ _ _ q=>q) ?_ m0 ⟨0,_,H3,IY,sP,λb hb=>(f3 b hb).1,w0⟩;rintro n s5 ⟨i,σ5,H5,I5,nQ,qk,w5⟩;have cA:∀ {α:Type}{t:Sem α}{Q1:α->Shared->Prop}{E1:Value->Shared->Prop}{ss:Shared},wpAny (model X.prog X.w) X.A t Q1 (λ_ _=>False) ss->wpAny (model X.prog X.w) X.A t Q1 E1 ss:=λhw=>c6 hw (λ_ _ q=>q) λ_ _ z=>False.elim z;rcases turn i n σ5 H5 w5 with⟨stop,q5⟩|⟨go,NN,hN,step⟩
  ·refine cA (ao (T.done (X.comp N scope cl s3 H3 C fp) rfl rfl rfl hc i [] s5 σ5 H5 (λ_ _=>False) I5 (qr qk) nQ stop) λr s6 ⟨hr,I6⟩=>?_);subst hr;obtain⟨m6,xn,_⟩:=I6.loc;exact⟨m6,xn,λh' nT=>⟨.ref D,H5,fin σ5 H5 s6 I6 h' nT,rfl,q5⟩⟩
  ·refine cA (ao (T.item (X.comp N scope cl s3 H3 C fp) rfl rfl rfl hc i [] s5 σ5 H5 (λ_ _=>False) I5 (qr qk) nQ go) λr s6 ⟨u,hr,h6⟩=>?_);subst hr;refine cA (ao h6 λ_ s7 ⟨x,H7,I7,r7,y7,qu,xo⟩=>?_);have xp:=I7.pinned (qr xo) (T.obj _ _ qu);refine cA (ao (hg cl s3 H3 C fp _ s7 σ5 H7 x u _ xp r7 (step x H7 y7)) λ_ s8 ⟨σ8,H8,I8,q8⟩=>?_);refine cA (ao (hf cl s3 H3 C fp _ s8 σ8 H8 _ I8 q8) λb s9 ⟨H9,I9,q9⟩=>?_);have again:∀ {σ9:St}{HA:Hp}{sA:Shared},Inv (X.comp N scope cl s3 H3 C fp) ([]++qY fp s7.heap) σ9 HA sA->NN σ9 HA->∃ m,m<n /\ ∃ i σ' H',Inv (X.comp N scope cl s3 H3 C fp) [] σ' H' sA /\ tn i sA.heap /\ (∀ b∈fp,H' b=none) /\ W i m σ' H':=λ{σ9 HA sA} IA nA=>by
    obtain⟨m',hm,wA⟩:=hN σ9 HA nA;refine⟨m',hm,i+1,σ9,HA,IA.sy,T.keep _ _ _ qu λb hb o e=>(IA.pin (b,o) (bG _ (bG _ (gF hb e)))).1,λb hb=>?_,wA⟩;obtain⟨o,e,d⟩:=T.obj _ _ qu b hb;exact(IA.pin (b,o) (bG _ (bG _ (gF hb e)))).2.1
   cases b with
   | false =>
     rw[if_neg (by decide)]at q9;rw[if_neg (by decide)];exact again I9 q9
   | true =>
     rw[if_pos rfl]at q9;rw[if_pos rfl];refine cA (ao (he cl s3 H3 C fp _ s9 σ8 H9 _ I9 q9) λyv sA ⟨y,HA,IA,rA,ys,KA,KC,nA⟩=>?_);refine cA (ao (m8 _ sA σ8 HA (.ref D) [y] (.ref D) [yv] (λ_ HB=>NN σ8 HB) IA rfl (.cons rA .nil) ⟨D,ys,y,rfl,rfl,KA,KC,nA⟩) λr sB hB=>?_);obtain⟨_,HB,IB,_,nB⟩:=hB;exact again IB nB
 exact VH (loop _ rfl) (T.self _ 0 _ _ _ sP (loop _ rfl))
end L2
namespace L2
open PySem PySem.Spec PyProof.Rows PySem.W PySem.Builtin PySem.Builtin.ObjectAttr PySem.Builtin.Getset_descriptor
section
variable {x C : Addr}
def Ye (x C:Addr) (h:Heap):Prop:=∃ ox,h.get? x=some ox /\ ox.cls=.ref C
theorem Ye.type (I:Ye x C h):Looks M h (typeOf (.ref x)) (.ref C):=by
 obtain⟨ox,e,hc⟩:=I;exact hc▸(Looks.ld e).andThen .now
structure afc (K:Frag) (C:Addr):Prop where
 ga:findIn K (.ref C) "__getattribute__"=some (some (.builtin "BaseException.__getattribute__"))
 gt:findIn K (.ref C) "__getattr__"=some none
 cl:findIn K (.ref C) "__class__"=some (some (.builtin "object.__class__"))
 gs:specialIn K (.builtin "object.__class__") "__get__"=some (some (.builtin "getset_descriptor.__get__"))
 tk:takesIn K (.builtin "object.__class__")=some true
 mo:mroIn K C (.type "object")=some true
 mb:mroIn K C (.type "BaseException")=some true
 cd:(clsIn K C).isSome=true
end
end L2
namespace L2
open PySem PySem.Spec PyProof.Rows PySem.W
def abn (B:Heap) (l:List Env) (ea:Addr) (cls a0:Value) (h:Heap):Prop :=
 Heap.FlyingW B l ea cls a0 h \/ (B.StaysIn h /\ B.get? ea=none /\ h.FunFrames B l /\
  h.get? ea=some { cls:=cls,data:=.fields #[a0,.none,.none,.none,.bool false,.none] })
section
variable {B : Heap} {env : Env} {outer : List Env} {L ea : Addr} {cls a0 : Value} {Q : Unit -> Shared -> Prop}
end
def nU (P:Program) (w:World):nR:=λouter H s E e s'=>∃ (ea C:Addr) (a0:Value) (B:Heap) (H':Hp),
 e=.ref ea /\ s'.os=s.os /\ AllBare s'.gens /\ Un (nh outer) [] H H' s.heap s'.heap /\ bV P w H' s'.heap /\ abn B outer ea (.ref C) a0 s'.heap /\
 (∀ b u o,H' b=some u->s'.heap.get? b=some o->B.get? b=some o) /\ (∀ b o,s.heap.get? b=some o->b∉nh outer->∃ o',B.get? b=some o') /\ E (.ref C) none H'
section
variable {f C : Addr} {ps : List Str} {sp : Sp} {qZ : List V} {ds : List Value} {E : XK} {m : Str} {p : Pos} {o : Expr} {es : List Expr} {ta : TE} {t : TA}
inductive Yf (K:Frag) (H:Hp):V->Value->Prop where
 |of {x:V}{t:Value}(h:kH K H x t):Yf K H x t
noncomputable def abo:V->Value->Prop
 |.ref a,c=>c=.ref a
 |.ty n,c=>c=.type n
 |_,_=>False
def abp (K:Frag):List V->Hp->VK->Prop:=λvs H Q=>∃ x c t cv b,vs=[x,c] /\ Yf K H x t /\ abo c cv /\ kitOne K t cv=some b /\ Q (.bl b) H
theorem Bf:dA X (.builtin "isinstance") (abp X.K):=by
 intro pins s σ H xs us Q I rv h;obtain⟨x,c,t,cv,b,rfl,ty,hc,e,q⟩:=h;cases rv with
 | cons r1 r2 =>
   cases r2 with
   | cons r3 r4 =>
     cases r4;rename_i u1 u2;have ec:u2=cv:=by
      cases c with
      |ref a=>exact(show u2=.ref a from r3).trans (show cv=.ref a from hc).symm
      |ty n=>exact(show u2=.type n from r3).trans (show cv=.type n from hc).symm
      |aq=>exact hc.elim
      |bl _=>exact hc.elim
      |int _=>exact hc.elim
      |str _=>exact hc.elim
      |kn _=>exact hc.elim
      |sj _=>exact hc.elim
     subst ec;cases ty with
     |of ty=>exact G0 I r1 ty e λtk=>⟨.bl b,H,I.tok tk,rfl,q⟩
end
theorem Cr {A:Around}{s:Shared}{y:V}{u:Value}(ry:RelV y u) (fy:e9 y=true) (f:Value->Bool):∀ {xs:List V}{us:List Value},Vals xs us->xs.all e9=true ->
 (∀ z w,z∈xs->w∈us->RelV z w->f w=eu z y)->∀ w∈us,SeqAt.EqAt A s w u (f w)
 |_,_,.nil,_,_,_,h=>nomatch h
 | z::zs,w::ws,.cons r t,ha,hf,v,hv=>by
   rw[pB,aA]at ha;rcases aP.mp hv with e|e
   ·subst e;rw[hf z v bQ bQ r];exact Lk r ry ha.1 fy
   ·exact Cr ry fy f t ha.2 (λa b h1 h2=>hf a b (bF _ h1) (bF _ h2)) v e
noncomputable def zT (y:V) (w:Value):Bool:=match w with
 |.none=>eu .aq y
 |.bool b=>eu (.bl b) y
 |.int i _=>eu (.int i) y
 |.str x _=>eu (.str x) y
 |_=>false
theorem Lp {z y:V}{w:Value}(r:RelV z w) (f:e9 z=true):zT y w=eu z y:=by
 cases z with
 |aq=>cases (show w=Value.none from r);rfl
 |bl b=>cases (show w=Value.bool b from r);rfl
 |int i=>obtain⟨t,rfl⟩:=(show ∃ t,w=Value.int i t from r);rfl
 |str x=>obtain⟨t,rfl⟩:=(show ∃ t,w=Value.str x t from r);rfl
 |kn b=>exact nomatch f
 |sj b=>exact nomatch f
 |ref a=>exact nomatch f
 |ty n=>exact nomatch f
theorem Rz {y:V}:∀ {xs:List V}{us:List Value}{j:Nat}(h:j<us.length),Vals xs us->xs.all e9=true->∃ z,xs[j]?=some z /\ zT y us[j]=eu z y
 |_,_,_,h,.nil,_=>absurd h (by simp)
 | z::zs,w::ws,0,_,.cons r t,ha=>by
   rw[pB,aA]at ha;exact⟨z,rfl,Lp r ha.1⟩
 | z::zs,w::ws,j+1,h,.cons r t,ha=>by
   rw[pB,aA]at ha;obtain⟨v,e1,e2⟩:=Rz (y:=y) (j:=j) (by simpa using h) t ha.2;exact⟨v,by simpa using e1,by simpa using e2⟩
def Yg:V->List V->Hp->VK->Prop:=λx vs H Q=>∃ l xs y j,x=.ref l /\ vs=[y] /\ H l=some (.lst xs) /\ xs.all e9=true /\ e9 y=true /\ j<xs.length /\
 (∀ z,xs[j]?=some z->eu z y=true) /\ (∀ (m:Nat) z,m<j->xs[m]?=some z->eu z y=false) /\ Q (.int (j:Nat)) H
theorem Lq:Ks X "list.index" Yg:=by
 intro pins s σ H x vs v us Q I rx rv h;obtain⟨l,xs,y,j,rfl,rfl,hH,ha,hy,hj,hit,Ko,q⟩:=h;cases rx;obtain⟨u,rfl,ru⟩:=rv.one;obtain⟨z,af,n,r,hl,e⟩:=I.vP hH;have pL:j<af.length:=by omega
 have small:(j:Int)<2 ^ 63-1:=by have:=sD;omega
 refine Hq F.slot_list_index ⟨_,e,rfl⟩ F.entry_list_index (F.args_list_index_2 _ _) (SeqAt.list_indexAt l af.toArray n none #[] u (zT y) j (by simpa using pL) small ?_ ?_) ⟨e,?_,?_⟩
 ·obtain⟨v,e1,e2⟩:=Rz (y:=y) pL r ha;rw[show (af.toArray[j]'(by simpa using pL))=af[j] from rfl,e2];exact hit v e1
 ·intro m hm abq;have zU:m<af.length:=by simpa using hm
  obtain⟨v,e1,e2⟩:=Rz (y:=y) zU r ha;rw[show (af.toArray[m]'hm)=af[m] from rfl,e2];exact Ko m v abq e1
 ·intro w hw;exact Cr ru hy (zT y) r ha (λz w h1 h2 rz=>Lp rz (bR.mp ha z h1)) w (by simpa using hw)
 ·exact⟨.int (j:Nat),H,I.tok _,⟨_,rfl⟩,q⟩
end L2
namespace L2.DL
open PySem PySem.Spec PyProof.Rows
inductive D where
 |aq|bl (b:Bool)|int (i:Int)|str (x:Str)|tup (l:List D)|lst (l:List D)|aN (l:List (Key×D))
inductive W where
 |d (x:D)|b (n:Nat)|s (l:List Int)|x (i:Nat)|t (l:List Nat)|m (l:List (Str×Nat))
inductive Bx where
 |lst (l:List D)|aN (l:List (Key×D))|dead|dT (l:List (List Key×D))
mutual
noncomputable def Den (F:Hp):D->V->Prop
 |.aq,v=>v=.aq
 |.bl b,v=>v=.bl b
 |.int i,v=>v=.int i
 |.str x,v=>v=.str x
 |.tup l,v=>∃ a vs,v=.ref a /\ F a=some (.tup vs) /\ av F l vs
 |.lst l,v=>∃ a vs,v=.ref a /\ F a=some (.lst vs) /\ av F l vs
 |.aN l,v=>∃ a ah,v=.ref a /\ F a=some (.dK ah) /\ c9 F l ah
noncomputable def av (F:Hp):List D->List V->Prop
 |[],vs=>vs=[]
 |d::l,vs=>∃ v r,vs=v::r /\ Den F d v /\ av F l r
noncomputable def c9 (F:Hp):List (Key×D)->List (Key×V)->Prop
 |[],r=>r=[]
 |(k,d)::l,r=>∃ v r',r=(k,v)::r' /\ Den F d v /\ c9 F l r'
end
def Sub (F F':Hp):Prop:=∀ a u,F a=some u->F' a=some u
theorem Sub.refl (F:Hp):Sub F F:=λ_ _ h=>h
theorem Sub.trans {G:Hp}(a:Sub F G) (b:Sub G H):Sub F H:=λx u h=>b x u (a x u h)
mutual
theorem Den.mono {F F':Hp}(s:Sub F F'):∀ (d:D) {v:V},Den F d v->Den F' d v
 |.aq,_,h=>h
 |.bl _,_,h=>h
 |.int _,_,h=>h
 |.str _,_,h=>h
 | .tup l,_,h=>by
   obtain⟨a,vs,e,h1,h2⟩:=h;exact⟨a,vs,e,s _ _ h1,av.mono s l h2⟩
 | .lst l,_,h=>by
   obtain⟨a,vs,e,h1,h2⟩:=h;exact⟨a,vs,e,s _ _ h1,av.mono s l h2⟩
 | .aN l,_,h=>by
   obtain⟨a,vs,e,h1,h2⟩:=h;exact⟨a,vs,e,s _ _ h1,c9.mono s l h2⟩
theorem av.mono {F F':Hp}(s:Sub F F'):∀ (l:List D) {vs:List V},av F l vs->av F' l vs
 |[],_,h=>h
 | d::l,_,h=>by
   obtain⟨v,r,e,h1,h2⟩:=h;exact⟨v,r,e,Den.mono s d h1,av.mono s l h2⟩
theorem c9.mono {F F':Hp}(s:Sub F F'):∀ (l:List (Key×D)) {vs:List (Key×V)},c9 F l vs->c9 F' l vs
 |[],_,h=>h
 | (k,d)::l,_,h=>by
   obtain⟨v,r,e,h1,h2⟩:=h;exact⟨v,r,e,Den.mono s d h1,c9.mono s l h2⟩
end
theorem av.length {F:Hp}:∀ {l:List D}{vs:List V},av F l vs->l.length=vs.length
 | [],_,h=>by
   have e:_=[]:=h;rw[e];rfl
 | d::l,_,h=>by
   obtain⟨v,r,e,_,h2⟩:=h;rw[e,bA,bA,h2.length]
theorem av.get {F:Hp}:∀ {l:List D}{vs:List V}{i:Nat}{d:D},av F l vs->l[i]?=some d->∃ v,vs[i]?=some v /\ Den F d v
 |[],_,_,_,_,e=>by simp at e
 | x::l,_,0,d,h,e=>by
   obtain⟨v,r,q,h1,_⟩:=h;simp at e;subst e;subst q;exact⟨v,rfl,h1⟩
 | x::l,_,i+1,d,h,e=>by
   obtain⟨v,r,q,_,h2⟩:=h;subst q;obtain⟨u,e1,e2⟩:=av.get (i:=i) h2 (by simpa using e);exact⟨u,by simpa using e1,e2⟩
theorem av.get' {l:List D}{vs:List V}(h:av F l vs) (e:vs[i]?=some v):∃ d,l[i]?=some d /\ Den F d v:=by
 cases q:l[i]? with
 | none =>
   have h1:=List.getElem?_eq_none_iff.mp q;rw[h.length]at h1;rw[List.getElem?_eq_none_iff.mpr h1]at e;cases e
 | some d =>
   obtain⟨u,e1,e2⟩:=h.get q;rw[e]at e1;cases e1;exact⟨d,rfl,e2⟩
theorem av.nil:av F [] []:=rfl
theorem av.cons {F:Hp}{d:D}{v:V}{l:List D}{vs:List V}(h:Den F d v) (t:av F l vs):av F (d::l) (v::vs):=⟨v,vs,rfl,h,t⟩
theorem av.append {F:Hp}:∀ {l l':List D}{vs rn:List V},av F l vs->av F l' rn->av F (l++l') (vs++rn)
 | [],_,_,_,h,t=>by
   have e:_=[]:=h;rw[e];exact t
 | d::l,_,_,_,h,t=>by
   obtain⟨v,r,q,h1,h2⟩:=h;subst q;exact .cons h1 (h2.append t)
theorem av.take {F:Hp}:∀ {l:List D}{vs:List V}(n:Nat),av F l vs->av F (l.take n) (vs.take n)
 |l,_,0,_=>by rw[Wf,Wf];rfl
 | [],_,n+1,h=>by
   have e:_=[]:=h;rw[e];exact rfl
 | d::l,_,n+1,h=>by
   obtain⟨v,r,q,h1,h2⟩:=h;subst q;exact .cons h1 (h2.take n)
theorem av.drop {F:Hp}:∀ {l:List D}{vs:List V}(n:Nat),av F l vs->av F (l.drop n) (vs.drop n)
 |l,_,0,h=>h
 | [],_,n+1,h=>by
   have e:_=[]:=h;rw[e];exact rfl
 | d::l,_,n+1,h=>by
   obtain⟨v,r,q,h1,h2⟩:=h;subst q;exact h2.drop n
theorem av.reverse {F:Hp}:∀ {l:List D}{vs:List V},av F l vs->av F l.reverse vs.reverse
 | [],_,h=>by
   have e:_=[]:=h;rw[e];exact rfl
 | d::l,_,h=>by
   obtain⟨v,r,q,h1,h2⟩:=h;subst q;rw[yZ,yZ];exact h2.reverse.append (.cons h1 .nil)
theorem av.set {F:Hp}{d:D}{v:V}(hd:Den F d v):∀ {l:List D}{vs:List V}(i:Nat),av F l vs->av F (l.set i d) (vs.set i v)
 | [],_,_,h=>by
   have e:_=[]:=h;rw[e];exact rfl
 | _::l,_,0,h=>by
   obtain⟨v',r,q,h1,h2⟩:=h;subst q;exact .cons hd h2
 | _::l,_,i+1,h=>by
   obtain⟨v',r,q,h1,h2⟩:=h;subst q;exact .cons h1 (av.set hd i h2)
structure Fr where
 H₀:Hp
 n₀:Nat
 F₀:Hp
noncomputable def pM (r:List Addr):List Nat->List Addr->Prop
 |[],as=>as=[]
 |n::l,as=>∃ a t,as=a::t /\ r[n]?=some a /\ pM r l t
theorem pM.mono {r r':List Addr}(p:r <+: r'):∀ {l:List Nat}{as:List Addr},pM r l as->pM r' l as
 |[],_,h=>h
 | n::l,_,h=>by
   obtain⟨a,t,e,h1,h2⟩:=h;refine⟨a,t,e,?_,h2.mono p⟩;obtain⟨u,rfl⟩:=p;rw[dt (List.getElem?_eq_some_iff.mp h1).1];exact h1
noncomputable def hG (F:Hp):List (List Key×D)->List (List Key×V)->Prop
 |[],r=>r=[]
 |(k,d)::l,r=>∃ v r',r=(k,v)::r' /\ Den F d v /\ hG F l r'
theorem hG.mono {F F':Hp}(s:Sub F F'):∀ (l:List (List Key×D)) {vs:List (List Key×V)},hG F l vs->hG F' l vs
 |[],_,h=>h
 | (k,d)::l,_,h=>by
   obtain⟨v,r,e,h1,h2⟩:=h;exact⟨v,r,e,Den.mono s d h1,hG.mono s l h2⟩
noncomputable def bJ (F:Hp) (KD:List Addr):W->V->Prop
 |.d x,v=>Den F x v
 |.b n,v=>∃ a,v=.ref a /\ KD[n]?=some a
 |.s l,v=>∃ a o,v=.ref a /\ F a=some (.ko o (.lst (l.map V.int)))
 |.x _,_=>False
 |.t l,v=>∃ c as,v=.ref c /\ F c=some (.tup (as.map V.ref)) /\ pM KD l as
 |.m l,v=>∃ c as,v=.ref c /\ F c=some (.dK (List.zipWith (λk a=>(.inr k.1,V.ref a)) l as)) /\ pM KD (l.map (·.2)) as
theorem bJ.mono {F F':Hp}{r r':List Addr}(s:Sub F F') (p:r <+: r'):∀ (w:W) {v:V},bJ F r w v->bJ F' r' w v
 |.d x,_,h=>Den.mono s x h
 | .b n,_,h=>by
   obtain⟨a,e,h⟩:=h;refine⟨a,e,?_⟩;obtain⟨t,rfl⟩:=p;rw[dt (List.getElem?_eq_some_iff.mp h).1];exact h
 |.s l,_,h=>let ⟨a,o,e,h⟩:=h;⟨a,o,e,s _ _ h⟩
 |.x _,_,h=>h
 |.t l,_,h=>let ⟨c,as,e,h1,h2⟩:=h;⟨c,as,e,s _ _ h1,h2.mono p⟩
 |.m l,_,h=>let ⟨c,as,e,h1,h2⟩:=h;⟨c,as,e,s _ _ h1,h2.mono p⟩
noncomputable def rq (F H:Hp) (a:Addr):Bx->Prop
 |.lst l=>F a=none /\ ∃ vs,H a=some (.lst vs) /\ av F l vs
 |.aN l=>F a=none /\ ∃ ah,H a=some (.dK ah) /\ c9 F l ah
 |.dead=>∃ u,H a=some u
 |.dT l=>F a=none /\ ∃ ah,H a=some (.dT ah) /\ hG F l ah
noncomputable abbrev aJ:=List (Option W)
noncomputable abbrev xB (n:Nat):Option W:=some (.b n)
noncomputable abbrev xN (i:Int):Option W:=some (.d (.int i))
noncomputable abbrev xJ (l:List Int):Option W:=some (.d (.lst (l.map D.int)))
structure Rel (T:Fr) (F:Hp) (r:List Addr) (σ:St) (H:Hp) (env:aJ) (bx:List Bx):Prop where
 fh:Sub F H
 slot:∀ (i:Nat) (w:W),env[i]?=some (some w)->∃ v,σ[i]?=some (some v) /\ bJ F r w v
 len:r.length=bx.length
 nd:r.Nodup
 box:∀ (n:Nat) (c:Bx) (a:Addr),bx[n]?=some c->r[n]?=some a->rq F H a c
 keep:∀ a u,T.H₀ a=some u->a∉r->H a=some u
 new:∀ (n:Nat) (a:Addr),T.n₀<=n->r[n]?=some a->T.H₀ a=none
 n0:T.n₀<=r.length
 sl:env.length<=σ.length
 fs:∀ a u,F a=some u->T.F₀ a=some u \/ T.H₀ a=none \/ a∈r
structure aL (F:Hp) (r:List Addr) (F':Hp) (r':List Addr):Prop where
 s:Sub F F'
 p:r <+: r'
theorem aL.refl (F:Hp) (r:List Addr):aL F r F r:=⟨Sub.refl F,qQ r⟩
theorem aL.trans {F F' Yh:Hp}{r r' Yi:List Addr}(a:aL F r F' r') (b:aL F' r' Yh Yi):aL F r Yh Yi:=⟨a.s.trans b.s,a.p.trans b.p⟩
theorem aL.den {F':Hp}{r':List Addr}(g:aL F r F' r') {w:W}(h:bJ F r w v):bJ F' r' w v:=h.mono g.s g.p w
inductive O (α:Type) where
 |val (a:α) (bx:List Bx)|exc (c:Nat) (bx:List Bx)|bad
noncomputable abbrev DE (α:Type):=aJ->List Bx->O α
noncomputable def fq {β:Type}(m:O α) (k:α->List Bx->O β):O β :=
 match m with
 |.val a bx=>k a bx
 |.exc c bx=>.exc c bx
 |.bad=>.bad
structure Xs where
 E:XK
 cl:Nat->Addr
noncomputable def End {β:Type}(T:Fr) (Z:Xs) (Rl:Hp->List Addr->α->β->Prop) (F:Hp) (r:List Addr) (σ:St) (env:aJ) (Q:β->Hp->Prop):O α->Prop
 |.val d bx'=>∀ F' r' v H',aL F r F' r'->Rel T F' r' σ H' env bx'->Rl F' r' d v->Q v H'
 |.exc c bx'=>∀ F' r' H',aL F r F' r'->Rel T F' r' [] H' [] bx'->Z.E (.ref (Z.cl c)) none H'
 |.bad=>False
theorem End.weak {β:Type}{T:Fr}{Z:Xs}{Rl:Hp->List Addr->α->β->Prop}{F':Hp}{r':List Addr}{env:aJ}{Q:β->Hp->Prop}(g:aL F r F' r'):∀ {o:O α},End T Z Rl F r σ env Q o->End T Z Rl F' r' σ env Q o
 |.val _ _,h=>λF2 r2 v H2 g2=>h F2 r2 v H2 (g.trans g2)
 |.exc _ _,h=>λF2 r2 H2 g2=>h F2 r2 H2 (g.trans g2)
 |.bad,h=>h
theorem End.bind {β α' β':Type}{T:Fr}{Z:Xs}{R1:Hp->List Addr->α->β->Prop}{R2:Hp->List Addr->α'->β'->Prop}{env:aJ}{Q:β'->Hp->Prop}{Q1:β->Hp->Prop}
 {m:O α}{k:α->List Bx->O α'}(h:End T Z R2 F r σ env Q (fq m k))
 (c:∀ d bx1 F1 r1 v H1,aL F r F1 r1->Rel T F1 r1 σ H1 env bx1->R1 F1 r1 d v->End T Z R2 F1 r1 σ env Q (k d bx1)->Q1 v H1):End T Z R1 F r σ env Q1 m:=by
 cases m with
 |val d bx=>exact λF' r' v H' g R q=>c d bx F' r' v H' g R q (End.weak g h)
 |exc n bx=>exact h
 |bad=>exact h
theorem Rel.drop {T:Fr}{env:aJ}{bx:List Bx}(R:Rel T F r σ H env bx):Rel T F r [] H [] bx :=
 ⟨R.fh,λi w e=>by simp at e,R.len,R.nd,R.box,R.keep,R.new,R.n0,ak _,R.fs⟩
def tD (T:Fr) (Z:Xs) (m:DE W):TE:=λσ H Q=>∃ F r env bx,Rel T F r σ H env bx /\ End T Z bJ F r σ env Q (m env bx)
def PD (X:Cx) (T:Fr) (Z:Xs) (e:Expr) (m:DE W):Prop:=PE X e (tD T Z m)
abbrev abr:Hp->List Addr->Bool->Bool->Prop:=λ_ _ a b=>a=b
noncomputable def eQ (T:Fr) (Z:Xs) (m:DE Bool):TT:=λσ H Q=>∃ F r env bx,Rel T F r σ H env bx /\ End T Z abr F r σ env Q (m env bx)
def dD (X:Cx) (T:Fr) (Z:Xs) (e:Expr) (m:DE Bool):Prop:=PT X e (eQ T Z m)
noncomputable def dS (F:Hp) (r:List Addr):List W->List V->Prop
 |[],vs=>vs=[]
 |w::l,vs=>∃ v t,vs=v::t /\ bJ F r w v /\ dS F r l t
theorem dS.mono {F F':Hp}{r r':List Addr}(g:aL F r F' r'):∀ {l:List W}{vs:List V},dS F r l vs->dS F' r' l vs
 |[],_,h=>h
 | w::l,_,h=>by
   obtain⟨v,t,e,h1,h2⟩:=h;exact⟨v,t,e,g.den h1,h2.mono g⟩
def zV (T:Fr) (Z:Xs) (m:DE (List W)):TA:=λσ H Q=>∃ F r env bx,Rel T F r σ H env bx /\ End T Z dS F r σ env Q (m env bx)
def cc (X:Cx) (T:Fr) (Z:Xs) (es:List Expr) (m:DE (List W)):Prop:=PA X es (zV T Z m)
theorem PE.imp {t t':TE}(h:PE X e t) (f:∀ σ H Q,t' σ H Q->t σ H Q):PE X e t':=λpins s σ H Q I q=>h pins s σ H Q I (f σ H Q q)
theorem PT.imp {t t':TT}(h:PT X e t) (f:∀ σ H Q,t' σ H Q->t σ H Q):PT X e t':=λpins s σ H Q I q=>h pins s σ H Q I (f σ H Q q)
theorem PW.imp {t t':TT}(h:PW X e t) (f:∀ σ H Q,t' σ H Q->t σ H Q):PW X e t':=λwhole pins s σ H Q I q=>h whole pins s σ H Q I (f σ H Q q)
theorem PA.imp {e:List Expr}{t t':TA}(h:PA X e t) (f:∀ σ H Q,t' σ H Q->t σ H Q):PA X e t':=λpos pins s σ H Q I q=>h pos pins s σ H Q I (f σ H Q q)
theorem PS.imp {e:Stmt}{t t':TS}(h:PS X e t) (f:∀ Q σ H,t' Q σ H->t Q σ H):PS X e t':=λpins s σ H Q I q=>h pins s σ H Q I (f Q σ H q)
theorem dR.imp {e:List Stmt}{t t':TS}(h:dR X e t) (f:∀ Q σ H,t' Q σ H->t Q σ H):dR X e t':=λpins s σ H Q I q=>h pins s σ H Q I (f Q σ H q)
section
variable {T : Fr} {Z : Xs} {a b : Expr} {es : List Expr} {ma mb mc : DE W} 
noncomputable def dV (i:Nat):DE W:=λenv bx=>match env[i]? with|some (some w)=>.val w bx|_=>.bad
theorem RC (i:Nat) (hN:X.N[i]?=some x:=by rfl) (hv:vF X.env.scope x:=by first|exact Or.inl rfl|exact Or.inr (Or.inl rfl)|exact Or.inr (Or.inr rfl)) (hd:(x==("__debug__":Str))=false:=by decide)
 (nj:(x==("__classdict__":Str))=false:=by decide):PD X T Z (.Name x pos) (dV i):=by
 refine PE.imp (J0 hN hv hd nj) λσ H Q ⟨F,r,env,bx,R,h⟩=>?_;unfold dV at h;split at h
 ·rename_i w e;obtain⟨v,e1,e2⟩:=R.slot i w e;exact⟨v,e1,h F r v H (.refl F r) R e2⟩
 ·exact h.elim
noncomputable def dC (d:D):DE W:=λ_ bx=>.val (.d d) bx
theorem Cs {d:D}(h:PE X e (tC v)) (hd:∀ F,Den F d v):PD X T Z e (dC d):=
 PE.imp h λσ H Q ⟨F,r,env,bx,R,h⟩=>h F r v H (.refl F r) R (hd F)
theorem RD {i:Int}{j}:PD X T Z (.Constant (.int i) j pos) (dC (.int i)):=Cs Dq λ_=>rfl
theorem TC {i:Bool}{j}:PD X T Z (.Constant (.bool i) j pos) (dC (.bl i)):=Cs Tp λ_=>rfl
theorem RE {j}:PD X T Z (.Constant .none j pos) (dC .aq):=Cs P0 λ_=>rfl
theorem RF {j}:PD X T Z (.Constant (.str x) j pos) (dC (.str x)):=Cs P3 λ_=>rfl
noncomputable def fe:DE (List W):=λ_ bx=>.val [] bx
noncomputable def fb (m:DE W) (k:DE (List W)):DE (List W):=λenv bx=>fq (m env bx) λw bx1=>fq (k env bx1) λl bx2=>.val (w::l) bx2
theorem iL:cc X T Z [] fe:=PA.imp jG λσ H Q ⟨F,r,env,bx,R,h⟩=>h F r [] H (.refl F r) R rfl
theorem Lr {k:DE (List W)}(ha:PD X T Z e ma) (hr:cc X T Z es k) (hs:starEach (e::es) X.env=(false,eval e X.env)::starEach es X.env:=by rfl):cc X T Z (e::es) (fb ma k):=by
 refine PA.imp (g9 ha hr hs) λσ H Q ⟨F,r,env,bx,R,h⟩=>?_;refine⟨F,r,env,bx,R,End.bind h λw bx1 F1 r1 v H1 g1 R1 d1 h1=>?_⟩;refine⟨F1,r1,env,bx1,R1,End.bind h1 λl bx2 F2 r2 vs H2 g2 R2 d2 h2=>?_⟩;exact h2 F2 r2 _ H2 (.refl F2 r2) R2 ⟨v,vs,rfl,g2.den d1,d2⟩
end
end L2.DL
variable {te m ma : L2.DL.DE L2.DL.W}{l : List L2.DL.D}{ks mi : L2.DL.DE (List L2.DL.W)}{T : L2.DL.Fr}{d : L2.DL.D}{env : L2.DL.aJ}{tf : L2.DL.DE Bool}{Z : L2.DL.Xs}{bx bx' bx1 bx0 : List L2.DL.Bx}{fn : List L2.DL.W -> List L2.DL.Bx -> L2.DL.O L2.DL.W}
namespace L2.DL
open PySem PySem.Spec PyProof.Rows
theorem oT {p:Addr}{o:HO}(h:F p=none):Sub F (upd F p o):=λa u e=>by rw[fJ (f9 e h)];exact e
theorem Rel.uk (R:Rel T F r σ H env bx) {p:Addr}(h:H p=none):F p=none:=by
 cases e:F p with
 |none=>rfl
 |some u=>rw[R.fh p u e]at h;cases h
theorem rq.there:∀ {c:Bx},rq F H a c->∃ u,H a=some u
 |.lst _,h=>let ⟨_,vs,e,_⟩:=h;⟨_,e⟩
 |.aN _,h=>let ⟨_,vs,e,_⟩:=h;⟨_,e⟩
 |.dead,h=>h
 |.dT _,h=>let ⟨_,vs,e,_⟩:=h;⟨_,e⟩
theorem Rel.nV (R:Rel T F r σ H env bx) (e:r[n]?=some a):∃ c,bx[n]?=some c /\ rq F H a c:=by
 have h:=(List.getElem?_eq_some_iff.mp e).1;rw[R.len]at h;exact⟨_,cJ h,R.box n _ a (cJ h) e⟩
theorem Rel.uo (R:Rel T F r σ H env bx) {p:Addr}(h:H p=none):p∉r:=λhp=>by
 obtain⟨n,e⟩:=List.mem_iff_getElem?.mp hp;obtain⟨c,_,k⟩:=R.nV e;obtain⟨u,k⟩:=k.there;rw[h]at k;cases k
theorem rq.grow {F':Hp}(s:Sub F F') (hf:F a=none->F' a=none) (hh:∀ u,H a=some u->H' a=some u):∀ {c:Bx},rq F H a c->rq F' H' a c
 |.lst _,h=>let ⟨h1,vs,h2,h3⟩:=h;⟨hf h1,vs,hh _ h2,av.mono s _ h3⟩
 |.aN _,h=>let ⟨h1,vs,h2,h3⟩:=h;⟨hf h1,vs,hh _ h2,c9.mono s _ h3⟩
 |.dead,h=>let ⟨u,h⟩:=h;⟨u,hh u h⟩
 |.dT _,h=>let ⟨h1,vs,h2,h3⟩:=h;⟨hf h1,vs,hh _ h2,hG.mono s _ h3⟩
theorem Rel.vQ (R:Rel T F r σ H env bx) {p:Addr}{o:HO}(h:H p=none):Rel T (upd F p o) r σ (upd H p o) env bx:=by
 have hf:=R.uk h;have s:=oT (o:=o) hf;refine⟨λa u e=>?_,λi w e=>?_,R.len,R.nd,λn c a e1 e2=>?_,λa u e hn=>?_,R.new,R.n0,R.sl,λa u e=>?_⟩
 ·by_cases ha:a=p
  ·subst ha;rw[fI]at e ⊢;exact e
  ·rw[fJ ha]at e ⊢;exact R.fh a u e
 ·obtain⟨v,e1,e2⟩:=R.slot i w e;exact⟨v,e1,e2.mono s (qQ r)⟩
 ·have k:=R.box n c a e1 e2;obtain⟨u,hu⟩:=k.there;have ha:a≠p:=f9 hu h;exact k.grow s (λz=>by rw[fJ ha];exact z) (λu z=>by rw[fJ ha];exact z)
 ·have k:=R.keep a u e hn;rw[fJ (f9 k h)];exact k
 ·by_cases ha:a=p
  ·subst ha;refine .inr (.inl ?_);cases q:T.H₀ a with
   |none=>rfl
   |some u=>rw[R.keep a u q (R.uo h)]at h;cases h
  ·rw[fJ ha]at e;exact R.fs a u e
theorem Rel.rC (R:Rel T F r σ H env bx) {p:Addr}{o:HO}(h:H p=none):aL F r (upd F p o) r:=⟨oT (R.uk h),qQ r⟩
theorem Rel.KG (R:Rel T F r σ H env bx) {p:Addr}{o:HO}{c:Bx}(h:H p=none) (hc:rq F (upd H p o) p c):Rel T F (r++[p]) σ (upd H p o) env (bx++[c]):=by
 have hs:∀ a u,H a=some u->upd H p o a=some u:=λa u e=>by rw[fJ (f9 e h)];exact e
 refine⟨λa u e=>hs a u (R.fh a u e),λi w e=>?_,by rw[cb,cb,R.len];rfl,?_,λn c' a e1 e2=>?_,λa u e hn=>?_,λn a hn e=>?_,by rw[cb];exact bc R.n0 (vd _ _),R.sl,λa u e=>(R.fs a u e).imp id (Or.imp id λz=>cH _ z)⟩
 ·obtain⟨v,e1,e2⟩:=R.slot i w e;exact⟨v,e1,e2.mono (Sub.refl F) (wL r [p])⟩
 ·rw[sf];refine⟨R.nd,by simp,λa ha b hb=>?_⟩;rw[a7]at hb;subst hb;exact λz=>R.uo h (z▸ha)
 ·by_cases hn:n<r.length
  ·rw[dt hn]at e2;rw[dt (by rw[<-R.len];exact hn)]at e1;exact(R.box n c' a e1 e2).grow (Sub.refl F) id (hs a)
  ·rw[cU (by omega)]at e2;rw[cU (by rw[<-R.len];omega)]at e1;have hl:n-r.length=0:=by
    cases q:n-r.length with
    |zero=>rfl
    |succ k=>rw[q]at e2;simp at e2
   have kK:n-bx.length=0:=by rw[<-R.len];exact hl
   rw[hl]at e2;rw[kK]at e1;simp at e1 e2;subst e1 e2;exact hc
 ·exact hs a u (R.keep a u e λz=>hn (cH _ z))
 ·by_cases hl:n<r.length
  ·rw[dt hl]at e;exact R.new n a hn e
  ·have hp:a=p:=by
    rw[cU (by omega)]at e;cases q:n-r.length with
    |zero=>rw[q]at e;simp at e;exact e.symm
    |succ k=>rw[q]at e;simp at e
   subst hp;cases q:T.H₀ a with
   |none=>rfl
   |some u=>rw[R.keep a u q (R.uo h)]at h;cases h
theorem Al {l:List α}(h:l.Nodup) {x:α}(a:l[i]?=some x) (b:l[j]?=some x):i=j:=by
 have h1:=(List.getElem?_eq_some_iff.mp a).1;have h2:=(List.getElem?_eq_some_iff.mp b).1;exact(List.getElem?_inj h1 h).mp (a.trans b.symm)
theorem Rel.write (R:Rel T F r σ H env bx) {o:HO}{c:Bx}(e:r[n]?=some a) (hF:F a=none) (hc:rq F (upd H a o) a c):Rel T F r σ (upd H a o) env (bx.set n c):=by
 have ha:a∈r:=List.mem_iff_getElem?.mpr ⟨n,e⟩;refine⟨λb u q=>?_,R.slot,by rw[qP];exact R.len,R.nd,λm c' b e1 e2=>?_,λb u q hn=>?_,R.new,R.n0,R.sl,R.fs⟩
 ·by_cases hb:b=a
  ·subst hb;rw[hF]at q;cases q
  ·rw[fJ hb];exact R.fh b u q
 ·by_cases hm:m=n
  ·subst hm;rw[e]at e2;cases e2;rw[vg (by rw[<-R.len];exact(List.getElem?_eq_some_iff.mp e).1)]at e1;cases e1;exact hc
  ·rw[sd (Ne.symm hm)]at e1;have hb:b≠a:=λz=>hm (Al R.nd e2 (z▸e));exact(R.box m c' b e1 e2).grow (Sub.refl F) id λu z=>by rw[fJ hb];exact z
 ·rw[fJ (λz=>hn (by rw[z];exact ha))];exact R.keep b u q hn
theorem Rel.freeze (R:Rel T F r σ H env bx) {o:HO}(e:r[n]?=some a) (hF:F a=none) (hH:H a=some o):Rel T (upd F a o) r σ H env (bx.set n .dead) /\ aL F r (upd F a o) r:=by
 have s:=oT (o:=o) hF;refine⟨⟨λb u q=>?_,λi w q=>?_,by rw[qP];exact R.len,R.nd,λm c' b e1 e2=>?_,R.keep,R.new,R.n0,R.sl,λb u q=>?_⟩,s,qQ r⟩
 ·by_cases hb:b=a
  ·subst hb;rw[fI]at q;cases q;exact hH
  ·rw[fJ hb]at q;exact R.fh b u q
 ·obtain⟨v,e1,e2⟩:=R.slot i w q;exact⟨v,e1,e2.mono s (qQ r)⟩
 ·by_cases hm:m=n
  ·subst hm;rw[e]at e2;cases e2;rw[vg (by rw[<-R.len];exact(List.getElem?_eq_some_iff.mp e).1)]at e1;cases e1;exact⟨_,hH⟩
  ·rw[sd (Ne.symm hm)]at e1;have hb:b≠a:=λz=>hm (Al R.nd e2 (z▸e));exact(R.box m c' b e1 e2).grow s (λz=>by rw[fJ hb];exact z) λu z=>z
 ·by_cases hb:b=a
  ·subst hb;exact .inr (.inr (List.mem_iff_getElem?.mpr ⟨n,e⟩))
  ·rw[fJ hb]at q;exact R.fs b u q
noncomputable def kL (F H:Hp):D->V->Prop
 |.lst l,v=>∃ a vs,v=.ref a /\ H a=some (.lst vs) /\ av F l vs
 |.aN l,v=>∃ a ah,v=.ref a /\ H a=some (.dK ah) /\ c9 F l ah
 |.tup l,v=>∃ a vs,v=.ref a /\ F a=some (.tup vs) /\ av F l vs
 |.aq,v=>v=.aq
 |.bl b,v=>v=.bl b
 |.int i,v=>v=.int i
 |.str x,v=>v=.str x
noncomputable def aG (bx:List Bx):W->Option D
 |.d x=>some x
 | .b n=>match bx[n]? with
   |some (.lst l)=>some (.lst l)
   |some (.aN l)=>some (.aN l)
   |_=>none
 |_=>none
theorem Den.pN (s:Sub F H):∀ {d:D}{v:V},Den F d v->kL F H d v
 |.aq,_,h=>h
 |.bl _,_,h=>h
 |.int _,_,h=>h
 |.str _,_,h=>h
 |.tup l,_,h=>h
 |.lst l,_,h=>let ⟨a,vs,e,h1,h2⟩:=h;⟨a,vs,e,s _ _ h1,h2⟩
 |.aN l,_,h=>let ⟨a,vs,e,h1,h2⟩:=h;⟨a,vs,e,s _ _ h1,h2⟩
theorem Rel.pN (R:Rel T F r σ H env bx) {w:W}{v:V}{d:D}(h:bJ F r w v) (e:aG bx w=some d):kL F H d v:=by
 cases w with
 | d x =>
   cases e;exact Den.pN R.fh h
 | b n =>
   obtain⟨a,rfl,ha⟩:=h;obtain⟨c,hc,k⟩:=R.nV ha;simp only[aG,hc]at e;cases c with
   |lst l=>cases e;obtain⟨_,vs,k1,k2⟩:=k;exact⟨a,vs,rfl,k1,k2⟩
   |aN l=>cases e;obtain⟨_,vs,k1,k2⟩:=k;exact⟨a,vs,rfl,k1,k2⟩
   |dead=>cases e
   |dT _=>cases e
 |s l=>cases e
 |x i=>exact h.elim
 |t _=>cases e
 |m _=>cases e
noncomputable def KH (F H:Hp):List D->List V->Prop
 |[],vs=>vs=[]
 |d::l,vs=>∃ v t,vs=v::t /\ kL F H d v /\ KH F H l t
noncomputable def df (bx:List Bx):List W->Option (List D)
 |[]=>some []
 |w::l=>(aG bx w).bind λd=>(df bx l).map λt=>d::t
theorem Rel.Yj (R:Rel T F r σ H env bx):∀ {ws:List W}{vs:List V}{ds:List D},dS F r ws vs->df bx ws=some ds->KH F H ds vs
 |[],_,_,h,e=>by cases e;exact h
 | w::l,_,ds,h,e=>by
   obtain⟨v,t,q,h1,h2⟩:=h;unfold df at e;cases e1:aG bx w with
   |none=>rw[e1]at e;cases e
   | some d =>
     rw[e1]at e;cases e2:df bx l with
     |none=>rw[e2]at e;cases e
     | some t' =>
       rw[e2]at e;cases e;exact⟨v,t,q,R.pN h1 e1,R.Yj h2 e2⟩
inductive Res where
 |old (d:D)|tup (l:List D)|lst (l:List D)|aN (l:List (Key×D))
noncomputable def Res.toD:Res->D
 |.old d=>d|.tup l=>.tup l|.lst l=>.lst l|.aN l=>.aN l
noncomputable def uq (F H:Hp):Res->V->Hp->Prop
 |.old d,v,H'=>H'=H /\ Den F d v
 |.tup l,v,H'=>(H'=H /\ Den F (.tup l) v) \/ ∃ p vs,v=.ref p /\ H p=none /\ H'=upd H p (.tup vs) /\ av F l vs
 |.lst l,v,H'=>∃ p vs,v=.ref p /\ H p=none /\ H'=upd H p (.lst vs) /\ av F l vs
 |.aN l,v,H'=>∃ p vs,v=.ref p /\ H p=none /\ H'=upd H p (.dK vs) /\ c9 F l vs
theorem Rel.res (R:Rel T F r σ H env bx):∀ {q:Res},uq F H q v H'->∃ F',aL F r F' r /\ Rel T F' r σ H' env bx /\ Den F' q.toD v
 | .old d,h=>by
   obtain⟨rfl,h⟩:=h;exact⟨F,.refl F r,R,h⟩
 | .tup l,h=>by
   rcases h with⟨rfl,h⟩|⟨p,vs,rfl,hp,rfl,h⟩
   ·exact⟨F,.refl F r,R,h⟩
   exact⟨_,R.rC hp,R.vQ hp,p,vs,rfl,fI,av.mono (R.rC (o:=.tup vs) hp).s l h⟩
 | .lst l,h=>by
   obtain⟨p,vs,rfl,hp,rfl,h⟩:=h;exact⟨_,R.rC hp,R.vQ hp,p,vs,rfl,fI,av.mono (R.rC (o:=.lst vs) hp).s l h⟩
 | .aN l,h=>by
   obtain⟨p,vs,rfl,hp,rfl,h⟩:=h;exact⟨_,R.rC hp,R.vQ hp,p,vs,rfl,fI,c9.mono (R.rC (o:=.dK vs) hp).s l h⟩
theorem Rel.resB (R:Rel T F r σ H env bx) (h:uq F H (.lst l) v H'):∃ r',aL F r F r' /\ Rel T F r' σ H' env (bx++[.lst l]) /\ bJ F r' (.b bx.length) v:=by
 obtain⟨p,vs,rfl,hp,rfl,h⟩:=h;refine⟨r++[p],⟨Sub.refl F,wL r [p]⟩,R.KG hp ⟨R.uk hp,vs,fI,h⟩,p,rfl,?_⟩;rw[<-R.len,cU (ak _),nH];rfl
theorem Rel.abt (R:Rel T F r σ H env bx) {l:List (Key×D)}(h:uq F H (.aN l) v H'):∃ r',aL F r F r' /\ Rel T F r' σ H' env (bx++[.aN l]) /\ bJ F r' (.b bx.length) v:=by
 obtain⟨p,vs,rfl,hp,rfl,h⟩:=h;refine⟨r++[p],⟨Sub.refl F,wL r [p]⟩,R.KG hp ⟨R.uk hp,vs,fI,h⟩,p,rfl,?_⟩;rw[<-R.len,cU (ak _),nH];rfl
noncomputable def bN (b:Bool):Option Res->List Bx->O W
 |none,_=>.bad
 | some q,bx=>match b,q with
   |true,.lst l=>.val (.b bx.length) (bx++[.lst l])
   |true,.aN l=>.val (.b bx.length) (bx++[.aN l])
   |_,_=>.val (.d q.toD) bx
theorem iA {Q:VK}{b:Bool}{q:Res}(R:Rel T F r σ H env bx) (h:End T Z bJ F r σ env Q (bN b (some q) bx)) (k:uq F H q v H'):Q v H':=by
 have one:End T Z bJ F r σ env Q (.val (.d q.toD) bx)->Q v H':=λh=>by
  obtain⟨F',g,R',d⟩:=R.res k;exact h F' r v H' g R' d
 cases b with
 |false=>exact one h
 | true =>
   cases q with
   |old d=>exact one h
   |tup l=>exact one h
   | lst l =>
     obtain⟨r',g,R',d⟩:=R.resB k;exact h F r' v H' g R' d
   | aN l =>
     obtain⟨r',g,R',d⟩:=R.abt k;exact h F r' v H' g R' d
def bO (q:R2) (g:D->D->Option Res):Prop:=∀ (F H:Hp) (x y:D) (v w:V) (Q:VK) (s:Res),Sub F H->kL F H x v->kL F H y w->g x y=some s->(∀ u H',uq F H s u H'->Q u H')->q v w H Q
def dU (q:List V->Hp->VK->Prop) (g:List D->Option Res):Prop:=∀ (F H:Hp) (xs:List D) (vs:List V) (Q:VK) (s:Res),Sub F H->KH F H xs vs->g xs=some s->(∀ u H',uq F H s u H'->Q u H')->q vs H Q
noncomputable def d2 (b:Bool) (g:D->D->Option Res) (ma mb:DE W):DE W:=λenv bx=>fq (ma env bx) λx bx1=>fq (mb env bx1) λy bx2=>bN b ((aG bx2 x).bind λp=>(aG bx2 y).bind λq=>g p q) bx2
theorem FK {q:R2}{g:D->D->Option Res}{b:Bool}{mb:DE W}(hg:bO q g) (σ:St) (H:Hp) (Q:VK) (h:tD T Z (d2 b g ma mb) σ H Q):xf q (tD T Z ma) (tD T Z mb) σ H Q:=by
 obtain⟨F,r,env,bx,R,h⟩:=h;refine⟨F,r,env,bx,R,End.bind h λx bx1 F1 r1 v H1 g1 R1 d1 h1=>?_⟩;refine⟨F1,r1,env,bx1,R1,End.bind h1 λy bx2 F2 r2 w H2 g2 R2 abu h2=>?_⟩;have abv:=g2.den d1;cases e1:aG bx2 x with
 |none=>rw[e1]at h2;exact h2.elim
 | some p =>
   cases e2:aG bx2 y with
   |none=>rw[e1,e2]at h2;exact h2.elim
   | some z =>
     cases e3:g p z with
     |none=>rw[e1,e2]at h2;simp only[a9,e3]at h2;exact h2.elim
     | some s =>
       rw[e1,e2]at h2;simp only[a9,e3]at h2;exact hg F2 H2 p z v w Q s R2.fh (R2.pN abv e1) (R2.pN abu e2) e3 λu H' k=>iA R2 h2 k
noncomputable def dN (b:Bool) (g:List D->Option Res) (k:DE (List W)):DE W:=λenv bx=>fq (k env bx) λws bx1=>bN b ((df bx1 ws).bind g) bx1
theorem Ct {g:List D->Option Res}{b:Bool}{k:DE (List W)}(hg:dU q g) (σ:St) (H:Hp) (Q:VK) (h:tD T Z (dN b g k) σ H Q):vO q (zV T Z k) σ H Q:=by
 obtain⟨F,r,env,bx,R,h⟩:=h;refine⟨F,r,env,bx,R,End.bind h λws bx1 F1 r1 vs H1 g1 R1 d1 h1=>?_⟩;cases e1:df bx1 ws with
 |none=>rw[e1]at h1;exact h1.elim
 | some ds =>
   rw[e1]at h1;cases e2:g ds with
   |none=>simp only[a9,e2]at h1;exact h1.elim
   | some s =>
     simp only[a9,e2]at h1;exact hg F1 H1 ds vs Q s R1.fh (R1.Yj d1 e1) e2 λu H' k=>iA R1 h1 k
end L2.DL
variable {g : L2.DL.D -> L2.DL.D -> Option L2.DL.Res}
namespace L2.DL
open PySem PySem.Spec PyProof.Rows
section
variable {a b : Expr} {es : List Expr} {mb mc : DE W} {p : Pos}
theorem RG {op:Operator}{q:R2}(bo:Bool) (ho:aM X (binaryOp op) q) (hg:bO q g) (ha:PD X T Z a ma) (hb:PD X T Z b mb):PD X T Z (.BinOp a op b pos) (d2 bo g ma mb):=
 PE.imp (Ts ho ha hb) (FK hg)
theorem RH {q:R2}(ho:aM X (compareOp op) q) (hg:bO q g) (ha:PD X T Z a ma) (hb:PD X T Z b mb) (hm:behindInMarks op b=false):PD X T Z (.Compare a [op] [b] pos) (d2 false g ma mb):=
 PE.imp (NC ho ha hb hm) (FK hg)
theorem TD {q:R2}(ho:qo X q) (hg:bO q g) (ha:PD X T Z a ma) (hb:PD X T Z b mb) (hs:zK b):PD X T Z (.Subscript a b pos) (d2 false g ma mb):=
 PE.imp (Lh ho ha hb hs) (FK hg)
noncomputable def dB (m:DE W):DE Bool:=λenv bx=>fq (m env bx) λw bx1=>match w with|.d (.bl k)=>.val k bx1|_=>.bad
theorem UR {Q:Bool->Hp->Prop}(h:eQ T Z (dB ma) σ H Q):tB (tD T Z ma) σ H Q:=by
 obtain⟨F,r,env,bx,R,h⟩:=h;refine⟨F,r,env,bx,R,End.bind h λw bx1 F1 r1 v H1 g1 R1 d1 h1=>?_⟩;split at h1
 ·rename_i k;exact⟨k,d1,h1 F1 r1 k H1 (.refl F1 r1) R1 rfl⟩
 ·exact h1.elim
theorem NL (h:PD X T Z e ma) (he:∀ whole,isTrue e X.env whole=(do let v <-whole;standAt e.pos;holding [v] (truthy v)):=by intro _;rfl):dD X T Z e (dB ma):=
 PT.imp (P4 h he) λσ H Q h=>UR h
theorem NM {q:R2}(ho:aM X (compareOp op) q) (hg:bO q g) (ha:PD X T Z a ma) (hb:PD X T Z b mb) (hm:behindInMarks op b=false):dD X T Z (.Compare a [op] [b] pos) (dB (d2 false g ma mb)):=by
 refine PT.imp (ND ho ha hb hm) λσ H Q h=>?_;obtain⟨F,r,env,bx,R,h⟩:=h;refine FK (T:=T) (Z:=Z) (b:=false) hg σ H _ ⟨F,r,env,bx,R,End.bind h λw bx1 F1 r1 v H1 g1 R1 d1 h1=>?_⟩;split at h1
 ·rename_i k;exact⟨k,d1,h1 F1 r1 k H1 (.refl F1 r1) R1 rfl⟩
 ·exact h1.elim
noncomputable def Yk:D->Option Bool
 |.aq=>some false
 |.bl b=>some b
 |.int i=>some (i != 0)
 |.str y=>if y.length<=sizeLine then some ((y.length:Int) != 0) else none
 |.tup l=>some !l.isEmpty
 |.lst l=>some !l.isEmpty
 |.aN l=>some !l.isEmpty
noncomputable def ur (m:DE W):DE Bool:=λenv bx=>fq (m env bx) λw bx1=>match (aG bx1 w).bind Yk with|some k=>.val k bx1|none=>.bad
theorem av.isEmpty {F:Hp}{l:List D}{vs:List V}(h:av F l vs):l.isEmpty=vs.isEmpty:=by
 have:=h.length;cases l<;>cases vs<;>simp_all
theorem c9.length {F:Hp}:∀ {l:List (Key×D)}{vs:List (Key×V)},c9 F l vs->l.length=vs.length
 | [],_,h=>by
   have e:_=[]:=h;rw[e];rfl
 | (k,d)::l,_,h=>by
   obtain⟨v,r,e,_,h2⟩:=h;rw[e,bA,bA,h2.length]
theorem c9.isEmpty {F:Hp}{l:List (Key×D)}{vs:List (Key×V)}(h:c9 F l vs):l.isEmpty=vs.isEmpty:=by
 have:=h.length;cases l<;>cases vs<;>simp_all
theorem RI {k:Bool}(s:Sub F H) (h:kL F H d v) (e:Yk d=some k):Kg K v H k:=by
 cases d with
 |aq=>cases e;cases (show v=.aq from h);exact rfl
 |bl b=>cases e;cases (show v=.bl k from h);exact rfl
 |int i=>cases e;cases (show v=.int i from h);exact rfl
 | str y =>
   cases (show v=.str y from h);have e':(if y.length<=sizeLine then some ((y.length:Int) != 0) else none)=some k:=e;split at e'
   ·cases e';exact⟨by assumption,rfl⟩
   ·cases e'
 |tup l=>cases e;obtain⟨p,vs,rfl,h1,h2⟩:=h;exact .inr (.inl ⟨vs,.of (s _ _ h1),by rw[h2.isEmpty]⟩)
 |lst l=>cases e;obtain⟨p,vs,rfl,h1,h2⟩:=h;exact .inl ⟨vs,.of h1,by rw[h2.isEmpty]⟩
 |aN l=>cases e;obtain⟨p,vs,rfl,h1,h2⟩:=h;exact .inr (.inr ⟨vs,h1,by rw[h2.isEmpty]⟩)
theorem NO (h:PD X T Z e ma) (he:∀ whole,isTrue e X.env whole=(do let v <-whole;standAt e.pos;holding [v] (truthy v)):=by intro _;rfl):dD X T Z e (ur ma):=by
 refine PT.imp (Lb h he) λσ H Q h=>?_;obtain⟨F,r,env,bx,R,h⟩:=h;refine⟨F,r,env,bx,R,End.bind h λw bx1 F1 r1 v H1 g1 R1 d1 h1=>?_⟩;split at h1
 ·rename_i k e;cases e1:aG bx1 w with
  |none=>rw[e1]at e;cases e
  | some d =>
    rw[e1]at e;exact⟨k,RI R1.fh (R1.pN d1 e1) e,h1 F1 r1 k H1 (.refl F1 r1) R1 rfl⟩
 ·exact h1.elim
noncomputable def d3 (g g':D->D->Option Res) (ma mb mc:DE W):DE W:=λenv bx=>fq (ma env bx) λx bx1=>fq (mb env bx1) λy bx2 =>
 fq (bN false ((aG bx2 x).bind λp=>(aG bx2 y).bind λq=>g p q) bx2) λz aO=>match z with
  |.d (.bl true)=>fq (mc env aO) λw bw=>bN false ((aG bw y).bind λp=>(aG bw w).bind λq=>g' p q) bw
  |.d (.bl false)=>.val (.d (.bl false)) aO
  |_=>.bad
theorem Yl {q:R2}(hg:bO q g) {x y:W}{w:V}{Q:VK}(R:Rel T F r σ H env bx) (dx:bJ F r x v) (dy:bJ F r y w)
 (h:End T Z bJ F r σ env Q (bN false ((aG bx x).bind λp=>(aG bx y).bind λq=>g p q) bx)):q v w H Q:=by
 cases e1:aG bx x with
 |none=>rw[e1]at h;exact h.elim
 | some p =>
   cases e2:aG bx y with
   |none=>rw[e1,e2]at h;exact h.elim
   | some z =>
     cases e3:g p z with
     |none=>rw[e1,e2]at h;simp only[a9,e3]at h;exact h.elim
     | some s =>
       rw[e1,e2]at h;simp only[a9,e3]at h;exact hg F H p z v w Q s R.fh (R.pN dx e1) (R.pN dy e2) e3 λu H' k=>iA R h k
theorem FL {q q':R2}{g':D->D->Option Res}(hg:bO q g) (sQ:bO q' g') {Q:VK}(h:tD T Z (d3 g g' ma mb mc) σ H Q):Kf q q' (tD T Z ma) (tD T Z mb) (tD T Z mc) σ H Q:=by
 obtain⟨F,r,env,bx,R,h⟩:=h;refine⟨F,r,env,bx,R,End.bind h λx bx1 F1 r1 v H1 g1 R1 d1 h1=>?_⟩;refine⟨F1,r1,env,bx1,R1,End.bind h1 λy bx2 F2 r2 w H2 g2 R2 d2 h2=>?_⟩;refine Yl (T:=T) (Z:=Z) (bx:=bx2) hg R2 (g2.den d1) d2 (End.bind h2 λz aO F3 r3 u H3 g3 R3 d3 h3=>?_);split at h3
 ·refine⟨true,d3,?_⟩;rw[if_pos rfl];refine⟨F3,r3,env,aO,R3,End.bind h3 λt bw F4 r4 s H4 g4 R4 d4 h4=>?_⟩;exact Yl (T:=T) (Z:=Z) sQ R4 (g4.den (g3.den d2)) d4 h4
 ·refine⟨false,d3,?_⟩;rw[if_neg (by decide)];exact h3 F3 r3 _ H3 (.refl F3 r3) R3 rfl
 ·exact h3.elim
theorem Ls {cj:CmpOp}{q q':R2}{g':D->D->Option Res}(ho:aM X (compareOp op) q) (kq:aM X (compareOp cj) q') (hg:bO q g) (sQ:bO q' g') (ha:PD X T Z a ma) (hb:PD X T Z b mb) (hc:PD X T Z c mc)
 (hm:lastMarks [op,cj] [b,c]=false:=by with_unfolding_all rfl):PD X T Z (.Compare a [op,cj] [b,c] pos) (d3 g g' ma mb mc):=
 PE.imp (J9 ho kq ha hb hc hm) λσ H Q h=>FL hg sQ h
theorem G7 {cj:CmpOp}{q q':R2}{g':D->D->Option Res}(ho:aM X (compareOp op) q) (kq:aM X (compareOp cj) q') (hg:bO q g) (sQ:bO q' g') (ha:PD X T Z a ma) (hb:PD X T Z b mb) (hc:PD X T Z c mc)
 (hm:lastMarks [op,cj] [b,c]=false:=by with_unfolding_all rfl):dD X T Z (.Compare a [op,cj] [b,c] pos) (dB (d3 g g' ma mb mc)):=by
 refine PT.imp (La ho kq ha hb hc hm) λσ H Q h=>?_;obtain⟨F,r,env,bx,R,h⟩:=h;refine FL (T:=T) (Z:=Z) hg sQ ⟨F,r,env,bx,R,End.bind h λw bx1 F1 r1 v H1 g1 R1 d1 h1=>?_⟩;split at h1
 ·rename_i k;exact⟨k,d1,h1 F1 r1 k H1 (.refl F1 r1) R1 rfl⟩
 ·exact h1.elim
noncomputable def uu (m k:DE Bool):DE Bool:=λenv bx=>fq (m env bx) λb bx1=>match b with|true=>k env bx1|false=>.val false bx1
noncomputable def eR (m k:DE Bool):DE Bool:=λenv bx=>fq (m env bx) λb bx1=>match b with|true=>.val true bx1|false=>k env bx1
noncomputable def bS (m:DE Bool):DE Bool:=λenv bx=>fq (m env bx) λb bx1=>.val (!b) bx1
def qv (X:Cx) (T:Fr) (Z:Xs) (e:Expr) (m:DE Bool):Prop:=PW X e (eQ T Z m)
variable {ta tb : DE Bool} {rest : List Expr}
theorem Lu (h:dD X T Z a ta):qv X T Z (.BoolOp .And [a] pos) ta:=Nv h
theorem NP (h:dD X T Z a ta):qv X T Z (.BoolOp .Or [a] pos) ta:=P5 h
theorem NQ (ha:dD X T Z a ta) (hb:qv X T Z (.BoolOp .And (b::rest) pos) tb):qv X T Z (.BoolOp .And (a::b::rest) pos) (uu ta tb):=by
 refine PW.imp (P6 ha hb) λσ H Q ⟨F,r,env,bx,R,h⟩=>?_;refine⟨F,r,env,bx,R,End.bind h λk bx1 F1 r1 v H1 g1 R1 d1 h1=>?_⟩;subst d1;cases k with
 |true=>rw[if_pos rfl];exact⟨F1,r1,env,bx1,R1,h1⟩
 |false=>rw[if_neg (by decide)];exact h1 F1 r1 _ H1 (.refl F1 r1) R1 rfl
theorem RJ (ha:dD X T Z a ta) (hb:qv X T Z (.BoolOp .Or (b::rest) pos) tb):qv X T Z (.BoolOp .Or (a::b::rest) pos) (eR ta tb):=by
 refine PW.imp (Tq ha hb) λσ H Q ⟨F,r,env,bx,R,h⟩=>?_;refine⟨F,r,env,bx,R,End.bind h λk bx1 F1 r1 v H1 g1 R1 d1 h1=>?_⟩;subst d1;cases k with
 |false=>rw[if_neg (by decide)];exact⟨F1,r1,env,bx1,R1,h1⟩
 |true=>rw[if_pos rfl];exact h1 F1 r1 _ H1 (.refl F1 r1) R1 rfl
theorem Py (h:qv X T Z e ta):dD X T Z e ta:=h.pt
theorem NR (h:dD X T Z a ta):dD X T Z (.UnaryOp .Not a pos) (bS ta):=by
 refine PT.imp (P7 h) λσ H Q ⟨F,r,env,bx,R,h⟩=>?_;refine⟨F,r,env,bx,R,End.bind h λk bx1 F1 r1 v H1 g1 R1 d1 h1=>?_⟩;subst d1;exact h1 F1 r1 _ H1 (.refl F1 r1) R1 rfl
noncomputable def gm (m k:DE W):DE W:=λenv bx=>fq (m env bx) λw bx1=>match w with|.d (.bl true)=>k env bx1|.d (.bl false)=>.val (.d (.bl false)) bx1|_=>.bad
noncomputable def xq (m:DE W):DE W:=λenv bx=>fq (m env bx) λw bx1=>match w with|.d (.bl k)=>.val (.d (.bl (!k))) bx1|_=>.bad
theorem RK {op}(h:PD X T Z a ma):PD X T Z (.BoolOp op [a] pos) ma:=P8 h
theorem RL (ha:PD X T Z a ma) (hb:PD X T Z (.BoolOp .And (b::rest) pos) mb):PD X T Z (.BoolOp .And (a::b::rest) pos) (gm ma mb):=by
 refine PE.imp (P9 ha hb) λσ H Q ⟨F,r,env,bx,R,h⟩=>?_;refine⟨F,r,env,bx,R,End.bind h λw bx1 F1 r1 v H1 g1 R1 d1 h1=>?_⟩;split at h1
 ·refine⟨true,d1,?_⟩;rw[if_pos rfl];exact⟨F1,r1,env,bx1,R1,h1⟩
 ·refine⟨false,d1,?_⟩;rw[if_neg (by decide)];exact h1 F1 r1 _ H1 (.refl F1 r1) R1 rfl
 ·exact h1.elim
theorem RM (ha:PD X T Z a ma):PD X T Z (.UnaryOp .Not a pos) (xq ma):=by
 refine PE.imp (Ra ha) λσ H Q ⟨F,r,env,bx,R,h⟩=>?_;refine⟨F,r,env,bx,R,End.bind h λw bx1 F1 r1 v H1 g1 R1 d1 h1=>?_⟩;split at h1
 ·rename_i k;exact⟨k,d1,h1 F1 r1 _ H1 (.refl F1 r1) R1 rfl⟩
 ·exact h1.elim
noncomputable def sR (t:DE Bool) (m k:DE W):DE W:=λenv bx=>fq (t env bx) λb bx1=>match b with|true=>m env bx1|false=>k env bx1
theorem RN (hc:dD X T Z c ta) (ha:PD X T Z a ma) (hb:PD X T Z b mb):PD X T Z (.IfExp c a b pos) (sR ta ma mb):=by
 refine PE.imp (J1 hc ha hb) λσ H Q ⟨F,r,env,bx,R,h⟩=>?_;refine⟨F,r,env,bx,R,End.bind h λk bx1 F1 r1 v H1 g1 R1 d1 h1=>?_⟩;subst d1;cases k with
 |true=>rw[if_pos rfl];exact⟨F1,r1,env,bx1,R1,h1⟩
 |false=>rw[if_neg (by decide)];exact⟨F1,r1,env,bx1,R1,h1⟩
noncomputable def kM:List W->Option (List D)
 |[]=>some []
 |.d x::l=>(kM l).map λt=>x::t
 |_=>none
theorem dS.ds {F:Hp}{r:List Addr}:∀ {ws:List W}{vs:List V}{ds:List D},dS F r ws vs->kM ws=some ds->av F ds vs
 |[],_,_,h,e=>by cases e;exact h
 | .d x::l,_,ds,h,e=>by
   obtain⟨v,t,q,h1,h2⟩:=h;unfold kM at e;cases e2:kM l with
   |none=>rw[e2]at e;cases e
   | some t' =>
     rw[e2]at e;cases e;exact⟨v,t,q,h1,h2.ds e2⟩
 |.b _::l,_,ds,h,e=>by cases e
 |.s _::l,_,ds,h,e=>by cases e
 |.x _::l,_,ds,h,e=>by cases e
 |.t _::l,_,ds,h,e=>by cases e
 |.m _::l,_,ds,h,e=>by cases e
noncomputable def fV (k:DE (List W)):DE W:=λenv bx=>fq (k env bx) λws bx1=>bN false ((kM ws).bind λl=>if l.length<=sizeLine then some (.tup l) else none) bx1
noncomputable def fZ (bo:Bool) (k:DE (List W)):DE W:=λenv bx=>fq (k env bx) λws bx1=>bN bo ((kM ws).bind λl=>if l.length<=sizeLine then some (.lst l) else none) bx1
theorem RP {x1}{k:DE (List W)}(h:cc X T Z es k):PD X T Z (.Tuple es x1 pos) (fV k):=by
 refine PE.imp (Dw h) λσ H Q ⟨F,r,env,bx,R,h⟩=>?_;refine⟨F,r,env,bx,R,End.bind h λws bx1 F1 r1 vs H1 g1 R1 d1 h1=>?_⟩;cases e:kM ws with
 |none=>rw[e]at h1;exact h1.elim
 | some l =>
   rw[e]at h1;simp only[a9]at h1;split at h1
   ·have dl:=d1.ds e;refine⟨by rw[<-dl.length];assumption,λp hp=>iA R1 h1 (.inr ⟨p,vs,rfl,hp,rfl,dl⟩)⟩
   ·exact h1.elim
theorem RQ {k:DE (List W)}(bo:Bool) (h:cc X T Z es k):PD X T Z (.List es pos) (fZ bo k):=by
 refine PE.imp (Ro h) λσ H Q ⟨F,r,env,bx,R,h⟩=>?_;refine⟨F,r,env,bx,R,End.bind h λws bx1 F1 r1 vs H1 g1 R1 d1 h1=>?_⟩;cases e:kM ws with
 |none=>rw[e]at h1;exact h1.elim
 | some l =>
   rw[e]at h1;simp only[a9]at h1;split at h1
   ·have dl:=d1.ds e;refine⟨by rw[<-dl.length];assumption,λp hp=>iA R1 h1 ⟨p,vs,rfl,hp,rfl,dl⟩⟩
   ·exact h1.elim
theorem Lv {id:String}{g:List D->Option Res}{k:DE (List W)}(bo:Bool) (hc:dA X (.builtin id) q) (hk:dU q g) (hg:Gl X x) (hm:X.mg x=none) (hv:bootBuiltins x=some (.builtin id)) (ha:cc X T Z (e::es) k)
 (hn:x ≠ "__name__":=by decide) (cx:(x==("__debug__":Str))=false:=by decide)
 (he:starEach (e::es) X.env=(false,eval e X.env)::starEach es X.env:=by rfl) (ed:(backTo pos (starEach es X.env)).any (·.1)=false:=by rfl):PD X T Z (.Call (.Name x p) (e::es) [] pos) (dN bo g k):=
 PE.imp (jz hc hg hm hv ha hn cx he ed) (Ct hk)
theorem G8 {id:String}{g:List D->Option Res}{k:DE (List W)}(bo:Bool) (hc:dA X (.type id) q) (hk:dU q g) (hg:Gl X x) (hm:X.mg x=none) (hv:bootBuiltins x=some (.type id)) (ha:cc X T Z (e::es) k)
 (hn:x ≠ "__name__":=by decide) (cx:(x==("__debug__":Str))=false:=by decide)
 (he:starEach (e::es) X.env=(false,eval e X.env)::starEach es X.env:=by rfl) (ed:(backTo pos (starEach es X.env)).any (·.1)=false:=by rfl):PD X T Z (.Call (.Name x p) (e::es) [] pos) (dN bo g k):=
 PE.imp (G2 hc hg hm hv ha hn cx he ed) (Ct hk)
def rD (cl:Nat->Addr) (n:Nat) (fn:List W->List Bx->O W):Sp:=λvs H Q E=>∃ F r ws bx,Rel ⟨H,r.length,F⟩ F r [] H [] bx /\ dS F r ws vs /\ ws.length=n /\ End ⟨H,r.length,F⟩ ⟨E,cl⟩ bJ F r [] [] Q (fn ws bx)
theorem dS.length {F:Hp}{r:List Addr}:∀ {ws:List W}{vs:List V},dS F r ws vs->ws.length=vs.length
 | [],_,h=>by
   have e:_=[]:=h;rw[e];rfl
 | d::l,_,h=>by
   obtain⟨v,t,e,_,h2⟩:=h;rw[e,bA,bA,h2.length]
theorem Rel.enter (R:Rel T F r σ H env bx):Rel ⟨H,r.length,F⟩ F r [] H [] bx :=
 ⟨R.fh,λi w e=>by simp at e,R.len,R.nd,R.box,λa u e _=>e,λn a hn e=>(by rw[qR hn]at e;cases e),ak _,ak _,λa u e=>.inl e⟩
theorem Rel.after {F':Hp}{r':List Addr}(R:Rel T F r σ H env bx) (g:aL F r F' r') (R':Rel ⟨H,r.length,F⟩ F' r' [] H' [] bx'):Rel T F' r' σ H' env bx':=by
 have pre:∀ (n:Nat) (a:Addr),r[n]?=some a->r'[n]?=some a:=λn a e=>by
  obtain⟨t,rfl⟩:=g.p;rw[dt (List.getElem?_eq_some_iff.mp e).1];exact e
 have sub:∀ a,a∈r->a∈r':=λa h=>g.p.subset h;refine⟨R'.fh,λi w e=>?_,R'.len,R'.nd,R'.box,λa u e hn=>?_,λn a hn e=>?_,bc R.n0 g.p.length_le,R.sl,λa u e=>?_⟩
 ·obtain⟨v,e1,e2⟩:=R.slot i w e;exact⟨v,e1,g.den e2⟩
 ·exact R'.keep a u (R.keep a u e λz=>hn (sub a z)) hn
 ·by_cases hl:n<r.length
  ·have q:=pre n _ (cJ hl);rw[e]at q;cases q;exact R.new n _ hn (cJ hl)
  ·have q:H a=none:=R'.new n a (tX hl) e;cases z:T.H₀ a with
   |none=>rfl
   | some u =>
     have hr:a∉r:=λha=>by
      obtain⟨m,em⟩:=List.mem_iff_getElem?.mp ha;have:=Al R'.nd (pre m a em) e;exact hl (by rw[<-this];exact(List.getElem?_eq_some_iff.mp em).1)
     rw[R.keep a u z hr]at q;cases q
 ·rcases R'.fs a u e with z|z|z
  ·exact(R.fs a u z).imp id (Or.imp id (sub a))
  ·by_cases ha:a∈r
   ·exact .inr (.inr (sub a ha))
   ·refine .inr (.inl ?_);cases y:T.H₀ a with
    |none=>rfl
    | some u =>
      have z':H a=none:=z;rw[R.keep a u y ha]at z';cases z'
  ·exact .inr (.inr z)
noncomputable def fj (fn:List W->List Bx->O W) (n:Nat) (k:DE (List W)):DE W:=λenv bx=>fq (k env bx) λws bx1=>if ws.length=n then fn ws bx1 else .bad
theorem RR {k:DE (List W)}{Q:VK}(h:tD T Z (fj fn n k) σ H Q):XO (rD Z.cl n fn) [] Z.E (zV T Z k) σ H Q:=by
 obtain⟨F,r,env,bx,R,h⟩:=h;refine⟨F,r,env,bx,R,End.bind h λws bx1 F1 r1 vs H1 g1 R1 d1 h1=>?_⟩;split at h1
 ·rename_i hl;refine⟨F1,r1,ws,bx1,R1.enter,by rw[qO];exact d1,hl,?_⟩;cases e:fn ws bx1 with
  |val w bx'=>rw[e]at h1;exact λF' r' v H' g R' d=>h1 F' r' v H' g (R1.after g R') d
  |exc c bx'=>rw[e]at h1;exact λF' r' H' g R'=>h1 F' r' H' g (R1.after g R').drop
  |bad=>rw[e]at h1;exact h1
 ·exact h1.elim
theorem NS {f:Addr}{ps:List Str}{m:DE (List W)}(G:eO X.prog X.w X.K X.mg X.base (nU X.prog X.w) k f fd ps (rD Z.cl ps.length fn)) (hr:cw k X.A) (hg:Gl X x) (hm:X.mg x=some (.ref f))
 (hk:PySem.W.keepIn X.K (.ref f)=true) (hb:Binds X.K fd ps []) (hx:Passes (nU X.prog X.w) X Z.E) (ha:cc X T Z (e::es) m) (cx:(x==("__debug__":Str))=false:=by decide)
 (he:starEach (e::es) X.env=(false,eval e X.env)::starEach es X.env:=by rfl) (ed:(backTo pos (starEach es X.env)).any (·.1)=false:=by rfl):PD X T Z (.Call (.Name x p) (e::es) [] pos) (fj fn ps.length m):=
 PE.imp (NF G hr hg hm hk hb .nil hx ha cx he ed) λσ H Q h=>RR h
end
inductive OS where
 |nx (env:aJ) (bx:List Bx)|rt (w:W) (bx:List Bx)|bk (env:aJ) (bx:List Bx)|ct (env:aJ) (bx:List Bx)|exc (c:Nat) (bx:List Bx)|bad
noncomputable abbrev ai:=aJ->List Bx->OS
noncomputable def dW (T:Fr) (Z:Xs) (F:Hp) (r:List Addr) (D:Ends):OS->Prop
 |.nx ay bx'=>∀ F' r' σ' H',aL F r F' r'->Rel T F' r' σ' H' ay bx'->D.nx σ' H'
 |.rt w bx'=>∀ F' r' v H',aL F r F' r'->Rel T F' r' [] H' [] bx'->bJ F' r' w v->D.rt v H'
 |.bk ay bx'=>∀ F' r' σ' H',aL F r F' r'->Rel T F' r' σ' H' ay bx'->D.bk σ' H'
 |.ct ay bx'=>∀ F' r' σ' H',aL F r F' r'->Rel T F' r' σ' H' ay bx'->D.ct σ' H'
 |.exc c bx'=>∀ F' r' H',aL F r F' r'->Rel T F' r' [] H' [] bx'->Z.E (.ref (Z.cl c)) none H'
 |.bad=>False
theorem dW.weak {F':Hp}{r':List Addr}{D:Ends}(g:aL F r F' r'):∀ {o:OS},dW T Z F r D o->dW T Z F' r' D o
 |.nx _ _,h=>λF2 r2 s2 H2 g2=>h F2 r2 s2 H2 (g.trans g2)
 |.rt _ _,h=>λF2 r2 s2 H2 g2=>h F2 r2 s2 H2 (g.trans g2)
 |.bk _ _,h=>λF2 r2 s2 H2 g2=>h F2 r2 s2 H2 (g.trans g2)
 |.ct _ _,h=>λF2 r2 s2 H2 g2=>h F2 r2 s2 H2 (g.trans g2)
 |.exc _ _,h=>λF2 r2 H2 g2=>h F2 r2 H2 (g.trans g2)
 |.bad,h=>h
noncomputable def ck (m:O α) (k:α->List Bx->OS):OS :=
 match m with
 |.val a bx=>k a bx
 |.exc c bx=>.exc c bx
 |.bad=>.bad
theorem End.ck {β:Type}{R1:Hp->List Addr->α->β->Prop}{D:Ends}{Q1:β->Hp->Prop}
 {m:O α}{k:α->List Bx->OS}(h:dW T Z F r D (DL.ck m k))
 (c:∀ d bx1 F1 r1 v H1,aL F r F1 r1->Rel T F1 r1 σ H1 env bx1->R1 F1 r1 d v->dW T Z F1 r1 D (k d bx1)->Q1 v H1):End T Z R1 F r σ env Q1 m:=by
 cases m with
 |val d bx=>exact λF' r' v H' g R q=>c d bx F' r' v H' g R q (dW.weak g h)
 |exc n bx=>exact h
 |bad=>exact h
def tS (T:Fr) (Z:Xs) (m:ai):TS:=λD σ H=>∃ F r env bx,Rel T F r σ H env bx /\ dW T Z F r D (m env bx)
def dE (X:Cx) (T:Fr) (Z:Xs) (s:Stmt) (m:ai):Prop:=PS X s (tS T Z m)
def pO (X:Cx) (T:Fr) (Z:Xs) (s:List Stmt) (m:ai):Prop:=dR X s (tS T Z m)
section
variable {a b : Expr} {es : List Expr} {mb mc : DE W} {p : Pos} {rest : List Stmt} {m k : ai} {tc : DE Bool}
noncomputable def bj:ai:=λenv bx=>.nx env bx
noncomputable def fE (m k:ai):ai:=λenv bx=>match m env bx with|.nx env1 bx1=>k env1 bx1|o=>o
theorem NT:pO X T Z [] bj:=dR.imp Nw λD σ H ⟨F,r,env,bx,R,h⟩=>h F r σ H (.refl F r) R
theorem Lw (h1:dE X T Z st m) (h2:pO X T Z rest k):pO X T Z (st::rest) (fE m k):=by
 refine dR.imp (J2 h1 h2) λD σ H ⟨F,r,env,bx,R,h⟩=>⟨F,r,env,bx,R,?_⟩;unfold fE at h;cases e:m env bx with
 |nx env1 bx1=>rw[e]at h;exact λF1 r1 σ1 H1 g R1=>⟨F1,r1,env1,bx1,R1,dW.weak g h⟩
 |rt w bx1=>rw[e]at h;exact h
 |bk env1 bx1=>rw[e]at h;exact h
 |ct env1 bx1=>rw[e]at h;exact h
 |exc c bx1=>rw[e]at h;exact h
 |bad=>rw[e]at h;exact h
theorem NU (h1:dE X T Z st m):pO X T Z [st] m:=Nx h1
theorem Lx:dE X T Z (.Pass pos) bj:=PS.imp Ny λD σ H ⟨F,r,env,bx,R,h⟩=>h F r σ H (.refl F r) R
noncomputable def gn (m:DE W):ai:=λenv bx=>ck (m env bx) λ_ bx1=>.nx env bx1
theorem Ly (h:PD X T Z e ma) (hs:swapsWith e none pos.line X.env=pure false:=by rfl):dE X T Z (.Expr e pos) (gn ma):=by
 refine PS.imp (Nz h hs) λD σ H ⟨F,r,env,bx,R,h⟩=>?_;exact⟨F,r,env,bx,R,End.ck h λw bx1 F1 r1 v H1 g1 R1 d1 h1=>h1 F1 r1 σ H1 (.refl F1 r1) R1⟩
noncomputable def fQ (m:DE W):ai:=λenv bx=>ck (m env bx) λw bx1=>.rt w bx1
theorem NV (h:PD X T Z e ma):dE X T Z (.Return (some e) pos) (fQ ma):=by
 refine PS.imp (Rb h) λD σ H ⟨F,r,env,bx,R,h⟩=>?_;exact⟨F,r,env,bx,R,End.ck h λw bx1 F1 r1 v H1 g1 R1 d1 h1=>h1 F1 r1 v H1 (.refl F1 r1) R1.drop d1⟩
noncomputable def bp (t:DE Bool) (m k:ai):ai:=λenv bx=>ck (t env bx) λb bx1=>match b with|true=>m env bx1|false=>k env bx1
theorem RS {sa sb:List Stmt}(hc:dD X T Z c tc) (ha:pO X T Z sa m) (hb:pO X T Z sb k):dE X T Z (.If c sa sb pos) (bp tc m k):=by
 refine PS.imp (Tr hc ha hb) λD σ H ⟨F,r,env,bx,R,h⟩=>?_;refine⟨F,r,env,bx,R,End.ck h λw bx1 F1 r1 v H1 g1 R1 d1 h1=>?_⟩;subst d1;cases w with
 |true=>rw[if_pos rfl];exact⟨F1,r1,env,bx1,R1,h1⟩
 |false=>rw[if_neg (by decide)];exact⟨F1,r1,env,bx1,R1,h1⟩
noncomputable abbrev DG:=W->aJ->List Bx->Option (aJ×List Bx)
noncomputable abbrev kN:=List W->aJ->List Bx->Option (aJ×List Bx)
noncomputable def Ym (T:Fr) (F:Hp) (r:List Addr) (Q:St->Hp->Prop):Option (aJ×List Bx)->Prop
 |none=>False
 |some (ay,bx')=>∀ F' r' σ' H',aL F r F' r'->Rel T F' r' σ' H' ay bx'->Q σ' H'
def tG (T:Fr) (g:DG):TG:=λv σ H Q=>∃ F r env bx w,Rel T F r σ H env bx /\ bJ F r w v /\ Ym T F r Q (g w env bx)
noncomputable def abw (T:Fr) (g:kN):qX:=λvs σ H Q=>∃ F r env bx ws,Rel T F r σ H env bx /\ dS F r ws vs /\ Ym T F r Q (g ws env bx)
def ez (X:Cx) (T:Fr) (tg:Expr) (g:DG):Prop:=PG X tg (tG T g)
def rE (X:Cx) (T:Fr) (tg:List Expr) (g:kN):Prop:=qj X tg (abw T g)
theorem PG.imp {t t':TG}(h:PG X tg t) (f:∀ v σ H Q,t' v σ H Q->t v σ H Q):PG X tg t':=λpins s σ H v u Q I r q=>h pins s σ H v u Q I r (f v σ H Q q)
theorem qj.imp {tg:List Expr}{t t':qX}(h:qj X tg t) (f:∀ v σ H Q,t' v σ H Q->t v σ H Q):qj X tg t':=λpins s σ H v u Q I r q=>h pins s σ H v u Q I r (f v σ H Q q)
noncomputable def fc (i:Nat):DG:=λw env bx=>some (env.set i (some w),bx)
theorem Rel.set {F H:Hp}{r:List Addr}{σ:St}{env:aJ}{bx:List Bx}(R:Rel T F r σ H env bx) {w:W}{v:V}(d:bJ F r w v) (i:Nat):Rel T F r (σ.set i (some v)) H (env.set i (some w)) bx:=by
 refine⟨R.fh,λj w' e=>?_,R.len,R.nd,R.box,R.keep,R.new,R.n0,by rw[qP,qP];exact R.sl,R.fs⟩;by_cases hj:j=i
 ·subst hj;have hl:j<env.length:=by
   have:=(List.getElem?_eq_some_iff.mp e).1;rw[qP]at this;exact this
  rw[vg hl]at e;cases e;exact⟨v,vg (dM hl R.sl),d⟩
 ·rw[sd (Ne.symm hj)]at e;obtain⟨u,e1,e2⟩:=R.slot j w' e;exact⟨u,by rw[sd (Ne.symm hj)];exact e1,e2⟩
theorem Lz (i:Nat) (hN:X.N.Nodup) (hi:X.N[i]?=some x:=by rfl) (hx:Loc X.env.scope x:=by first|exact Or.inl rfl|exact Or.inr rfl) (hf:X.fn x=true \/ X.env.scope.names.lookup x=some .local:=by first|exact .inl rfl|exact .inr rfl|assumption):ez X T (.Name x pos) (fc i):=
 PG.imp (BK hN hi hx hf) λv σ H Q ⟨F,r,env,bx,w,R,d,h⟩=>h F r _ H (.refl F r) (R.set d i)
noncomputable def iJ:kN:=λws env bx=>match ws with|[]=>some (env,bx)|_=>none
noncomputable def fR (g:DG) (k:kN):kN:=λws env bx=>match ws with|w::l=>(g w env bx).bind λ(env1,bx1)=>k l env1 bx1|_=>none
theorem LA:rE X T [] iJ:=qj.imp FA λv σ H Q ⟨F,r,env,bx,w,R,d,h⟩=>by
 cases w with
 |nil=>exact⟨d,h F r σ H (.refl F r) R⟩
 |cons _ _=>exact h.elim
theorem G9 {g:DG}{k:kN}(h1:ez X T e g) (h2:rE X T es k) (hs:(assignEach (e::es) X.env).map (·.2)=assign e X.env::(assignEach es X.env).map (·.2):=by rfl):rE X T (e::es) (fR g k):=by
 refine qj.imp (Ac h1 h2 hs) λv σ H Q ⟨F,r,env,bx,ws,R,d,h⟩=>?_;cases ws with
 |nil=>exact h.elim
 | cons w l =>
   obtain⟨u,t,rfl,d1,d2⟩:=d;refine⟨u,t,rfl,F,r,env,bx,w,R,d1,?_⟩;unfold fR at h;cases eg:g w env bx with
   |none=>simp only[eg]at h;exact h.elim
   | some o =>
     obtain⟨env1,bx1⟩:=o;simp only[eg,a9]at h;intro F1 r1 σ1 H1 g1 R1;refine⟨F1,r1,env1,bx1,l,R1,d2.mono g1,?_⟩;cases ek:k l env1 bx1 with
     |none=>simp only[ek]at h;exact h.elim
     | some o2 =>
       simp only[ek]at h;exact λF2 r2 σ2 H2 g2 R2=>h F2 r2 σ2 H2 (g1.trans g2) R2
theorem av.ws {F:Hp}{r:List Addr}:∀ {l:List D}{vs:List V},av F l vs->dS F r (l.map W.d) vs
 |[],_,h=>h
 | d::l,_,h=>by
   obtain⟨v,t,e,h1,h2⟩:=h;exact⟨v,t,e,h1,h2.ws⟩
noncomputable def iq (n:Nat) (k:kN):DG:=λw env bx=>match w with|.d (.tup l)=>if l.length=n then k (l.map W.d) env bx else none|_=>none
theorem NW {k:kN}(hc:X.calm=true) (h:rE X T es k) (hn:(assignEach es X.env).length=n:=by rfl) (w8:(assignEach es X.env).findIdx? (·.1)=none:=by rfl):ez X T (.Tuple es i pos) (iq n k):=by
 refine PG.imp (J3 hc h hn w8) λv σ H Q ⟨F,r,env,bx,w,R,d,h⟩=>?_;unfold iq at h;split at h
 ·rename_i l;split at h
  ·rename_i hl;obtain⟨p,vs,rfl,h1,h2⟩:=d;exact⟨p,vs,rfl,.of (R.fh _ _ h1),by rw[<-h2.length];exact hl,F,r,env,bx,_,R,h2.ws,h⟩
  ·exact h.elim
 ·exact h.elim
noncomputable def fF (m:DE W) (g:DG):ai:=λenv bx=>ck (m env bx) λw bx1=>match g w env bx1 with|some (env1,bx2)=>.nx env1 bx2|none=>.bad
theorem TF {g:DG}{D:Ends}(h:tS T Z (fF ma g) D σ H):zz (tD T Z ma) (tG T g) D σ H:=by
 obtain⟨F,r,env,bx,R,h⟩:=h;refine⟨F,r,env,bx,R,End.ck h λw bx1 F1 r1 v H1 g1 R1 d1 h1=>⟨F1,r1,env,bx1,w,R1,d1,?_⟩⟩;cases eg:g w env bx1 with
 |none=>simp only[eg]at h1;exact h1.elim
 |some o=>simp only[eg]at h1;exact h1
theorem FM {g:DG}(he:PD X T Z e ma) (hg:ez X T tg g) (hs:swapsWithSole [tg] e pos.line X.env=pure false:=by rfl) (hw:swappedStores [tg] e X.env=pure none:=by rfl)
 (h1:(assignEach [tg] X.env).map (·.2)=[assign tg X.env]:=by rfl):dE X T Z (.Assign [tg] e pos) (fF ma g):=
 PS.imp (J4 he hg hs hw h1) λD σ H h=>TF h
theorem FN (i:Nat) {pos':Pos}(he:PD X T Z e ma) (hN:X.N.Nodup) (hi:X.N[i]?=some x:=by rfl) (hx:Loc X.env.scope x:=by first|exact Or.inl rfl|exact Or.inr rfl) (hs:swapsWith e (some (.Name x pos')) pos.line X.env=pure false:=by rfl) (hf:X.fn x=true \/ X.env.scope.names.lookup x=some .local:=by first|exact .inl rfl|exact .inr rfl|assumption) :
 dE X T Z (.Assign [.Name x pos'] e pos) (fF ma (fc i)):=by
 refine PS.imp (Re hN hi hx he hs hf) λD σ H ⟨F,r,env,bx,R,h⟩=>?_;exact⟨F,r,env,bx,R,End.ck h λw bx1 F1 r1 v H1 g1 R1 d1 h1=>h1 F1 r1 _ H1 (.refl F1 r1) (R1.set d1 i)⟩
noncomputable def sU (i j:Nat) (m:DE (List W)):ai:=λenv bx=>ck (m env bx) λws bx1=>match ws with|[x,y]=>.nx ((env.set i (some x)).set j (some y)) bx1|_=>.bad
theorem TH {m:DE (List W)}{D:Ends}(h:tS T Z (sU i j m) D σ H):XA i j (zV T Z m) D σ H:=by
 obtain⟨F,r,env,bx,R,h⟩:=h;refine⟨F,r,env,bx,R,End.ck h λws bx1 F1 r1 vs H1 g1 R1 d1 h1=>?_⟩;split at h1
 ·obtain⟨v,t,rfl,q1,u,t2,rfl,q2,q3⟩:=d1;cases (show t2=[] from q3);exact⟨v,u,rfl,h1 F1 r1 _ H1 (.refl F1 r1) ((R1.set q1 i).set q2 j)⟩
 ·exact h1.elim
def vR (F:Hp) (r:List Addr) (ds:List W) (J:It):Prop :=
 ∀ (T:Fr) (i:Nat) (F1:Hp) (r1:List Addr) (σ1:St) (H1:Hp) (env1:aJ) (bx1:List Bx),aL F r F1 r1->Rel T F1 r1 σ1 H1 env1 bx1 ->
  (ds.length=i->J.stop i H1) /\ ∀ w,ds[i]?=some w->J.go i H1 /\ ∀ x H2,J.xb i H1 x H2->∃ F2,aL F1 r1 F2 r1 /\ Rel T F2 r1 σ1 H2 env1 bx1 /\ bJ F2 r1 w x
def tI (T:Fr) (Z:Xs) (m:DE (List W)):TI:=λσ H R=>∃ F r env bx,Rel T F r σ H env bx /\ End T Z vR F r σ env R (m env bx)
def nW (X:Cx) (T:Fr) (Z:Xs) (tg iter:Expr) (m:DE (List W)):Prop:=PI X tg iter (tI T Z m)
theorem PI.imp {t t':TI}(h:PI X tg iter t) (f:∀ σ H Q,t' σ H Q->t σ H Q):PI X tg iter t':=λpins s σ H R I q=>h pins s σ H R I (f σ H R q)
noncomputable def cK (g:DG) (body:ai):List W->ai
 |[],env,bx=>.nx env bx
 | w::l,env,bx=>match g w env bx with
   |none=>.bad
   | some (env1,bx1)=>match body env1 bx1 with
     |.nx env2 bx2=>cK g body l env2 bx2
     |.ct env2 bx2=>cK g body l env2 bx2
     |.bk env2 bx2=>.nx env2 bx2
     |o=>o
noncomputable def ia (m:DE (List W)) (g:DG) (body:ai):ai:=λenv bx=>ck (m env bx) λds bx1=>cK g body ds env bx1
theorem TJ {g:DG}{D:Ends}(h:tS T Z (ia mi g m) D σ H):XE (tI T Z mi) (tG T g) (tS T Z m) D σ H:=by
 obtain⟨F,r,env,bx,R,h⟩:=h;refine⟨F,r,env,bx,R,End.ck h λds bx1 F1 r1 J H1 g1 R1 y1 h1=>?_⟩;refine⟨λi n σ' H'=>∃ pre l F' r' ay bx',ds=pre++l /\ pre.length=i /\ n=l.length /\ aL F1 r1 F' r' /\ Rel T F' r' σ' H' ay bx' /\ dW T Z F' r' D (cK g m l ay bx'),⟨ds.length,[],ds,F1,r1,env,bx1,rfl,rfl,rfl,.refl F1 r1,R1,h1⟩,?_⟩;rintro i n σ' H' ⟨pre,l,F',r',ay,bx',eP,hi,hn,g',R',h'⟩;obtain⟨ys,yg⟩:=y1 T i F' r' σ' H' ay bx' g' R';cases l with
 |nil=>exact .inl ⟨ys (by rw[eP,qO];omega),h' F' r' σ' H' (.refl F' r') R'⟩
 | cons w l =>
   obtain⟨go,yl⟩:=yg w (by rw[eP,cU (by omega),hi,nH];rfl);refine .inr ⟨go,λσ2 H2=>∃ F2 r2 env2 bx2,aL F1 r1 F2 r2 /\ Rel T F2 r2 σ2 H2 env2 bx2 /\ dW T Z F2 r2 D (cK g m l env2 bx2),λσ2 H2 ⟨F2,r2,env2,bx2,g2,R2,h2⟩=>⟨l.length,by rw[hn];exact eJ _,pre++[w],l,F2,r2,env2,bx2,by rw[eP,eK];rfl,by rw[cb,hi];rfl,rfl,g2,R2,h2⟩,λx H2 hy=>?_⟩;obtain⟨F2,g2,R2,d2⟩:=yl x H2 hy;refine⟨F2,r',ay,bx',w,R2,d2,?_⟩;simp only[cK]at h';cases eg:g w ay bx' with
   |none=>simp only[eg]at h';exact h'.elim
   | some o =>
     obtain⟨cX,aO⟩:=o;simp only[eg]at h';intro F3 r3 σ3 H3 g3 R3;refine⟨F3,r3,cX,aO,R3,?_⟩;have gg:=(g'.trans g2).trans g3;cases em:m cX aO with
     |nx rF bw=>simp only[em]at h';exact λF4 r4 σ4 H4 g4 R4=>⟨F4,r4,rF,bw,gg.trans g4,R4,dW.weak ((g2.trans g3).trans g4) h'⟩
     |ct rF bw=>simp only[em]at h';exact λF4 r4 σ4 H4 g4 R4=>⟨F4,r4,rF,bw,gg.trans g4,R4,dW.weak ((g2.trans g3).trans g4) h'⟩
     |bk rF bw=>simp only[em]at h';exact λF4 r4 σ4 H4 g4 R4=>h' F4 r4 σ4 H4 ((g2.trans g3).trans g4) R4
     |rt w bw=>simp only[em]at h';exact dW.weak (g2.trans g3) (o:=.rt w bw) h'
     |exc c bw=>simp only[em]at h';exact dW.weak (g2.trans g3) (o:=.exc c bw) h'
     |bad=>simp only[em]at h';exact h'
theorem NX {body:List Stmt}{g:DG}(hp:PassesOwn (model X.prog X.w) X.A X.env X.xe) (hc:X.calm=true) (hi:nW X T Z tg iter mi) (hg:ez X T tg g) (hb:pO X T Z body m)
 (hs:∀ x,foldedSetIterable iter X.env x=pure x:=by intro _;rfl):dE X T Z (.For tg iter body [] pos) (ia mi g m):=
 PS.imp (Rg hp hc hi hg hb hs) λD σ H h=>TJ h
noncomputable def cE (t:DE Bool) (body:ai):Nat->ai
 |0,_,_=>.bad
 | n+1,env,bx=>ck (t env bx) λb bx1=>match b with
   |false=>.nx env bx1
   | true=>match body env bx1 with
     |.nx env2 bx2=>cE t body n env2 bx2
     |.ct env2 bx2=>cE t body n env2 bx2
     |.bk env2 bx2=>.nx env2 bx2
     |o=>o
theorem NY {D:Ends}(h:tS T Z (cE tc m n) D σ H):XB (eQ T Z tc) (tS T Z m) D σ H:=by
 obtain⟨F,r,env,bx,R,h⟩:=h;refine⟨λi σ' H'=>∃ F' r' ay bx',Rel T F' r' σ' H' ay bx' /\ dW T Z F' r' D (cE tc m i ay bx'),⟨n,F,r,env,bx,R,h⟩,?_⟩;rintro i σ' H' ⟨F',r',ay,bx',R',h'⟩;cases i with
 |zero=>exact h'.elim
 | succ i =>
   refine⟨F',r',ay,bx',R',End.ck h' λb bx1 F1 r1 v H1 g1 R1 d1 h1=>?_⟩;subst d1;cases b with
   |false=>rw[if_neg (by decide)];exact h1 F1 r1 σ' H1 (.refl F1 r1) R1
   | true =>
     rw[if_pos rfl];refine⟨λσ2 H2=>∃ F2 r2 env2 bx2,Rel T F2 r2 σ2 H2 env2 bx2 /\ dW T Z F2 r2 D (cE tc m i env2 bx2),λσ2 H2 ⟨F2,r2,env2,bx2,R2,h2⟩=>⟨i,eJ _,F2,r2,env2,bx2,R2,h2⟩,F1,r1,ay,bx1,R1,?_⟩;cases em:m ay bx1 with
     |nx rF bw=>simp only[em]at h1;exact λF4 r4 σ4 H4 g4 R4=>⟨F4,r4,rF,bw,R4,dW.weak g4 h1⟩
     |ct rF bw=>simp only[em]at h1;exact λF4 r4 σ4 H4 g4 R4=>⟨F4,r4,rF,bw,R4,dW.weak g4 h1⟩
     |bk rF bw=>simp only[em]at h1;exact h1
     |rt w bw=>simp only[em]at h1;exact h1
     |exc c bw=>simp only[em]at h1;exact h1
     |bad=>simp only[em]at h1;exact h1
theorem Ja {body:List Stmt}(n:Nat) (hp:PassesOwn (model X.prog X.w) X.A X.env X.xe) (hc:dD X T Z c tc) (hb:pO X T Z body m):dE X T Z (.While c body [] pos) (cE tc m n):=
 PS.imp (J5 hp hc hb) λD σ H h=>NY h
noncomputable def aj (m:DE W):DE (List W):=λenv bx=>fq (m env bx) λw bx1=>match w with|.d (.lst l)=>.val (l.map W.d) bx1|.d (.tup l)=>.val (l.map W.d) bx1|_=>.bad
end
noncomputable def kO:OS->O W
 |.rt w bx=>.val w bx
 |.nx _ bx=>.val (.d .aq) bx
 |.exc c bx=>.exc c bx
 |_=>.bad
noncomputable def kP (n:Nat):O W->O W
 |.val (.d x) bx=>.val (.d x) (bx.take n)
 |.val w bx=>.val w bx
 |.exc c bx=>.exc c (bx.take n)
 |.bad=>.bad
noncomputable def envOf (n:Nat) (ws:List W):aJ:=ws.map some++List.replicate (n-ws.length) none
noncomputable def aQ (n:Nat) (m:ai):List W->List Bx->O W:=λws bx=>kP bx.length (kO (m (envOf n ws) bx))
noncomputable def aH (m:ai):ai:=λenv bx=>match m env bx with|.exc _ _=>.bad|o=>o
theorem dS.get {F:Hp}{r:List Addr}:∀ {l:List W}{vs:List V}{i:Nat}{d:W},dS F r l vs->l[i]?=some d->∃ v,vs[i]?=some v /\ bJ F r d v
 |[],_,_,_,_,e=>by simp at e
 | x::l,_,0,d,h,e=>by
   obtain⟨v,t,q,h1,_⟩:=h;simp at e;subst e;subst q;exact⟨v,rfl,h1⟩
 | x::l,_,i+1,d,h,e=>by
   obtain⟨v,t,q,_,h2⟩:=h;subst q;obtain⟨u,e1,e2⟩:=dS.get (i:=i) h2 (by simpa using e);exact⟨u,by simpa using e1,e2⟩
theorem Rel.start {T:Fr}{F H:Hp}{r:List Addr}{bx:List Bx}{N:List Str}{ws:List W}{vs:List V}(R:Rel T F r [] H [] bx) (d:dS F r ws vs):Rel T F r (start N vs) H (envOf N.length ws) bx:=by
 have hl:=d.length;refine⟨R.fh,λi w e=>?_,R.len,R.nd,R.box,R.keep,R.new,R.n0,?_,R.fs⟩
 ·unfold envOf at e;unfold L2.start;by_cases hi:i<ws.length
  ·rw[dt (by rw[aF];exact hi),kg]at e;cases q:ws[i]? with
   |none=>rw[q]at e;cases e
   | some w' =>
     rw[q]at e;cases e;obtain⟨v,e1,e2⟩:=d.get q;refine⟨v,?_,e2⟩;rw[dt (by rw[aF,<-hl];exact hi),kg,e1];rfl
  ·rw[cU (by rw[aF];omega)]at e;rw[V9]at e;split at e<;>cases e
 ·unfold envOf L2.start;rw[cb,cb,aF,aF,HJ,HJ,hl];exact ak _
theorem LB {l l':List α}(h:l <+: l'):l'.take l.length=l:=by
 obtain⟨t,rfl⟩:=h;simp
theorem Rel.cut {F':Hp}{r':List Addr}(g:aL F r F' r') (R:Rel ⟨H,r.length,F⟩ F' r' [] H' [] bx'):Rel ⟨H,r.length,F⟩ F' r [] H' [] (bx'.take r.length):=by
 have hr:r'.take r.length=r:=LB g.p;have hle:r.length<=r'.length:=g.p.length_le;have pre:∀ (n:Nat) (a:Addr),r[n]?=some a->r'[n]?=some a:=λn a e=>by
  obtain⟨t,rfl⟩:=g.p;rw[dt (List.getElem?_eq_some_iff.mp e).1];exact e
 refine⟨R.fh,λi w e=>by simp at e,?_,?_,λn c a e1 e2=>?_,λa u e hn=>?_,λn a hn e=>?_,ak _,ak _,λa u e=>?_⟩
 ·rw[se,<-R.len];omega
 ·exact List.Sublist.nodup (List.IsPrefix.sublist g.p) R.nd
 ·have pP:=(List.getElem?_eq_some_iff.mp e2).1;rw[Wa pP]at e1;exact R.box n c a e1 (pre n a e2)
 ·refine R.keep a u e λz=>?_;obtain⟨m,em⟩:=List.mem_iff_getElem?.mp z;by_cases hm:m<r.length
  ·have q:=pre m _ (cJ hm);rw[em]at q;cases q;exact hn (vj hm)
  ·have q:=R.new m a (tX hm) em;have e':H a=some u:=e;have q':H a=none:=q;rw[e']at q';cases q'
 ·rw[qR hn]at e;cases e
 ·rcases R.fs a u e with z|z|z
  ·exact .inl z
  ·exact .inr (.inl z)
  ·obtain⟨m,em⟩:=List.mem_iff_getElem?.mp z;by_cases hm:m<r.length
   ·have q:=pre m _ (cJ hm);rw[em]at q;cases q;exact .inr (.inr (vj hm))
   ·exact .inr (.inl (R.new m a (tX hm) em))
theorem NZ {Q:VK}(hb:bx.length=r.length) {o:O W}(h:End ⟨H,r.length,F⟩ Z bJ F r [] [] Q (kP bx.length o)):End ⟨H,r.length,F⟩ Z bJ F r [] [] Q o:=by
 rw[hb]at h;cases o with
 |bad=>exact h
 |exc c bx1=>exact λF' r' H' g R=>h F' r H' ⟨g.s,qQ r⟩ (R.cut g)
 | val w bx1 =>
   cases w with
   |d x=>exact λF' r' v H' g R d=>h F' r v H' ⟨g.s,qQ r⟩ (R.cut g) d
   |b n=>exact h
   |s l=>exact h
   |x i=>exact h
   |t _=>exact h
   |m _=>exact h
theorem N0 {Q:VK}{o:OS}(h:End T Z bJ F r [] [] Q (kO o)):dW T Z F r { nx:=λ_ H'=>Q .aq H',rt:=Q } o:=by
 cases o with
 |nx env bx=>exact λF' r' σ' H' g R=>h F' r' .aq H' g R.drop rfl
 |rt w bx=>exact λF' r' v H' g R d=>h F' r' v H' g R d
 |exc c bx=>exact h
 |bk env bx=>exact(show False from h).elim
 |ct env bx=>exact(show False from h).elim
 |bad=>exact h
section
variable {qual : Str} {f : Addr} {ps : List Str} {m : ai} 
theorem TL {sp:Sp}(G:eO P w K mg base xi k f fd ps sp):eO P w K mg base CX k f fd ps sp :=
 ⟨G.len,λA outer s H args us vs Q E hr e0 hb hv hs=>u6 (G.run A outer s H args us vs Q E hr e0 hb hv hs) λr s' h=>by
  cases r with
  |error e=>exact False.elim h
  | ok fl =>
    cases fl with
    |ret u=>exact h
    |next=>exact h
    |brk=>exact h
    |cont=>exact h⟩
theorem TM (F:nS K x qual st f fd) (S:vM N ps (fL st))
 (ud:∀ (aZ:Value) (A:Around) (outer:List Env) (s:Shared) (H:Hp) (E:XK) (n:Nat) (F0:Hp),cw k (A.deeper (envOfC qual (fL st) s.heap.objs.size f aZ)) ->
  pO (sF xi P w K mg base N qual (fL st) f aZ A outer s H E).vH ⟨H,n,F0⟩ ⟨E0,cl⟩ (gT st) m):eO P w K mg base (nU P w) (k+1) f fd ps (rD cl ps.length (aQ N.length (aH m))):=by
 refine TL (F.ok S (λvs H Q E h=>?_) (λaZ A outer s H vs Q E hr h=>?_))
 ·obtain⟨F,r,ws,bx,_,d,hl,_⟩:=h;rw[<-d.length];exact hl
 ·obtain⟨F,r,ws,bx,R,d,hl,h⟩:=h;refine⟨_,ud aZ A outer s H E r.length F hr,F,r,envOf N.length ws,bx,R.start d,?_⟩;have h':=N0 (NZ R.len.symm h);unfold aH at h';cases e:m (envOf N.length ws) bx with
  |nx env bx1=>simp only[e]at h';exact h'
  |rt w bx1=>simp only[e]at h';exact h'
  |bk env bx1=>simp only[e]at h';exact h'
  |ct env bx1=>simp only[e]at h';exact h'
  |exc c bx1=>simp only[e]at h';exact h'.elim
  |bad=>simp only[e]at h';exact h'
end
theorem FO:Passes (nU X.prog X.w) X E0:=λ_ _ _ _ _ _ _ h=>by
 obtain⟨_,_,_,_,_,_,_,_,_,_,_,_,_,h⟩:=h;exact h.elim
section
variable {m : ai} {afd : List Stmt}
end
noncomputable def bindB {β:Type}(m:O α) (k:α->List Bx->O β):O β :=
 match m with
 |.val a bx=>k a bx
 |_=>.bad
noncomputable def bT (g:DG) (tf:DE Bool) (te:DE W):List W->aJ->List Bx->List D->O (List D)
 |[],_,bx,acc=>.val acc bx
 | w::l,env,bx,acc=>match g w env bx with
   |none=>.bad
   | some (env1,bx1)=>bindB (tf env1 bx1) λb bx2=>match b with
     |false=>bT g tf te l env1 bx2 acc
     | true=>bindB (te env1 bx2) λy aO=>match y with
       |.d d=>if acc.length<sizeLine then bT g tf te l env1 aO (acc++[d]) else .bad
       |_=>.bad
noncomputable def cg (src:List (Option Nat)) (env:aJ):aJ:=src.map λo=>o.bind λi=>(env[i]?).bind id
noncomputable def fk (bo:Bool) (src:List (Option Nat)) (mi:DE (List W)) (g:DG) (tf:DE Bool) (te:DE W):DE W:=λenv bx =>
 fq (mi env bx) λds bx1=>fq (bT g tf te ds (cg src env) bx1 []) λl bx2=>bN bo (some (.lst l)) bx2
theorem Rel.src {T:Fr}{F H:Hp}{r:List Addr}{σ:St}{env:aJ}{bx:List Bx}(R:Rel T F r σ H env bx) (src:List (Option Nat)):Rel T F r (rh src σ) H (cg src env) bx:=by
 refine⟨R.fh,λj w e=>?_,R.len,R.nd,R.box,R.keep,R.new,R.n0,?_,R.fs⟩
 ·unfold cg at e;unfold L2.rh;rw[kg]at e ⊢;cases q:src[j]? with
  |none=>rw[q]at e;cases e
  | some o =>
    rw[q]at e;cases o with
    |none=>cases e
    | some i =>
      have e':(env[i]?).bind id=some w:=Option.some.inj e;cases z:env[i]? with
      |none=>rw[z]at e';cases e'
      | some o' =>
        rw[z]at e';have e2:o'=some w:=e';subst e2;obtain⟨v,e1,e2⟩:=R.slot i w z;exact⟨v,by simp[e1],e2⟩
 ·unfold cg L2.rh;rw[aF,aF];exact ak _
theorem Rel.inner {F':Hp}{r':List Addr}{σ':St}{ay:aJ}(R:Rel T F r σ H env bx) (g:aL F r F' r') (R':Rel ⟨H,r.length,F⟩ F' r' σ' H' ay bx'):Rel T F' r' σ' H' ay bx':=by
 have q:=R.after g R'.drop;exact⟨q.fh,R'.slot,q.len,q.nd,q.box,q.keep,q.new,q.n0,R'.sl,q.fs⟩
theorem Rel.again (R:Rel T F r σ H env bx):Rel ⟨H,r.length,F⟩ F r σ H env bx :=
 ⟨R.fh,R.slot,R.len,R.nd,R.box,λa u e _=>e,λn a hn e=>(by rw[qR hn]at e;cases e),ak _,R.sl,λa u e=>.inl e⟩
structure Own (F:Hp) (r:List Addr) (H:Hp) (a:Addr) (vs:List V):Prop where
 h:H a=some (.lst vs)
 f:F a=none
 b:a∉r
theorem Own.inner {F':Hp}{r':List Addr}{σ':St}{ay:aJ}{vs:List V}(o:Own F r H a vs) (g:aL F r F' r') (R':Rel ⟨H,r.length,F⟩ F' r' σ' H' ay bx'):Own F' r' H' a vs:=by
 have hb:a∉r':=λz=>by
  obtain⟨m,em⟩:=List.mem_iff_getElem?.mp z;by_cases hm:m<r.length
  ·obtain⟨t,e⟩:=g.p;rw[<-e,dt hm]at em;exact o.b (List.mem_iff_getElem?.mpr ⟨m,em⟩)
  ·have q:H a=none:=R'.new m a (tX hm) em;rw[o.h]at q;cases q
 refine⟨R'.keep a _ o.h hb,?_,hb⟩;cases q:F' a with
 |none=>rfl
 | some u =>
   rcases R'.fs a u q with z|z|z
   ·have z':F a=some u:=z;rw[o.f]at z';cases z'
   ·have z':H a=none:=z;rw[o.h]at z';cases z'
   ·exact absurd z hb
theorem Rel.Yn (R:Rel T F r σ H env bx) {p:Addr}{o:HO}(h:H p=none):Rel T F r σ (upd H p o) env bx:=by
 have hs:∀ a u,H a=some u->upd H p o a=some u:=λa u e=>by rw[fJ (f9 e h)];exact e
 exact⟨λa u e=>hs a u (R.fh a u e),R.slot,R.len,R.nd,λn c a e1 e2=>(R.box n c a e1 e2).grow (Sub.refl F) id (hs a),λa u e hn=>hs a u (R.keep a u e hn),R.new,R.n0,R.sl,R.fs⟩
theorem Rel.Yo (R:Rel T F r σ H env bx) {p:Addr}{vs:List V}{o:HO}(w:Own F r H p vs) (hT:T.H₀ p=none):Rel T F r σ (upd H p o) env bx:=by
 refine⟨λa u e=>?_,R.slot,R.len,R.nd,λn c a e1 e2=>?_,λa u e hn=>?_,R.new,R.n0,R.sl,R.fs⟩
 ·rw[fJ (λz=>by rw[z,w.f]at e;cases e)];exact R.fh a u e
 ·have ha:a≠p:=λz=>w.b (List.mem_iff_getElem?.mpr ⟨n,z▸e2⟩);exact(R.box n c a e1 e2).grow (Sub.refl F) id λu z=>by rw[fJ ha];exact z
 ·rw[fJ (λz=>by rw[z,hT]at e;cases e)];exact R.keep a u e hn
theorem Rel.Yp (R:Rel T F r σ H env bx) {p:Addr}{vs:List V}(w:Own F r H p vs) (hT:T.H₀ p=none):Rel T (upd F p (.lst vs)) r σ H env bx /\ aL F r (upd F p (.lst vs)) r:=by
 have s:=oT (o:=.lst vs) w.f;refine⟨⟨λa u e=>?_,λi w e=>?_,R.len,R.nd,λn c a e1 e2=>?_,R.keep,R.new,R.n0,R.sl,λa u e=>?_⟩,s,qQ r⟩
 ·by_cases ha:a=p
  ·subst ha;rw[fI]at e;cases e;exact w.h
  ·rw[fJ ha]at e;exact R.fh a u e
 ·obtain⟨v,e1,e2⟩:=R.slot i w e;exact⟨v,e1,e2.mono s (qQ r)⟩
 ·have ha:a≠p:=λz=>w.b (List.mem_iff_getElem?.mpr ⟨n,z▸e2⟩);exact(R.box n c a e1 e2).grow s (λz=>by rw[fJ ha];exact z) λu z=>z
 ·by_cases ha:a=p
  ·subst ha;exact .inr (.inl hT)
  ·rw[fJ ha]at e;exact R.fs a u e
theorem Rel.Yq (R:Rel T F r σ H env bx) {p:Addr}{vs:List V}(w:Own F r H p vs) (hT:T.H₀ p=none) (d:av F l vs):Rel T F (r++[p]) σ H env (bx++[.lst l]) /\ aL F r F (r++[p]) /\ (r++[p])[bx.length]?=some p:=by
 have hx:(r++[p])[bx.length]?=some p:=by rw[<-R.len,cU (ak _),nH];rfl
 have g:aL F r F (r++[p]):=⟨Sub.refl F,wL r [p]⟩;refine⟨⟨R.fh,λi w e=>?_,by rw[cb,cb,R.len];rfl,?_,λn c' a e1 e2=>?_,λa u e hn=>R.keep a u e λz=>hn (cH _ z),λn a hn e=>?_,by rw[cb];exact bc R.n0 (vd _ _),R.sl,λa u e=>(R.fs a u e).imp id (Or.imp id λz=>cH _ z)⟩,g,hx⟩
 ·obtain⟨v,e1,e2⟩:=R.slot i w e;exact⟨v,e1,g.den e2⟩
 ·rw[sf];refine⟨R.nd,by simp,λa ha b hb=>?_⟩;rw[a7]at hb;subst hb;exact λz=>w.b (z▸ha)
 ·by_cases hn:n<r.length
  ·rw[dt hn]at e2;rw[dt (by rw[<-R.len];exact hn)]at e1;exact R.box n c' a e1 e2
  ·rw[cU (by omega)]at e2;rw[cU (by rw[<-R.len];omega)]at e1;have hl:n-r.length=0:=by
    cases q:n-r.length with
    |zero=>rfl
    |succ k=>rw[q]at e2;simp at e2
   have kK:n-bx.length=0:=by rw[<-R.len];exact hl
   rw[hl]at e2;rw[kK]at e1;simp at e1 e2;subst e1 e2;exact⟨w.f,vs,w.h,d⟩
 ·by_cases hl:n<r.length
  ·rw[dt hl]at e;exact R.new n a hn e
  ·have hp:a=p:=by
    rw[cU (by omega)]at e;cases q:n-r.length with
    |zero=>rw[q]at e;simp at e;exact e.symm
    |succ k=>rw[q]at e;simp at e
   subst hp;exact hT
section
variable {src : List (Option Nat)} {scope : Scope} {g : DG} 
abbrev xr (g:DG):TG:=λv σ H Q=>∃ T,tG T g v σ H Q
noncomputable abbrev xt (Z:Xs) (tf:DE Bool):TT:=λσ H Q=>∃ T,eQ T Z tf σ H Q
abbrev xu (Z:Xs) (te:DE W):TE:=λσ H Q=>∃ T,tD T Z te σ H Q
theorem Rel.slots {T':Fr}{F':Hp}{r':List Addr}{σ':St}{ay:aJ}(R:Rel T F r σ H env bx) (g:aL F r F' r') (R':Rel T' F' r' σ' H' ay bx'):Rel T' F' r' σ H' env bx' :=
 ⟨R'.fh,λi w e=>let ⟨v,e1,e2⟩:=R.slot i w e;⟨v,e1,g.den e2⟩,R'.len,R'.nd,R'.box,R'.keep,R'.new,R'.n0,R.sl,R'.fs⟩
theorem LC {Q:VK}(h:tD T Z (fk bo src mi g tf te) σ H Q):zQ src (tI T Z mi) (xr g) (xt ⟨E0,Z.cl⟩ tf) (xu ⟨E0,Z.cl⟩ te) σ H Q:=by
 obtain⟨F,r,env,bx,R,h⟩:=h;refine⟨F,r,env,bx,R,End.bind h λds bx1 F1 r1 J H1 g1 R1 y1 h1=>λDa hD=>?_⟩;have hT:T.H₀ Da=none:=by
  cases q:T.H₀ Da with
  |none=>rfl
  |some u=>rw[R1.keep Da u q (R1.uo hD)]at hD;cases hD
 have o0:Own F1 r1 (upd H1 Da (.lst [])) Da []:=⟨fI,R1.uk hD,R1.uo hD⟩;refine⟨λi n σ' H'=>∃ pre l F' r' ay bx' acc vs,ds=pre++l /\ pre.length=i /\ n=l.length /\ aL F1 r1 F' r' /\ Rel T F' r' σ' H' ay bx' /\ Own F' r' H' Da vs /\ av F' acc vs /\
  End T Z bJ F' r' σ env Q (fq (bT g tf te l ay bx' acc) λl bx2=>bN bo (some (.lst l)) bx2),
  ⟨ds.length,[],ds,F1,r1,_,bx1,[],[],rfl,rfl,rfl,.refl F1 r1,(R1.Yn hD).src src,o0,.nil,h1⟩,?_⟩
 rintro i n σ' H' ⟨pre,l,F',r',ay,bx',acc,vs,eP,hi,hn,g',R',o',da,h'⟩;obtain⟨ys,yg⟩:=y1 ⟨H',r'.length,F'⟩ i F' r' σ' H' ay bx' g' R'.again;cases l with
 | nil =>
   refine .inl ⟨ys (by rw[eP,qO];omega),?_⟩;have RO:Rel T F' r' σ H' env bx':=R1.slots g' R';have hd:End T Z bJ F' r' σ env Q (.val (.d (.lst acc)) bx')->Q (.ref Da) H':=λh'=>by
    obtain⟨RA,gA⟩:=RO.Yp o' hT;exact h' _ r' _ H' gA RA ⟨Da,vs,rfl,fI,av.mono gA.s acc da⟩
   cases bo with
   |false=>exact hd h'
   | true =>
     obtain⟨RB,gB,hx⟩:=RO.Yq o' hT da;exact h' F' _ _ H' gB RB ⟨Da,rfl,hx⟩
 | cons w l =>
   obtain⟨go,yl⟩:=yg w (by rw[eP,cU (by omega),hi,nH];rfl);refine .inr ⟨go,λσ2 H2=>∃ F2 r2 env2 bx2 rG qw,aL F1 r1 F2 r2 /\ Rel T F2 r2 σ2 H2 env2 bx2 /\ Own F2 r2 H2 Da qw /\ av F2 rG qw /\
    End T Z bJ F2 r2 σ env Q (fq (bT g tf te l env2 bx2 rG) λl bx2=>bN bo (some (.lst l)) bx2),
    λσ2 H2 ⟨F2,r2,env2,bx2,rG,qw,g2,R2,o2,d2,h2⟩=>⟨l.length,by rw[hn];exact eJ _,pre++[w],l,F2,r2,env2,bx2,rG,qw,by rw[eP,eK];rfl,by rw[cb,hi];rfl,rfl,g2,R2,o2,d2,h2⟩,λx H2 hy=>?_⟩
   obtain⟨F2,g2,R2,d2⟩:=yl x H2 hy;have Yr:=R'.inner g2 R2;have o2:=o'.inner g2 R2;refine⟨⟨H2,r'.length,F2⟩,F2,r',ay,bx',w,Yr.again,d2,?_⟩;simp only[bT]at h';cases eg:g w ay bx' with
   |none=>simp only[eg]at h';exact h'.elim
   | some o =>
     obtain⟨cX,aO⟩:=o;simp only[eg]at h';intro F3 r3 σ3 H3 g3 R3;have xw:=Yr.inner g3 R3;have o3:=o2.inner g3 R3;refine⟨⟨H3,r3.length,F3⟩,F3,r3,cX,aO,xw.again,?_⟩;cases ef:tf cX aO with
     |bad=>simp only[ef,bindB]at h';exact h'.elim
     |exc c bw=>simp only[ef,bindB]at h';exact h'.elim
     | val b bw =>
       simp only[ef,bindB]at h';intro F4 r4 b' H4 g4 R4 eb;subst eb;have uv:=xw.inner g4 R4;have o4:=o3.inner g4 R4;have xx:aL F1 r1 F4 r4:=((g'.trans g2).trans g3).trans g4;have sV:aL F' r' F4 r4:=(g2.trans g3).trans g4;cases b with
       | false =>
         rw[if_neg (by decide)];exact⟨F4,r4,cX,bw,acc,vs,xx,uv,o4,av.mono sV.s acc da,End.weak sV h'⟩
       | true =>
         rw[if_pos rfl];refine⟨⟨H4,r4.length,F4⟩,F4,r4,cX,bw,uv.again,?_⟩;cases ee:te cX bw with
         |bad=>simp only[ee]at h';exact h'.elim
         |exc c uw=>simp only[ee]at h';exact h'.elim
         | val y uw =>
           simp only[ee]at h';intro F5 r5 v H5 g5 R5 d5;have KI:=uv.inner g5 R5;have o5:=o4.inner g5 R5;have xy:=sV.trans g5;cases y with
           | d d =>
             simp only at h';split at h'
             ·rename_i hz;have KJ:=av.mono xy.s acc da;refine⟨vs,o5.h,by rw[<-da.length];exact hz,F5,r5,cX,uw,acc++[d],vs++[v],xx.trans g5,KI.Yo o5 hT,⟨fI,o5.f,o5.b⟩,KJ.append (.cons d5 .nil),End.weak xy h'⟩
             ·exact h'.elim
           |b n=>exact h'.elim
           |s l=>exact h'.elim
           |x i=>exact h'.elim
           |t _=>exact h'.elim
           |m _=>exact h'.elim
theorem FP (bo:Bool) (hc:X.calm=true) (S:kJ X N src scope) (hi:nW X T Z tg iter mi)
 (hg:∀ T cl s H C fp,ez (X.comp N scope cl s H C fp) T tg g) (hf:∀ T cl s H C fp,PF (X.comp N scope cl s H C fp) ifs (eQ T ⟨E0,Z.cl⟩ tf)) (he:∀ T cl s H C fp,PD (X.comp N scope cl s H C fp) T ⟨E0,Z.cl⟩ elt te)
 (hs:∀ x,foldedSetIterable iter X.env x=pure x:=by intro _;rfl):PD X T Z (.ListComp elt [⟨tg,iter,ifs,0⟩] scope pos) (fk bo src mi g tf te):=
 PE.imp (FJ (src:=src) (g:=xr g) (tf:=xt ⟨E0,Z.cl⟩ tf) (te:=xu ⟨E0,Z.cl⟩ te) hc S hi (λcl s H C fp pins s' σ' H' v u Q I rv ⟨T,q⟩=>hg T cl s H C fp pins s' σ' H' v u Q I rv q)
  (λcl s H C fp pins s' σ' H' Q I ⟨T,q⟩=>hf T cl s H C fp pins s' σ' H' Q I q) (λcl s H C fp pins s' σ' H' Q I ⟨T,q⟩=>he T cl s H C fp pins s' σ' H' Q I q) hs) λσ H Q h=>LC h
noncomputable def fw:DE Bool:=λ_ bx=>.val true bx
theorem N1:PF X [] (eQ T Z fw):=λpins s σ H Q I ⟨F,r,env,bx,R,h⟩=>Rx pins s σ H Q I (h F r true H (.refl F r) R rfl)
theorem N2 {t:DE Bool}(h:dD X T Z c t):PF X [c] (eQ T Z t):=Ry h
theorem Bg {w:W}(e:(l.map W.d)[i]?=some w):∃ d,l[i]?=some d /\ w=.d d:=by
 rw[kg]at e;cases q:l[i]? with
 |none=>rw[q]at e;cases e
 |some d=>rw[q]at e;cases e;exact⟨d,rfl,rfl⟩
noncomputable def fA (lo:Int) (n:Nat):List W:=(List.range n).map λ(i:Nat)=>W.d (.int (lo+i))
theorem mJ (lo:Int) (n:Nat):vR F r (fA lo n) (xc lo n):=λT i F1 r1 σ1 H1 env1 bx1 g R=>by
 unfold fA;refine⟨λhl=>?_,λw e=>?_⟩
 ·rw[aF,tY]at hl;exact rZ hl
 ·rw[kg]at e;cases q:(List.range n)[i]? with
  |none=>rw[q]at e;cases e
  | some j =>
    rw[q]at e;cases e;obtain⟨h1,h2⟩:=List.getElem?_eq_some_iff.mp q;rw[List.getElem_range]at h2;subst h2;rw[tY]at h1;refine⟨h1,λx H2 ⟨e1,e2⟩=>?_⟩;subst e1 e2;exact⟨F1,.refl F1 r1,R,rfl⟩
noncomputable def bP (k:DE (List W)):DE (List W):=λenv bx=>fq (k env bx) λws bx1=>match ws with
 |[.d (.int j)]=>if -(2 ^ 62)<=j /\ j<2 ^ 62 then .val (fA 0 j.toNat) bx1 else .bad
 |_=>.bad
theorem DA {a:Expr}{p:Pos}{k:DE (List W)}(hg:Gl X "range") (hm:X.mg "range"=none) (ha:cc X T Z [a] k) (hs:starEach [a] X.env=[(false,eval a X.env)]:=by rfl):nW X T Z tg (.Call (.Name "range" p) [a] [] pos) (bP k):=by
 refine PI.imp (GV hg hm ha hs) λσ H Q ⟨F,r,env,bx,R,h⟩=>?_;refine⟨F,r,env,bx,R,End.bind h λws bx1 F1 r1 vs H1 g1 R1 d1 h1=>?_⟩;split at h1
 ·rename_i j;split at h1
  ·rename_i hj;obtain⟨v,t,rfl,e1,e2⟩:=d1;cases (show t=[] from e2);cases (show v=.int j from e1);exact⟨j,rfl,hj.1,hj.2,h1 F1 r1 _ H1 (.refl F1 r1) R1 (mJ 0 j.toNat)⟩
  ·exact h1.elim
 ·exact h1.elim
noncomputable def qx (k:DE (List W)):DE (List W):=λenv bx=>fq (k env bx) λws bx1=>match ws with
 |[.d (.int i),.d (.int j)]=>if (-(2 ^ 62)<=i /\ i<2 ^ 62) /\ -(2 ^ 62)<=j /\ j<2 ^ 62 then .val (fA i (j-i).toNat) bx1 else .bad
 |_=>.bad
theorem DB {a b:Expr}{p:Pos}{k:DE (List W)}(hg:Gl X "range") (hm:X.mg "range"=none) (ha:cc X T Z [a,b] k) (hs:starEach [a,b] X.env=[(false,eval a X.env),(false,eval b X.env)]:=by rfl) (dZ:starEach [b] X.env=[(false,eval b X.env)]:=by rfl) :
 nW X T Z tg (.Call (.Name "range" p) [a,b] [] pos) (qx k):=by
 refine PI.imp (GW hg hm ha hs dZ) λσ H Q ⟨F,r,env,bx,R,h⟩=>?_;refine⟨F,r,env,bx,R,End.bind h λws bx1 F1 r1 vs H1 g1 R1 d1 h1=>?_⟩;split at h1
 ·rename_i i j;split at h1
  ·rename_i hj;obtain⟨v,t,rfl,e1,v2,t2,rfl,e2,e3⟩:=d1;cases (show t2=[] from e3);cases (show v=.int i from e1);cases (show v2=.int j from e2);exact⟨i,j,rfl,⟨hj.1.1,hj.1.2,hj.2.1,hj.2.2⟩,h1 F1 r1 _ H1 (.refl F1 r1) R1 (mJ i _)⟩
  ·exact h1.elim
 ·exact h1.elim
end
section
variable {a b : Expr} {es : List Expr} {mb mc : DE W} {p : Pos}
def Ys (K:PySem.W.Frag):R2:=λx y H Q=>∃ a b ys,x=.ref a /\ y=.ref b /\ aV K H a [] /\ aV K H b ys /\ Q (.ref b) H
theorem LD:aM X (binaryOp .Add) (Ys X.K):=by
 intro pins s σ H x y v u Q I rx ry h;obtain⟨a,b,ys,rfl,rfl,ha,hb,q⟩:=h;cases rx;cases ry;obtain⟨af,r1,p1,_⟩:=I.tuple ha;obtain⟨kI,r2,p2,_⟩:=I.tuple hb;cases r1;obtain⟨⟨cls,dd,data,sl⟩,ho,hc,n,hd⟩:=id p1;obtain⟨⟨XS,sH,data2,sI⟩,qm,e6,n2,hd2⟩:=id p2;simp only at hc hd e6 hd2;subst hc hd e6 hd2
 exact Hk ⟨_,ho,rfl⟩ ⟨_,qm,rfl⟩ Hl Hm IF IG (IH _ _)
  (tuple_addW0 a b ([]:List Value).toArray kI.toArray n n2 dd sH sl sI (by simp)) ⟨ho,qm,⟨.ref b,H,I,rfl,q⟩⟩
def Yt (K:PySem.W.Frag):R2:=λx y H Q=>eN (λi j=>.int (i+j)) x y H Q \/ XU K x y H Q \/ Ys K x y H Q \/ X6 x y H Q \/ ∃ i j,x=.str i /\ y=.str j /\ i.length+j.length<=sizeLine /\ Q (.str (i++j)) H
theorem N3:aM X (binaryOp .Add) (Yt X.K):=Rh.or (NJ.or (LD.or (Rw.or Dv)))
noncomputable def fO:D->D->Option Res
 |.int i,.int j=>some (.old (.int (i+j)))
 |.tup a,.tup b=>if a.length+b.length<=sizeLine then some (.tup (a++b)) else none
 |.lst a,.lst b=>if a.length+b.length<=sizeLine then some (.lst (a++b)) else none
 |.str a,.str b=>if a.length+b.length<=sizeLine then some (.old (.str (a++b))) else none
 |_,_=>none
theorem av.eq_nil {vs:List V}(h:av F l vs):vs=[] ↔ l=[]:=by
 have:=h.length;cases l<;>cases vs<;>simp_all
theorem abx:bO (Yt K) fO:=by
 intro F H x y v w Q s sub rx ry e k;unfold fO at e;split at e
 ·rename_i i j;cases e;exact .inl ⟨i,j,rx,ry,k _ _ ⟨rfl,rfl⟩⟩
 ·rename_i l l';split at e
  ·rename_i hz;cases e;obtain⟨a,vs,rfl,h1,h2⟩:=rx;obtain⟨b,ws,rfl,h3,h4⟩:=ry;by_cases hv:vs=[]
   ·subst hv;have hl:l=[]:=h2.eq_nil.mp rfl;subst hl;exact .inr (.inr (.inl ⟨a,b,ws,rfl,rfl,.of (sub _ _ h1),.of (sub _ _ h3),k _ _ (.inl ⟨rfl,b,ws,rfl,h3,h4⟩)⟩))
   ·refine .inr (.inl ⟨a,b,vs,ws,rfl,rfl,.of (sub _ _ h1),.of (sub _ _ h3),hv,by rw[<-h2.length,<-h4.length];exact hz,λhw=>?_,λhw p hp=>k _ _ (.inr ⟨p,vs++ws,rfl,hp,rfl,h2.append h4⟩)⟩);have hl:l'=[]:=h4.eq_nil.mp hw;subst hl;exact k _ _ (.inl ⟨rfl,a,vs,rfl,h1,by rw[qO];exact h2⟩)
  ·cases e
 ·rename_i l l';split at e
  ·rename_i hz;cases e;obtain⟨a,vs,rfl,h1,h2⟩:=rx;obtain⟨b,ws,rfl,h3,h4⟩:=ry;exact .inr (.inr (.inr (.inl ⟨a,b,vs,ws,rfl,rfl,h1,h3,by rw[<-h2.length,<-h4.length];exact hz,λp hp=>k _ _ ⟨p,vs++ws,rfl,hp,rfl,h2.append h4⟩⟩)))
  ·cases e
 ·rename_i i j;split at e
  ·rename_i hz;cases e;exact .inr (.inr (.inr (.inr ⟨i,j,rx,ry,hz,k _ _ ⟨rfl,rfl⟩⟩)))
  ·cases e
 ·cases e
theorem zW {C:Int->Int->Prop} [∀ i j,Decidable (C i j)] {g:Int->Int->D}{gv:Int->Int->V}(hg:∀ i j F,Den F (g i j) (gv i j)):bO (rI C gv) λx y=>match x,y with|.int i,.int j=>if C i j then some (.old (g i j)) else none|_,_=>none:=by
 intro F H x y v w Q s sub rx ry e k;dsimp only at e;split at e
 ·rename_i i j;split at e
  ·rename_i hc;cases e;exact⟨i,j,rx,ry,hc,k _ _ ⟨rfl,hg i j F⟩⟩
  ·cases e
 ·cases e
theorem zX {g:Int->Int->D}{gv:Int->Int->V}(hg:∀ i j F,Den F (g i j) (gv i j)):bO (eN gv) λx y=>match x,y with|.int i,.int j=>some (.old (g i j))|_,_=>none:=by
 intro F H x y v w Q s sub rx ry e k;dsimp only at e;split at e
 ·rename_i i j;cases e;exact⟨i,j,rx,ry,k _ _ ⟨rfl,hg i j F⟩⟩
 ·cases e
noncomputable def cL:D->D->Option Res:=λx y=>match x,y with|.int i,.int j=>some (.old (.int (i-j)))|_,_=>none
theorem aby:bO (eN λi j=>.int (i-j)) cL:=zX (g:=λi j=>.int (i-j)) λ_ _ _=>rfl
instance (i j:Int):Decidable (sC i j):=by unfold sC;exact inferInstance
instance (i j:Int):Decidable (vK i j):=by unfold vK;exact inferInstance
instance (i j:Int):Decidable (vL i j):=by unfold vL;exact inferInstance
noncomputable def zY:D->D->Option Res:=λx y=>match x,y with|.int i,.int j=>if vK i j then some (.old (.int (i / j))) else none|_,_=>none
theorem abz:bO (rI vK λi j=>.int (i / j)) zY:=zW (g:=λi j=>.int (i / j)) λ_ _ _=>rfl
noncomputable def eA:D->D->Option Res:=λx y=>match x,y with|.int i,.int j=>if 0<j then some (.old (.int (i % j))) else none|_,_=>none
theorem abA:bO (rI (λ_ j=>0<j) λi j=>.int (i % j)) eA:=zW (C:=λ_ j=>0<j) (g:=λi j=>.int (i % j)) λ_ _ _=>rfl
noncomputable def ux:D->D->Option Res:=λx y=>match x,y with|.int i,.int j=>if vL i j then some (.old (.int (i ^ j.toNat))) else none|_,_=>none
theorem abB:bO (rI vL λi j=>.int (i ^ j.toNat)) ux:=zW (g:=λi j=>.int (i ^ j.toNat)) λ_ _ _=>rfl
noncomputable def intsOf:List D->Option (List Int)
 |[]=>some []
 |.int i::l=>(intsOf l).map λt=>i::t
 |_=>none
theorem av.ints {F:Hp}:∀ {l:List D}{vs:List V}{ns:List Int},av F l vs->intsOf l=some ns->vs=ns.map V.int
 |[],_,_,h,e=>by cases e;exact h
 | .int i::l,_,ns,h,e=>by
   obtain⟨v,r,q,h1,h2⟩:=h;unfold intsOf at e;cases e2:intsOf l with
   |none=>rw[e2]at e;cases e
   | some t =>
     rw[e2]at e;cases e;rw[q,h2.ints e2,show v=.int i from h1];rfl
 |.aq::l,_,_,_,e=>by cases e
 |.bl _::l,_,_,_,e=>by cases e
 |.str _::l,_,_,_,e=>by cases e
 |.tup _::l,_,_,_,e=>by cases e
 |.lst _::l,_,_,_,e=>by cases e
 |.aN _::l,_,_,_,e=>by cases e
noncomputable def ku:D->D->Option Res
 |.int i,.int j=>some (.old (.bl (decide (i<j))))
 |.tup a,.tup b=>(intsOf a).bind λns=>(intsOf b).map λms=>.old (.bl (HT.lexLt ns ms))
 |_,_=>none
theorem RT (hu:X.A.units<cLine):aM X (compareOp .Lt) (λx y H Q=>eN (λi j=>.bl (decide (i<j))) x y H Q \/ Kq X.K x y H Q):=Tv.or (Rs hu)
theorem abC:bO (λx y H Q=>eN (λi j=>.bl (decide (i<j))) x y H Q \/ Kq K x y H Q) ku:=by
 intro F H x y v w Q s sub rx ry e k;unfold ku at e;split at e
 ·rename_i i j;cases e;exact .inl ⟨i,j,rx,ry,k _ _ ⟨rfl,rfl⟩⟩
 ·rename_i l l';cases e1:intsOf l with
  |none=>rw[e1]at e;cases e
  | some ns =>
    cases e2:intsOf l' with
    |none=>rw[e1,e2]at e;cases e
    | some ms =>
      rw[e1,e2]at e;cases e;obtain⟨a,vs,rfl,h1,h2⟩:=rx;obtain⟨b,ws,rfl,h3,h4⟩:=ry;have q1:=h2.ints e1;have q2:=h4.ints e2;subst q1 q2;exact .inr ⟨a,b,ns,ms,rfl,rfl,.of (sub _ _ h1),.of (sub _ _ h3),k _ _ ⟨rfl,rfl⟩⟩
 ·cases e
noncomputable def qy:D->D->Option Res:=λx y=>match x,y with|.int i,.int j=>some (.old (.bl (decide (j<i))))|_,_=>none
theorem abD:bO (eN λi j=>.bl (decide (j<i))) qy:=zX (g:=λi j=>.bl (decide (j<i))) λ_ _ _=>rfl
noncomputable def rH:D->D->Option Res:=λx y=>match x,y with|.int i,.int j=>some (.old (.bl (decide (j<=i))))|_,_=>none
theorem abE:bO (eN λi j=>.bl (decide (j<=i))) rH:=zX (g:=λi j=>.bl (decide (j<=i))) λ_ _ _=>rfl
noncomputable def ax:D->D->Option Res
 |.lst l,.int i=>(aY l i).map Res.old
 |.tup l,.int i=>(aY l i).map Res.old
 |_,_=>none
theorem FQ {vs:List V}{i:Int}(h:av F l vs) (e:aY l i=some d):∃ v,aY vs i=some v /\ Den F d v:=by
 unfold aY at e ⊢;rw[<-h.length];cases q:cz l.length i with
 |none=>rw[q]at e;cases e
 |some j=>rw[q]at e;exact h.get e
theorem abF:bO (X0 K) ax:=by
 intro F H x y v w Q s sub rx ry e k;unfold ax at e;split at e
 ·rename_i l i;obtain⟨a,vs,rfl,h1,h2⟩:=rx;cases e1:aY l i with
  |none=>rw[e1]at e;cases e
  | some d =>
    rw[e1]at e;cases e;obtain⟨u,e2,du⟩:=FQ h2 e1;exact .inl ⟨a,vs,i,u,rfl,ry,.of h1,e2,k _ _ ⟨rfl,du⟩⟩
 ·rename_i l i;obtain⟨a,vs,rfl,h1,h2⟩:=rx;cases e1:aY l i with
  |none=>rw[e1]at e;cases e
  | some d =>
    rw[e1]at e;cases e;obtain⟨u,e2,du⟩:=FQ h2 e1;exact .inr (.inl ⟨a,vs,i,u,rfl,ry,.of (sub _ _ h1),e2,k _ _ ⟨rfl,du⟩⟩)
 ·cases e
noncomputable def az:List D->Option Res
 |[.lst l]=>some (.old (.int l.length))
 |[.tup l]=>some (.old (.int l.length))
 |_=>none
theorem abG:dU (λxs H Q=>∃ p ys,xs=[.ref p] /\ (bu K H p ys \/ aV K H p ys) /\ Q (.int ys.length) H) az:=by
 intro F H xs vs Q s sub rx e k;unfold az at e;split at e
 ·rename_i l;cases e;obtain⟨v,t,rfl,⟨a,us,rfl,h1,h2⟩,rt⟩:=rx;cases (show t=[] from rt);exact⟨a,us,rfl,.inl (.of h1),k _ _ ⟨rfl,by rw[<-h2.length];rfl⟩⟩
 ·rename_i l;cases e;obtain⟨v,t,rfl,⟨a,us,rfl,h1,h2⟩,rt⟩:=rx;cases (show t=[] from rt);exact⟨a,us,rfl,.inr (.of (sub _ _ h1)),k _ _ ⟨rfl,by rw[<-h2.length];rfl⟩⟩
 ·cases e
noncomputable def qz:D->String
 |.aq=>"NoneType"|.bl _=>"bool"|.int _=>"int"|.str _=>"str"|.tup _=>"tuple"|.lst _=>"list"|.aN _=>"dict"
noncomputable def rJ (S T:String):Bool:=S==T||(S == "bool"&&T == "int")
def kQ (K:PySem.W.Frag) (T:String):Prop:=∀ d:D,PySem.W.kitOne K (.type (qz d)) (.type T)=some (rJ (qz d) T)
theorem TN (sub:Sub F H):∀ {d:D}{v:V},kL F H d v->kH K H v (.type (qz d))
 |.aq,_,h=>by cases (show _=V.aq from h);exact .aq
 |.bl b,_,h=>by cases (show _=V.bl b from h);exact .bl b
 |.int b,_,h=>by cases (show _=V.int b from h);exact .int b
 |.str b,_,h=>by cases (show _=V.str b from h);exact .str b
 |.tup l,_,h=>by obtain⟨a,vs,rfl,h1,h2⟩:=h;exact .tup (sub _ _ h1)
 |.lst l,_,h=>by obtain⟨a,vs,rfl,h1,h2⟩:=h;exact .lst h1
 |.aN l,_,h=>by obtain⟨a,vs,rfl,h1,h2⟩:=h;exact .dK h1
noncomputable def ic (n:String) (m:DE W):DE W:=λenv bx=>fq (m env bx) λw bx1=>match aG bx1 w with|some d=>.val (.d (.bl (rJ (qz d) n))) bx1|none=>.bad
theorem N4 {n:String}{p p1:Pos}(hT:kQ X.K n) (hg:Gl X "isinstance") (hm:X.mg "isinstance"=none) (cM:Gl X x) (dg:X.mg x=none) (hv:bootBuiltins x=some (.type n)) (ha:PD X T Z a ma)
 (hn:x ≠ "__name__":=by decide) (cx:(x==("__debug__":Str))=false:=by decide)
 (xA:starEach [a,.Name x p1] X.env=(false,eval a X.env)::starEach [.Name x p1] X.env:=by rfl) (KL:starEach [.Name x p1] X.env=(false,eval (.Name x p1) X.env)::starEach [] X.env:=by rfl)
 (ed:(backTo pos (starEach [.Name x p1] X.env)).any (·.1)=false:=by rfl):PD X T Z (.Call (.Name "isinstance" p) [a,.Name x p1] [] pos) (ic n ma):=by
 refine PE.imp (jz Bf hg hm (by decide +kernel) (g9 ha (g9 (Fz cM dg hv (v:=.ty n) rfl hn cx) jG KL) xA) (by decide) (by decide) xA ed) λσ H Q ⟨F,r,env,bx,R,h⟩=>?_;refine⟨F,r,env,bx,R,End.bind h λw bx1 F1 r1 v H1 g1 R1 d1 h1=>?_⟩;cases e:aG bx1 w with
 |none=>simp only[e]at h1;exact h1.elim
 | some d =>
   simp only[e]at h1;exact⟨v,.ty n,_,.type n,_,rfl,.of (TN R1.fh (R1.pN d1 e)),rfl,hT d,h1 F1 r1 _ H1 (.refl F1 r1) R1 rfl⟩
end
section
variable {a b : Expr} {es : List Expr} {mb mc : DE W} {p : Pos}
def Yu (K:PySem.W.Frag) (vs:List V) (H:Hp) (Q:VK):Prop:=∃ (p:Addr) (bs:List Bool),vs=[.ref p] /\ H p=some (.lst (bs.map V.bl)) /\ Q (.bl (bs.all id)) H
theorem Jb (hc:X.calm=true):dA X (.builtin "all") (Yu X.K):=by
 intro pins s σ H xs us Q I rv h;obtain⟨p,bs,rfl,hp,q⟩:=h;obtain⟨u,rfl,ru⟩:=Vals.one rv;cases ru;obtain⟨af,r1,p1,z1⟩:=I.list (bu.of (K:=X.K) hp);have hl:=p1.isList;have pP:p<s.heap.objs.size:=by obtain⟨_,e,_⟩:=hl;exact aK e
 have hlen:bs.length=af.length:=by have:=r1.length;simpa using this
 refine call_all_walk (u5 hl ?_);refine⟨s.heap.objs.size,[s.heap.objs.size,p],[s.heap.objs.size],af.toArray.size,_,_,λi=>(bs[i]?).getD true,rfl,Walks.list (A:=X.A.in1) (I.ok.hd hc) _ p (bL pP) af.toArray,
  ⟨⟨_,aR _ rfl,rfl,rfl⟩,hl.push _⟩,λi v s' Q' E' hP hQ=>?_,λh' tk hk=>?_⟩
 ·have xC:af[i]?=some v:=by simpa using hP
  have hi:i<bs.length:=by rw[hlen];exact(List.getElem?_eq_some_iff.mp xC).1
  obtain⟨w,e1,e2⟩:=r1.get (i:=i) (x:=V.bl bs[i]) (by simp[hi]);rw[xC]at e1;cases e1;cases e2;simp only[cJ hi,zi]at hQ;exact k7 hQ
 ·have e:((List.range af.toArray.size).all λi=>(bs[i]?).getD true)=bs.all id:=by
   rw[aU,<-hlen];exact LSm.range_all bs
  rw[e];exact⟨.bl _,H,I.kept (t':=tk) (Xj hk),rfl,q⟩
noncomputable def nv:List D->Option (List Bool)
 |[]=>some []
 |.bl i::l=>(nv l).map λt=>i::t
 |_=>none
theorem av.KN {F:Hp}:∀ {l:List D}{vs:List V}{ns:List Bool},av F l vs->nv l=some ns->vs=ns.map V.bl
 |[],_,_,h,e=>by cases e;exact h
 | .bl i::l,_,ns,h,e=>by
   obtain⟨v,r,q,h1,h2⟩:=h;unfold nv at e;cases e2:nv l with
   |none=>rw[e2]at e;cases e
   | some t =>
     rw[e2]at e;cases e;rw[q,h2.KN e2,show v=.bl i from h1];rfl
 |.aq::l,_,_,_,e=>by cases e
 |.int _::l,_,_,_,e=>by cases e
 |.str _::l,_,_,_,e=>by cases e
 |.tup _::l,_,_,_,e=>by cases e
 |.lst _::l,_,_,_,e=>by cases e
 |.aN _::l,_,_,_,e=>by cases e
noncomputable def bW:List D->Option Res
 |[.lst l]=>(nv l).map λbs=>.old (.bl (bs.all id))
 |_=>none
theorem abH:dU (Yu K) bW:=by
 intro F H xs vs Q s sub rx e k;unfold bW at e;split at e
 ·rename_i l;obtain⟨v,t,rfl,⟨a,us,rfl,h1,h2⟩,rt⟩:=rx;cases (show t=[] from rt);cases e1:nv l with
  |none=>rw[e1]at e;cases e
  | some bs =>
    rw[e1]at e;cases e;have q1:=h2.KN e1;subst q1;exact⟨a,bs,rfl,h1,k _ _ ⟨rfl,rfl⟩⟩
 ·cases e
theorem abI:dU (λxs H Q=>∃ p ys,xs=[.ref p] /\ ((bu K H p ys /\ ∀ l,H l=none->Q (.ref l) (upd H l (.tup ys))) \/ (aV K H p ys /\ Q (.ref p) H)))
 (λxs=>match xs with|[.lst l]=>some (.tup l)|[.tup l]=>some (.tup l)|_=>none):=by
 intro F H xs vs Q s sub rx e k;dsimp only at e;split at e
 ·rename_i l;cases e;obtain⟨v,t,rfl,⟨a,us,rfl,h1,h2⟩,rt⟩:=rx;cases (show t=[] from rt);exact⟨a,us,rfl,.inl ⟨.of h1,λp hp=>k _ _ (.inr ⟨p,us,rfl,hp,rfl,h2⟩)⟩⟩
 ·rename_i l;cases e;obtain⟨v,t,rfl,⟨a,us,rfl,h1,h2⟩,rt⟩:=rx;cases (show t=[] from rt);exact⟨a,us,rfl,.inr ⟨.of (sub _ _ h1),k _ _ (.inl ⟨rfl,a,us,rfl,h1,h2⟩)⟩⟩
 ·cases e
noncomputable def kz:List D->Option Res:=λxs=>match xs with|[.lst l]=>some (.tup l)|[.tup l]=>some (.tup l)|_=>none
noncomputable def uz:List D->Option Res:=λxs=>match xs with|[.lst l]=>some (.lst l)|[.tup l]=>some (.lst l)|_=>none
theorem abJ:dU (λxs H Q=>∃ p ys,xs=[.ref p] /\ (bu K H p ys \/ aV K H p ys) /\ ∀ l,H l=none->Q (.ref l) (upd H l (.lst ys))) uz:=by
 intro F H xs vs Q s sub rx e k;unfold uz at e;split at e
 ·rename_i l;cases e;obtain⟨v,t,rfl,⟨a,us,rfl,h1,h2⟩,rt⟩:=rx;cases (show t=[] from rt);exact⟨a,us,rfl,.inl (.of h1),λp hp=>k _ _ ⟨p,us,rfl,hp,rfl,h2⟩⟩
 ·rename_i l;cases e;obtain⟨v,t,rfl,⟨a,us,rfl,h1,h2⟩,rt⟩:=rx;cases (show t=[] from rt);exact⟨a,us,rfl,.inr (.of (sub _ _ h1)),λp hp=>k _ _ ⟨p,us,rfl,hp,rfl,h2⟩⟩
 ·cases e
noncomputable def maxD:List D->Option Res:=λxs=>match xs with|[.int i,.int j]=>some (.old (.int (if j>i then j else i)))|_=>none
theorem abK:dU (λxs H Q=>∃ i j,xs=[.int i,.int j] /\ Q (.int (if j>i then j else i)) H) maxD:=by
 intro F H xs vs Q s sub rx e k;unfold maxD at e;split at e
 ·rename_i i j;cases e;obtain⟨v,t,rfl,h1,v2,t2,rfl,h2,rt⟩:=rx;cases (show t2=[] from rt);cases (show v=.int i from h1);cases (show v2=.int j from h2);exact⟨i,j,rfl,k _ _ ⟨rfl,rfl⟩⟩
 ·cases e
noncomputable def minD:List D->Option Res:=λxs=>match xs with|[.int i,.int j]=>some (.old (.int (if j<i then j else i)))|_=>none
theorem abL:dU (λxs H Q=>∃ i j,xs=[.int i,.int j] /\ Q (.int (if j<i then j else i)) H) minD:=by
 intro F H xs vs Q s sub rx e k;unfold minD at e;split at e
 ·rename_i i j;cases e;obtain⟨v,t,rfl,h1,v2,t2,rfl,h2,rt⟩:=rx;cases (show t2=[] from rt);cases (show v=.int i from h1);cases (show v2=.int j from h2);exact⟨i,j,rfl,k _ _ ⟨rfl,rfl⟩⟩
 ·cases e
end
end L2.DL
namespace HT
open PySem PySem.Spec PyProof.Rows
theorem mK {t sl:Addr}{vl vu:Value}{lo hi:Option Int}(ht:IsTup s.heap t items) (hs:s.heap.IsSliceOf sl vl vu .none) (pl:IsPart vl lo) (pu:IsPart vu hi)
 (hw:aE items.size 0 lo=0 /\ aE items.size items.size hi=items.size) (h:Q (.ref t) s):wpAny (model prog w) A (getItem (.ref t) (.ref sl)) Q E s:=by
 obtain⟨os,ue,zI,eP⟩:=id hs;have Kn:s.TypeIs (.ref sl) "slice":=⟨os,ue,zI⟩;unfold getItem;try with_reducible refine cn ?_
 first|refine ae (ag ?_)|skip
 refine ae (Vz ht.typeIs (by decide) ?_);refine ae (pq (name:=Str.ofString "__getitem__") ht.typeIs vz
  (dr vz ht.typeIs WG ?_ (WH _ _)))
 show wpAny _ _ (Builtin.Tuple.tupleItemsOf (.ref t) >>= _) _ _ s;refine ae (WI ht ?_);refine ae (tQ Kn ?_);rw[if_pos (by decide)];refine ae (jA hs pl pu ?_);have abM:((((aE items.size 0 lo:Nat):Int)==0&&(1:Int)==1&&(aE items.size items.size hi-aE items.size 0 lo)==items.size)=true):=by
  rw[hw.1,hw.2];simp
 show wpAny _ _ (if (((aE items.size 0 lo:Nat):Int)==0&&(1:Int)==1&&(aE items.size items.size hi-aE items.size 0 lo)==items.size)=true then _ else _) _ _ s;rw[if_pos abM];refine ae (m:=Builtin.Tuple.tupleIsExact (.ref t)) ?_;unfold Builtin.Tuple.tupleIsExact;refine ae (tQ ht.typeIs (ag ?_));rw[if_pos (by decide)];exact ae (h9 (ag ⟨_,rfl,ag h⟩))
theorem Cu {α β:Type}{f g:α->Option β}:∀ {l:List α},(∀ x∈l,f x=g x)->l.filterMap f=l.filterMap g
 |[],_=>rfl
 | x::l,h=>by
   rw[pz,pz,h x bQ,Cu λy hy=>h y (bF _ hy)]
theorem Am (n:Nat):sliceRange ((n:Int)-1) (-1) (-1)=(List.range n).map λk=>n-1-k:=by
 have e:(if (-1:Int)>0 then (if (n:Int)-1 < -1 then (-1-((n:Int)-1)+-1-1) / -1 else 0) else (if (n:Int)-1>-1 then ((n:Int)-1 - -1 - -1-1) / (- -1) else 0):Int).toNat=n:=by
  rw[if_neg (by decide)];split
  ·have:((n:Int)-1 - -1 - -1-1) / (- -1)=n:=by
    rw[show (- -1:Int)=1 by decide,WO];omega
   rw[this];rfl
  ·omega
 show (List.range (if (-1:Int)>0 then (if (n:Int)-1 < -1 then (-1-((n:Int)-1)+-1-1) / -1 else 0) else (if (n:Int)-1>-1 then ((n:Int)-1 - -1 - -1-1) / (- -1) else 0):Int).toNat).map _=_;rw[e];refine zc λk hk=>?_;have:=kl.mp hk;omega
theorem A0 (af:List Value):slicePick af.toArray none none (some (-1))=af.reverse.toArray:=by
 unfold slicePick;have e:sliceBounds none none (some (-1)) af.toArray.size=((af.length:Int)-1,-1,-1):=by
  simp[sliceBounds]
 rw[e];congr 1;show (sliceRange ((af.length:Int)-1) (-1) (-1)).filterMap (af.toArray[·]?)=_;rw[Am,HL];apply wM;intro i;have h1:(List.range af.length).filterMap ((λx=>af.toArray[x]?)∘λk=>af.length-1-k)=(List.range af.length).map λk=>(af[af.length-1-k]?).getD .none:=by
  rw[<-List.filterMap_eq_map];refine Cu λk hk=>?_;have zR:=kl.mp hk;have pP:af.length-1-k<af.length:=by omega
  simp[pP]
 rw[h1,kg];by_cases hi:i<af.length
 ·have pP:af.length-1-i<af.length:=by omega
  rw[List.getElem?_range hi,List.getElem?_reverse hi];simp[pP]
 ·rw[qR (by simpa using tX hi),qR (by simpa using tX hi)];rfl
end HT
namespace L2.DL
open PySem PySem.Spec PyProof.Rows
section
variable {a b : Expr} {es : List Expr} {mb mc : DE W} {p p2 : Pos} {lo hi : Option Expr}
def Yv (K:PySem.W.Frag):V->Option Int->Option Int->Hp->VK->Prop:=λx lo hi H Q=>∃ a xs,x=.ref a /\ aV K H a xs /\
 (HT.aE xs.length 0 lo=0 /\ HT.aE xs.length xs.length hi=xs.length) /\ Q (.ref a) H
theorem N5:rf X (Yv X.K):=by
 intro pins s σ H x v vl vu lo hi sl Q I rx hs pl pu h;obtain⟨a,xs,rfl,hx,hw,q⟩:=h;cases rx;obtain⟨af,r,ht,hz⟩:=I.tuple hx;have hlen:af.toArray.size=xs.length:=by rw[aU];exact r.length.symm
 exact⟨"tuple",_,vz.lookup,ht.typeIs,HT.mK ht hs pl pu (by rw[hlen];exact hw) ⟨.ref a,H,I,rfl,q⟩⟩
def Yw (K:PySem.W.Frag):V->Option Int->Option Int->Hp->VK->Prop:=λx lo hi H Q=>XT K x lo hi H Q \/ Yv K x lo hi H Q \/ X1 K x lo hi H Q
theorem RU:rf X (Yw X.K):=Rr.or (N5.or NK)
noncomputable def cutD (xs:List D) (lo hi:Option Int):List D:=(xs.drop (HT.aE xs.length 0 lo)).take (HT.aE xs.length xs.length hi-HT.aE xs.length 0 lo)
theorem FR {vs:List V}(h:av F l vs) (lo hi:Option Int):av F (cutD l lo hi) (sJ vs lo hi):=by
 unfold cutD sJ;rw[h.length];exact(h.drop _).take _
noncomputable def vS:D->Option Int->Option Int->Option Res
 |.tup l,lo,hi=>some (.tup (cutD l lo hi))
 |.lst l,lo,hi=>some (.lst (cutD l lo hi))
 |_,_,_=>none
theorem abN {x:D}{lo hi:Option Int}{Q:VK}{s:Res}(sub:Sub F H) (rx:kL F H x v) (e:vS x lo hi=some s) (k:∀ u H',uq F H s u H'->Q u H'):Yw K v lo hi H Q:=by
 cases x with
 | tup l =>
   cases e;obtain⟨a,vs,rfl,h1,h2⟩:=rx;by_cases hw:HT.aE vs.length 0 lo=0 /\ HT.aE vs.length vs.length hi=vs.length
   ·refine .inr (.inl ⟨a,vs,rfl,.of (sub _ _ h1),hw,k _ _ (.inl ⟨rfl,?_⟩)⟩);have e:cutD l lo hi=l:=by
     unfold cutD;rw[h2.length,hw.1,hw.2,yO,HN,<-h2.length,Wg]
    rw[e];exact⟨a,vs,rfl,h1,h2⟩
   ·exact .inl ⟨a,vs,rfl,.of (sub _ _ h1),hw,λp hp=>k _ _ (.inr ⟨p,_,rfl,hp,rfl,FR h2 lo hi⟩)⟩
 | lst l =>
   cases e;obtain⟨a,vs,rfl,h1,h2⟩:=rx;exact .inr (.inr ⟨a,vs,rfl,.of h1,λp hp=>k _ _ ⟨p,_,rfl,hp,rfl,FR h2 lo hi⟩⟩)
 |aq=>cases e
 |bl _=>cases e
 |int _=>cases e
 |str _=>cases e
 |aN _=>cases e
abbrev abO:Hp->List Addr->Option Int->Option Int->Prop:=λ_ _ a b=>a=b
noncomputable def abP (T:Fr) (Z:Xs) (m:DE (Option Int)):TO:=λσ H Q=>∃ F r env bx,Rel T F r σ H env bx /\ End T Z abO F r σ env Q (m env bx)
def xD (X:Cx) (T:Fr) (Z:Xs) (e:Option Expr) (m:DE (Option Int)):Prop:=PO X e (abP T Z m)
theorem PO.imp {e:Option Expr}{t t':TO}(h:PO X e t) (f:∀ σ H Q,t' σ H Q->t σ H Q):PO X e t':=λpins s σ H Q I q=>h pins s σ H Q I (f σ H Q q)
noncomputable def kA:DE (Option Int):=λ_ bx=>.val none bx
noncomputable def hJ (m:DE W):DE (Option Int):=λenv bx=>fq (m env bx) λw bx1=>match w with|.d (.int i)=>.val (some i) bx1|_=>.bad
theorem RV:xD X T Z none kA:=PO.imp NH λσ H Q ⟨F,r,env,bx,R,h⟩=>h F r none H (.refl F r) R rfl
theorem LE (h:PD X T Z e ma):xD X T Z (some e) (hJ ma):=by
 refine PO.imp (NI h) λσ H Q ⟨F,r,env,bx,R,h⟩=>?_;refine⟨F,r,env,bx,R,End.bind h λw bx1 F1 r1 v H1 g1 R1 d1 h1=>?_⟩;split at h1
 ·rename_i i;exact⟨i,d1,h1 F1 r1 _ H1 (.refl F1 r1) R1 rfl⟩
 ·exact h1.elim
noncomputable def eS (bo:Bool) (m:DE W) (l u:DE (Option Int)):DE W:=λenv bx=>fq (m env bx) λx bx1=>fq (l env bx1) λi bx2=>fq (u env bx2) λj aO=>bN bo ((aG aO x).bind λd=>vS d i j) aO
theorem LF {l u:DE (Option Int)}(bo:Bool) (ha:PD X T Z e ma) (hl:xD X T Z lo l) (hu:xD X T Z hi u):PD X T Z (.Subscript e (.Slice lo hi none p2) pos) (eS bo ma l u):=by
 refine PE.imp (Lg RU ha hl hu) λσ H Q ⟨F,r,env,bx,R,h⟩=>?_;refine⟨F,r,env,bx,R,End.bind h λx bx1 F1 r1 v H1 g1 R1 d1 h1=>?_⟩;refine⟨F1,r1,env,bx1,R1,End.bind h1 λi bx2 F2 r2 i' H2 g2 R2 d2 h2=>?_⟩;refine⟨F2,r2,env,bx2,R2,End.bind h2 λj aO F3 r3 j' H3 g3 R3 d3 h3=>?_⟩;subst d2 d3;cases e1:aG aO x with
 |none=>rw[e1]at h3;exact h3.elim
 | some d =>
   rw[e1]at h3;simp only[a9]at h3;cases e2:vS d i j with
   |none=>rw[e2]at h3;exact h3.elim
   | some s =>
     rw[e2]at h3;exact abN R3.fh (R3.pN (g3.den (g2.den d1)) e1) e2 λu H' k=>iA R3 h3 k
theorem RW {te:TE}{i:Int}{q1 q2:Pos}(he:PE X e te):PE X (.Subscript e (.Slice none none (some (.UnaryOp .USub (.Constant (.int 1) j q1) q2)) p2) pos)
 (λσ H Q=>te σ H λx H1=>∃ a xs,x=.ref a /\ bu X.K H1 a xs /\ ∀ p,H1 p=none->Q (.ref p) (upd H1 p (.lst xs.reverse))):=by
 intro pins s σ H Q I h;refine Subscript_ (ao (he pins s σ H _ I h) λv s1 ⟨x,H1,I1,r1,q1⟩=>?_);refine VB ?_;rw[Hn];refine ag (ag ?_);rw[VA];refine ao (Px (X:=X) J7 Dq pins s1 σ H1 (λy H2=>y=.int (-1) /\ H2=H1) I1 ⟨1,rfl,rfl,rfl⟩) λvs s3 ⟨y,H3,I3,r3,e1,e2⟩=>?_;subst e1 e2;obtain⟨t,rfl⟩:=r3;obtain⟨a,xs,rfl,hx,q⟩:=q1;cases r1;have I4:Inv X pins σ H3 { s3 with heap:=s3.heap.push { cls:=.type "slice",data:=.fields #[.none,.none,.int (-1) t] } }:=I3.kept (t':=s3.toks) λb ob q=>aC _ q;obtain⟨af,r,ht,hz⟩:=I4.list hx;have hlen:=r.length;have hg:wpAny (model X.prog X.w) X.A (getItem (.ref a) (.ref s3.heap.objs.size)) (EP X pins σ Q) X.xe { s3 with heap:=s3.heap.push { cls:=.type "slice",data:=.fields #[.none,.none,.int (-1) t] } }:=by
  refine VC (lo:=none) (hi:=none) (st:=some (-1)) ht.isList (Heap.IsSliceOf.new ..) .none .none (.int (-1) t) (by simp) ?_ (by rw[aU]<;>omega);rw[HT.A0];refine⟨.ref _,_,I4.laid (t':=s3.toks) (o:=.lst xs.reverse) (λb ob q=>aC _ q) (ak _) ?_,rfl,q _ (I4.ar.fresh (ak _))⟩;exact⟨by rw[List.length_reverse];exact hz,_,0,r.reverse,aR _ rfl⟩
 show wpAny (model X.prog X.w) X.A (subscriptTail e (.Slice none none (some (.UnaryOp .USub (.Constant (.int 1) j _) q2)) p2) (.ref a) (.ref s3.heap.objs.size)) (EP X pins σ Q) X.xe _;exact Ib (ops:=[.ref a,.ref s3.heap.objs.size]) ht.isList.typeIs slot_list_getitem.lookup hg (by with_unfolding_all rfl)
noncomputable def uA (bo:Bool) (m:DE W):DE W:=λenv bx=>fq (m env bx) λx bx1=>bN bo ((aG bx1 x).bind λd=>match d with|.lst l=>some (.lst l.reverse)|_=>none) bx1
theorem RX {q1 q2:Pos}(bo:Bool) (ha:PD X T Z e ma):PD X T Z (.Subscript e (.Slice none none (some (.UnaryOp .USub (.Constant (.int 1) j q1) q2)) p2) pos) (uA bo ma):=by
 refine PE.imp (RW (i:=0) ha) λσ H Q ⟨F,r,env,bx,R,h⟩=>?_;refine⟨F,r,env,bx,R,End.bind h λx bx1 F1 r1 v H1 g1 R1 d1 h1=>?_⟩;cases e1:aG bx1 x with
 |none=>rw[e1]at h1;exact h1.elim
 | some d =>
   rw[e1]at h1;cases d with
   | lst l =>
     obtain⟨a,vs,rfl,k1,k2⟩:=R1.pN d1 e1;exact⟨a,vs,rfl,.of k1,λp hp=>iA R1 h1 ⟨p,_,rfl,hp,rfl,k2.reverse⟩⟩
   |_=>exact h1.elim
noncomputable def qC (m:DE W):DE W:=λenv bx=>fq (m env bx) λw bx1=>match w with|.d (.int i)=>.val (.d (.int (-i))) bx1|_=>.bad
theorem RY (ha:PD X T Z a ma):PD X T Z (.UnaryOp .USub a pos) (qC ma):=by
 refine PE.imp (Px J7 ha) λσ H Q ⟨F,r,env,bx,R,h⟩=>?_;refine⟨F,r,env,bx,R,End.bind h λw bx1 F1 r1 v H1 g1 R1 d1 h1=>?_⟩;split at h1
 ·rename_i i;exact⟨i,d1,h1 F1 r1 _ H1 (.refl F1 r1) R1 rfl⟩
 ·exact h1.elim
end
end L2.DL
namespace HT
open PySem PySem.Spec PyProof.Rows
theorem Cv {l:Addr}{Q:List Value->Shared->Prop}(hl:IsTup s.heap l vs.toArray) (hz:vs.length<=sizeLine)
 (h:Q vs { s with heap:=(s.heap.push (seqObj "list" #[] 0)).update s.heap.objs.size (Obj.mapSeq (·++vs.toArray)) }):wpAny (model prog w) A (collect (.ref l)) Q E s:=by
 obtain⟨ob,ho,uj,k,pQ⟩:=id hl;unfold collect;refine ae (yF (p6 entry_proto_collect' (ae (u7 (ag ⟨Xk _ (by decide +kernel),p6 entry_list_iadd' ?_⟩)))));show wpAny _ _ (Builtin.List.listExtendWith (.ref s.heap.objs.size) (.ref l) (.ref s.heap.objs.size)) _ _ { s with heap:=s.heap.push (seqObj "list" #[] 0) };unfold Builtin.List.listExtendWith;have pR:(s.heap.push (seqObj "list" #[] 0)).get? l=some ob:=aC _ ho;refine ae (tQ (T:="tuple") ⟨ob,pR,uj⟩ ?_);rw[if_pos (by rw[show (Value.type "tuple"==Value.type "tuple")=true by decide,Bool.or_true])];refine ae (vt pR pQ (ae (vt (xs:=#[]) (n:=0) (aR _ rfl) rfl ?_)));rw[if_neg (by simp)];refine ae (zj (xs:=#[]) (n:=0) (aR _ rfl) rfl (ag ?_) (cT _) (by show (#[]++vs.toArray).size<=sizeLine+1;simp only[Array.size_append,aU,kF];omega));refine ae (u4 (Ic (aR _ rfl) _) (show wpAny _ _ (pure ((#[]:Array Value)++vs.toArray).toList) Q E _ from ?_));rw[show ((#[]:Array Value)++vs.toArray).toList=vs by simp];exact ag h
theorem An {l:Addr}(hl:IsTup s.heap l vs.toArray) (hI:IntsAre vs ns) (cB:vs.length<64)
 (h:∀ (out:Array Value) (aW:List Int),IntsAre out.toList aW->aW.Perm ns->aW.Pairwise (·<=·)->Q (.ref (s.heap.objs.size+1)) { s with heap:=sortedAll s.heap vs out }):wpAny (model prog w) A (call (.builtin "sorted") [.ref l]) Q E s:=by
 refine IE Ie Ig Ih (Ii _) ?_;unfold Builtin.«sorted»;refine ae (m:=checkCount "sorted" 1 1 _) (ag (ae (Cv hl (bc (ke cB) (by decide)) (ae (u7 ?_)))));have hsz:((s.heap.push (seqObj "list" #[] 0)).update s.heap.objs.size (Obj.mapSeq (·++vs.toArray))).objs.size=s.heap.objs.size+1:=by rw[V7,qg]
 have zw:(((s.heap.push (seqObj "list" #[] 0)).update s.heap.objs.size (Obj.mapSeq (·++vs.toArray))).push (seqObj "list" vs.toArray 0)).get? (s.heap.objs.size+1)=some (seqObj "list" vs.toArray 0):=by rw[<-hsz];exact aR _ rfl
 show wpAny _ _ _ _ _ { s with heap:=((s.heap.push (seqObj "list" #[] 0)).update s.heap.objs.size (Obj.mapSeq (·++vs.toArray))).push (seqObj "list" vs.toArray 0) };rw[hsz];exact ae (cn (dr Ij ⟨_,zw,rfl⟩ Ik (WK zw hI cB λout aW a1 a2 a3=>⟨_,rfl,ag ⟨_,rfl,h out aW a1 a2 a3⟩⟩) (Il _)))
end HT
namespace L2.DL
open PySem PySem.Spec PyProof.Rows
noncomputable def sortI (ns:List Int):List Int:=ns.mergeSort λa b=>decide (a<=b)
theorem gf (ns:List Int):(sortI ns).Perm ns:=Wh ns _
theorem gq (ns:List Int):(sortI ns).Pairwise (·<=·):=by
 have h:=Wi (le:=λa b:Int=>decide (a<=b)) (λa b c h1 h2=>by simp at *;omega) (λa b=>by simp;omega) ns;exact h.imp λq=>by simpa using q
theorem ji {a b:List Int}(p:a.Perm b) (ha:a.Pairwise (·<=·)) (hb:b.Pairwise (·<=·)):a=b :=
 p.eq_of_pairwise (λx y _ _ h1 h2=>Int.le_antisymm h1 h2) ha hb
section
variable {a b : Expr} {es : List Expr} {mb mc : DE W} {p p2 : Pos}
def zZ (K:PySem.W.Frag) (vs:List V) (H:Hp) (Q:VK):Prop:=∃ (p:Addr) (ns:List Int),vs=[.ref p] /\ (bu K H p (ns.map V.int) \/ aV K H p (ns.map V.int)) /\ ns.length<64 /\ ∀ l,H l=none->Q (.ref l) (upd H l (.lst ((sortI ns).map V.int)))
theorem lH:∀ {us:List Value}{ns:List Int},IntsAre us ns->Vals (ns.map V.int) us
 |_,_,.nil=>.nil
 |_,_,.cons n t h=>.cons ⟨t,rfl⟩ (lH h)
theorem Jc:dA X (.builtin "sorted") (zZ X.K):=by
 intro pins s σ H xs us Q I rv h;obtain⟨p,ns,rfl,hp,cB,q⟩:=h;obtain⟨u,rfl,ru⟩:=Vals.one rv;cases ru;have fin:∀ (af:List Value) (out:Array Value) (aW:List Int),IntsAre out.toList aW->aW.Perm ns->aW.Pairwise (·<=·)->EP X pins σ Q (.ref (s.heap.objs.size+1)) { s with heap:=sortedAll s.heap af out }:=λaf out aW a1 a2 a3=>by
  obtain⟨k,he⟩:=WL s.heap af out;have e:aW=sortI ns:=ji (a2.trans (gf ns).symm) a3 (gq ns);subst e;have hf:H (s.heap.objs.size+1)=none:=I.ar.fresh (nI _);have ll:((sortI ns).map V.int).length<=sizeLine:=by
   rw[aF,(gf ns).length_eq];exact bc (ke cB) (by decide)
  refine⟨.ref (s.heap.objs.size+1),_,I.laid (t':=s.toks) (o:=.lst ((sortI ns).map V.int)) (λb ob q=>WM q) (nI _) ?_,rfl,q _ hf⟩;exact⟨ll,out.toList,k,lH a1,he⟩
 rcases hp with hp|hp
 ·obtain⟨af,r1,p1,z1⟩:=I.list hp;have hl:ns.length=af.length:=by have:=r1.length;simpa using this
  exact sorted_ints p1.isList (iY r1) (by omega) λout aW=>fin af out aW
 ·obtain⟨af,r1,p1,z1⟩:=I.tuple hp;have hl:ns.length=af.length:=by have:=r1.length;simpa using this
  exact HT.An p1 (iY r1) (by omega) λout aW=>fin af out aW
noncomputable def sW:List D->Option Res
 |[.lst l]=>(intsOf l).bind λns=>if ns.length<64 then some (.lst ((sortI ns).map D.int)) else none
 |[.tup l]=>(intsOf l).bind λns=>if ns.length<64 then some (.lst ((sortI ns).map D.int)) else none
 |_=>none
theorem j8 {F:Hp}:∀ (ns:List Int),av F (ns.map D.int) (ns.map V.int)
 |[]=>rfl
 |n::ns=>.cons rfl (j8 ns)
theorem abQ:dU (zZ K) sW:=by
 intro F H xs vs Q s sub rx e k;unfold sW at e;split at e
 ·rename_i l;obtain⟨v,t,rfl,⟨a,us,rfl,h1,h2⟩,rt⟩:=rx;cases (show t=[] from rt);cases e1:intsOf l with
  |none=>rw[e1]at e;cases e
  | some ns =>
    rw[e1]at e;simp only[a9]at e;split at e
    ·rename_i cB;cases e;have q1:=h2.ints e1;subst q1;exact⟨a,ns,rfl,.inl (.of h1),cB,λl hl=>k _ _ ⟨l,_,rfl,hl,rfl,j8 _⟩⟩
    ·cases e
 ·rename_i l;obtain⟨v,t,rfl,⟨a,us,rfl,h1,h2⟩,rt⟩:=rx;cases (show t=[] from rt);cases e1:intsOf l with
  |none=>rw[e1]at e;cases e
  | some ns =>
    rw[e1]at e;simp only[a9]at e;split at e
    ·rename_i cB;cases e;have q1:=h2.ints e1;subst q1;exact⟨a,ns,rfl,.inr (.of (sub _ _ h1)),cB,λl hl=>k _ _ ⟨l,_,rfl,hl,rfl,j8 _⟩⟩
    ·cases e
 ·cases e
noncomputable def eB (m:DE W) (k:DE W):DE W:=λenv bx=>fq (m env bx) λx bx1=>match x with
 | .b n=>(match bx1[n]? with
   | some (.lst _)=>fq (k env bx1) λy bx2=>(match y,bx2[n]? with
     |.d d,some (.lst l)=>if l.length<sizeLine then .val (.d .aq) (bx2.set n (.lst (l++[d]))) else .bad
     |_,_=>.bad)
   |_=>.bad)
 |_=>.bad
theorem TQ {Q:VK}(h:tD T Z (eB ma mb) σ H Q):zN X.K "list" X4 (tD T Z ma) (zF (tD T Z mb) zE) σ H Q:=by
 obtain⟨F,r,env,bx,R,h⟩:=h;refine⟨F,r,env,bx,R,End.bind h λx bx1 F1 r1 v H1 g1 R1 d1 h1=>?_⟩;cases x with
 |d _=>exact h1.elim
 |s _=>exact h1.elim
 |x _=>exact h1.elim
 |t _=>exact h1.elim
 |m _=>exact h1.elim
 | b n =>
   simp only at h1;obtain⟨a,rfl,ha⟩:=d1;obtain⟨c,hc,kc⟩:=R1.nV ha;rw[hc]at h1;cases c with
   |aN _=>exact h1.elim
   |dead=>exact h1.elim
   |dT _=>exact h1.elim
   | lst l0 =>
     obtain⟨_,xE,k0,_⟩:=kc;refine⟨.inl ⟨rfl,xE,bu.of k0⟩,?_⟩;refine⟨F1,r1,env,bx1,R1,End.bind h1 λy bx2 F2 r2 u H2 g2 R2 d2 h2=>?_⟩;obtain⟨t,et⟩:=g2.p;have xF:r2[n]?=some a:=by rw[<-et,dt (List.getElem?_eq_some_iff.mp ha).1];exact ha
     obtain⟨c2,e6,uB⟩:=R2.nV xF;rw[e6]at h2;cases y with
     |b _=>exact h2.elim
     |s _=>exact h2.elim
     |x _=>exact h2.elim
     |t _=>exact h2.elim
     |m _=>exact h2.elim
     | d dd =>
       cases c2 with
       |aN _=>exact h2.elim
       |dead=>exact h2.elim
       |dT _=>exact h2.elim
       | lst l =>
         simp only at h2;split at h2
         ·rename_i hz;obtain⟨hF,vs,k1,k2⟩:=uB;refine⟨a,vs,u,rfl,rfl,k1,by rw[<-k2.length];exact hz,?_⟩;exact h2 F2 r2 _ _ (.refl F2 r2) (R2.write xF hF ⟨hF,vs++[u],fI,k2.append (.cons d2 .nil)⟩) rfl
         ·exact h2.elim
end
end L2.DL
namespace L2
open PySem PySem.Spec PyProof.Rows
section
variable {κ : Type} [DecidableEq κ]
noncomputable def kB (ah:List (κ×V)) (k:κ):Option V:=(ah.find? λkv=>decide (kv.1=k)).map (·.2)
noncomputable def putK (ah:List (κ×V)) (k:κ) (v:V):List (κ×V):=
 if (ah.any λkv=>decide (kv.1=k))=true then ah.map (λkv=>if kv.1=k then (kv.1,v) else kv) else ah++[(k,v)]
theorem Ao {p:κ×V}{r:List (κ×V)}{k:κ}(e:p.1=k):kB (p::r) k=some p.2:=by simp[kB,vk,e]
theorem Ap {p:κ×V}{r:List (κ×V)}{k:κ}(e:¬ p.1=k):kB (p::r) k=kB r k:=by simp[kB,vk,e]
theorem Aq (k:κ):∀ ah:List (κ×V),(ah.any λkv=>decide (kv.1=k))=(kB ah k).isSome
 |[]=>rfl
 | p::r=>by
   rw[wK];by_cases e:p.1=k
   ·simp only[Ao e,decide_eq_true e,Bool.true_or,Option.isSome_some]
   ·rw[Ap e,decide_eq_false e,Bool.false_or];exact Aq k r
theorem Cw (ah:List (κ×V)) (k:κ) (v:V):(putK ah k v).length<=ah.length+1:=by
 unfold putK;split
 ·rw[aF];omega
 ·rw[cb,bA,kF];omega
theorem vD.abR {o:Option V}{u:Option Value}(r:vD o u):o.isSome=u.isSome:=by
 cases o with
 | none=>cases u with
   |none=>rfl
   |some _=>exact(show False from r).elim
 | some _=>cases u with
   |none=>exact(show False from r).elim
   |some _=>rfl
end
theorem TR {k:Key}(r:RelV (kV k) u):(eM P w).is k u=true:=by
 cases k with
 |inl i=>obtain⟨t,e⟩:=(show ∃ t,u=Value.int i t from r);subst e;exact Ci P w i t
 |inr x=>obtain⟨t,e⟩:=(show ∃ t,u=Value.str x t from r);subst e;exact Cj P w x t
theorem Bh {P:Program}{w:World}:∀ {ks:List Key}{us:List Value},Vals (ks.map kV) us->ItemsAre (eM P w) ks us
 |[],_,r=>by rw[vh]at r;cases r;exact .nil
 | k::ks,_,r=>by
   rw[aS]at r;cases r with
   |cons h t=>exact .cons (TR h) (Bh t)
abbrev KT (H:Hp):List (List Key×V)->List (List Key×Addr×Value)->Prop:=Paired λp q=>p.1=q.1 /\ H q.2.1=some (.tup (p.1.map kV)) /\ RelV p.2 q.2.2
theorem KT.val (r:KT H ah xs) (k:List Key):vD (kB ah k) ((atKey xs k).map (·.2)):=by
 induction r with
 |nil=>exact True.intro
 | @cons p q ps qs h t ih =>
   obtain⟨h1,_,h2⟩:=h;by_cases e:p.1=k
   ·have e':q.1=k:=h1.symm.trans e;have b:atKey (q::qs) k=some q.2:=by simp[atKey,vk,e']
    rw[Ao e,b];exact h2
   ·have e':¬ q.1=k:=λz=>e (h1.trans z);have b:atKey (q::qs) k=atKey qs k:=by simp[atKey,vk,e']
    rw[Ap e,b];exact ih
theorem KT.abS (r:KT H ah xs) (k:List Key) {y:V}(ry:RelV y u) :
 KT H (ah.map λkv=>if kv.1=k then (kv.1,y) else kv) (xs.map (putAt k u)):=by
 induction r with
 |nil=>exact .nil
 | @cons p q ps qs h t ih =>
   rw[aS,aS];refine .cons ?_ ih;obtain⟨h1,h2,h3⟩:=h;unfold putAt;by_cases e:p.1=k
   ·rw[if_pos e,if_pos (h1.symm.trans e)];exact⟨h1,h2,ry⟩
   ·rw[if_neg e,if_neg (λz=>e (h1.trans z))];exact⟨h1,h2,h3⟩
theorem KT.put (r:KT H ah xs) (k:List Key) {b:Addr}{y:V}(hb:H b=some (.tup (k.map kV))) (ry:RelV y u) :
 KT H (putK ah k y) (storedH xs k b u):=by
 have e:(ah.any λkv=>decide (kv.1=k))=(atKey xs k).isSome:=by
  rw[Aq,(r.val k).abR,Option.isSome_map]
 unfold putK storedH;rw[e];by_cases q:(atKey xs k).isSome=true
 ·rw[if_pos q,if_pos q];exact r.abS k ry
 ·rw[if_neg q,if_neg q];exact Paired.snoc r ⟨rfl,hb,ry⟩
theorem KT.keeps (r:KT H ah xs) (ht:∀ b ys,H b=some (.tup ys)->H' b=some (.tup ys)):KT H' ah xs :=
 Paired.IP r λ_ _ z=>⟨z.1,ht _ _ z.2.1,z.2.2⟩
theorem Pz {u:HO}(ok:bV P w H h) (e:Rd H a u):br P w H h a u:=e.ok ok
theorem TU {ah:List (Key×V)}(ok:bV P w H h) (e:Rd H a (.dK ah)):ah.length<=sizeLine /\ (a==sysModules)=false /\ ∃ vs,KV ah vs /\ h.DictOf (eM P w) a vs :=
 show br P w H h a (.dK ah) from Pz ok e
theorem LG {ks:List Key}(ok:bV P w H h) (e:H a=some (.tup (ks.map kV))):(tupleKind (eM P w)).is h ks a:=by
 obtain⟨_,af,r,o,h1,h2,n,h3⟩:=(show br P w H h a (.tup (ks.map kV)) from ok a _ e);exact⟨o,af.toArray,n,h1,h2,h3,by simpa using Bh r⟩
theorem PB (ok:bV P w H h) (e:Rd H a (.dT ah)):ah.length<=sizeLine /\ (a==sysModules)=false /\
 ∃ xs,KT H ah xs /\ h.DictOfH (tupleKind (eM P w)) a xs:=by
 obtain⟨z,y,xs,r,o,es,ep,h1,h2,h3,h4,h5⟩:=(show br P w H h a (.dT ah) from Pz ok e);refine⟨z,y,xs,r,o,es,ep,h1,h2,h3,h4,λx hx=>?_,h5⟩;have all:∀ {l:List (List Key×V)}{m:List (List Key×Addr×Value)},KT H l m->∀ x∈m,(tupleKind (eM P w)).is h x.1 x.2.1:=by
  intro l m q;induction q with
  |nil=>intro x hx;exact nomatch hx
  | @cons p q ps qs hq t ih =>
    intro x hx;rcases aP.mp hx with e|hx
    ·subst e;exact LG ok (by rw[<-hq.1];exact hq.2.1)
    ·exact ih x hx
 exact all r x hx
theorem PC (ok:bV P w H h) (e:H a=some (.dT ah)):ah.length<=sizeLine /\ (a==sysModules)=false /\
 ∃ xs,KT H ah xs /\ h.DictOfH (tupleKind (eM P w)) a xs:=PB ok (.inl e)
section
variable {y : V} {r : Value} {o : Option V} 
theorem Inv.big (I:Inv X pins σ H s):sysModules<s.heap.objs.size:=by
 have h:mainGlobals<s.heap.objs.size:=(I.mod.glob.keeps I.bk).lt;exact yN (by decide) h
theorem N6 {ob:HO}(I:Inv X pins σ H s) (mu:wX (H a)) (hs:Heap.SameBut a s.heap h') (he:∃ q,h'.get? a=some q) (new:br X.prog X.w (upd H a ob) h' a ob) :
 Inv X pins σ (upd H a ob) { s with heap:=h',toks:=t' } :=
 I.write (x:=a) (e:=a) mu (.inl rfl) (λb q hb z=>(hs.2 b hb).trans z) he new
end
section
variable {ah : List (Key × V)} {k : Key} 
end
section
variable {o i value : Expr} {pos' XJ : Pos} {td ty tv : TE}
end
theorem LH (h:Heap) (hb:sysModules<h.objs.size):br P w H (h.push { cls:=.type "dict",data:=.dict #[] }) h.objs.size (.dT []):=
 ⟨cT _,beq_eq_false_iff_ne.mpr (Ne.symm (bL hb)),[],.nil,_,#[],0,aR _ rfl,⟨rfl,rfl,rfl⟩,rfl,rfl,Wj⟩
def abT:TE:=λ_ H Q=>∀ p,H p=none->Q (.ref p) (upd H p (.dT []))
theorem LI:PE X (.Dict [] [] pos) abT:=λpins s σ H Q I h =>
 wpAny_Dict_empty ⟨.ref s.heap.objs.size,_,I.laid (a:=s.heap.objs.size) (o:=.dT []) (t':=s.toks) (λ_ _ q=>aC _ q) (ak _) (LH s.heap I.big),rfl,h _ (I.ar.fresh (ak _))⟩
structure M2 (X:Cx) (o:Expr) (m:Str) (apos:Pos) (e f:Expr) (bf:Pos):Prop where
 base:attributeBase o m X.env (eval o X.env)=eval o X.env
 abU:((backTo bf (starEach [e,f] X.env)).all (λx=>!x.1)&&(backToKw bf (keywordEach [] X.env)).all (λx=>x.1.isSome)
  && decide (([e,f]:List Expr).length+([]:List Keyword).length+(if ([]:List Keyword).isEmpty then 0 else 1)<30))=true
 line:(apos.endLine==bf.line)=true
 trees:backTo bf (starEach [e,f] X.env)=[(false,eval e X.env),(false,eval f X.env)]
def Yx (H:Hp) (a:Addr):Prop:=(∃ ah,Rd H a (.dK ah)) \/ ∃ ah,Rd H a (.dT ah)
theorem LJ (I:Inv X pins σ H s) (d:Yx H a) :
 s.TypeIs (.ref a) "dict" /\ (∀ b,Value.ref a=.ref b->∃ ob,s.heap.get? b=some ob /\ ob.dict=none) /\ (a==sysModules)=false:=by
 rcases d with⟨ah,e⟩|⟨ah,e⟩
 ·obtain⟨_,hd,vs,_,dd⟩:=TU I.ar e;refine⟨dd.typeIs,λb q=>?_,hd⟩;cases q;obtain⟨ob,_,_,h1,h2,_⟩:=dd;exact⟨ob,h1,h2.2.1⟩
 ·obtain⟨_,hd,xs,_,dd⟩:=PB I.ar e;refine⟨dd.typeIs,λb q=>?_,hd⟩;cases q;obtain⟨ob,_,_,h1,h2,_⟩:=dd;exact⟨ob,h1,h2.2.1⟩
section
variable {y d : V} {r : Value} {o : Option V} 
end
section
variable {o f : Expr} {bf : Pos} {td ty tx : TE}
end
section
variable {ah : List (Key × V)} 
end
section
variable {y : V} 
end
end L2
namespace L2.DL
open PySem PySem.Spec PyProof.Rows
noncomputable def kR:Key->PyData
 |.inl i=>.int i
 |.inr x=>.str x
mutual
noncomputable def toPy:D->PyData
 |.aq=>.none
 |.bl b=>.bool b
 |.int i=>.int i
 |.str x=>.str x
 |.tup l=>.tuple (a8 l)
 |.lst l=>.list (a8 l)
 |.aN l=>.dict (bB l)
noncomputable def a8:List D->List PyData
 |[]=>[]
 |d::l=>toPy d::a8 l
noncomputable def bB:List (Key×D)->List (PyData×PyData)
 |[]=>[]
 |(k,d)::l=>(kR k,toPy d)::bB l
end
theorem oa {h:Heap}:∀ {es:List DictEntry}{vs:List (Key×Value)}{l:List (Key×D)}{ah:List (Key×V)},PySem.Pairs (eM X.prog X.w) es vs->KV ah vs->c9 F l ah->ReadsAll h (es.map (·.key)) ((bB l).map (·.1)) []
 | _,_,[],_,p,k,d=>by
   cases (show _=[] from d);cases k;cases p;exact .nil
 | _,_,(k,x)::l,_,p,q,d=>by
   obtain⟨v,r,e,_,d2⟩:=d;subst e;cases q with
   | cons q1 q2 =>
     cases p with
     | @cons de _ _ _ p1 p2 p3 =>
       have ih:=oa (h:=h) p3 q2 d2;have e1:=q1.1;simp only at e1;rw[<-e1]at p1;have hk:Reads h de.key (kR k) []:=by
        rcases fX (show qU k de.key=true from p1) with⟨i,t,e2,e3⟩|⟨y,t,e2,e3⟩
        ·rw[e2,e3];exact .int i t
        ·rw[e2,e3];exact .str y t
       exact ReadsAll.cons hk ih
mutual
theorem f8 (I:Inv X pins σ H s) (sub:Sub F H):∀ {d:D}{v:V}{u:Value},Den F d v->RelV v u->∃ as,Reads s.heap u (toPy d) as
 |.aq,_,_,h,r=>by cases (show _=V.aq from h);cases r;exact⟨[],.none⟩
 |.bl b,_,_,h,r=>by cases (show _=V.bl b from h);cases r;exact⟨[],.bool b⟩
 |.int i,_,_,h,r=>by cases (show _=V.int i from h);obtain⟨t,rfl⟩:=r;exact⟨[],.int i t⟩
 |.str x,_,_,h,r=>by cases (show _=V.str x from h);obtain⟨t,rfl⟩:=r;exact⟨[],.str x t⟩
 | .tup l,_,_,h,r=>by
   obtain⟨a,vs,rfl,h1,h2⟩:=h;cases r;obtain⟨_,af,rv,ob,e1,e2,n,e3⟩:=(show br X.prog X.w H s.heap a (.tup vs) from I.ar a _ (sub _ _ h1));obtain⟨as,ra⟩:=jL I sub h2 rv;exact⟨as,.tuple e1 e2 e3 (by simpa using ra)⟩
 | .lst l,_,_,h,r=>by
   obtain⟨a,vs,rfl,h1,h2⟩:=h;cases r;obtain⟨_,af,n,rv,e1⟩:=(show br X.prog X.w H s.heap a (.lst vs) from I.ar a _ (sub _ _ h1));obtain⟨as,ra⟩:=jL I sub h2 rv;exact⟨a::as,.list e1 rfl rfl (by simpa using ra)⟩
 | .aN l,_,_,h,r=>by
   obtain⟨a,ah,rfl,h1,h2⟩:=h;cases r;obtain⟨_,_,vs,rk,ob,es,ep,e1,e2,e3,_,pr,_⟩:=(show br X.prog X.w H s.heap a (.dK ah) from I.ar a _ (sub _ _ h1));obtain⟨as,ra⟩:=l6 I sub h2 rk pr;exact⟨a::[]++as,.dict e1 e2.1 e3 (oa (X:=X) pr rk h2) ra⟩
theorem jL (I:Inv X pins σ H s) (sub:Sub F H):∀ {l:List D}{vs:List V}{us:List Value},av F l vs->Vals vs us->∃ as,ReadsAll s.heap us (a8 l) as
 |[],_,_,h,r=>by cases (show _=[] from h);cases r;exact⟨[],.nil⟩
 | d::l,_,_,h,r=>by
   obtain⟨v,t,e,h1,h2⟩:=h;subst e;cases r with
   | cons r1 r2 =>
     obtain⟨as,ra⟩:=f8 I sub h1 r1;obtain⟨bs,rb⟩:=jL I sub h2 r2;exact⟨as++bs,.cons ra rb⟩
theorem l6 (I:Inv X pins σ H s) (sub:Sub F H):∀ {l:List (Key×D)}{ah:List (Key×V)}{vs:List (Key×Value)}{es:List DictEntry},c9 F l ah->KV ah vs->PySem.Pairs (eM X.prog X.w) es vs->∃ as,ReadsAll s.heap (es.map (·.val)) ((bB l).map (·.2)) as
 |[],_,_,_,h,r,p=>by cases (show _=[] from h);cases r;cases p;exact⟨[],.nil⟩
 | (k,d)::l,_,_,_,h,r,p=>by
   obtain⟨v,t,e,h1,h2⟩:=h;subst e;cases r with
   | cons r1 r2 =>
     cases p with
     | cons p1 p2 p3 =>
       obtain⟨as,ra⟩:=f8 I sub h1 r1.2;obtain⟨bs,rb⟩:=l6 I sub h2 r2 p3;rw[<-p2]at ra;exact⟨as++bs,.cons ra rb⟩
end
abbrev xG (ts:List Str):Prop:=∀ t∈ts,t.length<=sizeLine
theorem LK {k:Key}{y:Value}(e:qU k y=true) (hs:(kR k).showable=true) (hz:(kR k).shown.length<=sizeLine) (n:Nat):ReprK X.prog X.w [] h n y (kR k).shown:=by
 rcases fX e with⟨i,t,e2,e3⟩|⟨x,t,e2,e3⟩
 ·subst e2;subst e3;exact .of_is (ReprIs.int t (by simpa[kR,PyData.showable] using hs)) _ _ _
 ·subst e2;subst e3;exact .of_is (ReprIs.str x t (by simpa only[kR,PyData.shown] using hz)) _ _ _
theorem og {h:Heap}{n:Nat}:∀ {es:List DictEntry}{vs:List (Key×Value)}{l:List (Key×D)}{ah:List (Key×V)},PySem.Pairs (eM X.prog X.w) es vs->KV ah vs->c9 F l ah->PyData.showableKv (bB l)=true->xG (PyData.shownKv (bB l)) ->
 ReprAllK X.prog X.w [] h n (es.map (·.key)) (PyData.shownAll ((bB l).map (·.1)))
 | _,_,[],_,p,k,d,_,_=>by
   cases (show _=[] from d);cases k;cases p;exact .nil
 | _,_,(k,x)::l,_,p,q,d,hs,hz=>by
   obtain⟨v,r,e,_,d2⟩:=d;subst e;simp only[bB,PyData.showableKv,aA]at hs;simp only[bB,PyData.shownKv]at hz;have z1:=hz _ (bQ ..);rw[k9,k9]at z1;cases q with
   | cons q1 q2 =>
     cases p with
     | @cons de _ _ _ p1 p2 p3 =>
       have e1:=q1.1;simp only at e1;rw[<-e1]at p1;simp only[bB,aS,PyData.shownAll];exact .cons (LK (show qU k de.key=true from p1) hs.1.1 (by omega) n) (og p3 q2 d2 hs.2 λt m=>hz t (bF _ m))
mutual
theorem Cz (I:Inv X pins σ H s) (sub:Sub F H):∀ {d:D}{v:V}{u:Value},Den F d v->RelV v u->(toPy d).showable=true->(toPy d).shown.length<=sizeLine->∃ bs,ReadAtMost s.heap (toPy d).depth bs /\ ReprK X.prog X.w bs s.heap (toPy d).depth u (toPy d).shown
 |.aq,_,_,h,r,_,_=>by cases (show _=V.aq from h);cases r;exact⟨[],(λ_ z=>nomatch z),.of_is ReprIs.none _ _ _⟩
 |.bl b,_,_,h,r,_,_=>by cases (show _=V.bl b from h);cases r;exact⟨[],(λ_ z=>nomatch z),.of_is (ReprIs.bool b) _ _ _⟩
 |.int i,_,_,h,r,hs,_=>by cases (show _=V.int i from h);obtain⟨t,rfl⟩:=r;exact⟨[],(λ_ z=>nomatch z),.of_is (ReprIs.int t (of_decide_eq_true hs)) _ _ _⟩
 |.str x,_,_,h,r,_,hz=>by cases (show _=V.str x from h);obtain⟨t,rfl⟩:=r;exact⟨[],(λ_ z=>nomatch z),.of_is (ReprIs.str x t hz) _ _ _⟩
 | .tup l,_,_,h,r,hs,hz=>by
   obtain⟨as,rd⟩:=f8 I sub h r;obtain⟨a,vs,rfl,h1,h2⟩:=h;cases r;obtain⟨_,af,rv,ob,e1,e2,n,e3⟩:=(show br X.prog X.w H s.heap a (.tup vs) from I.ar a _ (sub _ _ h1));have kC:(tupleText (PyData.shownAll (a8 l))).length<=sizeLine:=by simpa only[toPy,PyData.shown] using hz
   obtain⟨bs,hb,hk⟩:=jB I sub h2 rv (by simpa[toPy,PyData.showable] using hs) λt m=>bc (VI m) kC;simp only[toPy,PyData.depth,PyData.shown]at rd ⊢;exact⟨a::bs,ReadAtMost.cons rd (nI _) hb,ReprK.tuple e1 e2 e3 (u9 rd (eJ _) hb) (by simpa using hk)⟩
 | .lst l,_,_,h,r,hs,hz=>by
   obtain⟨as,rd⟩:=f8 I sub h r;obtain⟨a,vs,rfl,h1,h2⟩:=h;cases r;obtain⟨_,af,n,rv,e1⟩:=(show br X.prog X.w H s.heap a (.lst vs) from I.ar a _ (sub _ _ h1));have kC:(listText (PyData.shownAll (a8 l))).length<=sizeLine:=by simpa only[toPy,PyData.shown] using hz
   obtain⟨bs,hb,hk⟩:=jB I sub h2 rv (by simpa[toPy,PyData.showable] using hs) λt m=>bc (VJ m) kC;simp only[toPy,PyData.depth,PyData.shown]at rd ⊢;refine⟨a::bs,ReadAtMost.cons rd (nI _) hb,?_⟩;cases af with
   | nil =>
     have e:a8 l=[]:=by
      cases l with
      |nil=>rfl
      |cons x l=>obtain⟨v,t,e,_⟩:=h2;subst e;cases rv
     rw[e];simp only[PyData.shownAll,VL];exact ReprK.listEmpty e1 rfl rfl
   |cons x af=>exact ReprK.list e1 rfl rfl (u9 rd (eJ _) hb) (by simpa using hk.length_eq) λi y q=>hk.item i y (by simpa using q)
 | .aN l,_,_,h,r,hs,hz=>by
   obtain⟨as,rd⟩:=f8 I sub h r;obtain⟨a,ah,rfl,h1,h2⟩:=h;cases r;obtain⟨_,hy,vs,rk,ob,es,ep,e1,e2,e3,_,pr,_⟩:=(show br X.prog X.w H s.heap a (.dK ah) from I.ar a _ (sub _ _ h1));have kC:(dictText (PyData.shownKv (bB l))).length<=sizeLine:=by simpa only[toPy,PyData.shown] using hz
   have fit:xG (PyData.shownKv (bB l)):=λt m=>bc (VM m) kC;have xH:PyData.showableKv (bB l)=true:=by simpa[toPy,PyData.showable] using hs
   obtain⟨bs,hb,hk⟩:=oh I sub h2 rk pr xH fit;have hK:=og (X:=X) (h:=s.heap) (n:=PyData.depthKv (bB l)) pr rk h2 xH fit;simp only[toPy,PyData.depth,PyData.shown]at rd ⊢;rw[IK];exact⟨a::bs,ReadAtMost.cons rd (nI _) hb,ReprK.dict e1 e2.1 e3 hy (u9 rd (eJ _) hb) (Xl _ _ _ (hK.more_le (λ_ z=>by cases z) (ak _)) hk)⟩
theorem jB (I:Inv X pins σ H s) (sub:Sub F H):∀ {l:List D}{vs:List V}{us:List Value},av F l vs->Vals vs us->PyData.showableAll (a8 l)=true->xG (PyData.shownAll (a8 l))->∃ bs,ReadAtMost s.heap (PyData.depthAll (a8 l)) bs /\ ReprAllK X.prog X.w bs s.heap (PyData.depthAll (a8 l)) us (PyData.shownAll (a8 l))
 |[],_,_,h,r,_,_=>by cases (show _=[] from h);cases r;exact⟨[],(λ_ z=>nomatch z),.nil⟩
 | d::l,_,_,h,r,hs,hz=>by
   obtain⟨v,t,e,h1,h2⟩:=h;subst e;simp only[a8,PyData.showableAll,aA]at hs;simp only[a8,PyData.shownAll]at hz;cases r with
   | cons r1 r2 =>
     obtain⟨as,ha,ka⟩:=Cz I sub h1 r1 hs.1 (hz _ (bQ ..));obtain⟨bs,hb,kb⟩:=jB I sub h2 r2 hs.2 λt m=>hz t (bF _ m);simp only[a8,PyData.depthAll,PyData.shownAll];have la:=Nat.le_max_left (toPy d).depth (PyData.depthAll (a8 l));have lb:=Nat.le_max_right (toPy d).depth (PyData.depthAll (a8 l));exact⟨as++bs,(ha.mono la).append (hb.mono lb),.cons ((ka.more λ_ m=>cH _ m).level_le la) (kb.more_le (λ_ m=>bG _ m) lb)⟩
theorem oh (I:Inv X pins σ H s) (sub:Sub F H):∀ {l:List (Key×D)}{ah:List (Key×V)}{vs:List (Key×Value)}{es:List DictEntry},c9 F l ah->KV ah vs->PySem.Pairs (eM X.prog X.w) es vs->PyData.showableKv (bB l)=true->xG (PyData.shownKv (bB l)) ->
 ∃ bs,ReadAtMost s.heap (PyData.depthKv (bB l)) bs /\ ReprAllK X.prog X.w bs s.heap (PyData.depthKv (bB l)) (es.map (·.val)) (PyData.shownAll ((bB l).map (·.2)))
 |[],_,_,_,h,r,p,_,_=>by cases (show _=[] from h);cases r;cases p;exact⟨[],(λ_ z=>nomatch z),.nil⟩
 | (k,d)::l,_,_,_,h,r,p,hs,hz=>by
   obtain⟨v,t,e,h1,h2⟩:=h;subst e;simp only[bB,PyData.showableKv,aA]at hs;simp only[bB,PyData.shownKv]at hz;have z1:=hz _ (bQ ..);rw[k9,k9]at z1;cases r with
   | cons r1 r2 =>
     cases p with
     | cons p1 p2 p3 =>
       obtain⟨as,ha,ka⟩:=Cz I sub h1 r1.2 hs.1.2 (by omega);obtain⟨bs,hb,kb⟩:=oh I sub h2 r2 p3 hs.2 λt m=>hz t (bF _ m);rw[<-p2]at ka;simp only[bB,PyData.depthKv,aS,PyData.shownAll];have la:(toPy d).depth<=max (max (kR k).depth (toPy d).depth) (PyData.depthKv (bB l)):=by omega
       have lb:PyData.depthKv (bB l)<=max (max (kR k).depth (toPy d).depth) (PyData.depthKv (bB l)):=by omega
       exact⟨as++bs,(ha.mono la).append (hb.mono lb),.cons ((ka.more λ_ m=>cH _ m).level_le la) (kb.more_le (λ_ m=>bG _ m) lb)⟩
end
section
variable {a b : Expr} {es : List Expr} {mb mc : DE W} {p p2 : Pos}
def abV (vs:List V) (H:Hp) (Q:VK):Prop:=∃ (F:Hp) (d:D) (v:V),vs=[v] /\ Sub F H /\ Den F d v /\ (toPy d).showable=true /\ (toPy d).depth<=60 /\ (toPy d).shown.length<=sizeLine /\ Q (.str (toPy d).shown) H
theorem Jd (hr:cw k X.A):dA X (.builtin "repr") abV:=by
 intro pins s σ H xs us Q I rv h;obtain⟨F,d,v,rfl,sub,hd,h1,h2,h3,q⟩:=h;obtain⟨u,rfl,ru⟩:=Vals.one rv;have fin:∀ (t:Tok) (tk:Nat),EP X pins σ Q (.str (toPy d).shown t) { s with toks:=tk }:=λt tk=>⟨.str _,H,I.tok tk,⟨t,rfl⟩,q⟩;have Ea:∀ (t':Str),t'=(toPy d).shown->∀ h' u tk,(∀ b o,s.heap.get? b=some o->h'.get? b=some o)->∃ x t,Value.str t' u=.str x t /\ EP X pins σ Q (.str t' u) { s with heap:=h',toks:=tk }:=λt' et h' t tk hk=>by
  subst et;exact⟨_,_,rfl,.str _,H,I.kept (t':=tk) hk,⟨t,rfl⟩,q⟩
 have hu:=hr.units;cases d with
 |aq=>cases (show v=.aq from hd);cases ru;exact P.repr_of_none (fin _ _)
 |bl b=>cases (show v=.bl b from hd);cases ru;exact P.repr_of_bool (fin _ _)
 |int i=>cases (show v=.int i from hd);obtain⟨t,rfl⟩:=ru;exact P.repr_of_int (of_decide_eq_true h1) (fin _ _)
 |str x=>cases (show v=.str x from hd);obtain⟨t,rfl⟩:=ru;exact P.repr_of_str (hsz:=h3) (fin _ _)
 | tup l =>
   obtain⟨as,rd⟩:=f8 I sub hd ru;obtain⟨a,vs,rfl,k1,k2⟩:=hd;cases ru;obtain⟨_,af,rv,ob,e1,e2,n,e3⟩:=(show br X.prog X.w H s.heap a (.tup vs) from I.ar a _ (sub _ _ k1));have kC:(tupleText (PyData.shownAll (a8 l))).length<=sizeLine:=by simpa only[toPy,PyData.shown] using h3
   obtain⟨bs,hb,hk⟩:=jB I sub k2 rv (by simpa[toPy,PyData.showable] using h1) λt m=>bc (VI m) kC;simp only[toPy,PyData.depth]at rd h2;exact Hs (by omega) ⟨ob,e1,e2⟩ PySem.F.slot_tuple_repr (call_tuple_reprK e1 e2 e3 (u9 rd (eJ _) hb) (by simpa using hk) hr.gd (λb _=>Clear.nil b) (by show X.A.units+1+_<cLine;omega) (λ_ _ z=>z) (Ea _ (by simp only[toPy,PyData.shown])) kC)
 | lst l =>
   obtain⟨as,rd⟩:=f8 I sub hd ru;obtain⟨a,vs,rfl,k1,k2⟩:=hd;cases ru;obtain⟨_,af,n,rv,e1⟩:=(show br X.prog X.w H s.heap a (.lst vs) from I.ar a _ (sub _ _ k1));have kC:(listText (PyData.shownAll (a8 l))).length<=sizeLine:=by simpa only[toPy,PyData.shown] using h3
   obtain⟨bs,hb,hk⟩:=jB I sub k2 rv (by simpa[toPy,PyData.showable] using h1) λt m=>bc (VJ m) kC;simp only[toPy,PyData.depth]at rd h2;refine Hs (by omega) ⟨_,e1,rfl⟩ PySem.F.slot_list_repr.toG ?_;cases af with
   | nil =>
     have e:a8 l=[]:=by
      cases l with
      |nil=>rfl
      |cons x l=>obtain⟨v,t,e,_⟩:=k2;subst e;cases rv
     exact call_list_repr_empty ⟨_,e1,rfl⟩ e1 rfl (Ea "[]" (by simp only[toPy,PyData.shown,e,PyData.shownAll,VL]) s.heap _ _ λ_ _ z=>z)
   |cons x af=>exact call_list_reprK e1 rfl rfl (u9 rd (eJ _) hb) (by simpa using hk.length_eq) (λi y q=>hk.item i y (by simpa using q)) hr.gd (λb _=>Clear.nil b) (by show X.A.units+1+_<cLine;omega) (λ_ _ z=>z) (Ea _ (by simp only[toPy,PyData.shown])) kC
 | aN l =>
   obtain⟨as,rd⟩:=f8 I sub hd ru;obtain⟨a,ah,rfl,k1,k2⟩:=hd;cases ru;obtain⟨_,hy,vs,rk,ob,es,ep,e1,e2,e3,_,pr,_⟩:=(show br X.prog X.w H s.heap a (.dK ah) from I.ar a _ (sub _ _ k1));have kC:(dictText (PyData.shownKv (bB l))).length<=sizeLine:=by simpa only[toPy,PyData.shown] using h3
   have fit:xG (PyData.shownKv (bB l)):=λt m=>bc (VM m) kC;have xH:PyData.showableKv (bB l)=true:=by simpa[toPy,PyData.showable] using h1
   obtain⟨bs,hb,hk⟩:=oh I sub k2 rk pr xH fit;have hK:=og (X:=X) (h:=s.heap) (n:=PyData.depthKv (bB l)) pr rk k2 xH fit;simp only[toPy,PyData.depth]at rd h2;rw[IK]at kC;exact Hs (by omega) ⟨ob,e1,e2.1⟩ PySem.F.slot_dict_repr (call_dict_reprK e1 e2.1 e3 hy (u9 rd (eJ _) hb) (Xl _ _ _ (hK.more_le (λ_ z=>by cases z) (ak _)) hk) hr.gd (λb _=>Clear.nil b) (by show X.A.units+1+_<cLine;omega) (λ_ _ z=>z) (Ea _ (by simp only[toPy,PyData.shown,IK])) kC)
noncomputable def vT (d:D):Bool:=(toPy d).showable&&decide ((toPy d).depth<=60)&&decide ((toPy d).shown.length<=sizeLine)
noncomputable def sX (m:DE W):DE W:=λenv bx=>fq (m env bx) λw bx1=>match w with
 |.d d=>if vT d=true then .val (.d (.str (toPy d).shown)) bx1 else .bad
 |_=>.bad
theorem N7 (hr:cw k X.A) (hg:Gl X "repr") (hm:X.mg "repr"=none) (ha:PD X T Z a ma) (he:starEach [a] X.env=(false,eval a X.env)::starEach [] X.env:=by rfl) :
 PD X T Z (.Call (.Name "repr" p) [a] [] pos) (sX ma):=by
 refine PE.imp (jz (Jd hr) hg hm (by decide +kernel) (g9 ha jG he) (by decide) (by decide) he (by rfl)) λσ H Q ⟨F,r,env,bx,R,h⟩=>?_;refine⟨F,r,env,bx,R,End.bind h λw bx1 F1 r1 v H1 g1 R1 d1 h1=>?_⟩;cases w with
 |b _=>exact h1.elim
 |s _=>exact h1.elim
 |x _=>exact h1.elim
 |t _=>exact h1.elim
 |m _=>exact h1.elim
 | d d =>
   simp only at h1;split at h1
   ·rename_i hc;unfold vT at hc;rw[aA,aA]at hc;exact⟨F1,d,v,rfl,R1.fh,d1,hc.1.1,of_decide_eq_true hc.1.2,of_decide_eq_true hc.2,h1 F1 r1 _ H1 (.refl F1 r1) R1 rfl⟩
   ·exact h1.elim
end
theorem gZ (I:Inv X pins σ H s) (sub:Sub F H) (h:kL F H d v) (r:RelV v u):∃ as,Reads s.heap u (toPy d) as:=by
 cases d with
 | lst l =>
   obtain⟨a,vs,rfl,h1,h2⟩:=h;cases r;obtain⟨_,af,n,rv,e1⟩:=(show br X.prog X.w H s.heap a (.lst vs) from I.ar a _ h1);obtain⟨as,ra⟩:=jL I sub h2 rv;exact⟨a::as,.list e1 rfl rfl (by simpa using ra)⟩
 | aN l =>
   obtain⟨a,ah,rfl,h1,h2⟩:=h;cases r;obtain⟨_,_,vs,rk,ob,es,ep,e1,e2,e3,_,pr,_⟩:=(show br X.prog X.w H s.heap a (.dK ah) from I.ar a _ h1);obtain⟨as,ra⟩:=l6 I sub h2 rk pr;exact⟨a::[]++as,.dict e1 e2.1 e3 (oa (X:=X) pr rk h2) ra⟩
 |tup l=>exact f8 (d:=.tup l) I sub h r
 |aq=>exact f8 (d:=.aq) I sub h r
 |bl b=>exact f8 (d:=.bl b) I sub h r
 |int i=>exact f8 (d:=.int i) I sub h r
 |str x=>exact f8 (d:=.str x) I sub h r
noncomputable def dh (d:D):Bool:=(toPy d).canLay0&&decide ((toPy d).depth<=60)
noncomputable def eqv (x y:D):Bool:=PyData.eqv (toPy x) (toPy y)
theorem j9 (h:dh d=true):(toPy d).canLay0=true /\ (toPy d).depth<=60:=by
 unfold dh at h
 rwa [aA,decide_eq_true_eq]at h
def uC (neg:Bool):R2:=λx y H Q=>∃ F dx dy,Sub F H /\ kL F H dx x /\ kL F H dy y /\ dh dx=true /\ dh dy=true /\ Q (.bl (if neg then !eqv dx dy else eqv dx dy)) H
theorem RZ (hu:X.A.units+100<cLine):aM X (compareOp .Eq) (uC false):=by
 intro pins s σ H x y v u Q I rx ry h;obtain⟨F,dx,dy,sub,hx,hy,ox,oy,q⟩:=h;obtain⟨as,ra⟩:=gZ I sub hx rx;obtain⟨bs,rb⟩:=gZ I sub hy ry;obtain⟨x1,x2⟩:=j9 ox;obtain⟨y1,y2⟩:=j9 oy;exact SeqAt.compareEq_reads ra rb x1 y1 (by omega) ⟨.bl _,H,I,rfl,q⟩
theorem R0 (hu:X.A.units+100<cLine):aM X (compareOp .NotEq) (uC true):=by
 intro pins s σ H x y v u Q I rx ry h;obtain⟨F,dx,dy,sub,hx,hy,ox,oy,q⟩:=h;obtain⟨as,ra⟩:=gZ I sub hx rx;obtain⟨bs,rb⟩:=gZ I sub hy ry;obtain⟨x1,x2⟩:=j9 ox;obtain⟨y1,y2⟩:=j9 oy;exact SeqAt.compareNe_reads ra rb x1 y1 (by omega) ⟨.bl _,H,I,rfl,q⟩
noncomputable def sY (neg:Bool) (x y:D):Option Res:=if dh x&&dh y then some (.old (.bl (if neg then !eqv x y else eqv x y))) else none
theorem Yy (neg:Bool):bO (uC neg) (sY neg):=by
 intro F H x y v w Q s sub rx ry e k;unfold sY at e;split at e
 ·rename_i c;rw[aA]at c;cases e;exact⟨F,x,y,sub,rx,ry,c.1,c.2,k _ _ ⟨rfl,rfl⟩⟩
 ·cases e
noncomputable def bI:D->D->Option Res
 |.int i,.int j=>some (.old (.bl (decide (i=j))))
 |x,y=>sY false x y
noncomputable def eC:D->D->Option Res
 |.int i,.int j=>some (.old (.bl (!decide (i=j))))
 |.str i,.str j=>some (.old (.bl (!decide (i=j))))
 |x,y=>sY true x y
theorem R6 (hu:X.A.units+100<cLine):aM X (compareOp .Eq) (λx y H Q=>Kd x y H Q \/ uC false x y H Q):=Tt.or (RZ hu)
theorem R7 (hu:X.A.units+100<cLine):aM X (compareOp .NotEq) (λx y H Q=>Ke x y H Q \/ uC true x y H Q):=Tu.or (R0 hu)
theorem abW:bO (λx y H Q=>Kd x y H Q \/ uC false x y H Q) bI:=by
 intro F H x y v w Q s sub rx ry e k;unfold bI at e;split at e
 ·rename_i i j;cases e;cases (show v=.int i from rx);cases (show w=.int j from ry);exact .inl ⟨rfl,k _ _ ⟨rfl,by show _=_;simp⟩⟩
 ·exact .inr (Yy false F H _ _ v w Q s sub rx ry e k)
theorem abX:bO (λx y H Q=>Ke x y H Q \/ uC true x y H Q) eC:=by
 intro F H x y v w Q s sub rx ry e k;unfold eC at e;split at e
 ·rename_i i j;cases e;cases (show v=.int i from rx);cases (show w=.int j from ry);exact .inl ⟨rfl,k _ _ ⟨rfl,by show _=_;simp⟩⟩
 ·rename_i i j;cases e;cases (show v=.str i from rx);cases (show w=.str j from ry);exact .inl ⟨rfl,k _ _ ⟨rfl,by show _=_;simp⟩⟩
 ·exact .inr (Yy true F H _ _ v w Q s sub rx ry e k)
end L2.DL
namespace HT
open PySem PySem.Spec PyProof.Rows
section
open PySem.SeqAt
open PySem.AutoSeq1 (wpAny_loadPart')
open PySem.MeetsSeq PySem.MeetsSeq2 PySem.MeetsSeq3
end
section
open PySem.AutoSeq1 (wpAny_loadPart')
end
end HT
namespace L2.DL
open PySem PySem.Spec PyProof.Rows
section
variable {a b : Expr} {es : List Expr} {mb mc : DE W} {p p2 : Pos}
theorem N8:aM X (binaryOp .Mult) (rI sC λi j=>.int (i*j)):=Rj
noncomputable def dX:D->D->Option Res:=λx y=>match x,y with|.int i,.int j=>if sC i j then some (.old (.int (i*j))) else none|_,_=>none
theorem av.rep {F:Hp}{l:List D}{vs:List V}(h:av F l vs):∀ k:Nat,av F (List.replicate k l).flatten (List.replicate k vs).flatten
 |0=>rfl
 | k+1=>by
   rw[za,za,zb,zb];exact h.append (h.rep k)
theorem abY:bO (rI sC λi j=>.int (i*j)) dX:=zW (g:=λi j=>.int (i*j)) λ_ _ _=>rfl
theorem R8 (hu:X.A.units<cLine):aM X (compareOp .LtE) (eN λi j=>.bl (decide (i<=j))):=Tw
noncomputable def cP:D->D->Option Res:=λx y=>match x,y with|.int i,.int j=>some (.old (.bl (decide (i<=j))))|_,_=>none
theorem abZ:bO (eN λi j=>.bl (decide (i<=j))) cP:=zX (g:=λi j=>.bl (decide (i<=j))) λ_ _ _=>rfl
theorem Je {o:Expr}(ho:PD X T Z o ma) (ha:PD X T Z e mb)
 (uf:attributeBase o "append" X.env (eval o X.env)=eval o X.env:=by rfl)
 (ug:((backTo pos (starEach [e] X.env)).all (λx=>!x.1)&&(backToKw pos (keywordEach [] X.env)).all (λx=>x.1.isSome)
  && decide ([e].length+([]:List Keyword).length+(if ([]:List Keyword).isEmpty then 0 else 1)<30))=true:=by rfl)
 (uh:(apos.endLine==pos.line)=true:=by rfl) (hs:starEach [e] X.env=(false,eval e X.env)::starEach [] X.env:=by rfl) :
 PD X T Z (.Call (.Attribute o "append" apos) [e] [] pos) (eB ma mb):=
 PE.imp (Lm II PySem.F.slot_list_append PySem.F.type_list_append m8 ho (g9 ha jG hs) uf ug uh hs (by rfl)) λσ H Q h=>TQ h
noncomputable def rK (mo mi:DE W):DG:=λw env bx=>match mo env bx with
 | .val (.b n) bx1=>(match mi env bx1 with
   | .val (.d (.int k)) bx2=>(match w,bx2[n]? with
     |.d d,some (.lst l)=>(cz l.length k).map λj=>(env,bx2.set n (.lst (l.set j d)))
     |_,_=>none)
   |_=>none)
 |_=>none
theorem N9 {o i:Expr}{mo mi:DE W}(ho:PD X T Z o mo) (hi:PD X T Z i mi)
 (ha:∀ v,assign (.Subscript o i pos) X.env v=(do
  let ov <-holding [v] (eval o X.env)
  let iv <-holding [v,ov] (eval i X.env)
  standAt pos
  holding [v,ov,iv] (setItem ov iv v)
  release [v,ov,iv] []):=by intro _;rfl):ez X T (.Subscript o i pos) (rK mo mi):=by
 refine PG.imp (Rc ho hi Lj ha) λv σ H Q ⟨F,r,env,bx,w,R,dw,h⟩=>?_;unfold rK at h;refine⟨F,r,env,bx,R,?_⟩;cases eo:mo env bx with
 |bad=>simp only[eo]at h;exact h.elim
 |exc c bx1=>simp only[eo]at h;exact h.elim
 | val ow bx1 =>
   simp only[eo]at h;intro F1 r1 ov H1 g1 R1 d1;cases ow with
   |d _=>exact h.elim
   |s _=>exact h.elim
   |x _=>exact h.elim
   |t _=>exact h.elim
   |m _=>exact h.elim
   | b n =>
     simp only at h;refine⟨F1,r1,env,bx1,R1,?_⟩;cases ei:mi env bx1 with
     |bad=>simp only[ei]at h;exact h.elim
     |exc c bx2=>simp only[ei]at h;exact h.elim
     | val iw bx2 =>
       simp only[ei]at h;intro F2 r2 iv H2 g2 R2 d2;cases iw with
       |b _=>exact h.elim
       |s _=>exact h.elim
       |x _=>exact h.elim
       |t _=>exact h.elim
       |m _=>exact h.elim
       | d id =>
         cases id with
         | int k =>
           simp only at h;obtain⟨a,rfl,ha⟩:=g2.den d1;obtain⟨c2,e6,uB⟩:=R2.nV ha;rw[e6]at h;cases w with
           |b _=>exact h.elim
           |s _=>exact h.elim
           |x _=>exact h.elim
           |t _=>exact h.elim
           |m _=>exact h.elim
           | d dd =>
             cases c2 with
             |aN _=>exact h.elim
             |dead=>exact h.elim
             |dT _=>exact h.elim
             | lst l =>
               simp only at h;cases ej:cz l.length k with
               |none=>rw[ej]at h;exact h.elim
               | some j =>
                 rw[ej]at h;obtain⟨hF,vs,k1,k2⟩:=uB;refine⟨a,vs,k,j,rfl,d2,k1,by rw[<-k2.length];exact ej,?_⟩;have ab0:Den F2 dd v:=Den.mono (g1.trans g2).s dd dw;exact h F2 r2 σ _ (g1.trans g2) (R2.write ha hF ⟨hF,_,fI,av.set ab0 j k2⟩)
         |_=>exact h.elim
noncomputable def ny (i:Nat):DE W:=λenv bx=>match env[i]? with
 | some (some (.b n))=>(match bx[n]? with
   |some (.lst l)=>.val (.d (.lst l)) (bx.set n .dead)
   |some (.aN l)=>.val (.d (.aN l)) (bx.set n .dead)
   |_=>.bad)
 |_=>.bad
theorem R9 (i:Nat) (hN:X.N[i]?=some x:=by rfl) (hv:vF X.env.scope x:=by first|exact Or.inl rfl|exact Or.inr (Or.inl rfl)|exact Or.inr (Or.inr rfl)) (hd:(x==("__debug__":Str))=false:=by decide)
 (nj:(x==("__classdict__":Str))=false:=by decide):PD X T Z (.Name x pos) (ny i):=by
 refine PE.imp (J0 hN hv hd nj) λσ H Q ⟨F,r,env,bx,R,h⟩=>?_;unfold ny at h;split at h
 ·rename_i n e;obtain⟨v,e1,a,rfl,ha⟩:=R.slot i _ e;obtain⟨c,hc,kc⟩:=R.nV ha;rw[hc]at h;cases c with
  |dead=>exact h.elim
  |dT _=>exact h.elim
  | lst l =>
    obtain⟨hF,vs,k1,k2⟩:=kc;obtain⟨R',g⟩:=R.freeze ha hF k1;exact⟨_,e1,h _ r _ H g R' ⟨a,vs,rfl,fI,av.mono g.s l k2⟩⟩
  | aN l =>
    obtain⟨hF,vs,k1,k2⟩:=kc;obtain⟨R',g⟩:=R.freeze ha hF k1;exact⟨_,e1,h _ r _ H g R' ⟨a,vs,rfl,fI,c9.mono g.s l k2⟩⟩
 ·exact h.elim
noncomputable def qD (m:DE W):DE W:=λenv bx=>fq (m env bx) λw bx1=>match w with|.s l=>.val (.d (.int l.length)) bx1|_=>.bad
theorem Oa (hg:Gl X "len") (hm:X.mg "len"=none) (ha:PD X T Z a ma) (he:starEach [a] X.env=(false,eval a X.env)::starEach [] X.env:=by rfl):PD X T Z (.Call (.Name "len" p) [a] [] pos) (qD ma):=by
 refine PE.imp (jz jH hg hm yG (g9 ha jG he) (by decide) (by decide) he (by rfl)) λσ H Q ⟨F,r,env,bx,R,h⟩=>?_;refine⟨F,r,env,bx,R,End.bind h λw bx1 F1 r1 v H1 g1 R1 d1 h1=>?_⟩;cases w with
 |b _=>exact h1.elim
 |d _=>exact h1.elim
 |x _=>exact h1.elim
 |t _=>exact h1.elim
 |m _=>exact h1.elim
 | s l =>
   obtain⟨q,o,rfl,k⟩:=d1;refine⟨q,_,rfl,.inl (.inl (.inr ⟨o,R1.fh _ _ k⟩)),?_⟩;rw[aF];exact h1 F1 r1 _ H1 (.refl F1 r1) R1 rfl
noncomputable def Eb (m k:DE W):DE W:=λenv bx=>fq (m env bx) λw bx1=>fq (k env bx1) λu bx2=>match w,u with
 |.s l,.d (.int i)=>(match aY l i with|some n=>.val (.d (.int n)) bx2|none=>.bad)
 |_,_=>.bad
theorem Sb (ha:PD X T Z a ma) (hb:PD X T Z b mb) (hs:zK b):PD X T Z (.Subscript a b pos) (Eb ma mb):=by
 refine PE.imp (Lh FH ha hb hs) λσ H Q ⟨F,r,env,bx,R,h⟩=>?_;refine⟨F,r,env,bx,R,End.bind h λw bx1 F1 r1 v H1 g1 R1 d1 h1=>?_⟩;refine⟨F1,r1,env,bx1,R1,End.bind h1 λu bx2 F2 r2 y H2 g2 R2 d2 h2=>?_⟩;cases w with
 |b _=>exact h2.elim
 |d _=>exact h2.elim
 |x _=>exact h2.elim
 |t _=>exact h2.elim
 |m _=>exact h2.elim
 | s l =>
   cases u with
   |b _=>exact h2.elim
   |s _=>exact h2.elim
   |x _=>exact h2.elim
   |t _=>exact h2.elim
   |m _=>exact h2.elim
   | d d =>
     cases d with
     | int i =>
       obtain⟨q,o,rfl,k⟩:=d1;simp only at h2;cases e:aY l i with
       |none=>rw[e]at h2;exact h2.elim
       | some n =>
         rw[e]at h2;refine⟨q,l.map V.int,i,.int n,rfl,d2,.inl (.inr ⟨o,R2.fh _ _ (g2.s _ _ k)⟩),?_,h2 F2 r2 _ H2 (.refl F2 r2) R2 rfl⟩;unfold aY at e ⊢;rw[aF];cases ej:cz l.length i with
         |none=>rw[ej]at e;cases e
         |some j=>rw[ej]at e;simp only[a9]at e ⊢;rw[kg,e];rfl
     |_=>exact h2.elim
end
end L2.DL
namespace HT
open PySem PySem.Spec PyProof.Rows
section
theorem DC {t:Addr}{x:Value}(hit:s.heap.IsTupleIter it t i) (ht:s.heap.IsTuple t items) (hx:items[i]?=some x)
 (hQ:∀ h',h'.IsTupleIter it t (i+1)->Heap.SameBut it s.heap h'->Q x { s with heap:=h' }):wpAny (model prog w) A (Builtin.SmallTypes.nextOf (.ref it)) Q E s:=by
 obtain⟨ob,pR,uj,pQ⟩:=id hit;obtain⟨ot,uD,_,nt,KO⟩:=ht;unfold Builtin.SmallTypes.nextOf;refine ae (pq (name:=Str.ofString "__next__") hit.typeIs zr (dr zr hit.typeIs WZ (show wpAny _ _ (field (.ref it) 0 >>= _) _ _ s from ae (eI pR pQ (x:=.ref t) rfl ?_)) (W0 _)))
 change wpAny _ _ (if (Value.ref t==Value.none)=true then _ else _) _ _ s;rw[if_neg (show ¬ ((Value.ref t==Value.none)=true) from b9)]
 change wpAny _ _ (field (.ref it) 1 >>= _) _ _ s
 refine ae (eI pR pQ (x:=.int i 0) rfl (show wpAny _ _ (seqItems? (.ref t) >>= _) _ _ s from ae (p7 uD KO ?_)));simp only[dQ,hx];refine ae (p8 pR pQ (by simp) (ag ⟨x,rfl,ag (hQ _ ⟨_,pw _ pR (vA (nN pQ _)),(wV ..).trans uj,?_⟩ (Heap.SameBut.update ..))⟩));rw[nN pQ];simp[rawInt]
theorem Jf {t:Addr}(hh:A.handled=none) (hit:s.heap.IsTupleIter it t i) (ht:s.heap.IsTuple t items) (hx:items[i]?=none)
 (hE:∀ h' e,Heap.ExtBut it s.heap h'->(∃ o,h'.get? e=some o /\ o.cls=.type "StopIteration")->E (.ref e) { s with heap:=h' }):wpAny (model prog w) A (Builtin.SmallTypes.nextOf (.ref it)) Q E s:=by
 obtain⟨ob,pR,uj,pQ⟩:=id hit;obtain⟨ot,uD,_,nt,KO⟩:=ht;unfold Builtin.SmallTypes.nextOf;refine ae (pq (name:=Str.ofString "__next__") hit.typeIs zr (dr zr hit.typeIs WZ (show wpAny _ _ (field (.ref it) 0 >>= _) _ _ s from ae (eI pR pQ (x:=.ref t) rfl ?_)) (W0 _)))
 change wpAny _ _ (if (Value.ref t==Value.none)=true then _ else _) _ _ s;rw[if_neg (show ¬ ((Value.ref t==Value.none)=true) from b9)]
 change wpAny _ _ (field (.ref it) 1 >>= _) _ _ s
 refine ae (eI pR pQ (x:=.int i 0) rfl (show wpAny _ _ (seqItems? (.ref t) >>= _) _ _ s from ae (p7 uD KO ?_)));simp only[dQ,hx];refine ae (h9 (ae (p8 pR pQ (by simp) (show wpAny _ _ (newExc (.type "StopIteration") [] >>= _) _ _ _ from ae ?_))));simp only[newExc,newTuple];refine ae (cS (ae (m:=firstArgMember _ _) (tR (a:=Value.none) (by first|rfl|(simp only[firstArgMember];rfl)) (cS ?_ (by size_fits)))) (by size_fits));simp only[raiseNew];refine ae (yH ?_);first|rw[show A.in1.handled=none from hh]|rw[hh]
 exact ae (ag (yI (hE _ _ (((Heap.SameBut.update ..).extBut.push _).push _) ⟨_,aR _ rfl,rfl⟩)))
theorem lI (hh:A.handled=none) (it l:Addr) (kS:l≠it) (items:Array Value) :
 Draws prog w A it [it,l] items.size (λi v=>items[i]?=some v) (λi h=>h.IsTupleIter it l i /\ h.IsTuple l items) where
 live:=λ_ _ st=>let ⟨o,ho,_⟩:=st.1;⟨o,ho⟩
 frame:=λ_ _ _ st hk=>⟨st.1.at λo e=>hk it (by simp) o e,st.2.at λo e=>hk l (by simp) o e⟩
 item:=λi s Q E hi st hQ=>DC st.1 st.2 (x:=items[i]) (by simp[hi]) λh' a b=>hQ _ h' s.toks (by simp[hi]) ⟨a,st.2.at λo e=>b.extBut _ _ kS e⟩ b
 done:=λs Q E st hE=>Jf hh st.1 st.2 (by simp) hE
structure xI (z TI TO i1 i2:Addr) (nX nY:List Addr):Prop where
 a:TI≠z /\ TO≠z /\ i1≠z /\ i2≠z /\ TI≠TO /\ TI≠i1 /\ TI≠i2 /\ TO≠i1 /\ TO≠i2 /\ i1≠i2
 f1:z∉nX /\ TO∉nX /\ i2∉nX
 f2:z∉nY /\ TO∉nY /\ i1∉nY
variable {z TI TO i1 i2 : Addr} {nX nY : List Addr} {n1 n2 : Nat} {P1 P2 : Nat -> Value -> Prop} {S1 S2 : Nat -> Heap -> Prop}
theorem Draws.same {P:Nat->Value->Prop}{S:Nat->Heap->Prop}(D:Draws prog w A it fp n P S) {c:Addr}(x:Heap.SameBut c h h') (hc:c∉fp) (st:S k h):S k h' :=
 D.frame k h h' st λb hb o e=>x.extBut _ _ (λq=>hc (q▸hb)) e
abbrev pS (h:Heap) (z TI TO:Addr) (f0 f1:Value):Prop:=h.get? z=some { cls:=.type "zip",dict:=none,data:=.fields #[f0,f1,.bool false,.ref TI,.ref TO],slots:=#[] }
def pT (h:Heap) (z TI TO:Addr):Prop:=∃ f0 f1,(f0=.none \/ ∃ a,f0=rawInt a) /\ pS h z TI TO f0 f1
theorem ab1 {Q:Option Obj->Shared->Prop}(h:Q (s.heap.get? a) s):wpAny (model prog w) A (loadIfAlive a) Q E s:=λΓ p _=>by simpa[loadIfAlive] using h
theorem Ar {f0 f1:Value}{Q:Bool->Shared->Prop}(hf:f0=.none \/ ∃ a,f0=rawInt a) (hz:pS s.heap z TI TO f0 f1) (h:∀ r h' ab2,pS h' z TI TO f0 ab2->Heap.SameBut z s.heap h'->Q r { s with heap:=h' }) :
 wpAny (model prog w) A (Builtin.SmallTypes.ownedTupleIsFree (.ref z)) Q E s:=by
 have hs:Heap.SameBut z s.heap s.heap:=⟨rfl,λ_ _=>rfl⟩;unfold Builtin.SmallTypes.ownedTupleIsFree;rcases hf with rfl|⟨a,rfl⟩
 ·exact ae (eI hz rfl (x:=.none) rfl (ag (h _ _ f1 hz hs)))
 ·refine ae (eI hz rfl (x:=rawInt a) rfl (ae (ab1 ?_)));cases s.heap.get? a.toNat with
  |none=>exact ag (h _ _ f1 hz hs)
  | some o =>
    refine ae (eI hz rfl (x:=f1) rfl ?_);by_cases q:(f1 != Value.bool true)=true
    ·rw[if_pos q];exact ae (rW hz (by simp) λg1 uE e1=>ag (h _ g1 (.bool true) uE e1))
    ·rw[if_neg q];exact ae (ag (ag (h _ _ f1 hz hs)))
theorem LL (D1:Draws prog w A i1 nX n1 P1 S1) (D2:Draws prog w A i2 nY n2 P2 S2) (R:xI z TI TO i1 i2 nX nY) {a b:Value}(k1:k<n1) (k2:k<n2)
 (hz:pT s.heap z TI TO) (uF:IsPair s.heap TI (.ref i1) (.ref i2)) (sZ:IsPair s.heap TO a b) (s1:S1 k s.heap) (s2:S2 k s.heap)
 (hQ:∀ x y h' tk,P1 k x->P2 k y->pT h' z TI TO->(∃ u v,IsPair h' TO u v)->S1 (k+1) h'->S2 (k+1) h'->IsPair h' s.heap.objs.size x y ->
  (∀ c o,c≠z->c≠TO->c≠i1->c≠i2->s.heap.get? c=some o->h'.get? c=some o)->Q (.ref s.heap.objs.size) { s with heap:=h',toks:=tk }) :
 wpAny (model prog w) A (Builtin.«zip.__next__» ⟨[.ref z],[]⟩) (λfin s'=>∃ v,fin=.done (.ret v) /\ Q v s') E s:=by
 obtain⟨⟨r1,r2,r3,r4,r5,r6,r7,r8,r9,xK⟩,⟨f1,f2,f3⟩,⟨f4,f5,f6⟩⟩:=R;obtain⟨o0,o1,ho,hz⟩:=hz
 change wpAny _ _ (field (.ref z) 2 >>= _) _ _ _;refine ae (eI hz rfl (x:=.bool false) rfl ?_)
 change wpAny _ _ (field (.ref z) 3 >>= _) _ _ _;refine ae (eI hz rfl (x:=.ref TI) rfl (ae (p7 uF rfl ?_)))
 change wpAny _ _ (Builtin.SmallTypes.ownedTupleIsFree (.ref z) >>= _) _ _ _
 refine ae (Ar ho hz λr g0 o2 vU e0=>?_);cases r with
 | true =>
   simp only[if_true];refine ae (h9 (ae (eI vU rfl (x:=.ref TO) rfl (ae (rW vU (by simp) λg1 uE ui=>?_)))));have e1:Heap.SameBut z s.heap g1:=⟨ui.1.trans e0.1,λc hc=>(ui.2 c hc).trans (e0.2 c hc)⟩;have Ec:pS g1 z TI TO .ellipsis o2:=uE;refine ae ?_;simp only[HP,zd,vi,vm];refine ae (ae (wD (show wpAny _ _ (Builtin.SmallTypes.nextOf (.ref i1) >>= _) _ _ _ from ae (D1.item k _ _ _ k1 (Draws.same D1 e1 f1 s1) λx g2 t2 px xM e2=>ag ?_))));have xO:IsPair g2 TO a b:=e2.extBut _ _ r8 (e1.extBut _ _ r2 sZ);refine ae (p7 xO rfl (ae (Ht xO λg3 Yz e3=>ae (tU (ag ?_)))));have ab3:IsPair g3 TO x b:=Yz;refine ae (ae (wD (show wpAny _ _ (Builtin.SmallTypes.nextOf (.ref i2) >>= _) _ _ _ from ae (D2.item k _ _ _ k2 (Draws.same D2 e3 f5 (Draws.same D2 e2 f6 (Draws.same D2 e1 f4 s2))) λy g4 t4 py KR e4=>ag ?_))));have YA:IsPair g4 TO x b:=e4.extBut _ _ r9 ab3;refine ae (p7 YA rfl (ae (Ht YA λg5 ab4 e5=>ae (tU (ag (ag ?_))))));have YB:IsPair g5 TO x y:=ab4;refine ae (p7 YB rfl (ae (Hu ?_)));have hsz:g5.objs.size=s.heap.objs.size:=by rw[e5.1,e4.1,e3.1,e2.1,e1.1]
   have YC:pS g5 z TI TO .ellipsis o2:=e5.extBut _ _ r2.symm (e4.extBut _ _ r4.symm (e3.extBut _ _ r2.symm (e2.extBut _ _ r3.symm Ec)));have kp:∀ c o,c≠z->c≠TO->c≠i1->c≠i2->s.heap.get? c=some o->g5.get? c=some o:=λc o c1 c2 c3 c4 q=>e5.extBut _ _ c2 (e4.extBut _ _ c4 (e3.extBut _ _ c2 (e2.extBut _ _ c3 (e1.extBut _ _ c1 q))));have q1:S1 (k+1) g5:=Draws.same D1 e5 f2 (Draws.same D1 e4 f3 (Draws.same D1 e3 f2 xM));have q2:S2 (k+1) g5:=Draws.same D2 e5 f5 KR;have xQ:z<g5.objs.size:=aK YC
   change wpAny _ _ (Builtin.SmallTypes.ownedTupleHandOut (.ref z) (.ref g5.objs.size) >>= _) _ _ _;refine ae ?_
   unfold Builtin.SmallTypes.ownedTupleHandOut;refine ae (rW (aC _ YC) (by simp) λg7 ab5 e7=>rW (show pS g7 z TI TO (rawInt g5.objs.size) o2 from ab5) (by simp) λg8 ab6 e8=>?_);have up:∀ c o,c≠z->g5.get? c=some o->g8.get? c=some o:=λc o c1 q=>e8.extBut _ _ c1 (e7.extBut _ _ c1 (aC _ q));have YD:IsPair g8 g5.objs.size x y:=e8.extBut _ _ (vc xQ) (e7.extBut _ _ (vc xQ) (aR _ rfl));have ab7:pT g8 z TI TO:=⟨_,_,.inr ⟨_,rfl⟩,show pS g8 z TI TO (rawInt g5.objs.size) (.bool false) from ab6⟩;refine ag ⟨_,rfl,(show Q (.ref g5.objs.size) _ from ?_)⟩;rw[hsz]at YD ⊢;exact hQ x y g8 _ px py ab7 ⟨_,_,up _ _ r2 YB⟩ (D1.frame _ _ _ q1 λc hc o q=>up c o (λw=>f1 (w▸hc)) q) (D2.frame _ _ _ q2 λc hc o q=>up c o (λw=>f4 (w▸hc)) q) YD λc o c1 c2 c3 c4 q=>up c o c1 (kp c o c1 c2 c3 c4 q)
 | false =>
   simp only[wJ,if_false];rw[show (#[Value.ref i1,Value.ref i2]:Array Value)=[Value.ref i1,Value.ref i2].toArray from rfl];simp only[Wk,vi,vm];refine ae (ae (ae (cn (show wpAny _ _ (Builtin.SmallTypes.nextOf (.ref i1) >>= _) _ _ _ from ae (D1.item k _ _ _ k1 (Draws.same D1 e0 f1 s1) λx g2 t2 px xM e2=>ag ?_)))));refine ag (ae (ae (cn (show wpAny _ _ (Builtin.SmallTypes.nextOf (.ref i2) >>= _) _ _ _ from ae (D2.item k _ _ _ k2 (Draws.same D2 e2 f6 (Draws.same D2 e0 f4 s2)) λy g4 t4 py KR e4=>ag ?_)))));refine ag (ag (ae (Hu (ag ⟨_,rfl,?_⟩) (show 2<=sizeLine by decide))));have hsz:g4.objs.size=s.heap.objs.size:=by rw[e4.1,e2.1,e0.1]
   have Ed:pS g4 z TI TO o0 o2:=e4.extBut _ _ r4.symm (e2.extBut _ _ r3.symm vU);have up:∀ c o,g4.get? c=some o->(g4.push { cls:=.type "tuple",data:=.seq #[x,y] }).get? c=some o:=λc o q=>aC _ q;have hT:IsPair (g4.push { cls:=.type "tuple",data:=.seq #[x,y] }) g4.objs.size x y:=aR _ rfl;show Q (.ref g4.objs.size) _;rw[hsz]at hT ⊢;exact hQ x y _ _ px py ⟨o0,o2,ho,up _ _ Ed⟩ ⟨a,b,up _ _ (e4.extBut _ _ r9 (e2.extBut _ _ r8 (e0.extBut _ _ r2 sZ)))⟩ (D1.frame _ _ _ (Draws.same D1 e4 f3 xM) λc hc o q=>up c o q) (D2.frame _ _ _ KR λc hc o q=>up c o q) hT
    λc o c1 c2 c3 c4 q=>up c o (e4.extBut _ _ c4 (e2.extBut _ _ c3 (e0.extBut _ _ c1 q)))
theorem LM (D1:Draws prog w A i1 nX n1 P1 S1) (D2:Draws prog w A i2 nY n2 P2 S2) (R:xI z TI TO i1 i2 nX nY) {a b:Value}{Q:Fin->Shared->Prop}(hk:k=n1 \/ (k<n1 /\ k=n2))
 (hz:pT s.heap z TI TO) (uF:IsPair s.heap TI (.ref i1) (.ref i2)) (sZ:IsPair s.heap TO a b) (s1:S1 k s.heap) (s2:S2 k s.heap)
 (hE:∀ h' e tk,(∀ c o,c≠z->c≠TO->c≠i1->c≠i2->s.heap.get? c=some o->h'.get? c=some o)->(∃ o,h'.get? e=some o /\ o.cls=.type "StopIteration")->E (.ref e) { s with heap:=h',toks:=tk }) :
 wpAny (model prog w) A (Builtin.«zip.__next__» ⟨[.ref z],[]⟩) Q E s:=by
 obtain⟨⟨r1,r2,r3,r4,r5,r6,r7,r8,r9,xK⟩,⟨f1,f2,f3⟩,⟨f4,f5,f6⟩⟩:=R;obtain⟨o0,o1,ho,hz⟩:=hz
 change wpAny _ _ (field (.ref z) 2 >>= _) _ _ _;refine ae (eI hz rfl (x:=.bool false) rfl ?_)
 change wpAny _ _ (field (.ref z) 3 >>= _) _ _ _;refine ae (eI hz rfl (x:=.ref TI) rfl (ae (p7 uF rfl ?_)))
 change wpAny _ _ (Builtin.SmallTypes.ownedTupleIsFree (.ref z) >>= _) _ _ _
 refine ae (Ar ho hz λr g0 o2 vU e0=>?_);cases r with
 | true =>
   simp only[if_true];refine ae (h9 (ae (eI vU rfl (x:=.ref TO) rfl (ae (rW vU (by simp) λg1 uE ui=>?_)))));have e1:Heap.SameBut z s.heap g1:=⟨ui.1.trans e0.1,λc hc=>(ui.2 c hc).trans (e0.2 c hc)⟩;have Ec:pS g1 z TI TO .ellipsis o2:=uE;refine ae ?_;simp only[HP,zd,vi,vm];rcases hk with hk|⟨xR,uG⟩
   ·refine ae (ae (wD (show wpAny _ _ (Builtin.SmallTypes.nextOf (.ref i1) >>= _) _ _ _ from ae (D1.done _ _ _ (hk▸Draws.same D1 e1 f1 s1) λg2 ex e2 hx=>?_))));obtain⟨oe,uH,xS⟩:=hx;have xT:pS g2 z TI TO .ellipsis o2:=e2 _ _ r3.symm Ec;have KS:ex≠z:=λq=>by subst q;rw[xT]at uH;cases uH;simp at xS
    exact rW xT (by simp) λg3 _ e3=>hE g3 ex _ (λc o c1 _ c3 _ q=>e3.extBut _ _ c1 (e2 _ _ c3 (e1.extBut _ _ c1 q))) ⟨oe,e3.extBut _ _ KS uH,xS⟩
   ·refine ae (ae (wD (show wpAny _ _ (Builtin.SmallTypes.nextOf (.ref i1) >>= _) _ _ _ from ae (D1.item k _ _ _ xR (Draws.same D1 e1 f1 s1) λx g2 t2 px xM e2=>ag ?_))));have xO:IsPair g2 TO a b:=e2.extBut _ _ r8 (e1.extBut _ _ r2 sZ);refine ae (p7 xO rfl (ae (Ht xO λg3 Yz e3=>ae (tU (ag ?_)))));refine ae (ae (wD (show wpAny _ _ (Builtin.SmallTypes.nextOf (.ref i2) >>= _) _ _ _ from ae (D2.done _ _ _ (uG▸Draws.same D2 e3 f5 (Draws.same D2 e2 f6 (Draws.same D2 e1 f4 s2))) λg4 ex e4 hx=>?_))));obtain⟨oe,uH,xS⟩:=hx;have Ed:pS g4 z TI TO .ellipsis o2:=e4 _ _ r4.symm (e3.extBut _ _ r2.symm (e2.extBut _ _ r3.symm Ec));have KS:ex≠z:=λq=>by subst q;rw[Ed]at uH;cases uH;simp at xS
    exact rW Ed (by simp) λg5 _ e5=>hE g5 ex _ (λc o c1 c2 c3 c4 q=>e5.extBut _ _ c1 (e4 _ _ c4 (e3.extBut _ _ c2 (e2.extBut _ _ c3 (e1.extBut _ _ c1 q))))) ⟨oe,e5.extBut _ _ KS uH,xS⟩
 | false =>
   simp only[wJ,if_false];rw[show (#[Value.ref i1,Value.ref i2]:Array Value)=[Value.ref i1,Value.ref i2].toArray from rfl];simp only[Wk,vi,vm];rcases hk with hk|⟨xR,uG⟩
   ·refine ae (ae (ae (cn (show wpAny _ _ (Builtin.SmallTypes.nextOf (.ref i1) >>= _) _ _ _ from ae (D1.done _ _ _ (hk▸Draws.same D1 e0 f1 s1) λg2 ex e2 hx=>?_)))));exact hE g2 ex _ (λc o c1 _ c3 _ q=>e2 _ _ c3 (e0.extBut _ _ c1 q)) hx
   ·refine ae (ae (ae (cn (show wpAny _ _ (Builtin.SmallTypes.nextOf (.ref i1) >>= _) _ _ _ from ae (D1.item k _ _ _ xR (Draws.same D1 e0 f1 s1) λx g2 t2 px xM e2=>ag ?_)))));refine ag (ae (ae (cn (show wpAny _ _ (Builtin.SmallTypes.nextOf (.ref i2) >>= _) _ _ _ from ae (D2.done _ _ _ (uG▸Draws.same D2 e2 f6 (Draws.same D2 e0 f4 s2)) λg4 ex e4 hx=>?_)))));exact hE g4 ex _ (λc o c1 _ c3 c4 q=>e4 _ _ c4 (e2.extBut _ _ c3 (e0.extBut _ _ c1 q))) hx
theorem LN (hz:pT s.heap z TI TO) (h:Q (.ref z) s):wpAny (model prog w) A (pyIter (.ref z)) Q E s:=by
 have ty:s.TypeIs (.ref z) "zip":=let ⟨_,_,_,hz⟩:=hz;⟨_,hz,rfl⟩
 exact wF ty W2 (dr W2 ty F.entry_zip_iter (show wpAny _ _ (ret (.ref z)) _ _ s from ag ⟨_,rfl, "zip",_,ty,wW.lookup,h⟩) (F.args_zip_iter_1 _))
theorem A3 (D1:Draws prog w A.in1 i1 nX n1 P1 S1) (D2:Draws prog w A.in1 i2 nY n2 P2 S2) (R:xI z TI TO i1 i2 nX nY) {a b:Value}{Q:Option Value->Shared->Prop}(k1:k<n1) (k2:k<n2)
 (hz:pT s.heap z TI TO) (uF:IsPair s.heap TI (.ref i1) (.ref i2)) (sZ:IsPair s.heap TO a b) (s1:S1 k s.heap) (s2:S2 k s.heap)
 (hQ:∀ x y h' tk,P1 k x->P2 k y->pT h' z TI TO->(∃ u v,IsPair h' TO u v)->S1 (k+1) h'->S2 (k+1) h'->IsPair h' s.heap.objs.size x y ->
  (∀ c o,c≠z->c≠TO->c≠i1->c≠i2->s.heap.get? c=some o->h'.get? c=some o)->Q (some (.ref s.heap.objs.size)) { s with heap:=h',toks:=tk }):wpAny (model prog w) A (pyNext (.ref z)) Q E s:=by
 have hT:s.TypeIs (.ref z) "zip":=let ⟨_,_,_,hz⟩:=hz;⟨_,hz,rfl⟩
 unfold pyNext;exact ae (rX (pq (name:=Str.ofString "__next__") hT wW (dr wW hT W3 (LL D1 D2 R k1 k2 hz uF sZ s1 s2 λx y h' tk b1 b2 b3 b4 b5 b6 b7 b8=>ag (hQ x y h' tk b1 b2 b3 b4 b5 b6 b7 b8)) (W4 _))))
theorem Sc {p:Addr}{Q:Unit->Shared->Prop}(hz:pT s.heap z TI TO) (h:∀ h',pT h' z TI TO->Heap.SameBut z s.heap h'->Q () { s with heap:=h' }):wpAny (model prog w) A (letOwnedTupleGo tg (.ref z) (.ref p)) Q E s:=by
 have hs:Heap.SameBut z s.heap s.heap:=⟨rfl,λ_ _=>rfl⟩;have same:Q () s:=h _ hz hs;obtain⟨f0,f1,hf,hz⟩:=id hz
 have tup:wpAny (model prog w) A (do
  let o <-load z
  match o.cls,o.data with
  | .type n,.fields vs =>
    if ["enumerate", "zip", "dict_itemiterator", "dict_reverseitemiterator", "odict_iterator", "itertools.zip_longest", "itertools.pairwise"].contains n&&vs[0]?==some (rawInt p) then
     rule "for.unpacks-the-owned-tuple"
     updateField z 0 .none
  |_,_=>pure ()) Q E s:=by
  refine ae (u4 hz ?_);dsimp only;split
  ·refine ae (h9 (rW hz (by simp) λg1 uE e1=>h g1 ⟨.none,f1,.inl rfl,uE⟩ e1))
  ·exact ag same
 unfold letOwnedTupleGo;cases tg with
 |Tuple es n q=>exact tup
 |List es q=>exact tup
 |_=>exact ag same
theorem A4 (D1:Draws prog w A.in1 i1 nX n1 P1 S1) (D2:Draws prog w A.in1 i2 nY n2 P2 S2) (R:xI z TI TO i1 i2 nX nY) {a b:Value}{Q:Option Value->Shared->Prop}(hk:k=n1 \/ (k<n1 /\ k=n2))
 (hz:pT s.heap z TI TO) (uF:IsPair s.heap TI (.ref i1) (.ref i2)) (sZ:IsPair s.heap TO a b) (s1:S1 k s.heap) (s2:S2 k s.heap)
 (hQ:∀ h' tk,(∀ c o,c≠z->c≠TO->c≠i1->c≠i2->s.heap.get? c=some o->h'.get? c=some o)->Q none { s with heap:=h',toks:=tk }):wpAny (model prog w) A (pyNext (.ref z)) Q E s:=by
 have hT:s.TypeIs (.ref z) "zip":=let ⟨_,_,_,hz⟩:=hz;⟨_,hz,rfl⟩
 unfold pyNext;refine ae (rX (pq (name:=Str.ofString "__next__") hT wW (dr wW hT W3 (LM D1 D2 R hk hz uF sZ s1 s2 λh' e tk q1 q2=>?_) (W4 _))));obtain⟨o,ho,hc⟩:=q2;exact ae (wG (T:="StopIteration") (b:=true) ⟨o,ho,hc⟩ yJ (ag (hQ h' tk q1)))
noncomputable def xV (h:Heap) (l1:Addr):Heap:=h.push { cls:=.type "tuple_iterator",data:=.fields #[.ref l1,.int 0 0] }
noncomputable def vV (h:Heap) (l1 l2:Addr):Heap:=(xV h l1).push { cls:=.type "tuple_iterator",data:=.fields #[.ref l2,.int 0 0] }
noncomputable def vW (h:Heap) (l1 l2:Addr):Heap:=(vV h l1 l2).push { cls:=.type "tuple",data:=.seq #[.ref h.objs.size,.ref (xV h l1).objs.size] }
noncomputable def xW (h:Heap) (l1 l2:Addr):Heap:=(vW h l1 l2).push { cls:=.type "tuple",data:=.seq #[.none,.none] }
noncomputable def vX (h:Heap) (l1 l2:Addr):Heap:=(xW h l1 l2).push { cls:=.type "zip",data:=.fields #[.none,.bool false,.bool false,.ref (vV h l1 l2).objs.size,.ref (vW h l1 l2).objs.size] }
theorem DF (l1 l2:Addr) (xs ys:Array Value) :
 Meets (Builtin.«zip.__new__» ⟨[.type "zip",.ref l1,.ref l2],[]⟩) (λ_ R s=>s.heap.IsTuple l1 xs /\ s.heap.IsTuple l2 ys /\ R (.ok (.ret (.ref (xW s.heap l1 l2).objs.size))) { s with heap:=vX s.heap l1 l2 }):=
 .of_wp λprog w A R s h=>by
  obtain⟨hp,g,d,tk,os⟩:=s;obtain⟨KU,qp,h⟩:=h;have afe:=sub_zip;have ab8:Heap.IsTuple (Shared.heap ⟨hp,g,d,tk,os⟩) l1 xs:=KU;have ab9:Heap.IsTuple (Shared.heap ⟨hp.push { cls:=.type "tuple_iterator",data:=.fields #[.ref l1,.int 0 0] },g,d,tk,os⟩) l2 ys:=qp.at λo e=>aC _ e
  wp_walk using yK ab8,yK ab9
  exact⟨_,rfl,h⟩
theorem Jg {l1 l2:Addr}{xs ys:Array Value}(KU:s.heap.IsTuple l1 xs) (qp:s.heap.IsTuple l2 ys)
 (h:∀ h',IsZip h' (s.heap.objs.size+4) (s.heap.objs.size+2) (s.heap.objs.size+3) .none->IsPair h' (s.heap.objs.size+2) (.ref s.heap.objs.size) (.ref (s.heap.objs.size+1))->IsPair h' (s.heap.objs.size+3) .none .none ->
  h'.IsTupleIter s.heap.objs.size l1 0->h'.IsTupleIter (s.heap.objs.size+1) l2 0->(∀ c o,s.heap.get? c=some o->h'.get? c=some o)->Q (.ref (s.heap.objs.size+4)) { s with heap:=h' }):wpAny (model prog w) A (call (.type "zip") [.ref l1,.ref l2]) Q E s:=by
 refine callType_new F.called_zip (by decide) (F.typeCall_zip_2 _ _) (F.newCall_zip_2 _ _) (λobj=>F.args_object_init_3 obj _ _) F.entry_zip_new (DF l1 l2 xs ys) ⟨KU,qp,?_⟩;have z1:(xV s.heap l1).objs.size=s.heap.objs.size+1:=qc ..;have z2:(vV s.heap l1 l2).objs.size=s.heap.objs.size+2:=by rw[vV,qc,z1]
 have z3:(vW s.heap l1 l2).objs.size=s.heap.objs.size+3:=by rw[vW,qc,z2]
 have z4:(xW s.heap l1 l2).objs.size=s.heap.objs.size+4:=by rw[xW,qc,z3]
 have g5:(vX s.heap l1 l2).get? (xW s.heap l1 l2).objs.size=some { cls:=.type "zip",data:=.fields #[.none,.bool false,.bool false,.ref (vV s.heap l1 l2).objs.size,.ref (vW s.heap l1 l2).objs.size] }:=aR _ rfl;have g4:(vX s.heap l1 l2).get? (vW s.heap l1 l2).objs.size=some { cls:=.type "tuple",data:=.seq #[.none,.none] }:=aC _ (aR _ rfl);have g3:(vX s.heap l1 l2).get? (vV s.heap l1 l2).objs.size=some { cls:=.type "tuple",data:=.seq #[.ref s.heap.objs.size,.ref (xV s.heap l1).objs.size] }:=aC _ (aC _ (aR _ rfl));have g2:(vX s.heap l1 l2).get? (xV s.heap l1).objs.size=some { cls:=.type "tuple_iterator",data:=.fields #[.ref l2,.int 0 0] }:=aC _ (aC _ (aC _ (aR _ rfl)));have g1:(vX s.heap l1 l2).get? s.heap.objs.size=some { cls:=.type "tuple_iterator",data:=.fields #[.ref l1,.int 0 0] }:=aC _ (aC _ (aC _ (aC _ (aR _ rfl))))
 change _ /\ _
 rw[z2,z3,z4]at g5;rw[z1,z2]at g3;rw[z3]at g4;rw[z1]at g2;rw[z4];exact⟨⟨_,g5,rfl⟩,h _ g5 g3 g4 ⟨_,g1,rfl,rfl⟩ ⟨_,g2,rfl,rfl⟩ λc o q=>aC _ (aC _ (aC _ (aC _ (aC _ q))))⟩
end
end HT
namespace L2
open PySem PySem.Spec PyProof.Rows
theorem Inv.aca {p:Addr}{o:HO}(I:Inv X pins σ H s) (hf:∀ b∈ch,c7 X pins H b) (k:∀ b o,b∉ch->s.heap.get? b=some o->h'.get? b=some o) (hp:s.heap.objs.size<=p)
 (new:br X.prog X.w (upd H p o) h' p o):Inv X pins σ (upd H p o) { s with heap:=h',toks:=t' }:=by
 have sL:H p=none:=I.ar.fresh hp;have pI:∀ b u,H b=some u->b∉ch:=λb u e z=>by rw[(hf b z).1]at e;cases e
 have acb:∀ b u,H b=some u->b≠p:=λb u e=>f9 e sL;have eX:∀ b u,H b=some u->upd H p o b=some u:=λb u e=>by rw[fJ (acb b u e)];exact e
 refine I.step (g':=s.gens) (d':=s.drawn) (ch:=ch) (λb hb=>?_) (λb o _ _ hc e _=>k b o hc e) (λb o _ _ hc e _=>⟨o.slots,k b o hc e⟩) (λb ob _ e n=>?_)
  (λb o hc e=>⟨o,k b o hc e⟩) (λb _ e=>eX b _ e) (λb _ _ e=>eX b _ e) (λb ps e=>⟨#[],by rw[eX b _ e];simp⟩) (λm hm=>?_) ?_ I.bare
 ·obtain⟨f0,f1,f2,f3,f4,f5⟩:=hf b hb;exact⟨f3,f1,f4,f5⟩
 ·rw[fJ (λz=>dO _ (dM (aK e) (by rw[z];exact hp)))];exact n
 ·obtain⟨ob,es,ep,ho,r⟩:=hm;exact⟨ob,es,ep,k _ ob (λz=>(hf _ z).2.1 rfl) ho,r⟩
 ·intro b u e;by_cases hb:b=p
  ·subst hb;rw[fI]at e;cases e;exact new
  ·rw[fJ hb]at e;refine(I.ar b u e).eX (λc v hc q=>k c v ?_ q) (λc q=>eX c _ q) λc xs q=>eX c _ q;rcases hc with z|z
   ·rw[z];exact pI b u e
   ·exact pI c _ z
theorem Inv.acd (I:Inv X pins σ H s) (hf:∀ b∈ch,c7 X pins H b) (k:∀ b o,b∉ch->s.heap.get? b=some o->h'.get? b=some o):Inv X pins σ H { s with heap:=h',toks:=t' }:=by
 have pI:∀ b u,H b=some u->b∉ch:=λb u e z=>by rw[(hf b z).1]at e;cases e
 refine I.step (g':=s.gens) (d':=s.drawn) (ch:=ch) (λb hb=>?_) (λb o _ _ hc e _=>k b o hc e) (λb o _ _ hc e _=>⟨o.slots,k b o hc e⟩) (λb ob _ e n=>n)
  (λb o hc e=>⟨o,k b o hc e⟩) (λb _ e=>e) (λb _ _ e=>e) (λb ps e=>⟨#[],by rw[e];simp⟩) (λm hm=>?_) ?_ I.bare
 ·obtain⟨f0,f1,f2,f3,f4,f5⟩:=hf b hb;exact⟨f3,f1,f4,f5⟩
 ·obtain⟨ob,es,ep,ho,r⟩:=hm;exact⟨ob,es,ep,k _ ob (λz=>(hf _ z).2.1 rfl) ho,r⟩
 ·intro b u e;refine(I.ar b u e).eX (λc v hc q=>k c v ?_ q) (λc q=>q) λc xs q=>q;rcases hc with z|z
  ·rw[z];exact pI b u e
  ·exact pI c _ z
noncomputable def KW (K:PySem.W.Frag) (a b:Addr):It :=
 ⟨λi H=>∃ (xs ys:List V) (x y:V),aV K H a xs /\ aV K H b ys /\ xs[i]?=some x /\ ys[i]?=some y,
  λi H w H'=>∀ (xs ys:List V),aV K H a xs->aV K H b ys->∃ (p:Addr) (x y:V),xs[i]?=some x /\ ys[i]?=some y /\ H p=none /\ w=.ref p /\ H'=upd H p (.tup [x,y]),
  λi H=>∃ (xs ys:List V),aV K H a xs /\ aV K H b ys /\ (i=xs.length \/ (i<xs.length /\ i=ys.length))⟩
theorem Bi {b:Nat}(k:Nat) (h:b<n):b≠n+k:=by omega
theorem Bj {m:Nat}(h:n+4<m):m≠n /\ m≠n+1 /\ m≠n+2 /\ m≠n+3 /\ m≠n+4:=by omega
theorem FS {n b:Addr}(ha:a<n) (hb:b<n):HT.xI (n+4) (n+2) (n+3) n (n+1) [n,a] [n+1,b] where
 a:=by refine⟨?_,?_,?_,?_,?_,?_,?_,?_,?_,?_⟩<;>exact λz=>by have z':(_:Nat)=_:=z;omega
 f1:=by
  have e1:∀ k:Nat,n+k≠a:=λk z=>dO _ (yP (vd n k) (z▸ha));refine⟨?_,?_,?_⟩<;>(rw[aP,a7];rintro(z|z))
  ·have z':(_:Nat)=_:=z;omega
  ·exact e1 4 z
  ·have z':(_:Nat)=_:=z;omega
  ·exact e1 3 z
  ·have z':(_:Nat)=_:=z;omega
  ·exact e1 1 z
 f2:=by
  have e1:∀ k:Nat,n+k≠b:=λk z=>dO _ (yP (vd n k) (z▸hb));refine⟨?_,?_,?_⟩<;>(rw[aP,a7];rintro(z|z))
  ·have z':(_:Nat)=_:=z;omega
  ·exact e1 4 z
  ·have z':(_:Nat)=_:=z;omega
  ·exact e1 3 z
  ·have z':(_:Nat)=_:=z;omega
  ·exact e1 0 z
theorem LO {n b:Addr}(ha:a<n) (hb:b<n) :
 Turn P w K tg (KW K a b) [n+4,n+2,n+3,n,n+1] (n+4)
  (λi h=>HT.pT h (n+4) (n+2) (n+3) /\ IsPair h (n+2) (.ref n) (.ref (n+1)) /\ (∃ u v,IsPair h (n+3) u v) /\ h.IsTupleIter n a i /\ h.IsTupleIter (n+1) b i) where
 mem:=by simp
 obj:=λi h st c hc=>by
  obtain⟨⟨_,_,_,z1⟩,z2,⟨u,v,z3⟩,⟨o4,e4,c4,d4⟩,⟨o5,e5,c5,d5⟩⟩:=st;simp only[aP,nL,or_false]at hc;rcases hc with rfl|rfl|rfl|rfl|rfl
  ·exact⟨_,z1,λv z=>by cases z⟩
  ·exact⟨_,z2,λv z=>by cases z⟩
  ·exact⟨_,z3,λv z=>by cases z⟩
  ·exact⟨o4,e4,λv z=>by rw[d4]at z;cases z⟩
  ·exact⟨o5,e5,λv z=>by rw[d5]at z;cases z⟩
 keep:=λi h h' st k=>by
  obtain⟨z1,z2,⟨u,v,z3⟩,z4,z5⟩:=st;obtain⟨w0,w1,w2,z1⟩:=z1;exact⟨⟨w0,w1,w2,k _ (by simp) _ z1⟩,k _ (by simp) _ z2,⟨u,v,k _ (by simp) _ z3⟩,z4.at λo e=>k _ (by simp) o e,z5.at λo e=>k _ (by simp) o e⟩
 item:=by
  intro X hP hw hK hc i pins s σ H E I hf st hg;subst hP hw hK;obtain⟨xs,ys,x,y,q1,q2,e1,e2⟩:=hg;obtain⟨z1,z2,⟨u,v,z3⟩,z4,z5⟩:=st;obtain⟨i1,r1,p1,l1⟩:=I.tuple q1;obtain⟨i2,r2,p2,l2⟩:=I.tuple q2;have hx:=(List.getElem?_eq_some_iff.mp e1).1;have hy:=(List.getElem?_eq_some_iff.mp e2).1;have R:=FS ha hb;have D1:=HT.lI (prog:=X.prog) (w:=X.w) (A:=X.A.in1) (I.ok.hd hc) n a (bL ha) i1.toArray;have D2:=HT.lI (prog:=X.prog) (w:=X.w) (A:=X.A.in1) (I.ok.hd hc) (n+1) b (Bi 1 hb) i2.toArray;refine HT.A3 D1 D2 R (by rw[aU,<-r1.length];exact hx) (by rw[aU,<-r2.length];exact hy) z1 z2 z3 ⟨z4,p1⟩ ⟨z5,p2⟩ λvx vy h' tk b1 b2 b3 b4 b5 b6 b7 b8=>⟨_,rfl,?_⟩;refine HT.Sc b3 λh2 xT dZ=>?_;obtain⟨w1,f1,g1⟩:=r1.get e1;obtain⟨w2,f2,g2⟩:=r2.get e2;have YE:i1[i]?=some vx:=by simpa using b1
  have YF:i2[i]?=some vy:=by simpa using b2
  rw[f1]at YE;cases YE;rw[f2]at YF;cases YF;have xQ:(n+4:Nat)<s.heap.objs.size:=let ⟨_,_,_,z1⟩:=z1;aK z1
  have ace:IsPair h2 s.heap.objs.size vx vy:=dZ.extBut _ _ (Bj xQ).2.2.2.2 b7;have nw:H s.heap.objs.size=none:=I.ar.fresh (ak _);have I2:Inv X pins σ (upd H s.heap.objs.size (.tup [x,y])) { s with heap:=h2,toks:=tk }:=by
   refine I.aca (ch:=[n+4,n+2,n+3,n,n+1]) hf (λc o cu e=>?_) (ak _) ?_
   ·simp only[aP,nL,or_false,not_or]at cu;exact dZ.extBut _ _ cu.1 (b8 c o cu.1 cu.2.2.1 cu.2.2.2.1 cu.2.2.2.2 e)
   ·exact⟨by show 2<=sizeLine;decide,[vx,vy],.cons g1 (.cons g2 .nil),⟨_,ace,rfl,_,rfl⟩⟩
  refine⟨.ref s.heap.objs.size,_,I2,rfl,λaff afg y1 y2=>⟨_,x,y,by rw[I.IV y1 q1];exact e1,by rw[I.IV y2 q2];exact e2,nw,rfl,rfl⟩,⟨xT,?_,(let ⟨u,v,b4⟩:=b4;⟨u,v,dZ.extBut _ _ R.a.2.1 b4⟩),?_,?_⟩,λc cu=>?_⟩
  ·exact dZ.extBut _ _ R.a.1 (b8 _ _ R.a.1 R.a.2.2.2.2.1 R.a.2.2.2.2.2.1 R.a.2.2.2.2.2.2.1 z2)
  ·exact b5.1.at λo e=>dZ.extBut _ _ R.a.2.2.1 e
  ·exact b6.1.at λo e=>dZ.extBut _ _ R.a.2.2.2.1 e
  ·rw[fJ]
   ·exact(hf c cu).1
   ·intro z;subst z;simp only[aP,nL,or_false]at cu;obtain⟨m1,m2,m3,m4,m5⟩:=Bj xQ;rcases cu with q|q|q|q|q
    ·exact m5 q
    ·exact m3 q
    ·exact m4 q
    ·exact m1 q
    ·exact m2 q
 done:=by
  intro X hP hw hK hc i pins s σ H E I hf st hg;subst hP hw hK;obtain⟨xs,ys,q1,q2,hk⟩:=hg;obtain⟨z1,z2,⟨u,v,z3⟩,z4,z5⟩:=st;obtain⟨i1,r1,p1,l1⟩:=I.tuple q1;obtain⟨i2,r2,p2,l2⟩:=I.tuple q2;have R:=FS ha hb;have D1:=HT.lI (prog:=X.prog) (w:=X.w) (A:=X.A.in1) (I.ok.hd hc) n a (bL ha) i1.toArray;have D2:=HT.lI (prog:=X.prog) (w:=X.w) (A:=X.A.in1) (I.ok.hd hc) (n+1) b (Bi 1 hb) i2.toArray;refine HT.A4 D1 D2 R (k:=i) (by rw[aU,aU,<-r1.length,<-r2.length];exact hk) z1 z2 z3 ⟨z4,p1⟩ ⟨z5,p2⟩ λh' tk b8=>⟨rfl,I.acd (ch:=[n+4,n+2,n+3,n,n+1]) hf λc o cu e=>?_⟩;simp only[aP,nL,or_false,not_or]at cu;exact b8 c o cu.1 cu.2.2.1 cu.2.2.2.1 cu.2.2.2.2 e
 self:=λA i s Q E st h=>HT.LN st.1 h
theorem YG.lt {af:List Value}(p:IsTup s.heap a af.toArray):a<s.heap.objs.size:=by
 obtain⟨o,e,_⟩:=p;exact aK e
def acf (K:PySem.W.Frag) (ta:TA):TI:=λσ H R=>ta σ H λvs H2=>∃ (p q:Addr) (xs ys:List V),vs=[.ref p,.ref q] /\ aV K H2 p xs /\ aV K H2 q ys /\ R (KW K p q) H2
theorem Sd {a b:Expr}{ta:TA}{p:Pos}(hg:Gl X "zip") (hm:X.mg "zip"=none) (ha:PA X [a,b] ta) (hs:starEach [a,b] X.env=[(false,eval a X.env),(false,eval b X.env)]:=by rfl) (dZ:starEach [b] X.env=[(false,eval b X.env)]:=by rfl) :
 PI X tg (.Call (.Name "zip" p) [a,b] [] pos) (acf X.K ta):=by
 intro pins s σ H R I h;refine k8 (gM I hg hm (by decide +kernel:bootBuiltins "zip"=some (.type "zip")) ?_);refine vq (ao (ha pos pins s σ H _ I h) λus s1 ⟨vs,H2,I2,r2,q⟩=>?_) (by rw[hs,dZ]) (by rw[dZ];rfl);obtain⟨x,y,xs,ys,rfl,hx,hy,q⟩:=q;obtain⟨u,v,rfl,ru,rv⟩:=Vals.two r2;cases ru;cases rv;obtain⟨i1,r1,p1,_⟩:=I2.tuple hx;obtain⟨i2,r2,p2,_⟩:=I2.tuple hy;refine HT.Jg (xs:=i1.toArray) (ys:=i2.toArray) p1 p2 λh' b1 b2 b3 b4 b5 b6=>?_;refine wpAny_pyIter_zip b1 ?_;refine⟨s1.heap.objs.size+4,_,_,_,H2,rfl,I2.kept (t':=s1.toks) b6,LO (YG.lt p1) (YG.lt p2),⟨⟨_,_,.inl rfl,b1⟩,b2,⟨_,_,b3⟩,b4,b5⟩,λc hc=>?_,q⟩;have hle:s1.heap.objs.size<=c:=by
  simp only[aP,nL,or_false]at hc;rcases hc with z|z|z|z|z<;>(rw[z];first|exact ak _|exact vd _ _)
 exact I2.vI hle (I2.ar.fresh hle)
end L2
namespace L2.DL
open PySem PySem.Spec PyProof.Rows
section
variable {a b : Expr} {p : Pos} {k : DE (List W)}
noncomputable def kT:List D->List D->List W
 |x::l,y::r=>.d (.tup [x,y])::kT l r
 |_,_=>[]
theorem CA:∀ (l r:List D),(kT l r).length=min l.length r.length
 |[],_=>by simp[kT]
 |_::_,[]=>by simp[kT]
 |_::l,_::r=>by simp only[kT,bA,CA l r];omega
theorem CB:∀ {l r:List D}{i:Nat}{w:W},(kT l r)[i]?=some w->∃ x y,l[i]?=some x /\ r[i]?=some y /\ w=.d (.tup [x,y])
 |[],_,_,_,e=>by simp[kT]at e
 |_::_,[],_,_,e=>by simp[kT]at e
 |x::l,y::r,0,w,e=>by simp[kT]at e;exact⟨x,y,rfl,rfl,e.symm⟩
 | x::l,y::r,i+1,w,e=>by
   have e':(kT l r)[i]?=some w:=by simpa[kT] using e
   obtain⟨x',y',h1,h2,h3⟩:=CB e';exact⟨x',y',by simpa using h1,by simpa using h2,h3⟩
noncomputable def Ee (k:DE (List W)):DE (List W):=λenv bx=>fq (k env bx) λws bx1=>match ws with
 |[.d (.tup l),.d (.tup r)]=>.val (kT l r) bx1
 |_=>.bad
theorem DH {p q:Addr}{vs us:List V}{m:List D}(hp:F p=some (.tup vs)) (hq:F q=some (.tup us)) (dl:av F l vs) (dm:av F m us):vR F r (kT l m) (KW K p q):=by
 intro T i F1 r1 σ1 H1 env1 bx1 g R;have s1:aV K H1 p vs:=.of (R.fh _ _ (g.s _ _ hp));have s2:aV K H1 q us:=.of (R.fh _ _ (g.s _ _ hq));have e1:=dl.length;have e2:=dm.length;refine⟨λhl=>?_,λw e=>?_⟩
 ·rw[CA]at hl;exact⟨vs,us,s1,s2,by omega⟩
 ·obtain⟨x,y,h1,h2,rfl⟩:=CB e;obtain⟨v,f1,d1⟩:=dl.get h1;obtain⟨u,f2,d2⟩:=dm.get h2;refine⟨⟨vs,us,v,u,s1,s2,f1,f2⟩,λw H2 hy=>?_⟩;obtain⟨a,v',u',g1,g2,ha,rfl,rfl⟩:=hy vs us s1 s2;rw[f1]at g1;cases g1;rw[f2]at g2;cases g2;have gr:=R.rC (o:=.tup [v,u]) ha;exact⟨_,gr,R.vQ ha,a,[v,u],rfl,fI,.cons (Den.mono (g.trans gr).s x d1) (.cons (Den.mono (g.trans gr).s y d2) .nil)⟩
theorem Ob (hg:Gl X "zip") (hm:X.mg "zip"=none) (ha:cc X T Z [a,b] k) (hs:starEach [a,b] X.env=[(false,eval a X.env),(false,eval b X.env)]:=by rfl) (dZ:starEach [b] X.env=[(false,eval b X.env)]:=by rfl) :
 nW X T Z tg (.Call (.Name "zip" p) [a,b] [] pos) (Ee k):=by
 refine PI.imp (Sd hg hm ha hs dZ) λσ H Q ⟨F,r,env,bx,R,h⟩=>?_;refine⟨F,r,env,bx,R,End.bind h λws bx1 F1 r1 vs H1 g1 R1 d1 h1=>?_⟩;split at h1
 ·rename_i l m;obtain⟨v,t,rfl,⟨p,us,rfl,k1,k2⟩,v2,t2,rfl,⟨q,acg,rfl,k3,k4⟩,rt⟩:=d1;cases (show t2=[] from rt);exact⟨p,q,us,acg,rfl,.of (R1.fh _ _ k1),.of (R1.fh _ _ k3),h1 F1 r1 _ H1 (.refl F1 r1) R1 (DH k1 k3 k2 k4)⟩
 ·exact h1.elim
end
section
variable {a : Expr} {p : Pos}
def ach (K:PySem.W.Frag) (tl:TE):TI:=λσ H R=>tl σ H λx H1=>(∃ a,x=.ref a /\ (∃ xs,bu K H1 a xs) /\ R (zA K a) H1) \/ ∃ a,x=.ref a /\ (∃ xs,aV K H1 a xs) /\ R (Ka K a) H1
theorem Se {l:Expr}{tl:TE}(hl:PE X l tl):PI X tg l (ach X.K tl):=by
 intro pins s σ H R I h;refine ao (hl pins s σ H _ I h) λv s1 ⟨x,H1,I1,r1,q1⟩=>?_;rcases q1 with⟨a,rfl,⟨xs,hq⟩,q⟩|⟨a,rfl,⟨xs,hq⟩,q⟩
 ·cases r1;obtain⟨af,rv,p,hz⟩:=I1.list hq;refine u5 p.isList ⟨s1.heap.objs.size,[s1.heap.objs.size],_,_,H1,rfl,I1.kept (t':=s1.toks) λb o e=>aC _ e,A8 a _,⟨_,aR _ rfl,rfl,rfl⟩,λb hb=>?_,q⟩;cases a7.mp hb;exact I1.vI (ak _) (I1.ar.fresh (ak _))
 ·cases r1;obtain⟨af,rv,p,hz⟩:=I1.tuple hq;refine yK (show s1.heap.IsTuple a af.toArray from p) ⟨s1.heap.objs.size,[s1.heap.objs.size],_,_,H1,rfl,I1.kept (t':=s1.toks) λb o e=>aC _ e,Ds a _,⟨_,aR _ rfl,rfl,rfl⟩,λb hb=>?_,q⟩;cases a7.mp hb;exact I1.vI (ak _) (I1.ar.fresh (ak _))
theorem CC {a:Addr}{vs:List V}(k1:F a=some (.lst vs)) (k2:av F l vs):vR F r (l.map W.d) (zA K a):=λT' i F2 r2 σ2 H2 env2 bx2 g2 R2=>by
 have hq:bu K H2 a vs:=.of (R2.fh _ _ (g2.s _ _ k1));refine⟨λhl=>?_,λw e=>?_⟩
 ·rw[aF,k2.length]at hl;exact⟨vs,hq,rZ hl⟩
 ·obtain⟨d,e1,rfl⟩:=Bg e;obtain⟨u,e2,du⟩:=k2.get e1;refine⟨⟨vs,u,hq,e2⟩,λx H3 ⟨e3,hy⟩=>?_⟩;subst e3;have e4:vs[i]?=some x:=hy vs hq;rw[e2]at e4;cases e4;exact⟨F2,.refl F2 r2,R2,Den.mono g2.s d du⟩
theorem DI {a:Addr}{vs:List V}(k1:F a=some (.tup vs)) (k2:av F l vs):vR F r (l.map W.d) (Ka K a):=λT' i F2 r2 σ2 H2 env2 bx2 g2 R2=>by
 have hq:aV K H2 a vs:=.of (R2.fh _ _ (g2.s _ _ k1));refine⟨λhl=>?_,λw e=>?_⟩
 ·rw[aF,k2.length]at hl;exact⟨vs,hq,rZ hl⟩
 ·obtain⟨d,e1,rfl⟩:=Bg e;obtain⟨u,e2,du⟩:=k2.get e1;refine⟨⟨vs,u,hq,e2⟩,λx H3 ⟨e3,hy⟩=>?_⟩;subst e3;have e4:vs[i]?=some x:=hy vs hq;rw[e2]at e4;cases e4;exact⟨F2,.refl F2 r2,R2,Den.mono g2.s d du⟩
theorem BP (ha:PD X T Z a ma):nW X T Z tg a (aj ma):=by
 refine PI.imp (Se ha) λσ H Q ⟨F,r,env,bx,R,h⟩=>?_;refine⟨F,r,env,bx,R,End.bind h λw bx1 F1 r1 v H1 g1 R1 d1 h1=>?_⟩;split at h1
 ·rename_i l;obtain⟨p,vs,rfl,k1,k2⟩:=d1;exact .inl ⟨p,rfl,⟨vs,.of (R1.fh _ _ k1)⟩,h1 F1 r1 _ H1 (.refl F1 r1) R1 (CC k1 k2)⟩
 ·rename_i l;obtain⟨p,vs,rfl,k1,k2⟩:=d1;exact .inr ⟨p,rfl,⟨vs,.of (R1.fh _ _ k1)⟩,h1 F1 r1 _ H1 (.refl F1 r1) R1 (DI k1 k2)⟩
 ·exact h1.elim
theorem Oc {v:Int}(hg:Gl X x) (hm:∃ t,X.mg x=some (.int v t)) (hd:(x==("__debug__":Str))=false:=by decide):PD X T Z (.Name x pos) (dC (.int v)):=by
 obtain⟨t,hm⟩:=hm;exact Cs (Nu (v:=.int v) hg hm ⟨t,rfl⟩ hd) λ_=>rfl
end
noncomputable def KY (XN:List Str) (sc cs:Scope) (N:List Str) (src:List (Option Nat)):Bool :=
 decide (cs.kind=.function)&&decide (cs.names.map (·.1)).Nodup&&cs.names.all (λy=>decide (y.2=.local->cs.names.lookup y.1=some .local)) &&
 cs.names.all (λy=>decide (y.2=.free->(sc.names.lookup y.1=some .cell \/ sc.names.lookup y.1=some .free)))&&decide (src.length=N.length) &&
 (List.range src.length).all λj=>match src[j]?,N[j]? with
  |some (some i),some x=>decide (XN[i]?=some x /\ cs.names.lookup x=some .free)
  |_,_=>true
theorem DJ {XN:List Str}{src:List (Option Nat)}{sc cs:Scope}(hX:∀ x,X.env.kindOf x=sc.names.lookup x) (hN:X.N=XN) (h:KY XN sc cs N src=true):kJ X N src cs:=by
 subst hN;unfold KY at h;simp only[aA,decide_eq_true_eq,bR]at h;obtain⟨⟨⟨⟨⟨h1,h2⟩,h3⟩,h4⟩,h5⟩,h6⟩:=h;refine⟨h1,h2,λy hy=>h3 y hy,λy hy hf=>?_,h5,λj i x e1 e2=>?_⟩
 ·rw[hX];exact h4 y hy hf
 ·have q:=h6 j (kl.mpr (List.getElem?_eq_some_iff.mp e1).1);rw[e1,e2]at q;exact of_decide_eq_true q
section
variable (P : Program) (w : World) (K : PySem.W.Frag) (mg : Str -> Option Value) (base : Heap) (cl : Nat -> Addr)
def pU (k:Nat) (x:Str) (ps:List Str) (fn:List W->List Bx->O W):Prop :=
 ∃ (f:Addr) (fd:FuncData),eO P w K mg base (nU P w) k f fd ps (rD cl ps.length fn) /\ mg x=some (.ref f) /\ PySem.W.keepIn K (.ref f)=true /\ Binds K fd ps [] /\ ∃ o:Obj,K.lookup f=some o /\ o.data=.func fd
def Def (x:Str) (st:Stmt) (ps:List Str):Prop:=∃ (f:Addr) (fd:FuncData),nS K x x st f fd /\ mg x=some (.ref f) /\ Binds K fd ps []
end
section
variable {ps : List Str} {m : ai} {nn kk : Nat}
theorem _root_.L2.nS.obj {qual:Str}{f:Addr}(F:nS K x qual st f fd):∃ o:Obj,K.lookup f=some o /\ o.data=.func fd:=by
 obtain⟨⟨oc,od,kV,doc,pm,an,aZ,ct,nG,_,l,_⟩,_⟩:=F;exact⟨_,l,rfl⟩
theorem Sf (d:Def K mg x st ps) (S:vM N ps (fL st))
 (ud:∀ (f:Addr) (aZ:Value) (A:Around) (outer:List Env) (s:Shared) (H:Hp) (E:XK) (n:Nat) (F0:Hp),cw k (A.deeper (envOfC x (fL st) s.heap.objs.size f aZ)) ->
  pO (sF xi P w K mg base N x (fL st) f aZ A outer s H E).vH ⟨H,n,F0⟩ ⟨E0,cl⟩ (gT st) m) (hn:N.length=nn:=by rfl) (aci:k+1=kk:=by rfl):pU P w K mg base cl kk x ps (aQ nn (aH m)):=by
 subst hn aci;obtain⟨f,fd,F,hm,hb⟩:=d;exact⟨f,fd,TM F S (λaZ A outer s H E n F0 hr=>ud f aZ A outer s H E n F0 hr),hm,F.kp,hb,F.obj⟩
end
section
variable {es : List Expr} {p : Pos} {k' : Nat} {ps : List Str} {m : DE (List W)} {nn : Nat}
theorem Sg (h:pU X.prog X.w X.K X.mg X.base Z.cl k x ps fn) (hr:cw k' X.A) (hk:k<=k') (hg:Gl X x) (hx:Passes (nU X.prog X.w) X Z.E) (ha:cc X T Z (e::es) m) (cx:(x==("__debug__":Str))=false:=by decide)
 (he:starEach (e::es) X.env=(false,eval e X.env)::starEach es X.env:=by rfl) (ed:(backTo pos (starEach es X.env)).any (·.1)=false:=by rfl) (hn:ps.length=nn:=by rfl):PD X T Z (.Call (.Name x p) (e::es) [] pos) (fj fn nn m):=by
 subst hn;obtain⟨f,fd,G,hm,acj,hb,_⟩:=h;exact NS G (hr.mono hk) hg hm acj hb hx ha cx he ed
end
end L2.DL
namespace HT
open PySem PySem.Spec PyProof.Rows
structure SB (kd:SortKind) (b:Array Keyed) (z:SortSt):Prop where
 pm:(arrOf z).Perm b
 kd:kindOf z=kd
 fl:failedOf z=none
 pn:pendingOf z=#[]
theorem SB.len {kd:SortKind}{b:Array Keyed}{z:SortSt}(g:SB kd b z):(arrOf z).size=b.size:=g.pm.size_eq
theorem SB.put {kd:SortKind}{b:Array Keyed}{z:SortSt}(g:SB kd b z) {c:Array Keyed}(q:c.Perm (arrOf z)):SB kd b (setArr z c):=⟨q.trans g.pm,g.kd,g.fl,g.pn⟩
section
def rL (prog:Program) (w:World) (A:Around) (E:Value->Shared->Prop) (s:Shared) (κ:KeyKind) (kd:SortKind) (b:Array Keyed):Prop :=
 ∀ (x y:Keyed),x∈b.toList->y∈b.toList->∀ (Q:Bool->Shared->Prop) (E':Value->Shared->Prop),Q (κ.blt ((κ.keyOf x.1).getD κ.dflt) ((κ.keyOf y.1).getD κ.dflt)) s->wpAny (model prog w) A (keyLt' kd x.1 y.1) Q E' s
variable {κ : KeyKind} {kd : SortKind} {b : Array Keyed}
noncomputable abbrev kx (κ:KeyKind) (z:SortSt) (i:Nat):κ.α:=KK κ (arrOf z) i
theorem SB.item {z:SortSt}(g:SB kd b z) (hi:i<b.size):∃ x,(arrOf z)[i]?=some x /\ x∈b.toList /\ kx κ z i=(κ.keyOf x.1).getD κ.dflt:=by
 have hz:i<(arrOf z).size:=g.len▸hi;refine⟨(arrOf z)[i],getElem?_pos _ i hz,(Array.perm_iff_toList_perm.mp g.pm).mem_iff.mp (by simp),?_⟩;simp only[kx,KK,getElem?_pos (arrOf z) i hz]
theorem ask (C:rL prog w A E s κ kd b) {z:SortSt}(g:SB kd b z) (hi:i<b.size) (hj:j<b.size) {Q:Option Bool->SortSt->Prop}
 (q:Q (some (κ.blt (kx κ z i) (kx κ z j))) z):wpS (model prog w) A E s (ltAt' i j) Q z:=by
 obtain⟨x,ex,mx,ack⟩:=g.item (κ:=κ) hi;obtain⟨y,ey,my,acm⟩:=g.item (κ:=κ) hj;rw[ack,acm]at q;rw[ltAt'_eq];refine bM (vv ?_);dsimp only;rw[elem'_eq,elem'_eq,ex,ey];refine bM (cV (bM (cV ?_)));rw[lt'_eq];refine bM (vv ?_);rw[g.kd];exact bM (Im (rX (C x y mx my _ _ ⟨rfl,cV q⟩)))
def Up (κ:KeyKind) (z:SortSt) (n:Nat):Prop:=∀ i j,i<=j->j<n->κ.kle (kx κ z i) (kx κ z j)
def Dn (κ:KeyKind) (z:SortSt) (n:Nat):Prop:=∀ i j,i<=j->j<n->κ.kle (kx κ z j) (kx κ z i)
theorem Up.one {z:SortSt}(h:n<=1):Up κ z n:=λi j a c=>by
 have e:i=j:=by omega
 subst e;exact vB _
theorem Up.more {z:SortSt}(u:Up κ z n) (h:1<=n) (l:κ.kle (kx κ z (n-1)) (kx κ z n)):Up κ z (n+1):=λi j a c=>by
 rcases qN j n with c'|c'
 ·exact u i j a c'
 obtain rfl:j=n:=by omega
 rcases qN i j with a'|a'
 ·exact zp (u i (j-1) (by omega) (by omega)) l
 ·obtain rfl:i=j:=by omega
  exact vB _
theorem Dn.more {z:SortSt}(u:Dn κ z n) (h:1<=n) (l:κ.kle (kx κ z n) (kx κ z (n-1))):Dn κ z (n+1):=λi j a c=>by
 rcases qN j n with c'|c'
 ·exact u i j a c'
 obtain rfl:j=n:=by omega
 rcases qN i j with a'|a'
 ·exact zp l (u i (j-1) (by omega) (by omega))
 ·obtain rfl:i=j:=by omega
  exact vB _
theorem asc (C:rL prog w A E s κ kd b) {z:SortSt}(g:SB kd b z) {a:Nat}(hn:n<=b.size) (h1:1<=a) (h2:a<=n) (u:Up κ z a) {Q:AscSt->SortSt->Prop}
 (q:∀ m,a<=m->m<=n->Up κ z m->(m<n->κ.klt (kx κ z m) (kx κ z (m-1)))->Q (none,m) z):wpS (model prog w) A E s (ascLoop a n) Q z:=by
 unfold ascLoop;refine vw (I:=λm c y=>y=z /\ c=(none,m) /\ Up κ z m) ?_ ?_ ⟨rfl,rfl,u⟩
 ·intro m c y g1 g2 ⟨e1,e2,u'⟩;subst e1;subst e2;refine bM (ask C g (show m<b.size by omega) (show m-1<b.size by omega) ?_);cases e:κ.blt (kx κ y m) (kx κ y (m-1)) with
  |true=>exact cV (q m g1 (ke g2) u' λ_=>e)
  |false=>exact cV ⟨rfl,rfl,u'.more (by omega) e⟩
 ·intro c y ⟨e1,e2,u'⟩;subst e1;subst e2;rw[VY h2]at u' ⊢;exact q n h2 (ak n) u' λh=>absurd h (dO n)
theorem FT {z:SortSt}(hj:j<=(arrOf z).size):kx κ (setArr z (mirror (arrOf z) i j ((j-i) / 2))) k=if i<=k /\ k<j then kx κ z (i+j-1-k) else kx κ z k:=KK_mirror (κ:=κ) hj k
theorem lJ {z:SortSt}(hj:j<=(arrOf z).size) (e:∀ k,i<=k->k<j->kx κ z k=kx κ z (j-1)) (k:Nat):kx κ (setArr z (mirror (arrOf z) i j ((j-i) / 2))) k=kx κ z k:=KK_mirror_equal (κ:=κ) hj e k
def Ends (prog:Program) (w:World) (A:Around) (E:Value->Shared->Prop) (s:Shared) (κ:KeyKind) (kd:SortKind) (b:Array Keyed) (n:Nat) (Q:Option Nat->SortSt->Prop):Prop :=
 ∀ m y,SB kd b y->1<=m->m<=n->Up κ y m->Q (some m) y
theorem turned (C:rL prog w A E s κ kd b) {z:SortSt}(g:SB kd b z) {a:Nat}(hn:n<=b.size) (h1:1<=a) (h2:a<=n) (d:Dn κ z a) {Q:Option Nat->SortSt->Prop}(q:Ends prog w A E s κ kd b n Q) :
 wpS (model prog w) A E s (tail3 a n) Q z:=by
 have hz:a<=(arrOf z).size:=g.len▸bc h2 hn;have g':SB kd b (setArr z (mirror (arrOf z) 0 a ((a-0) / 2))):=g.put (zk _ _ _ _);unfold tail3;refine bM (zm (bM (asc C g' hn h1 h2 (λi j c1 c2=>?_) λm m1 m2 um _=>cV (q m _ g' (bc h1 m1) m2 um))));rw[FT hz,FT hz,if_pos ⟨cT i,by omega⟩,if_pos ⟨cT j,c2⟩];exact d _ _ (by omega) (by omega)
def Alike (κ:KeyKind) (z:SortSt) (m e:Nat):Prop:=e+1<=m /\ ∀ i,m-(e+1)<=i->i<m->kx κ z i=kx κ z (m-1)
theorem Alike.zero {z:SortSt}{m:Nat}(h:1<=m):Alike κ z m 0:=⟨h,λi h1 h2=>by rw[show i=m-1 by omega]⟩
theorem desc (C:rL prog w A E s κ kd b) {z:SortSt}(g:SB kd b z) {a:Nat}(hn:n<=b.size) (h1:1<=a) (h2:a<=n) (d:Dn κ z a) {Q:DescSt->SortSt->Prop}
 (q:∀ m e y,SB kd b y->a<=m->m<=n->Dn κ y m->Alike κ y m e->Q (none,m,e) y):wpS (model prog w) A E s (descLoop a n) Q z:=by
 unfold descLoop;refine vw (I:=λm c y=>∃ e,c=(none,m,e) /\ SB kd b y /\ Dn κ y m /\ Alike κ y m e) ?_ ?_ ⟨0,rfl,g,d,.zero h1⟩
 ·intro m c y g1 g2 ⟨e,ec,gy,dy,al⟩;subst ec;have hm:m<=(arrOf y).size:=by rw[gy.len];omega
  refine bM (ask C gy (show m<b.size by omega) (show m-1<b.size by omega) ?_);cases t:κ.blt (kx κ y m) (kx κ y (m-1)) with
  | true =>
    have d':Dn κ y (m+1):=dy.more (by omega) (zq t);dsimp only;rw[if_pos rfl];by_cases he:e>0
    ·rw[if_pos he];refine bM (zm (cV ⟨0,rfl,gy.put (zk _ _ _ _),λi j c1 c2=>?_,.zero (by omega)⟩));rw[lJ hm al.2,lJ hm al.2];exact d' i j c1 c2
    ·rw[if_neg he];exact cV ⟨0,rfl,gy,d',.zero (by omega)⟩
  | false =>
    dsimp only;rw[if_neg (by simp)];refine bM (ask C gy (show m-1<b.size by omega) (show m<b.size by omega) ?_);cases t2:κ.blt (kx κ y (m-1)) (kx κ y m) with
    |true=>exact cV (q m e y gy g1 (by omega) dy al)
    | false =>
      have eq:kx κ y m=kx κ y (m-1):=WY t2 t;refine cV ⟨e+1,rfl,gy,dy.more (by omega) t2,by have:=al.1;omega,λi c1 c2=>?_⟩;rw[show m+1-1=m by omega];by_cases hi:i=m
      ·rw[hi]
      ·rw[eq];exact al.2 i (by omega) (by omega)
 ·intro c y ⟨e,ec,gy,dy,al⟩;subst ec;rw[VY h2]at dy al ⊢;exact q n e y gy h2 (ak n) dy al
theorem fall (C:rL prog w A E s κ kd b) {z:SortSt}(g:SB kd b z) {a:Nat}(hn:n<=b.size) (h2:a+1<=n) (d:Dn κ z (a+1)) {Q:Option Nat->SortSt->Prop}(q:Ends prog w A E s κ kd b n Q) :
 wpS (model prog w) A E s (descPart a n) Q z:=by
 unfold descPart;refine bM (Im (h9 ⟨rfl,bM (desc C g hn (Nat.succ_pos a) h2 d λm e y gy m1 m2 dy al=>?_)⟩));dsimp only;by_cases he:e>0
 ·rw[if_pos he];have hm:m<=(arrOf y).size:=by rw[gy.len];omega
  refine bM (zm (turned C (gy.put (zk _ _ _ _)) hn (by omega) m2 (λi j c1 c2=>?_) q));rw[lJ hm al.2,lJ hm al.2];exact dy i j c1 c2
 ·rw[if_neg he];exact turned C gy hn (by omega) m2 dy q
theorem count (C:rL prog w A E s κ kd b) {z:SortSt}(g:SB kd b z) (hn:n<=b.size) (h1:1<=n) {Q:Option Nat->SortSt->Prop}(q:Ends prog w A E s κ kd b n Q) :
 wpS (model prog w) A E s (countRun' 0 n) Q z:=by
 rw[countRun0_eq];refine bM (asc C g hn (ak 1) h1 (.one (ak 1)) λm m1 m2 um last=>?_);dsimp only;by_cases hm:m=n
 ·rw[if_pos (by simp[hm])];exact cV (q m z g m1 m2 um)
 rw[if_neg (by simp[hm])];have lt:=last (by omega);by_cases h3:m>1
 ·rw[if_pos h3];refine bM (ask C g (show 0<b.size by omega) (show m-1<b.size by omega) ?_);cases t:κ.blt (kx κ z 0) (kx κ z (m-1)) with
  |true=>exact cV (q m z g m1 m2 um)
  | false =>
    dsimp only;rw[if_neg (by simp)];have al:∀ k,0<=k->k<m->kx κ z k=kx κ z (m-1):=λk _ hk =>
     WY (um k (m-1) (by omega) (by omega)) (zp t (um 0 k (cT k) hk))
    have hz:m<=(arrOf z).size:=by rw[g.len];omega
    refine bM (zm (fall C (g.put (zk _ _ _ _)) hn (by omega) (λi j c1 c2=>?_) q));rw[lJ hz al,lJ hz al];have d0:Dn κ z m:=λi j c1 c2=>by rw[al i (cT _) (by omega),al j (cT _) c2];exact vB _
    exact d0.more m1 (zq lt) i j c1 c2
 ·rw[if_neg h3];obtain rfl:m=1:=by omega
  have d0:Dn κ z 1:=λi j c1 c2=>by
   obtain rfl:i=j:=by omega
   exact vB _
  exact fall C g hn (by omega) (d0.more (ak 1) (zq lt)) q
end
section
variable {κ : KeyKind} {kd : SortKind} {b : Array Keyed}
def Fits (κ:KeyKind) (z:SortSt) (k l r:Nat):Prop:=(∀ i,i<l->κ.kle (kx κ z i) (kx κ z k)) /\ ∀ i,r<=i->i<k->κ.klt (kx κ z k) (kx κ z i)
theorem FU {z:SortSt}{l:Nat}(hk:k<(arrOf z).size) (hl:l<=k):kx κ (setArr z (bubble (arrOf z) k (k-l))) i=if i=l then kx κ z k else if l<i /\ i<=k then kx κ z (i-1) else kx κ z i:=by
 have e:=KK_bubble (κ:=κ) hk (Nat.sub_le k l) i;rw[show k-(k-l)=l by omega]at e;exact e
theorem Up.insert {z:SortSt}{l:Nat}(u:Up κ z k) (hk:k<(arrOf z).size) (hl:l<=k) (f:Fits κ z k l l):Up κ (setArr z (bubble (arrOf z) k (k-l))) (k+1):=by
 intro i j c1 c2;rw[FU hk hl,FU hk hl];by_cases i1:i=l
 ·rw[if_pos i1];by_cases j1:j=l
  ·rw[if_pos j1];exact vB _
  ·rw[if_neg j1,if_pos ⟨by omega,by omega⟩];exact zq (f.2 _ (by omega) (by omega))
 ·rw[if_neg i1];by_cases i2:l<i /\ i<=k
  ·rw[if_pos i2,if_neg (by omega),if_pos ⟨by omega,by omega⟩];exact u _ _ (by omega) (by omega)
  ·rw[if_neg i2];by_cases j1:j=l
   ·rw[if_pos j1];exact f.1 i (by omega)
   ·rw[if_neg j1];by_cases j2:l<j /\ j<=k
    ·rw[if_pos j2];exact u _ _ (by omega) (by omega)
    ·rw[if_neg j2];exact u _ _ c1 (by omega)
theorem acn (C:rL prog w A E s κ kd b) {z:SortSt}(g:SB kd b z) {m:Nat}(hn:n<=b.size) (hm:m<=n) (u:Up κ z m) {Q:Bool->SortSt->Prop}(q:∀ y,SB kd b y->Up κ y n->Q true y) :
 wpS (model prog w) A E s (binarySort' 0 n m) Q z:=by
 rw[binarySort'_eq];simp only[nJ];refine bM (zo (Q:=λc y=>c=(none,()) /\ SB kd b y /\ Up κ y n) (vw (I:=λk c y=>c=(none,()) /\ SB kd b y /\ Up κ y (min k n)) ?_ ?_ ?_) ?_)
 ·intro k c y k1 k2 ⟨ec,gy,uy⟩;subst ec;rw[yQ (ke k2)]at uy;have kb:k<b.size:=by omega
  have ks:k<(arrOf y).size:=by rw[gy.len];exact kb
  refine bM (zo (Q:=λc y'=>y'=y /\ ∃ l r,c=(none,l,r) /\ l<=k /\ Fits κ y k l l) (vw (I:=λx c y'=>y'=y /\ ∃ l r,c=(none,l,r) /\ l<=r /\ r<=k /\ r-l<=k-x /\ Fits κ y k l r) ?_ ?_ ?_) ?_)
  ·intro x c y' _ x2 ⟨ey,l,r,ec,p1,p2,p3,f⟩;subst ey;subst ec;dsimp only;by_cases lr:l>=r
   ·rw[if_pos lr];obtain rfl:l=r:=by omega
    exact cV ⟨rfl,l,l,rfl,p2,f⟩
   rw[if_neg lr];refine bM (ask C gy kb (show (l+r) / 2<b.size by omega) ?_);cases t:κ.blt (kx κ y' k) (kx κ y' ((l+r) / 2)) with
   |true=>exact cV ⟨rfl,l,(l+r) / 2,rfl,by omega,by omega,by omega,f.1,λi i1 i2=>KeyOrd.klt_of_klt_of_kle t (uy _ _ i1 i2)⟩
   |false=>exact cV ⟨rfl,(l+r) / 2+1,r,rfl,by omega,by omega,by omega,λi i1=>zp (uy i ((l+r) / 2) (by omega) (by omega)) t,f.2⟩
  ·intro c y' ⟨ey,l,r,ec,p1,p2,p3,f⟩;obtain rfl:l=r:=by omega
   exact⟨ey,l,l,ec,p2,f⟩
  ·exact⟨rfl,0,k,rfl,cT k,ak k,ak _,λi hi=>absurd hi (ve i),λi i1 i2=>absurd i2 (by omega)⟩
  ·intro c y' ⟨ey,l,r,ec,p,f⟩;subst ey;subst ec;show wpS _ _ _ _ (moveDown' k l >>= λ_=>pure (ForInStep.yield (none,()))) _ _;rw[moveDown'_eq];refine bM (Io (cV ⟨rfl,gy.put (bubble_perm _ _ _),?_⟩));rw[yQ k2];exact uy.insert ks p f
 ·intro c y ⟨ec,gy,uy⟩;rw[show min (max (max m 1) n) n=n by omega]at uy;exact⟨ec,gy,uy⟩
 ·refine⟨rfl,g,?_⟩;rcases qN m 1 with m0|m0
  ·exact .one (by omega)
  ·rw[show min (max m 1) n=m by omega];exact u
 ·intro c y ⟨ec,gy,uy⟩;subst ec;exact cV (q y gy uy)
def Ef (κ:KeyKind) (b:Array Keyed) (y:SortSt):Prop:=(arrOf y).Perm b /\ failedOf y=none /\ pendingOf y=#[(0,b.size,0)] /\ Up κ y b.size
theorem SB.fin {y:SortSt}(g:SB kd b y) (u:Up κ y b.size):Ef κ b (setPending y ((pendingOf y).push (0,b.size,0))):=⟨g.pm,g.fl,by show (pendingOf y).push _=_;rw[g.pn];rfl,u⟩
theorem runs (C:rL prog w A E s κ kd b) {z:SortSt}(g:SB kd b z) (h2:2<=b.size) (cB:b.size<64) {Q:Unit->SortSt->Prop}(q:∀ y,(arrOf y).Perm b->failedOf y=none->Up κ y b.size->Q () y) :
 wpS (model prog w) A E s sortRuns' Q z:=by
 have mr:minRun' b.size b.size 0=b.size:=by
  obtain⟨f,e⟩:=Nat.exists_eq_add_of_lt (show 0<b.size by omega);have:minRun' (0+f+1) b.size 0=b.size:=by rw[minRun'_succ,if_pos cB];rfl
  rw[<-e]at this;exact this
 rw[sortRuns'_eq];refine bM (vv ?_);dsimp only;simp only[g.len,mr];refine bM (zo (Q:=λc y=>c=(none,b.size) /\ Ef κ b y)
  (vw (I:=λx c y=>if x=0 then c=(none,0) /\ SB kd b y else c=(none,b.size) /\ Ef κ b y) ?_ ?_ (by rw[if_pos rfl];exact⟨rfl,g⟩)) ?_)
 ·intro x c y _ x2 I;by_cases x0:x=0
  ·rw[if_pos x0]at I;obtain⟨ec,gy⟩:=I;subst ec;subst x0;dsimp only;rw[if_neg (by omega)];simp only[yO,Nat.min_self,nJ];have fin:∀ y',SB kd b y'->Up κ y' b.size->(if (1:Nat)=0 then ((none:Option PUnit),b.size)=(none,0) /\ SB kd b (setPending y' ((pendingOf y').push (0,b.size,0))) else ((none:Option PUnit),b.size)=(none,b.size) /\ Ef κ b (setPending y' ((pendingOf y').push (0,b.size,0)))):=
    λy' g' u'=>by rw[if_neg (by omega)];exact⟨rfl,g'.fin u'⟩
   refine bM (count C gy (ak _) (by omega) λm y1 g1 m1 m2 u1=>?_);dsimp only;by_cases lt:m<b.size
   ·rw[if_pos lt];refine bM (Im (h9 ⟨rfl,bM (acn C g1 (ak _) m2 u1 λy3 g3 u3=>?_)⟩));rw[if_neg (by simp)];refine bM (vv ?_);rw[show (pendingOf y3).back?=none by rw[g3.pn];rfl];exact bM (Io (cV (fin y3 g3 u3)))
   ·rw[if_neg lt];obtain rfl:m=b.size:=by omega
    refine bM (vv ?_);rw[show (pendingOf y1).back?=none by rw[g1.pn];rfl];exact bM (Io (cV (fin y1 g1 u1)))
  ·rw[if_neg x0]at I;obtain⟨ec,fy⟩:=I;subst ec;dsimp only;rw[if_pos (ak _)];exact cV ⟨rfl,fy⟩
 ·intro c y I;rw[if_neg (by omega)]at I;exact I
 ·intro c y ⟨ec,fy⟩;subst ec;dsimp only;refine bM (zo (Q:=λc y'=>y'=y /\ c=(none,())) (vw (I:=λ_ c y'=>y'=y /\ c=(none,())) ?_ (λ_ _ h=>h) ⟨rfl,rfl⟩) ?_)
  ·intro x c y' _ _ ⟨e1,e2⟩;subst e1;subst e2;refine bM (vv ?_);rw[if_pos (by rw[fy.2.2.1];exact ak 1)];exact cV ⟨rfl,rfl⟩
  ·intro c y' ⟨e1,e2⟩;subst e1;subst e2;exact cV (q _ fy.1 fy.2.1 fy.2.2.2)
end
def qE (h:Heap) (v:Value) (ns:List Int):Prop:=∃ a vs,v=.ref a /\ IsTup h a vs.toArray /\ IntsAre vs ns /\ ns≠[]
theorem lc:∀ {vs:List Value}{ns ms:List Int},IntsAre vs ns->IntsAre vs ms->ns=ms
 |_,_,_,.nil,.nil=>rfl
 |_,_,_,.cons n t h,g=>by cases g with|cons _ _ g=>rw[lc h g]
theorem qE.inj {v:Value}{ms:List Int}(p:qE h v ns) (q:qE h v ms):ns=ms:=by
 obtain⟨a,vs,rfl,⟨o,e1,_,n,e2⟩,i1,_⟩:=p;obtain⟨a',rn,e,⟨o',f1,_,n',f2⟩,i2,_⟩:=q;cases e;rw[e1]at f1;cases f1;rw[e2]at f2;injection f2 with g _;have:vs=rn:=by simpa using g
 subst this;exact lc i1 i2
theorem iU:∀ a,lexLt a a=false
 |[]=>rfl
 |x::a=>by rw[fG,if_pos rfl];exact iU a
theorem lg:∀ a b c,lexLt a b=true->lexLt b c=true->lexLt a c=true
 |[],[],_,h,_=>by cases h
 |[],_::_,[],_,h=>by cases h
 |[],_::_,_::_,_,_=>rfl
 |_::_,[],_,h,_=>by cases h
 |_::_,_::_,[],_,h=>by cases h
 | x::a,y::b,z::c,h,g=>by
   rw[fG]at *;by_cases e1:x=y
   ·subst e1;rw[if_pos rfl]at h;by_cases e2:x=z
    ·subst e2;rw[if_pos rfl]at g ⊢;exact lg a b c h g
    ·rw[if_neg e2]at g ⊢;exact g
   ·rw[if_neg e1]at h;by_cases e2:y=z
    ·subst e2;rw[if_neg e1];exact h
    ·rw[if_neg e2]at g;have h':=of_decide_eq_true h;have g':=of_decide_eq_true g;rw[if_neg (by omega)];exact decide_eq_true (by omega)
theorem iV:∀ a b,lexLt a b=false->lexLt b a=false->a=b
 |[],[],_,_=>rfl
 |[],_::_,h,_=>by cases h
 |_::_,[],_,h=>by cases h
 | x::a,y::b,h,g=>by
   rw[fG]at *;by_cases e:x=y
   ·subst e;rw[if_pos rfl]at h g;rw[iV a b h g]
   ·rw[if_neg e]at h;rw[if_neg (Ne.symm e)]at g;have h':=of_decide_eq_false h;have g':=of_decide_eq_false g;omega
theorem oj (a b c:List Int) (h:lexLt a c=true):lexLt a b=true \/ lexLt b c=true:=by
 cases e:lexLt a b with
 |true=>exact .inl rfl
 | false =>
   refine .inr ?_;cases f:lexLt b a with
   |true=>exact lg b a c f h
   |false=>rw[<-iV a b e f];exact h
open Classical in
noncomputable def afh (h:Heap):KeyKind where
 α:=List Int
 blt:=lexLt
 irrefl:=iU
 trans:=lg
 negTrans:=oj
 total:=iV
 keyOf v:=if p:∃ ns,qE h v ns then some p.choose else none
 dflt:=[]
theorem DM {x y:Int}{t u:Tok}(k:Bool) {Q:Bool->Shared->Prop}(h:Q (decide (x<y)) s):wpAny (model prog w) A (oneLt' k (.int x t) (.int y u)) Q E s:=by
 cases k with
 |true=>exact oneLt_int h
 | false =>
   rw[oneLt'_eq];rw[if_neg (by simp)];exact ae (show wpAny (model prog w) A (richCompare .Lt (.int x t) (.int y u)) _ E s from(WD (k7 h):wpAny (model prog w) A (compareOp .Lt (.int x t) (.int y u)) _ E s))
theorem BQ (f:Bool) (x y:Value):keyLt' (tuples' f) x y=(do
 let xs <-Builtin.List.listItems x
 let ys <-Builtin.List.listItems y
 for ((p,q),i) in (xs.toList.zip ys.toList).zipIdx do
  if !(<-eqBool p q) then return <-oneLt' (f&&i==0) p q
 return decide (xs.size<ys.size)):=rfl
structure KP (P:Heap->Value->List Int->Prop):Prop where
 inj:∀ {h:Heap}{v:Value}{ns ms:List Int},P h v ns->P h v ms->ns=ms
 push:∀ {h:Heap}{v:Value}{ns:List Int},P h v ns->∀ o:Obj,P (h.push o) v ns
 upd:∀ {h:Heap}{v:Value}{ns:List Int},P h v ns->∀ {l:Addr}{xs:Array Value}{n:Nat},h.get? l=some (seqObj "list" xs n)->∀ f:Obj->Obj,P (h.update l f) v ns
theorem qE.push {h:Heap}{v:Value}{ns:List Int}(p:qE h v ns) (o:Obj):qE (h.push o) v ns:=by
 obtain⟨a,vs,e,⟨u,e1,e2⟩,k⟩:=p;exact⟨a,vs,e,⟨u,aC _ e1,e2⟩,k⟩
theorem qE.upd {v:Value}(p:qE h v ns) {l:Addr}{xs:Array Value}(hl:h.get? l=some (seqObj "list" xs n)) (f:Obj->Obj):qE (h.update l f) v ns:=by
 obtain⟨a,vs,e,⟨u,e1,e2,e3⟩,k⟩:=p;refine⟨a,vs,e,⟨u,?_,e2,e3⟩,k⟩;by_cases q:l=a
 ·subst q;rw[hl]at e1;cases e1;injection (show Value.type "list"=Value.type "tuple" from e2) with e4;exact absurd e4 (by decide)
 ·rw[V8 _ _ _ _ (Ne.symm q)];exact e1
section
variable {P : Heap -> Value -> List Int -> Prop} (KQ : KP P)
open Classical in
noncomputable def rM (P:Heap->Value->List Int->Prop) (h:Heap):KeyKind where
 α:=List Int
 blt:=lexLt
 irrefl:=iU
 trans:=lg
 negTrans:=oj
 total:=iV
 keyOf v:=if p:∃ ns,P h v ns then some p.choose else none
 dflt:=[]
include KQ in
open Classical in
theorem oU {v:Value}(p:P h v ns):((rM P h).keyOf v).getD []=ns:=by
 have e:∃ ns,P h v ns:=⟨ns,p⟩;show (if p:∃ ns,P h v ns then some p.choose else none).getD []=ns;rw[dif_pos e];exact KQ.inj e.choose_spec p
def uI (P:Heap->Value->List Int->Prop) (h:Heap) (vs:List Value):Prop:=vs.Pairwise λx y=>∀ ns ms,P h x ns->P h y ms->lexLt ms ns=false
def KZ (P:Heap->Value->List Int->Prop) (prog:Program) (w:World) (U:Nat) (s:Shared) (vs:List Value):Prop:=∀ (A:Around) (h':Heap),A.units<=U->(∀ v ns,P s.heap v ns->P h' v ns) ->
 (∀ {Q:SortKind->Shared->Prop}{E:Value->Shared->Prop},Q (tuples' true) { s with heap:=h' }->wpAny (model prog w) A (keyKind' vs.toArray) Q E { s with heap:=h' }) /\ ∀ E,rL prog w A E { s with heap:=h' } (rM P h') (tuples' true) (pairsOf vs)
include KQ
theorem LP (H:∀ v∈vs,∃ ns,P h v ns) (up:∀ v ns,P h v ns->P h' v ns) {z:SortSt}(pm:(arrOf z).Perm (pairsOf vs)) (u:Up (rM P h') z (pairsOf vs).size) :
 ((arrOf z).map (·.2)).toList.Perm vs /\ uI P h ((arrOf z).map (·.2)).toList:=by
 have hl:(arrOf z).toList.Perm (vs.zip vs):=by rw[<-WN];exact Array.perm_iff_toList_perm.mp pm
 have me:∀ p∈(arrOf z).toList,p.1=p.2 /\ p.1∈vs:=λp hp=>Ip (hl.mem_iff.mp hp);rw[Array.toList_map];constructor
 ·have:=hl.map (·.2);rw[Wl (ak _)]at this;exact this
 ·unfold uI;rw[wN,List.pairwise_iff_getElem];intro i j hi hj w9 ns ms p q;have nZ:i<(arrOf z).size:=by simpa using hi
  have pL:j<(arrOf z).size:=by simpa using hj
  have g:=u i j (ke w9) (by rw[<-pm.size_eq];exact pL);have ki:kx (rM P h') z i=ns:=by
   simp only[kx,KK,getElem?_pos (arrOf z) i nZ];rw[WQ,<-(me _ (by simp)).1]at p;exact oU KQ (up _ _ p)
  have kj:kx (rM P h') z j=ms:=by
   simp only[kx,KK,getElem?_pos (arrOf z) j pL];rw[WQ,<-(me _ (by simp)).1]at q;exact oU KQ (up _ _ q)
  rw[ki,kj]at g;exact g
theorem Od {R:Fin->Shared->Prop}(ho:s.heap.get? a=some (seqObj "list" vs.toArray n)) (H:∀ v∈vs,∃ ns,P s.heap v ns) {U:Nat}(hU:A.units<=U) (S:vs≠[]->KZ P prog w U s vs) (cB:vs.length<64)
 (h:∀ out:Array Value,out.toList.Perm vs->uI P s.heap out.toList->R (.done (.ret .none)) { s with heap:=sortedHeap s.heap a vs out }):wpAny (model prog w) A (Builtin.«list.sort» ⟨[.ref a],[]⟩) R E s:=by
 rw[list_sort_plain];have la:a<s.heap.objs.size:=aK ho;refine ae (vt ho rfl (ae (zj ho rfl ?_)));obtain⟨k,xX⟩:∃ k,(s.heap.update a (Obj.mapSeq λ_=>#[])).get? a=some (seqObj "list" #[] k):=⟨_,Ic ho (λ_=>#[])⟩;refine ae (Iq xX rfl (ae (Hu (ae (u7 (cn ?_))))));generalize eh:((s.heap.update a (Obj.mapSeq λ_=>#[])).push (seqObj "tuple" vs.toArray 0)).push (seqObj "list" #[] 0)=h6;have up:∀ v ns,P s.heap v ns->P h6 v ns:=λv ns p=>eh▸KQ.push (KQ.push (KQ.upd p ho _) _) _;have Eg:h6.get? a=some (seqObj "list" #[] k):=by
  rw[<-eh];exact aC _ (aC _ xX)
 have fin:∀ out:Array Value,out.toList.Perm vs->uI P s.heap out.toList->R (.done (.ret .none)) { s with heap:=h6.update a (Obj.mapSeq λ_=>out) }:=λout p q=>by
  rw[<-eh];exact h out p q
 show wpAny (model prog w) A _ R E { s with heap:=h6 };dsimp only;have big:vs.length<=sizeLine+1:=by rw[ba];omega
 by_cases h2:vs.toArray.size<2
 ·rw[if_pos h2,if_pos h2];refine ae (ag ?_);rw[StateT.run_pure];refine ae (ag ?_);dsimp only;have em:(Array.map (λx=>x.2) (vs.toArray.zip vs.toArray))=vs.toArray:=by
   apply Array.toList_inj.mp;simp[Wl]
  rw[em];refine ae (Iq Eg rfl (ae (zj Eg rfl ?_ (hsz2:=by rw[aU];exact big))));rw[bne_self_eq_false];refine ag (fin vs.toArray (List.Perm.refl _) ?_);rw[aU]at h2;unfold uI;match vs,h2 with
  |[],_=>exact List.Pairwise.nil
  |[x],_=>exact List.pairwise_singleton _ _
 ·rw[if_neg h2,if_neg h2];rw[aU]at h2;have ne:vs≠[]:=λe=>by rw[e]at h2;simp at h2
  have H6:∀ v∈vs,∃ ns,P h6 v ns:=λv m=>let ⟨ns,p⟩:=H v m;⟨ns,up v ns p⟩
  refine ae ((S ne A h6 hU up).1 ?_);refine ae (c6 (runs (s:={ s with heap:=h6 }) (κ:=rM P h6) (kd:=tuples' true) (b:=pairsOf vs) (z:=SortSt.mk' (tuples' true) (vs.toArray.zip vs.toArray) #[] 7 none)
   (Q:=λ_ y=>(arrOf y).Perm (pairsOf vs) /\ failedOf y=none /\ Up (rM P h6) y (pairsOf vs).size) ((S ne A h6 hU up).2 _) ⟨Array.Perm.refl _,rfl,rfl,rfl⟩ (by rw[Ir];omega) (by rw[Ir];exact cB) λy a1 a2 a3=>⟨a1,a2,a3⟩) ?_ λ_ _ e=>e)
  rintro⟨⟨⟩,y⟩ s' ⟨es,pm,fl,u⟩;subst es;dsimp only;obtain⟨o1,o2⟩:=LP KQ H up pm u;refine ae (Iq Eg rfl (ae (zj Eg rfl ?_ (hsz2:=by rw[Array.size_map,pm.size_eq,Ir];exact big))));rw[fl,bne_self_eq_false];exact ag (fin _ o1 o2)
theorem Jh {l:Addr}(hl:s.heap.IsList l vs.toArray) (H:∀ v∈vs,∃ ns,P s.heap v ns) {U:Nat}(hU:A.units+8<=U) (S:vs≠[]->KZ P prog w U s vs) (cB:vs.length<64)
 (h:∀ out:Array Value,out.toList.Perm vs->uI P s.heap out.toList->Q (.ref (s.heap.objs.size+1)) { s with heap:=sortedAll s.heap vs out }):wpAny (model prog w) A (call (.builtin "sorted") [.ref l]) Q E s:=by
 refine IE Ie Ig Ih (Ii _) ?_;unfold Builtin.«sorted»;refine ae (m:=checkCount "sorted" 1 1 _) (ag (ae (collect_list hl (ae (u7 ?_)))));generalize eg:(s.heap.push (seqObj "list" #[] 0)).update s.heap.objs.size (Obj.mapSeq (·++vs.toArray))=g;have sg:g.objs.size=s.heap.objs.size+1:=by rw[<-eg,V7,qg]
 have up:∀ v ns,P s.heap v ns->P (g.push (seqObj "list" vs.toArray 0)) v ns:=λv ns p=>by
  rw[<-eg];exact KQ.push (KQ.upd (KQ.push p _) (aR _ rfl) _) _
 have dn:∀ v ns,v∈vs->P (g.push (seqObj "list" vs.toArray 0)) v ns->P s.heap v ns:=λv ns m p=>by
  obtain⟨ms,q⟩:=H v m;rw[KQ.inj p (up v ms q)];exact q
 have gl:(g.push (seqObj "list" vs.toArray 0)).get? (s.heap.objs.size+1)=some (seqObj "list" vs.toArray 0):=by rw[<-sg];exact aR _ rfl
 show wpAny _ _ _ _ _ { s with heap:=g.push (seqObj "list" vs.toArray 0) };rw[sg];refine ae (cn (dr Ij ⟨_,gl,rfl⟩ Ik (Od KQ (s:={ s with heap:=g.push (seqObj "list" vs.toArray 0) }) gl (λv m=>let ⟨ns,p⟩:=H v m;⟨ns,up v ns p⟩) (U:=U) (show A.units+1+1<=U by omega) (λne A h2 hu k=>S ne A h2 hu λv ns p=>k v ns (up v ns p)) cB λout o1 o2=>⟨_,rfl,ag ⟨_,rfl,?_⟩⟩) (Il _)));have:=h out o1 (List.Pairwise.imp (λ{x y} r ns ms p q=>r ns ms (up _ _ p) (up _ _ q)) o2);unfold sortedAll at this;rw[eg]at this;exact this
omit KQ
end
end HT
namespace L2.DL
open PySem PySem.Spec PyProof.Rows
theorem CD:∀ {rs:List Addr}{us:List Value},Vals (rs.map V.ref) us->us=rs.map Value.ref
 |[],_,.nil=>rfl
 | r::rs,_,.cons q t=>by
   cases q;rw[CD t];rfl
end L2.DL
namespace HT
open PySem PySem.Spec PyProof.Rows
inductive aB where
 |i (n:Int)|s (x:Str)|t (ns:List Int)
noncomputable def aB.code:aB->List Int
 |.i n=>[n]
 |.s x=>x.cps.toList.map (λ(c:Nat)=>(c:Int)+1)++[0]
 |.t ns=>ns.flatMap (λn=>[1,n])++[0]
noncomputable def aB.qG:aB->aB->Bool
 |.i _,.i _=>true
 |.s _,.s _=>true
 |.t _,.t _=>true
 |_,_=>false
noncomputable def aI (l:List aB):List Int:=l.flatMap (λd=>1::d.code)++[0]
noncomputable def pV (l m:List aB):Bool:=(l.zip m).all λp=>p.1.qG p.2
theorem CF (r q:List Int):∀ (a b:List Nat),a≠b->lexLt ((a.map λ(c:Nat)=>(c:Int)+1)++[0]++r) ((b.map λ(c:Nat)=>(c:Int)+1)++[0]++q)=decide (a<b)
 |[],[],h=>absurd rfl h
 | [],y::b,_=>by
   show lexLt (0::_) (((y:Int)+1)::_)=_;rw[fG,if_neg (by omega),decide_eq_true (by omega),decide_eq_true (by simp)]
 | x::a,[],_=>by
   show lexLt (((x:Int)+1)::_) (0::_)=_;rw[fG,if_neg (by omega),decide_eq_false (by omega),decide_eq_false (by simp)]
 | x::a,y::b,h=>by
   show lexLt (((x:Int)+1)::_) (((y:Int)+1)::_)=_;rw[fG];by_cases e:x=y
   ·subst e;rw[if_pos rfl];have ih:=CF r q a b (λz=>h (by rw[z]));refine ih.trans ?_;by_cases c:a<b
    ·rw[decide_eq_true c,decide_eq_true (by simpa using c)]
    ·rw[decide_eq_false c,decide_eq_false (by simpa using c)]
   ·rw[if_neg (by omega)];by_cases c:x<y
    ·rw[decide_eq_true (by omega),decide_eq_true (List.cons_lt_cons_iff.mpr (.inl c))]
    ·rw[decide_eq_false (by omega),decide_eq_false ?_];intro z;rcases List.cons_lt_cons_iff.mp z with z|z
     ·omega
     ·omega
theorem CG (r q:List Int):∀ (a b:List Int),a≠b->lexLt (a.flatMap (λn=>[1,n])++[0]++r) (b.flatMap (λn=>[1,n])++[0]++q)=lexLt a b
 |[],[],h=>absurd rfl h
 | [],y::b,_=>by
   show lexLt (0::_) (1::_)=_;rw[fG,if_neg (by omega)];rfl
 | x::a,[],_=>by
   show lexLt (1::_) (0::_)=_;rw[fG,if_neg (by omega)];rfl
 | x::a,y::b,h=>by
   show lexLt (1::x::(a.flatMap (λn=>[1,n])++[0]++r)) (1::y::(b.flatMap (λn=>[1,n])++[0]++q))=_;rw[fG,if_pos rfl,fG,fG];by_cases e:x=y
   ·subst e;rw[if_pos rfl,if_pos rfl];exact CG r q a b λz=>h (by rw[z])
   ·rw[if_neg e,if_neg e]
noncomputable def aB.lt:aB->aB->Bool
 |.i n,.i m=>decide (n<m)
 |.s x,.s y=>decide (x.cps.toList<y.cps.toList)
 |.t n,.t m=>lexLt n m
 |_,_=>false
theorem aB.app (r q:List Int):∀ {a b:aB},a.qG b=true->a≠b->lexLt (a.code++r) (b.code++q)=a.lt b
 | .i n,.i m,_,h=>by
   show lexLt (n::r) (m::q)=_;rw[fG,if_neg (λz=>h (by rw[z]))];rfl
 |.s x,.s y,_,h=>CF r q _ _ λz=>h (by
  obtain⟨⟨a⟩⟩:=x;obtain⟨⟨b⟩⟩:=y;have z':a=b:=z;rw[z'])
 |.t n,.t m,_,h=>CG r q n m λz=>h (by rw[z])
theorem LQ (a r q:List Int):lexLt (a++r) (a++q)=lexLt r q:=by
 induction a with
 |nil=>rfl
 |cons x a ih=>rw[HM,HM,fG,if_pos rfl,ih]
open Classical in
noncomputable def n6:List aB->List aB->Bool
 |[],m=>!m.isEmpty
 |_::_,[]=>false
 |a::l,b::m=>if a=b then n6 l m else a.lt b
theorem FV:∀ (l m:List aB),pV l m=true->lexLt (aI l) (aI m)=n6 l m
 |[],[],_=>rfl
 | [],b::m,_=>by
   show lexLt (0::[]) (1::_)=_;rw[fG,if_neg (by omega)];rfl
 | a::l,[],_=>by
   show lexLt (1::_) (0::[])=_;rw[fG,if_neg (by omega)];rfl
 | a::l,b::m,h=>by
   have h':(a.qG b&&pV l m)=true:=h;rw[aA]at h';have e1:aI (a::l)=1::(a.code++aI l):=by simp[aI]
   have e2:aI (b::m)=1::(b.code++aI m):=by simp[aI]
   rw[e1,e2,fG,if_pos rfl];unfold n6;by_cases c:a=b
   ·rw[if_pos c,c,LQ];exact FV l m h'.2
   ·rw[if_neg c];exact aB.app _ _ h'.1 c
noncomputable def n8 (h:Heap) (v:Value):aB->Prop
 |.i n=>∃ t,v=.int n t
 |.s x=>∃ t,v=.str x t
 |.t ns=>∃ a vs,v=.ref a /\ IsTup h a vs.toArray /\ IntsAre vs ns
inductive nz (h:Heap):List Value->List aB->Prop
 |nil:nz h [] []
 |cons {v:Value}{d:aB}{vs:List Value}{l:List aB}:n8 h v d->nz h vs l->nz h (v::vs) (d::l)
def rN (L:List (List aB)) (h:Heap) (v:Value) (ns:List Int):Prop:=∃ a vs n l,v=.ref a /\ IsTup h a vs.toArray /\ nz h vs (.i n::l) /\ .i n::l∈L /\ ns=aI (.i n::l)
theorem n8.inj {v:Value}:∀ {a b:aB},n8 h v a->n8 h v b->a=b
 |.i n,.i m,⟨t,e⟩,⟨u,f⟩=>by rw[e]at f;cases f;rfl
 |.s n,.s m,⟨t,e⟩,⟨u,f⟩=>by rw[e]at f;cases f;rfl
 | .t n,.t m,⟨a,vs,e,⟨o,e1,_,k,e2⟩,i1⟩,⟨a',rn,f,⟨o',f1,_,k',f2⟩,i2⟩=>by
   rw[e]at f;cases f;rw[e1]at f1;cases f1;rw[e2]at f2;injection f2 with g _;have:vs=rn:=by simpa using g
   subst this;rw[lc i1 i2]
 |.i n,.s m,⟨t,e⟩,⟨u,f⟩=>by rw[e]at f;cases f
 |.s n,.i m,⟨t,e⟩,⟨u,f⟩=>by rw[e]at f;cases f
 |.i n,.t m,⟨t,e⟩,⟨_,_,f,_⟩=>by rw[e]at f;cases f
 |.s n,.t m,⟨t,e⟩,⟨_,_,f,_⟩=>by rw[e]at f;cases f
 |.t n,.i m,⟨_,_,e,_⟩,⟨u,f⟩=>by rw[e]at f;cases f
 |.t n,.s m,⟨_,_,e,_⟩,⟨u,f⟩=>by rw[e]at f;cases f
theorem nz.inj {h:Heap}{vs:List Value}{l m:List aB}(p:nz h vs l) (q:nz h vs m):l=m:=by
 induction p generalizing m with
 |nil=>cases q;rfl
 |cons a _ ih=>cases q with|cons b q=>rw[a.inj b,ih q]
theorem n8.keep {v:Value}{d:aB}(p:n8 h v d) (k:∀ a vs,IsTup h a vs->IsTup h' a vs):n8 h' v d:=by
 cases d with
 |i n=>exact p
 |s x=>exact p
 |t ns=>obtain⟨a,vs,e,t,i⟩:=p;exact⟨a,vs,e,k _ _ t,i⟩
theorem nz.keep {h h':Heap}{vs:List Value}{l:List aB}(p:nz h vs l) (k:∀ a vs,IsTup h a vs->IsTup h' a vs):nz h' vs l:=by
 induction p with
 |nil=>exact .nil
 |cons a _ ih=>exact .cons (a.keep k) ih
theorem CH (o:Obj):∀ a vs,IsTup h a vs->IsTup (h.push o) a vs:=λa vs ⟨u,e1,e2⟩=>⟨u,aC _ e1,e2⟩
theorem FW {l:Addr}{xs:Array Value}(hl:h.get? l=some (seqObj "list" xs n)) (f:Obj->Obj):∀ a vs,IsTup h a vs->IsTup (h.update l f) a vs:=λa vs ⟨u,e1,e2,e3⟩=>by
 refine⟨u,?_,e2,e3⟩;by_cases q:l=a
 ·subst q;rw[hl]at e1;cases e1;injection (show Value.type "list"=Value.type "tuple" from e2) with e4;exact absurd e4 (by decide)
 ·rw[V8 _ _ _ _ (Ne.symm q)];exact e1
theorem K0 (L:List (List aB)):KP (rN L) where
 inj:=by
  rintro h v ns ms ⟨a,vs,n,l,rfl,⟨o,e1,_,k,e2⟩,i1,_,rfl⟩ ⟨a',rn,n',l',e,⟨o',f1,_,k',f2⟩,i2,_,rfl⟩;cases e;rw[e1]at f1;cases f1;rw[e2]at f2;injection f2 with g _;have:vs=rn:=by simpa using g
  subst this;rw[i1.inj i2]
 push:=λ⟨a,vs,n,l,e,t,i,m,c⟩ o=>⟨a,vs,n,l,e,CH o _ _ t,i.keep (CH o),m,c⟩
 upd:=λ⟨a,vs,n,l,e,t,i,m,c⟩ _ _ _ hl f=>⟨a,vs,n,l,e,FW hl f _ _ t,i.keep (FW hl f),m,c⟩
theorem l7:∀ {vs:List Value}{ns:List Int},IntsAre vs ns->ItemsAre (intKind prog w) ns vs
 |_,_,.nil=>.nil
 |_,_,.cons n t h=>.cons (tV _ _ _ _) (l7 h)
open Classical in
theorem TV {v:Value}{a b:aB}(hu:A.units<cLine) (p:n8 s.heap v a) (q:n8 s.heap u b) (hl:a.qG b=true) {Q:Bool->Shared->Prop}(h:Q (decide (a=b)) s):wpAny (model prog w) A (eqBool v u) Q E s:=by
 cases a with
 | i n =>
   cases b with
   | i m =>
     obtain⟨t,rfl⟩:=p;obtain⟨t',rfl⟩:=q;refine Vr ?_;rw[show (n==m)=decide (aB.i n=aB.i m) by by_cases e:n=m<;>simp[e]];exact h
   |_=>cases hl
 | s x =>
   cases b with
   | s y =>
     obtain⟨t,rfl⟩:=p;obtain⟨t',rfl⟩:=q;refine Xi x t y t' prog w E Q ?_;rw[show (x==y)=decide (aB.s x=aB.s y) by by_cases e:x=y<;>simp[e]];exact h
   |_=>cases hl
 | t ns =>
   cases b with
   | t ms =>
     obtain⟨a,vs,rfl,t1,i1⟩:=p;obtain⟨a',us,rfl,t2,i2⟩:=q;obtain⟨o1,x1,x2,k1,x3⟩:=t1;obtain⟨o2,y1,y2,k2,y3⟩:=t2;refine wpAny_eqBool_tuple (knd:=intKind prog w) (x:=ns) (y:=ms) hu ⟨o1,_,k1,x1,x2,x3,l7 i1⟩ ⟨o2,_,k2,y1,y2,y3,l7 i2⟩ ?_;rw[show decide (ns=ms)=decide (aB.t ns=aB.t ms) by by_cases e:ns=ms<;>simp[e]];exact h
   |_=>cases hl
theorem TW {v:Value}{a b:aB}(hu:A.units<cLine) (k:Bool) (hk:k=true->∃ n,a=.i n) (p:n8 s.heap v a) (q:n8 s.heap u b) (hl:a.qG b=true) {Q:Bool->Shared->Prop}(h:Q (a.lt b) s):wpAny (model prog w) A (oneLt' k v u) Q E s:=by
 have gen:∀ {v u:Value}{c:Bool},k=false->(∀ {R:Value->Shared->Prop},R (.bool c) s->wpAny (model prog w) A (compareOp .Lt v u) R E s)->Q c s->wpAny (model prog w) A (oneLt' k v u) Q E s:=λ{v u c} z f h=>by
  rw[oneLt'_eq,z,if_neg (by simp)];exact ae (show wpAny (model prog w) A (richCompare .Lt v u) _ E s from f (k7 h))
 cases a with
 | i n =>
   cases b with
   |i m=>obtain⟨t,rfl⟩:=p;obtain⟨t',rfl⟩:=q;exact DM k h
   |_=>cases hl
 | s x =>
   have z:k=false:=by cases k with|true=>obtain⟨n,e⟩:=hk rfl;cases e|false=>rfl
   cases b with
   |s y=>obtain⟨t,rfl⟩:=p;obtain⟨t',rfl⟩:=q;exact gen z (λr=>lt_str r) h
   |_=>cases hl
 | t ns =>
   have z:k=false:=by cases k with|true=>obtain⟨n,e⟩:=hk rfl;cases e|false=>rfl
   cases b with
   | t ms =>
     obtain⟨a,vs,rfl,t1,i1⟩:=p;obtain⟨a',us,rfl,t2,i2⟩:=q;exact gen z (λr=>Ah t1 t2 (by simpa using i1) (by simpa using i2) hu r) h
   |_=>cases hl
theorem Oe (hu:A.units<cLine) {l m:List aB}(p:nz s.heap vs l) (q:nz s.heap us m) (hl:pV l m=true) (i:Nat) (h0:i=0->∀ d r,l=d::r->∃ n,d=.i n) {R:(Option Bool×PUnit)->Shared->Prop}
 (k:∀ r,(r=(some (n6 l m),PUnit.unit) \/ (r=(none,PUnit.unit) /\ n6 l m=decide (vs.length<us.length)))->R r s) :
 wpAny (model prog w) A (forIn ((vs.zip us).zipIdx i) ((none,PUnit.unit):Option Bool×PUnit) λ(z:(Value×Value)×Nat) _=>(do
  let z1 <-eqBool z.1.1 z.1.2
  if (!z1)=true then do
   let r <-oneLt' (true&&z.2==0) z.1.1 z.1.2
   pure (ForInStep.done (some r,PUnit.unit))
  else pure (ForInStep.yield (none,PUnit.unit)))) R E s:=by
 induction p generalizing us m i with
 | nil =>
   rw[Wc,zd,vm];refine ag (k _ (.inr ⟨rfl,?_⟩));cases q with
   |nil=>rfl
   |cons _ q=>unfold n6;simp
 | @cons v d vs l pa p ih =>
   cases q with
   | nil =>
     rw[Wd,zd,vm];exact ag (k _ (.inr ⟨rfl,by unfold n6;simp⟩))
   | @cons u e us m qa q =>
     have kK:(d.qG e&&pV l m)=true:=hl;rw[aA]at kK;rw[HK,HP,vi];refine ae (ae (TV hu pa qa kK.1 ?_));by_cases c:d=e
     ·subst c;rw[if_neg (by simp)];refine ag (ih q kK.2 (i+1) (λz=>by omega) λr hr=>k r ?_);have:n6 (d::l) (d::m)=n6 l m:=by conv=>lhs;unfold n6;rw[if_pos rfl]
      rw[this];rcases hr with hr|⟨hr,xY⟩
      ·exact .inl hr
      ·exact .inr ⟨hr,by rw[xY];simp⟩
     ·rw[if_pos (by simp[c])];refine ae (TW hu _ (λz=>?_) pa qa kK.1 (ag (ag (k _ (.inl ?_)))))
      ·have:i=0:=by simpa using z
       exact h0 this d l rfl
      ·have:n6 (d::l) (e::m)=d.lt e:=by conv=>lhs;unfold n6;rw[if_neg c]
       rw[this]
theorem Ji {L:List (List aB)}(C:∀ l∈L,∀ m∈L,pV l m=true) {U:Nat}(hU:U<cLine) (H:∀ v∈vs,∃ ns,rN L s.heap v ns) (ne:vs≠[]):KZ (rN L) prog w U s vs:=λA h' hu up=>by
 have H':∀ v∈vs,∃ ns,rN L h' v ns:=λv m=>let ⟨ns,p⟩:=H v m;⟨ns,up v ns p⟩
 refine⟨λ{Q E} h=>?_,λE=>?_⟩
 ·have aco:∀ (us:List Value),(∀ v∈us,∃ ns,rN L h' v ns)->∀ {Q:List (Option Value)->Shared->Prop}{E:Value->Shared->Prop},(∀ (ws:List Value) (is:List Int),ws.length=us.length->IntsAre ws is->Q (ws.map some) { s with heap:=h' })->wpAny (model prog w) A (us.mapM firstOfTuple') Q E { s with heap:=h' }:=by
   intro us;induction us with
   |nil=>intro _ Q E k;rw[List.mapM_nil];exact ag (k [] [] rfl .nil)
   | cons u us ih =>
     intro G Q E k;obtain⟨ns,a,xs,n,l,rfl,⟨o,e1,e3,c,e2⟩,it,_,_⟩:=G u (bQ ..);rw[List.mapM_cons];refine ae (show wpAny (model prog w) A (do
      if (<-typeOf (.ref a)) != .type "tuple" then return none
      return (<-Builtin.List.listItems (.ref a))[0]?) _ E _ from ?_)
     refine ae (tQ (T:="tuple") ⟨o,e1,e3⟩ ?_);rw[if_neg (by decide)];refine ae (vt e1 e2 (ag ?_));cases it with
     | cons hv _ =>
       obtain⟨t,rfl⟩:=hv;exact ae (ih (λv m=>G v (bF _ m)) λws is e q=>ag (k (.int n t::ws) (n::is) (by simp[e]) (.cons n t q)))
  rw[keyKind'_eq,Wm];refine ae (show wpAny (model prog w) A (List.toArray <$> vs.mapM firstOfTuple') _ E _ from ?_);rw[<-bind_pure_comp];refine ae (aco vs H' λus is e k=>ag ?_);rw[if_pos (by simp)];refine ae (h9 ?_);have e1:((us.map some).toArray.filterMap id)=us.toArray:=by simp[HL]
  rw[e1,oneTypeOnly'_eq,Wm,mapM_typeOf_ints k];cases us with
  |nil=>exact absurd (wO e.symm) ne
  | cons u us =>
    simp only[map_pure,pure_bind];rw[show ((u::us).map λ_=>Value.type "int").toArray[0]?=some (Value.type "int") by simp];dsimp only;rw[if_pos (by simp)];exact ae (ag (ag h))
 ·intro x y mx my Q E' q;rw[WN]at mx my;obtain⟨ns,hx⟩:=H' _ (Ip mx).2;obtain⟨ms,hy⟩:=H' _ (Ip my).2;have k1:=oU (K0 L) hx;have k2:=oU (K0 L) hy
  change Q (lexLt (((rM (rN L) h').keyOf x.1).getD []) (((rM (rN L) h').keyOf y.1).getD [])) _ at q
  rw[k1,k2]at q;obtain⟨a,afi,n1,l1,e1,⟨o1,x1,x2,c1,x3⟩,i1,m1,rfl⟩:=hx;obtain⟨b,qw,n2,l2,e2,⟨o2,y1,y2,c2,y3⟩,i2,m2,rfl⟩:=hy;have lk:=C _ m1 _ m2;rw[FV _ _ lk]at q;rw[e1,e2,BQ];refine ae (vt x1 x3 (ae (vt y1 y3 ?_)));refine ae (Oe (s:={ s with heap:=h' }) (yP hu hU) i1 i2 lk 0 (λ_ d r z=>by cases z;exact⟨n1,rfl⟩) λr hr=>?_);rcases hr with rfl|⟨rfl,e⟩
  ·exact ag q
  ·refine ag ?_;rw[aU,aU,<-e];exact q
end HT
namespace L2.DL
open PySem PySem.Spec PyProof.Rows
open HT (aB aI pV lexLt)
noncomputable def Eh:D->Option aB
 |.int i=>some (.i i)
 |.str x=>some (.s x)
 |.tup l=>(intsOf l).map .t
 |_=>none
noncomputable def xZ:aB->D
 |.i n=>.int n
 |.s x=>.str x
 |.t ns=>.tup (ns.map D.int)
noncomputable def uJ:List D->Option (List aB)
 |[]=>some []
 |d::l=>(Eh d).bind λa=>(uJ l).map λr=>a::r
noncomputable def rowOf:D->Option (List aB)
 |.tup (.int i::l)=>(uJ l).map λr=>.i i::r
 |_=>none
noncomputable def rowsOf:List D->Option (List (List aB))
 |[]=>some []
 |d::l=>(rowOf d).bind λa=>(rowsOf l).map λr=>a::r
noncomputable def pW (l:List aB):D:=.tup (l.map xZ)
theorem Bk:∀ {l:List D}{ns:List Int},intsOf l=some ns->l=ns.map D.int
 |[],_,e=>by cases e;rfl
 | .int i::l,ns,e=>by
   unfold intsOf at e;cases q:intsOf l with
   |none=>rw[q]at e;cases e
   |some ms=>rw[q]at e;cases e;rw[Bk q];rfl
 |.aq::_,_,e=>by cases e
 |.bl _::_,_,e=>by cases e
 |.str _::_,_,e=>by cases e
 |.tup _::_,_,e=>by cases e
 |.lst _::_,_,e=>by cases e
 |.aN _::_,_,e=>by cases e
theorem Of {a:aB}(e:Eh d=some a):d=xZ a:=by
 cases d with
 |int i=>cases e;rfl
 |str x=>cases e;rfl
 | tup l =>
   have e:(intsOf l).map aB.t=some a:=e;cases q:intsOf l with
   |none=>rw[q]at e;cases e
   |some ms=>rw[q]at e;cases e;rw[Bk q];rfl
 |_=>cases e
theorem CI:∀ {l:List D}{r:List aB},uJ l=some r->l=r.map xZ
 |[],_,e=>by cases e;rfl
 | d::l,r,e=>by
   unfold uJ at e;cases q:Eh d with
   |none=>rw[q]at e;cases e
   | some a =>
     cases q2:uJ l with
     |none=>rw[q,q2]at e;cases e
     |some t=>rw[q,q2]at e;cases e;rw[Of q,CI q2];rfl
theorem LR {r:List aB}(e:rowOf d=some r):d=pW r /\ ∃ n l,r=.i n::l:=by
 unfold rowOf at e;split at e
 ·rename_i i l;cases q:uJ l with
  |none=>rw[q]at e;cases e
  |some t=>rw[q]at e;cases e;rw[CI q];exact⟨rfl,i,t,rfl⟩
 ·cases e
theorem Bl:∀ {l:List D}{rs:List (List aB)},rowsOf l=some rs->l=rs.map pW /\ ∀ r∈rs,∃ n l,r=.i n::l
 |[],_,e=>by cases e;exact⟨rfl,λr m=>nomatch m⟩
 | d::l,rs,e=>by
   unfold rowsOf at e;cases q:rowOf d with
   |none=>rw[q]at e;cases e
   | some a =>
     cases q2:rowsOf l with
     |none=>rw[q,q2]at e;cases e
     | some t =>
       rw[q,q2]at e;cases e;obtain⟨h1,h2⟩:=LR q;obtain⟨h3,h4⟩:=Bl q2;refine⟨by rw[h1,h3];rfl,λr m=>?_⟩;rcases aP.mp m with rfl|m
       ·exact h2
       ·exact h4 r m
noncomputable def n9 (rs:List (List aB)):List (List aB):=rs.mergeSort λa b=>!lexLt (aI b) (aI a)
theorem g6 (rs:List (List aB)):(n9 rs).Perm rs:=Wh rs _
theorem jt (rs:List (List aB)):(n9 rs).Pairwise (λa b=>lexLt (aI b) (aI a)=false):=by
 have h:=Wi (le:=λa b:List aB=>!lexLt (aI b) (aI a)) (λa b c h1 h2=>by
  rw[qb]at *;cases e:lexLt (aI c) (aI a) with
  |false=>rfl
  | true =>
    rcases HT.oj _ (aI b) _ e with z|z
    ·rw[z]at h2;cases h2
    ·rw[z]at h1;cases h1) (λa b=>by
  rw[yU,qb,qb];cases e:lexLt (aI b) (aI a) with
  |false=>exact .inl rfl
  | true =>
    cases f:lexLt (aI a) (aI b) with
    |false=>exact .inr rfl
    |true=>have:=HT.lg _ _ _ e f;rw[HT.iU]at this;cases this) rs
 exact h.imp λ{a b} z=>by simpa using z
theorem Jj {a b:aB}(h:a.qG b=true):b.qG a=true:=by cases a<;>cases b<;>first|rfl|cases h
theorem As:∀ {a b:List Nat},¬ a<b->¬ b<a->a=b
 |[],[],_,_=>rfl
 |[],y::b,h,_=>absurd (by simp) h
 |x::a,[],_,h=>absurd (by simp) h
 | x::a,y::b,h,g=>by
   rw[List.cons_lt_cons_iff]at h g;have e:x=y:=by
    rcases Nat.lt_trichotomy x y with z|z|z
    ·exact absurd (.inl z) h
    ·exact z
    ·exact absurd (.inl z) g
   subst e;rw[As (λz=>h (.inr ⟨rfl,z⟩)) (λz=>g (.inr ⟨rfl,z⟩))]
theorem Sh:∀ {a b:aB},a.qG b=true->a.lt b=false->b.lt a=false->a=b
 | .i n,.i m,_,h,g=>by
   have h':=of_decide_eq_false h;have g':=of_decide_eq_false g;rw[show n=m by omega]
 | .s x,.s y,_,h,g=>by
   have:=As (of_decide_eq_false h) (of_decide_eq_false g);obtain⟨⟨a⟩⟩:=x;obtain⟨⟨b⟩⟩:=y;have z':a=b:=this;rw[z']
 |.t n,.t m,_,h,g=>by rw[HT.iV n m h g]
theorem CJ:∀ {l m:List aB},pV l m=true->aI l=aI m->l=m
 |[],[],_,_=>rfl
 | [],b::m,_,e=>by
   have e':([0]:List Int)=1::(b.code++aI m):=by rw[show (1::(b.code++aI m))=aI (b::m) by simp[aI]];exact e
   simp at e'
 | a::l,[],_,e=>by
   have e':1::(a.code++aI l)=([0]:List Int):=by rw[show (1::(a.code++aI l))=aI (a::l) by simp[aI]];exact e
   simp at e'
 | a::l,b::m,h,e=>by
   have h':(a.qG b&&pV l m)=true:=h;rw[aA]at h';have e':a.code++aI l=b.code++aI m:=by
    have:1::(a.code++aI l)=1::(b.code++aI m):=by rw[show (1::(a.code++aI l))=aI (a::l) by simp[aI],show (1::(b.code++aI m))=aI (b::m) by simp[aI]];exact e
    exact(List.cons.inj this).2
   have ab:a=b:=by
    by_cases c:a=b
    ·exact c
    ·have x1:=HT.aB.app (aI l) (aI m) h'.1 c;have x2:=HT.aB.app (aI m) (aI l) (Jj h'.1) (λz=>c z.symm);rw[e',HT.iU]at x1;rw[<-e',HT.iU]at x2;exact Sh h'.1 x1.symm x2.symm
   subst ab;rw[CJ h'.2 (List.append_cancel_left e')]
theorem LS {β:Type}{f:α->β}{l n:List β}(h:l.Perm n):∀ {m:List α},n=m.map f->∃ m':List α,l=m'.map f /\ m'.Perm m:=by
 induction h with
 |nil=>intro m e;cases m with|nil=>exact⟨[],rfl,.nil⟩|cons _ _=>cases e
 | cons x _ ih =>
   intro m e;cases m with
   |nil=>cases e
   | cons a m =>
     rw[aS]at e;obtain⟨e1,e2⟩:=List.cons.inj e;obtain⟨m',q1,q2⟩:=ih e2;exact⟨a::m',by rw[aS,<-q1,e1],q2.cons a⟩
 | swap x y l =>
   intro m e;match m,e with
   | a::b::m,e =>
     rw[aS,aS]at e;obtain⟨e1,e2⟩:=List.cons.inj e;obtain⟨e2,e3⟩:=List.cons.inj e2;exact⟨b::a::m,by rw[aS,aS,<-e1,<-e2,<-e3],.swap ..⟩
 | trans _ _ K3 K4 =>
   intro m e;obtain⟨m2,q1,q2⟩:=K4 e;obtain⟨m1,q3,q4⟩:=K3 q1;exact⟨m1,q3,q4.trans q2⟩
noncomputable def uK (rs:List (List aB)):Bool:=rs.all λa=>rs.all λb=>pV a b
theorem CK {rs a:List (List aB)}(hl:uK rs=true) (p:a.Perm rs) (ha:a.Pairwise (λa b=>lexLt (aI b) (aI a)=false)):a=n9 rs:=by
 have lk:∀ x∈rs,∀ y∈rs,pV x y=true:=λx mx y my=>bR.mp (bR.mp hl x mx) y my;refine(p.trans (g6 rs).symm).eq_of_pairwise (λx y mx my h1 h2=>CJ (lk x (p.mem_iff.mp mx) y ((g6 rs).mem_iff.mp my)) (HT.iV _ _ h2 h1)) ha (jt rs)
theorem TX (I:Inv X pins σ H s) (sub:Sub F H) {a:aB}(h:Den F (xZ a) v) (r:RelV v u):HT.n8 s.heap u a:=by
 cases a with
 |i n=>cases (show v=.int n from h);exact r
 |s x=>cases (show v=.str x from h);exact r
 | t ns =>
   obtain⟨b,vs,rfl,h1,h2⟩:=h;cases r;obtain⟨af,r',pl,_⟩:=I.tuple (.of (sub _ _ h1));have e:=h2.ints (ns:=ns) (by clear h2 h1 pl r';induction ns with|nil=>rfl|cons n ns ih=>simp[intsOf,ih]);subst e;exact⟨b,af,rfl,pl,iY r'⟩
theorem LT (I:Inv X pins σ H s) (sub:Sub F H):∀ {l:List aB}{vs:List V}{us:List Value},av F (l.map xZ) vs->Vals vs us->HT.nz s.heap us l
 |[],_,_,h,r=>by cases (show _=[] from h);cases r;exact .nil
 | a::l,_,_,h,r=>by
   obtain⟨v,t,rfl,h1,h2⟩:=h;cases r with
   |cons r1 r2=>exact .cons (TX I sub h1 r1) (LT I sub h2 r2)
theorem FX:∀ {rs:List (List aB)}{vs:List V},av F (rs.map pW) vs->∃ ps:List (Addr×List aB),vs=ps.map (λp=>V.ref p.1) /\ rs=ps.map (·.2) /\ ∀ p∈ps,Den F (pW p.2) (.ref p.1)
 |[],_,h=>⟨[],h,rfl,λp m=>nomatch m⟩
 | r::rs,_,h=>by
   obtain⟨v,t,rfl,h1,h2⟩:=h;obtain⟨ps,e1,e2,e3⟩:=FX h2;obtain⟨a,ws,rfl,h3,h4⟩:=id h1;refine⟨(a,r)::ps,by rw[e1];rfl,by rw[e2];rfl,λp m=>?_⟩;rcases aP.mp m with rfl|m
   ·exact h1
   ·exact e3 p m
theorem CL:∀ {ps:List (Addr×List aB)},(∀ p∈ps,Den F (pW p.2) (.ref p.1))->av F ((ps.map (·.2)).map pW) (ps.map λp=>V.ref p.1)
 |[],_=>rfl
 |p::ps,h=>.cons (h p (bQ ..)) (CL λq m=>h q (bF _ m))
def K5 (K:PySem.W.Frag) (vs:List V) (H:Hp) (Q:VK):Prop:=∃ (F:Hp) (p:Addr) (xs:List V) (rs:List (List aB)),vs=[.ref p] /\ Sub F H /\ bu K H p xs /\ av F (rs.map pW) xs /\ (∀ r∈rs,∃ n l,r=.i n::l) /\ rs.length<64 /\ uK rs=true /\
 ∀ (q:Addr) (ys:List V),H q=none->av F ((n9 rs).map pW) ys->Q (.ref q) (upd H q (.lst ys))
theorem DN (hu:X.A.units+100<cLine):dA X (.builtin "sorted") (K5 X.K):=by
 intro pins s σ H xs us Q I rv h;obtain⟨F,p,vs,rs,rfl,sub,hp,hd,hf,cB,YH,q⟩:=h;obtain⟨u,rfl,ru⟩:=Vals.one rv;cases ru;obtain⟨af,r1,p1,z1⟩:=I.list hp;obtain⟨ps,e1,e2,e3⟩:=FX hd;subst e1;have ei:af=ps.map λp=>Value.ref p.1:=by
  have:=CD (rs:=ps.map (·.1)) (us:=af) (by rw[dv];exact r1);rw[this,dv];rfl
 subst ei;have row:∀ p∈ps,HT.rN rs s.heap (.ref p.1) (aI p.2):=λp m=>by
  have d:=e3 p m;have mr:p.2∈rs:=by rw[e2];exact aT.mpr ⟨p,m,rfl⟩
  obtain⟨n,l,el⟩:=hf _ mr;obtain⟨b,ws,eb,h3,h4⟩:=d;cases eb;obtain⟨us,r',pl,_⟩:=I.tuple (.of (sub _ _ h3));rw[el]at h4 mr;exact⟨p.1,us,n,l,rfl,pl,LT I sub h4 r',mr,by rw[el]⟩
 have HH:∀ v∈ps.map (λp=>Value.ref p.1),∃ ns,HT.rN rs s.heap v ns:=λv m=>by
  obtain⟨r,mr,rfl⟩:=aT.mp m;exact⟨_,row r mr⟩
 have lk:∀ x∈rs,∀ y∈rs,pV x y=true:=λx mx y my=>bR.mp (bR.mp YH x mx) y my;have ln:ps.length=rs.length:=by rw[e2,aF]
 refine HT.Jh (HT.K0 rs) p1.isList HH (U:=X.A.units+8) (ak _) (λne=>HT.Ji lk (by omega) HH ne) (by rw[aF,ln];exact cB) λout o1 o2=>?_;obtain⟨cC,q1,q2⟩:=LS o1 rfl;obtain⟨k,he⟩:=WL s.heap (ps.map λp=>Value.ref p.1) out;have sL:H (s.heap.objs.size+1)=none:=I.ar.fresh (nI _);have ord:(cC.map (·.2)).Pairwise (λa b=>lexLt (aI b) (aI a)=false):=by
  unfold HT.uI at o2;rw[q1,wN]at o2;rw[wN];exact Z5 (λ{a b} ma mb r=>r _ _ (row a (q2.mem_iff.mp ma)) (row b (q2.mem_iff.mp mb))) o2
 have so:cC.map (·.2)=n9 rs:=CK YH (by rw[e2];exact q2.map _) ord;have ll:(cC.map λp=>V.ref p.1).length<=sizeLine:=by
  rw[aF,q2.length_eq,ln];exact bc (ke cB) (by decide)
 refine⟨.ref (s.heap.objs.size+1),_,I.laid (t':=s.toks) (o:=.lst (cC.map λp=>V.ref p.1)) (λb ob q=>WM q) (nI _) ?_,rfl,q _ _ sL (by rw[<-so];exact CL λp m=>e3 p (q2.mem_iff.mp m))⟩;refine⟨ll,out.toList,k,?_,he⟩;rw[q1];have:∀ l:List (Addr×List aB),Vals (l.map λp=>V.ref p.1) (l.map λp=>Value.ref p.1):=λl=>by
  induction l with
  |nil=>exact .nil
  |cons a l ih=>exact .cons rfl ih
 exact this cC
noncomputable def dj:List D->Option Res:=λxs=>match sW xs with
 |some r=>some r
 | none=>match xs with
   |[.lst l]=>(rowsOf l).bind λrs=>if rs.length<64 /\ uK rs=true then some (.lst ((n9 rs).map pW)) else none
   |_=>none
theorem DO (hu:X.A.units+100<cLine):dA X (.builtin "sorted") (λvs H Q=>zZ X.K vs H Q \/ K5 X.K vs H Q):=λpins s σ H xs us Q I rv h=>h.elim (Jc pins s σ H xs us Q I rv) (DN hu pins s σ H xs us Q I rv)
theorem acp:dU (λvs H Q=>zZ K vs H Q \/ K5 K vs H Q) dj:=by
 intro F H xs vs Q s sub rx e k;unfold dj at e;cases er:sW xs with
 | some r =>
   rw[er]at e;cases e;exact .inl (abQ F H xs vs Q s sub rx er k)
 | none =>
   rw[er]at e;dsimp only at e;clear er;split at e
   ·rename_i l;cases e1:rowsOf l with
    |none=>rw[e1]at e;cases e
    | some rs =>
      rw[e1]at e;simp only[a9]at e;split at e
      ·rename_i hc;cases e;obtain⟨v,t,rfl,⟨a,us,rfl,h1,h2⟩,rt⟩:=rx;cases (show t=[] from rt);obtain⟨b1,b2⟩:=Bl e1;subst b1;exact .inr ⟨F,a,us,rs,rfl,sub,.of h1,h2,b2,hc.1,hc.2,λq ys hq hy=>k _ _ ⟨q,ys,rfl,hq,rfl,hy⟩⟩
      ·cases e
   ·cases e
end L2.DL
namespace L2
open PySem PySem.Spec PyProof.Rows
theorem Og {src:List (Option Nat)}{scope:Scope}{pos' ya:Pos}{wi:TI}{g:TG}{tf:TT}{te:TE}{ii:Nat} 
 (hc:X.calm=true) (S:kJ X N src scope) (hi:PI X tg iter wi)
 (hg:∀ cl s H C fp,PG (X.comp N scope cl s H C fp) tg g) (hf:∀ cl s H C fp,PF (X.comp N scope cl s H C fp) ifs tf) (he:∀ cl s H C fp,PE (X.comp N scope cl s H C fp) elt te)
 (hN:X.N.Nodup) (nZ:X.N[ii]?=some x) (hx:Loc X.env.scope x) (K6:swapsWith (.ListComp elt [⟨tg,iter,ifs,0⟩] scope pos) (some (.Name x pos')) ya.line X.env=pure true)
 (K7:X.fn x=true \/ X.env.scope.names.lookup x=some .local)
 (hs:∀ x,foldedSetIterable iter X.env x=pure x:=by intro _;rfl):PS X (.Assign [.Name x pos'] (.ListComp elt [⟨tg,iter,ifs,0⟩] scope pos) ya) (zz (zQ src wi g tf te) (IZ ii)):=by
 intro pins s σ H Dn I h;rw[exec_Assign_Name_used _ _ _ _ K6];refine ae (qM (ae ?_))
 change wpAny _ X.A (do let _ <-comprehension (.ListComp elt [⟨tg,iter,ifs,0⟩] scope pos) scope X.env _ (newList []) false (eval iter X.env) (some (assign (.Name x pos') X.env))) _ _ s
 refine ae (c6 (Hr (use:=some (assign (.Name x pos') X.env)) (Q:=λ_ s'=>SP X pins Dn .next s') rfl hs (lX (S.cells I.ok)) S.kind S.names (ao (hi pins s σ H _ I h) λxv s1 h1=>ao h1 λvJ s2 h2=>?_)) (λ_ s' hq=>ag (ag hq)) λ_ _ q=>q);obtain⟨it,fp,tn,J,H2,e,I2,T,nq,f2,hW⟩:=h2;subst e;refine cS ?_;generalize hD:s2.heap.objs.size=D;have xj:H2 D=none:=I2.ar.fresh (rZ hD);have I3:Inv X pins σ (upd H2 D (.lst [])) { s2 with heap:=s2.heap.push { cls:=.type "list",dict:=none,data:=.seq ([]:List Value).toArray } }:=by
  subst hD;exact I2.laid (t':=s2.toks) (λb u e=>aC _ e) (ak _) ⟨cT _,[],0,.nil,aR _ rfl⟩
 obtain⟨W,⟨m0,w0⟩,turn⟩:=hW D xj;have up:∀ b o,s2.heap.get? b=some o->(s2.heap.push { cls:=.type "list",dict:=none,data:=.seq ([]:List Value).toArray }).get? b=some o:=λb u e=>aC _ e;have xk:=T.obj _ _ nq;have pJ:tn 0 (s2.heap.push { cls:=.type "list",dict:=none,data:=.seq ([]:List Value).toArray }):=T.keep _ _ _ nq λb _ o e=>up b o e;have sM:∀ b∈fp,b<s2.heap.objs.size:=λb hb=>by obtain⟨o,e,_⟩:=xk b hb;exact aK e
 have f3:∀ b∈fp,c7 X pins (upd H2 D (.lst [])) b:=λb hb=>⟨by rw[fJ (by rw[<-hD];exact bL (sM b hb))];exact(f2 b hb).1,(f2 b hb).2⟩;generalize xl:({ s2 with heap:=s2.heap.push { cls:=.type "list",dict:=none,data:=.seq ([]:List Value).toArray } }:Shared)=s3 at I3 ⊢;have sN:s3.heap=s2.heap.push { cls:=.type "list",dict:=none,data:=.seq ([]:List Value).toArray }:=by rw[<-xl]
 rw[<-sN]at pJ;have Kz:∀ b∈fp,b<s3.heap.objs.size:=λb hb=>by rw[sN,qc];exact ng (sM b hb)
 generalize abm:upd H2 D (.lst [])=H3 at I3 f3 w0;refine lZ ?_;generalize sO:pushCells (s3.heap.push { cls:=.type "dict",data:=.dict #[] }) scope.names=h₁;have k1:∀ b o,s3.heap.get? b=some o->h₁.get? b=some o:=λb o e=>by rw[<-sO];exact wC _ _ b o (aC _ e)
 have IY:=Ak S I3 (λb hb=>⟨f3 b hb,Kz b hb⟩) (s':={ s3 with heap:=h₁ }) (by rw[sO]);have sP:tn 0 h₁:=T.keep _ _ _ pJ λb _ o e=>k1 b o e;generalize uj:cellsFrom (s3.heap.objs.size+1) scope.names (cW X.env.cells scope.names [])=cl at IY ⊢;generalize hC:s3.heap.objs.size=C at IY ⊢;have qr:∀ {H':Hp},(∀ b∈fp,H' b=none)->∀ b∈fp,c7 (X.comp N scope cl s3 H3 C fp) [] H' b:=λhn b hb=>by
  refine⟨hn b hb,?_,?_,.inl hb,?_,λp hp=>absurd (show p∈([]:List (Addr×Obj)) from hp) (by simp)⟩
  ·exact(IY.ok.sk b hb).1
  ·exact IY.ok.ub b hb
  ·intro x c e z;exact(IY.ok.sk b hb).2 x c e z
 have fin:∀ (σ':St) (H':Hp) (s':Shared),Inv (X.comp N scope cl s3 H3 C fp) [] σ' H' s'->∀ h',Heap.SameBut C s'.heap h'->Inv X pins σ H' { s' with heap:=h' }:=λσ' H' s' I' h' nT=>by
  have qt:H' C=none:=I'.free;have kp:∀ b o,b≠C->s'.heap.get? b=some o->h'.get? b=some o:=λb o hb e=>nT.extBut b o hb e;have xm:s3.heap.get? C=none:=by rw[<-hC];exact vf (ak _)
  have eY:∀ b o,s3.heap.get? b=some o->b≠C:=λb o e z=>by rw[z,xm]at e;cases e
  have U:=I'.base;refine I3.IU (s':={ s' with heap:=h' }) (ch:=fp) I'.os ⟨λb o e n hb hx=>kp b o (eY b o e) (U.keep b o e n hb hx),λb o e n hb hx=>?_,U.free,λb o e hx=>?_,U.pF,U.nO,U.pG⟩ ?_ I'.bare λb hb=>?_
  ·obtain⟨sl,e1⟩:=U.slot b o e n hb hx;exact⟨sl,kp b _ (eY b o e) e1⟩
  ·obtain⟨o',e1⟩:=U.there b o e hx;exact⟨o',kp b o' (eY b o e) e1⟩
  ·intro b ob e;refine(I'.ar b ob e).eX (λc w' cu q=>kp c w' (λz=>?_) q) (λ_ q=>q) λ_ _ q=>q;rcases cu with z1|z1
   ·rw[<-z1,z,qt]at e;cases e
   ·rw[z,qt]at z1;cases z1
  ·exact⟨(f3 b hb).2.2.2.1,(f3 b hb).2.1,λx c e=>(f3 b hb).2.2.2.2.1 x c e,(f3 b hb).2.2.2.2.2⟩
 have loop:∀ s4:Shared,s4={ s3 with heap:=h₁ } ->
  codeAny (model X.prog X.w) X.A (.compLoop (.ListComp elt [⟨tg,iter,ifs,0⟩] scope pos) 0 (.ref it) (.ref D) (compEnvC scope cl C X.env)) (compPost (model X.prog X.w) X.A X.xe (some (assign (.Name x pos') X.env)) (λ_ s'=>SP X pins Dn .next s') (.ref D) C) s4:=by
  rintro s4 rfl;refine mI (λn s'=>∃ i σ' H',Inv (X.comp N scope cl s3 H3 C fp) [] σ' H' s' /\ tn i s'.heap /\ (∀ b∈fp,H' b=none) /\ W i n σ' H') _ (λ_ _ _ q=>q) ?_ m0 ⟨0,_,H3,IY,sP,λb hb=>(f3 b hb).1,w0⟩;rintro n s5 ⟨i,σ5,H5,I5,nQ,qk,w5⟩;have cA:∀ {α:Type}{t:Sem α}{Q1:α->Shared->Prop}{E1:Value->Shared->Prop}{ss:Shared},wpAny (model X.prog X.w) X.A t Q1 (λ_ _=>False) ss->wpAny (model X.prog X.w) X.A t Q1 E1 ss:=λhw=>c6 hw (λ_ _ q=>q) λ_ _ z=>False.elim z;rcases turn i n σ5 H5 w5 with⟨stop,q5⟩|⟨go,NN,hN,step⟩
  ·refine cA (ao (T.done (X.comp N scope cl s3 H3 C fp) rfl rfl rfl hc i [] s5 σ5 H5 (λ_ _=>False) I5 (qr qk) nQ stop) λr s6 ⟨hr,I6⟩=>?_);subst hr;obtain⟨m6,xn,_⟩:=I6.loc;have IX:Inv X pins σ H5 s6:=fin σ5 H5 s6 I6 s6.heap (Heap.SameBut.refl ..)
   change wpAny _ X.A (assign (.Name x pos') X.env (.ref D)) _ _ s6
   refine Vt (A7 (v:=.ref D) IX hN nZ hx rfl (λs7 I7 ⟨a,sb,ha⟩=>?_) K7);have acq:C≠a:=λz=>by
    rcases ha with w1|w1
    ·have l1:X.env.locals<s3.heap.objs.size:=I3.lt;rw[<-w1,<-z,<-hC]at l1;exact dO _ l1
    ·obtain⟨v1,o1,w2,_⟩:=I3.cell x a w1;have l1:=aK w2;rw[<-z,<-hC]at l1;exact dO _ l1
   refine⟨m6,xn.sameBut sb acq,λh' nT=>?_⟩;have qt:H5 C=none:=I6.free;refine⟨σ.set ii (some (.ref D)),H5,?_,q5⟩;have acr:X.env.locals≠C:=λz=>by have l1:=I3.lt;rw[z,<-hC]at l1;exact dO _ l1
   refine I7.turned (t':=s7.toks) (it:=C) (λb o hb e=>nT.extBut b o hb e) qt (Ne.symm acr) (.inr ?_) (λy c e z=>?_) (λp hp z=>?_)
   ·rw[<-hC];exact I3.sz
   ·obtain⟨v1,o1,w2,_⟩:=I3.cell y c e;have l1:=aK w2;rw[z,<-hC]at l1;exact dO _ l1
   ·have l1:=aK (I3.pin p hp).1;rw[z,<-hC]at l1;exact dO _ l1
  ·refine cA (ao (T.item (X.comp N scope cl s3 H3 C fp) rfl rfl rfl hc i [] s5 σ5 H5 (λ_ _=>False) I5 (qr qk) nQ go) λr s6 ⟨u,hr,h6⟩=>?_);subst hr;refine cA (ao h6 λ_ s7 ⟨x,H7,I7,r7,y7,qu,xo⟩=>?_);have xp:=I7.pinned (qr xo) (T.obj _ _ qu);refine cA (ao (hg cl s3 H3 C fp _ s7 σ5 H7 x u _ xp r7 (step x H7 y7)) λ_ s8 ⟨σ8,H8,I8,q8⟩=>?_);refine cA (ao (hf cl s3 H3 C fp _ s8 σ8 H8 _ I8 q8) λb s9 ⟨H9,I9,q9⟩=>?_);have again:∀ {σ9:St}{HA:Hp}{sA:Shared},Inv (X.comp N scope cl s3 H3 C fp) ([]++qY fp s7.heap) σ9 HA sA->NN σ9 HA->∃ m,m<n /\ ∃ i σ' H',Inv (X.comp N scope cl s3 H3 C fp) [] σ' H' sA /\ tn i sA.heap /\ (∀ b∈fp,H' b=none) /\ W i m σ' H':=λ{σ9 HA sA} IA nA=>by
    obtain⟨m',hm,wA⟩:=hN σ9 HA nA;refine⟨m',hm,i+1,σ9,HA,IA.sy,T.keep _ _ _ qu λb hb o e=>(IA.pin (b,o) (bG _ (bG _ (gF hb e)))).1,λb hb=>?_,wA⟩;obtain⟨o,e,d⟩:=T.obj _ _ qu b hb;exact(IA.pin (b,o) (bG _ (bG _ (gF hb e)))).2.1
   cases b with
   | false =>
     rw[if_neg (by decide)]at q9;rw[if_neg (by decide)];exact again I9 q9
   | true =>
     rw[if_pos rfl]at q9;rw[if_pos rfl];refine cA (ao (he cl s3 H3 C fp _ s9 σ8 H9 _ I9 q9) λyv sA ⟨y,HA,IA,rA,ys,KA,KC,nA⟩=>?_);refine cA (ao (m8 _ sA σ8 HA (.ref D) [y] (.ref D) [yv] (λ_ HB=>NN σ8 HB) IA rfl (.cons rA .nil) ⟨D,ys,y,rfl,rfl,KA,KC,nA⟩) λr sB hB=>?_);obtain⟨_,HB,IB,_,nB⟩:=hB;exact again IB nB
 exact VH (loop _ rfl) (T.self _ 0 _ _ _ sP (loop _ rfl))
end L2
namespace L2.DL
open PySem PySem.Spec PyProof.Rows
section
variable {src : List (Option Nat)} {scope : Scope} {pos' ya : Pos} {g : DG} 
theorem LU (i:Nat) (bo:Bool) (hc:X.calm=true) (S:kJ X N src scope) (hi:nW X T Z tg iter mi)
 (hg:∀ T cl s H C fp,ez (X.comp N scope cl s H C fp) T tg g) (hf:∀ T cl s H C fp,PF (X.comp N scope cl s H C fp) ifs (eQ T ⟨E0,Z.cl⟩ tf)) (he:∀ T cl s H C fp,PD (X.comp N scope cl s H C fp) T ⟨E0,Z.cl⟩ elt te)
 (hN:X.N.Nodup) (nZ:X.N[i]?=some x:=by rfl) (hx:Loc X.env.scope x:=by first|exact Or.inl rfl|exact Or.inr rfl) (K6:swapsWith (.ListComp elt [⟨tg,iter,ifs,0⟩] scope pos) (some (.Name x pos')) ya.line X.env=pure true:=by rfl)
 (K7:X.fn x=true \/ X.env.scope.names.lookup x=some .local:=by first|exact .inl rfl|exact .inr rfl|assumption)
 (hs:∀ x,foldedSetIterable iter X.env x=pure x:=by intro _;rfl):dE X T Z (.Assign [.Name x pos'] (.ListComp elt [⟨tg,iter,ifs,0⟩] scope pos) ya) (fF (fk bo src mi g tf te) (fc i)):=by
 refine PS.imp (Og (src:=src) (g:=xr g) (tf:=xt ⟨E0,Z.cl⟩ tf) (te:=xu ⟨E0,Z.cl⟩ te) hc S hi (λcl s H C fp pins s' σ' H' v u Q I rv ⟨T,q⟩=>hg T cl s H C fp pins s' σ' H' v u Q I rv q)
  (λcl s H C fp pins s' σ' H' Q I ⟨T,q⟩=>hf T cl s H C fp pins s' σ' H' Q I q) (λcl s H C fp pins s' σ' H' Q I ⟨T,q⟩=>he T cl s H C fp pins s' σ' H' Q I q) hN nZ hx K6 K7 hs) λD σ H ⟨F,r,env,bx,R,h⟩=>?_
 refine LC (T:=T) (Z:=Z) (bo:=bo) (mi:=mi) (g:=g) (tf:=tf) (te:=te) (Q:=λv H1=>D.nx (σ.set i (some v)) H1) ⟨F,r,env,bx,R,End.ck h λw bx1 F1 r1 v H1 g1 R1 d1 h1=>h1 F1 r1 _ H1 (.refl F1 r1) (R1.set d1 i)⟩
end
noncomputable def a6:Expr->Bool
 |.Starred _ _=>false
 |_=>true
noncomputable def kU:List Expr->Bool
 |[]=>true
 |e::es=>a6 e&&kU es
theorem fm (h:a6 e=true) (es:List Expr) (env:Env):starEach (e::es) env=(false,eval e env)::starEach es env:=by
 cases e<;>first|rfl|cases h
theorem gN {env:Env}{pos:Pos}:∀ {es:List Expr},kU es=true->(backTo pos (starEach es env)).any (·.1)=false
 |[],_=>rfl
 | e::es,h=>by
   have h':(a6 e&&kU es)=true:=h;rw[aA]at h';rw[fm h'.1];show (false||(backTo pos (starEach es env)).any (·.1))=false;rw[gN h'.2];rfl
theorem iu {es:List Expr}(h:kU (e::es)=true):a6 e=true /\ kU es=true:=by
 have h':(a6 e&&kU es)=true:=h
 rwa [aA]at h'
theorem lh (h:a6 e=true) (es:List Expr) (env:Env):assignEach (e::es) env=(false,assign e env)::assignEach es env:=by
 cases e<;>first|rfl|cases h
theorem l8 {env:Env}:∀ {es:List Expr},kU es=true->(assignEach es env).length=es.length /\ (assignEach es env).findIdx? (·.1)=none
 |[],_=>⟨rfl,rfl⟩
 | e::es,h=>by
   obtain⟨h1,h2⟩:=iu h;obtain⟨a,b⟩:=l8 (env:=env) h2;rw[lh h1];exact⟨by rw[bA,bA,a],by rw[List.findIdx?_cons,b];rfl⟩
section
variable {a b : Expr} {es : List Expr} {mb mc : DE W} {p p1 : Pos} {k' nn : Nat} {ps : List Str} {m : DE (List W)}
theorem j6 (ha:PD X T Z e ma) (hr:cc X T Z es m) (hn:a6 e=true:=by rfl):cc X T Z (e::es) (fb ma m):=Lr ha hr (fm hn es X.env)
theorem TY {id:String}{g:List D->Option Res}(bo:Bool) (hc:dA X (.builtin id) q) (hk:dU q g) (hg:Gl X x) (hm:X.mg x=none) (hv:bootBuiltins x=some (.builtin id)) (ha:cc X T Z (e::es) m)
 (c8:kU (e::es)=true:=by rfl) (hn:x ≠ "__name__":=by decide) (cx:(x==("__debug__":Str))=false:=by decide):PD X T Z (.Call (.Name x p) (e::es) [] pos) (dN bo g m):=
 Lv bo hc hk hg hm hv ha hn cx (fm (iu c8).1 es X.env) (gN (iu c8).2)
theorem Si {id:String}{g:List D->Option Res}(bo:Bool) (hc:dA X (.type id) q) (hk:dU q g) (hg:Gl X x) (hm:X.mg x=none) (hv:bootBuiltins x=some (.type id)) (ha:cc X T Z (e::es) m)
 (c8:kU (e::es)=true:=by rfl) (hn:x ≠ "__name__":=by decide) (cx:(x==("__debug__":Str))=false:=by decide):PD X T Z (.Call (.Name x p) (e::es) [] pos) (dN bo g m):=
 G8 bo hc hk hg hm hv ha hn cx (fm (iu c8).1 es X.env) (gN (iu c8).2)
theorem TZ (h:pU X.prog X.w X.K X.mg X.base Z.cl k x ps fn) (hr:cw k' X.A) (hk:k<=k') (hg:Gl X x) (hx:Passes (nU X.prog X.w) X Z.E) (ha:cc X T Z (e::es) m)
 (c8:kU (e::es)=true:=by rfl) (hn:ps.length=nn:=by rfl) (cx:(x==("__debug__":Str))=false:=by decide):PD X T Z (.Call (.Name x p) (e::es) [] pos) (fj fn nn m):=
 Sg h hr hk hg hx ha cx (fm (iu c8).1 es X.env) (gN (iu c8).2) hn
theorem T0 {n:String}(hT:kQ X.K n) (hg:Gl X "isinstance") (hm:X.mg "isinstance"=none) (cM:Gl X x) (dg:X.mg x=none) (hv:bootBuiltins x=some (.type n)) (ha:PD X T Z a ma) (hs:a6 a=true:=by rfl)
 (hn:x ≠ "__name__":=by decide) (cx:(x==("__debug__":Str))=false:=by decide):PD X T Z (.Call (.Name "isinstance" p) [a,.Name x p1] [] pos) (ic n ma):=
 N4 hT hg hm cM dg hv ha hn cx (fm hs _ X.env) (fm rfl _ X.env) (gN rfl)
theorem Sj {g:DG}{q:kN}(h1:ez X T e g) (h2:rE X T es q) (hn:a6 e=true:=by rfl):rE X T (e::es) (fR g q):=G9 h1 h2 (by rw[lh hn];rfl)
theorem T1 {q:kN}(hc:X.calm=true) (h:rE X T es q) (c8:kU es=true:=by rfl) (hn:es.length=nn:=by rfl):ez X T (.Tuple es i pos) (iq nn q):=
 NW hc h ((l8 c8).1.trans hn) (l8 c8).2
end
end L2.DL
namespace L2.DL
open PySem PySem.Spec PyProof.Rows PySem.W
section
variable {a b : Expr} {es : List Expr} {mb mc : DE W} {p np bf rp afj : Pos} {body : List Stmt} {m k : ai} {n : Str} {c : Nat} {R : Addr}
noncomputable def kD:ai:=λ_ _=>.bad
theorem gU:dE X T Z st kD:=λ_ _ _ _ _ _ h=>by
 obtain⟨_,_,_,_,_,h⟩:=h;exact h.elim
end
section
variable {ps : List Str} {m : ai} {nn kk : Nat}
end
noncomputable def uL (n:Nat):List V:=(List.range n).map λ(i:Nat)=>V.int (i:Int)
theorem A5:∀ {n:Nat}{acc:Array Value},ItemsOf (λi v=>∃ t,v=Value.int (0+(i:Int)*1) t) acc n->Vals (uL n) acc.toList:=by
 intro n acc h;have key:∀ (k:Nat) (l:List Value),(∀ j v,l[j]?=some v->∃ t,v=Value.int ((k+j:Nat):Int) t)->Vals ((List.range' k l.length).map λ(i:Nat)=>V.int (i:Int)) l:=by
  intro k l;induction l generalizing k with
  |nil=>intro _;exact .nil
  | cons v l ih =>
    intro h;obtain⟨t,e⟩:=h 0 v rfl;rw[bA,List.range'_succ,aS];refine .cons ⟨t,by simpa using e⟩ (ih (k+1) λj u q=>?_);obtain⟨t',e'⟩:=h (j+1) u (by simpa using q);exact⟨t',by rw[e',show k+(j+1)=k+1+j by omega]⟩
 have:=key 0 acc.toList λj v q=>by
  obtain⟨t,e⟩:=h.2 j v (by rw[pC]at q;exact q);exact⟨t,by rw[e];simp⟩
 unfold uL;rw[List.range_eq_range',<-h.1];simpa using this
section
variable {a : Expr} {p p2 dF : Pos} {ta : TA} 
theorem Jk:bootBuiltins "list"=some (.type "list"):=by decide +kernel
def acs (ta:TA):TE:=λσ H Q=>ta σ H λvs H1=>∃ j:Int,vs=[.int j] /\ -(2 ^ 62)<=j /\ j<=2 ^ 24 /\ ∀ l,H1 l=none->Q (.ref l) (upd H1 l (.lst (uL j.toNat)))
theorem BR (hc:X.calm=true) (hg:Gl X "list") (hm:X.mg "list"=none) (cM:Gl X "range") (dg:X.mg "range"=none) (ha:PA X [a] ta) (hs:a6 a=true):PE X (.Call (.Name "list" p) [.Call (.Name "range" p2) [a] [] dF] [] pos) (acs ta):=by
 intro pins s σ H Q I h;refine k8 (gM I hg hm Jk ?_ (by decide) (by decide));refine vq ?_ (fm (e:=.Call (.Name "range" p2) [a] [] dF) rfl [] X.env) (gN (es:=[]) rfl);rw[fm (e:=.Call (.Name "range" p2) [a] [] dF) rfl [] X.env];show wpAny _ _ (spliced ((false,eval (.Call (.Name "range" p2) [a] [] dF) X.env)::backTo pos (starEach [] X.env))) _ _ s;refine sh ?_;refine k8 (gM I cM dg Ia ?_ (by decide) (by decide));refine vq (ao (ha dF pins s σ H _ I h) λus s1 ⟨vs,H1,I1,r1,q1⟩=>?_) (fm hs [] X.env) rfl;obtain⟨j,e,b1,b2,q⟩:=q1;subst e;cases r1 with
 | cons r rr =>
   cases rr;obtain⟨t,rfl⟩:=r;refine Vw ?_;refine t6 ?_;have hn:((j.toNat:Nat):Int)=Builtin.Range.rangeSize 0 j 1:=by rw[Vv];split<;>omega
   refine call_list_range (I1.ok.hd hc) (IsRange.new ..) (small_one (by omega) (by omega) b1 (by omega)) hn.symm (by omega) λh' tk Ei c' kp e it=>?_;have rv:=A5 it;have sz:=ba;have hz:(uL j.toNat).length<=sizeLine:=by
    unfold uL;rw[aF,tY];omega
   refine⟨.ref _,_,(I1.kept (λb o z=>aC _ z)).laid (t':=tk) kp (ak _) (show br X.prog X.w _ h' _ (.lst (uL j.toNat)) from⟨hz,Ei.toList,c',rv,by simpa using e⟩),rfl,q _ (I1.ar.fresh (by simp[Heap.push]))⟩
noncomputable def vY (bo:Bool) (k:DE (List W)):DE W:=λenv bx=>fq (k env bx) λws bx1=>match ws with
 |[.d (.int j)]=>if -(2 ^ 62)<=j /\ j<=2 ^ 24 then bN bo (some (.lst ((List.range j.toNat).map λ(i:Nat)=>D.int (i:Int)))) bx1 else .bad
 |_=>.bad
theorem Jl (n:Nat):av F ((List.range n).map λ(i:Nat)=>D.int (i:Int)) (uL n):=by
 have key:∀ l:List Nat,av F (l.map λ(i:Nat)=>D.int (i:Int)) (l.map λ(i:Nat)=>V.int (i:Int)):=by
  intro l;induction l with
  |nil=>exact rfl
  |cons i l ih=>exact .cons (show Den F (.int i) (.int i) from rfl) ih
 exact key _
theorem T3 (bo:Bool) (hc:X.calm=true) (hg:Gl X "list") (hm:X.mg "list"=none) (cM:Gl X "range") (dg:X.mg "range"=none) (ha:cc X T Z [a] ks) (hs:a6 a=true:=by rfl):PD X T Z (.Call (.Name "list" p) [.Call (.Name "range" p2) [a] [] dF] [] pos) (vY bo ks):=by
 refine PE.imp (BR hc hg hm cM dg ha hs) λσ H Q ⟨F,r,env,bx,R,h⟩=>?_;refine⟨F,r,env,bx,R,End.bind h λws bx1 F1 r1 vs H1 g1 R1 d1 h1=>?_⟩;split at h1
 ·rename_i j;split at h1
  ·rename_i hj;obtain⟨v,t,rfl,q1,q2⟩:=d1;cases (show t=[] from q2);cases (show v=.int j from q1);exact⟨j,rfl,hj.1,hj.2,λl hl=>iA R1 h1 ⟨l,_,rfl,hl,rfl,Jl _⟩⟩
  ·exact h1.elim
 ·exact h1.elim
theorem Oh {b:Expr}{y:Str}{px py pt:Pos}{kt k2 eZ}(i j:Nat) (hc:X.calm=true) (hN:X.N.Nodup) (ha:cc X T Z [a,b] ks) (hi:X.N[i]?=some x:=by rfl) (hj:X.N[j]?=some y:=by rfl) (w9:i≠j:=by decide)
 (hx:X.env.scope.names.lookup x=some .local:=by rfl) (hy:X.env.scope.names.lookup y=some .local:=by rfl)
 (hw:swappedStores [.Tuple [.Name x px,.Name y py] kt pt] (.Tuple [a,b] k2 eZ) X.env=pure (some [x,y]):=by rfl)
 (hs:swapsWithSole [.Tuple [.Name x px,.Name y py] kt pt] (.Tuple [a,b] k2 eZ) pos.line X.env=pure false:=by rfl) :
 dE X T Z (.Assign [.Tuple [.Name x px,.Name y py] kt pt] (.Tuple [a,b] k2 eZ) pos) (sU i j ks):=
 PS.imp (Rf hc hN hi hj w9 hx hy ha hw hs) λD σ H h=>TH h
end
noncomputable def tj:D->V
 |.aq=>.aq
 |.bl b=>.bl b
 |.int i=>.int i
 |.str x=>.str x
 |_=>.ty ""
noncomputable def dG:D->Bool
 |.aq=>true
 |.bl _=>true
 |.int _=>true
 |.str _=>true
 |_=>false
noncomputable def Ej (a b:D):Bool:=eu (tj a) (tj b)
theorem mL (f:dG d=true) (h:Den F d v):v=tj d /\ e9 v=true:=by
 cases d with
 |aq=>cases (show v=.aq from h);exact⟨rfl,rfl⟩
 |bl b=>cases (show v=.bl b from h);exact⟨rfl,rfl⟩
 |int i=>cases (show v=.int i from h);exact⟨rfl,rfl⟩
 |str x=>cases (show v=.str x from h);exact⟨rfl,rfl⟩
 |_=>cases f
theorem lK {F:Hp}:∀ {l:List D}{vs:List V},l.all dG=true->av F l vs->vs=l.map tj /\ vs.all e9=true
 |[],_,_,h=>by cases (show _=[] from h);exact⟨rfl,rfl⟩
 | d::l,_,f,h=>by
   obtain⟨v,r,e,h1,h2⟩:=h;subst e;rw[pB,aA]at f;obtain⟨e1,f1⟩:=mL f.1 h1;obtain⟨e2,f2⟩:=lK f.2 h2;subst e1;subst e2;exact⟨rfl,by rw[pB,f1,f2];rfl⟩
noncomputable def eD (x:D) (l:List D):Bool:=l.any λy=>Ej y x
theorem FY (x:D) (l:List D):zL (tj x) (l.map tj)=eD x l:=by
 unfold zL eD;rw[HQ];rfl
noncomputable def Ek (neg:Bool):D->D->Option Res:=λx y=>match y with
 |.lst l=>if dG x=true /\ l.all dG=true then some (.old (.bl (if neg then !eD x l else eD x l))) else none
 |.tup l=>if dG x=true /\ l.all dG=true then some (.old (.bl (if neg then !eD x l else eD x l))) else none
 |_=>none
theorem YI (neg:Bool):bO (zM K neg) (Ek neg):=by
 intro F H x y v w Q s sub hx hy e k;unfold Ek at e;have fx:∀ {d:D},dG d=true->kL F H d v->Den F d v:=λ{d} f h=>by
  cases d with
  |aq=>exact h
  |bl b=>exact h
  |int i=>exact h
  |str z=>exact h
  |_=>cases f
 cases y with
 | lst l =>
   simp only at e;split at e
   ·rename_i f;cases e;obtain⟨a,vs,rfl,h1,h2⟩:=hy;obtain⟨e1,f1⟩:=mL f.1 (fx f.1 hx);obtain⟨e2,f2⟩:=lK f.2 h2;subst e1;subst e2;refine⟨a,_,rfl,.inl (bu.of h1),f1,f2,?_⟩;rw[FY];exact k _ _ ⟨rfl,rfl⟩
   ·cases e
 | tup l =>
   simp only at e;split at e
   ·rename_i f;cases e;obtain⟨a,vs,rfl,h1,h2⟩:=hy;obtain⟨e1,f1⟩:=mL f.1 (fx f.1 hx);obtain⟨e2,f2⟩:=lK f.2 h2;subst e1;subst e2;refine⟨a,_,rfl,.inr (aV.of (sub _ _ h1)),f1,f2,?_⟩;rw[FY];exact k _ _ ⟨rfl,rfl⟩
   ·cases e
 |_=>cases e
def El (neg:Bool):R2:=λx y H Q=>∃ F dx dy,Sub F H /\ kL F H dx x /\ kL F H dy y /\ dh dx=true /\ dh dy=true /\ ∃ l,(dy=.lst l \/ dy=.tup l) /\ Q (.bl (if neg then !(l.any λz=>eqv z dx) else l.any λz=>eqv z dx)) H
theorem jC (dx:D):∀ l:List D,((a8 l).any λy=>PyData.eqv y (toPy dx))=l.any λz=>eqv z dx
 |[]=>rfl
 | z::l=>by
   show (PyData.eqv (toPy z) (toPy dx)||_)=_;rw[jC dx l];rfl
theorem Sk (hu:X.A.units+100<cLine):aM X (compareOp .In) (El false):=by
 intro pins s σ H x y v u Q I rx ry h;obtain⟨F,dx,dy,sub,hx,hy,ox,oy,l,hl,q⟩:=h;obtain⟨as,ra⟩:=gZ I sub hx rx;obtain⟨bs,rb⟩:=gZ I sub hy ry;obtain⟨x1,x2⟩:=j9 ox;obtain⟨y1,y2⟩:=j9 oy;rcases hl with rfl|rfl
 ·exact SeqAt.in_list_reads rb ra y1 x1 (by omega) (by rw[jC];exact⟨.bl _,H,I,rfl,q⟩)
 ·exact SeqAt.in_tuple_reads rb ra y1 x1 (by omega) (by rw[jC];exact⟨.bl _,H,I,rfl,q⟩)
theorem Jm (hu:X.A.units+100<cLine):aM X (compareOp .NotIn) (El true):=by
 intro pins s σ H x y v u Q I rx ry h;obtain⟨F,dx,dy,sub,hx,hy,ox,oy,l,hl,q⟩:=h;obtain⟨as,ra⟩:=gZ I sub hx rx;obtain⟨bs,rb⟩:=gZ I sub hy ry;obtain⟨x1,x2⟩:=j9 ox;obtain⟨y1,y2⟩:=j9 oy;rcases hl with rfl|rfl
 ·exact SeqAt.notIn_list_reads rb ra y1 x1 (by omega) (by rw[jC];exact⟨.bl _,H,I,rfl,q⟩)
 ·exact SeqAt.notIn_tuple_reads rb ra y1 x1 (by omega) (by rw[jC];exact⟨.bl _,H,I,rfl,q⟩)
noncomputable def tm (neg:Bool) (x y:D) (l:List D):Option Res:=if dh x&&dh y then some (.old (.bl (if neg then !(l.any λz=>eqv z x) else l.any λz=>eqv z x))) else none
noncomputable def inD (neg:Bool):D->D->Option Res:=λx y=>match y with
 |.lst l=>if dG x=true /\ l.all dG=true then some (.old (.bl (if neg then !eD x l else eD x l))) else tm neg x y l
 |.tup l=>if dG x=true /\ l.all dG=true then some (.old (.bl (if neg then !eD x l else eD x l))) else tm neg x y l
 |_=>none
theorem okIn (neg:Bool):bO (λx y H Q=>zM K neg x y H Q \/ El neg x y H Q) (inD neg):=by
 intro F H x y v w Q s sub hx hy e k;have g:∀ l,(y=.lst l \/ y=.tup l)->tm neg x y l=some s->El neg v w H Q:=λl hl e=>by
  unfold tm at e;split at e
  ·rename_i c;rw[aA]at c;cases e;exact⟨F,x,y,sub,hx,hy,c.1,c.2,l,hl,k _ _ ⟨rfl,rfl⟩⟩
  ·cases e
 unfold inD at e;split at e
 ·rename_i l;split at e
  ·rename_i f;exact .inl (YI neg F H x (.lst l) v w Q s sub hx hy (by unfold Ek;simp only;rw[if_pos f];exact e) k)
  ·exact .inr (g l (.inl rfl) e)
 ·rename_i l;split at e
  ·rename_i f;exact .inl (YI neg F H x (.tup l) v w Q s sub hx hy (by unfold Ek;simp only;rw[if_pos f];exact e) k)
  ·exact .inr (g l (.inr rfl) e)
 ·cases e
section
variable {a b o : Expr} {es : List Expr} {mb mc : DE W} {p : Pos}
noncomputable def rO (m k:DE W):DE W:=λenv bx=>fq (m env bx) λx bx1=>match aG bx1 x with
 | some (.lst _)=>fq (k env bx1) λy bx2=>(match y,aG bx2 x with
   |.d d,some (.lst l)=>if dG d=true /\ l.all dG=true then (match l.findIdx? λz=>Ej z d with|some j=>.val (.d (.int (j:Nat))) bx2|none=>.bad) else .bad
   |_,_=>.bad)
 |_=>.bad
theorem LV (R:Rel T F r σ H env bx) {w:W}(d:bJ F r w v) (e:aG bx w=some (.lst l)):∃ a vs,v=.ref a /\ H a=some (.lst vs) /\ av F l vs:=by
 cases w with
 | d x =>
   cases (show some x=some (.lst l) from e);obtain⟨a,vs,rfl,h1,h2⟩:=d;exact⟨a,vs,rfl,R.fh _ _ h1,h2⟩
 | b n =>
   obtain⟨a,rfl,ha⟩:=d;obtain⟨c,hc,kc⟩:=R.nV ha;simp only[aG,hc]at e;cases c with
   | lst l' =>
     cases e;obtain⟨_,vs,h1,h2⟩:=kc;exact⟨a,vs,rfl,h1,h2⟩
   |aN l'=>cases e
   |dead=>cases e
   |dT _=>cases e
 |s l'=>cases e
 |x i=>cases e
 |t _=>cases e
 |m _=>cases e
theorem Oi {Q:VK}(h:tD T Z (rO ma mb) σ H Q):zN X.K "list" Yg (tD T Z ma) (zF (tD T Z mb) zE) σ H Q:=by
 obtain⟨F,r,env,bx,R,h⟩:=h;refine⟨F,r,env,bx,R,End.bind h λx bx1 F1 r1 v H1 g1 R1 d1 h1=>?_⟩;cases q:aG bx1 x with
 |none=>rw[q]at h1;exact h1.elim
 | some dx =>
   rw[q]at h1;cases dx with
   | lst l0 =>
     simp only at h1;obtain⟨a,vs,rfl,k1,k2⟩:=LV R1 d1 q;refine⟨.inl ⟨rfl,vs,bu.of k1⟩,F1,r1,env,bx1,R1,End.bind h1 λy bx2 F2 r2 u H2 g2 R2 d2 h2=>?_⟩;split at h2
     ·rename_i d l q2;split at h2
      ·rename_i f;obtain⟨a',rn,ea,k3,k4⟩:=LV R2 (g2.den d1) q2;cases ea;obtain⟨e1,f1⟩:=mL f.1 d2;obtain⟨e2,f2⟩:=lK f.2 k4;subst e1;subst e2;split at h2
       ·rename_i j hj;obtain⟨hl,acu,acv⟩:=List.findIdx?_eq_some_iff_getElem.mp hj;refine⟨a,l.map tj,tj d,j,rfl,rfl,k3,f2,f1,by rw[aF];exact hl,λz hz=>?_,λm z hm hz=>?_,h2 F2 r2 _ H2 (.refl F2 r2) R2 rfl⟩
        ·rw[kg,cJ hl]at hz;cases hz;exact acu
        ·rw[kg,cJ (by omega:m<l.length)]at hz;cases hz;have:=acv m hm;simpa[Ej] using this
       ·exact h2.elim
      ·exact h2.elim
     ·exact h2.elim
   |_=>exact h1.elim
theorem LW (ho:PD X T Z o ma) (ha:PD X T Z e mb) (c8:a6 e=true:=by rfl)
 (uf:attributeBase o "index" X.env (eval o X.env)=eval o X.env:=by rfl)
 (ug:((backTo pos (starEach [e] X.env)).all (λx=>!x.1)&&(backToKw pos (keywordEach [] X.env)).all (λx=>x.1.isSome)
  && decide ([e].length+([]:List Keyword).length+(if ([]:List Keyword).isEmpty then 0 else 1)<30))=true:=by rfl)
 (uh:(apos.endLine==pos.line)=true:=by rfl):PD X T Z (.Call (.Attribute o "index" apos) [e] [] pos) (rO ma mb):=
 PE.imp (Lm II PySem.F.slot_list_index PySem.F.type_list_index Lq ho (g9 ha jG (fm c8 [] X.env)) uf ug uh (fm c8 [] X.env) (by rfl)) λσ H Q h=>Oi h
noncomputable def K8:D->Option Key
 |.int i=>some (.inl i)
 |.str x=>some (.inr x)
 |_=>none
theorem Oj {k:Key}(e:K8 d=some k) (h:Den F d v):v=kV k:=by
 cases d with
 |int i=>cases e;exact h
 |str x=>cases e;exact h
 |_=>cases e
end
end L2.DL
namespace L2
open PySem PySem.Spec PyProof.Rows
end L2
namespace L2.DL
open PySem PySem.Spec PyProof.Rows
section
variable {a : Expr} {p tp : Pos} {elts : List Expr} {kt : Nat} {k : DE (List W)}
theorem LX {a b:Expr}{y:Str}{px py pt:Pos}{kt k2 eZ}(i j:Nat) (hc:X.calm=true) (hN:X.N.Nodup) (ha:cc X T Z [a,b] ks) (hi:X.N[i]?=some x:=by rfl) (hj:X.N[j]?=some y:=by rfl)
 (hx:Loc X.env.scope x:=by first|exact Or.inl rfl|exact Or.inr rfl) (hy:Loc X.env.scope y:=by first|exact Or.inl rfl|exact Or.inr rfl)
 (acw:X.fn x=true \/ X.env.scope.names.lookup x=some .local:=by first|exact .inl rfl|exact .inr rfl) (acx:X.fn y=true \/ X.env.scope.names.lookup y=some .local:=by first|exact .inl rfl|exact .inr rfl)
 (hs:swapsWithSole [.Tuple [.Name x px,.Name y py] kt pt] (.Tuple [a,b] k2 eZ) pos.line X.env=pure false:=by rfl)
 (hw:swappedStores [.Tuple [.Name x px,.Name y py] kt pt] (.Tuple [a,b] k2 eZ) X.env=pure none:=by rfl)
 (h0:(assignEach [.Tuple [.Name x px,.Name y py] kt pt] X.env).map (·.2)=[assign (.Tuple [.Name x px,.Name y py] kt pt) X.env]:=by rfl)
 (h1:(assignEach [.Name x px,.Name y py] X.env).map (·.2)=assign (.Name x px) X.env::(assignEach [.Name y py] X.env).map (·.2):=by rfl)
 (h2:(assignEach [.Name y py] X.env).map (·.2)=assign (.Name y py) X.env::(assignEach [] X.env).map (·.2):=by rfl)
 (hn:(assignEach [.Name x px,.Name y py] X.env).length=2:=by rfl) (w8:(assignEach [.Name x px,.Name y py] X.env).findIdx? (·.1)=none:=by rfl) :
 dE X T Z (.Assign [.Tuple [.Name x px,.Name y py] kt pt] (.Tuple [a,b] k2 eZ) pos) (sU i j ks):=by
 refine PS.imp (J4 (Dw ha) (J3 hc (Ac (BK hN hi hx acw) (Ac (BK hN hj hy acx) FA h2) h1) hn w8) hs hw h0) λD σ H ⟨F,r,env,bx,R,h⟩=>?_;refine⟨F,r,env,bx,R,End.ck h λws bx1 F1 r1 vs H1 g1 R1 d1 h1=>?_⟩;split at h1
 ·obtain⟨v,t,rfl,q1,u,t2,rfl,q2,q3⟩:=d1;cases (show t2=[] from q3);refine⟨by show 2<=sizeLine;decide,λp hp=>?_⟩;have gr:=R1.rC (o:=.tup [v,u]) hp;exact⟨p,[v,u],rfl,aV.of fI,rfl,v,[u],rfl,u,[],rfl,rfl,h1 _ r1 _ _ gr (((R1.vQ hp).set (gr.den q1) i).set (gr.den q2) j)⟩
 ·exact h1.elim
end
def YJ (K:PySem.W.Frag) (vs:List V) (H:Hp) (Q:VK):Prop:=∃ (p:Addr) (bs:List Bool),vs=[.ref p] /\ H p=some (.lst (bs.map V.bl)) /\ Q (.bl (bs.any id)) H
theorem Jn (bs:List Bool):((List.range bs.length).any λi=>(bs[i]?).getD false)=bs.any id:=by
 rw[nK,kh,kh];constructor
 ·rintro⟨i,m,h⟩;have hi:=kl.mp m;rw[cJ hi]at h;exact⟨bs[i],vj hi,h⟩
 ·rintro⟨b,m,h⟩;obtain⟨i,hi,e⟩:=List.mem_iff_getElem.mp m;exact⟨i,kl.mpr hi,by rw[cJ hi,e];exact h⟩
theorem Jo (hc:X.calm=true):dA X (.builtin "any") (YJ X.K):=by
 intro pins s σ H xs us Q I rv h;obtain⟨p,bs,rfl,hp,q⟩:=h;obtain⟨u,rfl,ru⟩:=Vals.one rv;cases ru;obtain⟨af,r1,p1,z1⟩:=I.list (bu.of (K:=X.K) hp);have hl:=p1.isList;have pP:p<s.heap.objs.size:=by obtain⟨_,e,_⟩:=hl;exact aK e
 have hlen:bs.length=af.length:=by have:=r1.length;simpa using this
 refine call_any_walk (u5 hl ?_);refine⟨s.heap.objs.size,[s.heap.objs.size,p],[s.heap.objs.size],af.toArray.size,_,_,λi=>(bs[i]?).getD false,rfl,Walks.list (A:=X.A.in1) (I.ok.hd hc) _ p (bL pP) af.toArray,
  ⟨⟨_,aR _ rfl,rfl,rfl⟩,hl.push _⟩,λi v s' Q' E' hP hQ=>?_,λh' tk hk=>?_⟩
 ·have xC:af[i]?=some v:=by simpa using hP
  have hi:i<bs.length:=by rw[hlen];exact(List.getElem?_eq_some_iff.mp xC).1
  obtain⟨w,e1,e2⟩:=r1.get (i:=i) (x:=V.bl bs[i]) (by simp[hi]);rw[xC]at e1;cases e1;cases e2;simp only[cJ hi,zi]at hQ;exact k7 hQ
 ·have e:((List.range af.toArray.size).any λi=>(bs[i]?).getD false)=bs.any id:=by
   rw[aU,<-hlen];exact Jn bs
  rw[e];exact⟨.bl _,H,I.kept (t':=tk) (Xj hk),rfl,q⟩
noncomputable def vZ:List D->Option Res
 |[.lst l]=>(nv l).map λbs=>.old (.bl (bs.any id))
 |_=>none
theorem acy:dU (YJ K) vZ:=by
 intro F H xs vs Q s sub rx e k;unfold vZ at e;split at e
 ·rename_i l;obtain⟨v,t,rfl,⟨a,us,rfl,h1,h2⟩,rt⟩:=rx;cases (show t=[] from rt);cases e1:nv l with
  |none=>rw[e1]at e;cases e
  | some bs =>
    rw[e1]at e;cases e;have q1:=h2.KN e1;subst q1;exact⟨a,bs,rfl,h1,k _ _ ⟨rfl,rfl⟩⟩
 ·cases e
section
variable {a : Expr} 
end
end L2.DL
namespace HT
open PySem PyProof.Rows PySem.W
abbrev Kp (h h':Heap):Prop:=∀ b o,h.get? b=some o->h'.get? b=some o
section
variable {l I S : Addr} {nm : String} 
theorem FZ (hl:h.IsList l vs.toArray) (k:Kp h h'):h'.IsList l vs.toArray:=by
 obtain⟨o,ho,r⟩:=hl;exact⟨o,k _ _ ho,r⟩
theorem DP {h1 h2:Heap}(k:Kp h h1) (hI:h.get? I=none) (hk:∀ b o,b∉[I]->h1.get? b=some o->h2.get? b=some o):Kp h h2:=λb o e=>hk b o (λz=>by rw[a7.mp z,hI]at e;cases e) (k b o e)
theorem F6 {h1 h2:Heap}(k:Kp h h1) (hS:h.get? S=none) (hk:Heap.SameBut S h1 h2):Kp h h2:=λb o e=>(hk.2 b (λz=>by rw[z,hS]at e;cases e)).trans (k b o e)
noncomputable def pick (kf:Nat->Int) (j:Nat):Option Nat->Nat
 |none=>j
 |some i=>if kf j<kf i then j else i
theorem om (kf:Nat->Int) (j i:Nat):pick kf j (some i)=if kf j<kf i then j else i:=rfl
structure yb (s:Shared) (l I S:Addr) (vs:List Value) (kf:Nat->Int) (j:Nat) (h:Heap) (c:Option Nat):Prop where
 kp:Kp s.heap h
 it:h.IsListIter I l j
 box:∃ xs n,h.get? S=some (seqObj "list" xs n) /\ match c with
  |none=>xs=#[]
  |some i=>∃ v t,vs[i]?=some v /\ xs=#[v,.int (kf i) t]
abbrev K9 (prog:Program) (w:World) (A:Around) (s:Shared) (nm:String) (vs:List Value) (kf:Nat->Int):Prop :=
 ∀ (i:Nat) (v:Value),vs[i]?=some v->∀ (h:Heap) (tk:Nat),Kp s.heap h ->
  wpAny (model prog w) A.in1 (call (.builtin nm) [v]) (λr s'=>∃ h' hV t,r=.int (kf i) t /\ s'={ s with heap:=h',toks:=hV } /\ Kp h h') (λ_ _=>False) { s with heap:=h,toks:=tk }
section
variable {kf : Nat -> Int} (hh : A.handled = none) (hl : s.heap.IsList l vs.toArray) (yc : l ≠ I) (v8 : S ≠ I) (yd : s.heap.get? S = none) (wa : s.heap.get? I = none)
include hh hl yc v8 yd wa
theorem LY {tk:Nat}(M:yb s l I S vs kf vs.length h (some i)) (hR:∀ v h' hV,vs[i]?=some v->Kp s.heap h'->R (.ok (.ret v)) { s with heap:=h',toks:=hV }) :
 codeAny (model prog w) A (.builtin "min.loop" ⟨[.ref I,.builtin nm,.ref S],[]⟩) R { s with heap:=h,toks:=tk }:=by
 obtain⟨xs,n,hb,v,t,hv,rfl⟩:=M.box;refine p6 W5 ((t7 vC (A:=A) ⟨[.ref I,.builtin nm,.ref S],[]⟩).symm▸?_);refine ae (p7 hb rfl (ae (yL ?_)));refine(Walks.list (prog:=prog) (w:=w) (A:=A.in1) hh I l yc vs.toArray).done _ _ _ ⟨by rw[aU];exact M.it,FZ hl M.kp⟩ λh1 YK k1=>?_;have b1:=k1 S _ (by rw[a7];exact v8) hb;have hE:Heap.SameBut S h1 (h1.update S (Obj.mapSeq λ_=>(#[]:Array Value))):=Heap.SameBut.update h1 S _;exact ae (wH b1 rfl (ae (tU (ag (hR v _ _ hv (F6 (DP M.kp wa k1) yd hE))))))
theorem LZ (K:K9 prog w A s nm vs kf) (hj:j<vs.length) {c:Option Nat}{tk:Nat}(M:yb s l I S vs kf j h c)
 (next:∀ h' hV,yb s l I S vs kf (j+1) h' (some (pick kf j c))->codeAny (model prog w) A (.builtin "min.loop" ⟨[.ref I,.builtin nm,.ref S],[]⟩) R { s with heap:=h',toks:=hV }) :
 codeAny (model prog w) A (.builtin "min.loop" ⟨[.ref I,.builtin nm,.ref S],[]⟩) R { s with heap:=h,toks:=tk }:=by
 have ye:(toString "min"++toString ".loop":String)="min.loop":=by decide
 obtain⟨xs,n,hb,hc⟩:=M.box;refine p6 W5 ((t7 vC (A:=A) ⟨[.ref I,.builtin nm,.ref S],[]⟩).symm▸?_);refine ae (p7 hb rfl (ae (yL ?_)));refine(Walks.list (prog:=prog) (w:=w) (A:=A.in1) hh I l yc vs.toArray).item j _ _ _ (by rw[aU];exact hj) ⟨M.it,FZ hl M.kp⟩ λv h1 YK hP Qa k1=>?_;have hv:vs[j]?=some v:=by simpa using hP
 obtain⟨oi,i1,i2,i3⟩:=id Qa.1;have b1:=k1 S _ (by rw[a7];exact v8) hb;refine ae (yL (cn (c6 (K j v hv h1 YK (DP M.kp wa k1)) (λr s2 ⟨h2,Em,t2,er,es,k2⟩=>?_) λ_ _ z=>z.elim)));subst er;subst es;have YL:Kp s.heap h2:=λb o e=>k2 b o (DP M.kp wa k1 b o e);have b2:=k2 _ _ b1;have bC:h2.IsListIter I l (j+1):=⟨oi,k2 _ _ i1,i2,i3⟩;have put:∀ ys:Array Value,Heap.SameBut S h2 (h2.update S (Obj.mapSeq λ_=>ys)) /\ ∃ n',(h2.update S (Obj.mapSeq λ_=>ys)).get? S=some (seqObj "list" ys n'):=λys=>⟨Heap.SameBut.update h2 S _,_,Ic b2 λ_=>ys⟩;have YM:yb s l I S vs kf (j+1) (h2.update S (Obj.mapSeq λ_=>#[v,.int (kf j) t2])) (some j):=by
  obtain⟨p1,n',p2⟩:=put #[v,.int (kf j) t2];exact⟨F6 YL yd p1,⟨oi,(p1.2 I v8.symm).trans (k2 _ _ i1),i2,i3⟩,_,n',p2,v,t2,hv,rfl⟩
 cases c with
 | none =>
   cases (show xs=#[] from hc);refine ae (wH b2 rfl ?_);rw[ye];exact ag ⟨rY vC _,next _ _ YM⟩
 | some i =>
   obtain⟨vb,tb,acz,rfl⟩:=hc;refine ae (yL (cn (ae (lt_int (ae (cn (k7 (ae (tU (ag ?_))))))))));by_cases q:kf j<kf i
   ·rw[decide_eq_true q,if_pos rfl];refine ae (wH b2 rfl (ae (tU ?_)));rw[ye];refine ag ⟨rY vC _,next _ _ ?_⟩;rw[om,if_pos q];exact YM
   ·rw[decide_eq_false q,if_neg (by decide)];refine ae (tU ?_);rw[ye];refine ag ⟨rY vC _,next _ _ ?_⟩;rw[om,if_neg q];exact⟨YL,bC,_,n,b2,vb,tb,acz,rfl⟩
noncomputable def rP (kf:Nat->Int):Nat->Nat->Option Nat->Option Nat
 |0,_,c=>c
 |n+1,j,c=>rP kf n (j+1) (some (pick kf j c))
theorem CM (K:K9 prog w A s nm vs kf) (h0:0<vs.length) (hR:∀ i v h' hV,rP kf vs.length 0 none=some i->vs[i]?=some v->Kp s.heap h'->R (.ok (.ret v)) { s with heap:=h',toks:=hV }) :
 ∀ (n j:Nat) (c:Option Nat) (h:Heap) (tk:Nat),j+n=vs.length->(j=0 \/ c.isSome=true)->rP kf n j c=rP kf vs.length 0 none->yb s l I S vs kf j h c ->
  codeAny (model prog w) A (.builtin "min.loop" ⟨[.ref I,.builtin nm,.ref S],[]⟩) R { s with heap:=h,toks:=tk }
 | 0,j,c,h,tk,hn,hc,e,M=>by
   have:j=vs.length:=by omega
   subst this;cases c with
   | none => rcases hc with hc|hc
             ·omega
             ·cases hc
   |some i=>exact LY hh hl yc v8 yd wa M λv h' hV hv k=>hR i v h' hV e.symm hv k
 |n+1,j,c,h,tk,hn,hc,e,M=>LZ hh hl yc v8 yd wa K (by omega) M λh' hV M'=>CM K h0 hR n (j+1) _ h' hV (by omega) (.inr rfl) e M'
end
theorem Ol {kf:Nat->Int}(hh:A.handled=none) (hl:s.heap.IsList l vs.toArray) (h0:0<vs.length) (K:K9 prog w A s nm vs kf)
 (hQ:∀ i v h' hV,rP kf vs.length 0 none=some i->vs[i]?=some v->Kp s.heap h'->Q v { s with heap:=h',toks:=hV }) :
 wpAny (model prog w) A (call (.builtin "min") [.ref l] [(Str.ofString "key",.builtin nm)]) Q E s:=by
 have ye:(toString "min"++toString ".loop":String)="min.loop":=by decide
 obtain⟨ol,acA,_⟩:=id hl;have acB:l<s.heap.objs.size:=aK acA;refine kmk_tree PySem.F.kind_min PySem.F.plain_min PySem.F.entry_min (kmk_min_key _ _) ?_;refine ae (tR (show Builtin.Builtins.bindParams "min" ["key", "default"] 0 ⟨[],[("key",.builtin nm)]⟩=pure [some (.builtin nm),none] from rfl) (ae (ag (ae (u5 hl (ae (u7 ?_ (cT _))))))));rw[ye];generalize hT:(s.heap.push { cls:=.type "list_iterator",data:=.fields #[.ref l,.int 0 0] }).objs.size=S;have hS:S=s.heap.objs.size+1:=hT.symm.trans (qg ..);refine ag ⟨rY vC _,CM hh hl (bL acB) (by rw[hS];exact Nat.succ_ne_self _) (vf (by rw[hS];exact nI _)) (vf (ak _)) K h0 hQ vs.length 0 none _ _ (by omega) (.inl rfl) rfl ⟨?_,?_,#[],0,?_,rfl⟩⟩
 ·exact λb x e=>aC _ (aC _ e)
 ·exact⟨_,aC _ (aR _ rfl),rfl,rfl⟩
 ·rw[<-hT];exact aR _ rfl
end
end HT
namespace L2
open PySem PySem.Spec PyProof.Rows PySem.W
section
variable {a : Expr} {p q kp : Pos} {t : TA}
def YN (K:Frag) (vs:List V) (H:Hp) (Q:VK):Prop:=∃ (p:Addr) (xs:List V) (kf:Nat->Nat),vs=[.ref p] /\ bu K H p xs /\ 0<xs.length /\ (∀ i x,xs[i]?=some x->∃ b ys,x=.ref b /\ aV K H b ys /\ ys.length=kf i) /\
 ∀ i x,HT.rP (λi=>(kf i:Int)) xs.length 0 none=some i->xs[i]?=some x->Q x H
theorem Jp (hc:X.calm=true) (hg:Gl X "min") (hm:X.mg "min"=none) (cM:Gl X "len") (dg:X.mg "len"=none) (ha:PA X [a] t) (hs:starEach [a] X.env=[(false,eval a X.env)]) :
 PE X (.Call (.Name "min" p) [a] [⟨some "key",.Name "len" q,kp⟩] pos) (vO (YN X.K) t):=by
 intro pins s σ H Q I h;refine k8 (gM I hg hm (by decide +kernel:bootBuiltins "min"=some (.builtin "min")) ?_ (by decide) (by decide));refine callWith_kw (ao (ha pos pins s σ H _ I h) λus s1 ⟨vs,H1,I1,r1,q1⟩=>?_) (by rw[hs];rfl) (by rw[hs];rfl) rfl rfl;show wpAny _ _ (evalAll [do let v <-eval (.Name "len" q) X.env;standAt pos;pure v]) _ _ _;refine wpAny_evalAll_cons (ae (gM I1 cM dg yG (ae (qM (ag (wpAny_evalAll_nil ?_)))) (by decide) (by decide)));obtain⟨l,xs,kf,rfl,hl,h0,hk,q1⟩:=q1;obtain⟨u,rfl,ru⟩:=Vals.one r1;cases ru;obtain⟨af,r',pl,hz⟩:=I1.list hl;have hlen:=r'.length;have sz:=sD;refine HT.Ol (kf:=λi=>(kf i:Int)) (I1.ok.hd hc) pl.isList (by omega) (λi v hv h tk K=>?_) λi v h' hV hb hv K=>?_
 ·have hi:i<xs.length:=by rw[hlen];exact(List.getElem?_eq_some_iff.mp hv).1
  obtain⟨w,e1,e2⟩:=r'.get (i:=i) (x:=xs[i]) (cJ hi);rw[hv]at e1;cases e1;obtain⟨b,ys,e3,hy,e4⟩:=hk i xs[i] (cJ hi);rw[e3]at e2;cases e2;obtain⟨kI,r2,acC,xT⟩:=I1.tuple hy;have qp:=r2.length;refine len_tuple (s:={ s1 with heap:=h,toks:=tk }) (items:=kI.toArray) ?_ (by simp only[aU]<;>omega) ⟨h,_,tk+1,?_,rfl,λ_ _ z=>z⟩
  ·obtain⟨o,a1,a2⟩:=acC;exact⟨o,K _ _ a1,a2⟩
  ·show Value.int _ _=Value.int _ _;rw[aU,<-qp,e4]
 ·have hi:i<xs.length:=by rw[hlen];exact(List.getElem?_eq_some_iff.mp hv).1
  obtain⟨w,e1,e2⟩:=r'.get (i:=i) (x:=xs[i]) (cJ hi);rw[hv]at e1;cases e1;exact⟨xs[i],H1,I1.kept K,e2,q1 i xs[i] (by rw[hlen];exact hb) (cJ hi)⟩
end
end L2
namespace L2.DL
open PySem PySem.Spec PyProof.Rows PySem.W
noncomputable def pb:D->Option Nat
 |.tup l=>some l.length
 |_=>none
noncomputable def tq (f:D->Nat):D->List D->D
 |b,[]=>b
 |b,x::l=>tq f (if f x<f b then x else b) l
noncomputable def yf:List D->Option Res
 |[.lst (x::l)]=>if (x::l).all (λd=>(pb d).isSome) then some (.old (tq (λd=>(pb d).getD 0) x l)) else none
 |_=>none
theorem At (f:D->Nat) (g:Nat->Nat) (L:List D) (hg:∀ (i:Nat) (d:D),L[i]?=some d->g i=f d):∀ (l:List D) (b:D) (i k:Nat),L.drop k=l->L[i]?=some b ->
 ∃ j,HT.rP (λi=>(g i:Int)) l.length k (some i)=some j /\ L[j]?=some (tq f b l)
 |[],b,i,k,hl,hb=>⟨i,rfl,hb⟩
 | x::l,b,i,k,hl,hb=>by
   have hx:L[k]?=some x:=by rw[<-List.head?_drop,hl];rfl
   have hd:L.drop (k+1)=l:=by rw[<-List.tail_drop,hl];rfl
   have e:HT.pick (λi=>(g i:Int)) k (some i)=if f x<f b then k else i:=by
    rw[HT.om,hg k x hx,hg i b hb];by_cases c:f x<f b
    ·rw[if_pos c,if_pos (by omega)]
    ·rw[if_neg c,if_neg (by omega)]
   show ∃ j,HT.rP _ l.length (k+1) (some (HT.pick (λi=>(g i:Int)) k (some i)))=some j /\ L[j]?=some (tq f (if f x<f b then x else b) l);rw[e];by_cases c:f x<f b
   ·rw[if_pos c,if_pos c];exact At f g L hg l x k (k+1) hd hx
   ·rw[if_neg c,if_neg c];exact At f g L hg l b i (k+1) hd hb
theorem acD:dU (YN K) yf:=by
 intro F H xs vs Q s sub rx e k;unfold yf at e;split at e
 ·rename_i x l;split at e
  ·rename_i c;cases e;obtain⟨v,t,rfl,h1,h2⟩:=rx;cases (show t=[] from h2);obtain⟨a,ws,rfl,h3,h4⟩:=h1;have hl:=h4.length;obtain⟨i,e1,e2⟩:=At (λd=>(pb d).getD 0) (λi=>((x::l)[i]?.bind pb).getD 0) (x::l) (λi d e=>by simp only[e,a9]) l x 0 1 rfl rfl;refine⟨a,ws,λi=>((x::l)[i]?.bind pb).getD 0,rfl,.of h3,by rw[<-hl];simp,λi y hy=>?_,λj y hp hy=>?_⟩
   ·obtain⟨d,q1,q2⟩:=h4.get' hy;have:=bR.mp c d (yX q1);cases d with
    | tup m =>
      obtain⟨b,us,rfl,q3,q4⟩:=q2;exact⟨b,us,rfl,.of (sub _ _ q3),by dsimp only;rw[q1];exact q4.length.symm⟩
    |_=>cases this
   ·rw[<-hl]at hp;have YO:HT.rP (λi=>((((x::l)[i]?.bind pb).getD 0:Nat):Int)) l.length 1 (some 0)=some j:=hp;rw[e1]at YO;cases YO;obtain⟨d',q1,q2⟩:=h4.get' hy;rw[e2]at q1;cases q1;exact k _ _ ⟨rfl,q2⟩
  ·cases e
 ·cases e
section
variable {a : Expr} {p q kp : Pos} {m : DE (List W)}
theorem Jq (hc:X.calm=true) (hg:Gl X "min") (hm:X.mg "min"=none) (cM:Gl X "len") (dg:X.mg "len"=none) (ha:cc X T Z [a] m) (hs:starEach [a] X.env=[(false,eval a X.env)]) :
 PD X T Z (.Call (.Name "min" p) [a] [⟨some "key",.Name "len" q,kp⟩] pos) (dN false yf m):=PE.imp (Jp hc hg hm cM dg ha hs) (Ct acD)
end
end L2.DL
namespace HT
open PySem PyProof.Rows PySem.W
section
variable {t : Addr} 
noncomputable abbrev dist (ns:List Int):List Int:=firstMet (λi=>ns.getD i 0) ns.length
end
end HT
namespace L2
open PySem PySem.Spec PyProof.Rows PySem.W
section
variable {a : Expr} {p p2 dF : Pos} {t : TA}
theorem jM:∀ {ns:List Int}{us:List Value},Vals (ns.map V.int) us->IntsAre us ns
 |[],_,.nil=>.nil
 | n::ns,_,.cons r q=>by
   obtain⟨t,rfl⟩:=r;exact .cons n t (jM q)
end
end L2
namespace L2.DL
open PySem PySem.Spec PyProof.Rows PySem.W
section
variable {a : Expr} {p p2 dF : Pos} {m : DE (List W)}
end
end L2.DL
namespace HT
open PySem PyProof.Rows PySem.W
abbrev pX (xs:Array Nat):Prop:=xs.toList.Pairwise (·<·)
theorem oV {xs:Array Nat}(h:pX xs) {x y:Nat}(hi:xs[i]?=some x) (hj:xs[j]?=some y) (l:i<j):x<y:=by
 have nZ:xs.toList[i]?=some x:=by rw[pC];exact hi
 have pL:xs.toList[j]?=some y:=by rw[pC];exact hj
 obtain⟨a,rfl⟩:=List.getElem?_eq_some_iff.mp nZ;obtain⟨b,rfl⟩:=List.getElem?_eq_some_iff.mp pL;exact List.pairwise_iff_getElem.mp h i j a b l
theorem Au {xs:Array Nat}(h:pX xs) (j:Nat):∀ (f lo hi:Nat),hi-lo<=f->lo<=hi->hi<=xs.size->(∀ i x,i<lo->xs[i]?=some x->x<j)->(∀ i x,hi<=i->xs[i]?=some x->j<=x) ->
 SetTable.below.go xs j f lo hi<=xs.size /\ (∀ i x,i<SetTable.below.go xs j f lo hi->xs[i]?=some x->x<j) /\ ∀ i x,SetTable.below.go xs j f lo hi<=i->xs[i]?=some x->j<=x
 | 0,lo,hi,hf,hl,hh,h1,h2=>by
   have:lo=hi:=by omega
   subst this;exact⟨hh,h1,h2⟩
 | f+1,lo,hi,hf,hl,hh,h1,h2=>by
   rw[SetTable.below.go];by_cases c:lo<hi
   ·rw[if_pos c];have hm:(lo+hi) / 2<xs.size:=by omega
    have em:xs[(lo+hi) / 2]?=some xs[(lo+hi) / 2]:=by simp[hm]
    have eg:xs.getD ((lo+hi) / 2) j=xs[(lo+hi) / 2]:=by simp[Array.getD,hm]
    show (let mid:=(lo+hi) / 2;if xs.getD mid j<j then SetTable.below.go xs j f (mid+1) hi else SetTable.below.go xs j f lo mid)<=xs.size /\ _;simp only[eg];by_cases q:xs[(lo+hi) / 2]<j
    ·simp only[if_pos q];refine Au h j f _ hi (by omega) (by omega) hh (λi x nZ e=>?_) h2;by_cases z:i<(lo+hi) / 2
     ·have:=oV h e em z;omega
     ·have:i=(lo+hi) / 2:=by omega
      subst this;rw[em]at e;cases e;exact q
    ·simp only[if_neg q];refine Au h j f lo _ (by omega) (by omega) (by omega) h1 λi x nZ e=>?_;by_cases z:i=(lo+hi) / 2
     ·subst z;rw[em]at e;cases e;omega
     ·have:=oV h em e (by omega);omega
   ·rw[if_neg c];have:lo=hi:=by omega
    subst this;exact⟨hh,h1,h2⟩
theorem l9 {xs:Array Nat}(h:pX xs) (j:Nat):SetTable.below xs j<=xs.size /\ (∀ i x,i<SetTable.below xs j->xs[i]?=some x->x<j) /\ ∀ i x,SetTable.below xs j<=i->xs[i]?=some x->j<=x :=
 Au h j xs.size 0 xs.size (by omega) (cT _) (ak _) (λi x hi=>absurd hi (ve _)) λi x hi e=>by
  have:=(Array.getElem?_eq_some_iff.mp e).1;omega
theorem Av {xs:Array Nat}(h:pX xs) {x:Nat}(e:xs[i]?=some x):SetTable.below xs (x+1)=i+1:=by
 obtain⟨b1,b2,b3⟩:=l9 h (x+1);have lt:=(Array.getElem?_eq_some_iff.mp e).1;have h1:¬ SetTable.below xs (x+1)<=i:=λz=>by
  have:=b3 i x z e;omega
 have h2:¬ i+1<SetTable.below xs (x+1):=λz=>by
  have el:xs[i+1]?=some xs[i+1]:=by
   have:i+1<xs.size:=by omega
   simp[this]
  have a:=b2 (i+1) _ z el;have b:=oV h e el (eJ i);omega
 omega
theorem Aw {xs:Array Nat}(h:pX xs):SetTable.below xs 0=0:=by
 obtain⟨b1,b2,b3⟩:=l9 h 0;apply Classical.byContradiction;intro z;have lt:0<xs.size:=by omega
 have el:xs[0]?=some xs[0]:=by simp[lt]
 have:=b2 0 _ (by omega) el;omega
theorem oS (xs:Array α) (p:Nat) (x:α):(SetTable.insertAt xs p x).toList=xs.toList.take p++x::xs.toList.drop p:=by
 unfold SetTable.insertAt;rw[Array.toList_append,Iz,WR,WR];simp only[List.extract_eq_take_drop,yO,HN,eK,List.singleton_append];congr 2;exact HR (by simp)
theorem L0 {xs:Array Nat}(h:pX xs) (hn:xs[SetTable.below xs j]?≠some j):pX (SetTable.insertAt xs (SetTable.below xs j) j):=by
 obtain⟨b1,b2,b3⟩:=l9 h j;unfold pX;rw[oS];have pP:∀ x∈xs.toList.take (SetTable.below xs j),x<j:=λx m=>by
  obtain⟨i,hi,e⟩:=Wn m;rw[se]at hi;refine b2 i x (by omega) ?_;rw[<-pC,<-e,List.getElem_take];exact cJ (by omega)
 have YQ:∀ x∈xs.toList.drop (SetTable.below xs j),j<x:=λx m=>by
  obtain⟨i,hi,e⟩:=Wn m;rw[yY]at hi;have ex:xs[SetTable.below xs j+i]?=some x:=by
   rw[<-pC,<-e,List.getElem_drop];exact cJ (by omega)
  have:=b3 _ x (vd _ _) ex;have ne:x≠j:=λz=>by
   subst z;cases i with
   |zero=>exact hn ex
   | succ i =>
     have lt:SetTable.below xs x<xs.size:=by
      have:=(Array.getElem?_eq_some_iff.mp ex).1;omega
     have el:xs[SetTable.below xs x]?=some xs[SetTable.below xs x]:=by simp[lt]
     have a:=b3 _ _ (ak _) el;have b:=oV h el ex (by omega);omega
  omega
 rw[vp];refine⟨h.sublist (Wb _ _),List.pairwise_cons.mpr ⟨YQ,h.sublist (List.drop_sublist _ _)⟩,λa ma b mb=>?_⟩;have:=pP a ma;rcases aP.mp mb with rfl|mb
 ·exact this
 ·have:=YQ b mb;omega
theorem DQ (n:Nat):pX (Array.range n):=by
 unfold pX;rw[Array.toList_range];exact Wo
def yh (t:SetTable) (j:Nat):Prop:=t.place[SetTable.below t.place j]?≠some j
theorem CN (h:∀ i,t.slot j≠.live i):yh t j:=λe=>by
 refine h (SetTable.below t.place j) ?_;unfold SetTable.slot;simp[e]
theorem Ax {t:SetTable}{ha:Nat->Int}{h:Int}:∀ (f:Nat) (p:SetTable.Probe) {j:Nat}{d:Option Nat},(∀ z,p.dummy=some z->yh t z)->SetTable.probe.go t ha h f p=some (.empty j d)->yh t j /\ ∀ z,d=some z->yh t z
 |0,p,j,d,_,e=>by cases e
 | f+1,p,j,d,hp,e=>by
   rw[SetTable.probe.go]at e;split at e
   ·rename_i q;cases e;exact⟨CN (λi z=>by rw[q]at z;cases z),hp⟩
   ·rename_i q;refine Ax f _ (λz hz=>?_) e;have:(t.advance { p with dummy:=some p.j }).dummy=some p.j:=by
     unfold SetTable.advance;split<;>rfl
    rw[this]at hz;cases hz;exact CN λi z=>by rw[q]at z;cases z
   ·split at e
    ·cases e
    ·refine Ax f _ (λz hz=>?_) e;have:(t.advance p).dummy=p.dummy:=by
      unfold SetTable.advance;split<;>rfl
     rw[this]at hz;exact hp z hz
theorem L1 {h:Int}{b:Bool}(e:t.freeSlot h=some (j,b)):yh t j:=by
 unfold SetTable.freeSlot at e;split at e
 ·rename_i j' d q;obtain⟨a,c⟩:=Ax _ _ (by intro z hz;cases hz) q;cases d with
  |none=>cases e;exact a
  |some z=>cases e;exact c z rfl
 ·cases e
structure dH (acE:Bool) (t:SetTable):Prop where
 r:pX t.place
 l:acE=false->t.led=true
theorem dH.xh {b:Bool}(h:dH b t) (n:Nat):dH b (t.standIn n):=⟨DQ n,h.l⟩
theorem dH.lay {b:Bool}(h:dH b t) (es:Array (Int×Value)) (k:Int) (x:Value):dH b (layNew t es k x).2.1:=by
 unfold layNew;cases e:t.freeSlot k with
 |none=>exact h.xh _
 | some p =>
   obtain⟨j,d⟩:=p;have hn:=L1 e;show dH b ((t.put j).1.orStandIn _);have hp:dH b (t.put j).1:=⟨L0 h.r hn,h.l⟩;unfold SetTable.orStandIn;split
   ·exact hp
   ·exact hp.xh _
theorem dH.plain {b:Bool}{t:SetTable}(h:dH b t) (p:Bool):dH b { t with plain:=p }:=⟨h.r,h.l⟩
theorem Bm (f:Nat->Option Nat):∀ l:List Nat,l.Pairwise (·<·)->(((l.filterMap λj=>(f j).map (j,·)).map (·.1))).Pairwise (·<·)
 |[],_=>.nil
 | j::l,h=>by
   obtain⟨h1,h2⟩:=List.pairwise_cons.mp h;have ih:=Bm f l h2;rw[pz];cases e:f j with
   |none=>exact ih
   | some z =>
     rw[qf];refine List.pairwise_cons.mpr ⟨λa ma=>?_,ih⟩;obtain⟨p,mp,rfl⟩:=aT.mp ma;obtain⟨i,mi,ei⟩:=List.mem_filterMap.mp mp;cases q:f i with
     |none=>rw[q]at ei;cases ei
     | some w =>
       rw[q]at ei;cases ei;exact h1 i mi
theorem dH.acF {b:Bool}(h:dH b t) (es:Array (Int×Value)) (n:Nat):dH b (relayAll t es n).2.1:=by
 unfold relayAll;cases e:t.relaid (es.map (·.1)) n with
 |none=>exact h.xh _
 | some p =>
   obtain⟨t',o⟩:=p;have ht:dH b t':=by
    unfold SetTable.relaid SetTable.laid at e;cases q:SetTable.layClean (SetTable.sizeAbove n-1) (es.map (·.1)) with
    |none=>rw[q]at e;cases e
    | some ow =>
      rw[q]at e;cases e;exact⟨Bm _ _ Wo,h.l⟩
   show dH b (if (coversAll o es.size&&t'.fits (o.filterMap (es[·]?)).size)=true then (o.filterMap (es[·]?),t',false) else (es,t.standIn es.size,true)).2.1;split
   ·exact ht
   ·exact h.xh _
structure cY (prog:Program) (w:World) (b:Bool) (o:Obj) (ns:List Int) (es:Array (Int×Value)) (ep:Nat) (t:SetTable) (ms:List Int):Prop where
 x:o.ExactSet
 d:o.data=.set es ep t
 el:ElemsOf (intKind prog w) es.toList
 bd:es.size<scanBound
 ft:t.fits es.size=true
 ok:dH b t
 vs:IntsAre (es.toList.map (·.2)) ms
 pm:ms.Perm ns
def hZ (prog:Program) (w:World) (b:Bool) (h:Heap) (a:Addr) (ns:List Int):Prop:=∃ o es ep t ms,h.get? a=some o /\ cY prog w b o ns es ep t ms
theorem oK:∀ {vs:List Value}{ms:List Int},IntsAre vs ms->∀ k:Int,k∈ms ↔ ∃ v∈vs,(intKind prog w).is k v=true
 |_,_,.nil,k=>by simp
 | _,_,.cons n t h,k=>by
   have ih:=oK h k;have e:(intKind prog w).is k (.int n t)=true ↔ k=n:=by
    constructor
    ·intro z;exact(intKind prog w).inj _ k n z (tV prog w n t)
    ·rintro rfl;exact tV prog w k t
   rw[aP,ih];constructor
   ·rintro(z|⟨v,mv,ev⟩)
    ·exact⟨_,bQ ..,e.mpr z⟩
    ·exact⟨v,bF _ mv,ev⟩
   ·rintro⟨v,mv,ev⟩;rcases aP.mp mv with rfl|mv
    ·exact .inl (e.mp ev)
    ·exact .inr ⟨v,mv,ev⟩
theorem cY.mem {b:Bool}{ms:List Int}(S:cY prog w b o ns es ep t ms) (k:Int):k∈ns ↔ ∃ e∈es.toList,(intKind prog w).is k e.2=true:=by
 rw[<-S.pm.mem_iff,oK (prog:=prog) (w:=w) S.vs k];constructor
 ·rintro⟨v,mv,ev⟩;obtain⟨e,me,rfl⟩:=aT.mp mv;exact⟨e,me,ev⟩
 ·rintro⟨e,me,ev⟩;exact⟨e.2,aT.mpr ⟨e,me,rfl⟩,ev⟩
theorem cY.len {b:Bool}{ms:List Int}(S:cY prog w b o ns es ep t ms):es.size=ns.length:=by
 rw[<-S.pm.length_eq,<-S.vs.length,aF,km]
theorem jN:∀ {vs us:List Value},us.Perm vs->∀ {ms:List Int},IntsAre vs ms->∃ ks,IntsAre us ks /\ ks.Perm ms:=by
 intro vs us p;induction p with
 |nil=>intro ms h;exact⟨ms,h,.refl _⟩
 | cons x p ih =>
   intro ms h;cases h with
   | cons n t h =>
     obtain⟨ks,a,c⟩:=ih h;exact⟨n::ks,.cons n t a,c.cons n⟩
 | swap x y l =>
   intro ms h;cases h with
   | cons n t h =>
     cases h with
     |cons m u h=>exact⟨_,.cons m u (.cons n t h),.swap ..⟩
 | trans p q K3 K4 =>
   intro ms h;obtain⟨ks,a,c⟩:=K4 h;obtain⟨js,a',c'⟩:=K3 a;exact⟨js,a',c'.trans c⟩
theorem mM:∀ {vs:List Value}{ms:List Int},IntsAre vs ms->∀ (i:Int) (t:Tok),IntsAre (vs++[.int i t]) (ms++[i])
 |_,_,.nil,i,t=>.cons i t .nil
 |_,_,.cons n u h,i,t=>.cons n u (mM h i t)
theorem cY.anew {b:Bool}{ms:List Int}(S:cY prog w b o ns es ep t ms) {es':Array (Int×Value)}{t':SetTable}(qW:Nat) (p:es'.toList.Perm es.toList) (f:t'.fits es'.size=true) (k:dH b t') :
 ∃ nu,cY prog w b { o with data:=.set es' qW t' } ns es' qW t' nu:=by
 obtain⟨ks,a,c⟩:=jN (p.map (·.2)) S.vs;have z:es'.size=es.size:=by rw[<-km,p.length_eq,km]
 exact⟨ks,S.x,rfl,S.el.perm p,by rw[z];exact S.bd,f,k,a,c.trans S.pm⟩
theorem cY.more {b:Bool}{ms:List Int}(S:cY prog w b o ns es ep t ms) (i:Int) (u:Tok) {es':Array (Int×Value)}{t':SetTable}(qW:Nat) (hb:es.size+1<scanBound)
 (p:es'.toList.Perm (es.toList++[((intKind prog w).hash i,.int i u)])) (f:t'.fits es'.size=true) (k:dH b t'):∃ nu,cY prog w b { o with data:=.set es' qW t' } (ns++[i]) es' qW t' nu:=by
 have q:(es.toList++[((intKind prog w).hash i,Value.int i u)]).map (·.2)=es.toList.map (·.2)++[Value.int i u]:=by simp
 obtain⟨ks,a,c⟩:=jN (us:=es'.toList.map (·.2)) (vs:=es.toList.map (·.2)++[Value.int i u]) (q▸p.map (·.2)) (mM S.vs i u);have z:es'.size=es.size+1:=by rw[<-km,p.length_eq,cb,km,We]
 exact⟨ks,S.x,rfl,(S.el.push (tV prog w i u) rfl).perm p,by rw[z];exact hb,f,k,a,c.trans (S.pm.append_right _)⟩
theorem stored {es':Array (Int×Value)}{t':SetTable}(ho:s.heap.get? a=some o) (hd:o.data=.set es ep t):(s.heap.update a (Obj.putSet es' t')).get? a=some { o with data:=.set es' (ep+1) t' }:=by
 have z:=pw (Obj.putSet es' t') ho (by rw[putSet_of es' t' hd];rfl)
 rwa [putSet_of es' t' hd]at z
theorem Bn {b:Bool}{ms:List Int}{bX:Array (Int×Value)}{t1:SetTable}{wd:Bool}{R:Option Bool->Shared->Prop}{g:Bool->Sem Unit}(hg:∀ (z:Bool) (s1:Shared) (Q:Unit->Shared->Prop),Q () s1->wpAny (model prog w) A (g z) Q E s1)
 (ho:s.heap.get? a=some o) (hd:o.data=.set es ep t) (S:cY prog w b { o with data:=.set bX (ep+1) t1 } ns bX (ep+1) t1 ms)
 (h:∀ h',Heap.SameBut a s.heap h'->hZ prog w b h' a ns->R (some true) { s with heap:=h' }) :
 wpAny (model prog w) A (do
  storeSet a bX t1
  if (!wd&&t1.tooFull)=true then do
   g (relayAll t1 bX (SetTable.grown bX.size)).2.2
   storeSet a (relayAll t1 bX (SetTable.grown bX.size)).1 (relayAll t1 bX (SetTable.grown bX.size)).2.1
   pure (some true)
  else pure (some true)) R E s:=by
 have g1:=stored (s:=s) (es':=bX) (t':=t1) ho hd;have sb:=Heap.SameBut.update s.heap a (Obj.putSet bX t1);refine ae (VN ho hd ?_ (Hv S.bd));by_cases c:(!wd&&t1.tooFull)=true
 ·rw[if_pos c];have kp:=relayAll_perm t1 bX (SetTable.grown bX.size);have kf:=relayAll_fits t1 bX (SetTable.grown bX.size);have kt:=S.ok.acF bX (SetTable.grown bX.size);obtain⟨acG,S2⟩:=S.anew (ep+1+1) kp kf kt;have z2:(relayAll t1 bX (SetTable.grown bX.size)).1.size=bX.size:=by rw[<-km,kp.length_eq,km]
  have g2:=stored (s:={ s with heap:=s.heap.update a (Obj.putSet bX t1) }) (es':=(relayAll t1 bX (SetTable.grown bX.size)).1) (t':=(relayAll t1 bX (SetTable.grown bX.size)).2.1) g1 rfl;exact ae (hg _ _ _ (ae (VN g1 rfl (ag (h _ (sb.trans (Heap.SameBut.update _ a _)) ⟨_,_,_,_,acG,g2,S2⟩)) (Hv (by rw[z2];exact S.bd)))))
 ·rw[if_neg c];exact ag (h _ sb ⟨_,_,_,_,ms,g1,S⟩)
theorem add_int {b:Bool}{i:Int}{u:Tok}{Q:Bool->Shared->Prop}(S:hZ prog w b s.heap a ns) (hb:ns.length+1<scanBound)
 (h:∀ z h',Heap.SameBut a s.heap h'->hZ prog w b h' a (cq ns i)->Q z { s with heap:=h' }):wpAny (model prog w) A (setAddHashed a (.int i u) ((intKind prog w).hash i)) Q E s:=by
 have ik:(intKind prog w).is i (.int i u)=true:=tV prog w i u;have sc:(Value.int i u).scannable=true:=rfl;obtain⟨o,es,ep,t,ms,ho,S⟩:=S;have hl:=S.len;unfold setAddHashed;refine cn ?_;unfold setAddHashedIn;refine ae (tW ho S.d S.ft ?_);show wpAny _ _ (if byScan (.int i u) es=true then _ else _) _ _ _;rw[if_pos (byScan_of sc S.bd S.el)];unfold setAddByScan;refine ae (ae (h9 (ae (wpAny_setScan_of ik ho S.d S.ft S.el ?_))));have gw:∀ (z:Bool) (s1:Shared) (Q1:Unit->Shared->Prop),Q1 () s1->wpAny (model prog w) A (match z with|true=>rule "set.scan.the-table-gave-way"|false=>pure ()) Q1 E s1:=by
  intro z s1 Q1 q;cases z
  ·exact ag q
  ·exact h9 q
 cases fd:List.findIdx? (λe=>(intKind prog w).is i e.2) es.toList with
 | some j =>
   obtain⟨hj,pj,_⟩:=List.findIdx?_eq_some_iff_getElem.mp fd;have mi:i∈ns:=(S.mem i).mpr ⟨_,vj hj,pj⟩;have e1:cq ns i=ns:=by
    unfold cq;rw[if_pos (kh.mpr ⟨i,mi,by simp⟩)]
   refine ag (ag ?_);have:=h false s.heap (Heap.SameBut.refl a s.heap) (by rw[e1];exact⟨o,es,ep,t,ms,ho,S⟩);exact this
 | none =>
   have ni:i∉ns:=λz=>by
    obtain⟨e,me,pe⟩:=(S.mem i).mp z;have:=List.findIdx?_eq_none_iff.mp fd e me;rw[pe]at this;cases this
   have e1:cq ns i=ns++[i]:=by
    unfold cq;rw[if_neg];intro z;obtain⟨k,mk,ek⟩:=kh.mp z;have:k=i:=by simpa using ek
    exact ni (this▸mk)
   have lp:=layNew_perm t es ((intKind prog w).hash i) (.int i u);have lf:=layNew_fits t es ((intKind prog w).hash i) (.int i u);have lk:=S.ok.lay es ((intKind prog w).hash i) (.int i u);rw[Iz]at lp;dsimp only;generalize layNew t es ((intKind prog w).hash i) (.int i u)=L at lp lf lk ⊢;obtain⟨bX,t1,wd,gv⟩:=L;dsimp only at lp lf lk ⊢;have fin:∀ h',Heap.SameBut a s.heap h'->hZ prog w b h' a (ns++[i])->wpAny (model prog w) A (match (some true:Option Bool) with|some added=>pure added|none=>setAddHashedIn a (.int i u) ((intKind prog w).hash i) 99999) Q E { s with heap:=h' }:=λh' sb si=>ag (h true h' sb (by rw[e1];exact si));refine ae (gw _ _ _ ?_);by_cases cp:t1.plain=true
   ·rw[if_pos cp,hashByValue_scannable 8 sc];refine ae (ag ?_);have tk:dH b (if plainKind (.int i u)=true then t1 else { t1 with plain:=false }):=by
     split
     ·exact lk
     ·exact lk.plain _
    have tf:(if plainKind (.int i u)=true then t1 else { t1 with plain:=false }:SetTable).fits bX.size=true:=by
     split
     ·exact lf
     ·exact Z6 lf
    obtain⟨acH,S1⟩:=S.more i u (ep+1) (by omega) lp tf tk;exact Bn gw ho S.d S1 λh' sb si=>fin h' sb si
   ·rw[if_neg cp];refine ae (ag ?_);obtain⟨acH,S1⟩:=S.more i u (ep+1) (by omega) lp lf lk;show wpAny _ _ (do
     storeSet a bX t1
     if (!wd&&t1.tooFull)=true then _ else _) _ _ _
    exact Bn gw ho S.d S1 λh' sb si=>fin h' sb si
section
noncomputable abbrev bE (w:World):Bool:=w.params.followText "set-order"
noncomputable abbrev bY (w:World):Obj:={ cls:=.type "set",dict:=none,data:=.set #[] 0 (.fresh 0 0 (!bE w)) }
theorem F7 (e:h.get? a=some (bY w)):hZ prog w (bE w) h a [] :=
 ⟨_,#[],0,_,[],e,⟨⟨rfl,rfl,rfl⟩,rfl,λe m=>by simp at m,by decide,rfl,⟨.nil,λz=>by rw[z];rfl⟩,.nil,.refl _⟩⟩
theorem hZ.at {b:Bool}(S:hZ prog w b h a ns) (k:∀ o,h.get? a=some o->h'.get? a=some o):hZ prog w b h' a ns:=by
 obtain⟨o,es,ep,t,ms,ho,S⟩:=S;exact⟨o,es,ep,t,ms,k o ho,S⟩
theorem Om (a:Value) (h:Q (.ref s.heap.objs.size) { s with heap:=s.heap.push (bY w) }):codeAny (model prog w) A (.call (.builtin "set.__new__") ⟨[.type "set",a],[]⟩) (wants Q E) s:=by
 refine Hw (show wpAny _ A.in1 (do checkBuiltinCall "set.__new__" ⟨[.type "set",a],[]⟩;again (.builtin "set.__new__" ⟨[.type "set",a],[]⟩)) _ _ s from ae (tR (F.newCall_set_1 a) (ag ⟨rY W6 _,p6 F.entry_set_new ?_⟩)));have ss:=VO;rw[t7 W6 _];unfold Builtin.«set.__new__» Builtin.Frozenset.newClass;obtain⟨hp,g,d,tk,os⟩:=s;dsimp only
 wp_walk
 refine p9 (ag (by dsimp only;simp only[newObj];exact ae (VE (ag (ag h)))))
variable {I : Addr} {wr : List Addr} {G : Array GenState -> Array GenState -> Prop} {P : Nat -> Value -> Prop} {St : Nat -> Shared -> Prop} {b : Bool}
theorem Jr (W:WalksS prog w A.in1 I fp wr G n P St) (ha:a∉fp) (val:Nat->Int) (hv:∀ i v,P i v->∃ t,v=.int (val i) t) (hb:n+1<scanBound) :
 ∀ (k i:Nat) (s:Shared),n=i+k->St i s->hZ prog w b s.heap a (firstMet val i)->(∀ s',Moved (a::wr) G s s'->hZ prog w b s'.heap a (firstMet val n)->R (.ok (.ret .none)) s') ->
  codeAny (model prog w) A (.builtin "set.update.loop" ⟨[.ref a,.ref I],[]⟩) R s:=by
 have aw:a∉wr:=λz=>ha (W.sub _ z);have su:∀ c∈wr,c∈a::wr:=λc z=>.tail _ z;intro k;induction k with
 | zero =>
   intro i s hk st S fin;obtain rfl:n=i:=hk;refine p6 Xe (by
    rw[t7 IL _];exact ae (W.done s _ _ st λs' mv=>ag (fin s' (mv.mono su) (S.at λo e=>mv.heap a o aw e))))
 | succ k ih =>
   intro i s hk st S fin;have il:i<n:=by omega
   have rm:(firstMet val i).length+1<scanBound:=by have:=Iu val i;omega
   refine p6 Xe ?_;rw[t7 IL _];refine ae (W.item i s _ _ il st λv s1 pv Qa mv=>?_);obtain⟨t,rfl⟩:=hv i v pv;have S1:=S.at (h':=s1.heap) λo e=>mv.heap a o aw e;show wpAny _ A.in1 (holding [Value.int (val i) t] (setAdd a (.int (val i) t)) >>= λ_=>_) _ _ s1;refine ae (cn ?_);unfold setAdd;refine cn (ae ((intKind prog w).pyHash (k:=val i) (tV _ _ _ _) (add_int (s:={ s1 with toks:=s1.toks+1 }) S1 rm λz h' sb S2=>?_)));have S3:hZ prog w b h' a (firstMet val (i+1)):=by rw[firstMet_succ];exact S2
   have ne:∀ c,c∈fp->c≠a:=λc m z=>ha (z▸m);refine ag ⟨rY IL _,ih (i+1) _ (by omega) (W.frame _ s1 _ _ Qa (nI _) λc hc o e=>(sb.2 c (ne c hc)).trans e) S3 λs2 m2 S4=>fin s2 ?_ S4⟩;refine Moved.trans W.gtrans ((mv.mono su).then_heap (nI _) λc o hc e=>?_) m2;exact(sb.2 c λz=>hc (z▸.head _)).trans e
end
section
variable {t : Addr} 
def wb (prog:Program) (w:World) (s:Shared) (ns:List Int) (s':Shared):Prop:=∃ h' tk,s'={ s with heap:=h',toks:=tk } /\ hZ prog w (bE w) h' s.heap.objs.size (dist ns) /\ Kp s.heap h'
theorem F8 {I:Addr}{St:Nat->Shared->Prop}{P:Nat->Value->Prop}{it:Obj}(W:WalksS prog w A.in1 (s.heap.objs.size+1) [s.heap.objs.size+1,t] [s.heap.objs.size+1] (λa b=>b=a) ns.length P St) (lt:t<s.heap.objs.size)
 (hv:∀ i v,P i v->∃ u,v=.int (ns.getD i 0) u) (hb:ns.length+1<scanBound) (st:St 0 { s with heap:=(s.heap.push (bY w)).push it }) (hf:it.isFreed=false)
 {F:Result->Shared->Prop}(h:∀ s',wb prog w s ns s'->F (.ok (.ret .none)) s') :
 codeAny (model prog w) A (.builtin "set.update.loop" ⟨[.ref s.heap.objs.size,.ref (s.heap.objs.size+1)],[]⟩) F { s with heap:=(s.heap.push (bY w)).push it }:=by
 refine Jr (b:=bE w) W (a:=s.heap.objs.size) ?_ (λi=>ns.getD i 0) hv hb ns.length 0 _ (by omega) st (F7 (aC _ (aR _ rfl))) λs' mv S=>?_
 ·simp only[aP,nL,or_false,not_or];exact⟨bL (eJ _),vc lt⟩
 ·obtain⟨h',g',d',hV,Kj⟩:=s';have e1:g'=s.gens:=mv.gens;have e2:d'=s.drawn:=mv.drawn;have e3:Kj=s.os:=mv.os;subst e1 e2 e3;refine h _ ⟨h',hV,rfl,S,λc o e=>mv.heap c o ?_ (aC _ (aC _ e))⟩;have cl:=aK e;simp only[aP,nL,or_false,not_or];exact⟨bL cl,bL (ng cl)⟩
theorem L3 (hh:A.handled=none) (ht:s.heap.IsTuple t vs.toArray) (hi:IntsAre vs ns) (hb:ns.length+1<scanBound) {F:Fin->Shared->Prop}(h:∀ s',wb prog w s ns s'->F (.done (.ret .none)) s') :
 wpAny (model prog w) A (Builtin.«set.__init__» ⟨[.ref s.heap.objs.size,.ref t],[]⟩) F E { s with heap:=s.heap.push (bY w) }:=by
 have gS:(s.heap.push (bY w)).get? s.heap.objs.size=some (bY w):=aR _ rfl;have uM:(s.heap.push (bY w)).IsTuple t vs.toArray:=ht.at λo e=>aC _ e;have hn:vs.length=ns.length:=hi.length;obtain⟨ot,uD,_⟩:=id ht;have lt:=aK uD;obtain⟨⟨oc,od,acI,nG⟩,g1,g2,n,g3⟩:=id uM;simp only at g2 g3;subst g2;subst g3;have y1:=PySem.F.sub_tuple_set;have y2:=PySem.F.sub_tuple_frozenset;have y3:(Value.type "tuple"==Value.type "dict")=false:=by decide
 have sz:(s.heap.push (bY w)).objs.size=s.heap.objs.size+1:=qg ..;unfold Builtin.«set.__init__» noKeywords Builtin.Frozenset.updateFrom;generalize hP:pyIter=P
 wp_walk
 subst hP;refine yK uM (ae (yF ?_));rw[sz];have gI:((s.heap.push (bY w)).push { cls:=.type "tuple_iterator",data:=.fields #[.ref t,.int 0 0] }).get? (s.heap.objs.size+1)=some { cls:=.type "tuple_iterator",data:=.fields #[.ref t,.int 0 0] }:=by
  rw[<-sz];exact aR _ rfl
 have W:=(Walks.tuple (prog:=prog) (w:=w) (A:=A.in1) hh (s.heap.objs.size+1) t (bL (ng lt)) vs.toArray).toS;rw[show vs.toArray.size=ns.length by simpa using hn]at W;exact F8 (I:=0) W lt (λi v e=>Xm hi i v (by simpa using e)) hb ⟨⟨_,gI,rfl,rfl⟩,ht.at λo e=>aC _ (aC _ e)⟩ rfl λs' e=>ag (ag (h s' e))
theorem L4 (hh:A.handled=none) (ht:s.heap.IsList t vs.toArray) (hi:IntsAre vs ns) (hb:ns.length+1<scanBound) {F:Fin->Shared->Prop}(h:∀ s',wb prog w s ns s'->F (.done (.ret .none)) s') :
 wpAny (model prog w) A (Builtin.«set.__init__» ⟨[.ref s.heap.objs.size,.ref t],[]⟩) F E { s with heap:=s.heap.push (bY w) }:=by
 have gS:(s.heap.push (bY w)).get? s.heap.objs.size=some (bY w):=aR _ rfl;have uM:(s.heap.push (bY w)).IsList t vs.toArray:=ht.at λo e=>aC _ e;have hn:vs.length=ns.length:=hi.length;obtain⟨ot,uD,_⟩:=id ht;have lt:=aK uD;obtain⟨⟨oc,od,acI,nG⟩,g1,g2,n,g3⟩:=id uM;simp only at g2 g3;subst g2;subst g3;have y1:=PySem.F.sub_list_set;have y2:=PySem.F.sub_list_frozenset;have y3:(Value.type "list"==Value.type "dict")=false:=by decide
 have sz:(s.heap.push (bY w)).objs.size=s.heap.objs.size+1:=qg ..;unfold Builtin.«set.__init__» noKeywords Builtin.Frozenset.updateFrom;generalize hP:pyIter=P
 wp_walk
 subst hP;refine u5 uM (ae (yF ?_));rw[sz];have gI:((s.heap.push (bY w)).push { cls:=.type "list_iterator",data:=.fields #[.ref t,.int 0 0] }).get? (s.heap.objs.size+1)=some { cls:=.type "list_iterator",data:=.fields #[.ref t,.int 0 0] }:=by
  rw[<-sz];exact aR _ rfl
 have W:=(Walks.list (prog:=prog) (w:=w) (A:=A.in1) hh (s.heap.objs.size+1) t (bL (ng lt)) vs.toArray).toS;rw[show vs.toArray.size=ns.length by simpa using hn]at W;exact F8 (I:=0) W lt (λi v e=>Xm hi i v (by simpa using e)) hb ⟨⟨_,gI,rfl,rfl⟩,ht.at λo e=>aC _ (aC _ e)⟩ rfl λs' e=>ag (ag (h s' e))
theorem Ay (hh:A.handled=none) (ht:s.heap.IsTuple t vs.toArray \/ s.heap.IsList t vs.toArray) (hi:IntsAre vs ns) (hb:ns.length+1<scanBound) (h:∀ s',wb prog w s ns s'->Q (.ref s.heap.objs.size) s') :
 wpAny (model prog w) A (call (.type "set") [.ref t]) Q E s:=by
 obtain⟨c,tl,f1⟩:=PySem.F.called_set.mro;have f2:=PySem.F.called_set.made;have f3:=PySem.F.called_set.sub;have f4:=PySem.F.called_set.notType;have f5:=PySem.F.called_set.canCreate;have f6:=PySem.F.typeCall_set_1 (.ref t);refine wpAny_call (Hw (ag ⟨Xk _ (by decide +kernel),p6 PySem.F.entry_type_call ?_⟩));rw[Around.under_plain (weight_type_call_type "set" [.ref t] []) rfl]
 repeat (any_goals (first|assumption|wp_step))
 refine u6 (Om (.ref t) (E:=E) (Q:=λo s1=>o=.ref s.heap.objs.size /\ s1={ s with heap:=s.heap.push (bY w) }) ⟨rfl,rfl⟩) λr s1 hr=>?_;match r,hr with
 |.error e,hr=>exact hr
 | .ok (.ret o),⟨e1,e2⟩ =>
   subst e1;subst e2;have gS:(s.heap.push (bY w)).get? s.heap.objs.size=some (bY w):=aR _ rfl;have ty:Shared.TypeIs { s with heap:=s.heap.push (bY w) } (.ref s.heap.objs.size) "set":=⟨_,gS,rfl⟩;have k1:=PySem.F.called_set.init.lookup;have k2:=PySem.F.called_set.init.bind (.ref s.heap.objs.size)
   repeat (any_goals (first|assumption|wp_step))
   refine u6 (codeAny_call_builtin (R:=wants (λr s2=>r=.none /\ wb prog w s ns s2) E) PySem.F.called_set.init.plain PySem.F.entry_set_init (check_set_init_1 ty ?_)) λr2 s2 xY=>?_
   ·rcases ht with ht|ht
    ·exact L3 (by simp[hh]) ht hi hb λs' e=>⟨rfl,e⟩
    ·exact L4 (by simp[hh]) ht hi hb λs' e=>⟨rfl,e⟩
   ·match r2,xY with
    |.error e,xY=>exact xY
    | .ok (.ret r),⟨e3,e4⟩ =>
      subst e3
      repeat (any_goals (first|assumption|wp_step))
      exact h _ e4
end
theorem gW:Slot "set_iterator" "__next__" "set_iterator.__next__":=.of (owner:="set_iterator") (n:="__next__") (by rw[VP,VQ];kernel_rfl) (by decide +kernel) (by decide +kernel) (by decide +kernel) (.inl (by decide +kernel)) (by rw[VR];kernel_rfl)
theorem oW:Slot "set_iterator" "__iter__" "set_iterator.__iter__":=.of (owner:="set_iterator") (n:="__iter__") (by rw[VP,VQ];kernel_rfl) (by decide +kernel) (by decide +kernel) (by decide +kernel) (.inl (by decide +kernel)) (by rw[VR];kernel_rfl)
theorem lL:entryFor table "set_iterator.__next__"=some Builtin.«set_iterator.__next__»:=entryFor_of_tree (by kernel_rfl)
theorem Bo:entryFor table "set_iterator.__iter__"=some Builtin.«dict_keyiterator.__iter__»:=VS (id':="dict_keyiterator.__iter__") (by kernel_rfl) rfl (by decide +kernel) (by kernel_rfl)
theorem DR:entryFor table "set.__iter__"=some Builtin.«frozenset.__iter__»:=VS (id':="frozenset.__iter__") (by kernel_rfl) rfl (by decide +kernel) (by kernel_rfl)
theorem lM (a:Value):argsOk "set_iterator.__next__" ⟨[a],[]⟩:=by
 unfold argsOk;kernel_rfl
theorem Bp (a:Value):argsOk "set_iterator.__iter__" ⟨[a],[]⟩:=by
 unfold argsOk;kernel_rfl
theorem md {α:Type}:∀ (l:List α) {i:Nat}(h:i<l.length),(l[i]::l.eraseIdx i).Perm l
 |[],i,h=>absurd h (ve _)
 |x::l,0,h=>.refl _
 | x::l,i+1,h=>by
   rw[List.getElem_cons_succ,List.eraseIdx_cons_succ];exact(List.Perm.swap ..).trans ((md l (Nat.lt_of_succ_lt_succ h)).cons x)
theorem F9 {α:Type}(nx:Nat->Nat):∀ (f k:Nat) (l:List α) (out:Array α),l.length=f->(pickOrder.go nx f k l out).toList.Perm (out.toList++l)
 | 0,k,l,out,h=>by
   have:l=[]:=wO h;subst this;simp[pickOrder.go]
 | f+1,k,l,out,h=>by
   have lt:nx k % l.length<l.length:=VZ _ (by omega);rw[pickOrder.go,cJ lt];refine(F9 nx f (k+1) _ _ (by rw[Wq lt];omega)).trans ?_;rw[Iz,eK];refine Z7 _ ?_;exact md l lt
theorem Bq (nx:Nat->Nat) (xs:Array α):(pickOrder nx xs).toList.Perm xs.toList:=by
 have:=F9 nx xs.size 0 xs.toList #[] (by simp);simpa[pickOrder] using this
noncomputable def dk (w:World) (t:SetTable):Nat->Nat
 |0=>0
 |i+1=>if bE w then 0 else t.place.getD i 0+1
noncomputable def given (w:World) (a:Addr) (ep:Nat) (es:Array (Int×Value)):List Value:=(if bE w then (pickOrder (w.params.setOrder a ep) es).toList else es.toList).map (·.2)
theorem mh (a:Addr) (ep:Nat) (es:Array (Int×Value)):(given w a ep es).Perm (es.toList.map (·.2)):=by
 unfold given;split
 ·exact(Bq _ es).map _
 ·exact .refl _
theorem DS (h:bE w=true) (t:SetTable) (i:Nat):dk w t i=0:=by
 cases i with
 |zero=>rfl
 |succ i=>exact if_pos h
theorem Sl {ms:List Int}(ho:s.heap.get? a=some o) (S:cY prog w (bE w) o ns es ep t ms) (hp:bE w=false->(!t.plain&&decide (es.size>1))=false) {x:Value}(hx:(given w a ep es)[i]?=some x)
 {Q:Option (Value×Nat)->Shared->Prop}(h:Q (some (x,dk w t (i+1))) s):wpAny (model prog w) A (setNext a (dk w t i) i ep) Q E s:=by
 have il:i<es.size:=by
  have:=(List.getElem?_eq_some_iff.mp hx).1;rw[(mh a ep es).length_eq,aF,km]at this;exact this
 unfold setNext;refine ae (tW ho S.d S.ft ?_);unfold setsByText;refine ae (ae (p9 (ag ?_)));cases bt:bE w with
 | true =>
   show wpAny _ _ (if bE w=true then _ else _) _ _ _;rw[if_pos bt];rw[if_neg (by simp)];unfold setWalk setsByText;refine ae (ae (tW ho S.d S.ft (ae (ae (p9 (ag ?_))))));show wpAny _ _ (if bE w=true then _ else _) _ _ _;rw[if_pos bt];refine ae (p9 (ag (ag ?_)));unfold given at hx;rw[if_pos bt,kg,pC]at hx;rw[DS bt]at h ⊢;show Q (((pickOrder (w.params.setOrder a ep) es)[i]?).map λe=>(e.2,0)) s;cases q:(pickOrder (w.params.setOrder a ep) es)[i]? with
   |none=>rw[q]at hx;cases hx
   | some e =>
     rw[q]at hx;cases hx;exact h
 | false =>
   show wpAny _ _ (if bE w=true then _ else _) _ _ _;rw[if_neg (by rw[bt];decide)];have led:=S.ok.l bt;unfold given at hx;rw[if_neg (by rw[bt];decide),kg,pC]at hx;have pl:t.place.size=es.size:=by
    have:=S.ft;simp only[SetTable.fits,aA,beq_iff_eq]at this;exact this.1
   have pi:t.place[i]?=some (t.place.getD i 0):=by
    have:i<t.place.size:=by omega
    simp[Array.getD,this]
   have sl:SetTable.below t.place (dk w t i)=i:=by
    cases i with
    |zero=>exact Aw S.ok.r
    | succ i =>
      have e1:dk w t (i+1)=t.place.getD i 0+1:=if_neg (by rw[bt];decide);rw[e1];refine Av S.ok.r ?_;have:i<t.place.size:=by omega
      simp[Array.getD,this]
   split
   ·rename_i c;exact absurd ((show (!t.plain&&decide (es.size>1))=true from c).symm.trans (hp bt)) (by decide)
   ·refine ae ?_;show wpAny _ _ (if (!t.led&&!es.isEmpty)=true then _ else _) _ _ _;rw[if_neg (by rw[led];simp)];refine ag (ag ?_);rw[sl];cases q:es[i]? with
    |none=>rw[q]at hx;cases hx
    | some e =>
      rw[q]at hx;cases hx;rw[pi];have e1:dk w t (i+1)=t.place.getD i 0+1:=if_neg (by rw[bt];decide);rw[e1]at h;exact h
def rQ (h:Heap) (it a:Addr) (k i n ep:Nat):Prop:=∃ o u0 u1 u2 u3,h.get? it=some o /\ o.cls=.type "set_iterator" /\ o.data=.fields #[.int (k:Nat) u0,.int (i:Nat) u1,.ref a,.int (n:Nat) u2,.int (ep:Nat) u3]
theorem rQ.typeIs (h:rQ s.heap it a k i n ep):s.TypeIs (.ref it) "set_iterator":=by
 obtain⟨o,_,_,_,_,e,c,_⟩:=h;exact⟨o,e,c⟩
theorem rQ.at (x:rQ h it a k i n ep) (e:∀ o,h.get? it=some o->h'.get? it=some o):rQ h' it a k i n ep:=by
 obtain⟨o,u0,u1,u2,u3,ho,r⟩:=x;exact⟨o,u0,u1,u2,u3,e o ho,r⟩
theorem On {ms:List Int}{x:Value}{Q:Option Value->Shared->Prop}(kS:a≠it) (hi:rQ s.heap it a (dk w t i) i es.size ep) (ho:s.heap.get? a=some o) (S:cY prog w (bE w) o ns es ep t ms)
 (hp:bE w=false->(!t.plain&&decide (es.size>1))=false) (hx:(given w a ep es)[i]?=some x)
 (hQ:∀ h',rQ h' it a (dk w t (i+1)) (i+1) es.size ep->Heap.SameBut it s.heap h'->Q (some x) { s with heap:=h' }):wpAny (model prog w) A (pyNext (.ref it)) Q E s:=by
 have ty:=hi.typeIs;obtain⟨oi,u0,u1,u2,u3,kW,hc,hd⟩:=hi;unfold pyNext;refine ae (rX (pq (name:=Str.ofString "__next__") ty gW (dr gW ty lL ?_ (lM _))));unfold Builtin.«set_iterator.__next__»;refine ae (ag ?_);refine ae (va kW hd ?_);show wpAny _ _ (setEntries a >>= λes'=>_) _ _ s;refine ae (wI ho S.d S.ft ?_);rw[if_neg (by simp)];show wpAny _ _ (setNext a ((dk w t i:Nat):Int).toNat ((i:Nat):Int).toNat ((ep:Nat):Int).toNat >>= λr=>_) _ _ s;rw[dQ,dQ,dQ];refine ae (Sl ho S hp hx ?_);show wpAny _ _ (setField (.ref it) 0 (rawInt ((dk w t (i+1):Nat):Int)) >>= λ_=>_) _ _ s;have h1:(s.heap.update it (Obj.mapFields (·.setIfInBounds 0 (rawInt ((dk w t (i+1):Nat):Int))))).get? it=some (Obj.mapFields (·.setIfInBounds 0 (rawInt ((dk w t (i+1):Nat):Int))) oi):=pw _ kW (vA (nN hd _));have d1:(Obj.mapFields (·.setIfInBounds 0 (rawInt ((dk w t (i+1):Nat):Int))) oi).data=.fields #[rawInt ((dk w t (i+1):Nat):Int),.int (i:Nat) u1,.ref a,.int (es.size:Nat) u2,.int (ep:Nat) u3]:=by rw[nN hd];simp
 refine ae (p8 kW hd (by simp) ?_);show wpAny _ _ (setField (.ref it) 1 (rawInt (((i:Nat):Int)+1)) >>= λ_=>_) _ _ _;refine ae (p8 h1 d1 (by simp) ?_);refine ag ⟨_,rfl,ag (hQ _ ⟨_,0,0,u2,u3,pw _ h1 (vA (nN d1 _)),?_,?_⟩ ((Heap.SameBut.update ..).trans (Heap.SameBut.update ..)))⟩
 ·exact(wV ..).trans ((wV ..).trans hc)
 ·rw[nN d1];simp[rawInt]
theorem Sn {ms:List Int}(ho:s.heap.get? a=some o) (S:cY prog w (bE w) o ns es ep t ms) (hp:bE w=false->(!t.plain&&decide (es.size>1))=false)
 {Q:Option (Value×Nat)->Shared->Prop}(h:Q none s):wpAny (model prog w) A (setNext a (dk w t es.size) es.size ep) Q E s:=by
 unfold setNext;refine ae (tW ho S.d S.ft ?_);unfold setsByText;refine ae (ae (p9 (ag ?_)));cases bt:bE w with
 | true =>
   show wpAny _ _ (if bE w=true then _ else _) _ _ _;rw[if_pos bt,if_neg (by simp)];unfold setWalk setsByText;refine ae (ae (tW ho S.d S.ft (ae (ae (p9 (ag ?_))))));show wpAny _ _ (if bE w=true then _ else _) _ _ _;rw[if_pos bt];refine ae (p9 (ag (ag ?_)));have e1:(pickOrder (w.params.setOrder a ep) es)[es.size]?=none:=by
    have:=(Bq (w.params.setOrder a ep) es).length_eq;rw[km,km]at this;rw[<-this];simp
   show Q (((pickOrder (w.params.setOrder a ep) es)[es.size]?).map λe=>(e.2,dk w t es.size)) s;rw[e1];exact h
 | false =>
   show wpAny _ _ (if bE w=true then _ else _) _ _ _;rw[if_neg (by rw[bt];decide)];have led:=S.ok.l bt;have pl:t.place.size=es.size:=by
    have:=S.ft;simp only[SetTable.fits,aA,beq_iff_eq]at this;exact this.1
   have sl:SetTable.below t.place (dk w t es.size)=es.size:=by
    cases q:es.size with
    |zero=>exact Aw S.ok.r
    | succ i =>
      have e1:dk w t (i+1)=t.place.getD i 0+1:=if_neg (by rw[bt];decide);rw[e1];refine Av S.ok.r ?_;have:i<t.place.size:=by omega
      simp[Array.getD,this]
   split
   ·rename_i c;exact absurd ((show (!t.plain&&decide (es.size>1))=true from c).symm.trans (hp bt)) (by decide)
   ·refine ae ?_;show wpAny _ _ (if (!t.led&&!es.isEmpty)=true then _ else _) _ _ _;rw[if_neg (by rw[led];simp)];refine ag (ag ?_);rw[sl];have e2:es[es.size]?=none:=by simp
    rw[e2];exact h
theorem So {ms:List Int}{Q:Option Value->Shared->Prop}(hh:A.handled=none) (hi:rQ s.heap it a (dk w t es.size) es.size es.size ep) (ho:s.heap.get? a=some o) (S:cY prog w (bE w) o ns es ep t ms)
 (hp:bE w=false->(!t.plain&&decide (es.size>1))=false) (hQ:∀ h',Heap.ExtBut it s.heap h'->Q none { s with heap:=h' }):wpAny (model prog w) A (pyNext (.ref it)) Q E s:=by
 have ty:=hi.typeIs;obtain⟨oi,u0,u1,u2,u3,kW,hc,hd⟩:=hi;unfold pyNext;refine ae (rX (pq (name:=Str.ofString "__next__") ty gW (dr gW ty lL ?_ (lM _))));unfold Builtin.«set_iterator.__next__»;refine ae (ag ?_);refine ae (va kW hd ?_);show wpAny _ _ (setEntries a >>= λes'=>_) _ _ s;refine ae (wI ho S.d S.ft ?_);rw[if_neg (by simp)];show wpAny _ _ (setNext a ((dk w t es.size:Nat):Int).toNat ((es.size:Nat):Int).toNat ((ep:Nat):Int).toNat >>= λr=>_) _ _ s;rw[dQ,dQ,dQ];refine ae (Sn ho S hp ?_);show wpAny _ _ (setField (.ref it) 2 .none >>= λ_=>_) _ _ s;refine ae (p8 kW hd (by simp) ?_);show wpAny _ _ (newExc (.type "StopIteration") [] >>= λe=>raiseNew e) _ _ _;refine ae (by
  simp only[newExc,newTuple];refine ae (cS (ae (m:=firstArgMember _ _) (tR (a:=Value.none) (by first|rfl|(simp only[firstArgMember];rfl)) (cS ?_ (by size_fits)))) (by size_fits));simp only[raiseNew];refine ae (yH ?_);rw[show A.in1.handled=none from hh];refine ae (ag (yI ?_));refine ae (wG (T:="StopIteration") (b:=true) ⟨_,aR _ rfl,rfl⟩ yJ ?_);exact ag (hQ _ (((Heap.SameBut.update ..).extBut.push _).push _)))
theorem L5 (hh:A.handled=none) (kS:a≠it) {ms:List Int}(S:cY prog w (bE w) o ns es ep t ms) (hp:bE w=false->(!t.plain&&decide (es.size>1))=false) :
 Walks prog w A it [it,a] [it] es.size (λi v=>(given w a ep es)[i]?=some v) (λi h=>rQ h it a (dk w t i) i es.size ep /\ h.get? a=some o) where
 sub:=λb hb=>by simp at hb;simp[hb]
 frame:=λ_ _ _ st hk=>⟨st.1.at λo e=>hk it (by simp) o e,hk a (by simp) _ st.2⟩
 item:=λi s Q E hi st hQ=>by
  obtain⟨x,hx⟩:∃ x,(given w a ep es)[i]?=some x:=by
   have:i<(given w a ep es).length:=by rw[(mh a ep es).length_eq,aF,km];exact hi
   exact⟨_,cJ this⟩
  refine On kS st.1 st.2 S hp hx λh' i' sb=>?_;exact hQ x h' s.toks hx ⟨i',(sb.2 a kS).trans st.2⟩ λb o hb e=>(sb.2 b λz=>hb (by simp[z])).trans e
 done:=λs Q E st hQ=>So hh st.1 st.2 S hp λh' he=>hQ h' s.toks λb o hb e=>he b o (λz=>hb (by simp[z])) e
 self:=λi s Q E st hQ=>by
  have ty:=st.1.typeIs;refine wF ty oW (dr oW ty Bo ?_ (Bp _));show wpAny _ _ (ret (.ref it)) _ _ s;exact ag ⟨_,rfl, "set_iterator",_,ty,gW.lookup,hQ⟩
theorem L6 {src:Source}{Q:Nat->Shared->Prop}(hn:n≠0) (h:∀ i,i<n->Q i { s with drawn:=s.drawn.bump src }):wpAny (model prog w) A (choose src n) Q E s:=λ_ _ _=>⟨hn,h _ (VZ _ (Nat.pos_of_ne_zero hn))⟩
theorem CO {α:Type}:∀ (n:Nat) (l:List α) (s:Shared) {Q:List α->Shared->Prop},l.length=n->(∀ l' d,l'.Perm l->Q l' { s with drawn:=d })->wpAny (model prog w) A (drawOrder n l) Q E s
 | 0,l,s,Q,hl,h=>by
   have:l=[]:=wO hl;subst this;exact ag (h [] s.drawn (.refl _))
 |n+1,[],s,Q,hl,h=>by cases hl
 | n+1,x::l,s,Q,hl,h=>by
   unfold drawOrder;refine ae (L6 (by simp) λi hi=>?_);rw[cJ hi];refine ae (CO n ((x::l).eraseIdx i) _ (by rw[Wq hi];omega) λl' d p=>ag (h _ d ?_));exact(p.cons _).trans (md (x::l) hi)
def rR (h:Heap) (it a q:Addr) (i n ep:Nat):Prop:=∃ o u1 u2 u3,h.get? it=some o /\ o.cls=.type "set_iterator" /\ o.data=.fields #[.ref q,.int (i:Nat) u1,.ref a,.int (n:Nat) u2,.int (ep:Nat) u3]
theorem rR.typeIs {q:Addr}(h:rR s.heap it a q i n ep):s.TypeIs (.ref it) "set_iterator":=by
 obtain⟨o,_,_,_,e,c,_⟩:=h;exact⟨o,e,c⟩
theorem rR.at {q:Addr}(x:rR h it a q i n ep) (e:∀ o,h.get? it=some o->h'.get? it=some o):rR h' it a q i n ep:=by
 obtain⟨o,u1,u2,u3,ho,r⟩:=x;exact⟨o,u1,u2,u3,e o ho,r⟩
theorem Oo {q:Addr}{oq:Obj}{ms:List Int}{c:Nat}{ps:List Nat}{e:Int×Value}{Q:Option Value->Shared->Prop}(hi:rR s.heap it a q i es.size ep) (ho:s.heap.get? a=some o) (S:cY prog w (bE w) o ns es ep t ms)
 (hq:s.heap.get? q=some oq) (wc:oq.data=.seq (ps.map λ(k:Nat)=>rawInt (k:Int)).toArray c) (hj:ps[i]?=some j) (hx:es[j]?=some e)
 (hQ:∀ h',rR h' it a q (i+1) es.size ep->Heap.SameBut it s.heap h'->Q (some e.2) { s with heap:=h' }):wpAny (model prog w) A (pyNext (.ref it)) Q E s:=by
 have ty:=hi.typeIs;obtain⟨oi,u1,u2,u3,kW,hc,hd⟩:=hi;unfold pyNext;refine ae (rX (pq (name:=Str.ofString "__next__") ty gW (dr gW ty lL ?_ (lM _))));unfold Builtin.«set_iterator.__next__»;refine ae (ag ?_);refine ae (va kW hd ?_);show wpAny _ _ (setEntries a >>= λes'=>_) _ _ s;refine ae (wI ho S.d S.ft ?_);rw[if_neg (by simp)];show wpAny _ _ (seqItems? (.ref q) >>= λr=>_) _ _ s;unfold seqItems?;refine ae (ae (u4 hq ?_));rw[wc];refine ag ?_;dsimp only;rw[dQ,show (ps.map λ(k:Nat)=>rawInt (k:Int)).toArray[i]?=some (rawInt (j:Int)) by simp[hj]];show wpAny _ _ (setNextDrawn a ((j:Nat):Int).toNat ((ep:Nat):Int).toNat >>= λr=>_) _ _ s;rw[dQ,dQ];unfold setNextDrawn;refine ae (ae (tW ho S.d S.ft ?_));dsimp only;rw[if_neg (by simp),hx];refine ag ?_;show wpAny _ _ (setField (.ref it) 1 (rawInt (((i:Nat):Int)+1)) >>= λ_=>_) _ _ _;refine ae (p8 kW hd (by simp) ?_);refine ag ⟨_,rfl,ag (hQ _ ⟨_,0,u2,u3,pw _ kW (vA (nN hd _)),(wV ..).trans hc,?_⟩ (Heap.SameBut.update ..))⟩;rw[nN hd];simp[rawInt]
theorem Sq {q:Addr}{oq:Obj}{ms:List Int}{c:Nat}{ps:List Nat}{Q:Option Value->Shared->Prop}(hh:A.handled=none) (hi:rR s.heap it a q i es.size ep) (ho:s.heap.get? a=some o) (S:cY prog w (bE w) o ns es ep t ms)
 (hq:s.heap.get? q=some oq) (wc:oq.data=.seq (ps.map λ(k:Nat)=>rawInt (k:Int)).toArray c) (hj:ps[i]?=none)
 (hQ:∀ h',Heap.ExtBut it s.heap h'->Q none { s with heap:=h' }):wpAny (model prog w) A (pyNext (.ref it)) Q E s:=by
 have ty:=hi.typeIs;obtain⟨oi,u1,u2,u3,kW,hc,hd⟩:=hi;unfold pyNext;refine ae (rX (pq (name:=Str.ofString "__next__") ty gW (dr gW ty lL ?_ (lM _))));unfold Builtin.«set_iterator.__next__»;refine ae (ag ?_);refine ae (va kW hd ?_);show wpAny _ _ (setEntries a >>= λes'=>_) _ _ s;refine ae (wI ho S.d S.ft ?_);rw[if_neg (by simp)];show wpAny _ _ (seqItems? (.ref q) >>= λr=>_) _ _ s;unfold seqItems?;refine ae (ae (u4 hq ?_));rw[wc];refine ag ?_;dsimp only;rw[dQ,show (ps.map λ(k:Nat)=>rawInt (k:Int)).toArray[i]?=none by simpa using hj];show wpAny _ _ (setField (.ref it) 0 (rawInt 0) >>= λ_=>_) _ _ s;have h1:(s.heap.update it (Obj.mapFields (·.setIfInBounds 0 (rawInt 0)))).get? it=some (Obj.mapFields (·.setIfInBounds 0 (rawInt 0)) oi):=pw _ kW (vA (nN hd _));have d1:(Obj.mapFields (·.setIfInBounds 0 (rawInt 0)) oi).data=.fields #[rawInt 0,.int (i:Nat) u1,.ref a,.int (es.size:Nat) u2,.int (ep:Nat) u3]:=by rw[nN hd];simp
 refine ae (p8 kW hd (by simp) ?_);show wpAny _ _ (setField (.ref it) 2 .none >>= λ_=>_) _ _ _;refine ae (p8 h1 d1 (by simp) ?_);show wpAny _ _ (newExc (.type "StopIteration") [] >>= λe=>raiseNew e) _ _ _;refine ae (by
  simp only[newExc,newTuple];refine ae (cS (ae (m:=firstArgMember _ _) (tR (a:=Value.none) (by first|rfl|(simp only[firstArgMember];rfl)) (cS ?_ (by size_fits)))) (by size_fits));simp only[raiseNew];refine ae (yH ?_);rw[show A.in1.handled=none from hh];refine ae (ag (yI ?_));refine ae (wG (T:="StopIteration") (b:=true) ⟨_,aR _ rfl,rfl⟩ yJ ?_);exact ag (hQ _ ((((Heap.SameBut.update ..).trans (Heap.SameBut.update ..)).extBut.push _).push _)))
noncomputable def En (es:Array (Int×Value)) (ps:List Nat):List Value:=ps.map λk=>(es.getD k (0,.none)).2
theorem CP {ps:List Nat}(p:ps.Perm (List.range es.size)):(En es ps).Perm (es.toList.map (·.2)):=by
 refine(p.map _).trans (Z8 ?_);apply wM;intro i;by_cases h:i<es.size
 ·simp[Array.getD,h]
 ·simp[h]
theorem Oq (hh:A.handled=none) {q:Addr}(kS:a≠it) (acJ:q≠it) {oq:Obj}{ms:List Int}{c:Nat}{ps:List Nat}(S:cY prog w (bE w) o ns es ep t ms)
 (wc:oq.data=.seq (ps.map λ(k:Nat)=>rawInt (k:Int)).toArray c) (p:ps.Perm (List.range es.size)) :
 Walks prog w A it [it,a,q] [it] es.size (λi v=>(En es ps)[i]?=some v) (λi h=>rR h it a q i es.size ep /\ h.get? a=some o /\ h.get? q=some oq) where
 sub:=λb hb=>by simp at hb;simp[hb]
 frame:=λ_ _ _ st hk=>⟨st.1.at λo e=>hk it (by simp) o e,hk a (by simp) _ st.2.1,hk q (by simp) _ st.2.2⟩
 item:=λi s Q E hi st hQ=>by
  have il:i<ps.length:=by rw[p.length_eq,tY];exact hi
  have ej:ps[i]?=some ps[i]:=cJ il;have jl:ps[i]<es.size:=kl.mp (p.mem_iff.mp (vj il));have ex:es[ps[i]]?=some es[ps[i]]:=by simp[jl]
  refine Oo st.1 st.2.1 S st.2.2 wc ej ex λh' i' sb=>?_;refine hQ _ h' s.toks ?_ ⟨i',(sb.2 a kS).trans st.2.1,(sb.2 q acJ).trans st.2.2⟩ λb o hb e=>(sb.2 b λz=>hb (by simp[z])).trans e;unfold En;rw[kg,ej];simp[Array.getD,jl]
 done:=λs Q E st hQ=>Sq hh st.1 st.2.1 S st.2.2 wc (qR (by rw[p.length_eq,tY];exact ak _)) λh' he=>hQ h' s.toks λb o hb e=>he b o (λz=>hb (by simp[z])) e
 self:=λi s Q E st hQ=>by
  have ty:=st.1.typeIs;refine wF ty oW (dr oW ty Bo ?_ (Bp _));show wpAny _ _ (ret (.ref it)) _ _ s;exact ag ⟨_,rfl, "set_iterator",_,ty,gW.lookup,hQ⟩
def acK (prog:Program) (w:World) (A:Around) (s:Shared) (a:Addr) (es:Array (Int×Value)) (it:Addr) (s':Shared):Prop :=
 ∃ (h':Heap) (d:Drawn) (us:List Value) (fp:List Addr) (St:Nat->Heap->Prop),s'={ s with heap:=h',drawn:=d } /\ Kp s.heap h' /\ us.Perm (es.toList.map (·.2)) /\ it∈fp /\ (∀ b∈fp,b<h'.objs.size /\ (b=a \/ s.heap.objs.size<=b)) /\ s.heap.objs.size<=it /\
  Walks prog w A it fp [it] es.size (λi v=>us[i]?=some v) St /\ St 0 h' /\ ∀ i h,St i h->∃ o,h.get? it=some o /\ o.cls=.type "set_iterator"
theorem L7 (hh:A.handled=none) {ms:List Int}(ho:s.heap.get? a=some o) (S:cY prog w (bE w) o ns es ep t ms)
 (h:∀ it s',acK prog w A s a es it s'->Q (.ref it) s'):wpAny (model prog w) A (pyIter (.ref a)) Q E s:=by
 have ty:s.TypeIs (.ref a) "set":=⟨o,ho,S.x.1⟩;have al:=aK ho;refine wF ty W7 (dr W7 ty DR ?_ (F.args_set_iter_1 _));unfold Builtin.«frozenset.__iter__»;show wpAny _ _ (Builtin.Frozenset.sizeOf a >>= λn=>_) _ _ s;unfold Builtin.Frozenset.sizeOf;refine ae (ae (wI ho S.d S.ft (ag ?_)));unfold setDrawn setsByText;refine ae (ae (tW ho S.d S.ft (ae (ae (p9 (ag (ag ?_)))))));dsimp only;split
 ·rename_i c;have c':(!bE w&&(!t.plain&&decide (es.size>1)))=true:=c;refine ae (CO es.size (List.range es.size) s (by simp) λps d p=>?_);unfold newTuple;refine ae (cS ?_ ?_)
  ·have hq:(s.heap.push { cls:=.type "tuple",data:=.seq (ps.map λ(k:Nat)=>rawInt (k:Int)).toArray }).get? s.heap.objs.size=some { cls:=.type "tuple",data:=.seq (ps.map λ(k:Nat)=>rawInt (k:Int)).toArray }:=aR _ rfl;have xX:(s.heap.push { cls:=.type "tuple",data:=.seq (ps.map λ(k:Nat)=>rawInt (k:Int)).toArray }).get? a=some o:=aC _ ho;refine ae (VT xX S.d S.ft ?_);unfold newFields;refine ae (cS (ag ?_) (by size_fits));have sz:(s.heap.push { cls:=.type "tuple",data:=.seq (ps.map λ(k:Nat)=>rawInt (k:Int)).toArray }).objs.size=s.heap.objs.size+1:=qg ..;have gi:=aR (s.heap.push { cls:=.type "tuple",data:=.seq (ps.map λ(k:Nat)=>rawInt (k:Int)).toArray }) (o:={ cls:=.type "set_iterator",data:=.fields [.ref s.heap.objs.size,rawInt 0,.ref a,rawInt (es.size:Nat),rawInt (ep:Nat)].toArray }) rfl
   refine⟨_,rfl, "set_iterator",_,⟨_,gi,rfl⟩,gW.lookup,h _ _ ⟨_,d,En es ps,[_,a,s.heap.objs.size],_,rfl,λb o e=>aC _ (aC _ e),CP p,.head _,λb hb=>?_,by rw[sz];exact nI _,
    Oq hh (by rw[sz];exact bL (ng al)) (by rw[sz];exact bL (eJ _)) S rfl p,⟨⟨_,_,_,_,gi,rfl,rfl⟩,aC _ xX,aC _ hq⟩,λi h st=>?_⟩⟩
   ·rw[qg,sz];simp only[aP,nL,or_false]at hb;rcases hb with rfl|rfl|rfl
    ·rw[sz];exact⟨eJ _,.inr (nI _)⟩
    ·exact⟨ng (ng al),.inl rfl⟩
    ·exact⟨ng (eJ _),.inr (ak _)⟩
   ·obtain⟨⟨oi,_,_,_,e,cl,_⟩,_⟩:=st;exact⟨oi,e,cl⟩
  ·show (ps.map λ(k:Nat)=>rawInt (k:Int)).toArray.size<=sizeLine;have l1:=p.length_eq;have bd:=S.bd;have sb:scanBound=4096:=rfl;have sl:sizeLine=16777216:=ba;rw[tY]at l1;simp;omega
 ·rename_i c;have hp:bE w=false->(!t.plain&&decide (es.size>1))=false:=λz=>by
   have c':¬ ((!bE w&&(!t.plain&&decide (es.size>1)))=true):=c;rw[z]at c';simpa using c'
  refine ae (ag ?_);show wpAny _ _ (setEpoch a >>= λe=>_) _ _ s;refine ae (VT ho S.d S.ft ?_);show wpAny _ _ (newFields "set_iterator" [rawInt 0,rawInt 0,.ref a,rawInt (es.size:Nat),rawInt (ep:Nat)] >>= λv=>ret v) _ _ s;unfold newFields;refine ae (cS (ag ?_) (by size_fits));have gi:(s.heap.push { cls:=.type "set_iterator",data:=.fields [rawInt 0,rawInt 0,.ref a,rawInt (es.size:Nat),rawInt (ep:Nat)].toArray }).get? s.heap.objs.size=some { cls:=.type "set_iterator",data:=.fields [rawInt 0,rawInt 0,.ref a,rawInt (es.size:Nat),rawInt (ep:Nat)].toArray }:=aR _ rfl;refine⟨_,rfl, "set_iterator",_,⟨_,gi,rfl⟩,gW.lookup,h _ _ ⟨_,s.drawn,given w a ep es,[s.heap.objs.size,a],_,rfl,λb o e=>aC _ e,mh a ep es,.head _,λb hb=>?_,ak _,L5 hh (bL al) S hp,⟨⟨_,_,_,_,_,gi,rfl,rfl⟩,aC _ ho⟩,λi h st=>?_⟩⟩
  ·rw[qg];simp at hb;rcases hb with rfl|rfl
   ·exact⟨eJ _,.inr (ak _)⟩
   ·exact⟨ng al,.inl rfl⟩
  ·obtain⟨⟨oi,_,_,_,_,e,cl,_⟩,_⟩:=st;exact⟨oi,e,cl⟩
noncomputable abbrev Qb:Obj:={ cls:=.type "list",data:=.seq ([]:List Value).toArray }
def acL (s:Shared) (s':Shared):Prop:=∃ h' d tk,s'={ s with heap:=h',drawn:=d,toks:=tk } /\ Kp s.heap h' /\ s.heap.objs.size<=h'.objs.size
theorem CQ (hh:A.handled=none) {ms:List Int}{Q:List Value->Shared->Prop}(ho:s.heap.get? a=some o) (S:cY prog w (bE w) o ns es ep t ms)
 (h:∀ us s',us.Perm (es.toList.map (·.2))->acL s s'->Q us s'):wpAny (model prog w) A (collect (.ref a)) Q E s:=by
 have al:=aK ho;have nl:s.heap.objs.size≠a:=vc al;have ty:∀ h' d tk,Kp s.heap h'->Shared.TypeIs { s with heap:=h',drawn:=d,toks:=tk } (.ref a) "set":=λh' d tk k=>⟨o,k a o ho,S.x.1⟩;unfold collect;refine ae (yF (p6 F.entry_proto_collect (by
  rw[t7 F.plain_proto_collect _];refine ae (cS (ag ⟨rY W8 _,p6 F.entry_list_iadd ?_⟩) (by size_fits));rw[t7 W8 _];show wpAny _ A.in1 (Builtin.List.listExtendWith (.ref s.heap.objs.size) (.ref a) (.ref s.heap.objs.size)) _ _ _;unfold Builtin.List.listExtendWith;have k1:Kp s.heap (s.heap.push Qb):=λb ob e=>aC _ e;refine ae (tQ (ty _ s.drawn s.toks k1) ?_);rw[if_neg (by simp[Builtin.List.listSameRef,nl])];refine ae (L7 (A:=A.in1) (by simp[hh]) (k1 a o ho) S λit s1 bg=>?_);obtain⟨h1,d,us,fp,St,rfl,k2,pu,mi,fl,ge,W,acM,cl⟩:=bg;have k3:Kp s.heap h1:=λb ob e=>k2 b ob (k1 b ob e);have g0:h1.get? s.heap.objs.size=some Qb:=k2 _ _ (aR _ rfl);refine ae (cn ?_);unfold Builtin.List.listLengthHint;refine ae (wpAny_specialOf (ty h1 d s.toks k3) F.slot_set_len.lookup ?_);dsimp only;rw[show splitId "set.__len__"=some ("set", "__len__") by decide +kernel];dsimp only;refine ae (wG (b:=true) (ty h1 d s.toks k3) VO ?_);rw[if_neg (by decide)];rw[if_pos (by decide +kernel)];refine ae (tQ (ty h1 d s.toks k3) ?_);refine ag ?_;rw[if_pos (by decide +kernel)];refine ae (h9 (ae ?_));show wpAny _ A.in1 (updateSeq s.heap.objs.size (·.push .none) >>= λ_=>updateSeq s.heap.objs.size (·.pop)) _ _ _;have g1:=pw (Obj.mapSeq (·.push Value.none)) g0 rfl;have g2:=pw (Obj.mapSeq (·.pop)) g1 rfl;have z1:(s.heap.push Qb).objs.size=s.heap.objs.size+1:=qg ..;have acN:s.heap.objs.size+1<=it:=z1▸ge;have nf:s.heap.objs.size∉fp:=λm=>by
   rcases(fl _ m).2 with z|z
   ·exact nl z
   ·exact absurd (z1▸z:s.heap.objs.size+1<=s.heap.objs.size) (Nat.not_succ_le_self _)
  have YR:∀ b ob,b≠s.heap.objs.size->h1.get? b=some ob->((h1.update s.heap.objs.size (Obj.mapSeq (·.push Value.none))).update s.heap.objs.size (Obj.mapSeq (·.pop))).get? b=some ob:=λb ob ne e=>(yW _ _ (Ne.symm ne)).trans ((yW _ _ (Ne.symm ne)).trans e);have sl:es.size<=sizeLine:=Hv S.bd;refine ae (wH g0 rfl (wH g1 rfl (ag ⟨rY F.plain_extend_loop _,codeAny_extend_loopS W.toS sl _ nf _ es.size 0 _ _ _ rfl (cT _) (W.frame 0 h1 _ acM λb hb ob e=>YR b ob (λz=>nf (z▸hb)) e) g2 (ItemsOf.nil _) λs2 acc c mv gs bC=>?_⟩)));refine ae (u4 gs (ag (h _ s2 ?_ ?_)))
  ·have e1:acc.toList=us:=by
    have ul:us.length=es.size:=by rw[pu.length_eq,aF,km]
    apply wM;intro j;by_cases hj:j<acc.size
    ·have ej:acc[j]?=some acc[j]:=by simp[hj]
     rw[pC,ej];exact(bC.2 j _ ej).symm
    ·have h3:=bC.1;rw[pC,IC (by omega),qR (by omega)]
   rw[e1];exact pu
  ·obtain⟨h2,gg,dd,tk,os⟩:=s2;have q1:gg=s.gens:=mv.gens;have q2:dd=d:=mv.drawn;have q3:os=s.os:=mv.os;subst q1 q2 q3;refine⟨h2,dd,tk,rfl,λb ob e=>?_,ke (aK gs)⟩;have bl:=aK e;refine mv.heap b ob ?_ (YR b ob (bL bl) (k3 b ob e));simp only[aP,nL,or_false,not_or];exact⟨bL bl,bL (dM (ng bl) acN)⟩)))
theorem Az (hh:A.handled=none) (S:hZ prog w (bE w) s.heap a ns) (cB:ns.length<64)
 (h:∀ (l:Addr) (out:Array Value) (ks:List Int) (c:Nat) (h':Heap) (d:Drawn) (tk:Nat),IntsAre out.toList ks->ks.Perm ns->ks.Pairwise (·<=·)->Kp s.heap h'->s.heap.objs.size<=l->h'.get? l=some (seqObj "list" out c)->Q (.ref l) { s with heap:=h',drawn:=d,toks:=tk }) :
 wpAny (model prog w) A (call (.builtin "sorted") [.ref a]) Q E s:=by
 obtain⟨o,es,ep,t,ms,ho,S⟩:=S;refine IE Ie Ig Ih (Ii _) ?_;unfold Builtin.«sorted»;refine ae (m:=checkCount "sorted" 1 1 _) (ag (ae (CQ (by simp[hh]) ho S λus s1 pu wk=>?_)));obtain⟨h1,d,tk,rfl,k1,le⟩:=wk;obtain⟨ks,ik,pk⟩:=jN pu S.vs;have ul:us.length<64:=by
  rw[ik.length,pk.length_eq,S.pm.length_eq];exact cB
 refine ae (u7 ?_);have gl:(h1.push (seqObj "list" us.toArray 0)).get? h1.objs.size=some (seqObj "list" us.toArray 0):=aR _ rfl;refine ae (cn (dr Ij ⟨_,gl,rfl⟩ Ik (WK gl ik ul λout js a1 a2 a3=>⟨_,rfl,ag ⟨_,rfl,?_⟩⟩) (Il _)));obtain⟨c,gc⟩:=sortedHeap_at (vs:=us) (out:=out) gl;exact h _ out js c _ d tk a1 ((a2.trans pk).trans S.pm) a3 (λb ob e=>by
  have bl:b<h1.objs.size:=aK (k1 b ob e);rw[sortedHeap_old (bL bl) (by rw[qg];exact ng bl)];exact aC _ (k1 b ob e)) le gc
end HT
namespace L2
open PySem PySem.Spec PyProof.Rows PySem.W
section
variable {a : Expr} {p p2 dF : Pos} {t : TA}
def YS (K:Frag) (vs:List V) (H:Hp) (Q:VK):Prop:=∃ (p:Addr) (ns:List Int),vs=[.ref p] /\ aV K H p (ns.map V.int) /\ ns.length<4000 /\ Q (.int (HT.dist ns).length) H
theorem Js (hc:X.calm=true) (hg:Gl X "len") (hm:X.mg "len"=none) (cM:Gl X "set") (dg:X.mg "set"=none) (ha:PA X [a] t) (hs:DL.a6 a=true) :
 PE X (.Call (.Name "len" p) [.Call (.Name "set" p2) [a] [] dF] [] pos) (vO (YS X.K) t):=by
 intro pins s σ H Q I h;have st:=DL.fm (e:=.Call (.Name "set" p2) [a] [] dF) rfl [] X.env;refine k8 (gM I hg hm yG ?_ (by decide) (by decide));refine callWith_builtin1 ?_ st (DL.gN (es:=[]) rfl);rw[st];show wpAny _ _ (spliced ((false,eval (.Call (.Name "set" p2) [a] [] dF) X.env)::backTo pos (starEach [] X.env))) _ _ s;refine sh (k8 (gM I cM dg (by decide +kernel:bootBuiltins "set"=some (.type "set")) ?_ (by decide) (by decide)));refine callWith_type1 (ao (ha dF pins s σ H _ I h) λus s1 ⟨vs,H1,I1,r1,q1⟩=>?_) (DL.fm hs [] X.env) rfl;obtain⟨l,ns,rfl,hl,hn,q⟩:=q1;obtain⟨u,rfl,ru⟩:=Vals.one r1;cases ru;have sb:scanBound=4096:=rfl;obtain⟨af,r',⟨o,z1,z2,z3⟩,hz⟩:=I1.tuple hl;refine HT.Ay (vs:=af) (ns:=ns) (I1.ok.hd hc) (.inl ⟨o,z1,z2,z3⟩) (jM r') (by omega) λs' e=>?_;obtain⟨h',tk,rfl,⟨o,es,ep,tb,ms,ho,S⟩,hk⟩:=e;have dl:(HT.dist ns).length<=ns.length:=Iu _ _;have sl:=S.len;exact t6 (call_len_set ho S.x S.d S.ft (by omega) ⟨.int (HT.dist ns).length,H1,I1.kept hk,⟨_,by rw[sl]⟩,q⟩)
def Qc (K:Frag) (vs:List V) (H:Hp) (Q:VK):Prop:=∃ (p:Addr) (ns:List Int),vs=[.ref p] /\ (bu K H p (ns.map V.int) \/ aV K H p (ns.map V.int)) /\ ns.length<4000 /\ (HT.dist ns).length<64 /\ ∀ l,H l=none->Q (.ref l) (upd H l (.lst ((DL.sortI (HT.dist ns)).map V.int)))
theorem DT (hc:X.calm=true) (hg:Gl X "sorted") (hm:X.mg "sorted"=none) (cM:Gl X "set") (dg:X.mg "set"=none) (ha:PA X [a] t) (hs:DL.a6 a=true) :
 PE X (.Call (.Name "sorted" p) [.Call (.Name "set" p2) [a] [] dF] [] pos) (vO (Qc X.K) t):=by
 intro pins s σ H Q I h;have st:=DL.fm (e:=.Call (.Name "set" p2) [a] [] dF) rfl [] X.env;refine k8 (gM I hg hm (by decide +kernel:bootBuiltins "sorted"=some (.builtin "sorted")) ?_ (by decide) (by decide));refine callWith_builtin1 ?_ st (DL.gN (es:=[]) rfl);rw[st];show wpAny _ _ (spliced ((false,eval (.Call (.Name "set" p2) [a] [] dF) X.env)::backTo pos (starEach [] X.env))) _ _ s;refine sh (k8 (gM I cM dg (by decide +kernel:bootBuiltins "set"=some (.type "set")) ?_ (by decide) (by decide)));refine callWith_type1 (ao (ha dF pins s σ H _ I h) λus s1 ⟨vs,H1,I1,r1,q1⟩=>?_) (DL.fm hs [] X.env) rfl;obtain⟨l,ns,rfl,hl,hn,cB,q⟩:=q1;obtain⟨u,rfl,ru⟩:=Vals.one r1;cases ru;have sb:scanBound=4096:=rfl;have hd:=I1.ok.hd hc;have fin:∀ s',HT.wb X.prog X.w s1 ns s'->wpAny (model X.prog X.w) X.A (spliced (backTo pos (starEach [] X.env))) (λws s2=>wpAny (model X.prog X.w) X.A (call (.builtin "sorted") (.ref s1.heap.objs.size::ws)) (EP X pins σ Q) X.xe s2) X.xe s':=λs' e=>by
  obtain⟨h',tk,rfl,S,hk⟩:=e;have lz:s1.heap.objs.size<=h'.objs.size:=by
   obtain⟨o,_,_,_,_,ho,_⟩:=S;exact ke (aK ho)
  refine t6 (HT.Az hd S cB λL out ks c h2 d Em a1 a2 a3 k2 le gL=>?_);have e:ks=DL.sortI (HT.dist ns):=DL.ji (a2.trans (DL.gf _).symm) a3 (DL.gq _);subst e;have hf:H1 L=none:=I1.ar.fresh (bc lz le);have ll:((DL.sortI (HT.dist ns)).map V.int).length<=sizeLine:=by
   rw[aF,(DL.gf _).length_eq];exact bc (ke cB) (by decide)
  have I2:=I1.laid (h':=h2) (a:=L) (t':=Em) (o:=.lst ((DL.sortI (HT.dist ns)).map V.int)) (λb u e=>k2 b u (hk b u e)) (bc lz le) ⟨ll,out.toList,c,DL.lH a1,gL⟩;exact⟨.ref L,_,⟨I2.ok,I2.os,I2.bare,I2.base,I2.loc,I2.cell,I2.free,I2.nP,I2.pin,I2.ar,I2.len⟩,rfl,q L hf⟩
 rcases hl with hl|hl
 ·obtain⟨af,r',pl,hz⟩:=I1.list hl;exact HT.Ay (vs:=af) (ns:=ns) hd (.inr pl.isList) (jM r') (by omega) fin
 ·obtain⟨af,r',pl,hz⟩:=I1.tuple hl;obtain⟨o,z1,z2,z3⟩:=pl;exact HT.Ay (vs:=af) (ns:=ns) hd (.inl ⟨o,z1,z2,z3⟩) (jM r') (by omega) fin
end
end L2
namespace L2.DL
open PySem PySem.Spec PyProof.Rows PySem.W
noncomputable def uN:List D->Option Res:=λxs=>match xs with
 |[.tup l]=>(intsOf l).bind λns=>if ns.length<4000 then some (.old (.int (HT.dist ns).length)) else none
 |_=>none
theorem acO:dU (YS K) uN:=by
 intro F H xs vs Q s sub rx e k;unfold uN at e;split at e
 ·rename_i l;cases e1:intsOf l with
  |none=>rw[e1]at e;cases e
  | some ns =>
    rw[e1]at e;simp only[a9]at e;split at e
    ·rename_i hn;cases e;obtain⟨v,t,rfl,h1,h2⟩:=rx;cases (show t=[] from h2);obtain⟨a,ws,rfl,h3,h4⟩:=h1;have q1:=h4.ints e1;subst q1;exact⟨a,ns,rfl,.of (sub _ _ h3),hn,k _ _ ⟨rfl,rfl⟩⟩
    ·cases e
 ·cases e
noncomputable def uO:List D->Option Res:=λxs=>match xs with
 |[.lst l]=>(intsOf l).bind λns=>if ns.length<4000 /\ (HT.dist ns).length<64 then some (.lst ((sortI (HT.dist ns)).map D.int)) else none
 |[.tup l]=>(intsOf l).bind λns=>if ns.length<4000 /\ (HT.dist ns).length<64 then some (.lst ((sortI (HT.dist ns)).map D.int)) else none
 |_=>none
theorem acP:dU (Qc K) uO:=by
 intro F H xs vs Q s sub rx e k;have go:∀ (l:List D) (ws:List V) (a:Addr),av F l ws->(bu K H a ws \/ aV K H a ws)->vs=[.ref a]->((intsOf l).bind λns=>if ns.length<4000 /\ (HT.dist ns).length<64 then some (Res.lst ((sortI (HT.dist ns)).map D.int)) else none)=some s->Qc K vs H Q:=λl ws a dl sq ev e=>by
  cases e1:intsOf l with
  |none=>rw[e1]at e;cases e
  | some ns =>
    rw[e1]at e;simp only[a9]at e;split at e
    ·rename_i hn;cases e;have q1:=dl.ints e1;subst q1;exact⟨a,ns,ev,sq,hn.1,hn.2,λp hp=>k _ _ ⟨p,_,rfl,hp,rfl,j8 _⟩⟩
    ·cases e
 unfold uO at e;split at e
 ·obtain⟨v,t,rfl,h1,h2⟩:=rx;cases (show t=[] from h2);obtain⟨a,ws,rfl,h3,h4⟩:=h1;exact go _ ws a h4 (.inl (.of h3)) rfl e
 ·obtain⟨v,t,rfl,h1,h2⟩:=rx;cases (show t=[] from h2);obtain⟨a,ws,rfl,h3,h4⟩:=h1;exact go _ ws a h4 (.inr (.of (sub _ _ h3))) rfl e
 ·cases e
section
variable {a : Expr} {p p2 dF : Pos} {m : DE (List W)}
theorem Jt (hc:X.calm=true) (hg:Gl X "len") (hm:X.mg "len"=none) (cM:Gl X "set") (dg:X.mg "set"=none) (ha:cc X T Z [a] m) (hs:a6 a=true) :
 PD X T Z (.Call (.Name "len" p) [.Call (.Name "set" p2) [a] [] dF] [] pos) (dN false uN m):=PE.imp (Js hc hg hm cM dg ha hs) (Ct acO)
theorem DU (bo:Bool) (hc:X.calm=true) (hg:Gl X "sorted") (hm:X.mg "sorted"=none) (cM:Gl X "set") (dg:X.mg "set"=none) (ha:cc X T Z [a] m) (hs:a6 a=true) :
 PD X T Z (.Call (.Name "sorted" p) [.Call (.Name "set" p2) [a] [] dF] [] pos) (dN bo uO m):=PE.imp (DT hc hg hm cM dg ha hs) (Ct acP)
end
end L2.DL
namespace HT
open PySem PyProof.Rows PySem.W
def tu (h:Heap) (d:Addr) (vs:List Value) (ep:Nat):Prop:=∃ o es,h.get? d=some o /\ o.data=.dict es ep /\ es.toList.map (·.val)=vs
theorem tu.at {d:Addr}(x:tu h d vs ep) (k:∀ o,h.get? d=some o->h'.get? d=some o):tu h' d vs ep:=let ⟨o,es,e,r⟩:=x;⟨o,es,k o e,r⟩
section
variable {v d : Addr} 
theorem Os (hv:s.heap.IsValuesView v d) (hm:tu s.heap d vs ep)
 (q:Q (.ref s.heap.objs.size) { s with heap:=s.heap.push { cls:=.type "dict_valueiterator",data:=.fields #[.ref d,.int 0 0,.int vs.length 0,.int ep 0] } }):wpAny (model prog w) A (pyIter (.ref v)) Q E s:=by
 obtain⟨o1,e1,c1,d1⟩:=id hv;obtain⟨o,es,e2,d2,ev⟩:=id hm;have sz:es.size=vs.length:=by rw[<-ev];simp
 refine wF hv.typeIs W9 (dr W9 hv.typeIs PySem.F.entry_dict_values_iter ?_ (PySem.F.args_dict_values_iter_1 _));unfold Builtin.«dict_values.__iter__»;refine ae (ag (ae ?_));unfold Builtin.Dict_items.dictOf;refine ae (eI e1 d1 (x:=.ref d) rfl (ag (ae ?_)));unfold Builtin.Dict_items.newIterator;refine ae (Hx e2 d2 (ae (VU e2 d2 ?_)));simp only[show Builtin.Dict_items.ownsTuple "dict_valueiterator"=false by decide,wJ,if_false];exact cS (ag ⟨_,rfl, "dict_valueiterator",_,⟨_,aR _ rfl,rfl⟩,IJ.lookup,by simpa[rawInt,sz] using q⟩)
theorem Ga {Q:Option Value->Shared->Prop}(hit:s.heap.IsValIter it d i vs.length ep) (hm:tu s.heap d vs ep) (hh:A.handled=none)
 (q:∀ x h',vs[i]?=some x->h'.IsValIter it d (i+1) vs.length ep->Heap.SameBut it s.heap h'->Q (some x) { s with heap:=h' })
 (qe:∀ h',vs[i]?=none->Heap.ExtBut it s.heap h'->Q none { s with heap:=h' }):wpAny (model prog w) A (pyNext (.ref it)) Q E s:=by
 obtain⟨o,e1,c1,d1⟩:=id hit;obtain⟨od,es,e2,d2,ev⟩:=id hm;have sz:es.size=vs.length:=by rw[<-ev];simp
 unfold pyNext;refine ae (rX (pq (name:=Str.ofString "__next__") hit.typeIs IJ (dr IJ hit.typeIs PySem.F.entry_dict_valueiterator_next ?_ (PySem.F.args_dict_valueiterator_next_1 _))));refine ae (ag (ae (ae ?_)));first|refine ae (Hy hit.typeIs (ag (ae (va e1 d1 ?_))))|refine ae (Hz hit.typeIs (ag (ae (va e1 d1 ?_))))
 simp only[show Builtin.Dict_items.ownsTuple "dict_valueiterator"=false by decide,wJ,if_false];show wpAny _ _ (if (Value.ref d==Value.none)=true then _ else _) _ _ s;rw[if_neg (show ¬ ((Value.ref d==Value.none)=true) from b9)];refine ae (ag (ae (Hx e2 d2 ?_)));rw[if_neg (by rw[sz];simp)];refine ae (ag (ae (VU e2 d2 ?_)));rw[if_neg (by simp)];refine ag ?_;rcases qN i vs.length with hl|hl
 ·have kK:i<es.size:=by rw[sz];exact hl
  have hv:vs[i]?=some es[i].val:=by rw[<-ev];simp[kK]
  simp only[show ¬ ((i:Int)<0) from by omega,if_false,dQ,Array.getElem?_eq_getElem kK];refine ae ?_;first|refine ae (Hy hit.typeIs (ag (ae (yM hit.typeIs ?_))))|refine ae (Hz hit.typeIs (ag (ae (yM hit.typeIs ?_))))
  show wpAny _ _ (setField (.ref it) 1 (rawInt ((i:Int)+1)) >>= _) _ _ s;refine ae (p8 e1 d1 (by simp) ?_);have h2:(s.heap.update it (Obj.mapFields (·.setIfInBounds 1 (rawInt ((i:Int)+1))))).IsValIter it d (i+1) vs.length ep :=
   ⟨_,pw _ e1 (vA (nN d1 _)),(wV ..).trans c1,by rw[nN d1];simp[rawInt]⟩
  refine ae (cn (ae (yM (s:={ s with heap:=s.heap.update it (Obj.mapFields (·.setIfInBounds 1 (rawInt ((i:Int)+1)))) }) h2.typeIs (ae (yM (s:={ s with heap:=s.heap.update it (Obj.mapFields (·.setIfInBounds 1 (rawInt ((i:Int)+1)))) }) h2.typeIs ?_)))));show wpAny _ _ (pure es[i].val) _ _ _;exact ag (ag ⟨_,rfl,ag (q _ _ hv h2 (Heap.SameBut.update ..))⟩)
 ·have hx:vs[i]?=none:=qR hl;simp only[show ¬ ((i:Int)<0) from by omega,if_false,dQ,IC (show es.size<=i by rw[sz];exact hl)];refine ae ?_;first|refine ae (Hy hit.typeIs (ag ?_))|refine ae (Hz hit.typeIs (ag ?_))
  show wpAny _ _ (setField (.ref it) 0 .none >>= _) _ _ s;refine ae (p8 e1 d1 (by simp) ?_);show wpAny _ _ (newExc (.type "StopIteration") [] >>= _) _ _ _;refine ae ?_;simp only[newExc,newTuple];refine ae (cS (ae (m:=firstArgMember _ _) (tR (a:=Value.none) (by first|rfl|(simp only[firstArgMember];rfl)) (cS ?_ (by size_fits)))) (by size_fits));simp only[raiseNew];refine ae (yH ?_);rw[show A.in1.handled=none from hh];refine ae (ag (yI ?_));refine ae (wG (T:="StopIteration") (b:=true) ⟨_,aR _ rfl,rfl⟩ yJ ?_);exact ag (qe _ hx (((Heap.SameBut.update ..).extBut.push _).push _))
theorem Ot (hh:A.handled=none) (kS:d≠it) (vs:List Value) (ep:Nat):Walks prog w A it [it,d] [it] vs.length (λi v=>vs[i]?=some v) (λi h=>h.IsValIter it d i vs.length ep /\ tu h d vs ep) where
 sub:=λb hb=>by simp at hb;simp[hb]
 frame:=λ_ _ _ st hk=>⟨st.1.at λo e=>hk it (by simp) o e,st.2.at λo e=>hk d (by simp) o e⟩
 item:=λi s Q E hi st hQ=>Ga st.1 st.2 hh (λx h' hx h2 sb=>hQ x h' s.toks hx ⟨h2,st.2.at λo e=>sb.extBut d o kS e⟩ λb o hb e=>sb.extBut b o (λz=>hb (by simp[z])) e) λh' hx _=>by rw[List.getElem?_eq_none_iff]at hx;omega
 done:=λs Q E st hQ=>Ga st.1 st.2 hh (λx h' hx _ _=>by simp at hx) λh' _ he=>hQ h' s.toks λb o hb e=>he b o (λz=>hb (by simp[z])) e
 self:=λ_ _ _ _ st hQ=>wpAny_pyIter_valiter st.1 hQ
theorem Sr {r:Addr}(vs:List Value) (ep:Nat):KdlSrc prog w "dict_values" r d vs.length (λi v=>vs[i]?=some v) (λh=>h.IsValuesView r d /\ tu h d vs ep) where
 type:=λ_ hm=>hm.1.typeIs
 there:=λ_ hm=>⟨let ⟨_,ho,_⟩:=hm.1;aK ho,let ⟨_,_,ho,_⟩:=hm.2;aK ho⟩
 keep:=λ_ _ hm hk=>⟨let ⟨o,ho,x⟩:=hm.1;⟨o,hk r (.inl rfl) o ho,x⟩,hm.2.at λo e=>hk d (.inr rfl) o e⟩
 notList:=by decide
 notTuple:=by decide
 hint:=λ_ _ _ _ hm hq=>kdl_hint_values hm.1.typeIs hq
 iter:=λ_ _ hh hm=>⟨_,_,(λ_ _ hq=>Os hm.1 hm.2 hq),Ot hh (bL (let ⟨_,_,ho,_⟩:=hm.2;aK ho)) vs ep,⟨⟨_,aR _ rfl,rfl,rfl⟩,hm.2.at λo e=>aC _ e⟩⟩
end
section
variable {K : Type} [DecidableEq K] {knd : HeapKind prog w K} {d : Addr} {k : K} {xs : List (K × Addr × Value)} {v : Value}
theorem L8 (hu:knd.room A) (hk:knd.is s.heap k a) (hm:s.heap.DictOfH knd d xs) (hz:xs.length<=sizeLine)
 (h1:∀ p,atKey xs k=some p->Q p.2 { s with toks:=s.toks+knd.draws k })
 (h2:atKey xs k=none->∀ h',h'.DictOfH knd d (storedH xs k a v)->Heap.SameBut d s.heap h'->Q v { s with heap:=h',toks:=s.toks+knd.draws k }):wpAny (model prog w) A (dictSetDefault d (.ref a) v) Q E s:=by
 obtain⟨o,es,ep,ho,hc,hd,he,hi,hn⟩:=hm;have sz:=size_of_entries he;unfold dictSetDefault;refine cn (ae (knd.pyHash hu hk (ae (wpAny_dictFind_heap (s:={ s with toks:=s.toks+knd.draws k }) hu hk ho hd he hi hn (λno=>?_) λj p hj=>?_))))
 ·have an:=atKey_none_of_get no;refine ae (h9 (ae (wpAny_updateDictKeys (hz:=by omega) (s:={ s with toks:=s.toks+knd.draws k }) ho hd (ag (h2 an _ ⟨_,_,ep+1,pw _ ho (Obj.isFreed_of_dict (WS hd _)),hc.mapDictKeys _,WS hd _,?_,λx hx=>?_,?_⟩ (Heap.SameBut.update ..))))))
  ·rw[HC an];simp[he,entryOfKey]
  ·rw[HC an]at hx;rcases bH.mp hx with hx|hx
   ·exact knd.keeps (hi x hx) ho hd (Heap.SameBut.update ..)
   ·cases a7.mp hx;exact knd.keeps hk ho hd (Heap.SameBut.update ..)
  ·rw[HC an,eL,sf];refine⟨hn,by simp,λx hx y hy=>?_⟩;cases (a7.mp hy:y=k);exact λe=>not_mem_keys_of_get no (e▸hx)
 ·refine ae (Hx (s:={ s with toks:=s.toks+knd.draws k }) ho hd ?_);rw[entry_at he j,hj];exact ae (h9 (ag (h1 p (atKey_of_get hn hj))))
theorem L9 (knd:HeapKind prog w K) (d a:Addr) (hd:(d==sysModules)=false) (v:Value) :
 MeetsIn prog w (Builtin.«dict.setdefault» ⟨[.ref d,.ref a,v],[]⟩) (λA R s=>knd.room A.in1 /\ ∃ k xs,knd.is s.heap k a /\ s.heap.DictOfH knd d xs /\ xs.length<=sizeLine /\
  (∀ p,atKey xs k=some p->R (.ok (.ret p.2)) { s with toks:=s.toks+knd.draws k }) /\
  (atKey xs k=none->∀ h',h'.DictOfH knd d (storedH xs k a v)->Heap.SameBut d s.heap h'->R (.ok (.ret v)) { s with heap:=h',toks:=s.toks+knd.draws k })):=
 .of_wp λA R s ⟨hu,k,xs,hk,hm,hz,h1,h2⟩=>by
  unfold Builtin.«dict.setdefault»;refine ae ?_;unfold Builtin.Dict.keyAndDefault;refine ae (VV hm.typeIs ?_);show wpAny _ _ (pure (d,Value.ref a,some v)) _ _ s;refine ag ?_;show wpAny _ _ (if (d==sysModules)=true then _ else (dictSetDefault d (.ref a) v >>= _)) _ _ s;rw[if_neg (by rw[hd];exact b9)];exact ae (L8 hu hk hm hz (λp hp=>ag ⟨_,rfl,h1 p hp⟩) λhn h' m' s'=>ag ⟨v,rfl,h2 hn h' m' s'⟩)
theorem DV (d:Addr) (hd:(d==sysModules)=false) :
 MeetsIn prog w (Builtin.«dict.values» ⟨[.ref d],[]⟩) (λ_ R s=>s.TypeIs (.ref d) "dict" /\ R (.ok (.ret (.ref s.heap.objs.size))) { s with heap:=s.heap.push { cls:=.type "dict_values",data:=.fields #[.ref d] } }):=
 .of_wp λA R s ⟨hm,h⟩=>by
  refine ae ?_;unfold Builtin.Dict.noArgs;refine ae (VV hm ?_);show wpAny _ _ (pure d) _ _ s;refine ag ?_;show wpAny _ _ (Builtin.Dict.showsAll d >>= _) _ _ s;unfold Builtin.Dict.showsAll;rw[if_neg (by rw[hd];exact b9)];exact ae (ag (ae (cS (ag ⟨_,rfl,h⟩))))
end
end HT
namespace L2
open PySem PySem.Spec PyProof.Rows PySem.W
section
variable {o f : Expr} {bf p : Pos} {td ty tx : TE}
def YT (td ty tx:TE):TE:=λσ H Q=>td σ H λx H1=>∃ a,x=.ref a /\ Yx H1 a /\ ty σ H1 λy H2=>tx σ H2 λz H3=>∃ ah k b,H3 a=some (.dT ah) /\ y=.ref b /\ H3 b=some (.tup (k.map kV)) /\ ah.length<sizeLine /\
 (∀ v,kB ah k=some v->Q v H3) /\ (kB ah k=none->Q z (upd H3 a (.dT (putK ah k z))))
theorem Ma (hu:X.A.units+1<cLine) (ho:PE X o td) (he:PE X e ty) (hf:PE X f tx) (m:M2 X o "setdefault" apos e f bf):PE X (.Call (.Attribute o "setdefault" apos) [e,f] [] bf) (YT td ty tx):=by
 intro pins s σ H Q I h;refine VW m.base m.abU m.line Xa Xc PySem.F.type_dict_setdefault (ao (ho pins s σ H _ I h) λu s1 ⟨x,H1,I1,rx,a,ex,d,q1⟩=>?_);subst ex;obtain rfl:u=Value.ref a:=rx;obtain⟨t1,t2,_⟩:=LJ I1 d;refine⟨t1,t2,?_⟩;rw[m.trees];refine ID rfl (WX (sh (ao (he pins s1 σ H1 _ I1 q1) λiv s2 ⟨y,H2,I2,ry,q2⟩ =>
  sh (ao (hf pins s2 σ H2 _ I2 q2) λfv s3 ⟨z,H3,I3,rz,ah,k,b,ea,ey,eb,el,q3,q4⟩=>t6 ?_))))
 subst ey;cases (show iv=Value.ref b from ry);obtain⟨zl,hd,xs,rel,dd⟩:=PC I3.ar ea;have lx:xs.length<=sizeLine:=by rw[<-Paired.length rel];exact zl
 refine VX Xc dd.typeIs PySem.F.entry_dict_setdefault (PySem.F.args_dict_setdefault_3 _ _ _) (HT.L9 (tupleKind (eM X.prog X.w)) a b hd fv) ⟨tupleKind_room_in1 hu,k,xs,LG I3.ar eb,dd,lx,λp hp=>?_,λhn h' acQ hs=>?_⟩
 ·have rv:=rel.val k;rw[hp]at rv;cases l:kB ah k with
  |none=>rw[l]at rv;exact rv.elim
  |some v'=>rw[l]at rv;exact⟨v',H3,I3.tok _,rv,q3 v' l⟩
 ·have l:kB ah k=none:=by
   have rv:=rel.val k;rw[hn]at rv;cases l:kB ah k with
   |none=>rfl
   |some v'=>rw[l]at rv;exact rv.elim
  have hl:(putK ah k z).length<=sizeLine:=by have:=Cw ah k z;omega
  obtain⟨ob,es,ep,hq,h2,h3,h4,_,h5⟩:=acQ;refine⟨z,upd H3 a (.dT (putK ah k z)),N6 I3 (by rw[ea];exact True.intro) hs ⟨ob,hq⟩ ⟨hl,hd,_,(rel.put k eb rz).keeps λc ys ec=>?_,ob,es,ep,hq,h2,h3,h4,h5⟩,rz,q4 l⟩;rw[fJ (To ec ea (λz=>nomatch z))];exact ec
theorem Ou (r:KT H ah xs):Vals (ah.map (·.2)) (xs.map (·.2.2)):=by
 induction r with
 |nil=>exact .nil
 |cons h t ih=>exact .cons h.2.2 ih
def YU (td:TE):TE:=λσ H Q=>td σ H λx H1=>∃ a ah,x=.ref a /\ H1 a=some (.dT ah) /\ ∀ l,H1 l=none->Q (.ref l) (upd H1 l (.lst (ah.map (·.2))))
theorem Ov (hc:X.calm=true) (hg:Gl X "list") (hm:X.mg "list"=none) (ho:PE X o td) (hb:attributeBase o "values" X.env (eval o X.env)=eval o X.env) (hl:(apos.endLine==bf.line)=true) :
 PE X (.Call (.Name "list" p) [.Call (.Attribute o "values" apos) [] [] bf] [] pos) (YU td):=by
 intro pins s σ H Q I h;refine k8 (gM I hg hm (by decide +kernel:bootBuiltins "list"=some (.type "list")) ?_ (by decide) (by decide));refine callWith_type1 ?_ (DL.fm (e:=.Call (.Attribute o "values" apos) [] [] bf) rfl [] X.env) rfl;rw[DL.fm (e:=.Call (.Attribute o "values" apos) [] [] bf) rfl [] X.env];show wpAny _ _ (spliced ((false,eval (.Call (.Attribute o "values" apos) [] [] bf) X.env)::backTo pos (starEach [] X.env))) _ _ s;refine sh (VW hb rfl hl Xa Xd PySem.F.type_dict_values (ao (ho pins s σ H _ I h) λu s1 ⟨x,H1,I1,rx,a,ah,ex,ea,q1⟩=>?_));subst ex;obtain rfl:u=Value.ref a:=rx;obtain⟨t1,t2,_⟩:=LJ I1 (.inr ⟨ah,.inl ea⟩);refine⟨t1,t2,ID rfl (Zu ?_)⟩;obtain⟨zl,hd,xs,rel,dd⟩:=PC I1.ar ea;obtain⟨ob,es,ep,hq,h2,h3,h4,_,h5⟩:=id dd;refine VX Xd dd.typeIs PySem.F.entry_dict_values (PySem.F.args_dict_values_1 _) (HT.DV a hd) ⟨dd.typeIs,?_⟩;have up:∀ b o,s1.heap.get? b=some o->(s1.heap.push { cls:=.type "dict_values",data:=.fields #[.ref a] }).get? b=some o:=λb o e=>aC _ e;have I2:Inv X pins σ H1 { s1 with heap:=s1.heap.push { cls:=.type "dict_values",data:=.fields #[.ref a] } }:=I1.kept (t':=s1.toks) up;have rd:HT.tu (s1.heap.push { cls:=.type "dict_values",data:=.fields #[.ref a] }) a (xs.map (·.2.2)) ep:=⟨ob,es,up a ob hq,h3,by rw[h4,dv];rfl⟩;have lx:(xs.map (·.2.2)).length<=sizeLine:=by rw[aF,<-Paired.length rel];exact zl
 refine t6 (kdl_call (HT.Sr (xs.map (·.2.2)) ep) (I1.ok.hd hc) ⟨⟨_,aR _ rfl,rfl,rfl⟩,rd⟩ lx λh' tk acc c hk hD YV=>?_);have ev:acc.toList=xs.map (·.2.2):=by
  apply wM;intro j;by_cases hj:j<acc.size
  ·have ej:acc[j]?=some acc[j]:=by simp[hj]
   rw[pC,ej];exact(YV.2 j _ ej).symm
  ·have h3:=YV.1;rw[pC,IC (by omega),qR (by omega)]
 have rv:Vals (ah.map (·.2)) acc.toList:=by rw[ev];exact Ou rel
 have I3:=I2.laid (h':=h') (t':=tk) (a:=(s1.heap.push { cls:=.type "dict_values",data:=.fields #[.ref a] }).objs.size) (o:=.lst (ah.map (·.2))) (λb u e=>hk b u e) (ak _) ⟨by rw[aF];exact zl,acc.toList,c,rv,by simpa using hD⟩;exact⟨.ref _,_,I3,rfl,q1 _ (I2.ar.fresh (ak _))⟩
end
noncomputable def uP (p:Pos) (tg:Expr) (it:Value) (ifs:List Expr) (env:Env) (bk:Sem Fin) (c:Code):Sem Fin:=do
 standAt p
 match <-pyNext it with
 |none=>pure (.done .next)
 | some v =>
   letOwnedTupleGo tg it v
   assign tg env v
   let b <-Kx ifs env
   if b then bk else again c
noncomputable def we (elt:Expr) (acc:Value) (env:Env):Sem Unit:=do let v <-eval elt env;standAt elt.pos;let _ <-call (.builtin "set.add") [acc,v]
noncomputable def Qd (e:Expr) (bC:Expr) (acc:Value) (env:Env) (c:Code):Sem Fin:=do
 let x <-eval bC env
 standAt bC.pos
 let x <-foldedSetIterable bC env x
 let _ <-runOwn (.compStart e 1 (<-holding [x] (pyIter x)) acc env) env
 again c
section
variable {it bZ bC : Expr} {eT : List Expr} {scope : Scope} {i acc : Value} {env : Env}
theorem Mb:compTurn (.SetComp elt [⟨tg,it,ifs,0⟩] scope pos) 0 i acc env=uP it.pos tg i ifs env (we elt acc env >>= λ_=>again (.compLoop (.SetComp elt [⟨tg,it,ifs,0⟩] scope pos) 0 i acc env)) (.compLoop (.SetComp elt [⟨tg,it,ifs,0⟩] scope pos) 0 i acc env):=by rfl
theorem Mc:compTurn (.SetComp elt [⟨tg,it,ifs,0⟩,⟨bZ,bC,eT,0⟩] scope pos) 0 i acc env=uP it.pos tg i ifs env (Qd (.SetComp elt [⟨tg,it,ifs,0⟩,⟨bZ,bC,eT,0⟩] scope pos) bC acc env (.compLoop (.SetComp elt [⟨tg,it,ifs,0⟩,⟨bZ,bC,eT,0⟩] scope pos) 0 i acc env)) (.compLoop (.SetComp elt [⟨tg,it,ifs,0⟩,⟨bZ,bC,eT,0⟩] scope pos) 0 i acc env):=by rfl
theorem Ow:compTurn (.SetComp elt [⟨tg,it,ifs,0⟩,⟨bZ,bC,eT,0⟩] scope pos) 1 i acc env=uP bC.pos bZ i eT env (we elt acc env >>= λ_=>again (.compLoop (.SetComp elt [⟨tg,it,ifs,0⟩,⟨bZ,bC,eT,0⟩] scope pos) 1 i acc env)) (.compLoop (.SetComp elt [⟨tg,it,ifs,0⟩,⟨bZ,bC,eT,0⟩] scope pos) 1 i acc env):=by rfl
end
theorem CS {scope:Scope}{d:Nat}{p:Pos}{it acc:Value}{env:Env}{bk:Sem Fin}(ht:compTurn (.SetComp elt gens scope pos) d it acc env=uP p tg it ifs env bk (.compLoop (.SetComp elt gens scope pos) d it acc env))
 (J:Nat->Shared->Prop) (N:Value->Nat->Shared->Prop)
 (hN:∀ v n z,N v n z->wpAny (model prog w) A (letOwnedTupleGo tg it v) (λ_ z1=>wpAny (model prog w) A (assign tg env v) (λ_ z2=>wpAny (model prog w) A (Kx ifs env) (λb z3 =>
  if b=true then wpAny (model prog w) A bk (λf z5=>f=.again (.compLoop (.SetComp elt gens scope pos) d it acc env) /\ ∃ k,k<n /\ J k z5) (pK prog w A env R) z3 else ∃ k,k<n /\ J k z3)
  (pK prog w A env R) z2) (pK prog w A env R) z1) (pK prog w A env R) z)
 (go:∀ n z,J n z->wpAny (model prog w) A (pyNext it) (λr z1=>match r with|none=>R (.ok .next) z1|some v=>N v n z1) (pK prog w A env R) z)
 (n:Nat) (h:J n s):codeAny (model prog w) A (.compLoop (.SetComp elt gens scope pos) d it acc env) R s:=by
 refine VF rfl J (λk z hz=>?_) n h;show wpAny _ A (Sem.onRaise (compTurn _ d it acc env) _) _ _ z;refine VG ?_;rw[ht];unfold uP;refine ae (qM (ae (c6 (go k z hz) (λr z1 h1=>?_) λ_ _ q=>q)));cases r with
 |none=>exact ag h1
 | some v =>
   refine ae (c6 (hN v k z1 h1) (λ_ z2 h2=>ae (c6 h2 (λ_ z3 h3=>ae (c6 h3 (λb z4 h4=>?_) λ_ _ q=>q)) λ_ _ q=>q)) λ_ _ q=>q);cases b with
   |false=>exact ag ⟨rfl,h4⟩
   | true =>
     refine c6 h4 (λf z6 h6=>?_) λ_ _ q=>q;obtain⟨rfl,h6⟩:=h6;exact⟨rfl,h6⟩
theorem mN {scope:Scope}{d:Nat}{g:Comprehension}{it acc:Value}{env:Env}(hg:gens[d]?=some g) (ha:g.is_async=0)
 (h0:codeAny (model prog w) A (.compLoop (.SetComp elt gens scope pos) d it acc env) R s)
 (h:wpAny (model prog w) A (pyIter it) (λuQ s'=>codeAny (model prog w) A (.compLoop (.SetComp elt gens scope pos) d uQ acc env) R s') (λ_ _=>False) s) :
 codeAny (model prog w) A (.compStart (.SetComp elt gens scope pos) d it acc env) R s:=by
 refine Hw (show wpAny _ _ ((compStart (.SetComp elt gens scope pos) d it acc env).onRaise (λx=>do noteFrame x env;standAt theWindowsPlace)) _ _ s from wpAny_notedAt ?_);unfold compStart;have e1:(clausesOf (.SetComp elt gens scope pos))[d]?=some g:=hg;rw[e1];simp only[Option.elim,ha];refine ae (p9 (wpAny_ite ?_));split
 ·first
   |exact ae (ag (ag (And.intro rfl h0)))
   |exact ag (And.intro rfl h0)
 ·first
   |exact ae (h9 (ae (qM (ae (c6 h (λuQ s' h'=>ag (And.intro rfl h')) λ_ _ x=>x.elim)))))
noncomputable abbrev TK:=St->Hp->List Int->(St->Hp->List Int->Prop)->Prop
structure dY (X:Cx) (pins:List (Addr×Obj)) (σ:St) (H:Hp) (s:Shared) (D:Addr) (ns:List Int):Prop where
 inv:Inv X pins σ H s
 fp:c7 X pins H D
 uR:HT.hZ X.prog X.w (HT.bE X.w) s.heap D ns
section
variable {D : Addr} 
theorem Ju {b:Bool}(S:HT.hZ P w b h D ns):∃ o,h.get? D=some o /\ ∀ v,o.data≠.cell v:=by
 obtain⟨o,es,ep,t,ms,ho,S⟩:=S;exact⟨o,ho,λv z=>by rw[S.d]at z;cases z⟩
theorem dY.hold (S:dY X pins σ H s D ns):∃ o,Inv X (pins++[(D,o)]) σ H s /\ ∀ {σ':St}{H':Hp}{s':Shared},Inv X (pins++[(D,o)]) σ' H' s'->dY X pins σ' H' s' D ns:=by
 obtain⟨o,ho,hc⟩:=Ju S.uR;refine⟨o,S.inv.zv λp hp=>?_,λ{σ' H' s'} I=>?_⟩
 ·rcases bH.mp hp with z|z
  ·exact S.inv.pin p (bG _ z)
  ·cases a7.mp z;exact⟨ho,S.fp.1,S.fp.2.1,S.fp.2.2.1,hc⟩
 ·obtain⟨e,n,_⟩:=I.pin (D,o) (bG _ (bG _ (a7.mpr rfl)));exact⟨I.sy,⟨n,S.fp.2⟩,S.uR.at λo' e'=>by rw[ho]at e';cases e';exact e⟩
theorem dY.more (S:dY X pins σ H s D ns) {pl:List (Addr×Obj)}(I:Inv X (pins++pl) σ H s) (h:∀ p∈pl,p.1≠D):dY X (pins++pl) σ H s D ns :=
 ⟨I,⟨S.fp.1,S.fp.2.1,S.fp.2.2.1,S.fp.2.2.2.1,S.fp.2.2.2.2.1,λp hp=>by
  rw[<-eK]at hp;rcases bH.mp hp with z|z
  ·exact S.fp.2.2.2.2.2 p z
  ·exact h p z⟩,S.uR⟩
theorem dY.less {pl:List (Addr×Obj)}(S:dY X (pins++pl) σ H s D ns):dY X pins σ H s D ns :=
 ⟨S.inv.sy,⟨S.fp.1,S.fp.2.1,S.fp.2.2.1,S.fp.2.2.2.1,S.fp.2.2.2.2.1,λp hp=>S.fp.2.2.2.2.2 p (by
  rw[<-eK];exact cH _ hp)⟩,S.uR⟩
end
def yi (X:Cx) (D:Addr) (m:Sem Unit) (t:TK):Prop:=∀ (pins:List (Addr×Obj)) (s:Shared) (σ:St) (H:Hp) (ns:List Int) (Q:St->Hp->List Int->Prop) (E:Value->Shared->Prop),dY X pins σ H s D ns->t σ H ns Q ->
 wpAny (model X.prog X.w) X.A m (λ_ s'=>∃ σ' H' aW,dY X pins σ' H' s' D aW /\ Q σ' H' aW) E s
noncomputable def YW (te:TE):TK:=λσ H ns Q=>te σ H λy H1=>∃ i,y=.int i /\ ns.length+1<4000 /\ Q σ H1 (cq ns i)
theorem cA {t:Sem α}{Q1:α->Shared->Prop}{E1:Value->Shared->Prop}{ss:Shared}(hw:wpAny (model P w) A t Q1 (λ_ _=>False) ss):wpAny (model P w) A t Q1 E1 ss:=c6 hw (λ_ _ q=>q) λ_ _ z=>False.elim z
theorem Gb {D:Addr}{te:TE}(hx:X.xe=λ_ _=>False) (he:PE X elt te):yi X D (we elt (.ref D) X.env) (YW te):=by
 intro pins s σ H ns Q E S h;obtain⟨o,I0,back⟩:=S.hold;unfold we;have YX:=he _ s σ H _ I0 h;rw[hx]at YX;refine ae (cA (ao YX λu s1 ⟨y,H1,I1,r1,i,ey,hl,q⟩=>ae (qM (ae ?_))));subst ey;obtain⟨t,rfl⟩:=r1;have S1:=back I1;obtain⟨ob,es,ep,tb,ms,ho,Sa⟩:=id S1.uR;have sb:scanBound=4096:=rfl;refine dr PySem.F.slot_set_add ⟨ob,ho,Sa.x.1⟩ PySem.F.entry_set_add ?_ (PySem.F.args_set_add_2 _ _);unfold Builtin.«set.add» Builtin.Frozenset.oneOther;simp only[List.isEmpty_nil,bind_assoc];unfold Builtin.Frozenset.addrOf setAdd;refine ae (ag (ae (ag (ae (cn (ae ((intKind X.prog X.w).pyHash (k:=i) (tV _ _ _ _) (HT.add_int (s:={ s1 with toks:=s1.toks+1 }) S1.uR (by omega) λz h' sm S2=>?_))))))));refine ag ⟨_,rfl,ag ⟨σ,H1,_,⟨?_,S1.fp,S2⟩,q⟩⟩;exact S1.inv.turned (t':=s1.toks+1) (λb o hb e=>(sm.2 b hb).trans e) S1.fp.1 S1.fp.2.1 S1.fp.2.2.2.1 S1.fp.2.2.2.2.1 S1.fp.2.2.2.2.2
noncomputable def Eo (J:It) (g:TG) (tf:TT) (k:TK):TK:=λσ0 H0 acR Q=>∃ W:Nat->Nat->St->Hp->List Int->Prop,(∃ m,W 0 m σ0 H0 acR) /\ ∀ i m σ H ns,W i m σ H ns ->
 (J.stop i H /\ Q σ H ns) \/ (J.go i H /\ ∃ N:St->Hp->List Int->Prop,(∀ σ2 H2 n2,N σ2 H2 n2->∃ m',m'<m /\ W (i+1) m' σ2 H2 n2) /\ ∀ x H2,J.xb i H x H2->g x σ H2 λσ2 H3=>tf σ2 H3 λb H4=>if b=true then k σ2 H4 ns N else N σ2 H4 ns)
theorem Gc {D:Addr}{scope:Scope}{d:Nat}{p:Pos}{bk:Sem Fin}{body:Sem Unit}{Q:St->Hp->List Int->Prop} 
 {J:It}{tn:Nat->Heap->Prop}{g:TG}{tf:TT}{k:TK}(hx:X.xe=λ_ _=>False) (hc:X.calm=true)
 (ht:compTurn (.SetComp elt gens scope pos) d (.ref it) (.ref D) X.env=uP p tg (.ref it) ifs X.env bk (.compLoop (.SetComp elt gens scope pos) d (.ref it) (.ref D) X.env))
 (acS:bk=(body >>= λ_=>again (.compLoop (.SetComp elt gens scope pos) d (.ref it) (.ref D) X.env)))
 (T:Turn X.prog X.w X.K tg J fp it tn) (hg:PG X tg g) (hf:PF X ifs tf) (hk:yi X D body k)
 (S:dY X pins σ H s D ns) (st:tn 0 s.heap) (fr:∀ b∈fp,c7 X pins H b) (nd:D∉fp) (h:Eo J g tf k σ H ns Q)
 (fin:∀ s' σ' H' aW,dY X pins σ' H' s' D aW->Q σ' H' aW->R (.ok .next) s') :
 codeAny (model X.prog X.w) X.A (.compLoop (.SetComp elt gens scope pos) d (.ref it) (.ref D) X.env) R s:=by
 obtain⟨W,⟨m0,w0⟩,turn⟩:=h;have zB:∀ {H':Hp},(∀ b∈fp,H' b=none)->∀ b∈fp,c7 X pins H' b:=λhn b hb=>⟨hn b hb,(fr b hb).2⟩;have Qe:∀ {H':Hp}{o:Obj},(∀ b∈fp,H' b=none)->∀ b∈fp,c7 X (pins++[(D,o)]) H' b:=λ{H' o} hn b hb=>by
  obtain⟨f1,f2,f3,f4,f5⟩:=(fr b hb).2;refine⟨hn b hb,f1,f2,f3,f4,λp hp=>?_⟩;rw[<-eK]at hp;rcases bH.mp hp with z|z
  ·exact f5 p z
  ·cases a7.mp z;exact λz=>nd (by cases (show D=b from z);exact hb)
 refine CS ht (λn s'=>∃ i σ' H' aW,dY X pins σ' H' s' D aW /\ tn i s'.heap /\ (∀ b∈fp,H' b=none) /\ W i n σ' H' aW) _ (λ_ _ _ q=>q) ?_ m0 ⟨0,σ,H,ns,S,st,λb hb=>(fr b hb).1,w0⟩;rintro n s5 ⟨i,σ5,H5,Qf,S5,nQ,qk,w5⟩;obtain⟨o,I5,back⟩:=S5.hold;rcases turn i n σ5 H5 Qf w5 with⟨stop,q5⟩|⟨go,NN,hN,step⟩
 ·refine cA (ao (T.done X rfl rfl rfl hc i _ s5 σ5 H5 (λ_ _=>False) I5 (Qe qk) nQ stop) λr s6 ⟨hr,I6⟩=>?_);subst hr;exact fin s6 _ _ _ (back I6) q5
 ·refine cA (ao (T.item X rfl rfl rfl hc i _ s5 σ5 H5 (λ_ _=>False) I5 (Qe qk) nQ go) λr s6 ⟨u,hr,h6⟩=>?_);subst hr;refine cA (ao h6 λ_ s7 ⟨x,H7,I7,r7,y7,qu,xo⟩=>?_);have S7:=back I7;have ob:=T.obj _ _ qu;have xp:=I7.pinned (Qe xo) ob;have lift:∀ {σ':St}{H':Hp}{s':Shared},Inv X ((pins++[(D,o)])++qY fp s7.heap) σ' H' s'->dY X (pins++qY fp s7.heap) σ' H' s' D Qf:=λ{σ' H' s'} I=>by
   refine(back I.sy).more (I.zv λp hp=>I.pin p (bG _ ?_)) λp hp=>?_
   ·rcases bH.mp hp with z|z
    ·exact cH _ (cH _ z)
    ·exact bG _ z
   ·exact λz=>nd (z▸(A9 hp).1)
  have sQ:=hg _ s7 σ5 H7 x u _ xp r7 (step x H7 y7);rw[hx]at sQ;refine cA (ao sQ λ_ s8 ⟨σ8,H8,I8,q8⟩=>?_);have YY:=hf _ s8 σ8 H8 _ I8 q8;rw[hx]at YY;refine cA (ao YY λb s9 ⟨H9,I9,q9⟩=>?_);have again:∀ {σ9:St}{HA:Hp}{sA:Shared}{nA:List Int},dY X (pins++qY fp s7.heap) σ9 HA sA D nA->NN σ9 HA nA->∃ m,m<n /\ ∃ i σ' H' aW,dY X pins σ' H' sA D aW /\ tn i sA.heap /\ (∀ b∈fp,H' b=none) /\ W i m σ' H' aW:=λ{σ9 HA sA nA} SA qA=>by
   obtain⟨m',hm,wA⟩:=hN σ9 HA nA qA;refine⟨m',hm,i+1,σ9,HA,nA,SA.less,T.keep _ _ _ qu λb hb o e=>(SA.inv.pin (b,o) (bG _ (bG _ (gF hb e)))).1,λb hb=>?_,wA⟩;obtain⟨o,e,d⟩:=ob b hb;exact(SA.inv.pin (b,o) (bG _ (bG _ (gF hb e)))).2.1
  cases b with
  | false =>
    rw[if_neg (by decide)]at q9 ⊢;exact again (lift I9) q9
  | true =>
    rw[if_pos rfl]at q9 ⊢;rw[acS];exact ae (cA (ao (hk _ s9 σ8 H9 Qf _ (λ_ _=>False) (lift I9) q9) λ_ sB ⟨σB,HB,nB,SB,qB⟩=>ag ⟨rfl,again SB qB⟩))
noncomputable def dz (wi:TI) (g:TG) (tf:TT) (k:TK):TK:=λσ H ns Q=>wi σ H λJ H1=>Eo J g tf k σ H1 ns Q
noncomputable def yj (e bC:Expr) (acc:Value) (env:Env):Sem Unit:=eval bC env >>= λx=>standAt bC.pos >>= λ_=>foldedSetIterable bC env x >>= λx=>holding [x] (pyIter x) >>= λi=>runOwn (.compStart e 1 i acc env) env >>= λ_=>pure ()
theorem Ss {bC:Expr}{acc:Value}{env:Env}{c:Code}:Qd e bC acc env c=(yj e bC acc env >>= λ_=>again c):=by
 unfold Qd yj;simp only[bind_assoc,pure_bind]
theorem T4 {D:Addr}{it bZ bC:Expr}{eT:List Expr}{scope:Scope}{wi:TI}{g:TG}{tf:TT}{k:TK}(hx:X.xe=λ_ _=>False) (hc:X.calm=true)
 (hi:PI X bZ bC wi) (hg:PG X bZ g) (hf:PF X eT tf) (hk:yi X D (we elt (.ref D) X.env) k) (hs:∀ x,foldedSetIterable bC X.env x=pure x) :
 yi X D (yj (.SetComp elt [⟨tg,it,ifs,0⟩,⟨bZ,bC,eT,0⟩] scope pos) bC (.ref D) X.env) (dz wi g tf k):=by
 intro pins s σ H ns Q E S h;obtain⟨o,I0,back⟩:=S.hold;unfold yj;have nZ:=hi _ s σ H _ I0 h;rw[hx]at nZ;refine ae (cA (ao nZ λx s1 h1=>ae (qM (ae (tR (hs x) (ae (cn (cA (ao h1 λvJ s2 h2=>?_)))))))));obtain⟨i2,fp,tn,J,H2,rfl,I2,T,nq,f2,q⟩:=h2;have S2:=back I2;have nd:D∉fp:=λz=>(f2 D z).2.2.2.2.2 (D,o) (bG _ (bG _ (a7.mpr rfl))) rfl;have acT:∀ b∈fp,c7 X pins H2 b:=λb hb=>by
  obtain⟨f0,f1,f3,f4,f5,f6⟩:=f2 b hb;exact⟨f0,f1,f3,f4,f5,λp hp=>f6 p (by rw[<-eK];exact cH _ hp)⟩
 refine ae (wpAny_runOwn ?_);have loop:codeAny (model X.prog X.w) X.A (.compLoop (.SetComp elt [⟨tg,it,ifs,0⟩,⟨bZ,bC,eT,0⟩] scope pos) 1 (.ref i2) (.ref D) X.env) (λr s'=>match r with|.ok f=>wpAny (model X.prog X.w) X.A (pure ()) (λ_ s'=>∃ σ' H' aW,dY X pins σ' H' s' D aW /\ Q σ' H' aW) E s'|.error e=>cameBackBy (model X.prog X.w) X.A X.env E e s') s2 :=
  Gc hx hc Ow rfl T hg hf hk S2 nq acT nd q λs' σ' H' aW S' q'=>ag ⟨σ',H',aW,S',q'⟩
 exact mN (g:=⟨bZ,bC,eT,0⟩) rfl rfl loop (T.self _ 0 _ _ _ nq loop)
theorem Jv {scope:Scope}{env:Env}:eval (.SetComp elt gens scope pos) env=comprehension (.SetComp elt gens scope pos) scope env (firstIterPos gens pos) (newSet (.type "set")) (firstAsync gens) (firstIter gens env):=rfl
theorem DW (h:Q (.ref s.heap.objs.size) { s with heap:=s.heap.push (HT.bY w) }):wpAny (model P w) A (newSet (.type "set")) Q E s:=by
 unfold newSet setsByText;refine ae (ae (p9 (ag ?_)));exact cS h (by size_fits)
section
variable {src : List (Option Nat)} {rest : List Comprehension} {scope : Scope} {bf p : Pos} {wi : TI} {g : TG} {tf : TT} {k : TK} {body : Value -> Env -> Sem Unit}
def YZ (src:List (Option Nat)) (wi:TI) (g:TG) (tf:TT) (k:TK):TE:=λσ H Q=>wi σ H λJ H1=>Eo J g tf k (rh src σ) H1 [] λ_ H2 ns=>ns.length<64 /\ ∀ l,H2 l=none->Q (.ref l) (upd H2 l (.lst ((DL.sortI ns).map V.int)))
theorem CT (hc:X.calm=true) (yk:Gl X "sorted") (ym:X.mg "sorted"=none) (S:kJ X N src scope) (hi:PI X tg iter wi)
 (ht:∀ i acc env,∃ bk,compTurn (.SetComp elt (⟨tg,iter,ifs,0⟩::rest) scope bf) 0 i acc env=uP iter.pos tg i ifs env bk (.compLoop (.SetComp elt (⟨tg,iter,ifs,0⟩::rest) scope bf) 0 i acc env) /\ bk=(body acc env >>= λ_=>again (.compLoop (.SetComp elt (⟨tg,iter,ifs,0⟩::rest) scope bf) 0 i acc env)))
 (hg:∀ cl s H C fp,PG (X.comp N scope cl s H C fp) tg g) (hf:∀ cl s H C fp,PF (X.comp N scope cl s H C fp) ifs tf) (hk:∀ cl s H C fp D,yi (X.comp N scope cl s H C fp) D (body (.ref D) (X.comp N scope cl s H C fp).env) k)
 (hs:∀ x,foldedSetIterable iter X.env x=pure x):PE X (.Call (.Name "sorted" p) [.SetComp elt (⟨tg,iter,ifs,0⟩::rest) scope bf] [] pos) (YZ src wi g tf k):=by
 intro pins s σ H Q I h;have st:=DL.fm (e:=.SetComp elt (⟨tg,iter,ifs,0⟩::rest) scope bf) rfl [] X.env;refine k8 (gM I yk ym (by decide +kernel:bootBuiltins "sorted"=some (.builtin "sorted")) ?_ (by decide) (by decide));refine callWith_builtin1 ?_ st (DL.gN (es:=[]) rfl);rw[st];show wpAny _ _ (spliced ((false,eval (.SetComp elt (⟨tg,iter,ifs,0⟩::rest) scope bf) X.env)::backTo pos (starEach [] X.env))) _ _ s;refine sh ?_
 have last:∀ {D:Addr}{H':Hp}{s':Shared}{ns:List Int},Inv X pins σ H' s'->HT.hZ X.prog X.w (HT.bE X.w) s'.heap D ns->ns.length<64->(∀ l,H' l=none->Q (.ref l) (upd H' l (.lst ((DL.sortI ns).map V.int)))) ->
  wpAny (model X.prog X.w) X.A (spliced (backTo pos (starEach [] X.env))) (λws s2=>wpAny (model X.prog X.w) X.A (call (.builtin "sorted") (.ref D::ws)) (EP X pins σ Q) X.xe s2) X.xe s':=λ{D H' s' ns} I' S' cB q=>by
  refine t6 (HT.Az (I'.ok.hd hc) S' cB λL out ks c h2 d Em a1 a2 a3 k2 le gL=>?_);have e:ks=DL.sortI ns:=DL.ji (a2.trans (DL.gf _).symm) a3 (DL.gq _);subst e;have ll:((DL.sortI ns).map V.int).length<=sizeLine:=by
   rw[aF,(DL.gf _).length_eq];exact bc (ke cB) (by decide)
  have I2:=I'.laid (h':=h2) (a:=L) (t':=Em) (o:=.lst ((DL.sortI ns).map V.int)) (λb u e=>k2 b u e) le ⟨ll,out.toList,c,DL.lH a1,gL⟩;exact⟨.ref L,_,⟨I2.ok,I2.os,I2.bare,I2.base,I2.loc,I2.cell,I2.free,I2.nP,I2.pin,I2.ar,I2.len⟩,rfl,q L (I'.ar.fresh le)⟩
 rw[Jv];refine Hr (use:=none) rfl hs (lX (S.cells I.ok)) S.kind S.names (ao (hi pins s σ H _ I h) λxv s1 h1=>ao h1 λvJ s2 h2=>?_);obtain⟨it,fp,tn,J,H2,rfl,I2,T,nq,f2,hW⟩:=h2;refine DW ?_;generalize hD:s2.heap.objs.size=D;have xj:H2 D=none:=I2.ar.fresh (rZ hD);have up:∀ b o,s2.heap.get? b=some o->(s2.heap.push (HT.bY X.w)).get? b=some o:=λb u e=>aC _ e;have I3:Inv X pins σ H2 { s2 with heap:=s2.heap.push (HT.bY X.w) }:=I2.kept (t':=s2.toks) up;have gD:(s2.heap.push (HT.bY X.w)).get? D=some (HT.bY X.w):=by subst hD;exact aR _ rfl
 have xk:=T.obj _ _ nq;have sM:∀ b∈fp,b<s2.heap.objs.size:=λb hb=>by obtain⟨o,e,_⟩:=xk b hb;exact aK e
 have nd:D∉fp:=λz=>dO _ (V0 (sM D z) hD);have fD:c7 X pins H2 D:=I2.vI (rZ hD) xj;have pJ:tn 0 (s2.heap.push (HT.bY X.w)):=T.keep _ _ _ nq λb _ o e=>up b o e;generalize xl:({ s2 with heap:=s2.heap.push (HT.bY X.w) }:Shared)=s3 at I3 ⊢;have sN:s3.heap=s2.heap.push (HT.bY X.w):=by rw[<-xl]
 rw[<-sN]at pJ gD;have f3:∀ b∈D::fp,c7 X pins H2 b /\ b<s3.heap.objs.size:=λb hb=>by
  rcases aP.mp hb with rfl|hb
  ·exact⟨fD,aK gD⟩
  ·exact⟨f2 b hb,by rw[sN,qc];exact ng (sM b hb)⟩
 refine lZ ?_;generalize sO:pushCells (s3.heap.push { cls:=.type "dict",data:=.dict #[] }) scope.names=h₁;have k1:∀ b o,s3.heap.get? b=some o->h₁.get? b=some o:=λb o e=>by rw[<-sO];exact wC _ _ b o (aC _ e)
 have IY:=Ak S I3 (fp:=D::fp) f3 (s':={ s3 with heap:=h₁ }) (by rw[sO]);have sP:tn 0 h₁:=T.keep _ _ _ pJ λb _ o e=>k1 b o e;generalize uj:cellsFrom (s3.heap.objs.size+1) scope.names (cW X.env.cells scope.names [])=cl at IY ⊢;generalize hC:s3.heap.objs.size=C at IY ⊢;have qr:∀ {H':Hp},(∀ b∈D::fp,H' b=none)->∀ b∈D::fp,c7 (X.comp N scope cl s3 H2 C (D::fp)) [] H' b:=λhn b hb=>by
  refine⟨hn b hb,(IY.ok.sk b hb).1,IY.ok.ub b hb,.inl hb,λx c e z=>(IY.ok.sk b hb).2 x c e z,λp hp=>absurd (show p∈([]:List (Addr×Obj)) from hp) (by simp)⟩
 have fin:∀ (σ':St) (H':Hp) (s':Shared),Inv (X.comp N scope cl s3 H2 C (D::fp)) [] σ' H' s'->∀ h',Heap.SameBut C s'.heap h'->Inv X pins σ H' { s' with heap:=h' }:=λσ' H' s' I' h' nT=>by
  have qt:H' C=none:=I'.free;have kp:∀ b o,b≠C->s'.heap.get? b=some o->h'.get? b=some o:=λb o hb e=>nT.extBut b o hb e;have xm:s3.heap.get? C=none:=by rw[<-hC];exact vf (ak _)
  have eY:∀ b o,s3.heap.get? b=some o->b≠C:=λb o e z=>by rw[z,xm]at e;cases e
  have U:=I'.base;refine I3.IU (s':={ s' with heap:=h' }) (ch:=D::fp) I'.os ⟨λb o e n hb hx=>kp b o (eY b o e) (U.keep b o e n hb hx),λb o e n hb hx=>?_,U.free,λb o e hx=>?_,U.pF,U.nO,U.pG⟩ ?_ I'.bare λb hb=>?_
  ·obtain⟨sl,e1⟩:=U.slot b o e n hb hx;exact⟨sl,kp b _ (eY b o e) e1⟩
  ·obtain⟨o',e1⟩:=U.there b o e hx;exact⟨o',kp b o' (eY b o e) e1⟩
  ·intro b ob e;refine(I'.ar b ob e).eX (λc w' cu q=>kp c w' (λz=>?_) q) (λ_ q=>q) λ_ _ q=>q;rcases cu with z1|z1
   ·rw[<-z1,z,qt]at e;cases e
   ·rw[z,qt]at z1;cases z1
  ·obtain⟨f,_⟩:=f3 b hb;exact⟨f.2.2.2.1,f.2.1,λx c e=>f.2.2.2.2.1 x c e,f.2.2.2.2.2⟩
 have Y0:∀ b∈D::fp,H2 b=none:=λb hb=>(f3 b hb).1.1;have S0:dY (X.comp N scope cl s3 H2 C (D::fp)) [] (rh src σ) H2 { s3 with heap:=h₁ } D []:=⟨IY,qr Y0 D (.head _),HT.F7 (k1 _ _ gD)⟩;obtain⟨bk,uM,acU⟩:=ht (.ref it) (.ref D) (X.comp N scope cl s3 H2 C (D::fp)).env
 have loop:codeAny (model X.prog X.w) X.A (.compLoop (.SetComp elt (⟨tg,iter,ifs,0⟩::rest) scope bf) 0 (.ref it) (.ref D) (compEnvC scope cl C X.env))
  (compPost (model X.prog X.w) X.A X.xe none (λv s'=>wpAny (model X.prog X.w) X.A (spliced (backTo pos (starEach [] X.env))) (λws s2=>wpAny (model X.prog X.w) X.A (call (.builtin "sorted") (v::ws)) (EP X pins σ Q) X.xe s2) X.xe s') (.ref D) C) { s3 with heap:=h₁ }:=by
  refine Gc (X:=X.comp N scope cl s3 H2 C (D::fp)) (body:=body (.ref D) (X.comp N scope cl s3 H2 C (D::fp)).env) rfl hc uM acU T (hg _ _ _ _ _) (hf _ _ _ _ _) (hk _ _ _ _ _ D) S0 sP (λb hb=>qr Y0 b (.tail _ hb)) nd hW λs' σ' H' aW S' q'=>?_;obtain⟨m6,xn,_⟩:=S'.inv.loc;refine⟨m6,xn,λh' nT=>last (fin σ' H' s' S'.inv h' nT) (S'.uR.at λo e=>nT.extBut D o (λz=>?_) e) q'.1 q'.2⟩;have:=aK gD;exact dO _ (V0 this (hC.trans z.symm))
 exact mN (g:=⟨tg,iter,ifs,0⟩) rfl rfl loop (T.self _ 0 _ _ _ sP loop)
end
end L2
namespace L2.DL
open PySem PySem.Spec PyProof.Rows
noncomputable def yn:List W->Option (List Nat)
 |[]=>some []
 |.b n::l=>(yn l).map λt=>n::t
 |_=>none
theorem dS.bs {F:Hp}{r:List Addr}:∀ {ws:List W}{vs:List V}{ns:List Nat},dS F r ws vs->yn ws=some ns->∃ as,vs=as.map V.ref /\ pM r ns as /\ ns.length=vs.length
 | [],_,_,h,e=>by
   cases e;cases (show _=[] from h);exact⟨[],rfl,rfl,rfl⟩
 | w::l,_,ns,h,e=>by
   obtain⟨v,t,rfl,h1,h2⟩:=h;cases w with
   | b n =>
     unfold yn at e;cases e2:yn l with
     |none=>rw[e2]at e;cases e
     | some ms =>
       rw[e2]at e;cases e;obtain⟨as,rfl,q,z⟩:=h2.bs e2;obtain⟨a,rfl,ha⟩:=h1;exact⟨a::as,rfl,⟨a,as,rfl,ha,q⟩,by simpa using z⟩
   |_=>cases e
theorem pM.get {r:List Addr}:∀ {l:List Nat}{as:List Addr}{j n:Nat},pM r l as->l[j]?=some n->∃ a,as[j]?=some a /\ r[n]?=some a
 |[],_,_,_,_,e=>by simp at e
 | m::l,_,0,n,h,e=>by
   obtain⟨a,t,rfl,h1,h2⟩:=h;simp at e;subst e;exact⟨a,rfl,h1⟩
 | m::l,_,j+1,n,h,e=>by
   obtain⟨a,t,rfl,h1,h2⟩:=h;obtain⟨b,e1,e2⟩:=h2.get (j:=j) (by simpa using e);exact⟨b,by simpa using e1,e2⟩
theorem pM.length {r:List Addr}:∀ {l:List Nat}{as:List Addr},pM r l as->l.length=as.length
 |[],_,h=>by cases (show _=[] from h);rfl
 | m::l,_,h=>by
   obtain⟨a,t,rfl,h1,h2⟩:=h;simp[h2.length]
section
variable {a : Expr} {es : List Expr} {p p1 : Pos}
noncomputable def Ep (k:DE (List W)):DE W:=λenv bx=>fq (k env bx) λws bx1=>match yn ws with|some ns=>if ns.length<=sizeLine then .val (.t ns) bx1 else .bad|none=>.bad
theorem Ox {x1}{k:DE (List W)}(h:cc X T Z es k):PD X T Z (.Tuple es x1 pos) (Ep k):=by
 refine PE.imp (Dw h) λσ H Q ⟨F,r,env,bx,R,h⟩=>?_;refine⟨F,r,env,bx,R,End.bind h λws bx1 F1 r1 vs H1 g1 R1 d1 h1=>?_⟩;split at h1
 ·rename_i ns e;split at h1
  ·rename_i hl;obtain⟨as,rfl,q,z⟩:=d1.bs e;refine⟨by rw[<-z];exact hl,λc hc=>?_⟩;exact h1 _ r1 _ _ (R1.rC hc) (R1.vQ hc) ⟨c,as,rfl,fI,q⟩
  ·exact h1.elim
 ·exact h1.elim
noncomputable def dI (m:DE W) (j:Nat):DE W:=λenv bx=>fq (m env bx) λw bx1=>match w with
 |.t l=>(match l[j]? with|some n=>.val (.b n) bx1|none=>.bad)
 |_=>.bad
theorem Su (ha:PD X T Z a ma) {q:Pos}:PD X T Z (.Subscript a (.Constant (.int j) k q) pos) (dI ma j):=by
 refine PE.imp (Lh Li ha (Dq (i:=(j:Int))) (λ_ _=>rfl)) λσ H Q ⟨F,r,env,bx,R,h⟩=>?_;refine⟨F,r,env,bx,R,End.bind h λw bx1 F1 r1 v H1 g1 R1 d1 h1=>?_⟩;split at h1
 ·rename_i l;split at h1
  ·rename_i n e;obtain⟨c,as,rfl,k1,k2⟩:=d1;obtain⟨b,e1,e2⟩:=k2.get e;have z:(as.map V.ref)[j]?=some (.ref b):=by simp[e1]
   have hl:=(List.getElem?_eq_some_iff.mp z).1;refine .inr (.inl ⟨c,_,(j:Int),.ref b,rfl,rfl,.of (R1.fh _ _ k1),?_,h1 F1 r1 _ H1 (.refl F1 r1) R1 ⟨b,rfl,e2⟩⟩);unfold aY cz;rw[if_pos (Int.natCast_nonneg j),if_pos (Int.ofNat_lt.mpr hl)];simpa using z
  ·exact h1.elim
 ·exact h1.elim
noncomputable def Er (n:String) (m:DE W):DE W:=λenv bx=>fq (m env bx) λw bx1=>match w with|.t _=>.val (.d (.bl (rJ "tuple" n))) bx1|_=>.bad
theorem Md {n:String}(hT:kQ X.K n) (hg:Gl X "isinstance") (hm:X.mg "isinstance"=none) (cM:Gl X x) (dg:X.mg x=none) (hv:bootBuiltins x=some (.type n)) (ha:PD X T Z a ma)
 (hn:x ≠ "__name__":=by decide) (cx:(x==("__debug__":Str))=false:=by decide)
 (xA:starEach [a,.Name x p1] X.env=(false,eval a X.env)::starEach [.Name x p1] X.env:=by rfl) (KL:starEach [.Name x p1] X.env=(false,eval (.Name x p1) X.env)::starEach [] X.env:=by rfl)
 (ed:(backTo pos (starEach [.Name x p1] X.env)).any (·.1)=false:=by rfl):PD X T Z (.Call (.Name "isinstance" p) [a,.Name x p1] [] pos) (Er n ma):=by
 refine PE.imp (jz Bf hg hm (by decide +kernel) (g9 ha (g9 (Fz cM dg hv (v:=.ty n) rfl hn cx) jG KL) xA) (by decide) (by decide) xA ed) λσ H Q ⟨F,r,env,bx,R,h⟩=>?_;refine⟨F,r,env,bx,R,End.bind h λw bx1 F1 r1 v H1 g1 R1 d1 h1=>?_⟩;split at h1
 ·obtain⟨c,as,rfl,k1,k2⟩:=d1;exact⟨_,.ty n,_,.type n,_,rfl,.of (.tup (R1.fh _ _ k1)),rfl,hT (.tup []),h1 F1 r1 _ H1 (.refl F1 r1) R1 rfl⟩
 ·exact h1.elim
noncomputable def Es (m:DE W):DE W:=λenv bx=>fq (m env bx) λw bx1=>match w with|.t l=>.val (.d (.int l.length)) bx1|_=>.bad
theorem Oy (hg:Gl X "len") (hm:X.mg "len"=none) (ha:PD X T Z a ma) (he:starEach [a] X.env=(false,eval a X.env)::starEach [] X.env:=by rfl):PD X T Z (.Call (.Name "len" p) [a] [] pos) (Es ma):=by
 refine PE.imp (jz jH hg hm yG (g9 ha jG he) (by decide) (by decide) he (by rfl)) λσ H Q ⟨F,r,env,bx,R,h⟩=>?_;refine⟨F,r,env,bx,R,End.bind h λw bx1 F1 r1 v H1 g1 R1 d1 h1=>?_⟩;split at h1
 ·rename_i l;obtain⟨c,as,rfl,k1,k2⟩:=d1;refine⟨c,_,rfl,.inr (.of (R1.fh _ _ k1)),?_⟩;rw[aF,<-k2.length];exact h1 F1 r1 _ H1 (.refl F1 r1) R1 rfl
 ·exact h1.elim
end
noncomputable def pY (k:Nat) (g:DG) (tf:DE Bool) (te:DE W):Nat->Nat->aJ->List Bx->List D->O (List D)
 |0,_,_,_,_=>.bad
 | f+1,i,env,bx,acc=>match bx[k]? with
   | some (.lst l)=>(match l[i]? with
     |none=>.val acc bx
     | some x=>match g (.d x) env bx with
       |none=>.bad
       | some (env1,bx1)=>bindB (tf env1 bx1) λb bx2=>match b with
         |false=>pY k g tf te f (i+1) env1 bx2 acc
         | true=>bindB (te env1 bx2) λy aO=>match y with
           |.d d=>if acc.length<sizeLine then pY k g tf te f (i+1) env1 aO (acc++[d]) else .bad
           |_=>.bad)
   |_=>.bad
noncomputable def Et (bx:List Bx) (k:Nat):Nat:=match bx[k]? with|some (.lst l)=>l.length|_=>0
noncomputable def kX (bo:Bool) (src:List (Option Nat)) (m:DE W) (g:DG) (tf:DE Bool) (te:DE W):DE W:=λenv bx =>
 fq (m env bx) λw bx1=>match w with
  |.b k=>fq (pY k g tf te (Et bx1 k+1) 0 (cg src env) bx1 []) λl bx2=>bN bo (some (.lst l)) bx2
  |_=>.bad
section
variable {src : List (Option Nat)} {scope : Scope} {g : DG} 
theorem Oz {Q:VK}(h:tD T Z (kX bo src m g tf te) σ H Q):zQ src (XD K (tD T Z m)) (xr g) (xt ⟨E0,Z.cl⟩ tf) (xu ⟨E0,Z.cl⟩ te) σ H Q:=by
 obtain⟨F,r,env,bx,R,h⟩:=h;refine⟨F,r,env,bx,R,End.bind h λw bx1 F1 r1 v H1 g1 R1 d1 h1=>?_⟩;split at h1
 case h_2=>exact h1.elim
 rename_i k;obtain⟨a,rfl,ha⟩:=d1;have at_:∀ {F':Hp}{r':List Addr}{σ':St}{H':Hp}{ay:aJ}{bx':List Bx}{T':Fr}{l:List D},aL F1 r1 F' r'->Rel T' F' r' σ' H' ay bx'->bx'[k]?=some (.lst l)->∃ vs,H' a=some (.lst vs) /\ av F' l vs:=λ{F' r' σ' H' ay bx' T' l} g' R' e=>by
  obtain⟨t,et⟩:=g'.p;have Qg:r'[k]?=some a:=by rw[<-et,dt (List.getElem?_eq_some_iff.mp ha).1];exact ha
  obtain⟨_,vs,k1,k2⟩:=R'.box k _ a e Qg;exact⟨vs,k1,k2⟩
 have q0:∃ xs,bu K H1 a xs:=by
  unfold pY at h1;split at h1
  ·rename_i l e;obtain⟨vs,k1,_⟩:=at_ (.refl F1 r1) R1 e;exact⟨vs,.of k1⟩
  ·exact h1.elim
 refine⟨a,rfl,q0,λDa hD=>?_⟩;have hT:T.H₀ Da=none:=by
  cases q:T.H₀ Da with
  |none=>rfl
  |some u=>rw[R1.keep Da u q (R1.uo hD)]at hD;cases hD
 have o0:Own F1 r1 (upd H1 Da (.lst [])) Da []:=⟨fI,R1.uk hD,R1.uo hD⟩;refine⟨λi n σ' H'=>∃ F' r' ay bx' acc vs,aL F1 r1 F' r' /\ Rel T F' r' σ' H' ay bx' /\ Own F' r' H' Da vs /\ av F' acc vs /\
  End T Z bJ F' r' σ env Q (fq (pY k g tf te n i ay bx' acc) λl bx2=>bN bo (some (.lst l)) bx2),
  ⟨_,F1,r1,_,bx1,[],[],.refl F1 r1,(R1.Yn hD).src src,o0,.nil,h1⟩,?_⟩
 rintro i n σ' H' ⟨F',r',ay,bx',acc,vs,g',R',o',da,h'⟩;cases n with
 |zero=>exact h'.elim
 |succ n =>
 unfold pY at h';split at h'
 case h_2=>exact h'.elim
 rename_i l el;obtain⟨ws,k1,k2⟩:=at_ g' R' el;split at h'
 ·rename_i ei;refine .inl ⟨⟨ws,.of k1,by rw[<-k2.length];exact List.getElem?_eq_none_iff.mp ei⟩,?_⟩;have RO:Rel T F' r' σ H' env bx':=R1.slots g' R';have hd:End T Z bJ F' r' σ env Q (.val (.d (.lst acc)) bx')->Q (.ref Da) H':=λh'=>by
   obtain⟨RA,gA⟩:=RO.Yp o' hT;exact h' _ r' _ H' gA RA ⟨Da,vs,rfl,fI,av.mono gA.s acc da⟩
  cases bo with
  |false=>exact hd h'
  | true =>
    obtain⟨RB,gB,hx⟩:=RO.Yq o' hT da;exact h' F' _ _ H' gB RB ⟨Da,rfl,hx⟩
 ·rename_i x ei;obtain⟨u,e2,du⟩:=k2.get ei;refine .inr ⟨⟨ws,u,.of k1,e2⟩,λσ2 H2=>∃ F2 r2 env2 bx2 rG qw,aL F1 r1 F2 r2 /\ Rel T F2 r2 σ2 H2 env2 bx2 /\ Own F2 r2 H2 Da qw /\ av F2 rG qw /\
   End T Z bJ F2 r2 σ env Q (fq (pY k g tf te n (i+1) env2 bx2 rG) λl bx2=>bN bo (some (.lst l)) bx2),
   λσ2 H2 ⟨F2,r2,env2,bx2,rG,qw,g2,R2,o2,d2,h2⟩=>⟨n,eJ _,F2,r2,env2,bx2,rG,qw,g2,R2,o2,d2,h2⟩,λy H2 hy=>?_⟩
  obtain⟨rfl,hy⟩:=hy;have e4:ws[i]?=some y:=hy ws (.of k1);rw[e2]at e4;cases e4;refine⟨⟨H2,r'.length,F'⟩,F',r',ay,bx',.d x,R'.again,du,?_⟩;cases eg:g (.d x) ay bx' with
  |none=>simp only[eg]at h';exact h'.elim
  | some o =>
    obtain⟨cX,aO⟩:=o;simp only[eg]at h';intro F3 r3 σ3 H3 g3 R3;have xw:=R'.inner g3 R3;have o3:=o'.inner g3 R3;refine⟨⟨H3,r3.length,F3⟩,F3,r3,cX,aO,xw.again,?_⟩;cases ef:tf cX aO with
    |bad=>simp only[ef,bindB]at h';exact h'.elim
    |exc c bw=>simp only[ef,bindB]at h';exact h'.elim
    | val b bw =>
      simp only[ef,bindB]at h';intro F4 r4 b' H4 g4 R4 eb;subst eb;have uv:=xw.inner g4 R4;have o4:=o3.inner g4 R4;have sV:aL F' r' F4 r4:=g3.trans g4;have xx:aL F1 r1 F4 r4:=g'.trans sV;cases b with
      | false =>
        rw[if_neg (by decide)];exact⟨F4,r4,cX,bw,acc,vs,xx,uv,o4,av.mono sV.s acc da,End.weak sV h'⟩
      | true =>
        rw[if_pos rfl];refine⟨⟨H4,r4.length,F4⟩,F4,r4,cX,bw,uv.again,?_⟩;cases ee:te cX bw with
        |bad=>simp only[ee]at h';exact h'.elim
        |exc c uw=>simp only[ee]at h';exact h'.elim
        | val y uw =>
          simp only[ee]at h';intro F5 r5 v H5 g5 R5 d5;have KI:=uv.inner g5 R5;have o5:=o4.inner g5 R5;have xy:=sV.trans g5;cases y with
          | d d =>
            simp only at h';split at h'
            ·rename_i hz;have KJ:=av.mono xy.s acc da;refine⟨vs,o5.h,by rw[<-da.length];exact hz,F5,r5,cX,uw,acc++[d],vs++[v],xx.trans g5,KI.Yo o5 hT,⟨fI,o5.f,o5.b⟩,KJ.append (.cons d5 .nil),End.weak xy h'⟩
            ·exact h'.elim
          |_=>exact h'.elim
theorem Me (bo:Bool) (hc:X.calm=true) (S:kJ X N src scope) (hi:PD X T Z iter m)
 (hg:∀ T cl s H C fp,ez (X.comp N scope cl s H C fp) T tg g) (hf:∀ T cl s H C fp,PF (X.comp N scope cl s H C fp) ifs (eQ T ⟨E0,Z.cl⟩ tf)) (he:∀ T cl s H C fp,PD (X.comp N scope cl s H C fp) T ⟨E0,Z.cl⟩ elt te)
 (hs:∀ x,foldedSetIterable iter X.env x=pure x:=by intro _;rfl):PD X T Z (.ListComp elt [⟨tg,iter,ifs,0⟩] scope pos) (kX bo src m g tf te):=
 PE.imp (FJ (src:=src) (g:=xr g) (tf:=xt ⟨E0,Z.cl⟩ tf) (te:=xu ⟨E0,Z.cl⟩ te) hc S (NA hi) (λcl s H C fp pins s' σ' H' v u Q I rv ⟨T,q⟩=>hg T cl s H C fp pins s' σ' H' v u Q I rv q)
  (λcl s H C fp pins s' σ' H' Q I ⟨T,q⟩=>hf T cl s H C fp pins s' σ' H' Q I q) (λcl s H C fp pins s' σ' H' Q I ⟨T,q⟩=>he T cl s H C fp pins s' σ' H' Q I q) hs) λσ H Q h=>Oz h
end
end L2.DL
namespace L2.DL
open PySem PySem.Spec PyProof.Rows PySem.W
noncomputable abbrev DK:=aJ->List Bx->List Int->Option (aJ×List Bx×List Int)
noncomputable def eU (te:DE W):DK:=λenv bx ns=>match te env bx with
 |.val (.d (.int i)) bx1=>if ns.length+1<4000 then some (env,bx1,cq ns i) else none
 |_=>none
noncomputable def eV (g:DG) (tf:DE Bool) (k:DK):List W->DK
 |[]=>λenv bx ns=>some (env,bx,ns)
 | w::l=>λenv bx ns=>match g w env bx with
   |none=>none
   | some (env1,bx1)=>match tf env1 bx1 with
     |.val b bx2=>if b then (match k env1 bx2 ns with|some (env2,aO,n2)=>eV g tf k l env2 aO n2|none=>none) else eV g tf k l env1 bx2 ns
     |_=>none
noncomputable def uS (mi:DE (List W)) (g:DG) (tf:DE Bool) (k:DK):DK:=λenv bx ns=>match mi env bx with
 |.val ds bx1=>eV g tf k ds env bx1 ns
 |_=>none
noncomputable def pZ (bo:Bool) (src:List (Option Nat)) (mi:DE (List W)) (g:DG) (tf:DE Bool) (k:DK):DE W:=λenv bx =>
 fq (mi env bx) λds bx1=>match eV g tf k ds (cg src env) bx1 [] with
  |some (_,bx2,ns)=>if ns.length<64 then bN bo (some (.lst ((sortI ns).map D.int))) bx2 else .bad
  |none=>.bad
noncomputable def qH (T:Fr) (F:Hp) (r:List Addr) (Q:St->Hp->List Int->Prop):Option (aJ×List Bx×List Int)->Prop
 |none=>False
 |some (ay,bx',aW)=>∀ F' r' σ' H',aL F r F' r'->Rel T F' r' σ' H' ay bx'->Q σ' H' aW
noncomputable def wg (T:Fr) (k:DK):TK:=λσ H ns Q=>∃ F r env bx,Rel T F r σ H env bx /\ qH T F r Q (k env bx ns)
section
variable {g : DG} {k : DK}
theorem qH.weak {F':Hp}{r':List Addr}{Q:St->Hp->List Int->Prop}(gr:aL F r F' r'):∀ {o:Option (aJ×List Bx×List Int)},qH T F r Q o->qH T F' r' Q o
 |none,h=>h
 |some (_,_,_),h=>λF2 r2 σ2 H2 g2=>h F2 r2 σ2 H2 (gr.trans g2)
theorem Mf {Q:St->Hp->List Int->Prop}(h:wg T (eU te) σ H ns Q):YW (tD T Z te) σ H ns Q:=by
 obtain⟨F,r,env,bx,R,h⟩:=h;refine⟨F,r,env,bx,R,?_⟩;unfold eU at h;split at h
 ·rename_i i bx1 e;rw[e];split at h
  ·rename_i hl;exact λF1 r1 v H1 g1 R1 d1=>⟨i,d1,hl,h F1 r1 σ H1 g1 R1⟩
  ·exact h.elim
 ·exact h.elim
theorem Mg {Q:St->Hp->List Int->Prop}{ds:List W}{J:It}(R:Rel T F r σ H env bx) (y:vR F r ds J) (h:qH T F r Q (eV g tf k ds env bx ns)):Eo J (tG T g) (eQ T Z tf) (wg T k) σ H ns Q:=by
 refine⟨λi n σ' H' aW=>∃ pre l F' r' ay bx',ds=pre++l /\ pre.length=i /\ n=l.length /\ aL F r F' r' /\ Rel T F' r' σ' H' ay bx' /\ qH T F' r' Q (eV g tf k l ay bx' aW),⟨ds.length,[],ds,F,r,env,bx,rfl,rfl,rfl,.refl F r,R,h⟩,?_⟩;rintro i n σ' H' aW ⟨pre,l,F',r',ay,bx',eP,hi,hn,g',R',h'⟩;obtain⟨ys,yg⟩:=y T i F' r' σ' H' ay bx' g' R';cases l with
 |nil=>exact .inl ⟨ys (by rw[eP,qO];omega),h' F' r' σ' H' (.refl F' r') R'⟩
 | cons w l =>
   obtain⟨go,yl⟩:=yg w (by rw[eP,cU (by omega),hi,nH];rfl);refine .inr ⟨go,λσ2 H2 n2=>∃ F2 r2 env2 bx2,aL F r F2 r2 /\ Rel T F2 r2 σ2 H2 env2 bx2 /\ qH T F2 r2 Q (eV g tf k l env2 bx2 n2),λσ2 H2 n2 ⟨F2,r2,env2,bx2,g2,R2,h2⟩=>⟨l.length,by rw[hn];exact eJ _,pre++[w],l,F2,r2,env2,bx2,by rw[eP,eK];rfl,by rw[cb,hi];rfl,rfl,g2,R2,h2⟩,λx H2 hy=>?_⟩;obtain⟨F2,g2,R2,d2⟩:=yl x H2 hy;refine⟨F2,r',ay,bx',w,R2,d2,?_⟩;unfold eV at h';cases eg:g w ay bx' with
   |none=>simp only[eg]at h';exact h'.elim
   | some o =>
     obtain⟨cX,aO⟩:=o;simp only[eg]at h';intro F3 r3 σ3 H3 g3 R3;refine⟨F3,r3,cX,aO,R3,?_⟩;cases ef:tf cX aO with
     |bad=>simp only[ef]at h';exact h'.elim
     |exc c bw=>simp only[ef]at h';exact h'.elim
     | val b bw =>
       simp only[ef]at h';intro F4 r4 b' H4 g4 R4 eb;subst eb;have gg:=((g'.trans g2).trans g3).trans g4;cases b with
       | false =>
         rw[if_neg (by decide)]at h' ⊢;exact⟨F4,r4,cX,bw,gg,R4,qH.weak ((g2.trans g3).trans g4) h'⟩
       | true =>
         rw[if_pos rfl]at h' ⊢;refine⟨F4,r4,cX,bw,R4,?_⟩;cases ek:k cX bw aW with
         |none=>simp only[ek]at h';exact h'.elim
         | some o =>
           obtain⟨acV,uw,n5⟩:=o;simp only[ek]at h';exact λF5 r5 σ5 H5 g5 R5=>⟨F5,r5,acV,uw,gg.trans g5,R5,qH.weak (((g2.trans g3).trans g4).trans g5) h'⟩
theorem US {Q:St->Hp->List Int->Prop}(h:wg T (uS mi g tf k) σ H ns Q):dz (tI T Z mi) (tG T g) (eQ T Z tf) (wg T k) σ H ns Q:=by
 obtain⟨F,r,env,bx,R,h⟩:=h;refine⟨F,r,env,bx,R,?_⟩;unfold uS at h;split at h
 ·rename_i ds bx1 e;rw[e];exact λF1 r1 J H1 g1 R1 y1=>Mg R1 y1 (qH.weak g1 h)
 ·exact h.elim
theorem Gd {src:List (Option Nat)}{Q:VK}(h:tD T Z (pZ bo src mi g tf k) σ H Q):YZ src (tI T Z mi) (tG T g) (eQ T ⟨E0,Z.cl⟩ tf) (wg T k) σ H Q:=by
 obtain⟨F,r,env,bx,R,h⟩:=h;refine⟨F,r,env,bx,R,End.bind h λds bx1 F1 r1 J H1 g1 R1 y1 h1=>Mg (R1.src src) y1 ?_⟩;split at h1
 ·rename_i e2 bx2 afk e;rw[e];split at h1
  ·rename_i hl;exact λF2 r2 σ2 H2 g2 R2=>⟨hl,λl hp=>iA (R1.slots g2 R2) (End.weak g2 h1) ⟨l,_,rfl,hp,rfl,j8 _⟩⟩
  ·exact h1.elim
 ·exact h1.elim
end
section
variable {src : List (Option Nat)} {bZ bC : Expr} {eT : List Expr} {scope : Scope} {bf p : Pos} {Y1 : DE (List W)} {g g2 : DG} {Y2 : DE Bool} 
theorem Jw (bo:Bool) (hc:X.calm=true) (yk:Gl X "sorted") (ym:X.mg "sorted"=none) (S:kJ X N src scope) (hi:nW X T Z tg iter mi)
 (hg:∀ cl s H C fp,ez (X.comp N scope cl s H C fp) T tg g) (hf:∀ cl s H C fp,PF (X.comp N scope cl s H C fp) ifs (eQ T ⟨E0,Z.cl⟩ tf)) (he:∀ cl s H C fp,PD (X.comp N scope cl s H C fp) T ⟨E0,Z.cl⟩ elt te)
 (hs:∀ x,foldedSetIterable iter X.env x=pure x):PD X T Z (.Call (.Name "sorted" p) [.SetComp elt [⟨tg,iter,ifs,0⟩] scope bf] [] pos) (pZ bo src mi g tf (eU te)):=
 PE.imp (CT (body:=λacc env=>we elt acc env) hc yk ym S hi (λi acc env=>⟨_,Mb,rfl⟩) hg hf (λcl s H C fp D pins s' σ' H' ns Q E S h=>Gb rfl (he cl s H C fp) pins s' σ' H' ns Q E S (Mf h)) hs) λσ H Q h=>Gd h
theorem Jx (bo:Bool) (hc:X.calm=true) (yk:Gl X "sorted") (ym:X.mg "sorted"=none) (S:kJ X N src scope) (hi:nW X T Z tg iter mi)
 (hg:∀ cl s H C fp,ez (X.comp N scope cl s H C fp) T tg g) (hf:∀ cl s H C fp,PF (X.comp N scope cl s H C fp) ifs (eQ T ⟨E0,Z.cl⟩ tf)) (acW:∀ cl s H C fp,nW (X.comp N scope cl s H C fp) T ⟨E0,Z.cl⟩ bZ bC Y1)
 (cM:∀ cl s H C fp,ez (X.comp N scope cl s H C fp) T bZ g2) (acX:∀ cl s H C fp,PF (X.comp N scope cl s H C fp) eT (eQ T ⟨E0,Z.cl⟩ Y2)) (he:∀ cl s H C fp,PD (X.comp N scope cl s H C fp) T ⟨E0,Z.cl⟩ elt te)
 (hs:∀ x,foldedSetIterable iter X.env x=pure x) (dZ:∀ env x,foldedSetIterable bC env x=pure x):PD X T Z (.Call (.Name "sorted" p) [.SetComp elt [⟨tg,iter,ifs,0⟩,⟨bZ,bC,eT,0⟩] scope bf] [] pos) (pZ bo src mi g tf (uS Y1 g2 Y2 (eU te))):=
 PE.imp (CT (body:=λacc env=>yj (.SetComp elt [⟨tg,iter,ifs,0⟩,⟨bZ,bC,eT,0⟩] scope bf) bC acc env) hc yk ym S hi (λi acc env=>⟨_,Mc,Ss⟩) hg hf
  (λcl s H C fp D pins s' σ' H' ns Q E S h=>T4 (X:=X.comp N scope cl s H C fp) (k:=wg T (eU te)) rfl hc (acW cl s H C fp) (cM cl s H C fp) (acX cl s H C fp) (λpins z σ2 K ns Q E S h=>Gb rfl (he cl s H C fp) pins z σ2 K ns Q E S (Mf h)) (dZ _) pins s' σ' H' ns Q E S (US h)) hs) λσ H Q h=>Gd h
end
noncomputable def uT:List D->Option (List Key)
 |[]=>some []
 |d::l=>(K8 d).bind λk=>(uT l).map λt=>k::t
theorem Ge {F:Hp}:∀ {l:List D}{ks:List Key}{vs:List V},uT l=some ks->av F l vs->vs=ks.map kV
 |[],_,_,e,h=>by cases e;exact h
 | d::l,ks,_,e,h=>by
   obtain⟨v,t,rfl,h1,h2⟩:=h;unfold uT at e;cases e1:K8 d with
   |none=>rw[e1]at e;cases e
   | some k =>
     cases e2:uT l with
     |none=>rw[e1,e2]at e;cases e
     | some t' =>
       rw[e1,e2]at e;cases e;rw[Oj e1 h1,Ge e2 h2];rfl
noncomputable def h8 (l:List (List Key×D)) (k:List Key):Option D:=(l.find? λx=>decide (x.1=k)).map (·.2)
theorem hG.length {F:Hp}:∀ {l:List (List Key×D)}{r:List (List Key×V)},hG F l r->l.length=r.length
 |[],_,h=>by cases (show _=[] from h);rfl
 | (k,d)::l,_,h=>by
   obtain⟨v,t,rfl,_,h2⟩:=h;simp[h2.length]
theorem hG.vals {F:Hp}:∀ {l:List (List Key×D)}{r:List (List Key×V)},hG F l r->av F (l.map (·.2)) (r.map (·.2))
 |[],_,h=>by cases (show _=[] from h);rfl
 | (k,d)::l,_,h=>by
   obtain⟨v,t,rfl,h1,h2⟩:=h;exact⟨v,_,rfl,h1,h2.vals⟩
theorem hG.get {F:Hp}{k:List Key}:∀ {l:List (List Key×D)}{r:List (List Key×V)},hG F l r->(∀ d,h8 l k=some d->∃ v,kB r k=some v /\ Den F d v) /\ (h8 l k=none->kB r k=none)
 |[],_,h=>by cases (show _=[] from h);exact⟨λd e=>by simp[h8]at e,λ_=>rfl⟩
 | (k',d)::l,_,h=>by
   obtain⟨v,t,rfl,h1,h2⟩:=h;by_cases e:k'=k
   ·have g:h8 ((k',d)::l) k=some d:=by simp[h8,e]
    rw[g,Ao e];exact⟨λd' z=>by cases z;exact⟨v,rfl,h1⟩,λz=>by cases z⟩
   ·have g:h8 ((k',d)::l) k=h8 l k:=by simp[h8,e]
    rw[g,Ap e];exact h2.get
theorem hG.put {k:List Key}(hd:Den F d v) {l:List (List Key×D)}{r:List (List Key×V)}(h:hG F l r) (hn:kB r k=none):hG F (l++[(k,d)]) (putK r k v):=by
 have e:putK r k v=r++[(k,v)]:=by
  unfold putK;rw[if_neg (by rw[Aq,hn];decide)]
 rw[e];clear hn e;induction l generalizing r with
 |nil=>cases (show _=[] from h);exact⟨v,[],rfl,hd,rfl⟩
 | cons a l ih =>
   obtain⟨k',d'⟩:=a;obtain⟨v',t,rfl,h1,h2⟩:=h;exact⟨v',_,rfl,h1,ih h2⟩
section
variable {o f : Expr} {p bf : Pos} {mb mc : DE W}
noncomputable def Eu:DE W:=λ_ bx=>.val (.b bx.length) (bx++[.dT []])
theorem OA:PD X T Z (.Dict [] [] pos) Eu:=by
 refine PE.imp LI λσ H Q ⟨F,r,env,bx,R,h⟩=>λq hq=>?_;refine h F (r++[q]) _ _ ⟨Sub.refl F,wL r [q]⟩ (R.KG hq ⟨R.uk hq,[],fI,rfl⟩) ⟨q,rfl,?_⟩;rw[<-R.len,cU (ak _),nH];rfl
noncomputable def tE (m k v:DE W):DE W:=λenv bx=>fq (m env bx) λx bx1=>match x with
 | .b n=>(match bx1[n]? with
   | some (.dT _)=>fq (k env bx1) λy bx2=>fq (v env bx2) λz aO=>(match y,z,aO[n]? with
     | .d (.tup d),.d u,some (.dT l)=>(match uT d with
       |some k=>if l.length<sizeLine then (match h8 l k with|some w=>.val (.d w) aO|none=>.val (.d u) (aO.set n (.dT (l++[(k,u)])))) else .bad
       |none=>.bad)
     |_,_,_=>.bad)
   |_=>.bad)
 |_=>.bad
theorem OB {Q:VK}(h:tD T Z (tE ma mb mc) σ H Q):YT (tD T Z ma) (tD T Z mb) (tD T Z mc) σ H Q:=by
 obtain⟨F,r,env,bx,R,h⟩:=h;refine⟨F,r,env,bx,R,End.bind h λx bx1 F1 r1 v H1 g1 R1 d1 h1=>?_⟩;split at h1
 case h_2=>exact h1.elim
 rename_i n;obtain⟨a,rfl,ha⟩:=d1;obtain⟨c,hc,kc⟩:=R1.nV ha;rw[hc]at h1;split at h1
 case h_2=>exact h1.elim
 rename_i l0 e0;cases e0;obtain⟨_,xE,k0,_⟩:=kc;refine⟨a,rfl,.inr ⟨xE,.inl k0⟩,F1,r1,env,bx1,R1,End.bind h1 λy bx2 F2 r2 u H2 g2 R2 d2 h2=>⟨F2,r2,env,bx2,R2,End.bind h2 λz aO F3 r3 t H3 g3 R3 d3 h3=>?_⟩⟩;obtain⟨t1,acY⟩:=(g2.trans g3).p;have Y3:r3[n]?=some a:=by rw[<-acY,dt (List.getElem?_eq_some_iff.mp ha).1];exact ha
 obtain⟨c2,e6,uB⟩:=R3.nV Y3;rw[e6]at h3;split at h3
 ·rename_i d w l eq;cases eq;obtain⟨hF,vs,k1,k2⟩:=uB;split at h3
  ·rename_i k e1;obtain⟨b,us,rfl,f1,f2⟩:=(g3.den (w:=.d (.tup d)) d2:bJ F3 r3 (.d (.tup d)) u);cases Ge e1 f2;split at h3
   ·rename_i hl;refine⟨vs,k,b,k1,rfl,R3.fh _ _ f1,by rw[<-k2.length];exact hl,λv' Qh=>?_,λhn=>?_⟩
    ·split at h3
     ·rename_i w' yo;obtain⟨v2,e2,e3⟩:=k2.get.1 _ yo;rw[Qh]at e2;cases e2;exact h3 F3 r3 _ H3 (.refl F3 r3) R3 e3
     ·rename_i yo;rw[k2.get.2 yo]at Qh;cases Qh
    ·split at h3
     ·rename_i w' yo;obtain⟨v2,e2,e3⟩:=k2.get.1 _ yo;rw[hn]at e2;cases e2
     ·exact h3 F3 r3 _ _ (.refl F3 r3) (R3.write Y3 hF ⟨hF,_,fI,k2.put d3 hn⟩) d3
   ·exact h3.elim
  ·exact h3.elim
 ·exact h3.elim
theorem Mh (hu:X.A.units+1<cLine) (ho:PD X T Z o ma) (ha:PD X T Z e mb) (hf:PD X T Z f mc) (m:M2 X o "setdefault" apos e f bf):PD X T Z (.Call (.Attribute o "setdefault" apos) [e,f] [] bf) (tE ma mb mc):=
 PE.imp (Ma hu ho ha hf m) λσ H Q h=>OB h
noncomputable def wj (bo:Bool) (m:DE W):DE W:=λenv bx=>fq (m env bx) λx bx1=>match x with
 | .b n=>(match bx1[n]? with
   |some (.dT l)=>bN bo (some (.lst (l.map (·.2)))) bx1
   |_=>.bad)
 |_=>.bad
theorem Sv {Q:VK}(h:tD T Z (wj bo ma) σ H Q):YU (tD T Z ma) σ H Q:=by
 obtain⟨F,r,env,bx,R,h⟩:=h;refine⟨F,r,env,bx,R,End.bind h λx bx1 F1 r1 v H1 g1 R1 d1 h1=>?_⟩;split at h1
 case h_2=>exact h1.elim
 rename_i n;obtain⟨a,rfl,ha⟩:=d1;obtain⟨c,hc,kc⟩:=R1.nV ha;rw[hc]at h1;split at h1
 case h_2=>exact h1.elim
 rename_i l0 e0;cases e0;obtain⟨_,ah,k1,k2⟩:=kc;exact⟨a,ah,rfl,k1,λl hl=>iA R1 h1 ⟨l,_,rfl,hl,rfl,k2.vals⟩⟩
theorem OC (bo:Bool) (hc:X.calm=true) (hg:Gl X "list") (hm:X.mg "list"=none) (ho:PD X T Z o ma) (hb:attributeBase o "values" X.env (eval o X.env)=eval o X.env) (hl:(apos.endLine==bf.line)=true) :
 PD X T Z (.Call (.Name "list" p) [.Call (.Attribute o "values" apos) [] [] bf] [] pos) (wj bo ma):=PE.imp (Ov hc hg hm ho hb hl) λσ H Q h=>Sv h
end
section
variable {o f : Expr} {mb mc : DE W} {XJ : Pos}
theorem aL.at {F':Hp}{r':List Addr}(g:aL F r F' r') (h:r[n]?=some a):r'[n]?=some a:=by
 obtain⟨t,e⟩:=g.p;rw[<-e,dt (List.getElem?_eq_some_iff.mp h).1];exact h
noncomputable def rS (m:DE W) (k:DE W):DE W:=λenv bx=>fq (m env bx) λx bx1=>match x with
 | .b n=>(match bx1[n]? with
   | some (.lst _)=>fq (k env bx1) λy bx2=>(match y,bx2[n]? with
     |.d (.lst r),some (.lst l)=>if l.length+r.length<=sizeLine then .val (.d .aq) (bx2.set n (.lst (l++r))) else .bad
     |_,_=>.bad)
   |_=>.bad)
 |_=>.bad
theorem T5 {Q:VK}(h:tD T Z (rS ma mb) σ H Q):zN X.K "list" X5 (tD T Z ma) (zF (tD T Z mb) zE) σ H Q:=by
 obtain⟨F,r,env,bx,R,h⟩:=h;refine⟨F,r,env,bx,R,End.bind h λx bx1 F1 r1 v H1 g1 R1 d1 h1=>?_⟩;cases x with
 | b n =>
   simp only at h1;obtain⟨a,rfl,ha⟩:=d1;obtain⟨c,hc,kc⟩:=R1.nV ha;rw[hc]at h1;cases c with
   | lst l0 =>
     obtain⟨_,xE,k0,_⟩:=kc;refine⟨.inl ⟨rfl,xE,bu.of k0⟩,F1,r1,env,bx1,R1,End.bind h1 λy bx2 F2 r2 u H2 g2 R2 d2 h2=>?_⟩;have xF:=g2.at ha;obtain⟨c2,e6,uB⟩:=R2.nV xF;rw[e6]at h2;split at h2
     ·rename_i q l eq;cases eq;obtain⟨hF,vs,k1,k2⟩:=uB;obtain⟨b,zs,rfl,k3,k4⟩:=d2;split at h2
      ·rename_i hz;exact⟨a,b,vs,zs,rfl,rfl,k1,R2.fh _ _ k3,by rw[<-k2.length,<-k4.length];exact hz,h2 F2 r2 _ _ (.refl F2 r2) (R2.write xF hF ⟨hF,vs++zs,fI,k2.append k4⟩) rfl⟩
      ·exact h2.elim
     ·exact h2.elim
   |_=>exact h1.elim
 |_=>exact h1.elim
theorem Jy (ho:PD X T Z o ma) (ha:PD X T Z e mb)
 (uf:attributeBase o "extend" X.env (eval o X.env)=eval o X.env:=by rfl)
 (ug:((backTo pos (starEach [e] X.env)).all (λx=>!x.1)&&(backToKw pos (keywordEach [] X.env)).all (λx=>x.1.isSome)
  && decide ([e].length+([]:List Keyword).length+(if ([]:List Keyword).isEmpty then 0 else 1)<30))=true:=by rfl)
 (uh:(apos.endLine==pos.line)=true:=by rfl) (hs:starEach [e] X.env=(false,eval e X.env)::starEach [] X.env:=by rfl) :
 PD X T Z (.Call (.Attribute o "extend" apos) [e] [] pos) (rS ma mb):=
 PE.imp (Lm II PySem.F.slot_list_extend PySem.F.type_list_extend G4 ho (g9 ha jG hs) uf ug uh hs (by rfl)) λσ H Q h=>T5 h
end
section
variable {pos' : Pos} 
end
end L2.DL
namespace K1
open PySem PySem.Spec PyProof.Rows L2 L2.DL
noncomputable def AA:ai:=(fQ (gm (ic "int" (dV 0)) (xq (ic "bool" (dV 0)))))
noncomputable def lu:List W->List Bx->O W:=aQ 1 (aH AA)
noncomputable def oM:ai:=(fQ (gm (fj K1.lu 1 (fb (dV 0) fe)) (d3 cP cP (dV 1) (dV 0) (dV 2))))
noncomputable def fW:List W->List Bx->O W:=aQ 3 (aH oM)
noncomputable def AB:ai:=(fQ (gm (ic "tuple" (dV 0)) (d3 cP cP (dV 1) (dN false az (fb (dV 0) fe)) (dV 2))))
noncomputable def f7:List W->List Bx->O W:=aQ 3 (aH AB)
noncomputable def oN:ai:=(fQ (dN false bW (fb (fk false [none,some 0] (qx (fb (dC (.int 1)) (fb (dN false az (fb (dV 0) fe)) fe))) (fc 0) fw (d2 false ku (d2 false ax (dV 1) (d2 false cL (dV 0) (dC (.int 1)))) (d2 false ax (dV 1) (dV 0)))) fe)))
noncomputable def jO:List W->List Bx->O W:=aQ 1 (aH oN)
noncomputable def jj:ai:=(fQ (gm (fj K1.f7 3 (fb (dV 0) (fb (dC (.int 1)) (fb (dC (.int 5)) fe)))) (dN false bW (fb (fk false [none] (aj (dV 0)) (fc 0) fw (fj K1.fW 3 (fb (dV 0) (fb (dC (.int 0)) (fb (dC (.int 3)) fe))))) fe))))
noncomputable def iM:List W->List Bx->O W:=aQ 1 (aH jj)
noncomputable def jm:ai:=(fE (bp (eR (bS (dB (fj K1.f7 3 (fb (dV 0) (fb (d2 false fO (dC (.int 3)) (dC (.int 1))) (fb (d2 false fO (dC (.int 3)) (dC (.int 1))) fe)))))) (bS (dB (dN false bW (fb (fk false [none] (aj (dV 0)) (fc 0) fw (fj K1.fW 3 (fb (dV 0) (fb (dC (.int 0)) (fb (dC (.int 9)) fe))))) fe))))) (fQ (dC (.bl false))) bj) (fQ (dN false bW (fb (fk false [none,none] (Ee (fb (dV 0) (fb (eS false (dV 0) (hJ (dC (.int 1))) kA) fe))) (iq 2 (fR (fc 0) (fR (fc 1) iJ))) fw (d2 false cP (dV 1) (dV 0))) fe))))
noncomputable def jP:List W->List Bx->O W:=aQ 1 (aH jm)
noncomputable def lN:ai:=(fQ (gm (fj K1.f7 3 (fb (dV 0) (fb (dC (.int 2)) (fb (dC (.int 2)) fe)))) (gm (fj K1.fW 3 (fb (d2 false ax (dV 0) (dC (.int 0))) (fb (dC (.int 1)) (fb (dC (.int 999)) fe)))) (fj K1.jP 1 (fb (d2 false ax (dV 0) (dC (.int 1))) fe)))))
noncomputable def mj:List W->List Bx->O W:=aQ 1 (aH lN)
noncomputable def jn:ai:=(fQ (gm (fj K1.f7 3 (fb (dV 0) (fb (dC (.int 1)) (fb (dC (.int 4)) fe)))) (dN false bW (fb (fk false [none] (aj (dV 0)) (fc 0) fw (fj K1.mj 1 (fb (dV 0) fe))) fe))))
noncomputable def iN:List W->List Bx->O W:=aQ 1 (aH jn)
noncomputable def gX:ai:=(fE (bp (bS (dB (fj K1.f7 3 (fb (dV 0) (fb (dC (.int 2)) (fb (dC (.int 2)) fe)))))) (fQ (dC (.bl false))) bj) (fQ (gm (dN false bW (fb (fk false [none,some 1] (aj (dV 0)) (fc 0) fw (fj K1.fW 3 (fb (dV 0) (fb (dC (.int 0)) (fb (d2 false cL (dV 1) (dC (.int 1))) fe))))) fe)) (d2 false ku (d2 false ax (dV 0) (dC (.int 0))) (d2 false ax (dV 0) (dC (.int 1)))))))
noncomputable def gG:List W->List Bx->O W:=aQ 2 (aH gX)
noncomputable def jo:ai:=(fE (bp (bS (dB (ic "tuple" (dV 0)))) (fQ (dC (.bl false))) bj) (fQ (gm (dN false bW (fb (fk false [none,some 1] (aj (dV 0)) (fc 0) fw (fj K1.gG 2 (fb (dV 0) (fb (dV 1) fe)))) fe)) (fj K1.jO 1 (fb (dV 0) fe)))))
noncomputable def gu:List W->List Bx->O W:=aQ 2 (aH jo)
noncomputable def jQ:ai:=(fE (bp (bS (dB (fj K1.f7 3 (fb (dV 0) (fb (dC (.int 4)) (fb (dC (.int 4)) fe)))))) (fQ (dC (.bl false))) bj) (fE (fF (dV 0) (iq 4 (fR (fc 1) (fR (fc 2) (fR (fc 3) (fR (fc 4) iJ)))))) (fQ (gm (fj K1.iM 1 (fb (dV 1) fe)) (gm (fj K1.iN 1 (fb (dV 2) fe)) (gm (fj K1.gu 2 (fb (dV 3) (fb (dN false az (fb (dV 2) fe)) fe))) (fj K1.fW 3 (fb (dV 4) (fb (dC (.int 1)) (fb (dC (.int 9)) fe))))))))))
noncomputable def lv:List W->List Bx->O W:=aQ 5 (aH jQ)
noncomputable def ju:ai:=(fE (bp (dB (d2 false ku (dV 1) (qD (dV 0)))) (fQ (Eb (dV 0) (dV 1))) bj) (fQ (dC (.int 0))))
noncomputable def ie:List W->List Bx->O W:=aQ 2 (aH ju)
noncomputable def jD:ai:=(fE (bp (dB (d2 false rH (dV 0) (d2 false ux (dC (.int 10)) (dC (.int 18))))) (fQ (fZ true (fb (d2 false cL (dV 0) (d2 false ux (dC (.int 10)) (dC (.int 18)))) fe))) bj) (fE (fF (dC (.int 0)) (fc 1)) (fE (ia (bP (fb (dC (.int 64)) fe)) (fc 2) (fE (fF (d2 false eA (d2 false dX (d2 false fO (d2 false fO (d2 false eA (dV 0) (dC (.int 2147483629))) (d2 false dX (dC (.int 7919)) (dV 2))) (dC (.int 1))) (dC (.int 48271))) (dC (.int 2147483647))) (fc 3)) (fE (fF (d2 false eA (d2 false fO (d2 false fO (d2 false dX (dV 3) (dV 3)) (d2 false dX (dC (.int 69621)) (dV 2))) (dC (.int 7))) (dC (.int 2147483587))) (fc 3)) (fF (d2 false fO (d2 false dX (dV 1) (dC (.int 2147483587))) (dV 3)) (fc 1))))) (fQ (fZ true (fb (dV 1) fe))))))
noncomputable def jR:List W->List Bx->O W:=aQ 4 (aH jD)
noncomputable def AC:ai:=(fE (fF (d2 false eA (d2 false ax (dV 0) (dC (.int 0))) (dV 1)) (fc 2)) (fE (fF (d2 false zY (d2 false ax (dV 0) (dC (.int 0))) (dV 1)) (rK (dV 0) (dC (.int 0)))) (fQ (dV 2))))
noncomputable def fg:List W->List Bx->O W:=aQ 3 (aH AC)
noncomputable def oO:ai:=(fQ (gm (ic "int" (dV 0)) (xq (ic "bool" (dV 0)))))
noncomputable def gH:List W->List Bx->O W:=aQ 1 (aH oO)
noncomputable def mO:ai:=(fQ (gm (fj K1.gH 1 (fb (dV 0) fe)) (d3 cP cP (dV 1) (dV 0) (dV 2))))
noncomputable def gO:List W->List Bx->O W:=aQ 3 (aH mO)
end K1
namespace K2
open PySem PySem.Spec PyProof.Rows L2 L2.DL
noncomputable def Jz:ai:=(fQ (fj K1.fW 3 (fb (dV 1) (fb (dC (.int 0)) (fb (d2 false cL (dN false az (fb (d2 false ax (dV 0) (dC (.int 0))) fe)) (dC (.int 1))) fe)))))
noncomputable def iy:List W->List Bx->O W:=aQ 2 (aH Jz)
end K2
namespace bz
open PySem PySem.Spec PyProof.Rows L2 L2.DL
noncomputable def lw:ai:=(fE (fF (dN false kz (fb (fk false [none,some 0] (bP (fb (d2 false fO (dC (.int 1)) (fj K1.fg 2 (fb (dV 0) (fb (dC (.int 5)) fe)))) fe)) (fc 0) fw (fj K1.fg 2 (fb (dV 1) (fb (dC (.int 4)) fe)))) fe)) (fc 1)) (fE (fF (fZ true fe) (fc 2)) (fE (ia (bP (fb (d2 false fO (dC (.int 1)) (fj K1.fg 2 (fb (dV 0) (fb (d2 false ax (fZ false (fb (dC (.int 1)) (fb (dC (.int 2)) (fb (dC (.int 4)) fe)))) (fj K1.fg 2 (fb (dV 0) (fb (dC (.int 3)) fe)))) fe)))) fe)) (fc 3) (fE (fF (dN false dj (fb (fk false [none,some 0] (bP (fb (dC (.int 4)) fe)) (fc 0) fw (fj K1.fg 2 (fb (dV 1) (fb (d2 false ax (fZ false (fb (dC (.int 2)) (fb (dC (.int 4)) (fb (dC (.int 10)) fe)))) (fj K1.fg 2 (fb (dV 1) (fb (dC (.int 3)) fe)))) fe)))) fe)) (fc 4)) (gn (eB (dV 2) (fV (fb (d2 false ax (fZ false (fb (dC (.int 5)) (fb (dC (.int 40)) (fb (dC (.int 300)) (fb (dC (.int 999)) fe))))) (fj K1.fg 2 (fb (dV 0) (fb (dC (.int 4)) fe)))) (fb (dN false kz (fb (uA false (dV 4)) fe)) fe))))))) (fE (fF (fZ true fe) (fc 5)) (fE (ia (bP (fb (dN false az (fb (dV 2) fe)) fe)) (fc 6) (ia (qx (fb (d2 false fO (dV 6) (dC (.int 1))) (fb (dN false az (fb (dV 2) fe)) fe))) (fc 7) (bp (dB (d2 false bI (fj K1.fg 2 (fb (dV 0) (fb (dC (.int 3)) fe))) (dC (.int 0)))) (gn (eB (dV 5) (fV (fb (dV 6) (fb (dV 7) fe))))) bj))) (fQ (fV (fb (dV 1) (fb (dN false kz (fb (dV 2) fe)) (fb (dN false kz (fb (dV 5) fe)) (fb (d2 false fO (dC (.int 1)) (fj K1.fg 2 (fb (dV 0) (fb (d2 false ax (fZ false (fb (dC (.int 3)) (fb (dC (.int 9)) fe))) (fj K1.fg 2 (fb (dV 0) (fb (dC (.int 2)) fe)))) fe)))) fe)))))))))))
noncomputable def iO:List W->List Bx->O W:=aQ 8 (aH lw)
noncomputable def ly:ai:=(fE (sU 2 3 (fb (dN false az (fb (d2 false ax (dV 1) (dC (.int 0))) fe)) (fb (fZ true fe) fe))) (fE (ia (bP (fb (sR (dB (d2 false qy (dV 2) (dC (.int 1)))) (fj K1.fg 2 (fb (dV 0) (fb (dC (.int 11)) fe))) (dC (.int 0))) fe)) (fc 4) (fE (fF (fj K1.fg 2 (fb (dV 0) (fb (dV 2) fe))) (fc 5)) (fE (fF (d2 false eA (d2 false fO (d2 false fO (dV 5) (dC (.int 1))) (fj K1.fg 2 (fb (dV 0) (fb (d2 false cL (dV 2) (dC (.int 1))) fe)))) (dV 2)) (fc 6)) (fE (gn (eB (dV 3) (fV (fb (dV 5) (fb (dV 6) fe))))) (bp (dB (d2 false bI (fj K1.fg 2 (fb (dV 0) (fb (dC (.int 5)) fe))) (dC (.int 0)))) (fF (fV (fb (d2 false ax (d2 false ax (dV 3) (dC (.int 0))) (dC (.int 1))) (fb (d2 false ax (d2 false ax (dV 3) (dC (.int 0))) (dC (.int 0))) fe))) (rK (dV 3) (qC (dC (.int 1))))) bj))))) (fQ (ny 3))))
noncomputable def ig:List W->List Bx->O W:=aQ 7 (aH ly)
noncomputable def iP:ai:=(bp (bS (dB (fj K1.lv 1 (fb (dV 0) fe)))) kD bj)
noncomputable def jv:List W->List Bx->O W:=aQ 1 (aH iP)
noncomputable def oo:ai:=(fQ (gm (fj K1.f7 3 (fb (dV 1) (fb (dC (.int 2)) (fb (dC (.int 2)) fe)))) (gm (dN false bW (fb (fk false [none,some 0] (aj (dV 1)) (fc 0) fw (fj K2.iy 2 (fb (dV 1) (fb (dV 0) fe)))) fe)) (d2 false eC (d2 false ax (dV 1) (dC (.int 0))) (d2 false ax (dV 1) (dC (.int 1)))))))
noncomputable def iZ:List W->List Bx->O W:=aQ 2 (aH oo)
noncomputable def lA:ai:=(fQ (gm (ic "list" (dV 1)) (gm (d2 false cP (dN false az (fb (dV 1) fe)) (dC (.int 10))) (dN false bW (fb (fk false [none,some 0] (aj (dV 1)) (fc 0) fw (fj bz.iZ 2 (fb (dV 1) (fb (dV 0) fe)))) fe)))))
noncomputable def jS:List W->List Bx->O W:=aQ 2 (aH lA)
noncomputable def iQ:ai:=(fE (gn (fj bz.jv 1 (fb (dV 0) fe))) (bp (bS (dB (fj bz.jS 2 (fb (dV 0) (fb (dV 1) fe))))) kD bj))
noncomputable def iB:List W->List Bx->O W:=aQ 2 (aH iQ)
end bz
namespace eE
open PySem PySem.Spec PyProof.Rows L2 L2.DL
noncomputable def jw:ai:=(fE (bp (eR (bS (dB (ic "tuple" (dV 1)))) (eR (bS (dB (d3 cP cP (dC (.int 2)) (dN false az (fb (dV 1) fe)) (dC (.int 5))))) (bS (dB (dN false bW (fb (fk false [none] (aj (dV 1)) (fc 0) fw (fj K1.gH 1 (fb (dV 0) fe))) fe)))))) (fQ (dC (.bl false))) bj) (fE (bp (dB (d2 false ku (dN false uN (fb (dV 1) fe)) (dN false az (fb (dV 1) fe)))) (fQ (dC (.bl false))) bj) (fQ (d2 false bI (fk false [none,some 0,some 1] (bP (fb (dN false az (fb (dV 1) fe)) fe)) (fc 0) (dB (d2 false (inD true) (fV (fb (d2 false ax (dV 2) (d2 false cL (dV 0) (dC (.int 1)))) (fb (d2 false ax (dV 2) (dV 0)) fe))) (dV 1))) (dV 0)) (fZ false fe)))))
noncomputable def im:List W->List Bx->O W:=aQ 2 (aH jw)
noncomputable def ja:ai:=(fE (fF (fZ false (fb (fV fe) fe)) (fc 1)) (fE (ia (aj (dV 0)) (fc 2) (fF (d2 false fO (dV 1) (fk false [none,some 2] (aj (dV 1)) (fc 0) fw (d2 false fO (dV 0) (fV (fb (dV 1) fe))))) (fc 1))) (fQ (fk false [none,none] (aj (dN false dj (fb (fk false [none] (aj (dV 1)) (fc 0) fw (fV (fb (dN false az (fb (dV 0) fe)) (fb (dV 0) fe)))) fe))) (iq 2 (fR (fc 0) (fR (fc 1) iJ))) fw (dV 1)))))
noncomputable def iE:List W->List Bx->O W:=aQ 3 (aH ja)
noncomputable def BS:ai:=(fQ (dN false vZ (fb (fk false [none,some 1] (aj (dV 0)) (fc 0) fw (d2 false (inD false) (dV 0) (dV 1))) fe)))
noncomputable def mP:List W->List Bx->O W:=aQ 2 (aH BS)
end eE
namespace K51
open PySem PySem.Spec PyProof.Rows L2 L2.DL
noncomputable def lU:ai:=(fQ (pZ false [none,none] (aj (dV 0)) (fc 0) fw (uS (aj (dV 0)) (fc 1) fw (eU (dV 1)))))
noncomputable def fY:List W->List Bx->O W:=aQ 1 (aH lU)
noncomputable def jT:ai:=(fE (fF Eu (fc 1)) (fE (fF (fk true [none] (aj (fj K51.fY 1 (fb (dV 0) fe))) (fc 0) fw (fV (fb (dV 0) fe))) (fc 2)) (fE (cE (ur (dV 2)) (fE (fF (fZ true fe) (fc 3)) (fE (ia (aj (ny 2)) (fc 4) (fE (fF (pZ false [none,none,some 4] (aj (dV 0)) (iq 2 (fR (fc 0) (fR (fc 1) iJ))) (uu (dB (d2 false bI (dV 0) (d2 false ax (dV 2) (qC (dC (.int 1)))))) (dB (d2 false rH (dV 1) (d2 false ax (dV 2) (dC (.int 0)))))) (eU (dV 1))) (fc 5)) (fE (bp (dB (d2 false (inD false) (d2 false ax (dV 4) (dC (.int 0))) (dV 5))) (gn (tE (dV 1) (dN false kz (fb (dN false dj (fb (dV 4) fe)) fe)) (dV 4))) bj) (gn (rS (dV 3) (fk false [none,some 4] (aj (dV 5)) (fc 0) (dB (d2 false (inD true) (dV 0) (dV 1))) (d2 false fO (dV 1) (fV (fb (dV 0) fe))))))))) (fF (dV 3) (fc 2)))) 2000) (fQ (wj true (dV 1))))))
noncomputable def jp:List W->List Bx->O W:=aQ 6 (aH jT)
noncomputable def iz:ai:=(fE (fF (fZ false (fb (fV fe) fe)) (fc 2)) (fE (ia (bP (fb (dN false az (fb (d2 false ax (dV 0) (dC (.int 0))) fe)) fe)) (fc 3) (fF (d2 false fO (dV 2) (fk false [none,some 3] (aj (dV 2)) (fc 0) fw (d2 false fO (dV 0) (fV (fb (dV 1) fe))))) (fc 2))) (fE (fF (fk false [none,some 1] (aj (dV 2)) (fc 0) (dB (dN false bW (fb (kX false [none,some 0] (dV 1) (fc 0) fw (fj eE.mP 2 (fb (dV 1) (fb (dV 0) fe)))) fe))) (dV 0)) (fc 4)) (fQ (dN false yf (fb (dV 4) fe))))))
noncomputable def gC:List W->List Bx->O W:=aQ 5 (aH iz)
noncomputable def lO:ai:=(fE (fF (fZ true fe) (fc 2)) (fE (cE (dB (d2 false ku (dN false az (fb (dV 2) fe)) (dN false az (fb (dV 0) fe)))) (fE (fF (fk false [none,some 2] (aj (dV 0)) (fc 0) (dB (d2 false (inD true) (dV 0) (dV 1))) (dV 0)) (fc 3)) (fE (fF (fk false [none,none,some 3] (aj (dV 1)) (iq 2 (fR (fc 0) (fR (fc 1) iJ))) (dB (d2 false (inD false) (dV 0) (dV 2))) (dV 1)) (fc 4)) (gn (rS (dV 2) (fk false [none,some 4] (aj (dV 3)) (fc 0) (dB (d2 false (inD true) (dV 0) (dV 1))) (dV 0)))))) 2000) (fQ (ny 2))))
noncomputable def jb:List W->List Bx->O W:=aQ 5 (aH lO)
noncomputable def jU:ai:=(fE (gn (fj bz.iB 2 (fb (dV 0) (fb (dV 1) fe)))) (fE (fF (fj K51.jp 1 (fb (dV 1) fe)) (fc 2)) (fE (fF (dN false uz (fb (fj K51.gC 2 (fb (dV 0) (fb (dV 2) fe))) fe)) (fc 3)) (fE (fF (fk false [none,some 3] (aj (fj K51.fY 1 (fb (dV 1) fe))) (fc 0) (dB (d2 false (inD true) (dV 0) (dV 1))) (dV 0)) (fc 4)) (fQ (Ep (fb (d2 true fO (d2 false fO (dV 3) (fj K51.jb 2 (fb (dV 4) (fb (dV 1) fe)))) (dV 3)) (fb (dV 2) fe))))))))
noncomputable def iF:List W->List Bx->O W:=aQ 5 (aH jU)
noncomputable def jc:ai:=(fE (fF (dN false uz (fb (dV 0) fe)) (fc 2)) (fE (cE (dB (d2 false eC (dV 2) (fZ false fe))) (fE (fF (fk false [none,some 1,some 2] (aj (dV 2)) (fc 0) (dB (d2 false bI (fk false [none,some 0,some 1] (aj (dV 2)) (fc 0) (dB (d2 false (inD false) (fV (fb (dV 0) (fb (dV 1) fe))) (dV 2))) (dV 0)) (fZ false fe))) (dV 0)) (fc 3)) (fE (bp (dB (d2 false bI (dV 3) (fZ false fe))) (fQ (dC (.bl false))) bj) (fF (fk false [none,some 3] (aj (dV 2)) (fc 0) (dB (d2 false (inD true) (dV 0) (dV 1))) (dV 0)) (fc 2)))) 2000) (fQ (dC (.bl true)))))
noncomputable def gx:List W->List Bx->O W:=aQ 4 (aH jc)
noncomputable def lC:ai:=(fE (fF (dN false uO (fb (d2 false fO (fk false [none] (aj (dV 0)) (fc 0) fw (d2 false ax (dV 0) (dC (.int 0)))) (fk false [none] (aj (dV 0)) (fc 0) fw (d2 false ax (dV 0) (dC (.int 1))))) fe)) (fc 1)) (fE (ia (aj (fj eE.iE 1 (fb (dV 1) fe))) (fc 2) (bp (dB (fj K51.gx 2 (fb (fk false [none,some 2] (aj (dV 1)) (fc 0) (dB (d2 false (inD true) (dV 0) (dV 1))) (dV 0)) (fb (dV 0) fe)))) (fQ (dN false az (fb (dV 2) fe))) bj)) (fQ (dN false az (fb (dV 1) fe)))))
noncomputable def iR:List W->List Bx->O W:=aQ 3 (aH lC)
noncomputable def iI:ai:=(fQ (gm (ic "list" (dV 1)) (gm (d2 false cP (dN false az (fb (dV 1) fe)) (dC (.int 30))) (dN false bW (fb (kX false [none,some 0] (dV 1) (fc 0) fw (fj eE.im 2 (fb (dV 1) (fb (dV 0) fe)))) fe)))))
noncomputable def gJ:List W->List Bx->O W:=aQ 2 (aH iI)
noncomputable def jV:ai:=(fE (bp (eR (bS (dB (ic "list" (dV 2)))) (bS (dB (dN false bW (fb (kX false [none,some 1] (dV 2) (fc 0) fw (fj K1.gO 3 (fb (dV 0) (fb (dC (.int 0)) (fb (dV 1) fe))))) fe))))) (fQ (dC (.bl false))) bj) (fE (ia (aj (dV 0)) (iq 2 (fR (fc 3) (fR (fc 4) iJ))) (bp (eR (dB (d2 false (inD true) (dV 3) (dV 2))) (dB (d2 false (inD true) (dV 4) (eS false (dV 2) (hJ (rO (dV 2) (dV 3))) kA)))) (fQ (dC (.bl false))) bj)) (fQ (dC (.bl true)))))
noncomputable def gQ:List W->List Bx->O W:=aQ 5 (aH jV)
noncomputable def jW:ai:=(fE (ia (aj (fj eE.iE 1 (fb (vY false (fb (dN false az (fb (d2 false ax (dV 0) (dC (.int 0))) fe)) fe)) fe))) (fc 2) (bp (dB (d2 false bI (kX false [none,some 2] (dV 1) (fc 0) (dB (d2 false bI (fk false [none,some 1] (aj (dV 0)) (fc 0) (dB (d2 false (inD false) (dV 0) (dV 1))) (dV 0)) (fZ false fe))) (dV 0)) (fZ false fe))) (fQ (dN false az (fb (dV 2) fe))) bj)) (fQ (dC (.int 99))))
noncomputable def iC:List W->List Bx->O W:=aQ 3 (aH jW)
noncomputable def lD:ai:=(fE (bp (eR (bS (dB (Er "tuple" (dV 2)))) (dB (d2 false eC (Es (dV 2)) (dC (.int 2))))) (fQ (dC (.bl false))) bj) (fE (fF (dN false uO (fb (d2 false fO (fk false [none] (aj (dV 1)) (fc 0) fw (d2 false ax (dV 0) (dC (.int 0)))) (fk false [none] (aj (dV 1)) (fc 0) fw (d2 false ax (dV 0) (dC (.int 1))))) fe)) (fc 3)) (fE (fF (fj K51.iR 1 (fb (dV 1) fe)) (fc 4)) (fE (bp (eR (bS (dB (fj K51.gQ 3 (fb (dV 1) (fb (d2 false cL (dN false az (fb (d2 false ax (dV 0) (dC (.int 0))) fe)) (dC (.int 1))) (fb (dI (dV 2) 0) fe)))))) (dB (d2 false eC (dN false az (fb (dI (dV 2) 0) fe)) (d2 false fO (dN false az (fb (dV 3) fe)) (dV 4))))) (fQ (dC (.bl false))) bj) (fQ (gm (fj K51.gJ 2 (fb (dV 1) (fb (dI (dV 2) 1) fe))) (d2 false rH (fj K51.iC 2 (fb (dV 0) (fb (dI (dV 2) 1) fe))) (dV 4))))))))
noncomputable def gK:List W->List Bx->O W:=aQ 5 (aH lD)
noncomputable def Mi:ai:=(fE (ia (bP (fb (dN false maxD (fb (dC (.int 1)) (fb (dN false minD (fb (qD (dV 0)) (fb (dC (.int 8)) fe))) fe))) fe)) (fc 1) (fE (fF (fj K1.jR 1 (fb (fj K1.ie 2 (fb (dV 0) (fb (dV 1) fe))) fe)) (fc 2)) (fE (fF (fj bz.iO 1 (fb (dV 2) fe)) (fc 3)) (ia (bP (fb (dC (.int 3)) fe)) (fc 4) (fE (fF (fj bz.ig 2 (fb (dV 2) (fb (dV 3) fe))) (fc 5)) (ia (aj (fV (fb (dV 5) (fb (fk false [none,none] (aj (dV 5)) (iq 2 (fR (fc 0) (fR (fc 1) iJ))) fw (fV (fb (dV 1) (fb (dV 0) fe)))) (fb (eS false (dV 5) kA (hJ (dC (.int 3)))) (fb (d2 false fO (dV 5) (eS false (dV 5) kA (hJ (d2 false cL (dC (.int 10)) (dN false az (fb (dV 5) fe)))))) fe)))))) (fc 6) (fE (fF (sX (fV (fb (dV 3) (fb (dV 6) fe)))) (fc 7)) (ia (bP (fb (dC (.int 2)) fe)) (fc 8) (fE (fF (fj K51.iF 2 (fb (dV 3) (fb (dV 6) fe))) (fc 9)) (fE (bp (eR (bS (dB (fj K51.gK 3 (fb (dV 3) (fb (dV 6) (fb (dV 9) fe)))))) (dB (d2 false eC (sX (fV (fb (dV 3) (fb (dV 6) fe)))) (dV 7)))) (fQ (dC (.bl false))) bj) (fE (gn (eB (dI (dV 9) 0) (dC (.int 0)))) (gn (eB (dI (dV 9) 1) (fV (fb (dC (.int 0)) (fb (dC (.int 1)) fe)))))))))))))))) (fQ (dC (.bl true))))
noncomputable def BT:List W->List Bx->O W:=aQ 10 (aH Mi)
end K51
namespace L2.DL
open PySem PySem.Spec PyProof.Rows
section
variable {β : Type}
@[simp] theorem fN {a:α}{k:α->List Bx->O β}:fq (.val a bx) k=k a bx:=rfl
@[simp] theorem U3 {k:α->List Bx->O β}:fq .bad k=.bad:=rfl
@[simp] theorem ou {a:α}{k:α->List Bx->OS}:ck (.val a bx) k=k a bx:=rfl
@[simp] theorem U4 {k:α->List Bx->OS}:ck (.bad:O α) k=.bad:=rfl
@[simp] theorem BU {a:α}{k:α->List Bx->O β}:bindB (.val a bx) k=k a bx:=rfl
end
@[simp] theorem JA:dV i env bx=match env[i]? with|some (some w)=>.val w bx|_=>.bad:=rfl
@[simp] theorem T6:dC d env bx=.val (.d d) bx:=rfl
@[simp] theorem DX:fe env bx=.val [] bx:=rfl
@[simp] theorem oX {k:DE (List W)}:fb m k env bx=fq (m env bx) λw bx1=>fq (k env bx1) λl bx2=>.val (w::l) bx2:=rfl
@[simp] theorem Gf {k:DE (List W)}:fj fn n k env bx=fq (k env bx) λws bx1=>if ws.length=n then fn ws bx1 else .bad:=rfl
@[simp] theorem UT:dB m env bx=fq (m env bx) λw bx1=>match w with|.d (.bl k)=>.val k bx1|_=>.bad:=rfl
@[simp] theorem Mj {m k:DE Bool}:uu m k env bx=fq (m env bx) λb bx1=>match b with|true=>k env bx1|false=>.val false bx1:=rfl
@[simp] theorem T7 {m k:DE Bool}:eR m k env bx=fq (m env bx) λb bx1=>match b with|true=>.val true bx1|false=>k env bx1:=rfl
@[simp] theorem Sw {m:DE Bool}:bS m env bx=fq (m env bx) λb bx1=>.val (!b) bx1:=rfl
@[simp] theorem Gg {k:DE W}:gm m k env bx=fq (m env bx) λw bx1=>match w with|.d (.bl true)=>k env bx1|.d (.bl false)=>.val (.d (.bl false)) bx1|_=>.bad:=rfl
@[simp] theorem UN:xq m env bx=fq (m env bx) λw bx1=>match w with|.d (.bl k)=>.val (.d (.bl (!k))) bx1|_=>.bad:=rfl
@[simp] theorem OD:fw env bx=.val true bx:=rfl
@[simp] theorem OE {n:String}:ic n m env bx=fq (m env bx) λw bx1=>match aG bx1 w with|some d=>.val (.d (.bl (rJ (qz d) n))) bx1|none=>.bad:=rfl
@[simp] theorem Mk {b:Bool}{mb:DE W}:d2 b g ma mb env bx=fq (ma env bx) λx bx1=>fq (mb env bx1) λy bx2=>bN b ((aG bx2 x).bind λp=>(aG bx2 y).bind λq=>g p q) bx2:=rfl
@[simp] theorem DY {b:Bool}{g:List D->Option Res}{k:DE (List W)}:dN b g k env bx=fq (k env bx) λws bx1=>bN b ((df bx1 ws).bind g) bx1:=rfl
@[simp] theorem UU {g':D->D->Option Res}{mb mc:DE W}:d3 g g' ma mb mc env bx=fq (ma env bx) λx bx1=>fq (mb env bx1) λy bx2 =>
 fq (bN false ((aG bx2 x).bind λp=>(aG bx2 y).bind λq=>g p q) bx2) λz aO=>match z with
  |.d (.bl true)=>fq (mc env aO) λw bw=>bN false ((aG bw y).bind λp=>(aG bw w).bind λq=>g' p q) bw
  |.d (.bl false)=>.val (.d (.bl false)) aO
  |_=>.bad:=rfl
@[simp] theorem lV:aG bx (.d d)=some d:=rfl
@[simp] theorem CU:df bx []=some []:=rfl
@[simp] theorem DZ {l:List W}:df bx (.d d::l)=(df bx l).map λt=>d::t:=by
 simp only[df,lV];cases df bx l<;>rfl
@[simp] theorem Tn {b:Bool}:bN b none bx=.bad:=rfl
@[simp] theorem io {q:Res}:bN false (some q) bx=.val (.d q.toD) bx:=by cases q<;>rfl
@[simp] theorem Ml:bN true (some (.lst l)) bx=.val (.b bx.length) (bx++[.lst l]):=rfl
@[simp] theorem oY:(Res.old d).toD=d:=rfl
@[simp] theorem OF:(Res.tup l).toD=.tup l:=rfl
@[simp] theorem oZ:(Res.lst l).toD=.lst l:=rfl
@[simp] theorem UO {l:List (Key×D)}:(Res.aN l).toD=.aN l:=rfl
@[simp] theorem UV:bj env bx=.nx env bx:=rfl
@[simp] theorem Fa {m k:ai}:fE m k env bx=match m env bx with|.nx env1 bx1=>k env1 bx1|o=>o:=rfl
@[simp] theorem OG:gn m env bx=ck (m env bx) λ_ bx1=>.nx env bx1:=rfl
@[simp] theorem Fb:fQ m env bx=ck (m env bx) λw bx1=>.rt w bx1:=rfl
@[simp] theorem Mm {t:DE Bool}{m k:ai}:bp t m k env bx=ck (t env bx) λb bx1=>match b with|true=>m env bx1|false=>k env bx1:=rfl
@[simp] theorem Mn {g:DG}:fF m g env bx=ck (m env bx) λw bx1=>match g w env bx1 with|some (env1,bx2)=>.nx env1 bx2|none=>.bad:=rfl
@[simp] theorem Sx {m:DE (List W)}{g:DG}{body:ai}:ia m g body env bx=ck (m env bx) λds bx1=>cK g body ds env bx1:=rfl
@[simp] theorem Mo {w:W}:fc i w env bx=some (env.set i (some w),bx):=rfl
@[simp] theorem UP:iJ [] env bx=some (env,bx):=rfl
@[simp] theorem T8 {g:DG}{k:kN}{w:W}{l:List W}:fR g k (w::l) env bx=(g w env bx).bind λ(env1,bx1)=>k l env1 bx1:=rfl
@[simp] theorem UQ {k:kN}:iq n k (.d (.tup l)) env bx=if l.length=n then k (l.map W.d) env bx else none:=rfl
@[simp] theorem o6 {src:List (Option Nat)}{g:DG}:fk bo src mi g tf te env bx=fq (mi env bx) λds bx1=>fq (bT g tf te ds (cg src env) bx1 []) λl bx2=>bN bo (some (.lst l)) bx2:=rfl
@[simp] theorem Fc:cg [] env=[]:=rfl
@[simp] theorem CV {l:List (Option Nat)}:cg (none::l) env=none::cg l env:=rfl
@[simp] theorem CW {l:List (Option Nat)}:cg (some i::l) env=((env[i]?).bind id)::cg l env:=rfl
@[simp] theorem Gh:aj m env bx=fq (m env bx) λw bx1=>match w with|.d (.lst l)=>.val (l.map W.d) bx1|.d (.tup l)=>.val (l.map W.d) bx1|_=>.bad:=rfl
@[simp] theorem Sy {k:DE (List W)}:fV k env bx=fq (k env bx) λws bx1=>bN false ((kM ws).bind λl=>if l.length<=sizeLine then some (.tup l) else none) bx1:=rfl
@[simp] theorem Mp {k:DE (List W)}:fZ bo k env bx=fq (k env bx) λws bx1=>bN bo ((kM ws).bind λl=>if l.length<=sizeLine then some (.lst l) else none) bx1:=rfl
@[simp] theorem T9:kM []=some []:=rfl
@[simp] theorem Sz {l:List W}:kM (.d d::l)=(kM l).map λt=>d::t:=rfl
@[simp] theorem SC:qC m env bx=fq (m env bx) λw bx1=>match w with|.d (.int i)=>.val (.d (.int (-i))) bx1|_=>.bad:=rfl
@[simp] theorem PH {l u:DE (Option Int)}:eS bo m l u env bx=fq (m env bx) λx bx1=>fq (l env bx1) λi bx2=>fq (u env bx2) λj aO=>bN bo ((aG aO x).bind λd=>vS d i j) aO:=rfl
@[simp] theorem U2:kA env bx=.val none bx:=rfl
@[simp] theorem OH:hJ m env bx=fq (m env bx) λw bx1=>match w with|.d (.int i)=>.val (some i) bx1|_=>.bad:=rfl
@[simp] theorem UW:uA bo m env bx=fq (m env bx) λx bx1=>bN bo ((aG bx1 x).bind λd=>match d with|.lst l=>some (.lst l.reverse)|_=>none) bx1:=rfl
theorem gh {m:ai}{ws:List W}(h:m (ws.map some++List.replicate (n-ws.length) none) bx=.rt (.d d) bx):aQ n (aH m) ws bx=.val (.d d) bx:=by
 simp only[aQ,aH,DL.envOf,h,kO,kP,Wg]
end L2.DL
namespace K1
open PySem PySem.Spec PyProof.Rows L2 L2.DL
noncomputable def wh:D->Bool
 |.int _=>true
 |_=>false
noncomputable def wi (d:D) (lo hi:Int):Bool:=match d with
 |.int i=>decide (lo<=i)&&decide (i<=hi)
 |_=>false
noncomputable def tl (d:D) (lo hi:Int):Bool:=match d with
 |.tup l=>decide (lo<=(l.length:Int))&&decide ((l.length:Int)<=hi)
 |_=>false
theorem Mq (d:D):rJ (qz d) "int"=(match d with|.int _=>true|.bl _=>true|_=>false):=by cases d<;>rfl
theorem Gi (d:D):rJ (qz d) "bool"=(match d with|.bl _=>true|_=>false):=by cases d<;>rfl
theorem Fd (d:D):rJ (qz d) "tuple"=(match d with|.tup _=>true|_=>false):=by cases d<;>rfl
theorem Mr (d:D) (bx:List Bx):lu [.d d] bx=.val (.d (.bl (wh d))) bx :=
 gh (by cases d<;>simp[AA,Mq,Gi,wh])
theorem Br (d:D) (bx:List Bx):gH [.d d] bx=.val (.d (.bl (wh d))) bx :=
 gh (by cases d<;>simp[oO,Mq,Gi,wh])
theorem iW (d:D) (lo hi:Int) (bx:List Bx):fW [.d d,.d (.int lo),.d (.int hi)] bx=.val (.d (.bl (wi d lo hi))) bx :=
 gh (by
  cases d<;>simp[oM,Mr,wh,wi,cP];rename_i i;by_cases h:lo<=i<;>simp[h])
theorem Fe (d:D) (lo hi:Int) (bx:List Bx):gO [.d d,.d (.int lo),.d (.int hi)] bx=.val (.d (.bl (wi d lo hi))) bx :=
 gh (by
  cases d<;>simp[mO,Br,wh,wi,cP];rename_i i;by_cases h:lo<=i<;>simp[h])
theorem fT (d:D) (lo hi:Int) (bx:List Bx):f7 [.d d,.d (.int lo),.d (.int hi)] bx=.val (.d (.bl (tl d lo hi))) bx :=
 gh (by
  cases d<;>simp[AB,Fd,tl,cP,az];rename_i l;by_cases h:lo<=(l.length:Int)<;>simp[h])
theorem BV {g:DG}{tf:DE Bool}{te:DE W}(J:aJ->Prop) (p:D->Bool) (f:D->D) {bx:List Bx}:∀ (l:List D) (env:aJ) (acc:List D),J env ->
 (∀ d∈l,∀ env,J env->∃ ay,g (.d d) env bx=some (ay,bx) /\ J ay /\ tf ay bx=.val (p d) bx /\ (p d=true->te ay bx=.val (.d (f d)) bx))->acc.length+l.length<=sizeLine ->
 bT g tf te (l.map W.d) env bx acc=.val (acc++(l.filter p).map f) bx
 |[],env,acc,_,_,_=>by simp[bT]
 | d::l,env,acc,j,h,n=>by
   obtain⟨ay,e1,j',e2,e3⟩:=h d (bQ ..) env j;have n':acc.length<sizeLine:=by simp only[bA]at n;omega
   simp only[aS,bT,e1,e2,BU];have h':=λx (m:x∈l)=>h x (bF _ m);cases q:p d with
   | false =>
     simp only[Wr,q];exact BV J p f l ay acc j' h' (by simp only[bA]at n;omega)
   | true =>
     simp only[Wr,q,e3 q,BU,if_pos n'];rw[BV J p f l ay (acc++[f d]) j' h' (by simp only[cb,bA,kF]at n ⊢;omega)];simp
theorem gR {g:DG}(J:aJ->Prop) (f:D->D) (j:J env) (h:∀ d∈l,∀ env,J env->∃ ay,g (.d d) env bx=some (ay,bx) /\ J ay /\ te ay bx=.val (.d (f d)) bx) (n:l.length<=sizeLine) :
 bT g fw te (l.map W.d) env bx []=.val (l.map f) bx:=by
 rw[BV (tf:=fw) J (λ_=>true) f l env [] j (λd m e je=>let ⟨e',a,b,c⟩:=h d m e je;⟨e',a,b,rfl,λ_=>c⟩) (by simpa using n)];rw[List.filter_eq_self.mpr (λ_ _=>rfl)];rfl
theorem Ms (l:List D) (p:D->Bool):nv (l.map λd=>D.bl (p d))=some (l.map p):=by
 induction l with
 |nil=>rfl
 |cons d l ih=>simp[nv,ih]
@[simp] theorem all_map (l:List D) (p:D->Bool):bW [.lst (l.map λd=>D.bl (p d))]=some (.old (.bl (l.all p))):=by
 simp[bW,Ms,qS]
noncomputable def rooms (d:D):Bool:=match d with
 |.tup l=>tl (.tup l) 1 5&&l.all λx=>wi x 0 3
 |_=>false
theorem Qi:(5:Nat)<=sizeLine:=by decide
theorem lE {lo hi:Int}(h:tl (.tup l) lo hi=true):lo<=(l.length:Int) /\ (l.length:Int)<=hi:=by simpa[tl] using h
theorem Mt (d:D) (bx:List Bx):iM [.d d] bx=.val (.d (.bl (rooms d))) bx :=
 gh (by
  cases d with
  | tup l =>
    cases h:tl (.tup l) 1 5 with
    |false=>simp[jj,fT,h,rooms]
    | true =>
      have n:=lE h;simp[jj,fT,h,rooms];rw[gR (λe=>∃ w,e=[w]) (λx=>.bl (wi x 0 3)) ⟨none,rfl⟩ (λx _ e ⟨w,je⟩=>⟨[some (.d x)],by simp[je],⟨_,rfl⟩,by simp[iW]⟩) (by have:=Qi;omega)];simp
  |_=>simp[jj,fT,tl,rooms])
noncomputable def tF:List D->Bool
 |x::y::l=>(match x,y with|.int i,.int j=>decide (j<=i)|_,_=>false)&&tF (y::l)
 |_=>true
noncomputable def qI (d:D):Bool:=match d with
 |.tup l=>tl (.tup l) 4 4&&(l.all (λx=>wi x 0 9)&&tF l)
 |_=>false
theorem Mu (d:D) (bx:List Bx):jP [.d d] bx=.val (.d (.bl (qI d))) bx :=
 gh (by
  cases d with
  | tup l =>
    cases h:tl (.tup l) 4 4 with
    |false=>simp[jm,fT,h,qI,fO]
    | true =>
      have n:=lE h;simp[jm,fT,h,qI,fO];rw[gR (λe=>∃ w,e=[w]) (λx=>.bl (wi x 0 9)) ⟨none,rfl⟩ (λx _ e ⟨w,je⟩=>⟨[some (.d x)],by simp[je],⟨_,rfl⟩,by simp[iW]⟩) (by have:=Qi;omega)];simp;cases q:l.all λx=>wi x 0 9 with
      |false=>simp
      | true =>
        have l4:l.length=4:=by omega
        obtain⟨a,l,rfl⟩:∃ a t,l=a::t:=qd (by omega);obtain⟨b,l,rfl⟩:∃ a t,l=a::t:=qd (by simp at l4;omega);obtain⟨c,l,rfl⟩:∃ a t,l=a::t:=qd (by simp at l4;omega);obtain⟨e,l,rfl⟩:∃ a t,l=a::t:=qd (by simp at l4;omega);obtain rfl:l=[]:=by simpa using l4
        have Ew:∀ x,wi x 0 9=true->∃ i,x=.int i:=λx hx=>by
         cases x<;>simp[wi]at hx;exact⟨_,rfl⟩
        simp at q;obtain⟨a,rfl⟩:=Ew a q.1;obtain⟨b,rfl⟩:=Ew b q.2.1;obtain⟨c,rfl⟩:=Ew c q.2.2.1;obtain⟨e,rfl⟩:=Ew e q.2.2.2;simp[Ee,vS,DL.cutD,HT.aE,kT,bT,cP,tF,bW,nv,sizeLine]
  |_=>simp[jm,fT,tl,qI,fO])
theorem tH (h:tl (.tup l) 2 2=true):∃ a b,l=[a,b]:=by
 have n:=lE h;obtain⟨a,l,rfl⟩:∃ a t,l=a::t:=qd (by omega);obtain⟨b,l,rfl⟩:∃ a t,l=a::t:=qd (by simp at n;omega);have:l.length=0:=by simp at n;omega
 exact⟨a,b,by rw[wO this]⟩
theorem acZ (h:tl (.tup l) 4 4=true):∃ a b c e,l=[a,b,c,e]:=by
 have n:=lE h;obtain⟨a,l,rfl⟩:∃ a t,l=a::t:=qd (by omega);obtain⟨b,l,rfl⟩:∃ a t,l=a::t:=qd (by simp at n;omega);obtain⟨c,l,rfl⟩:∃ a t,l=a::t:=qd (by simp at n;omega);obtain⟨e,l,rfl⟩:∃ a t,l=a::t:=qd (by simp at n;omega);have:l.length=0:=by simp at n;omega
 exact⟨a,b,c,e,by rw[wO this]⟩
theorem oz {x:D}{lo hi:Int}(h:wi x lo hi=true):∃ i,x=.int i /\ lo<=i /\ i<=hi:=by
 cases x<;>simp[wi]at h;exact⟨_,rfl,h⟩
noncomputable def kind (d:D):Bool:=match d with
 |.tup l=>tl (.tup l) 2 2&&(match l with|[a,b]=>wi a 1 999&&qI b|_=>false)
 |_=>false
theorem OI (d:D) (bx:List Bx):mj [.d d] bx=.val (.d (.bl (kind d))) bx :=
 gh (by
  cases d with
  | tup l =>
    cases h:tl (.tup l) 2 2 with
    |false=>simp[lN,fT,h,kind]
    | true =>
      obtain⟨a,b,rfl⟩:=tH h;simp[lN,fT,h,kind,ax,aY,cz,iW];cases q:wi a 1 999<;>simp[Mu]
  |_=>simp[lN,fT,tl,kind])
noncomputable def kinds (d:D):Bool:=match d with
 |.tup l=>tl (.tup l) 1 4&&l.all kind
 |_=>false
theorem Mw (d:D) (bx:List Bx):iN [.d d] bx=.val (.d (.bl (kinds d))) bx :=
 gh (by
  cases d with
  | tup l =>
    cases h:tl (.tup l) 1 4 with
    |false=>simp[jn,fT,h,kinds]
    | true =>
      have n:=lE h;simp[jn,fT,h,kinds];rw[gR (λe=>∃ w,e=[w]) (λx=>.bl (kind x)) ⟨none,rfl⟩ (λx _ e ⟨w,je⟩=>⟨[some (.d x)],by simp[je],⟨_,rfl⟩,by simp[OI]⟩) (by have:=Qi;omega)];simp
  |_=>simp[jn,fT,tl,kinds])
noncomputable def eF (n:Int) (d:D):Bool:=match d with
 |.tup l=>tl (.tup l) 2 2&&(match l with|[.int a,.int b]=>decide (0<=a)&&decide (a<b)&&decide (b<=n-1)|_=>false)
 |_=>false
theorem Mx (d:D) (n:Int) (bx:List Bx):gG [.d d,.d (.int n)] bx=.val (.d (.bl (eF n d))) bx :=
 gh (by
  cases d with
  | tup l =>
    cases h:tl (.tup l) 2 2 with
    |false=>simp[gX,fT,h,eF]
    | true =>
      obtain⟨a,b,rfl⟩:=tH h;simp[gX,fT,h,eF,ax,aY,cz];have c:=gR (g:=fc 0) (te:=fj fW 3 (fb (dV 0) (fb (dC (.int 0)) (fb (d2 false cL (dV 1) (dC (.int 1))) fe)))) (bx:=bx) (l:=[a,b]) (λe=>∃ w,e=[w,xN n]) (λx=>.bl (wi x 0 (n-1))) ⟨none,rfl⟩ (λx _ e ⟨w,je⟩=>⟨[some (.d x),xN n],by simp[je],⟨_,rfl⟩,by simp[iW,cL]⟩) (show (2:Nat)<=sizeLine by decide);simp only[aS,vh]at c;rw[c];have e:=all_map [a,b] λx=>wi x 0 (n-1);simp only[aS,vh]at e;simp[e];cases q1:wi a 0 (n-1) with
      | false =>
        cases a<;>cases b<;>simp[wi]at q1 ⊢;omega
      | true =>
        cases q2:wi b 0 (n-1) with
        | false =>
          obtain⟨i,rfl,i1,i2⟩:=oz q1;cases b<;>simp[wi]at q2 ⊢;omega
        | true =>
          obtain⟨i,rfl,i1,i2⟩:=oz q1;obtain⟨j,rfl,j1,j2⟩:=oz q2;simp[ku,i1,j2]
  |_=>simp[gX,fT,tl,eF])
noncomputable abbrev dP (p:Int×Int):D:=.tup [.int p.1,.int p.2]
noncomputable abbrev xP (l:List (Int×Int)):Option W:=some (.d (.lst (l.map dP)))
noncomputable def qJ (p q:Int×Int):Bool:=HT.lexLt [p.1,p.2] [q.1,q.2]
theorem Mz {n:Int}(h:eF n d=true):∃ p:Int×Int,d=dP p /\ 0<=p.1 /\ p.1<p.2 /\ p.2<=n-1:=by
 cases d with
 | tup l =>
   simp only[eF,aA]at h;obtain⟨a,b,rfl⟩:=tH h.1;have h2:=h.2;cases a<;>cases b<;>simp at h2;exact⟨(_,_),rfl,h2.1.1,h2.1.2,h2.2⟩
 |_=>simp[eF]at h
theorem CY {n:Int}:∀ {l:List D},l.all (eF n)=true->∃ ps:List (Int×Int),l=ps.map dP /\ ∀ p∈ps,0<=p.1 /\ p.1<p.2 /\ p.2<=n-1
 |[],_=>⟨[],rfl,λp m=>by cases m⟩
 | d::l,h=>by
   simp only[pB,aA]at h;obtain⟨p,rfl,hp⟩:=Mz h.1;obtain⟨ps,rfl,hs⟩:=CY h.2;exact⟨p::ps,rfl,λq m=>by
    rcases aP.mp m with rfl|m
    ·exact hp
    ·exact hs q m⟩
noncomputable def kY:List (Int×Int)->Bool
 |p::q::r=>qJ p q&&kY (q::r)
 |_=>true
theorem AD:∀ ps:List (Int×Int),kY ps=(List.range (ps.length-1)).all λi=>qJ (ps.getD i (0,0)) (ps.getD (i+1) (0,0))
 |[]=>rfl
 |[p]=>rfl
 | p::q::r=>by
   rw[kY,AD (q::r)];simp only[bA,V1];rw[List.range_succ_eq_map,pB,qS];rfl
theorem Gj (h:i<ps.length):aY (ps.map dP) (i:Int)=some (dP (ps.getD i (0,0))):=by
 unfold aY cz;simp[h,List.getD]
theorem MA {k:DE (List W)}{i j:Int}(e:k env bx=.val [.d (.int i),.d (.int j)] bx1) (h:(-(2 ^ 62)<=i /\ i<2 ^ 62) /\ -(2 ^ 62)<=j /\ j<2 ^ 62):qx k env bx=.val (fA i (j-i).toNat) bx1:=by
 unfold qx;rw[e,fN];exact if_pos h
theorem jd {k:DE (List W)}{j:Int}(e:k env bx=.val [.d (.int j)] bx1) (h:-(2 ^ 62)<=j /\ j<2 ^ 62):bP k env bx=.val (fA 0 j.toNat) bx1:=by
 unfold bP;rw[e,fN];exact if_pos h
theorem Gk (lo:Int) (n:Nat):fA lo n=((List.range n).map λ(i:Nat)=>D.int (lo+(i:Int))).map W.d:=by
 unfold fA;rw[dv];rfl
theorem JB (ps:List (Int×Int)) (n:ps.length<=sizeLine) (bx:List Bx):jO [.d (.tup (ps.map dP))] bx=.val (.d (.bl (kY ps))) bx :=
 gh (by
  have s2:sizeLine=16777216:=ba;have r:qx (fb (dC (.int 1)) (fb (dN false az (fb (dV 0) fe)) fe)) [some (.d (.tup (ps.map dP)))] bx=.val (fA 1 (((ps.length:Nat):Int)-1).toNat) bx:=MA (by simp[az]) (by omega);simp only[oN,Fb,DY,oX,o6,aS,vh,bA,kF,nH,List.replicate_zero,qO,r,fN,Gk,CV,CW,Fc,Ws,a9,id];rw[gR (λe=>∃ w,e=[w,some (.d (.tup (ps.map dP)))]) (λx=>.bl (match x with|.int i=>qJ (ps.getD (i.toNat-1) (0,0)) (ps.getD i.toNat (0,0))|_=>false)) ⟨none,rfl⟩ ?_ (by rw[aF,tY];omega)]
  ·simp only[fN,DX,io,oZ,DZ,CU,qf,a9];rw[all_map,io,oY,ou,qS,show ((ps.length:Int)-1).toNat=ps.length-1 by omega];have z:((λx:D=>match x with|.int i=>qJ (ps.getD (i.toNat-1) (0,0)) (ps.getD i.toNat (0,0))|_=>false)∘λ(i:Nat)=>D.int (1+(i:Int)))=λi=>qJ (ps.getD i (0,0)) (ps.getD (i+1) (0,0)):=by
    funext i;show qJ (ps.getD ((1+(i:Int)).toNat-1) (0,0)) (ps.getD (1+(i:Int)).toNat (0,0))=_;rw[show (1+(i:Int)).toNat=i+1 by omega,V1]
   rw[z,<-AD]
  ·intro x m e ⟨w,je⟩;obtain⟨i,mi,rfl⟩:=aT.mp m;have hi:i<((ps.length:Int)-1).toNat:=kl.mp mi;refine⟨[xN (1+(i:Int)),some (.d (.tup (ps.map dP)))],by simp[je],⟨_,rfl⟩,?_⟩;have a1:=Gj (ps:=ps) (i:=i) (by omega);have a2:=Gj (ps:=ps) (i:=i+1) (by omega);rw[show ((i+1:Nat):Int)=1+(i:Int) by omega]at a2;simp only[Mk,JA,T6,Ws,HS,fN,lV,a9,ax,cL,io,oY,show 1+(i:Int)-1=(i:Int) by omega,a1,a2,qf,ku,dP,intsOf];rw[show (1+(i:Int)).toNat=i+1 by omega];rfl)
noncomputable def Ex:D->Option (Int×Int)
 |.tup [.int a,.int b]=>some (a,b)
 |_=>none
theorem Gm (ps:List (Int×Int)):(ps.map dP).filterMap Ex=ps:=by
 induction ps with
 |nil=>rfl
 |cons p ps ih=>rw[aS,pz,ih];rfl
noncomputable def apart (n:Int) (d:D):Bool:=match d with
 |.tup l=>l.all (eF n)&&kY (l.filterMap Ex)
 |_=>false
def short (d:D):Prop:=match d with
 |.tup l=>l.length<=sizeLine
 |_=>True
theorem Ff (l:List D) (n:Int) (h':l.length<=sizeLine) (bx:List Bx):bT (fc 0) fw (fj gG 2 (fb (dV 0) (fb (dV 1) fe))) (l.map W.d) [none,xN n] bx []=.val (l.map λx=>.bl (eF n x)) bx :=
 gR (λe=>∃ w,e=[w,xN n]) (λx=>.bl (eF n x)) ⟨none,rfl⟩ (λx _ e ⟨w,je⟩=>⟨[some (.d x),xN n],by simp[je],⟨_,rfl⟩,by simp[Mx]⟩) h'
theorem JC (d:D) (n:Int) (bx:List Bx) (h:∀ l,d≠.tup l):gu [.d d,.d (.int n)] bx=.val (.d (.bl (apart n d))) bx :=
 gh (by
  cases d with
  |tup l=>exact absurd rfl (h l)
  |_=>simp[jo,Fd,apart])
theorem JD {fp:List W->List Bx->O W}{n:Int}(c:bT (fc 0) fw (fj fp 2 (fb (dV 0) (fb (dV 1) fe))) (l.map W.d) [none,xN n] bx []=.val (l.map λx=>.bl (eF n x)) bx) :
 dN false bW (fb (fk false [none,some 1] (aj (dV 0)) (fc 0) fw (fj fp 2 (fb (dV 0) (fb (dV 1) fe)))) fe) [some (.d (.tup l)),xN n] bx=.val (.d (.bl (l.all (eF n)))) bx:=by
 have i:aj (dV 0) [some (.d (.tup l)),xN n] bx=.val (l.map W.d) bx:=rfl;rw[DY,oX,o6,i,fN,show cg [none,some 1] [some (W.d (.tup l)),some (W.d (.int n))]=[none,some (W.d (.int n))] from rfl,c,fN,io,fN,DX,fN,fN,DZ,CU,qf,a9,oZ,all_map,io,oY]
theorem OJ {k:DE W}{b:Bool}(h:m env bx=.val (.d (.bl b)) bx1):gm m k env bx=if b then k env bx1 else .val (.d (.bl false)) bx1:=by
 rw[Gg,h];cases b<;>rfl
theorem SD {t:DE Bool}{m k:ai}(h:t env bx=.val false bx):fE (bp t m bj) k env bx=k env bx:=by
 rw[Fa,Mm,h];rfl
theorem SE {w:Option W}:bS (dB (ic "tuple" (dV 0))) [some (.d (.tup l)),w] bx=.val false bx:=by
 simp[Fd]
theorem JE (l:List D) (n:Int) (bx:List Bx) (h':l.length<=sizeLine):gu [.d (.tup l),.d (.int n)] bx=.val (.d (.bl (apart n (.tup l)))) bx:=by
 have e1:=JD (Ff l n h' bx);refine gh ?_;show jo [some (.d (.tup l)),xN n] bx=OS.rt (.d (.bl (l.all (eF n)&&kY (l.filterMap Ex)))) bx;unfold jo;rw[SD SE,Fb,OJ e1];cases q:l.all (eF n) with
 |false=>rfl
 | true =>
   obtain⟨ps,e,_⟩:=CY q;subst e;have r:=JB ps (by rw[aF]at h';exact h') bx;rw[if_pos rfl,Gf,oX,show dV 0 [some (W.d (.tup (ps.map dP))),some (W.d (.int n))] bx=.val (.d (.tup (ps.map dP))) bx from rfl,fN,DX,fN,fN,if_pos (show [W.d (D.tup (ps.map dP))].length=1 from rfl),r,ou,Gm,V6]
theorem MB (d:D) (n:Int) (h:short d) (bx:List Bx):gu [.d d,.d (.int n)] bx=.val (.d (.bl (apart n d))) bx:=by
 cases d with
 |tup l=>exact JE l n bx (by simpa only[short] using h)
 |_=>exact JC _ n bx (λl e=>by cases e)
noncomputable def lenOf:D->Int
 |.tup l=>l.length
 |_=>0
noncomputable def house (d:D):Bool:=match d with
 |.tup [r,k,p,h]=>rooms r&&(kinds k&&(apart (lenOf k) p&&wi h 1 9))
 |_=>false
def Qj (d:D):Prop:=match d with
 |.tup [_,_,p,_]=>short p
 |_=>True
theorem JF {k:D}(h:kinds k=true):∃ l,k=.tup l:=by
 cases k with
 |tup l=>exact⟨l,rfl⟩
 |_=>simp[kinds]at h
theorem MC (d:D) (ok:Qj d) (bx:List Bx):lv [.d d] bx=.val (.d (.bl (house d))) bx :=
 gh (by
  cases d with
  | tup l =>
    cases t:tl (.tup l) 4 4 with
    | false =>
      have e:house (.tup l)=false:=by
       unfold house;split
       ·rename_i q;cases q;simp[tl]at t
       ·rfl
      simp[jQ,fT,t,e]
    | true =>
      obtain⟨r,k,p,h,rfl⟩:=acZ t;have e1:=fT (.tup [r,k,p,h]) 4 4 bx;have e2:=Mt r bx;have e3:=Mw k bx;have e4:∀ n:Int,gu [.d p,.d (.int n)] bx=.val (.d (.bl (apart n p))) bx:=λn=>MB p n (by simpa only[Qj] using ok) bx;have e5:=iW h 1 9 bx;rw[t]at e1;unfold jQ;generalize f7=f1 at e1 ⊢;generalize iM=f2 at e2 ⊢;generalize iN=f3 at e3 ⊢;generalize gu=f4 at e4 ⊢;generalize fW=f5 at e5 ⊢;simp[e1,e2,house];cases q1:rooms r with
      |false=>simp
      | true =>
        simp[e3];cases q2:kinds k with
        |false=>simp
        | true =>
          obtain⟨l,rfl⟩:=JF q2;simp[az,e4,lenOf];cases q3:apart (l.length:Int) p<;>simp[e5]
  |_=>simp[jQ,fT,tl,house])
theorem jE:∀ ns:List Int,intsOf (ns.map D.int)=some ns
 |[]=>rfl
 |n::ns=>by rw[aS,intsOf,jE ns];rfl
theorem Gn:∀ ns:List Int,tF (ns.map D.int)=true ↔ ns.Pairwise (λa b=>b<=a)
 |[]=>by simp[tF]
 |[x]=>by simp[tF]
 | x::y::l=>by
   have ih:=Gn (y::l);simp only[aS]at ih ⊢;simp only[tF,aA,decide_eq_true_eq,ih];constructor
   ·intro ⟨h,p⟩;refine List.pairwise_cons.mpr ⟨λz m=>?_,p⟩;rcases aP.mp m with rfl|m
    ·exact h
    ·exact Int.le_trans ((List.pairwise_cons.mp p).1 z m) h
   ·intro p;have q:=List.pairwise_cons.mp p;exact⟨q.1 y (bQ ..),q.2⟩
theorem CZ {lo hi:Int}:∀ {l:List D},(l.all λx=>wi x lo hi)=true->∃ ns:List Int,l=ns.map D.int
 |[],_=>⟨[],rfl⟩
 | d::l,h=>by
   simp only[pB,aA]at h;obtain⟨i,rfl,_⟩:=oz h.1;obtain⟨ns,rfl⟩:=CZ h.2;exact⟨i::ns,rfl⟩
end K1
namespace L2.DL
open PySem PySem.Spec PyProof.Rows
noncomputable def Y4:Key->Nat
 |.inl _=>1921
 |.inr x=>(reprText x).length
mutual
noncomputable def wt:D->Nat
 |.aq=>4
 |.bl _=>5
 |.int _=>1921
 |.str x=>(reprText x).length
 |.tup l=>3+tJ l
 |.lst l=>3+tJ l
 |.aN l=>3+yp l
noncomputable def tJ:List D->Nat
 |[]=>0
 |d::l=>wt d+2+tJ l
noncomputable def yp:List (Key×D)->Nat
 |[]=>0
 |(k,d)::l=>Y4 k+wt d+4+yp l
end
theorem Go (ts:List Str):(Str.join ", " ts).length<=piled ts:=by
 by_cases h:ts=[]
 ·subst h;exact ak _
 ·have:=join_length_add ts h;omega
theorem BW (ts:List Str):(tupleText ts).length<=3+piled ts:=by
 unfold tupleText;have h:=Go ts;have e1:(("(":String):Str).length=1:=rfl;have e2:((",)":String):Str).length=2:=rfl;have e3:((")":String):Str).length=1:=rfl;rw[k9,k9];split<;>omega
theorem oP:∀ (ts:List Str) (k:Nat) (acc:Str),(textFrom k acc ts).length<=acc.length+piled ts
 |[],k,acc=>by show acc.length<=_;omega
 | t::r,k,acc=>by
   have h:=oP r (k+1) (acc++(if k>0 then ", " else "":String)++t);have e1:((", ":String):Str).length=2:=rfl;have e2:(("":String):Str).length=0:=rfl;rw[k9,k9]at h;rw[HD];show (textFrom (k+1) (acc++(if k>0 then ", " else "":String)++t) r).length<=_;split at h<;>rename_i hk<;>simp only[hk,if_true,if_false]at h ⊢<;>omega
theorem C0 (ts:List Str):(listText ts).length<=3+piled ts:=by
 unfold listText;have h:=oP ts 0 "[";have e1:(("[":String):Str).length=1:=rfl;have e2:(("]":String):Str).length=1:=rfl;rw[k9];omega
theorem C1 (ts:List Str):(dictText ts).length<=3+piled ts:=by
 unfold dictText;have h:=Go ts;have e1:(("{":String):Str).length=1:=rfl;have e2:(("}":String):Str).length=1:=rfl;rw[k9,k9];omega
theorem C2 {i:Int}(h:i.natAbs.log2<1920):(Str.ofString (toString i)).length<=1921:=by
 have:=int_text_length_le (a:=i) (k:=1920) (by decide) h;rw[PySem.ofString_length];exact this
mutual
theorem AE:∀ (d:D),(toPy d).showable=true->(toPy d).shown.length<=wt d
 |.aq,_=>by simp only[toPy,PyData.shown,wt];decide
 |.bl b,_=>by cases b<;>simp only[toPy,PyData.shown,wt]<;>decide
 | .int i,h=>by
   simp only[toPy,PyData.shown,wt];exact C2 (by simpa[toPy,PyData.showable] using h)
 |.str x,_=>by simp only[toPy,PyData.shown,wt];exact ak _
 | .tup l,h=>by
   simp only[toPy,PyData.shown,wt];have:=oA l (by simpa[toPy,PyData.showable] using h);have:=BW (PyData.shownAll (a8 l));omega
 | .lst l,h=>by
   simp only[toPy,PyData.shown,wt];have:=oA l (by simpa[toPy,PyData.showable] using h);have:=C0 (PyData.shownAll (a8 l));omega
 | .aN l,h=>by
   simp only[toPy,PyData.shown,wt];have:=C3 l (by simpa[toPy,PyData.showable] using h);have:=C1 (PyData.shownKv (bB l));omega
theorem oA:∀ (l:List D),PyData.showableAll (a8 l)=true->piled (PyData.shownAll (a8 l))<=tJ l
 |[],_=>by simp only[a8,PyData.shownAll,tJ];exact ak _
 | d::l,h=>by
   simp only[a8,PyData.showableAll,aA]at h;have h1:=AE d h.1;have h2:=oA l h.2;simp only[a8,PyData.shownAll,tJ,HD];omega
theorem C3:∀ (l:List (Key×D)),PyData.showableKv (bB l)=true->piled (PyData.shownKv (bB l))<=yp l
 |[],_=>by simp only[bB,PyData.shownKv,yp];exact ak _
 | (k,d)::l,h=>by
   simp only[bB,PyData.showableKv,aA]at h;have h1:=AE d h.1.2;have h2:=C3 l h.2;have e1:((": ":String):Str).length=2:=rfl;have hk:(PyData.shown (kR k)).length<=Y4 k:=by
    cases k with
    |inl i=>exact C2 (by simpa[kR,PyData.showable] using h.1.1)
    |inr x=>exact ak _
   simp only[bB,PyData.shownKv,yp,HD];rw[k9,k9];omega
end
mutual
noncomputable def ib (B:Nat):D->Bool
 |.int i=>decide (i.natAbs<=B)
 |.tup l=>p4 B l
 |.lst l=>p4 B l
 |.aN l=>tK B l
 |_=>true
noncomputable def p4 (B:Nat):List D->Bool
 |[]=>true
 |d::l=>ib B d&&p4 B l
noncomputable def tK (B:Nat):List (Key×D)->Bool
 |[]=>true
 |(k,d)::l=>(match k with|.inl i=>decide (i.natAbs<=B)|_=>true)&&ib B d&&tK B l
end
theorem MD {B:Nat}(hB:B<2 ^ 1900) {i:Int}(h:i.natAbs<=B):i.natAbs.log2<1920:=by
 by_cases h0:i.natAbs=0
 ·rw[h0];decide
 ·exact(Nat.log2_lt h0).mpr (dM (yP h hB) (yR (by decide) (by decide)))
mutual
theorem BX {B:Nat}(hB:B<2 ^ 1900):∀ (d:D),ib B d=true->(toPy d).showable=true
 |.aq,_=>by simp[toPy,PyData.showable]
 |.bl b,_=>by simp[toPy,PyData.showable]
 | .int i,h=>by
   simp only[toPy,PyData.showable,decide_eq_true_eq];exact MD hB (by simpa[ib] using h)
 |.str x,_=>by simp[toPy,PyData.showable]
 | .tup l,h=>by
   simp only[toPy,PyData.showable];exact AF hB l (by simpa[ib] using h)
 | .lst l,h=>by
   simp only[toPy,PyData.showable];exact AF hB l (by simpa[ib] using h)
 | .aN l,h=>by
   simp only[toPy,PyData.showable];exact C4 hB l (by simpa[ib] using h)
theorem AF {B:Nat}(hB:B<2 ^ 1900):∀ (l:List D),p4 B l=true->PyData.showableAll (a8 l)=true
 |[],_=>by simp[a8,PyData.showableAll]
 | d::l,h=>by
   simp only[p4,aA]at h;simp only[a8,PyData.showableAll,BX hB d h.1,AF hB l h.2,yV]
theorem C4 {B:Nat}(hB:B<2 ^ 1900):∀ (l:List (Key×D)),tK B l=true->PyData.showableKv (bB l)=true
 |[],_=>by simp[bB,PyData.showableKv]
 | (k,d)::l,h=>by
   simp only[tK,aA]at h;have hk:(kR k).showable=true:=by
    cases k with
    | inl i =>
      simp only[kR,PyData.showable,decide_eq_true_eq];exact MD hB (by simpa using h.1.1)
    |inr x=>simp[kR,PyData.showable]
   simp only[bB,PyData.showableKv,hk,BX hB d h.1.2,C4 hB l h.2,yV]
end
mutual
theorem ME {B B':Nat}(h:B<=B'):∀ (d:D),ib B d=true->ib B' d=true
 |.aq,_=>by simp[ib]
 |.bl b,_=>by simp[ib]
 | .int i,q=>by
   simp only[ib,decide_eq_true_eq]at q ⊢;omega
 |.str x,_=>by simp[ib]
 | .tup l,q=>by
   simp only[ib]at q ⊢;exact Fg h l q
 | .lst l,q=>by
   simp only[ib]at q ⊢;exact Fg h l q
 | .aN l,q=>by
   simp only[ib]at q ⊢;exact MF h l q
theorem Fg {B B':Nat}(h:B<=B'):∀ (l:List D),p4 B l=true->p4 B' l=true
 |[],_=>by simp[p4]
 | d::l,q=>by
   simp only[p4,aA]at q ⊢;exact⟨ME h d q.1,Fg h l q.2⟩
theorem MF {B B':Nat}(h:B<=B'):∀ (l:List (Key×D)),tK B l=true->tK B' l=true
 |[],_=>by simp[tK]
 | (k,d)::l,q=>by
   simp only[tK,aA]at q ⊢;refine⟨⟨?_,ME h d q.1.2⟩,MF h l q.2⟩;have:=q.1.1;cases k with
   |inl i=>simp only[decide_eq_true_eq]at this ⊢;omega
   |inr x=>rfl
end
structure Sm (B a b:Nat) (d:D):Prop where
 s:ib B d=true
 e:(toPy d).depth<=a
 w:wt d<=b
structure bD (B a b:Nat) (l:List D):Prop where
 s:p4 B l=true
 e:PyData.depthAll (a8 l)<=a
 w:tJ l<=b
theorem Fh {B a b:Nat}(h:Sm B a b d) (hB:B<2 ^ 1900) (ha:a<=60) (hb:b<=sizeLine):vT d=true:=by
 have hs:=BX hB d h.s;have:=AE d hs;have h1:=h.e;have h2:=h.w;unfold vT;rw[hs,decide_eq_true (by omega:(toPy d).depth<=60),decide_eq_true (by omega:(toPy d).shown.length<=sizeLine)];rfl
theorem Sm.mono {B a b a' b':Nat}(h:Sm B a b d) (ha:a<=a') (hb:b<=b'):Sm B a' b' d:=⟨h.s,bc h.e ha,bc h.w hb⟩
theorem bD.mono {B a b a' b':Nat}(h:bD B a b l) (ha:a<=a') (hb:b<=b'):bD B a' b' l:=⟨h.s,bc h.e ha,bc h.w hb⟩
theorem Sm.up {B B' a b:Nat}(h:Sm B a b d) (q:B<=B'):Sm B' a b d:=⟨ME q d h.s,h.e,h.w⟩
theorem bD.nil {B a:Nat}:bD B a 0 []:=⟨rfl,by simp[a8,PyData.depthAll],ak _⟩
theorem bD.cons {B a b c:Nat}{d:D}{l:List D}(h:Sm B a b d) (t:bD B a c l):bD B a (b+2+c) (d::l):=
 ⟨by simp[p4,h.s,t.s],by simp only[a8,PyData.depthAll];exact Nat.max_le.mpr ⟨h.e,t.e⟩,by simp only[tJ];have:=h.w;have:=t.w;omega⟩
theorem Sm.tup {B a b:Nat}{l:List D}(h:bD B a b l):Sm B (a+1) (3+b) (.tup l):=
 ⟨by simp[ib,h.s],by simp only[toPy,PyData.depth];have:=h.e;omega,by simp only[wt];have:=h.w;omega⟩
theorem Sm.lst {B a b:Nat}{l:List D}(h:bD B a b l):Sm B (a+1) (3+b) (.lst l):=
 ⟨by simp[ib,h.s],by simp only[toPy,PyData.depth];have:=h.e;omega,by simp only[wt];have:=h.w;omega⟩
theorem Sm.int {B a:Nat}{i:Int}(h:i.natAbs<=B):Sm B a 1921 (.int i):=
 ⟨by simp[ib,h],by simp[toPy,PyData.depth],ak _⟩
theorem bD.of {B a b:Nat}:∀ {l:List D},(∀ d∈l,Sm B a b d)->bD B a (l.length*(b+2)) l
 |[],_=>by simpa using bD.nil
 | d::l,h=>by
   have h1:=h d (bQ ..);have h2:=bD.of λx m=>h x (bF _ m);exact(bD.cons h1 h2).mono (ak _) (by rw[bA,V2];omega)
end L2.DL
namespace K1
open PySem PySem.Spec PyProof.Rows L2 L2.DL
noncomputable def pt (bx:List Bx) (n:Nat) (p:Int):List Bx:=bx.set n (.lst [.int p])
theorem jx {p:Int}:(pt bx n p).length=bx.length:=qP ..
theorem SF {p:Int}(h:n<bx.length):(pt bx n p)[n]?=some (.lst [.int p]):=by simp[pt,h]
theorem Ua {m:ai}{ws:List W}(h:m (ws.map some++List.replicate (n-ws.length) none) bx=.rt (.d d) bx') (l:bx'.length<=bx.length):aQ n (aH m) ws bx=.val (.d d) bx':=by
 simp only[aQ,aH,DL.envOf,h,kO,kP,HR l]
theorem OK (h:n<bx.length) (p k:Int) (hk:0<k) (uG:k<1073741824):fg [.b n,.d (.int k)] (pt bx n p)=.val (.d (.int (p % k))) (pt bx n (p / k)):=by
 refine Ua ?_ (by rw[jx,jx];exact ak _);have g:=SF (p:=p) h;have c:vK p k:=⟨hk,uG⟩;simp[AC,aG,g,ax,aY,cz,eA,zY,hk,c,rK];rw[pt,pt,List.set_set]
theorem OL {l:List α}{i:Int}(h0:0<=i) (h1:i<l.length):∃ d,aY l i=some d /\ d∈l:=by
 have h2:i.toNat<l.length:=by omega
 refine⟨l[i.toNat],?_,vj h2⟩;simp[aY,cz,h0,h1,h2]
def Dr (o:O W) (bx:List Bx) (n:Nat) (P:D->Prop):Prop:=∃ d p,o=.val (.d d) (pt bx n p) /\ P d
theorem MG (p:Int) {k:Int}(h:0<k):0<=p % k:=Int.emod_nonneg _ (by omega)
theorem MH (p:Int) {k:Int}(h:0<k):p % k<k:=Int.emod_lt_of_pos _ h
theorem SG (l:List D) (i:Nat) (h:i<=l.length):DL.cutD l none (some (i:Int))=l.take i:=by
 unfold DL.cutD;rw[HT.FE,HT.Cn,HN,yQ h,yO]
theorem MI (l:List D) (i:Nat) (h:i<=l.length):DL.cutD l (some (i:Int)) none=l.drop i:=by
 unfold DL.cutD;rw[HT.FE,HT.Cn,yQ h];exact HR (by rw[yY];exact ak _)
theorem SH (l:List α) (i:Nat) (h:i<l.length):aY l (i:Int)=some l[i]:=by
 simp[aY,cz,h]
theorem BY {g:DG}{te:DE W}(J:aJ->Prop) (P:D->Prop) {bx:List Bx}{n:Nat}:∀ (l:List W) (env:aJ) (p:Int) (acc:List D),J env ->
 (∀ w∈l,∀ env p,J env->∃ ay,g w env (pt bx n p)=some (ay,pt bx n p) /\ J ay /\ Dr (te ay (pt bx n p)) bx n P)->acc.length+l.length<=sizeLine ->
 ∃ ds p',bT g fw te l env (pt bx n p) acc=.val (acc++ds) (pt bx n p') /\ ds.length=l.length /\ ∀ d∈ds,P d
 |[],env,p,acc,_,_,_=>⟨[],p,by simp[bT],rfl,λd m=>by cases m⟩
 | w::l,env,p,acc,j,h,z=>by
   obtain⟨ay,e1,j',d,q,e2,hd⟩:=h w (bQ ..) env p j;have z':acc.length<sizeLine:=by simp only[bA]at z;omega
   obtain⟨ds,p',e3,e4,e5⟩:=BY J P l ay q (acc++[d]) j' (λx m=>h x (bF _ m)) (by simp only[cb,bA,kF]at z ⊢;omega);refine⟨d::ds,p',?_,by simp[e4],λx m=>?_⟩
   ·simp only[bT,e1,OD,BU,e2,if_pos z',e3];simp
   ·rcases aP.mp m with rfl|m
    ·exact hd
    ·exact e5 x m
def digit (d:D):Prop:=∃ i:Int,d=.int i /\ 0<=i /\ i<=9
theorem Bs:∀ {l:List D},(∀ d∈l,digit d)->∃ ns:List Int,l=ns.map D.int /\ ∀ i∈ns,0<=i /\ i<=9
 |[],_=>⟨[],rfl,λ_ m=>by cases m⟩
 | d::l,h=>by
   obtain⟨i,rfl,h1⟩:=h d (bQ ..);obtain⟨ns,rfl,h2⟩:=Bs λx m=>h x (bF _ m);exact⟨i::ns,rfl,λx m=>by
    rcases aP.mp m with rfl|m
    ·exact h1
    ·exact h2 x m⟩
theorem MJ (h4:ns.length=4) (h:∀ i∈ns,0<=i /\ i<=9):qI (.tup ((sortI ns).map D.int).reverse)=true:=by
 have l4:(sortI ns).length=4:=by rw[(gf ns).length_eq,h4]
 rw[<-List.map_reverse];have a1:tl (.tup ((sortI ns).reverse.map D.int)) 4 4=true:=by simp[tl,l4]
 have a2:(((sortI ns).reverse.map D.int).all λx=>wi x 0 9)=true:=by
  rw[qS,bR];intro i m;have:=h i ((gf ns).mem_iff.mp (List.mem_reverse.mp m));simp[wi,this.1,this.2]
 have a3:tF ((sortI ns).reverse.map D.int)=true:=(Gn _).mpr (List.pairwise_reverse.mpr (gq ns));simp only[qI,a1,a2,a3,yV]
end K1
namespace L2.DL
open PySem PySem.Spec PyProof.Rows
section
variable {env1 env2 : aJ} {bx2 aO : List Bx} {k : DE W} {w u : W} {l : List W}
theorem ff (h1:m env bx=.val w bx1) (h2:ks env bx1=.val l bx2):fb m ks env bx=.val (w::l) bx2:=by rw[oX,h1,fN,h2,fN]
theorem Gp:∀ {ds:List D},df bx (ds.map W.d)=some ds
 |[]=>rfl
 |d::ds=>by rw[aS,DZ,Gp];rfl
theorem o7:∀ {ds:List D},kM (ds.map W.d)=some ds
 |[]=>rfl
 |d::ds=>by rw[aS,Sz,o7];rfl
theorem gY {g:List D->Option Res}{r:Res}(ds:List D) (h:ks env bx=.val (ds.map W.d) bx1) (hg:g ds=some r):dN false g ks env bx=.val (.d r.toD) bx1:=by rw[DY,h,fN,Gp,a9,hg,io]
theorem gz (ds:List D) (h:ks env bx=.val (ds.map W.d) bx1) (hl:ds.length<=sizeLine):fV ks env bx=.val (.d (.tup ds)) bx1:=by rw[Sy,h,fN,o7,a9,if_pos hl,io,OF]
theorem BZ (ds:List D) (h:ks env bx=.val (ds.map W.d) bx1) (hl:ds.length<=sizeLine):fZ false ks env bx=.val (.d (.lst ds)) bx1:=by rw[Mp,h,fN,o7,a9,if_pos hl,io,oZ]
theorem mn (ds:List D) (h:ks env bx=.val (ds.map W.d) bx1) (hl:ds.length<=sizeLine):fZ true ks env bx=.val (.b bx1.length) (bx1++[.lst ds]):=by rw[Mp,h,fN,o7,a9,if_pos hl];rfl
theorem fH {r:Res}{x y:D}(h1:m env bx=.val (.d x) bx1) (h2:k env bx1=.val (.d y) bx2) (hg:g x y=some r):d2 false g m k env bx=.val (.d r.toD) bx2:=by rw[Mk,h1,fN,h2,fN,lV,lV,a9,a9,hg,io]
theorem fK (h:ks env bx=.val l bx1) (hn:l.length=n) (hf:fn l bx1=.val w bx2):fj fn n ks env bx=.val w bx2:=by rw[Gf,h,fN,if_pos hn,hf]
theorem gj {b:Bool}(h:m env bx=.val (.d (.bl b)) bx1):dB m env bx=.val b bx1:=by rw[UT,h,fN]
theorem jX {t:DE Bool}{b:Bool}(h:t env bx=.val b bx1):bS t env bx=.val (!b) bx1:=by rw[Sw,h,fN]
theorem Bt {t s:DE Bool}{b:Bool}(h:t env bx=.val false bx1) (h2:s env bx1=.val b bx2):eR t s env bx=.val b bx2:=by rw[T7,h,fN,h2]
theorem SI {t s:DE Bool}(h:t env bx=.val false bx1):uu t s env bx=.val false bx1:=by rw[Mj,h,fN]
theorem SJ {t s:DE Bool}{b:Bool}(h:t env bx=.val true bx1) (h2:s env bx1=.val b bx2):uu t s env bx=.val b bx2:=by rw[Mj,h,fN,h2]
theorem o8 {b:Bool}(h:m env bx=.val (.d (.bl b)) bx1):gm m k env bx=if b then k env bx1 else .val (.d (.bl false)) bx1:=by rw[Gg,h];cases b<;>rfl
theorem iS {src:List (Option Nat)}{g:DG}{ds:List D}{e2:aJ}(h1:mi env bx=.val l bx1) (he:cg src env=e2) (h2:bT g tf te l e2 bx1 []=.val ds bx2):fk false src mi g tf te env bx=.val (.d (.lst ds)) bx2:=by
 subst he;rw[o6,h1,fN,h2,fN,io,oZ]
theorem OM {src:List (Option Nat)}{g:DG}{ds:List D}{e2:aJ}(h1:mi env bx=.val l bx1) (he:cg src env=e2) (h2:bT g tf te l e2 bx1 []=.val ds bx2):fk true src mi g tf te env bx=.val (.b bx2.length) (bx2++[.lst ds]):=by
 subst he;rw[o6,h1,fN,h2,fN];rfl
theorem PJ {x:D}{r:Res}{lo hi:DE (Option Int)}{i j:Option Int}(h1:m env bx=.val (.d x) bx1) (h2:lo env bx1=.val i bx2) (h3:hi env bx2=.val j aO) (hs:vS x i j=some r):eS false m lo hi env bx=.val (.d r.toD) aO:=by
 rw[PH,h1,fN,h2,fN,h3,fN,lV,a9,hs,io]
theorem Gq {i:Int}(h:m env bx=.val (.d (.int i)) bx1):hJ m env bx=.val (some i) bx1:=by rw[OH,h,fN]
theorem fP {ds:List D}(h:m env bx=.val (.d (.lst ds)) bx1):aj m env bx=.val (ds.map W.d) bx1:=by rw[Gh,h,fN]
theorem mQ {ds:List D}(h:m env bx=.val (.d (.tup ds)) bx1):aj m env bx=.val (ds.map W.d) bx1:=by rw[Gh,h,fN]
theorem SK {i:Int}(h:m env bx=.val (.d (.int i)) bx1):qC m env bx=.val (.d (.int (-i))) bx1:=by rw[SC,h,fN]
theorem ON (h:m env bx=.val (.d d) bx1) (c:vT d=true):sX m env bx=.val (.d (.str (toPy d).shown)) bx1:=by
 unfold sX;rw[h,fN];exact if_pos c
theorem fu {a b:ai}(h:a env bx=.nx env1 bx1):fE a b env bx=b env1 bx1:=by rw[Fa,h]
theorem AG {a b:ai}(h:a env bx=.rt w bx1):fE a b env bx=.rt w bx1:=by rw[Fa,h]
theorem fU (h:m env bx=.val w bx1):fF m (fc i) env bx=.nx (env.set i (some w)) bx1:=by rw[Mn,h,ou,Mo]
theorem gE (h:m env bx=.val w bx1):fQ m env bx=.rt w bx1:=by rw[Fb,h,ou]
theorem jy (h:m env bx=.val w bx1):gn m env bx=.nx env bx1:=by rw[OG,h,ou]
theorem Fi {t:DE Bool}{a b:ai}(h:t env bx=.val true bx1):bp t a b env bx=a env bx1:=by rw[Mm,h,ou]
theorem mw {t:DE Bool}{a b:ai}(h:t env bx=.val false bx1):bp t a b env bx=b env bx1:=by rw[Mm,h,ou]
theorem iK {g:DG}{body:ai}(h:mi env bx=.val l bx1):ia mi g body env bx=cK g body l env bx1:=by rw[Sx,h,ou]
theorem mB {g:DG}{body:ai}(h1:g w env bx=some (env1,bx1)) (h2:body env1 bx1=.nx env2 bx2):cK g body (w::l) env bx=cK g body l env2 bx2:=by
 rw[cK,h1];simp only[h2]
theorem MK {g:DG}{body:ai}(h1:g w env bx=some (env1,bx1)) (h2:body env1 bx1=.rt u bx2):cK g body (w::l) env bx=.rt u bx2:=by
 rw[cK,h1];simp only[h2]
theorem iD {g:DG}{body:ai}(I:Nat->aJ->List Bx->Prop):∀ (l:List W) (k:Nat) (env:aJ) (bx:List Bx),I k env bx ->
 (∀ i w env bx,l[i]?=some w->I (k+i) env bx->∃ env1 bx1 env2 bx2,g w env bx=some (env1,bx1) /\ body env1 bx1=.nx env2 bx2 /\ I (k+i+1) env2 bx2) ->
 ∃ ay bx',cK g body l env bx=.nx ay bx' /\ I (k+l.length) ay bx':=by
 intro l;induction l with
 |nil=>intro k env bx h _;exact⟨env,bx,rfl,h⟩
 | cons w l ih =>
   intro k env bx h st;obtain⟨env1,bx1,env2,bx2,e1,e2,h2⟩:=st 0 w env bx rfl h;obtain⟨ay,bx',e3,h3⟩:=ih (k+1) env2 bx2 h2 λi x env bx e hi=>by
    have:=st (i+1) x env bx (by simpa using e) (by rw[show k+(i+1)=k+1+i by omega];exact hi);rw[show k+(i+1)+1=k+1+i+1 by omega]at this;exact this
   exact⟨ay,bx',by rw[mB e1 e2,e3],by rw[bA,show k+(l.length+1)=k+1+l.length by omega];exact h3⟩
end
end L2.DL
namespace K1
open PySem PySem.Spec PyProof.Rows L2 L2.DL
theorem OP {m:DE (List W)}(e:m env bx=.val [.d (.int (k:Int))] bx) (hk:k<=1000000):bP m env bx=.val (fA 0 k) bx:=by
 rw[jd e (by omega),dQ]
theorem ML {lo hi:Int}{B a:Nat}(h:wi d lo hi=true) (h1:lo.natAbs<=B) (h2:hi.natAbs<=B):Sm B a 1921 d:=by
 obtain⟨i,rfl,a1,a2⟩:=oz h;exact Sm.int (by omega)
theorem MM (h:qI d=true):Sm 999 1 7695 d:=by
 cases d with
 | tup l =>
   simp only[qI,aA]at h;have n:=lE h.1;have s:=bD.of (B:=999) (a:=0) (b:=1921) (l:=l) λx m=>ML (bR.mp h.2.1 x m) (by decide) (by decide);have e:l.length=4:=by omega
   rw[e]at s;exact Sm.tup s
 |_=>simp[qI]at h
theorem OQ (h:kind d=true):Sm 999 2 9623 d:=by
 cases d with
 | tup l =>
   simp only[kind,aA]at h;obtain⟨a,b,rfl⟩:=tH h.1;simp only[aA]at h;have s1:=ML (B:=999) (a:=1) h.2.1 (by decide) (by decide);have s2:=MM h.2.2;exact Sm.tup (bD.cons s1 (bD.cons s2 bD.nil))
 |_=>simp[kind]at h
theorem Ub {p:Int×Int}(h:0<=p.1 /\ p.1<p.2 /\ p.2<(k:Int)) (hk:k<=4):Sm 999 1 3849 (dP p):=
 Sm.tup (bD.cons (Sm.int (by omega)) (bD.cons (Sm.int (by omega)) bD.nil))
theorem MN {l:List α}{a:α}(h:l[i]?=some a):l.set i a=l:=by
 obtain⟨hi,e⟩:=List.getElem?_eq_some_iff.mp h;rw[<-e];exact List.set_getElem_self hi
theorem C5 {k:DE W}{bx2:List Bx}{l0:List D}(h1:m env bx=.val (.b i) bx1) (Qk:bx1[i]?=some (.lst l0)) (h2:k env bx1=.val (.d d) bx2) (hb:bx2[i]?=some (.lst l)) (hl:l.length<sizeLine):eB m k env bx=.val (.d .aq) (bx2.set i (.lst (l++[d]))):=by
 unfold eB;rw[h1,fN];simp only[Qk,h2,fN,hb,if_pos hl]
section
variable {hd lim rt : D} {rs ks ps : List D} {fo so fi tw th : Option W} 
end
section
variable {hd lim rt : D} {rs ks ps : List D} {fo so fi tw th : Option W} 
end
theorem Fj {m:ai}{ws:List W}(h:m (ws.map some++List.replicate (n-ws.length) none) bx=.rt (.d d) bx'):aQ n (aH m) ws bx=.val (.d d) (bx'.take bx.length):=by
 simp only[aQ,aH,DL.envOf,h,kO,kP]
theorem Uc (h:env[k]?=some (xB i)) (hb:bx[i]?=some (.lst l)):ny k env bx=.val (.d (.lst l)) (bx.set i .dead):=by
 unfold ny;simp only[h,hb]
theorem SL (l:List Int) (k:Nat) (bx:List Bx):∃ c:Int,ie [.s l,.d (.int (k:Int))] bx=.val (.d (.int c)) bx:=by
 by_cases h:k<l.length
 ·have a:aY l (k:Int)=some l[k]:=SH l k h;refine⟨l[k],gh ?_⟩;have h':(k:Int)<(l.length:Int):=by omega
  simp[ju,qD,ku,h',Eb,a]
 ·refine⟨0,gh ?_⟩;have h':¬ (k:Int)<(l.length:Int):=by omega
  simp[ju,qD,ku,h']
noncomputable abbrev Ql:ai:=(fE (fF (d2 false eA (d2 false dX (d2 false fO (d2 false fO (d2 false eA (dV 0) (dC (.int 2147483629))) (d2 false dX (dC (.int 7919)) (dV 2))) (dC (.int 1))) (dC (.int 48271))) (dC (.int 2147483647))) (fc 3)) (fE (fF (d2 false eA (d2 false fO (d2 false fO (d2 false dX (dV 3) (dV 3)) (d2 false dX (dC (.int 69621)) (dV 2))) (dC (.int 7))) (dC (.int 2147483587))) (fc 3)) (fF (d2 false fO (d2 false dX (dV 1) (dC (.int 2147483587))) (dV 3)) (fc 1))))
theorem MO {i j:Int}(h1:-(2 ^ 64)<i) (h2:i<2 ^ 64):dX (.int i) (.int j)=some (.old (.int (i*j))):=if_pos (.inl ⟨h1,h2⟩)
theorem PK {i j:Int}(h1:-(2 ^ 64)<j) (h2:j<2 ^ 64):dX (.int i) (.int j)=some (.old (.int (i*j))):=if_pos (.inr ⟨h1,h2⟩)
theorem MP {i j:Int}(h1:0<j):eA (.int i) (.int j)=some (.old (.int (i % j))):=if_pos h1
theorem Ud {i j:Int}(h1:vL i j):ux (.int i) (.int j)=some (.old (.int (i ^ j.toNat))):=if_pos h1
theorem JG (c x j:Int) (w:Option W) (bx:List Bx):∃ x' y,Ql [xN c,xN x,xN j,w] bx=.nx [xN c,xN x',xN j,xN y] bx:=by
 let a:=(c % 2147483629+7919*j+1)*48271 % 2147483647
 let b:=(a*a+69621*j+7) % 2147483587
 have a0:0<=a:=MG _ (by decide);have a1:a<2147483647:=MH _ (by decide);have e1:fF (d2 false eA (d2 false dX (d2 false fO (d2 false fO (d2 false eA (dV 0) (dC (.int 2147483629))) (d2 false dX (dC (.int 7919)) (dV 2))) (dC (.int 1))) (dC (.int 48271))) (dC (.int 2147483647))) (fc 3) [xN c,xN x,xN j,w] bx=.nx [xN c,xN x,xN j,xN a] bx :=
  fU (fH (r:=.old _) (fH (r:=.old _) (fH (r:=.old _) (fH (r:=.old _) (fH (r:=.old _) rfl rfl (MP (by decide))) (fH (r:=.old _) rfl rfl (MO (by decide) (by decide))) rfl) rfl rfl) rfl (PK (by decide) (by decide))) rfl (MP (by decide)))
 have e2:fF (d2 false eA (d2 false fO (d2 false fO (d2 false dX (dV 3) (dV 3)) (d2 false dX (dC (.int 69621)) (dV 2))) (dC (.int 7))) (dC (.int 2147483587))) (fc 3) [xN c,xN x,xN j,xN a] bx=.nx [xN c,xN x,xN j,xN b] bx :=
  fU (fH (r:=.old _) (fH (r:=.old _) (fH (r:=.old _) (fH (r:=.old _) rfl rfl (MO (by omega) (by omega))) (fH (r:=.old _) rfl rfl (MO (by decide) (by decide))) rfl) rfl rfl) rfl (MP (by decide)))
 have e3:fF (d2 false fO (d2 false dX (dV 1) (dC (.int 2147483587))) (dV 3)) (fc 1) [xN c,xN x,xN j,xN b] bx=.nx [xN c,xN (x*2147483587+b),xN j,xN b] bx :=
  fU (fH (r:=.old _) (fH (r:=.old _) rfl rfl (PK (by decide) (by decide))) rfl rfl)
 exact⟨_,_,by unfold Ql;rw[fu e1,fu e2,e3]⟩
theorem MQ {m:ai}{ws:List W}(h:m (ws.map some++List.replicate (n-ws.length) none) bx=.rt (.b i) bx'):aQ n (aH m) ws bx=.val (.b i) bx':=by
 simp only[aQ,aH,DL.envOf,h,kO,kP]
theorem Ue (c:Int) (bx:List Bx):∃ p:Int,jR [.d (.int c)] bx=.val (.b bx.length) (bx++[.lst [.int p]]):=by
 have sz:=ba;have Y5:∀ e b,d2 false ux (dC (.int 10)) (dC (.int 18)) e b=.val (.d (.int (10 ^ 18))) b:=λe b=>fH (r:=.old _) rfl rfl (Ud (by decide));have t:dB (d2 false rH (dV 0) (d2 false ux (dC (.int 10)) (dC (.int 18)))) [xN c,none,none,none] bx=.val (decide (10 ^ 18<=c)) bx:=gj (fH (r:=.old _) rfl (Y5 _ _) rfl);by_cases h:10 ^ 18<=c
 ·rw[decide_eq_true h]at t;refine⟨c-10 ^ 18,MQ ?_⟩;show jD [xN c,none,none,none] bx=_;unfold jD;refine(AG ((Fi t).trans (gE (mn [.int (c-10 ^ 18)] (ff (fH (r:=.old _) rfl (Y5 _ _) rfl) rfl) (show (1:Nat)<=sizeLine by omega))))).trans rfl
 ·rw[decide_eq_false h]at t;have rg:=OP (env:=[xN c,xN 0,none,none]) (bx:=bx) (k:=64) (m:=fb (dC (.int 64)) fe) rfl (by decide);obtain⟨ay,bx',e,x,w2,w3,rfl,rfl⟩:=iD (g:=fc 2) (body:=Ql) (λ_ env b=>∃ (x:Int) (w2 w3:Option W),env=[xN c,xN x,w2,w3] /\ b=bx) (fA 0 64) 0 [xN c,xN 0,none,none] bx ⟨0,none,none,rfl,rfl⟩ (by
   rintro i w env b hw ⟨x,w2,w3,rfl,rfl⟩;obtain⟨j,_,rfl⟩:=aT.mp (yX hw);obtain⟨x',y,e⟩:=JG c x (0+(j:Int)) w3 b;exact⟨_,_,_,_,rfl,e,x',_,_,rfl,rfl⟩)
  refine⟨x,MQ ?_⟩;show jD [xN c,none,none,none] bx'=_;unfold jD;refine(fu (mw t)).trans ?_;refine(fu (fU rfl)).trans ?_;refine(fu ((iK rg).trans e)).trans ?_;exact gE (mn [.int x] rfl (show (1:Nat)<=sizeLine by omega))
end K1
namespace K2
open PySem PySem.Spec PyProof.Rows L2 L2.DL K1
section
variable {hs : List D} {c hold hour : Int} {x1 x2 : Option W} 
end
structure Qm (d:D) (rs:List Int) (hold:Int):Prop where
 e:∃ k p,d=.tup [.tup (rs.map D.int),k,p,.int hold]
 r:∀ c∈rs,0<=c /\ c<=3
 n:1<=rs.length /\ rs.length<=5
 h:1<=hold /\ hold<=9
theorem JH (h:house d=true):∃ rs hold,Qm d rs hold:=by
 unfold house at h;split at h
 ·rename_i r k p hd;simp only[aA]at h;obtain⟨h1,h2,h3,h4⟩:=h;cases r with
  | tup l =>
    simp only[rooms,aA]at h1;have n:=lE h1.1;obtain⟨rs,rfl⟩:=CZ h1.2;obtain⟨i,rfl,i1,i2⟩:=oz h4;rw[aF]at n;refine⟨rs,i,⟨k,p,rfl⟩,λc m=>?_,by omega,i1,i2⟩;have:=bR.mp h1.2 (.int c) (List.mem_map_of_mem m);simpa[wi] using this
  |_=>simp[rooms]at h1
 ·simp at h
section
variable {rs : List Int} {hold hour : Int} 
end
end K2
namespace L2.DL
section
variable {env1 : aJ} {bx2 : List Bx} {l : List W} {c : Nat}
end
end L2.DL
namespace K2
open PySem PySem.Spec PyProof.Rows L2 L2.DL K1
section
variable {h : D} {rs : List Int} {hold : Int} 
theorem OR (H:Qm h rs hold) {f:List W->List Bx->O W}(hf:∀ d lo hi bx,f [.d d,.d (.int lo),.d (.int hi)] bx=.val (.d (.bl (wi d lo hi))) bx) (r:D) (e1:dV i env bx=.val (.d h) bx) (e2:dV j env bx=.val (.d r) bx) :
 fj f 3 (fb (dV j) (fb (dC (.int 0)) (fb (d2 false cL (dN false az (fb (d2 false ax (dV i) (dC (.int 0))) fe)) (dC (.int 1))) fe))) env bx=.val (.d (.bl (wi r 0 ((rs.length:Int)-1)))) bx:=by
 obtain⟨⟨k,p,rfl⟩,_⟩:=H;have e0:ax (.tup [.tup (rs.map D.int),k,p,.int hold]) (.int 0)=some (.old (.tup (rs.map D.int))):=by simp[ax,aY,cz]
 have el:az [.tup (rs.map D.int)]=some (.old (.int rs.length)):=by simp[az]
 exact fK (ff e2 (ff rfl (ff (fH (r:=.old _) (gY [.tup (rs.map D.int)] (ff (fH e1 rfl e0) rfl) el) rfl rfl) rfl))) rfl (hf _ _ _ _)
theorem JI (H:Qm h rs hold) (r:D):iy [.d h,.d r] bx=.val (.d (.bl (wi r 0 ((rs.length:Int)-1)))) bx :=
 gh (gE (OR H iW r rfl rfl))
end
end K2
namespace K1
open PySem PySem.Spec PyProof.Rows L2 L2.DL
section
variable {p : Int} {x y : Bx} {E : List Bx}
theorem lF (h:n<bx.length):pt bx n p++E=pt (bx++E) n p:=by
 unfold pt;rw[Wt _ _ h]
theorem jY (h:n<bx.length):(pt (bx++[x]) n p)[bx.length]?=some x:=by
 rw[<-lF h,<-jx (bx:=bx) (n:=n) (p:=p)];exact Wu
theorem mR (h:n<bx.length):(pt (bx++[x]) n p).set bx.length y=pt (bx++[y]) n p:=by
 rw[<-lF h,<-lF h,<-jx (bx:=bx) (n:=n) (p:=p),vn _ _ (ak _),nH];rfl
theorem C6 (h:n<bx.length):(pt (bx++E) n p).take bx.length=pt bx n p:=by
 rw[<-lF h,<-jx (bx:=bx) (n:=n) (p:=p),List.take_left]
end
theorem OT (h:n<bx.length) (p k:Int) (hk:0<k) (uG:k<1073741824):∃ r q,fg [.b n,.d (.int k)] (pt bx n p)=.val (.d (.int r)) (pt bx n q) /\ 0<=r /\ r<k :=
 ⟨_,_,OK h p k hk uG,MG p hk,MH p hk⟩
end K1
namespace K2
open PySem PySem.Spec PyProof.Rows L2 L2.DL K1
end K2
namespace bz
open PySem PySem.Spec PyProof.Rows L2 L2.DL K1
theorem oB (h:n<bx.length) {p p1:Int}(he:env[i]?=some (xB n)) {k:Int}(hm:m env (pt bx n p)=.val (.d (.int k)) (pt bx n p1)) (h0:0<k) (h1:k<1073741824) :
 ∃ r q,fj K1.fg 2 (fb (dV i) (fb m fe)) env (pt bx n p)=.val (.d (.int r)) (pt bx n q) /\ 0<=r /\ r<k:=by
 obtain⟨r,q,t,a,b⟩:=OT h p1 k h0 h1;refine⟨r,q,?_,a,b⟩;have e0:dV i env (pt bx n p)=.val (.b n) (pt bx n p):=by unfold dV;rw[he]
 exact fK (ff e0 (ff hm rfl)) rfl t
theorem wm (h:n<bx.length) (p:Int) (he:env[i]?=some (xB n)) (k:Int) (h0:0<k) (h1:k<1073741824) :
 ∃ r q,fj K1.fg 2 (fb (dV i) (fb (dC (.int k)) fe)) env (pt bx n p)=.val (.d (.int r)) (pt bx n q) /\ 0<=r /\ r<k :=
 oB h he (m:=dC (.int k)) rfl h0 h1
theorem B5 (h:n<bx.length) (p:Int) (he:env[i]?=some (xB n)) (l:List Int) (hk:∀ e b,ks e b=.val ((l.map D.int).map W.d) b) {k:Int}(hl:(l.length:Int)=k) (h0:0<k) (h1:k<1000) :
 ∃ v q,d2 false ax (fZ false ks) (fj K1.fg 2 (fb (dV i) (fb (dC (.int k)) fe))) env (pt bx n p)=.val (.d (.int v)) (pt bx n q) /\ v∈l:=by
 obtain⟨r,q,t,a,b⟩:=wm h p he k h0 (by omega);obtain⟨d,e,m⟩:=OL (l:=l.map D.int) a (by rw[aF,hl];exact b);obtain⟨v,mv,rfl⟩:=aT.mp m;have sz:=ba;exact⟨v,q,fH (r:=.old (.int v)) (BZ (l.map D.int) (hk _ _) (by rw[aF];omega)) t (by simp only[ax,e,qf]),mv⟩
theorem MR (h:m env bx=.val (.b j) bx1) (g:bx1[j]?=some (.lst l)):dN false az (fb m fe) env bx=.val (.d (.int l.length)) bx1:=by
 rw[DY,ff (w:=.b j) (l:=[]) h rfl,fN];have:df bx1 [.b j]=some [.lst l]:=by simp only[df,aG,g,a9,qf]
 rw[this];rfl
theorem MS (h:m env bx=.val (.b j) bx1) (g:bx1[j]?=some (.lst l)):dN false kz (fb m fe) env bx=.val (.d (.tup l)) bx1:=by
 rw[DY,ff (w:=.b j) (l:=[]) h rfl,fN];have:df bx1 [.b j]=some [.lst l]:=by simp only[df,aG,g,a9,qf]
 rw[this];rfl
theorem PL {p:Int}(h:j≠n):(pt bx n p)[j]?=bx[j]?:=by unfold pt;rw[sd (Ne.symm h)]
noncomputable abbrev ac0:DE W:=dN false kz (fb (fk false [none,some 0] (bP (fb (d2 false fO (dC (.int 1)) (fj K1.fg 2 (fb (dV 0) (fb (dC (.int 5)) fe)))) fe)) (fc 0) fw (fj K1.fg 2 (fb (dV 1) (fb (dC (.int 4)) fe)))) fe)
theorem OU (h:n<bx.length) (p:Int) (env:aJ):∃ ds q,rooms (.tup ds)=true /\ ac0 (xB n::env) (pt bx n p)=.val (.d (.tup ds)) (pt bx n q):=by
 have sz:=ba;obtain⟨r,q0,t5,lo,hi⟩:=wm h p (env:=xB n::env) (i:=0) rfl 5 (by decide) (by decide);obtain⟨j,rfl⟩:=Iv lo
 obtain⟨ds,q,e1,e2,e3⟩:=BY (g:=fc 0) (te:=fj K1.fg 2 (fb (dV 1) (fb (dC (.int 4)) fe))) (λe=>∃ w,e=[w,xB n]) (λd=>wi d 0 3=true) (bx:=bx) (n:=n) (fA 0 (1+j)) [none,xB n] q0 [] ⟨none,rfl⟩ (by
  intro w _ env p ⟨w0,je⟩;obtain⟨r,q,t,b1,b2⟩:=wm h p (env:=[some w,xB n]) (i:=1) rfl 4 (by decide) (by decide);exact⟨[some w,xB n],by simp[je],⟨_,rfl⟩,.int r,q,t,by simp[wi];omega⟩) (by simp[fA];omega)
 have n5:ds.length=1+j:=by rw[e2];simp[fA]
 refine⟨ds,q,?_,?_⟩
 ·have a1:tl (.tup ds) 1 5=true:=by simp[tl];omega
  have a2:(ds.all λx=>wi x 0 3)=true:=bR.mpr e3;simp[rooms,a1,a2]
 ·have rg:bP (fb (d2 false fO (dC (.int 1)) (fj K1.fg 2 (fb (dV 0) (fb (dC (.int 5)) fe)))) fe) (xB n::env) (pt bx n p)=.val (fA 0 (1+j)) (pt bx n q0):=by
   have a:=ff (ks:=fe) (fH (g:=fO) (r:=.old (.int (1+(j:Int)))) (m:=dC (.int 1)) rfl t5 rfl) rfl;rw[jd a (by omega),show (1+(j:Int)).toNat=1+j by omega]
  rw[HU]at e1;exact gY (r:=.tup ds) [.lst ds] (ff (iS rg rfl e1) rfl) rfl
noncomputable abbrev Qn:ai:=fE (fF (dN false dj (fb (fk false [none,some 0] (bP (fb (dC (.int 4)) fe)) (fc 0) fw (fj K1.fg 2 (fb (dV 1) (fb (d2 false ax (fZ false (fb (dC (.int 2)) (fb (dC (.int 4)) (fb (dC (.int 10)) fe)))) (fj K1.fg 2 (fb (dV 1) (fb (dC (.int 3)) fe)))) fe)))) fe)) (fc 4)) (gn (eB (dV 2) (fV (fb (d2 false ax (fZ false (fb (dC (.int 5)) (fb (dC (.int 40)) (fb (dC (.int 300)) (fb (dC (.int 999)) fe))))) (fj K1.fg 2 (fb (dV 0) (fb (dC (.int 4)) fe)))) (fb (dN false kz (fb (uA false (dV 4)) fe)) fe)))))
theorem OV (h:n<bx.length) (p:Int) (ks:List D) (hl:ks.length<=1000) (x1 x3 x4 x5 x6 x7:Option W) :
 ∃ k x q,Qn [xB n,x1,xB bx.length,x3,x4,x5,x6,x7] (pt (bx++[.lst ks]) n p)=.nx [xB n,x1,xB bx.length,x3,x,x5,x6,x7] (pt (bx++[.lst (ks++[k])]) n q) /\ kind k=true:=by
 have sz:=ba;have h1:n<(bx++[Bx.lst ks]).length:=by simp;omega
 obtain⟨ds,q,e1,e2,e3⟩:=BY (g:=fc 0) (te:=fj K1.fg 2 (fb (dV 1) (fb (d2 false ax (fZ false (fb (dC (.int 2)) (fb (dC (.int 4)) (fb (dC (.int 10)) fe)))) (fj K1.fg 2 (fb (dV 1) (fb (dC (.int 3)) fe)))) fe))) (λe=>∃ w,e=[w,xB n]) digit (bx:=bx++[Bx.lst ks]) (n:=n) (fA 0 4) [none,xB n] p [] ⟨none,rfl⟩ (by
  intro w _ env p ⟨w0,je⟩;refine⟨[some w,xB n],by simp[je],⟨_,rfl⟩,?_⟩;obtain⟨v,q,t,mv⟩:=B5 h1 p (env:=[some w,xB n]) (i:=1) rfl [2,4,10] (λ_ _=>rfl) (k:=3) rfl (by decide) (by decide);have hv:0<v /\ v<=10:=by simp at mv;omega
  obtain⟨r,q2,t2,b1,b2⟩:=oB h1 (env:=[some w,xB n]) (i:=1) rfl t hv.1 (by omega);exact⟨.int r,q2,t2,r,rfl,b1,by omega⟩) (by simp[fA];omega)
 obtain⟨ns,rfl,c8⟩:=Bs e3;have n4:ns.length=4:=by
  rw[aF]at e2;rw[e2];simp[fA]
 have so:dj [.lst (ns.map D.int)]=some (.lst ((sortI ns).map D.int)):=by simp[dj,sW,K1.jE,n4]
 have rr:=MJ n4 c8;have rg:∀ env bx,bP (fb (dC (.int 4)) fe) env bx=.val (fA 0 4) bx:=λenv bx=>jd (j:=4) (bx1:=bx) (by simp) (by decide);rw[HU]at e1;generalize hS:(sortI ns).map D.int=S at so rr;obtain⟨v,q2,t4,mv⟩:=B5 h1 q (env:=[xB n,x1,xB bx.length,x3,some (.d (.lst S)),x5,x6,x7]) (i:=0) rfl [5,40,300,999] (ks:=fb (dC (.int 5)) (fb (dC (.int 40)) (fb (dC (.int 300)) (fb (dC (.int 999)) fe)))) (λ_ _=>rfl) (k:=4) rfl (by decide) (by decide);have hv:wi (.int v) 1 999=true:=by simp at mv;simp[wi];omega
 refine⟨.tup [.int v,.tup S.reverse],some (.d (.lst S)),q2,?_,by simp[kind,tl,hv,rr]⟩;have b1:=jY (p:=q) (x:=.lst ks) h;have b2:=jY (p:=q2) (x:=.lst ks) h;have s1:fF (dN false dj (fb (fk false [none,some 0] (bP (fb (dC (.int 4)) fe)) (fc 0) fw (fj K1.fg 2 (fb (dV 1) (fb (d2 false ax (fZ false (fb (dC (.int 2)) (fb (dC (.int 4)) (fb (dC (.int 10)) fe)))) (fj K1.fg 2 (fb (dV 1) (fb (dC (.int 3)) fe)))) fe)))) fe)) (fc 4) [xB n,x1,xB bx.length,x3,x4,x5,x6,x7] (pt (bx++[.lst ks]) n p)=.nx [xB n,x1,xB bx.length,x3,some (.d (.lst S)),x5,x6,x7] (pt (bx++[.lst ks]) n q):=
  fU (gY (r:=.lst S) [.lst (ns.map D.int)] (ff (iS (rg _ _) rfl e1) rfl) so)
 have tv:fV (fb (d2 false ax (fZ false (fb (dC (.int 5)) (fb (dC (.int 40)) (fb (dC (.int 300)) (fb (dC (.int 999)) fe))))) (fj K1.fg 2 (fb (dV 0) (fb (dC (.int 4)) fe)))) (fb (dN false kz (fb (uA false (dV 4)) fe)) fe)) [xB n,x1,xB bx.length,x3,some (.d (.lst S)),x5,x6,x7] (pt (bx++[.lst ks]) n q)=.val (.d (.tup [.int v,.tup S.reverse])) (pt (bx++[.lst ks]) n q2):=by
  generalize pt (bx++[.lst ks]) n q=B at t4 ⊢;generalize pt (bx++[.lst ks]) n q2=B' at t4 ⊢;have r1:uA false (dV 4) [xB n,x1,xB bx.length,x3,some (.d (.lst S)),x5,x6,x7] B'=.val (.d (.lst S.reverse)) B':=rfl;exact gz [.int v,.tup S.reverse] (ff t4 (ff (gY (r:=.tup S.reverse) [.lst S.reverse] (ff r1 rfl) rfl) rfl)) (show (2:Nat)<=sizeLine by omega)
 have ap:=C5 (m:=dV 2) (env:=[xB n,x1,xB bx.length,x3,some (.d (.lst S)),x5,x6,x7]) rfl b1 tv b2 (by omega);rw[mR h]at ap;exact(fu s1).trans (jy ap)
theorem C7:∀ {ps:List (Int×Int)}{x:Int×Int},kY ps=true->(∀ q∈ps,qJ q x=true)->kY (ps++[x])=true
 |[],_,_,_=>rfl
 |[p],x,_,h=>by simp[kY,h p (by simp)]
 | p::q::r,x,h,hx=>by
   simp only[kY,aA]at h;have ih:=C7 (ps:=q::r) (x:=x) h.2 (λz m=>hx z (bF _ m));show (qJ p q&&kY (q::(r++[x])))=true;rw[h.1];exact ih
theorem SM {q x:Int×Int}(h:q.1<x.1 \/ (q.1=x.1 /\ q.2<x.2)):qJ q x=true:=by
 unfold qJ;simp only[HT.fG,HT.lT];split
 ·split
  ·omega
  ·rw[decide_eq_true_eq];omega
 ·rw[decide_eq_true_eq];omega
structure Up (ps:List (Int×Int)) (k:Nat) (a b:Int):Prop where
 i:kY ps=true
 bd:∀ q∈ps,0<=q.1 /\ q.1<q.2 /\ q.2<(k:Int)
 u:∀ q∈ps,q.1<a \/ (q.1=a /\ q.2<b)
theorem Up.push {a b:Int}(h:Up ps k a b) (h0:0<=a) (h1:a<b) (h2:b<(k:Int)):Up (ps++[(a,b)]) k a (b+1):=by
 refine⟨C7 h.i λq m=>SM (h.u q m),λq m=>?_,λq m=>?_⟩
 ·rcases bH.mp m with m|m
  ·exact h.bd q m
  ·rw[a7.mp m];exact⟨h0,h1,h2⟩
 ·rcases bH.mp m with m|m
  ·have:=h.u q m;omega
  ·rw[a7.mp m];exact .inr ⟨rfl,by show b<b+1;omega⟩
theorem Up.next {a b:Int}(h:Up ps k a b):Up ps k a (b+1):=⟨h.i,h.bd,λq m=>by have:=h.u q m;omega⟩
theorem Up.row {a b c:Int}(h:Up ps k a b):Up ps k (a+1) c:=⟨h.i,h.bd,λq m=>by have:=h.u q m;omega⟩
noncomputable abbrev yq:ai:=bp (dB (d2 false bI (fj K1.fg 2 (fb (dV 0) (fb (dC (.int 3)) fe))) (dC (.int 0)))) (gn (eB (dV 5) (fV (fb (dV 6) (fb (dV 7) fe))))) bj
theorem Gr {a b:Int}:bI (.int a) (.int b)=some (.old (.bl (decide (a=b)))):=by simp[bI]
theorem OW (h:n<bx.length) (p:Int) (ps:List (Int×Int)) (hl:ps.length<=1000) (a b:Int) (x1 x2 x3 x4:Option W) :
 ∃ cC q,yq [xB n,x1,x2,x3,x4,xB bx.length,xN a,xN b] (pt (bx++[.lst (ps.map dP)]) n p)=.nx [xB n,x1,x2,x3,x4,xB bx.length,xN a,xN b] (pt (bx++[.lst (cC.map dP)]) n q) /\ (cC=ps \/ cC=ps++[(a,b)]):=by
 have sz:=ba;have h1:n<(bx++[Bx.lst (ps.map dP)]).length:=by simp;omega
 obtain⟨r,q,t,b1,b2⟩:=wm h1 p (env:=[xB n,x1,x2,x3,x4,xB bx.length,xN a,xN b]) (i:=0) rfl 3 (by decide) (by decide);have bg:=jY (p:=q) (x:=.lst (ps.map dP)) h;by_cases hr:r=0
 ·refine⟨ps++[(a,b)],q,?_,.inr rfl⟩;have c:dB (d2 false bI (fj K1.fg 2 (fb (dV 0) (fb (dC (.int 3)) fe))) (dC (.int 0))) [xB n,x1,x2,x3,x4,xB bx.length,xN a,xN b] (pt (bx++[.lst (ps.map dP)]) n p)=.val true (pt (bx++[.lst (ps.map dP)]) n q):=by
   refine gj (b:=true) (fH (r:=.old (.bl true)) t rfl ?_);rw[Gr,hr];rfl
  have ap:=C5 (m:=dV 5) (k:=fV (fb (dV 6) (fb (dV 7) fe))) (env:=[xB n,x1,x2,x3,x4,xB bx.length,xN a,xN b]) (d:=dP (a,b)) rfl bg (gz [.int a,.int b] rfl (show (2:Nat)<=sizeLine by omega)) bg (by rw[aF];omega);rw[mR h,show ps.map dP++[dP (a,b)]=(ps++[(a,b)]).map dP by simp]at ap;exact(Fi c).trans (jy ap)
 ·refine⟨ps,q,?_,.inl rfl⟩;have c:dB (d2 false bI (fj K1.fg 2 (fb (dV 0) (fb (dC (.int 3)) fe))) (dC (.int 0))) [xB n,x1,x2,x3,x4,xB bx.length,xN a,xN b] (pt (bx++[.lst (ps.map dP)]) n p)=.val false (pt (bx++[.lst (ps.map dP)]) n q):=by
   refine gj (b:=false) (fH (r:=.old (.bl false)) t rfl ?_);rw[Gr,decide_eq_false hr]
  exact mw c
theorem jf {lo:Int}{m:Nat}{w:W}(h:(fA lo m)[j]?=some w):w=.d (.int (lo+j)) /\ j<m:=by
 have hj:=(List.getElem?_eq_some_iff.mp h).1;have hm:j<m:=by simpa[fA] using hj
 simp[fA,hm]at h;exact⟨h.symm,hm⟩
theorem OX (h:n<bx.length) (p:Int) (ps:List (Int×Int)) (k a:Nat) (hk:k<=4) (hl:ps.length<=4*a) (ha:a<k) (U:Up ps k a (a+1)) (x1 x2 x3 x4 w7:Option W) :
 ∃ cC q w',cK (fc 7) yq (fA ((a:Int)+1) (k-(a+1))) [xB n,x1,x2,x3,x4,xB bx.length,xN a,w7] (pt (bx++[.lst (ps.map dP)]) n p)=.nx [xB n,x1,x2,x3,x4,xB bx.length,xN a,w'] (pt (bx++[.lst (cC.map dP)]) n q) /\ cC.length<=4*(a+1) /\ Up cC k ((a+1:Nat):Int) ((a+1:Nat)+1):=by
 obtain⟨ay,bx',e,cC,q,w',rfl,rfl,U',l'⟩:=iD (g:=fc 7) (body:=yq) (λj env bb=>∃ cC q w',env=[xB n,x1,x2,x3,x4,xB bx.length,xN a,w'] /\ bb=pt (bx++[.lst (cC.map dP)]) n q /\ Up cC k a ((a:Int)+1+(j:Nat)) /\ cC.length<=4*a+j) (fA ((a:Int)+1) (k-(a+1))) 0 _ _ ⟨ps,p,w7,rfl,rfl,by simpa using U,by omega⟩ (by
  rintro j w env bb hw ⟨cC,q,w',rfl,rfl,U',l'⟩;rw[nJ]at U' l' ⊢;obtain⟨rfl,hj⟩:=jf hw;obtain⟨ac1,q2,e2,c⟩:=OW h q cC (by omega) (a:Int) ((a:Int)+1+(j:Nat)) x1 x2 x3 x4;refine⟨_,_,_,_,rfl,e2,ac1,q2,_,rfl,rfl,?_,?_⟩
  ·rw[show ((a:Int)+1+((j+1:Nat):Int))=(a:Int)+1+(j:Nat)+1 by omega];rcases c with rfl|rfl
   ·exact U'.next
   ·exact U'.push (by omega) (by omega) (by omega)
  ·rcases c with rfl|rfl
   ·omega
   ·simp;omega)
 have lr:(fA ((a:Int)+1) (k-(a+1))).length=k-(a+1):=by simp[fA]
 rw[lr]at l';refine⟨cC,q,w',e,by omega,?_⟩;have:=U'.row (c:=((a+1:Nat):Int)+1)
 push_cast at this ⊢
 exact this
noncomputable abbrev ac2:ai:=ia (bP (fb (dN false az (fb (dV 2) fe)) fe)) (fc 6) (ia (qx (fb (d2 false fO (dV 6) (dC (.int 1))) (fb (dN false az (fb (dV 2) fe)) fe))) (fc 7) yq)
theorem SN (h:n<bx.length) (p:Int) (ks:List D) (hk:ks.length<=4) (x1 x3 x4:Option W) :
 ∃ ps q w6 w7,ac2 [xB n,x1,xB bx.length,x3,x4,some (.b (bx++[Bx.lst ks]).length),none,none] (pt (bx++[.lst ks]++[.lst []]) n p)=.nx [xB n,x1,xB bx.length,x3,x4,some (.b (bx++[Bx.lst ks]).length),w6,w7] (pt (bx++[.lst ks]++[.lst (ps.map dP)]) n q) /\ ps.length<=16 /\ kY ps=true /\ ∀ q∈ps,0<=q.1 /\ q.1<q.2 /\ q.2<(ks.length:Int):=by
 have h1:n<(bx++[Bx.lst ks]).length:=by simp;omega
 have gk:∀ (q:Int) (l:List D),(pt (bx++[.lst ks]++[.lst l]) n q)[bx.length]?=some (.lst ks):=λq l=>by
  rw[PL (by omega)];simp
 have rg:bP (fb (dN false az (fb (dV 2) fe)) fe) [xB n,x1,xB bx.length,x3,x4,some (.b (bx++[Bx.lst ks]).length),none,none] (pt (bx++[.lst ks]++[.lst []]) n p)=.val (fA 0 ks.length) (pt (bx++[.lst ks]++[.lst []]) n p):=by
  have g:=gk p [];generalize pt (bx++[.lst ks]++[.lst []]) n p=B at g ⊢;rw[jd (ff (MR (m:=dV 2) rfl g) rfl) (by omega),dQ]
 obtain⟨ay,bx',e,ps,q,w6,w7,rfl,rfl,l,U⟩:=iD (g:=fc 6) (body:=ia (qx (fb (d2 false fO (dV 6) (dC (.int 1))) (fb (dN false az (fb (dV 2) fe)) fe))) (fc 7) yq) (λa env bb=>∃ ps q w6 w7,env=[xB n,x1,xB bx.length,x3,x4,some (.b (bx++[Bx.lst ks]).length),w6,w7] /\ bb=pt (bx++[.lst ks]++[.lst (ps.map dP)]) n q /\ ps.length<=4*a /\ Up ps ks.length (a:Nat) ((a:Nat)+1)) (fA 0 ks.length) 0 _ _ ⟨[],p,none,none,rfl,rfl,by simp,⟨rfl,by simp,by simp⟩⟩ (by
  rintro a w env bb hw ⟨ps,q,w6,w7,rfl,rfl,l,U⟩;rw[nJ]at l U ⊢;obtain⟨rfl,ha⟩:=jf hw;rw[Iw];obtain⟨cC,q',w',e',l',U'⟩:=OX h1 q ps ks.length a hk l ha U x1 (xB bx.length) x3 x4 w7;refine⟨_,_,[xB n,x1,xB bx.length,x3,x4,some (.b (bx++[Bx.lst ks]).length),xN a,w'],pt (bx++[.lst ks]++[.lst (cC.map dP)]) n q',rfl,?_,cC,q',xN a,w',rfl,rfl,l',U'⟩;have g:=gk q (ps.map dP);generalize pt (bx++[.lst ks]++[.lst (cC.map dP)]) n q'=B' at e' ⊢;generalize pt (bx++[.lst ks]++[.lst (ps.map dP)]) n q=B at g e' ⊢;have r2:qx (fb (d2 false fO (dV 6) (dC (.int 1))) (fb (dN false az (fb (dV 2) fe)) fe)) [xB n,x1,xB bx.length,x3,x4,some (.b (bx++[Bx.lst ks]).length),xN a,w7] B=.val (fA ((a:Int)+1) (ks.length-(a+1))) B:=by
   have c1:=ff (env:=[xB n,x1,xB bx.length,x3,x4,some (.b (bx++[Bx.lst ks]).length),xN a,w7]) (fH (g:=fO) (r:=.old (.int ((a:Int)+1))) (m:=dV 6) (k:=dC (.int 1)) rfl rfl rfl) (ff (ks:=fe) (MR (m:=dV 2) rfl g) rfl);rw[MA c1 (by omega),show ((ks.length:Int)-((a:Int)+1)).toNat=ks.length-(a+1) by omega]
  exact(iK r2).trans e')
 have lr:(fA 0 ks.length).length=ks.length:=by simp[fA]
 rw[lr,nJ]at l U;exact⟨ps,q,w6,w7,(iK rg).trans e,by omega,U.i,U.bd⟩
theorem MT (h:n<bx.length) (p:Int) (x1:Option W) :
 ∃ ks q x3 x4,ia (bP (fb (d2 false fO (dC (.int 1)) (fj K1.fg 2 (fb (dV 0) (fb (d2 false ax (fZ false (fb (dC (.int 1)) (fb (dC (.int 2)) (fb (dC (.int 4)) fe)))) (fj K1.fg 2 (fb (dV 0) (fb (dC (.int 3)) fe)))) fe)))) fe)) (fc 3) Qn [xB n,x1,xB bx.length,none,none,none,none,none] (pt (bx++[.lst []]) n p)=.nx [xB n,x1,xB bx.length,x3,x4,none,none,none] (pt (bx++[.lst ks]) n q) /\ 1<=ks.length /\ ks.length<=4 /\ ∀ k∈ks,kind k=true:=by
 have h1:n<(bx++[Bx.lst []]).length:=by simp;omega
 obtain⟨v,q,t,mv⟩:=B5 h1 p (env:=[xB n,x1,xB bx.length,none,none,none,none,none]) (i:=0) rfl [1,2,4] (ks:=fb (dC (.int 1)) (fb (dC (.int 2)) (fb (dC (.int 4)) fe))) (λ_ _=>rfl) (k:=3) rfl (by decide) (by decide);have hv:0<v /\ v<=4:=by simp at mv;omega
 obtain⟨r,q2,t2,b1,b2⟩:=oB h1 (env:=[xB n,x1,xB bx.length,none,none,none,none,none]) (i:=0) rfl t hv.1 (by omega);obtain⟨j,rfl⟩:=Iv b1;have rg:bP (fb (d2 false fO (dC (.int 1)) (fj K1.fg 2 (fb (dV 0) (fb (d2 false ax (fZ false (fb (dC (.int 1)) (fb (dC (.int 2)) (fb (dC (.int 4)) fe)))) (fj K1.fg 2 (fb (dV 0) (fb (dC (.int 3)) fe)))) fe)))) fe) [xB n,x1,xB bx.length,none,none,none,none,none] (pt (bx++[.lst []]) n p)=.val (fA 0 (1+j)) (pt (bx++[.lst []]) n q2):=by
  have a:=ff (ks:=fe) (fH (g:=fO) (r:=.old (.int (1+(j:Int)))) (m:=dC (.int 1)) rfl t2 rfl) rfl;rw[jd a (by omega),show (1+(j:Int)).toNat=1+j by omega]
 obtain⟨ay,bx',e,ks,q3,x3,x4,rfl,rfl,l,hk⟩:=iD (g:=fc 3) (body:=Qn) (λi env bb=>∃ ks q x3 x4,env=[xB n,x1,xB bx.length,x3,x4,none,none,none] /\ bb=pt (bx++[.lst ks]) n q /\ ks.length=i /\ ∀ k∈ks,kind k=true) (fA 0 (1+j)) 0 _ _ ⟨[],q2,none,none,rfl,rfl,rfl,by simp⟩ (by
  rintro i w env bb hw ⟨ks,q,x3,x4,rfl,rfl,l,hk⟩;rw[nJ]at l ⊢;obtain⟨rfl,hi⟩:=jf hw;obtain⟨k,x,q',e',zR⟩:=OV h q ks (by omega) x1 (xN (0+(i:Nat))) x4 none none none;refine⟨_,_,[xB n,x1,xB bx.length,xN (0+(i:Nat)),x,none,none,none],_,rfl,e',ks++[k],q',_,x,rfl,rfl,by simp[l],λz m=>?_⟩;rcases bH.mp m with m|m
  ·exact hk z m
  ·rw[a7.mp m];exact zR)
 have lr:(fA 0 (1+j)).length=1+j:=by simp[fA]
 rw[lr,nJ]at l;exact⟨ks,q3,x3,x4,(iK rg).trans e,by omega,by omega,hk⟩
theorem SO (h:n<bx.length) (p:Int) (env:aJ):∃ v q,d2 false fO (dC (.int 1)) (fj K1.fg 2 (fb (dV 0) (fb (d2 false ax (fZ false (fb (dC (.int 3)) (fb (dC (.int 9)) fe))) (fj K1.fg 2 (fb (dV 0) (fb (dC (.int 2)) fe)))) fe))) (xB n::env) (pt bx n p)=.val (.d (.int v)) (pt bx n q) /\ 1<=v /\ v<=9:=by
 obtain⟨v,q,t,mv⟩:=B5 h p (env:=xB n::env) (i:=0) rfl [3,9] (ks:=fb (dC (.int 3)) (fb (dC (.int 9)) fe)) (λ_ _=>rfl) (k:=2) rfl (by decide) (by decide);have hv:0<v /\ v<=9:=by simp at mv;omega
 obtain⟨r,q2,t2,b1,b2⟩:=oB h (env:=xB n::env) (i:=0) rfl t hv.1 (by omega);exact⟨1+r,q2,fH (g:=fO) (r:=.old (.int (1+r))) (m:=dC (.int 1)) rfl t2 rfl,by omega,by omega⟩
structure eG (d:D) (n:Nat):Prop where
 h:house d=true
 sm:Sm 999 4 111672 d
 ok:Qj d
 rs:∃ rs k a b,d=.tup [.tup rs,k,a,b] /\ rs.length=n
 n0:1<=n
 n5:n<=5
theorem MU (h:n<bx.length) (p:Int):∃ d k q,iO [.b n] (pt bx n p)=.val (.d d) (pt bx n q) /\ eG d k:=by
 have sz:=ba;obtain⟨rs,q1,hr,e1⟩:=OU h p [none,none,none,none,none,none,none];obtain⟨ks,q2,x3,x4,e2,l1,l4,hk⟩:=MT h q1 (some (.d (.tup rs)));obtain⟨ps,q3,w6,w7,e3,lp,ip,hb⟩:=SN h q2 ks l4 (some (.d (.tup rs))) x3 x4;have h1:n<(bx++[Bx.lst ks]).length:=by simp;omega
 have h2:n<(bx++[Bx.lst ks]++[Bx.lst (ps.map dP)]).length:=by simp;omega
 obtain⟨v,q4,e4,v1,v9⟩:=SO h2 q3 [some (.d (.tup rs)),xB bx.length,x3,x4,some (.b (bx++[Bx.lst ks]).length),w6,w7];have rl:1<=(rs.length:Int) /\ (rs.length:Int)<=5:=by
  simp only[rooms,aA]at hr;exact lE hr.1
 have s1:fF (fZ true fe) (fc 2) [xB n,some (.d (.tup rs)),none,none,none,none,none,none] (pt bx n q1)=.nx [xB n,some (.d (.tup rs)),xB bx.length,none,none,none,none,none] (pt (bx++[.lst []]) n q1):=by
  have a:=mn (env:=[xB n,some (.d (.tup rs)),none,none,none,none,none,none]) (ks:=fe) (bx:=pt bx n q1) [] rfl (cT _);rw[lF h,jx]at a;exact fU a
 have s2:fF (fZ true fe) (fc 5) [xB n,some (.d (.tup rs)),xB bx.length,x3,x4,none,none,none] (pt (bx++[.lst ks]) n q2)=.nx [xB n,some (.d (.tup rs)),xB bx.length,x3,x4,some (.b (bx++[Bx.lst ks]).length),none,none] (pt (bx++[.lst ks]++[.lst []]) n q2):=by
  have a:=mn (env:=[xB n,some (.d (.tup rs)),xB bx.length,x3,x4,none,none,none]) (ks:=fe) (bx:=pt (bx++[.lst ks]) n q2) [] rfl (cT _);rw[lF h1,jx]at a;exact fU a
 have gk:∀ q,(pt (bx++[.lst ks]++[.lst (ps.map dP)]) n q)[bx.length]?=some (.lst ks):=λq=>by
  rw[PL (by omega)];simp
 have gp:=jY (p:=q3) (x:=.lst (ps.map dP)) h1;have Y6:=gk q3;have s3:fQ (fV (fb (dV 1) (fb (dN false kz (fb (dV 2) fe)) (fb (dN false kz (fb (dV 5) fe)) (fb (d2 false fO (dC (.int 1)) (fj K1.fg 2 (fb (dV 0) (fb (d2 false ax (fZ false (fb (dC (.int 3)) (fb (dC (.int 9)) fe))) (fj K1.fg 2 (fb (dV 0) (fb (dC (.int 2)) fe)))) fe)))) fe))))) [xB n,some (.d (.tup rs)),xB bx.length,x3,x4,some (.b (bx++[Bx.lst ks]).length),w6,w7] (pt (bx++[.lst ks]++[.lst (ps.map dP)]) n q3)=.rt (.d (.tup [.tup rs,.tup ks,.tup (ps.map dP),.int v])) (pt (bx++[.lst ks]++[.lst (ps.map dP)]) n q4):=by
  generalize pt (bx++[.lst ks]++[.lst (ps.map dP)]) n q4=B' at e4 ⊢;generalize pt (bx++[.lst ks]++[.lst (ps.map dP)]) n q3=B at e4 Y6 gp ⊢;exact gE (gz [.tup rs,.tup ks,.tup (ps.map dP),.int v] (ff rfl (ff (MS (m:=dV 2) rfl Y6) (ff (MS (m:=dV 5) rfl gp) (ff e4 rfl)))) (show (4:Nat)<=sizeLine by omega))
 have M:lw [xB n,none,none,none,none,none,none,none] (pt bx n p)=.rt (.d (.tup [.tup rs,.tup ks,.tup (ps.map dP),.int v])) (pt (bx++[.lst ks]++[.lst (ps.map dP)]) n q4):=by
  unfold lw;exact(fu (fU e1)).trans ((fu s1).trans ((fu e2).trans ((fu s2).trans ((fu e3).trans s3))))
 refine⟨.tup [.tup rs,.tup ks,.tup (ps.map dP),.int v],rs.length,q4,?_,⟨?_,?_,?_,⟨rs,_,_,_,rfl,rfl⟩,by omega,by omega⟩⟩
 ·refine(Fj M).trans ?_;rw[jx,eK,C6 h]
 ·have a:apart (ks.length:Int) (.tup (ps.map dP))=true:=by
   have b1:(ps.map dP).all (eF (ks.length:Int))=true:=by
    rw[qS,bR];intro p m;have:=hb p m;simp[eF,tl];omega
   show (((ps.map dP).all (eF (ks.length:Int)))&&kY ((ps.map dP).filterMap Ex))=true;rw[Gm,b1,ip];rfl
  have kk:kinds (.tup ks)=true:=by
   have a1:tl (.tup ks) 1 4=true:=by simp[tl];omega
   simp[kinds,a1];exact hk
  have hh:wi (.int v) 1 9=true:=by simp[wi];omega
  simp only[house,lenOf,hr,kk,a,hh,yV]
 ·have r1:Sm 999 1 9618 (.tup rs):=by
   simp only[rooms,aA]at hr;exact(Sm.tup (bD.of (B:=999) (a:=0) (b:=1921) λx m=>ML (bR.mp hr.2 x m) (by decide) (by decide))).mono (by decide) (by omega)
  have r2:Sm 999 3 38503 (.tup ks):=
   (Sm.tup (bD.of (B:=999) (a:=2) (b:=9623) λx m=>OQ (hk x m))).mono (by decide) (by omega)
  have r3:Sm 999 2 61619 (.tup (ps.map dP)):=by
   have z:=bD.of (B:=999) (a:=1) (b:=3849) (l:=ps.map dP) λx m=>by
    obtain⟨p,mp,rfl⟩:=aT.mp m;exact Ub (hb p mp) l4
   rw[aF]at z;exact(Sm.tup z).mono (by decide) (by omega)
  exact(Sm.tup (bD.cons (r1.mono (by decide) (ak _)) (bD.cons r2 (bD.cons (r3.mono (by decide) (ak _)) (bD.cons (Sm.int (by omega)) bD.nil))))).mono (ak _) (by decide)
 ·show (ps.map dP).length<=sizeLine;rw[aF];omega
section
variable {bx2 : List Bx}
theorem Uf {k:DE W}{i:Int}(h:m env bx=.val (.b j) bx1) (hk:k env bx1=.val (.d (.int i)) bx2) (g:bx2[j]?=some (.lst l)) (ha:aY l i=some d):d2 false ax m k env bx=.val (.d d) bx2:=by
 rw[Mk,h,fN,hk,fN];have r1:aG bx2 (.b j)=some (.lst l):=by simp only[aG,g]
 rw[r1,lV,a9,a9];show bN false (Option.map Res.old (aY l i)) _=_;rw[ha];rfl
theorem Ug {mo mi:DE W}{k:Int}{w:D}(h1:mo env bx=.val (.b n) bx1) (h2:mi env bx1=.val (.d (.int k)) bx2) (h3:bx2[n]?=some (.lst l)) (h4:cz l.length k=some j):rK mo mi (.d w) env bx=some (env,bx2.set n (.lst (l.set j w))):=by
 unfold rK;simp only[h1,h2,h3,h4,qf]
theorem Uh {g:DG}{w:W}{ay:aJ}(h:m env bx=.val w bx1) (hg:g w env bx1=some (ay,bx')):fF m g env bx=.nx ay bx':=by
 rw[Mn,h,ou,hg]
theorem Ui {x y:W}{a b:DE W}(h1:a env bx=.val x bx1) (h2:b env bx1=.val y bx2):sU i j (fb a (fb b fe)) env bx=.nx ((env.set i (some x)).set j (some y)) bx2:=by
 unfold sU;rw[ff h1 (ff h2 rfl),ou]
end
theorem AH {m:Nat}(h:0<m):cz m (-1)=some (m-1):=by
 unfold cz;simp;omega
theorem ac3 {l:List (Int×Int)}{z:Int×Int}{t:List (Int×Int)}(h:l=z::t):aY (l.map dP) 0=some (dP z):=by
 subst h;simp[aY,cz]
def Mv (k:Int) (ps:List (Int×Int)):Prop:=∀ q∈ps,0<=q.1 /\ q.1<k /\ 0<=q.2 /\ q.2<k /\ q.1≠q.2
theorem MV {k a r:Int}(hk:2<=k) (Y7:k<=5) (h0:0<=a) (h1:a<k) (h2:0<=r) (h3:r<k-1):0<=(a+1+r) % k /\ (a+1+r) % k<k /\ a≠(a+1+r) % k:=by
 obtain rfl|rfl|rfl|rfl:k=2 \/ k=3 \/ k=4 \/ k=5:=by omega
 all_goals omega
noncomputable abbrev Y8:ai:=bp (dB (d2 false bI (fj K1.fg 2 (fb (dV 0) (fb (dC (.int 5)) fe))) (dC (.int 0)))) (fF (fV (fb (d2 false ax (d2 false ax (dV 3) (dC (.int 0))) (dC (.int 1))) (fb (d2 false ax (d2 false ax (dV 3) (dC (.int 0))) (dC (.int 0))) fe))) (rK (dV 3) (qC (dC (.int 1))))) bj
noncomputable abbrev Y9:ai:=fE (fF (fj K1.fg 2 (fb (dV 0) (fb (dV 2) fe))) (fc 5)) (fE (fF (d2 false eA (d2 false fO (d2 false fO (dV 5) (dC (.int 1))) (fj K1.fg 2 (fb (dV 0) (fb (d2 false cL (dV 2) (dC (.int 1))) fe)))) (dV 2)) (fc 6)) (fE (gn (eB (dV 3) (fV (fb (dV 5) (fb (dV 6) fe))))) Y8))
theorem SQ (h:n<bx.length) (p k:Int) (ps:List (Int×Int)) (x:Int×Int) (M:Mv k (ps++[x])) (x1 x2 w4 w5 w6:Option W) :
 ∃ y q,Y8 [xB n,x1,x2,xB bx.length,w4,w5,w6] (pt (bx++[.lst ((ps++[x]).map dP)]) n p)=.nx [xB n,x1,x2,xB bx.length,w4,w5,w6] (pt (bx++[.lst ((ps++[y]).map dP)]) n q) /\ Mv k (ps++[y]):=by
 have sz:=ba;have h1:n<(bx++[Bx.lst ((ps++[x]).map dP)]).length:=by simp;omega
 obtain⟨r,q,t,b1,b2⟩:=wm h1 p (env:=[xB n,x1,x2,xB bx.length,w4,w5,w6]) (i:=0) rfl 5 (by decide) (by decide);have bg:=jY (p:=q) (x:=.lst ((ps++[x]).map dP)) h;obtain⟨z,tl,hz⟩:∃ z t,ps++[x]=z::t:=by cases ps with|nil=>exact⟨x,[],rfl⟩|cons a l=>exact⟨a,l++[x],rfl⟩
 have mz:z∈ps++[x]:=by rw[hz];exact bQ ..
 by_cases hr:r=0
 ·refine⟨(z.2,z.1),q,?_,λw m=>?_⟩
  ·have c:dB (d2 false bI (fj K1.fg 2 (fb (dV 0) (fb (dC (.int 5)) fe))) (dC (.int 0))) [xB n,x1,x2,xB bx.length,w4,w5,w6] (pt (bx++[.lst ((ps++[x]).map dP)]) n p)=.val true (pt (bx++[.lst ((ps++[x]).map dP)]) n q):=by
    refine gj (b:=true) (fH (r:=.old (.bl true)) t rfl ?_);rw[Gr,hr];rfl
   have st:=mR (p:=q) (x:=.lst ((ps++[x]).map dP)) (y:=.lst ((ps++[(z.2,z.1)]).map dP)) h;have a0:=ac3 hz;have hl:cz ((ps++[x]).map dP).length (-1)=some ps.length:=by
    rw[AH (by simp)];simp
   have es:((ps++[x]).map dP).set ps.length (D.tup [.int z.2,.int z.1])=(ps++[(z.2,z.1)]).map dP:=by
    rw[eL,eL,vn _ _ (by simp)];simp
   refine(Fi c).trans ?_;generalize pt (bx++[.lst ((ps++[(z.2,z.1)]).map dP)]) n q=B' at st ⊢;generalize pt (bx++[.lst ((ps++[x]).map dP)]) n q=B at bg st ⊢;generalize (ps++[x]).map dP=L at bg a0 hl es;have i0:d2 false ax (dV 3) (dC (.int 0)) [xB n,x1,x2,xB bx.length,w4,w5,w6] B=.val (.d (dP z)) B:=Uf rfl rfl bg a0;have tv:fV (fb (d2 false ax (d2 false ax (dV 3) (dC (.int 0))) (dC (.int 1))) (fb (d2 false ax (d2 false ax (dV 3) (dC (.int 0))) (dC (.int 0))) fe)) [xB n,x1,x2,xB bx.length,w4,w5,w6] B=.val (.d (.tup [.int z.2,.int z.1])) B :=
    gz [.int z.2,.int z.1] (ff (fH (r:=.old (.int z.2)) i0 rfl rfl) (ff (fH (r:=.old (.int z.1)) i0 rfl rfl) rfl)) (show (2:Nat)<=sizeLine by omega)
   have sv:=Ug (env:=[xB n,x1,x2,xB bx.length,w4,w5,w6]) (mo:=dV 3) (mi:=qC (dC (.int 1))) (w:=D.tup [.int z.2,.int z.1]) (bx:=B) (n:=bx.length) rfl (SK rfl) bg hl;rw[es,st]at sv;exact Uh tv sv
  ·rcases bH.mp m with m|m
   ·exact M w (bH.mpr (.inl m))
   ·rw[a7.mp m];have:=M z mz;exact⟨this.2.2.1,this.2.2.2.1,this.1,this.2.1,Ne.symm this.2.2.2.2⟩
 ·refine⟨x,q,?_,M⟩;have c:dB (d2 false bI (fj K1.fg 2 (fb (dV 0) (fb (dC (.int 5)) fe))) (dC (.int 0))) [xB n,x1,x2,xB bx.length,w4,w5,w6] (pt (bx++[.lst ((ps++[x]).map dP)]) n p)=.val false (pt (bx++[.lst ((ps++[x]).map dP)]) n q):=by
   refine gj (b:=false) (fH (r:=.old (.bl false)) t rfl ?_);rw[Gr,decide_eq_false hr]
  exact mw c
theorem OY (h:n<bx.length) (p k:Int) (hk:2<=k) (Y7:k<=5) (ps:List (Int×Int)) (hl:ps.length<=1000) (M:Mv k ps) (x1 w4 w5 w6:Option W) :
 ∃ y q Ey Ez,Y9 [xB n,x1,xN k,xB bx.length,w4,w5,w6] (pt (bx++[.lst (ps.map dP)]) n p)=.nx [xB n,x1,xN k,xB bx.length,w4,Ey,Ez] (pt (bx++[.lst ((ps++[y]).map dP)]) n q) /\ Mv k (ps++[y]):=by
 have sz:=ba;have h1:n<(bx++[Bx.lst (ps.map dP)]).length:=by simp;omega
 obtain⟨a,q1,t1,a0,a1⟩:=oB h1 (p:=p) (env:=[xB n,x1,xN k,xB bx.length,w4,w5,w6]) (i:=0) (m:=dV 2) (k:=k) rfl rfl (by omega) (by omega);obtain⟨r,q2,t2,b0,b1⟩:=oB h1 (p:=q1) (env:=[xB n,x1,xN k,xB bx.length,w4,xN a,w6]) (i:=0) (m:=d2 false cL (dV 2) (dC (.int 1))) (k:=k-1) rfl (fH (r:=.old (.int (k-1))) rfl rfl rfl) (by omega) (by omega);obtain⟨c0,c1,c2⟩:=MV hk Y7 a0 a1 b0 b1;have cd:eA (.int (a+1+r)) (.int k)=some (.old (.int ((a+1+r) % k))):=by
  simp[eA];omega
 have bg:=jY (p:=q2) (x:=.lst (ps.map dP)) h;have st:=mR (p:=q2) (x:=.lst (ps.map dP)) (y:=.lst ((ps++[(a,(a+1+r) % k)]).map dP)) h;have M':Mv k (ps++[(a,(a+1+r) % k)]):=λw m=>by
  rcases bH.mp m with m|m
  ·exact M w m
  ·rw[a7.mp m];exact⟨a0,a1,c0,c1,c2⟩
 obtain⟨y,q,e,My⟩:=SQ h q2 k ps _ M' x1 (xN k) w4 (xN a) (xN ((a+1+r) % k));refine⟨y,q,xN a,xN ((a+1+r) % k),?_,My⟩;generalize (a+1+r) % k=b at cd st e ⊢;generalize pt (bx++[.lst ((ps++[y]).map dP)]) n q=B4 at e ⊢;have ap:gn (eB (dV 3) (fV (fb (dV 5) (fb (dV 6) fe)))) [xB n,x1,xN k,xB bx.length,w4,xN a,xN b] (pt (bx++[.lst (ps.map dP)]) n q2)=.nx [xB n,x1,xN k,xB bx.length,w4,xN a,xN b] (pt (bx++[.lst ((ps++[(a,b)]).map dP)]) n q2):=by
  have ap:=C5 (m:=dV 3) (k:=fV (fb (dV 5) (fb (dV 6) fe))) (env:=[xB n,x1,xN k,xB bx.length,w4,xN a,xN b]) (d:=dP (a,b)) rfl bg (gz [.int a,.int b] rfl (show (2:Nat)<=sizeLine by omega)) bg (by rw[aF];omega);rw[show ps.map dP++[dP (a,b)]=(ps++[(a,b)]).map dP by simp,st]at ap;exact jy ap
 refine Eq.trans ?_ e;generalize pt (bx++[.lst ((ps++[(a,b)]).map dP)]) n q2=B3 at ap ⊢;generalize pt (bx++[.lst (ps.map dP)]) n q2=B2 at t2 ap;generalize pt (bx++[.lst (ps.map dP)]) n q1=B1 at t1 t2;refine(fu (fU t1)).trans ((fu (fU (fH (r:=.old (.int b)) (fH (r:=.old (.int (a+1+r))) (fH (r:=.old (.int (a+1))) rfl rfl rfl) t2 rfl) rfl cd))).trans (fu ap))
theorem MW (h:n<bx.length) (p:Int) (H:eG d k):∃ ps q,ig [.b n,.d d] (pt bx n p)=.val (.d (.lst (ps.map dP))) (pt bx n q) /\ Mv k ps /\ ps.length<=10:=by
 have sz:=ba;obtain⟨rs,kk,aa,bb,rfl,hn⟩:=H.rs;have n0:=H.n0;have n5:=H.n5;have h1:n<(bx++[Bx.lst []]).length:=by simp;omega
 have s1:sU 2 3 (fb (dN false az (fb (d2 false ax (dV 1) (dC (.int 0))) fe)) (fb (fZ true fe) fe)) [xB n,some (.d (.tup [.tup rs,kk,aa,bb])),none,none,none,none,none] (pt bx n p)=.nx [xB n,some (.d (.tup [.tup rs,kk,aa,bb])),xN (k:Nat),xB bx.length,none,none,none] (pt (bx++[.lst []]) n p):=by
  have a:=mn (env:=[xB n,some (.d (.tup [.tup rs,kk,aa,bb])),none,none,none,none,none]) (ks:=fe) (bx:=pt bx n p) [] rfl (cT _);rw[lF h,jx]at a;have b:dN false az (fb (d2 false ax (dV 1) (dC (.int 0))) fe) [xB n,some (.d (.tup [.tup rs,kk,aa,bb])),none,none,none,none,none] (pt bx n p)=.val (.d (.int (k:Nat))) (pt bx n p):=
   gY (r:=.old (.int (k:Nat))) [.tup rs] (ff (fH (r:=.old (.tup rs)) rfl rfl rfl) rfl) (by simp[az,hn])
  exact Ui b a
 obtain⟨c,q1,rg,hc,xR⟩:∃ (c:Nat) (q1:Int),bP (fb (sR (dB (d2 false qy (dV 2) (dC (.int 1)))) (fj K1.fg 2 (fb (dV 0) (fb (dC (.int 11)) fe))) (dC (.int 0))) fe) [xB n,some (.d (.tup [.tup rs,kk,aa,bb])),xN (k:Nat),xB bx.length,none,none,none] (pt (bx++[.lst []]) n p)=.val (fA 0 c) (pt (bx++[.lst []]) n q1) /\ c<=10 /\ (1<=c->2<=k):=by
  by_cases hk:2<=k
  ·obtain⟨r,q1,t,r0,r1⟩:=wm h1 p (env:=[xB n,some (.d (.tup [.tup rs,kk,aa,bb])),xN (k:Nat),xB bx.length,none,none,none]) (i:=0) rfl 11 (by decide) (by decide);obtain⟨c,rfl⟩:=Iv r0;refine⟨c,q1,?_,by omega,λ_=>hk⟩;generalize pt (bx++[.lst []]) n p=B at t ⊢;have ct:dB (d2 false qy (dV 2) (dC (.int 1))) [xB n,some (.d (.tup [.tup rs,kk,aa,bb])),xN (k:Nat),xB bx.length,none,none,none] B=.val true B:=by
    refine gj (b:=true) (fH (r:=.old (.bl true)) rfl rfl ?_);simp[qy];omega
   have di:sR (dB (d2 false qy (dV 2) (dC (.int 1)))) (fj K1.fg 2 (fb (dV 0) (fb (dC (.int 11)) fe))) (dC (.int 0)) [xB n,some (.d (.tup [.tup rs,kk,aa,bb])),xN (k:Nat),xB bx.length,none,none,none] B=.val (.d (.int (c:Nat))) (pt (bx++[.lst []]) n q1):=by
    unfold sR;rw[ct,fN];exact t
   rw[jd (ff di rfl) (by omega),dQ]
  ·refine⟨0,p,?_,by omega,λz=>by omega⟩;generalize pt (bx++[.lst []]) n p=B;have ct:dB (d2 false qy (dV 2) (dC (.int 1))) [xB n,some (.d (.tup [.tup rs,kk,aa,bb])),xN (k:Nat),xB bx.length,none,none,none] B=.val false B:=by
    refine gj (b:=false) (fH (r:=.old (.bl false)) rfl rfl ?_);simp[qy];omega
   have di:sR (dB (d2 false qy (dV 2) (dC (.int 1)))) (fj K1.fg 2 (fb (dV 0) (fb (dC (.int 11)) fe))) (dC (.int 0)) [xB n,some (.d (.tup [.tup rs,kk,aa,bb])),xN (k:Nat),xB bx.length,none,none,none] B=.val (.d (.int 0)) B:=by
    unfold sR;rw[ct,fN];rfl
   exact jd (ff di rfl) (by decide)
 obtain⟨ay,bx',e,ps,q,w4,w5,w6,rfl,rfl,l,M⟩:=iD (g:=fc 4) (body:=Y9) (λi env Za=>∃ ps q w4 w5 w6,env=[xB n,some (.d (.tup [.tup rs,kk,aa,bb])),xN (k:Nat),xB bx.length,w4,w5,w6] /\ Za=pt (bx++[.lst (ps.map dP)]) n q /\ ps.length=i /\ Mv k ps) (fA 0 c) 0 _ _ ⟨[],q1,none,none,none,rfl,rfl,rfl,λ_ m=>nomatch m⟩ (by
  rintro i w env Za hw ⟨ps,q,w4,w5,w6,rfl,rfl,l,M⟩;rw[nJ]at l ⊢;obtain⟨rfl,hi⟩:=jf hw;obtain⟨y,q',Ey,Ez,e',M'⟩:=OY h q (k:Nat) (by have:=xR (by omega);omega) (by omega) ps (by omega) M (some (.d (.tup [.tup rs,kk,aa,bb]))) (xN (0+(i:Nat))) w5 w6;exact⟨_,_,[xB n,some (.d (.tup [.tup rs,kk,aa,bb])),xN (k:Nat),xB bx.length,xN (0+(i:Nat)),Ey,Ez],_,rfl,e',ps++[y],q',_,Ey,Ez,rfl,rfl,by simp[l],M'⟩)
 have lr:(fA 0 c).length=c:=by simp[fA]
 rw[lr,nJ]at l;refine⟨ps,q,?_,M,by omega⟩;have bg:=jY (p:=q) (x:=.lst (ps.map dP)) h;have M2:ly [xB n,some (.d (.tup [.tup rs,kk,aa,bb])),none,none,none,none,none] (pt bx n p)=.rt (.d (.lst (ps.map dP))) ((pt (bx++[.lst (ps.map dP)]) n q).set bx.length .dead):=by
  unfold ly;exact(fu s1).trans ((fu ((iK rg).trans e)).trans (gE (Uc rfl bg)))
 refine(Fj M2).trans ?_;rw[jx,mR h,C6 h]
end bz
namespace K2
open PySem PySem.Spec PyProof.Rows L2 L2.DL K1
end K2
namespace bz
open PySem PySem.Spec PyProof.Rows L2 L2.DL K1
section
variable {bx2 : List Bx}
end
end bz
namespace bz
open PySem PySem.Spec PyProof.Rows L2 L2.DL K1 K2
theorem B6 {k:DE W}{r:O W}(h:m env bx=.val (.d (.bl true)) bx1) (h2:k env bx1=r):gm m k env bx=r:=by rw[o8 h];exact h2
section
variable {h : D} 
theorem OZ (H:eG h k) (r:D):iy [.d h,.d r] bx=.val (.d (.bl (wi r 0 ((k:Int)-1)))) bx:=by
 obtain⟨rs,hold,HI⟩:=JH H.h;have e:=JI (bx:=bx) HI r;obtain⟨afl,kk,a,b,e1,e2⟩:=H.rs;obtain⟨k',p',e3⟩:=HI.e;rw[e1]at e3;have:rs.length=k:=by
  have:=congrArg (λd=>match d with|D.tup (.tup l::_)=>l.length|_=>0) e3;simp at this;omega
 rw[this]at e;exact e
theorem JJ (H:eG h k) {q:Int×Int}(hq:0<=q.1 /\ q.1<(k:Int) /\ 0<=q.2 /\ q.2<(k:Int) /\ q.1≠q.2):iZ [.d h,.d (dP q)] bx=.val (.d (.bl true)) bx:=by
 have sz:=ba;refine gh ?_;have t:=fT (dP q) 2 2 bx;have tt:tl (dP q) 2 2=true:=by simp[tl]
 rw[tt]at t;have ca:bT (fc 0) fw (fj K2.iy 2 (fb (dV 1) (fb (dV 0) fe))) ([D.int q.1,.int q.2].map W.d) [none,some (.d h)] bx []=.val ([D.int q.1,.int q.2].map λd=>.bl (wi d 0 ((k:Int)-1))) bx :=
  gR (λe=>∃ w,e=[w,some (.d h)]) _ ⟨none,rfl⟩ (by
   rintro d m env ⟨w,rfl⟩;exact⟨[some (.d d),some (.d h)],rfl,⟨_,rfl⟩,fK (ff rfl (ff rfl rfl)) rfl (OZ H d)⟩) (show (2:Nat)<=sizeLine by omega)
 have al:([D.int q.1,.int q.2].all λd=>wi d 0 ((k:Int)-1))=true:=by simp[wi];omega
 have a2:dN false bW (fb (fk false [none,some 0] (aj (dV 1)) (fc 0) fw (fj K2.iy 2 (fb (dV 1) (fb (dV 0) fe)))) fe) [some (.d h),some (.d (dP q))] bx=.val (.d (.bl true)) bx :=
  gY (r:=.old (.bl true)) [.lst ([D.int q.1,.int q.2].map λd=>.bl (wi d 0 ((k:Int)-1)))] (ff (iS (mQ rfl) rfl ca) rfl) (by rw[all_map,al])
 have a3:d2 false eC (d2 false ax (dV 1) (dC (.int 0))) (d2 false ax (dV 1) (dC (.int 1))) [some (.d h),some (.d (dP q))] bx=.val (.d (.bl true)) bx :=
  fH (r:=.old (.bl true)) (fH (r:=.old (.int q.1)) rfl rfl rfl) (fH (r:=.old (.int q.2)) rfl rfl rfl) (by simp[eC,hq.2.2.2.2])
 show oo [some (.d h),some (.d (dP q))] bx=_;unfold oo;exact gE (B6 (fK (ff rfl (ff rfl (ff rfl rfl))) rfl t) (B6 a2 a3))
theorem C8 (H:eG h k) (M:Mv k ps) (hl:ps.length<=10):jS [.d h,.d (.lst (ps.map dP))] bx=.val (.d (.bl true)) bx:=by
 have sz:=ba;refine gh ?_;have ca:bT (fc 0) fw (fj bz.iZ 2 (fb (dV 1) (fb (dV 0) fe))) ((ps.map dP).map W.d) [none,some (.d h)] bx []=.val ((ps.map dP).map λd=>.bl true) bx :=
  gR (λe=>∃ w,e=[w,some (.d h)]) _ ⟨none,rfl⟩ (by
   rintro d m env ⟨w,rfl⟩;obtain⟨q,mq,rfl⟩:=aT.mp m;exact⟨[some (.d (dP q)),some (.d h)],rfl,⟨_,rfl⟩,fK (ff rfl (ff rfl rfl)) rfl (JJ H (M q mq))⟩) (by rw[aF];omega)
 have a1:ic "list" (dV 1) [some (.d h),xP ps] bx=.val (.d (.bl true)) bx:=rfl;have a2:d2 false cP (dN false az (fb (dV 1) fe)) (dC (.int 10)) [some (.d h),xP ps] bx=.val (.d (.bl true)) bx :=
  fH (r:=.old (.bl true)) (gY (r:=.old (.int ((ps.map dP).length:Nat))) [.lst (ps.map dP)] (ff rfl rfl) rfl) rfl (by simp[cP];omega)
 have a3:dN false bW (fb (fk false [none,some 0] (aj (dV 1)) (fc 0) fw (fj bz.iZ 2 (fb (dV 1) (fb (dV 0) fe)))) fe) [some (.d h),xP ps] bx=.val (.d (.bl true)) bx :=
  gY (r:=.old (.bl true)) [.lst ((ps.map dP).map λd=>.bl true)] (ff (iS (fP rfl) rfl ca) rfl) (by rw[all_map (p:=λ_=>true)];simp)
 show lA [some (.d h),xP ps] bx=_;unfold lA;exact gE (B6 a1 (B6 a2 a3))
theorem B7 (H:eG h k):bz.jv [.d h] bx=.val (.d .aq) bx:=by
 have e:=MC h H.ok bx;rw[H.h]at e;have m:bz.iP [some (.d h)] bx=.nx [some (.d h)] bx:=by
  unfold bz.iP;exact mw (jX (gj (fK (ff rfl rfl) rfl e)))
 show kP bx.length (kO (aH bz.iP [some (.d h)] bx))=_;unfold aH;rw[m];simp[kO,kP]
theorem B8 (H:eG h k) (M:Mv k ps) (hl:ps.length<=10):iB [.d h,.d (.lst (ps.map dP))] bx=.val (.d .aq) bx:=by
 have e:=B7 (bx:=bx) H;have a:=C8 (bx:=bx) H M hl;have m:iQ [some (.d h),xP ps] bx=.nx [some (.d h),xP ps] bx:=by
  unfold iQ;exact(fu (jy (fK (ff rfl rfl) rfl e))).trans (mw (jX (gj (fK (ff rfl (ff rfl rfl)) rfl a))))
 show kP bx.length (kO (aH iQ [some (.d h),xP ps] bx))=_;unfold aH;rw[m];simp[kO,kP]
end
theorem C9 (is:List Int) (b:Int):eD (.int b) (is.map D.int)=is.any λz=>decide (z=b):=by
 unfold eD;rw[HQ];rfl
theorem oC (is:List Int):(is.map D.int).all dG=true:=by rw[qS];exact bR.mpr λ_ _=>rfl
theorem JK (is:List Int) (b:Int):((is.map D.int).findIdx? λz=>Ej z (.int b))=is.findIdx? λz=>decide (z=b):=by
 rw[List.findIdx?_map];rfl
end bz
namespace eE
open PySem PySem.Spec PyProof.Rows L2 L2.DL K1 bz
section
variable {enc : α -> D} {r : aJ}
theorem EA (p:α->Bool) (f:α->D):∀ (l:List α) (w:Option W) (acc:List D),acc.length+l.length<=sizeLine->(∀ a∈l,tf (some (.d (enc a))::r) bx=.val (p a) bx /\ (p a=true->te (some (.d (enc a))::r) bx=.val (.d (f a)) bx)) ->
 bT (fc 0) tf te ((l.map enc).map W.d) (w::r) bx acc=.val (acc++(l.filter p).map f) bx
 |[],w,acc,_,_=>by simp[bT]
 | a::l,w,acc,n,h=>by
   obtain⟨h1,h2⟩:=h a (bQ ..);rw[bA]at n;have n':acc.length<sizeLine:=by omega
   have e0:fc 0 (W.d (enc a)) (w::r) bx=some (some (W.d (enc a))::r,bx):=rfl;cases c:p a with
   | false =>
     rw[ze (by simp[c]),<-EA p f l (some (W.d (enc a))) acc (by omega) λx m=>h x (bF _ m)];rw[c]at h1;simp only[aS,bT,e0,h1,BU]
   | true =>
     rw[zf c];have ih:=EA p f l (some (W.d (enc a))) (acc++[f a]) (by simp;omega) λx m=>h x (bF _ m);rw[c]at h1;simp only[aS,bT,e0,h1,h2 c,BU,if_pos n',ih];simp
theorem pd {src:List (Option Nat)}{l:List α}(p:α->Bool) (f:α->D) (h1:mi env bx0=.val ((l.map enc).map W.d) bx) (he:cg src env=none::r) (n:l.length<=sizeLine)
 (h:∀ a∈l,tf (some (.d (enc a))::r) bx=.val (p a) bx /\ (p a=true->te (some (.d (enc a))::r) bx=.val (.d (f a)) bx)):fk false src mi (fc 0) tf te env bx0=.val (.d (.lst ((l.filter p).map f))) bx :=
 iS h1 he (by rw[EA p f l none [] (by simpa using n) h];rfl)
theorem tL {src:List (Option Nat)}{l:List α}(f:α->D) (h1:mi env bx0=.val ((l.map enc).map W.d) bx) (he:cg src env=none::r) (n:l.length<=sizeLine)
 (h:∀ a∈l,te (some (.d (enc a))::r) bx=.val (.d (f a)) bx):fk false src mi (fc 0) fw te env bx0=.val (.d (.lst (l.map f))) bx:=by
 have:=pd (tf:=fw) (λ_=>true) f h1 he n λa m=>⟨rfl,λ_=>h a m⟩
 rwa [List.filter_eq_self.mpr λ_ _=>rfl]at this
theorem oD (l:List α) (p:α->Bool):nv (l.map λd=>D.bl (p d))=some (l.map p):=by
 induction l with
 |nil=>rfl
 |cons d l ih=>simp[nv,ih]
theorem ac4 {src:List (Option Nat)}{l:List α}(p:α->Bool) (h1:mi env bx0=.val ((l.map enc).map W.d) bx) (he:cg src env=none::r) (n:l.length<=sizeLine)
 (h:∀ a∈l,te (some (.d (enc a))::r) bx=.val (.d (.bl (p a))) bx):dN false bW (fb (fk false src mi (fc 0) fw te) fe) env bx0=.val (.d (.bl (l.all p))) bx :=
 gY (r:=.old (.bl (l.all p))) [.lst (l.map λa=>.bl (p a))] (ff (tL _ h1 he n h) rfl) (by simp[bW,oD,qS])
theorem ac5 {src:List (Option Nat)}{l:List α}(p:α->Bool) (h1:mi env bx0=.val ((l.map enc).map W.d) bx) (he:cg src env=none::r) (n:l.length<=sizeLine)
 (h:∀ a∈l,te (some (.d (enc a))::r) bx=.val (.d (.bl (p a))) bx):dN false vZ (fb (fk false src mi (fc 0) fw te) fe) env bx0=.val (.d (.bl (l.any p))) bx :=
 gY (r:=.old (.bl (l.any p))) [.lst (l.map λa=>.bl (p a))] (ff (tL _ h1 he n h) rfl) (by simp[vZ,oD,HQ])
end
noncomputable abbrev tupI (l:List Int):D:=.tup (l.map D.int)
noncomputable abbrev xU (l:List Int):Option W:=some (.d (tupI l))
theorem mS:∀ l:List Int,PyData.canLayAll0 (a8 (l.map D.int))=true /\ PyData.depthAll (a8 (l.map D.int))=0
 |[]=>⟨rfl,rfl⟩
 | i::l=>by
   obtain⟨a,b⟩:=mS l;simp[a8,toPy,PyData.canLayAll0,PyData.canLay0,PyData.depthAll,PyData.depth,a,b]
theorem Db:∀ l:List (List Int),PyData.canLayAll0 (a8 (l.map tupI))=true /\ PyData.depthAll (a8 (l.map tupI))<=1
 |[]=>⟨rfl,cT _⟩
 | i::l=>by
   obtain⟨a,b⟩:=Db l;obtain⟨c,d⟩:=mS i;simp only[aS,a8,toPy,PyData.canLayAll0,PyData.canLay0,PyData.depthAll,PyData.depth,a,c,d];exact⟨rfl,by omega⟩
theorem O0 (l:List Int):dh (tupI l)=true:=by
 obtain⟨c,d⟩:=mS l;simp[dh,toPy,PyData.canLay0,PyData.depth,c,d]
theorem Dc (l:List (List Int)):dh (.lst (l.map tupI))=true:=by
 obtain⟨c,d⟩:=Db l;unfold dh;simp only[toPy,PyData.canLay0,PyData.depth,c,V6,decide_eq_true_eq];omega
theorem Gs:dh (.lst [])=true:=by decide
theorem Fk (ps:List (Int×Int)):ps.map dP=(ps.map λq=>[q.1,q.2]).map tupI:=by rw[dv];rfl
theorem MX (a b:Int×Int):eqv (dP a) (dP b)=decide (a=b):=by
 rw[nK];obtain⟨a1,a2⟩:=a;obtain⟨b1,b2⟩:=b;simp[eqv,toPy,a8,PyData.eqv,PyData.eqvAll]
theorem SR (ps:List (Int×Int)) (q:Int×Int):((ps.map dP).any λz=>eqv z (dP q))=decide (q∈ps):=by
 rw[nK,kh,decide_eq_true_eq];constructor
 ·rintro⟨z,m,e⟩;obtain⟨x,mx,rfl⟩:=aT.mp m;rw[MX,decide_eq_true_eq]at e;exact e▸mx
 ·intro m;exact⟨dP q,aT.mpr ⟨q,m,rfl⟩,by rw[MX,decide_eq_true_eq]⟩
theorem Dd (neg:Bool) (q:Int×Int) (ps:List (Int×Int)):inD neg (dP q) (.lst (ps.map dP))=some (.old (.bl (if neg then !decide (q∈ps) else decide (q∈ps)))):=by
 show (if dG (dP q)=true /\ (ps.map dP).all dG=true then some (Res.old (.bl (if neg then !eD (dP q) (ps.map dP) else eD (dP q) (ps.map dP)))) else tm neg (dP q) (.lst (ps.map dP)) (ps.map dP))=_;rw[if_neg (λz=>by cases z.1)];unfold tm;rw[show dh (dP q)=true from O0 [q.1,q.2],show dh (.lst (ps.map dP))=true by rw[Fk];exact Dc _,SR];rfl
theorem eq_nil (h:dh (.lst l)=true):bI (.lst l) (.lst [])=some (.old (.bl l.isEmpty)):=by
 show sY false (.lst l) (.lst [])=_;unfold sY;rw[h,Gs];cases l<;>simp[eqv,toPy,a8,PyData.eqv,PyData.eqvAll]
theorem SS (h:dh (.lst l)=true):eC (.lst l) (.lst [])=some (.old (.bl (!l.isEmpty))):=by
 show sY true (.lst l) (.lst [])=_;unfold sY;rw[h,Gs];cases l<;>simp[eqv,toPy,a8,PyData.eqv,PyData.eqvAll]
theorem mT (l:List Int):dh (.lst (l.map D.int))=true:=by
 obtain⟨c,d⟩:=mS l;simp[dh,toPy,PyData.canLay0,PyData.depth,c,d]
theorem o9 (neg:Bool) (is:List Int) (b:Int):inD neg (.int b) (.tup (is.map D.int))=some (.old (.bl (if neg then !decide (b∈is) else decide (b∈is)))):=by
 show (if dG (.int b)=true /\ (is.map D.int).all dG=true then some (Res.old (.bl (if neg then !eD (.int b) (is.map D.int) else eD (.int b) (is.map D.int)))) else tm neg _ _ _)=_;rw[if_pos ⟨rfl,oC is⟩,C9];have:(is.any λz=>decide (z=b))=decide (b∈is):=by
  rw[nK];simp
 rw[this]
theorem Gu (is:List Int):(HT.dist is).length<=is.length:=Iu _ _
noncomputable def steps (ps:List (Int×Int)) (is:List Int):Bool:=(is.zip (is.drop 1++is.take 1)).all λq=>decide (q∈ps)
noncomputable def yr (ps:List (Int×Int)) (is:List Int):Bool:=decide ((HT.dist is).length=is.length)&&steps ps is
noncomputable def EB (ps:List (Int×Int)) (is:List Int):Bool:=decide (2<=is.length /\ is.length<=5)&&yr ps is
theorem ac6 {P:List α->Prop}(l:List α) (h:2<=l.length /\ l.length<=5) (h2:∀ a b,P [a,b]) (h3:∀ a b c,P [a,b,c]) (h4:∀ a b c d,P [a,b,c,d]) (h5:∀ a b c d e,P [a,b,c,d,e]):P l:=by
 match l,h with
 |[],h=>simp at h
 |[_],h=>simp at h
 |[a,b],_=>exact h2 a b
 |[a,b,c],_=>exact h3 a b c
 |[a,b,c,d],_=>exact h4 a b c d
 |[a,b,c,d,e],_=>exact h5 a b c d e
 |_::_::_::_::_::_::_,h=>simp at h
noncomputable def kZ (is:List Int) (k:Nat):Int×Int:=(is.getD ((k+is.length-1) % is.length) 0,is.getD k 0)
theorem JL (ps:List (Int×Int)) (is:List Int) (h:2<=is.length /\ is.length<=5):((List.range is.length).filter λk=>!decide (kZ is k∈ps)).isEmpty=steps ps is:=by
 rw[nK,wQ,vo];refine ac6 (P:=λis=>(∀ a∈List.range is.length,¬(!decide (kZ is a∈ps))=true) ↔ steps ps is=true) is h ?_ ?_ ?_ ?_
 ·intro a b;simp only[steps,kZ,bA,kF,kl];constructor
  ·intro h;have h0:=h 0 (by decide);have h1:=h 1 (by decide);simp_all
  ·intro h k hk;match k,hk with
   |0,_=>simp_all
   |1,_=>simp_all
 ·intro a b c;simp only[steps,kZ,bA,kF,kl];constructor
  ·intro h;have h0:=h 0 (by decide);have h1:=h 1 (by decide);have h2:=h 2 (by decide);simp_all
  ·intro h k hk;match k,hk with
   |0,_=>simp_all
   |1,_=>simp_all
   |2,_=>simp_all
 ·intro a b c d;simp only[steps,kZ,bA,kF,kl];constructor
  ·intro h;have h0:=h 0 (by decide);have h1:=h 1 (by decide);have h2:=h 2 (by decide);have h3:=h 3 (by decide);simp_all
  ·intro h k hk;match k,hk with
   |0,_=>simp_all
   |1,_=>simp_all
   |2,_=>simp_all
   |3,_=>simp_all
 ·intro a b c d e;simp only[steps,kZ,bA,kF,kl];constructor
  ·intro h;have h0:=h 0 (by decide);have h1:=h 1 (by decide);have h2:=h 2 (by decide);have h3:=h 3 (by decide);have h4:=h 4 (by decide);simp_all
  ·intro h k hk;match k,hk with
   |0,_=>simp_all
   |1,_=>simp_all
   |2,_=>simp_all
   |3,_=>simp_all
   |4,_=>simp_all
theorem Uj (is:List Int) (k:Nat) (h:k<is.length):aY (is.map D.int) (k:Int)=some (.int (is.getD k 0)):=by
 simp[aY,cz,h]
theorem UX (is:List Int) (k:Nat) (h:k<is.length):aY (is.map D.int) ((k:Int)-1)=some (.int (is.getD ((k+is.length-1) % is.length) 0)):=by
 cases k with
 | zero =>
   have e:(0+is.length-1) % is.length=is.length-1:=by rw[nJ];exact V3 (by omega)
   rw[e];unfold aY;rw[show ((0:Nat):Int)-1=-1 by rfl,aF,AH h];have h':is.length-1<is.length:=by omega
   simp[h']
 | succ k =>
   have e:(k+1+is.length-1) % is.length=k:=by
    rw[show k+1+is.length-1=k+is.length by omega,Nat.add_mod_right];exact V3 (by omega)
   rw[e,show ((k+1:Nat):Int)-1=(k:Int) by omega];exact Uj is k (by omega)
theorem MY (is:List Int) (h:is.length<=5):uN [.tup (is.map D.int)]=some (.old (.int (HT.dist is).length)):=by
 show ((intsOf (is.map D.int)).bind λns=>if ns.length<4000 then some (Res.old (.int (HT.dist ns).length)) else none)=_;rw[K1.jE,a9,if_pos (by omega)]
theorem A6 (ps:List (Int×Int)) (is:List Int) (hl:2<=is.length /\ is.length<=5) (hr:yr ps is=true):im [.d (.lst (ps.map dP)),.d (tupI is)] bx=.val (.d (.bl true)) bx:=by
 have sz:=ba;unfold yr at hr;rw[aA,decide_eq_true_eq]at hr;have c2:¬ (HT.dist is).length<is.length:=by omega
 refine gh ?_;show jw [xP ps,some (.d (.tup (is.map D.int)))] bx=_;unfold jw;have i1:bS (dB (ic "tuple" (dV 1))) [xP ps,some (.d (.tup (is.map D.int)))] bx=.val false bx:=jX (b:=true) (gj (b:=true) rfl);have j1:dN false az (fb (dV 1) fe) [xP ps,some (.d (.tup (is.map D.int)))] bx=.val (.d (.int (is.length:Nat))) bx:=gY (r:=.old (.int (is.length:Nat))) [.tup (is.map D.int)] (ff rfl rfl) (by simp[az]);have i2:bS (dB (d3 cP cP (dC (.int 2)) (dN false az (fb (dV 1) fe)) (dC (.int 5)))) [xP ps,some (.d (.tup (is.map D.int)))] bx=.val false bx:=by
  refine jX (b:=true) (gj ?_);rw[UU];have g1:(2:Int)<=(is.length:Nat):=by omega
  have g2:((is.length:Nat):Int)<=5:=by omega
  simp only[T6,fN,j1,lV,a9,cP,io,oY,g1,g2,decide_true]
 have i3:bS (dB (dN false bW (fb (fk false [none] (aj (dV 1)) (fc 0) fw (fj K1.gH 1 (fb (dV 0) fe))) fe))) [xP ps,some (.d (.tup (is.map D.int)))] bx=.val false bx:=by
  have a:=ac4 (enc:=D.int) (r:=[]) (bx:=bx) (bx0:=bx) (src:=[none]) (mi:=aj (dV 1)) (env:=[xP ps,some (.d (.tup (is.map D.int)))]) (te:=fj K1.gH 1 (fb (dV 0) fe)) (λx=>wh (.int x)) (mQ rfl) rfl (by omega) λx _=>fK (ff rfl rfl) rfl (Br _ bx);rw[show is.all (λx=>wh (.int x))=true from bR.mpr λx _=>rfl]at a;exact jX (gj a)
 refine(fu ((mw (Bt i1 (Bt i2 i3))).trans rfl)).trans ?_;have dl:=Gu is;have j2:dB (d2 false ku (dN false uN (fb (dV 1) fe)) (dN false az (fb (dV 1) fe))) [xP ps,some (.d (.tup (is.map D.int)))] bx=.val (decide ((HT.dist is).length<is.length)) bx :=
 gj (fH (r:=.old (.bl (decide ((HT.dist is).length<is.length)))) (gY (r:=.old (.int (HT.dist is).length)) [.tup (is.map D.int)] (ff rfl rfl) (MY is hl.2)) j1 (by simp[ku]))
 rw[decide_eq_false c2]at j2;refine(fu ((mw j2).trans rfl)).trans ?_;have cp:fk false [none,some 0,some 1] (bP (fb (dN false az (fb (dV 1) fe)) fe)) (fc 0) (dB (d2 false (inD true) (fV (fb (d2 false ax (dV 2) (d2 false cL (dV 0) (dC (.int 1)))) (fb (d2 false ax (dV 2) (dV 0)) fe))) (dV 1))) (dV 0) [xP ps,some (.d (.tup (is.map D.int)))] bx=.val (.d (.lst (((List.range is.length).filter λk=>!decide (kZ is k∈ps)).map λ(k:Nat)=>D.int (k:Int)))) bx:=by
  refine pd (enc:=λ(k:Nat)=>D.int (k:Int)) (r:=[xP ps,some (.d (.tup (is.map D.int)))]) (l:=List.range is.length) _ _ ?_ rfl (by simp;omega) λk mk=>?_
  ·have e:=jd (ff (ks:=fe) j1 rfl) (by omega);rw[e,Gk];simp
  ·have hk:=kl.mp mk;refine⟨?_,λ_=>rfl⟩;refine gj (fH (r:=.old (.bl (!decide (kZ is k∈ps)))) (x:=dP (kZ is k)) (gz [.int (kZ is k).1,.int (kZ is k).2] (ff (bx1:=bx) ?_ (ff (bx1:=bx) ?_ rfl)) (show (2:Nat)<=sizeLine by omega)) rfl (Dd true _ ps))
   ·exact fH (r:=.old (.int (kZ is k).1)) rfl (fH (r:=.old (.int ((k:Int)-1))) rfl rfl rfl) (by show (aY (is.map D.int) ((k:Int)-1)).map Res.old=_;rw[UX is k hk];rfl)
   ·exact fH (r:=.old (.int (kZ is k).2)) rfl rfl (by show (aY (is.map D.int) (k:Int)).map Res.old=_;rw[Uj is k hk];rfl)
 have lm:∀ l:List Nat,l.map (λ(k:Nat)=>D.int (k:Int))=(l.map λ(k:Nat)=>(k:Int)).map D.int:=λl=>by simp
 have en:bI (.lst (((List.range is.length).filter λk=>!decide (kZ is k∈ps)).map λ(k:Nat)=>D.int (k:Int))) (.lst [])=some (.old (.bl true)):=by
  rw[eq_nil (by rw[lm];exact mT _),HV,JL ps is hl,hr.2]
 exact gE (fH (r:=.old (.bl true)) cp (BZ [] rfl (cT _)) en)
noncomputable def subs:Nat->List (List Int)
 |0=>[[]]
 |k+1=>subs k++(subs k).map λs=>s++[(k:Int)]
theorem De:∀ k,(subs k).length=2 ^ k
 |0=>rfl
 |k+1=>by simp[subs,De k,yS];omega
theorem jZ (h:k<=5):(subs k).length<=32:=by
 rw[De];exact bc (yR (by decide) h) (by decide)
theorem Bu:∀ k,∃ t,subs k=[]::t
 |0=>⟨[],rfl⟩
 | k+1=>by
   obtain⟨t,e⟩:=Bu k;exact⟨t++(subs k).map λs=>s++[(k:Int)],by rw[subs,e];rfl⟩
theorem AI:∀ k,((List.range k).map λ(i:Nat)=>(i:Int))∈subs k
 |0=>by simp[subs]
 | k+1=>by
   rw[List.range_succ,eL,subs];exact bH.mpr (.inr (aT.mpr ⟨_,AI k,rfl⟩))
theorem mU (h:k<=5) {s:List Int}(m:s∈subs k):s.length<=k:=by
 clear h;induction k generalizing s with
 |zero=>simp[subs]at m;simp[m]
 | succ k ih =>
   rw[subs]at m;rcases bH.mp m with m|m
   ·have:=ih m;omega
   ·obtain⟨t,mt,rfl⟩:=aT.mp m;have:=ih mt;simp;omega
noncomputable abbrev yt (i j:Nat):DE W:=d2 false fO (dV i) (fk false [none,some j] (aj (dV i)) (fc 0) fw (d2 false fO (dV 0) (fV (fb (dV 1) fe))))
theorem Gv (hk:k<5) (h1:env[i]?=some (some (.d (.lst ((subs k).map tupI))))) (h2:env[j]?=some (xN (k:Nat))):yt i j env bx=.val (.d (.lst ((subs (k+1)).map tupI))) bx:=by
 have sz:=ba;have sl:=jZ (k:=k) (by omega);have v1:dV i env bx=.val (.d (.lst ((subs k).map tupI))) bx:=by rw[JA,h1]
 have c:fk false [none,some j] (aj (dV i)) (fc 0) fw (d2 false fO (dV 0) (fV (fb (dV 1) fe))) env bx=.val (.d (.lst ((subs k).map λs=>tupI (s++[(k:Int)])))) bx :=
  tL (enc:=tupI) (r:=[xN (k:Nat)]) _ (fP v1) (by simp[cg,h2]) (by omega) λs ms=>by
   have:=mU (by omega) ms;exact fH (r:=.tup ((s++[(k:Int)]).map D.int)) (x:=tupI s) (y:=.tup [.int (k:Nat)]) rfl (gz [.int (k:Nat)] rfl (show (1:Nat)<=sizeLine by omega)) (by rw[eL];exact if_pos (by simp;omega))
 refine fH (r:=.lst ((subs (k+1)).map tupI)) v1 c ?_;rw[subs,eL,dv];exact if_pos (by simp;omega)
noncomputable def cG (s:List Int):List HT.aB:=[.i s.length,.t s]
noncomputable def cQ (s:List Int):D:=.tup [.int (s.length:Nat),tupI s]
noncomputable def back:List HT.aB->List Int
 |[_,.t s]=>s
 |_=>[]
theorem AJ:∀ l:List (List Int),rowsOf (l.map cQ)=some (l.map cG)
 |[]=>rfl
 | s::l=>by
   have e:rowOf (cQ s)=some (cG s):=by
    simp[rowOf,uJ,cQ,cG,Eh,K1.jE]
   rw[aS,rowsOf,e,AJ l];rfl
theorem Bv (l:List (List Int)):uK (l.map cG)=true:=by
 unfold uK;rw[bR];intro a ma;rw[bR];intro b mb;obtain⟨x,_,rfl⟩:=aT.mp ma;obtain⟨y,_,rfl⟩:=aT.mp mb;rfl
noncomputable def k6 (k:Nat):List (List Int):=(n9 ((subs k).map cG)).map back
theorem Bw (k:Nat):n9 ((subs k).map cG)=(k6 k).map cG:=by
 unfold k6;rw[dv]
 symm
 refine(zc (g:=id) λr mr=>?_).trans (zg _);obtain⟨s,_,rfl⟩:=aT.mp ((g6 _).mem_iff.mp mr);rfl
theorem By (k:Nat):(k6 k).Perm (subs k):=by
 have h:=(g6 ((subs k).map cG)).map back;rw[dv]at h;have e:(back∘cG)=id:=by funext s;rfl
 rw[e,zg]at h;exact h
theorem Df (k:Nat):(k6 k).Pairwise λa b=>a.length<=b.length:=by
 have h:=jt ((subs k).map cG);rw[Bw,wN]at h;refine h.imp λ{a b} z=>?_;rw[show HT.aI (cG b)=1::(b.length:Int)::(1::(HT.aB.t b).code++[0]) by simp[HT.aI,cG,HT.aB.code],show HT.aI (cG a)=1::(a.length:Int)::(1::(HT.aB.t a).code++[0]) by simp[HT.aI,cG,HT.aB.code]]at z;rw[HT.fG,if_pos rfl,HT.fG]at z;split at z
 ·omega
 ·have:=of_decide_eq_false z;omega
theorem O1 (hk:k<=5):dj [.lst ((subs k).map cQ)]=some (.lst ((k6 k).map cQ)):=by
 obtain⟨t,e⟩:=Bu k;have z:sW [.lst ((subs k).map cQ)]=none:=by rw[e];rfl
 unfold dj;rw[z];show ((rowsOf ((subs k).map cQ)).bind λrs=>if rs.length<64 /\ uK rs=true then some (Res.lst ((n9 rs).map pW)) else none)=_;rw[AJ,a9,if_pos ⟨by rw[aF];have:=jZ hk;omega,Bv _⟩,Bw,dv];rfl
end eE
namespace K2
open PySem PySem.Spec PyProof.Rows L2 L2.DL K1
section
variable {h : D} {rs : List Int} {hold : Int} {x0 x1 x2 x4 x5 x6 x7 x8 x9 ac7 Zb Zc Zd ac8 : Option W}
end
section
variable {h : D} {rs : List Int} {hold : Int} {x0 x1 x4 x5 x6 x7 x8 Zc Zd ac8 : Option W}
end
end K2
namespace K1
open PySem PySem.Spec PyProof.Rows L2 L2.DL
end K1
namespace K2
open PySem PySem.Spec PyProof.Rows L2 L2.DL K1
theorem Uk (h:ks env bx=.val [.d (.int (j:Int))] bx1) (hj:j<=1000):vY false ks env bx=.val (.d (.lst ((List.range j).map λ(i:Nat)=>D.int (i:Int)))) bx1:=by
 unfold vY;rw[h,fN];show (if -(2 ^ 62)<=(j:Int) /\ (j:Int)<=2 ^ 24 then _ else _)=_;rw[if_pos (by omega),dQ];rfl
end K2
namespace eE
open PySem PySem.Spec PyProof.Rows L2 L2.DL K1 bz
noncomputable def pf (k:Nat):List D:=(List.range k).map λ(i:Nat)=>D.int (i:Int)
theorem B9:fZ false (fb (fV fe) fe) env bx=.val (.d (.lst ((subs 0).map tupI))) bx:=by
 have sz:=ba;exact BZ [.tup []] (ff (gz [] rfl (cT _)) rfl) (show (1:Nat)<=sizeLine by omega)
theorem Gw {w:W}(h:(fA 0 k)[i]?=some w):w=.d (.int (i:Nat)) /\ i<k:=by
 obtain⟨a,b⟩:=jf h;rw[Iw]at a;exact⟨a,b⟩
theorem ST (k:Nat):(pf k).map W.d=fA 0 k:=by
 unfold pf fA;rw[dv];refine zc λi _=>?_;simp
theorem SU (hk:k<=5):iE [.d (.lst (pf k))] bx=.val (.d (.lst ((k6 k).map tupI))) bx:=by
 have sz:=ba;have sl:=jZ hk;have ll:(k6 k).length<=32:=by rw[(By k).length_eq];exact sl
 refine gh ?_;show ja [some (.d (.lst (pf k))),none,none] bx=_;unfold ja;obtain⟨ay,bx',e,hb,w,he⟩:=iD (g:=fc 2) (body:=fF (yt 1 2) (fc 1)) (λi env b=>b=bx /\ ∃ w,env=[some (.d (.lst (pf k))),some (.d (.lst ((subs i).map tupI))),w]) (fA 0 k) 0 [some (.d (.lst (pf k))),some (.d (.lst ((subs 0).map tupI))),none] bx ⟨rfl,none,rfl⟩ (by
  rintro i w env b hw ⟨rfl,w0,rfl⟩;obtain⟨rfl,hi⟩:=Gw hw;rw[nJ];exact⟨[some (.d (.lst (pf k))),some (.d (.lst ((subs i).map tupI))),xN (i:Nat)],b,[some (.d (.lst (pf k))),some (.d (.lst ((subs (i+1)).map tupI))),xN (i:Nat)],b,rfl,fU (Gv (by omega) rfl rfl),rfl,_,rfl⟩)
 rw[show 0+(fA 0 k).length=k by simp[fA]]at he;rw[hb,he]at e;refine(fu (fU B9)).trans ((fu ((iK (fP (ds:=pf k) rfl)).trans (by rw[ST];exact e))).trans ?_);have c1:fk false [none] (aj (dV 1)) (fc 0) fw (fV (fb (dN false az (fb (dV 0) fe)) (fb (dV 0) fe))) [some (.d (.lst (pf k))),some (.d (.lst ((subs k).map tupI))),w] bx=.val (.d (.lst ((subs k).map cQ))) bx :=
  tL (enc:=tupI) (r:=[]) _ (fP rfl) rfl (by omega) λs _=>gz [.int (s.length:Nat),tupI s] (ff (gY (r:=.old (.int (s.length:Nat))) [tupI s] (ff rfl rfl) (by simp[az])) (ff rfl rfl)) (show (2:Nat)<=sizeLine by omega)
 have c2:aj (dN false dj (fb (fk false [none] (aj (dV 1)) (fc 0) fw (fV (fb (dN false az (fb (dV 0) fe)) (fb (dV 0) fe)))) fe)) [some (.d (.lst (pf k))),some (.d (.lst ((subs k).map tupI))),w] bx=.val (((k6 k).map cQ).map W.d) bx :=
  fP (gY (r:=.lst ((k6 k).map cQ)) [.lst ((subs k).map cQ)] (ff c1 rfl) (O1 hk))
 have c3:bT (iq 2 (fR (fc 0) (fR (fc 1) iJ))) fw (dV 1) (((k6 k).map cQ).map W.d) [none,none] bx []=.val (((k6 k).map cQ).map λd=>match d with|.tup [_,x]=>x|_=>.aq) bx :=
  gR (λe=>∃ a b,e=[a,b]) _ ⟨none,none,rfl⟩ (by
   rintro d m env ⟨a,b,rfl⟩;obtain⟨s,_,rfl⟩:=aT.mp m;exact⟨[xN (s.length:Nat),xU s],rfl,⟨_,_,rfl⟩,rfl⟩) (by rw[aF];omega)
 exact gE (iS c2 rfl (c3.trans (by rw[dv];rfl)))
noncomputable def wo (s r:List Int):Bool:=(r.filter λx=>decide (x∈s)).isEmpty
noncomputable def dJ (rs:List (List Int)) (s:List Int):Bool:=rs.all λr=>s.any λx=>decide (x∈r)
theorem O2 (rs:List (List Int)) (s:List Int):(rs.filter (wo s)).isEmpty=dJ rs s:=by
 rw[nK,wQ,vo];unfold dJ wo;rw[bR];refine⟨λh r m=>?_,λh r m=>?_⟩
 ·have:=h r m;rw[wQ,vo]at this;rw[kh];apply Classical.byContradiction;intro z;apply this;intro x mx c;exact z ⟨x,of_decide_eq_true c,by simp[mx]⟩
 ·have:=h r m;rw[kh]at this;obtain⟨x,mx,c⟩:=this;rw[wQ,vo];intro z;exact z x (of_decide_eq_true c) (by simp[mx])
theorem Qo {h:D}(H:eG h k) (he:env[0]?=some (some (.d h))):dN false az (fb (d2 false ax (dV 0) (dC (.int 0))) fe) env bx=.val (.d (.int (k:Nat))) bx:=by
 obtain⟨rs,kk,aa,bb,eH,ac9⟩:=H.rs;have e0:ax h (.int 0)=some (.old (.tup rs)):=by rw[eH];simp[ax,aY,cz]
 exact gY (r:=.old (.int (k:Nat))) [.tup rs] (ff (fH (m:=dV 0) (by rw[JA,he]) rfl e0) rfl) (by simp[az,ac9])
def Good (k:Nat) (rs:List (List Int)):Prop:=∀ r∈rs,r≠[] /\ ∀ i∈r,0<=i /\ i<(k:Int)
theorem Bz (G:Good k rs):dJ rs ((List.range k).map λ(i:Nat)=>(i:Int))=true:=by
 unfold dJ;rw[bR];intro r mr;obtain⟨ne,hi⟩:=G r mr;rw[kh];cases r with
 |nil=>exact absurd rfl ne
 | cons i r =>
   have:=hi i (bQ ..);exact⟨i,aT.mpr ⟨i.toNat,kl.mpr (by omega),by omega⟩,by simp⟩
def nC (k:Nat) (rs:List (List Int)) (m:List Int):Prop:=m∈subs k /\ dJ rs m=true /\ ∀ s∈subs k,dJ rs s=true->m.length<=s.length
theorem nC.eq {a b:List Int}(h:nC k rs a) (q:nC k rs b):a.length=b.length:=HE (h.2.2 b q.1 q.2.1) (q.2.2 a h.1 h.2.1)
theorem Fl (G:Good k rs):∃ f,(k6 k).find? (dJ rs)=some f /\ nC k rs f:=by
 have p:=By k;have hs:=Df k;cases e:(k6 k).find? (dJ rs) with
 | none =>
   rw[wR]at e;exact absurd (Bz G) (e _ (p.mem_iff.mpr (AI k)))
 | some f =>
   obtain⟨hf,as,bs,el,hn⟩:=List.find?_eq_some_iff_append.mp e;refine⟨f,rfl,p.mem_iff.mp (wU e),hf,λs ms ps=>?_⟩;have nu:=p.mem_iff.mpr ms;rw[el]at nu hs;rcases bH.mp nu with m|m
   ·have:=hn s m;rw[ps]at this;cases this
   ·rcases aP.mp m with rfl|m
    ·exact ak _
    ·exact(List.pairwise_cons.mp (vp.mp hs).2.1).1 s m
theorem O3 (s r:List Int) (hs:s.length<=100):mP [.d (tupI s),.d (tupI r)] bx=.val (.d (.bl (s.any λx=>decide (x∈r)))) bx:=by
 have sz:=ba;refine gh ?_;show BS [xU s,xU r] bx=_;unfold BS;exact gE (ac5 (enc:=D.int) (r:=[xU r]) _ (mQ rfl) rfl (by omega) λx _=>fH (r:=.old (.bl (decide (x∈r)))) rfl rfl (o9 false r x))
noncomputable def tM:List Int->List (List Int)->List Int
 |b,[]=>b
 |b,x::l=>tM (if x.length<b.length then x else b) l
theorem Fm (s:List Int):pb (tupI s)=some s.length:=by simp[pb]
theorem Gx:∀ (l:List (List Int)) (b:List Int),tq (λd=>(pb d).getD 0) (tupI b) (l.map tupI)=tupI (tM b l)
 |[],b=>rfl
 | x::l,b=>by
   rw[aS,tq,Fm,Fm];show tq _ (if x.length<b.length then tupI x else tupI b) _=_;rw[<-apply_ite tupI,Gx l];rfl
theorem AK:∀ (l:List (List Int)) (b:List Int),tM b l∈b::l
 |[],b=>bQ ..
 | x::l,b=>by
   have:=AK l (if x.length<b.length then x else b);rw[tM];rcases aP.mp this with e|m
   ·rw[e];split<;>simp
   ·exact bF _ (bF _ m)
theorem Gy:∀ (l:List (List Int)) (b:List Int),∀ s∈b::l,(tM b l).length<=s.length
 |[],b,s,m=>by rw[a7.mp m];exact ak _
 | x::l,b,s,m=>by
   have ih:=Gy l (if x.length<b.length then x else b);have i0:=ih _ (bQ ..);rw[tM];rcases aP.mp m with rfl|m
   ·refine bc i0 ?_;split<;>omega
   ·rcases aP.mp m with rfl|m
    ·refine bc i0 ?_;split<;>omega
    ·exact ih s (bF _ m)
section
variable {h : D} 
end
end eE
namespace bz
open PySem PySem.Spec PyProof.Rows L2 L2.DL K1 K2
section
variable {bx2 aO : List Bx}
end
theorem MZ (M:Mv k ps) (hk:k<=5) (hl:ps.length<=10):Sm (10 ^ 30) 2 40000 (.lst (ps.map dP)):=by
 have z:=bD.of (B:=10 ^ 30) (a:=1) (b:=3849) (l:=ps.map dP) λx m=>by
  obtain⟨q,mq,rfl⟩:=aT.mp m;have:=M q mq;exact Sm.tup (bD.cons (Sm.int (bc (show q.1.natAbs<=5 by omega) (by decide))) (bD.cons (Sm.int (bc (show q.2.natAbs<=5 by omega) (by decide))) bD.nil))
 rw[aF]at z;exact(Sm.lst z).mono (by decide) (by omega)
section
variable {x0 x1 x2 x5 x7 x8 x9 ac7 : Option W}
end
section
variable {bx2 : List Bx}
end
section
variable {x0 x1 x3 x5 x6 x7 Zb Zc Zd : Option W}
end
section
variable {x0 x1 x5 : Option W}
end
theorem Ul (l:List Int) (hl:l.length<=1000) (bx:List Bx) (xs:aJ):∃ c:Nat,bP (fb (dN false maxD (fb (dC (.int 1)) (fb (dN false minD (fb (qD (dV 0)) (fb (dC (.int 8)) fe))) fe))) fe) (some (.s l)::xs) bx=.val (fA 0 c) bx:=by
 have e1:qD (dV 0) (some (.s l)::xs) bx=.val (.d (.int l.length)) bx:=rfl;have e2:dN false minD (fb (qD (dV 0)) (fb (dC (.int 8)) fe)) (some (.s l)::xs) bx=.val (.d (.int (if (8:Int)<l.length then 8 else l.length))) bx:=gY (r:=.old _) [.int l.length,.int 8] (ff e1 (ff rfl rfl)) rfl;have e3:dN false maxD (fb (dC (.int 1)) (fb (dN false minD (fb (qD (dV 0)) (fb (dC (.int 8)) fe))) fe)) (some (.s l)::xs) bx=.val (.d (.int (if (if (8:Int)<l.length then (8:Int) else l.length)>1 then (if (8:Int)<l.length then 8 else l.length) else 1))) bx:=gY (r:=.old _) [.int 1,.int (if (8:Int)<l.length then 8 else l.length)] (ff rfl (ff e2 rfl)) rfl;have e4:=ff (ks:=fe) e3 rfl;refine⟨_,jd e4 ?_⟩;split<;>split<;>omega
end bz
namespace eE
open PySem PySem.Spec PyProof.Rows L2 L2.DL K1 bz
section
variable {r : aJ}
noncomputable abbrev gP:DG:=iq 2 (fR (fc 0) (fR (fc 1) iJ))
theorem EC (p:Int×Int->Bool) (f:Int×Int->D):∀ (l:List (Int×Int)) (w v:Option W) (acc:List D),acc.length+l.length<=sizeLine->(∀ a∈l,tf (xN a.1::xN a.2::r) bx=.val (p a) bx /\ (p a=true->te (xN a.1::xN a.2::r) bx=.val (.d (f a)) bx)) ->
 bT gP tf te ((l.map dP).map W.d) (w::v::r) bx acc=.val (acc++(l.filter p).map f) bx
 |[],w,v,acc,_,_=>by simp[bT]
 | a::l,w,v,acc,n,h=>by
   obtain⟨h1,h2⟩:=h a (bQ ..);rw[bA]at n;have n':acc.length<sizeLine:=by omega
   have e0:gP (W.d (dP a)) (w::v::r) bx=some (some (W.d (.int a.1))::some (W.d (.int a.2))::r,bx):=rfl;cases c:p a with
   | false =>
     rw[ze (by simp[c]),<-EC p f l (some (W.d (.int a.1))) (some (W.d (.int a.2))) acc (by omega) λx m=>h x (bF _ m)];rw[c]at h1;simp only[aS,bT,e0,h1,BU]
   | true =>
     rw[zf c];have ih:=EC p f l (some (W.d (.int a.1))) (some (W.d (.int a.2))) (acc++[f a]) (by simp;omega) λx m=>h x (bF _ m);rw[c]at h1;simp only[aS,bT,e0,h1,h2 c,BU,if_pos n',ih];simp
end
section
variable {bx2 : List Bx}
theorem PM {op:D->D->Option Res}{r:Res}{k:DE W}{x:D}(h1:m env bx=.val (.d x) bx1) (h2:k env bx1=.val (.b j) bx2) (g:bx2[j]?=some (.lst l)) (hg:op x (.lst l)=some r):d2 false op m k env bx=.val (.d r.toD) bx2:=by
 rw[Mk,h1,fN,h2,fN,lV];have r1:aG bx2 (.b j)=some (.lst l):=by simp only[aG,g]
 rw[r1,a9,a9,hg,io]
theorem O4 {k:DE W}{t:Nat}{is:List Int}{x:Int}(h1:m env bx=.val (.b j) bx1) (g1:bx1[j]?=some (.lst (is.map D.int))) (h2:k env bx1=.val (.d (.int x)) bx2) (g2:bx2[j]?=some (.lst (is.map D.int))) (hf:is.findIdx? (λz=>decide (z=x))=some t):rO m k env bx=.val (.d (.int (t:Nat))) bx2:=by
 unfold rO;have r1:aG bx1 (.b j)=some (.lst (is.map D.int)):=by simp only[aG,g1]
 have r2:aG bx2 (.b j)=some (.lst (is.map D.int)):=by simp only[aG,g2]
 rw[h1,fN,r1];simp only[h2,fN,r2];rw[if_pos ⟨rfl,oC is⟩,JK,hf]
theorem Um {aO:List Bx}{lo hi:DE (Option Int)}{a b:Option Int}(h1:m env bx=.val (.b j) bx1) (h2:lo env bx1=.val a bx2) (h3:hi env bx2=.val b aO) (g:aO[j]?=some (.lst l)):eS false m lo hi env bx=.val (.d (.lst (DL.cutD l a b))) aO:=by
 have r1:aG aO (.b j)=some (.lst l):=by simp only[aG,g]
 rw[PH,h1,fN,h2,fN,h3,fN,r1];rfl
end
theorem iG (neg:Bool) (is:List Int) (b:Int):inD neg (.int b) (.lst (is.map D.int))=some (.old (.bl (if neg then !decide (b∈is) else decide (b∈is)))):=by
 show (if dG (.int b)=true /\ (is.map D.int).all dG=true then some (Res.old (.bl (if neg then !eD (.int b) (is.map D.int) else eD (.int b) (is.map D.int)))) else tm neg _ _ _)=_;rw[if_pos ⟨rfl,oC is⟩,C9];have:(is.any λz=>decide (z=b))=decide (b∈is):=by
  rw[nK];simp
 rw[this]
section
variable {h : D} {x0 x1 x4 Zb : Option W}
end
end eE
namespace K51
open PySem PySem.Spec PyProof.Rows L2 L2.DL bz eE
noncomputable def dd (l:List Int):List Int:=l.foldl cq []
theorem M0 (a:List Int) (i x:Int):x∈cq a i ↔ x∈a \/ x=i:=by
 unfold cq;split
 ·rename_i h;obtain⟨y,m,e⟩:=kh.mp h;have e':y=i:=by simpa using e
  subst e';exact⟨.inl,λz=>z.elim id λz=>z▸m⟩
 ·simp
theorem Fn {a:List Int}(h:a.Nodup) (i:Int):(cq a i).Nodup:=by
 unfold cq;split
 ·exact h
 ·rename_i q;rw[sf];refine⟨h,by simp,λx hx y hy e=>q ?_⟩;cases a7.mp hy;subst e;exact kh.mpr ⟨x,hx,by simp⟩
theorem AL (a:List Int) (i:Int):(cq a i).length<=a.length+1:=by
 unfold cq;split<;>simp
theorem Dg (x:Int):∀ (l a:List Int),x∈l.foldl cq a ↔ x∈a \/ x∈l
 |[],a=>by simp
 |i::l,a=>by rw[List.foldl_cons,Dg x l,M0,aP];exact or_assoc
theorem AM:∀ (l:List Int) {a:List Int},a.Nodup->(l.foldl cq a).Nodup
 |[],_,h=>h
 |i::l,_,h=>AM l (Fn h i)
theorem AN {x:Int}{l:List Int}:x∈dd l ↔ x∈l:=by rw[dd,Dg];simp
theorem mV (l:List Int):(dd l).Nodup:=AM l Wj
theorem BA (l:List Int):HT.dist l=dd l:=by
 unfold HT.dist firstMet dd;congr 1;apply wM;intro j;by_cases h:j<l.length
 ·simp[h]
 ·simp[h]
theorem oQ {a b:List Int}(ha:a.Nodup) (hb:b.Nodup) (sa:a.Pairwise (·<=·)) (sb:b.Pairwise (·<=·)) (h:∀ x,x∈a ↔ x∈b):a=b:=ji ((List.perm_ext_iff_of_nodup ha hb).mpr h) sa sb
theorem iX {x:Int}{l:List Int}:x∈sortI l ↔ x∈l:=(gf l).mem_iff
theorem jq {l:List Int}(h:l.Nodup):(sortI l).Nodup:=(gf l).nodup_iff.mpr h
theorem oE (l:List Int):(sortI l).length=l.length:=(gf l).length_eq
theorem iT {l:List Int}(p:Int->Bool) (h:l.Nodup):(l.filter p).Nodup:=List.filter_sublist.nodup h
noncomputable def nm (ps:List (Int×Int)):List Int:=sortI (dd (ps.flatMap λq=>[q.1,q.2]))
theorem mC {x:Int}:x∈nm ps ↔ ∃ q∈ps,x=q.1 \/ x=q.2:=by
 rw[nm,iX,AN,List.mem_flatMap];simp
theorem lG (ps:List (Int×Int)):(nm ps).Nodup:=jq (mV _)
theorem oF (ps:List (Int×Int)):(nm ps).Pairwise (·<=·):=gq _
theorem AO (M:Mv k ps) {x:Int}(h:x∈nm ps):0<=x /\ x<(k:Int):=by
 obtain⟨q,m,e⟩:=mC.mp h;obtain⟨a,b,c,d,_⟩:=M q m;rcases e with rfl|rfl
 ·exact⟨a,b⟩
 ·exact⟨c,d⟩
noncomputable abbrev rg (k:Nat):List Int:=(List.range k).map λ(i:Nat)=>(i:Int)
theorem SV {x:Int}:x∈rg k ↔ 0<=x /\ x<(k:Int):=by
 simp only[rg,aT,kl];constructor
 ·rintro⟨a,h,rfl⟩;omega
 ·rintro⟨h1,h2⟩;exact⟨x.toNat,by omega,by omega⟩
theorem SW:(rg k).length=k:=by simp
theorem Fo {l:List Int}(h:l.Nodup) (hb:∀ x∈l,0<=x /\ x<(k:Int)):l.length<=k:=by
 have:=h.length_le_of_subset (l₂:=rg k) λx m=>SV.mpr (hb x m)
 rwa [SW]at this
theorem mD (M:Mv k ps):(nm ps).length<=k:=Fo (lG ps) λ_ h=>AO M h
noncomputable def Ch (ps:List (Int×Int)):List Int->Prop
 |[]=>True
 |[_]=>True
 |a::b::l=>(a,b)∈ps /\ Ch ps (b::l)
noncomputable def la (p:List Int):Int:=p.getLastD 0
noncomputable def fi (p:List Int):Int:=p.headD 0
theorem Gz (p:List Int) (x:Int):la (p++[x])=x:=by simp[la]
theorem Ca (a b:Int) (l:List Int):la (a::b::l)=la (b::l):=by simp[la]
theorem M1 (u:List Int) (a:Int) (v:List Int):la (u++a::v)=la (a::v):=by
 induction u with
 |nil=>rfl
 | cons b u ih =>
   cases u with
   |nil=>rfl
   |cons c u=>exact ih
theorem M3:∀ {p:List Int},p≠[]->la p∈p
 |[],h=>absurd rfl h
 |[a],_=>by simp[la]
 |a::b::l,_=>by rw[Ca];exact .tail _ (M3 (by simp))
theorem Ch.app:∀ {u:List Int}{a:Int}{v:List Int},Ch ps (u++a::v) ↔ Ch ps (u++[a]) /\ Ch ps (a::v)
 |[],a,v=>by simp[Ch]
 |[b],a,v=>by simp[Ch]
 | b::c::u,a,v=>by
   have ih:=Ch.app (u:=c::u) (a:=a) (v:=v);show ((b,c)∈ps /\ Ch ps (c::u++a::v)) ↔ ((b,c)∈ps /\ Ch ps (c::u++[a])) /\ Ch ps (a::v);rw[ih];exact and_assoc.symm
theorem Ch.snoc:∀ {p:List Int}{x:Int},p≠[]->(Ch ps (p++[x]) ↔ Ch ps p /\ (la p,x)∈ps)
 |[],_,h=>absurd rfl h
 |[a],x,_=>by simp[Ch,la]
 | a::b::l,x,_=>by
   have ih:=Ch.snoc (p:=b::l) (x:=x) (by simp);show ((a,b)∈ps /\ Ch ps (b::l++[x])) ↔ ((a,b)∈ps /\ Ch ps (b::l)) /\ (la (a::b::l),x)∈ps;rw[ih,Ca];exact and_assoc.symm
structure Cy (ps:List (Int×Int)) (c:List Int):Prop where
 n:c≠[]
 ch:Ch ps c
 cl:(la c,fi c)∈ps
theorem Cy.turn {u v:List Int}(h:Cy ps (u++v)) (hu:u≠[]) (hv:v≠[]):Cy ps (v++u):=by
 obtain⟨a,u,rfl⟩:=nM hu;obtain⟨b,v,rfl⟩:=nM hv;obtain⟨h1,h2⟩:=Ch.app.mp h.ch;obtain⟨h3,h4⟩:=(Ch.snoc (by simp)).mp h1;have c:=h.cl;rw[M1]at c;refine⟨by simp,Ch.app.mpr ⟨(Ch.snoc (by simp)).mpr ⟨h2,c⟩,h3⟩,?_⟩;rw[M1];exact h4
theorem Ch.pre:∀ {c:List Int},Ch ps c->∀ x∈c,x=fi c \/ ∃ y∈c,(y,x)∈ps
 |[],_,x,m=>nomatch m
 |[a],_,x,m=>.inl (a7.mp m)
 | a::b::l,h,x,m=>by
   rcases aP.mp m with rfl|m
   ·exact .inl rfl
   ·rcases Ch.pre h.2 x m with e|⟨y,my,q⟩
    ·exact .inr ⟨a,.head _,by rw[e];exact h.1⟩
    ·exact .inr ⟨y,.tail _ my,q⟩
theorem Cy.pre {c:List Int}(h:Cy ps c) {x:Int}(m:x∈c):∃ y∈c,(y,x)∈ps:=by
 rcases h.ch.pre x m with rfl|q
 ·exact⟨la c,M3 h.n,h.cl⟩
 ·exact q
def Core (ps:List (Int×Int)) (S:List Int):Prop:=S≠[] /\ ∀ x∈S,∃ y∈S,(y,x)∈ps
theorem Cy.core {c:List Int}(h:Cy ps c):Core ps c:=⟨h.n,λ_ m=>h.pre m⟩
theorem M4 {S:List Int}(C:∀ x∈S,∃ y∈S,(y,x)∈ps):∀ (n:Nat) (c:List Int),S.length-c.length<=n->c≠[]->c.Nodup->Ch ps c->(∀ x∈c,x∈S)->∃ d,Cy ps d /\ d.Nodup /\ ∀ x∈d,x∈S:=by
 intro n;induction n with
 | zero =>
   intro c hn h0 hd hc hs;obtain⟨a,l,rfl⟩:=nM h0;obtain⟨y,my,e⟩:=C a (hs a (.head _));by_cases hy:y∈a::l
   ·obtain⟨u,v,q⟩:=zh hy;rw[q]at hc hd hs;have hf:fi (u++[y])=a:=by cases u with|nil=>cases q;rfl|cons b u=>cases q;rfl
    refine⟨u++[y],⟨by simp,(Ch.app.mp hc).1,by rw[Gz,hf];exact e⟩,?_,λx m=>hs x ?_⟩
    ·refine List.Sublist.nodup ?_ hd;exact List.Sublist.append (List.Sublist.refl _) (List.Sublist.cons₂ _ (HW _))
    ·rcases bH.mp m with m|m
     ·exact cH _ m
     ·exact bG _ (by cases a7.mp m;exact .head _)
   ·have:=(qT.mpr ⟨hy,hd⟩).length_le_of_subset (l₂:=S) λx m=>by
     rcases aP.mp m with rfl|m
     ·exact my
     ·exact hs x m
    simp at this hn;omega
 | succ n ih =>
   intro c hn h0 hd hc hs;obtain⟨a,l,rfl⟩:=nM h0;obtain⟨y,my,e⟩:=C a (hs a (.head _));by_cases hy:y∈a::l
   ·obtain⟨u,v,q⟩:=zh hy;rw[q]at hc hd hs;have hf:fi (u++[y])=a:=by cases u with|nil=>cases q;rfl|cons b u=>cases q;rfl
    refine⟨u++[y],⟨by simp,(Ch.app.mp hc).1,by rw[Gz,hf];exact e⟩,?_,λx m=>hs x ?_⟩
    ·refine List.Sublist.nodup ?_ hd;exact List.Sublist.append (List.Sublist.refl _) (List.Sublist.cons₂ _ (HW _))
    ·rcases bH.mp m with m|m
     ·exact cH _ m
     ·exact bG _ (by cases a7.mp m;exact .head _)
   ·refine ih (y::a::l) (by simp at hn ⊢;omega) (by simp) (qT.mpr ⟨hy,hd⟩) ⟨e,hc⟩ λx m=>?_;rcases aP.mp m with rfl|m
    ·exact my
    ·exact hs x m
theorem BB:∀ {l:List Int},l≠[]->∃ u m v,l=u++m::v /\ ∀ x∈l,m<=x
 |[],h=>absurd rfl h
 |[a],_=>⟨[],a,[],rfl,λx m=>by cases a7.mp m;omega⟩
 | a::b::l,_=>by
   obtain⟨u,m,v,e,h⟩:=BB (l:=b::l) (by simp);by_cases q:a<=m
   ·refine⟨[],a,b::l,rfl,λx mx=>?_⟩;rcases aP.mp mx with rfl|mx
    ·omega
    ·have:=h x mx;omega
   ·refine⟨a::u,m,v,by rw[e];rfl,λx mx=>?_⟩;rcases aP.mp mx with rfl|mx
    ·omega
    ·exact h x mx
theorem O5 {S:List Int}(C:Core ps S):∃ d,Cy ps d /\ d.Nodup /\ (∀ x∈d,x∈S) /\ ∀ x∈d,fi d<=x:=by
 obtain⟨h0,h1⟩:=C;obtain⟨a,l,rfl⟩:=nM h0;obtain⟨d,c1,c2,c3⟩:=M4 h1 _ [a] (ak _) (by simp) (by simp) trivial (λx m=>by cases a7.mp m;exact .head _);obtain⟨u,m,v,e,hm⟩:=BB c1.n;subst e;cases u with
 |nil=>exact⟨_,c1,c2,c3,λx mx=>hm x mx⟩
 | cons b u =>
   have pm:(m::v++b::u).Perm (b::u++m::v):=List.perm_append_comm;exact⟨m::v++b::u,c1.turn (by simp) (by simp),pm.nodup_iff.mpr c2,λx mx=>c3 x (pm.mem_iff.mp mx),λx mx=>hm x (pm.mem_iff.mp mx)⟩
theorem Cy.named {c:List Int}(h:Cy ps c) {x:Int}(m:x∈c):x∈nm ps:=by
 obtain⟨y,_,e⟩:=h.pre m;exact mC.mpr ⟨_,e,.inr rfl⟩
noncomputable def nD (ps:List (Int×Int)) (p:List Int):List Int:=sortI (dd ((ps.filter λq=>decide (q.1=la p)&&decide (fi p<=q.2)).map λq=>q.2))
theorem Aa {x:Int}:x∈nD ps p ↔ (la p,x)∈ps /\ fi p<=x:=by
 rw[nD,iX,AN,aT];constructor
 ·rintro⟨⟨a,b⟩,m,rfl⟩;rw[cD]at m;obtain⟨m,h⟩:=m;simp only[aA,decide_eq_true_eq]at h;obtain⟨h1,h2⟩:=h;exact⟨h1▸m,h2⟩
 ·rintro⟨m,h⟩;exact⟨(la p,x),cD.mpr ⟨m,by simp[h]⟩,rfl⟩
theorem JM (p:List Int):(nD ps p).Nodup:=jq (mV _)
theorem Cb (M:Mv k ps) (p:List Int):(nD ps p).length<=k:=Fo (JM p) λx m=>AO M (mC.mpr ⟨_,(Aa.mp m).1,.inr rfl⟩)
noncomputable def rV (ps:List (Int×Int)) (p:List Int):List (List Int):=((nD ps p).filter λr=>!decide (r∈p)).map λr=>p++[r]
noncomputable def lvl (ps:List (Int×Int)):Nat->List (List Int)
 |0=>(nm ps).map λr=>[r]
 |j+1=>(lvl ps j).flatMap (rV ps)
structure nE (ps:List (Int×Int)) (p:List Int):Prop where
 ne:p≠[]
 nd:p.Nodup
 ch:Ch ps p
 ge:∀ x∈p,fi p<=x
 nm:∀ x∈p,x∈nm ps
theorem Cc (h:p≠[]) (x:Int):fi (p++[x])=fi p:=by
 obtain⟨a,l,rfl⟩:=nM h;rfl
theorem lP:∀ {j:Nat}{p:List Int},p∈lvl ps j->nE ps p /\ p.length=j+1
 | 0,p,h=>by
   obtain⟨r,m,rfl⟩:=aT.mp h;exact⟨⟨by simp,by simp,trivial,λx mx=>by cases a7.mp mx;exact Iy _,λx mx=>by cases a7.mp mx;exact m⟩,rfl⟩
 | j+1,p,h=>by
   obtain⟨q,mq,h⟩:=List.mem_flatMap.mp h;obtain⟨P,l⟩:=lP mq;obtain⟨r,mr,rfl⟩:=aT.mp h;rw[cD]at mr;obtain⟨m1,m2⟩:=mr;have nr:r∉q:=by simpa using m2
   obtain⟨e,g⟩:=Aa.mp m1;refine⟨⟨by simp,?_,(Ch.snoc P.ne).mpr ⟨P.ch,e⟩,λx mx=>?_,λx mx=>?_⟩,by simp[l]⟩
   ·rw[sf];exact⟨P.nd,by simp,λx hx y hy z=>nr (by cases a7.mp hy;exact z▸hx)⟩
   ·rw[Cc P.ne];rcases bH.mp mx with mx|mx
    ·exact P.ge x mx
    ·cases a7.mp mx;exact g
   ·rcases bH.mp mx with mx|mx
    ·exact P.nm x mx
    ·cases a7.mp mx;exact mC.mpr ⟨_,e,.inr rfl⟩
theorem O6 (h:p.length=n+2):∃ q x,p=q++[x] /\ q.length=n+1 /\ q≠[]:=by
 have h0:p≠[]:=by intro z;subst z;simp at h
 refine⟨p.dropLast,p.getLast h0,(List.dropLast_concat_getLast h0).symm,by simp[h],λz=>?_⟩;have:p.dropLast.length=n+1:=by simp[h]
 rw[z]at this;simp at this
theorem Dh:∀ {j:Nat}{p:List Int},nE ps p->p.length=j+1->p∈lvl ps j
 | 0,p,P,l=>by
   match p,l with
   |[a],_=>exact aT.mpr ⟨a,P.nm a (.head _),rfl⟩
 | j+1,p,P,l=>by
   obtain⟨q,x,rfl,lq,hq⟩:=O6 l;obtain⟨c1,c2⟩:=(Ch.snoc hq).mp P.ch;have nd:=sf.mp P.nd;have PQ:nE ps q:=⟨hq,nd.1,c1,λy m=>by have:=P.ge y (cH _ m);rwa [Cc hq]at this,λy m=>P.nm y (cH _ m)⟩;refine List.mem_flatMap.mpr ⟨q,Dh PQ lq,aT.mpr ⟨x,cD.mpr ⟨Aa.mpr ⟨c2,?_⟩,?_⟩,rfl⟩⟩
   ·have:=P.ge x (bG _ (a7.mpr rfl));rwa [Cc hq]at this
   ·simp only[qb,decide_eq_false_iff_not];exact λm=>nd.2.2 x m x (a7.mpr rfl) rfl
theorem nE.len (M:Mv k ps) (P:nE ps p):p.length<=k:=Fo P.nd λx m=>AO M (P.nm x m)
theorem GA (M:Mv k ps) (h:k<=j):lvl ps j=[]:=by
 cases e:lvl ps j with
 |nil=>rfl
 | cons p l =>
   obtain⟨P,q⟩:=lP (ps:=ps) (j:=j) (p:=p) (by rw[e];exact .head _);have:=P.len M;omega
theorem M5:∀ {l:List Nat}{n:Nat},(∀ x∈l,x<=n)->l.sum<=l.length*n
 |[],_,_=>by simp
 | a::l,n,h=>by
   have h1:=h a (.head _);have h2:=M5 (l:=l) (n:=n) λx m=>h x (.tail _ m);rw[List.sum_cons,bA,V2];omega
theorem Cd (M:Mv k ps) (p:List Int):(rV ps p).length<=k:=by
 rw[rV,aF];exact bc (tZ _ _) (Cb M p)
theorem GB (M:Mv k ps) (k5:k<=5):∀ j,(lvl ps j).length<=5 ^ (j+1)
 |0=>by rw[lvl,aF];have:=mD M;omega
 | j+1=>by
   have h:=GB M k5 j;have h2:=M5 (l:=(lvl ps j).map λa=>(rV ps a).length) (n:=5) λx m=>by
    obtain⟨a,_,rfl⟩:=aT.mp m;exact bc (Cd M a) k5
   rw[lvl,List.length_flatMap];rw[aF]at h2;rw[yS];omega
noncomputable def qK (ps:List (Int×Int)) (p:List Int):Bool:=decide (fi p∈nD ps p)
noncomputable def has (d:List (List Int×List Int)) (q:List Int):Bool:=d.any λx=>decide (x.1=q)
noncomputable def ins (ps:List (Int×Int)) (d:List (List Int×List Int)) (p:List Int):List (List Int×List Int):=if qK ps p then (if has d (sortI p) then d else d++[(sortI p,p)]) else d
noncomputable def bU (ps:List (Int×Int)):Nat->List (List Int×List Int)
 |0=>[]
 |j+1=>(lvl ps j).foldl (ins ps) (bU ps j)
structure yu (ps:List (Int×Int)) (d:List (List Int×List Int)):Prop where
 a:∀ x∈d,x.1=sortI x.2 /\ nE ps x.2 /\ qK ps x.2=true
 n:(d.map (·.1)).Nodup
theorem GC {d:List (List Int×List Int)}{q:List Int}:has d q=true ↔ q∈d.map (·.1):=by
 unfold has;rw[kh,aT];constructor
 ·rintro⟨x,m,e⟩;exact⟨x,m,of_decide_eq_true e⟩
 ·rintro⟨x,m,e⟩;exact⟨x,m,decide_eq_true e⟩
theorem SX {d:List (List Int×List Int)}(h:yu ps d) (P:nE ps p):yu ps (ins ps d p):=by
 unfold ins;split
 ·rename_i c;split
  ·exact h
  ·rename_i q;refine⟨λx m=>?_,?_⟩
   ·rcases bH.mp m with m|m
    ·exact h.a x m
    ·cases a7.mp m;exact⟨rfl,P,c⟩
   ·rw[eL,sf];exact⟨h.n,by simp,λx hx y hy e=>q (GC.mpr (by cases a7.mp hy;have e':x=sortI p:=e;exact e'▸hx))⟩
 ·exact h
theorem M6 {d:List (List Int×List Int)}{q:List Int}(h:q∈d.map (·.1)):q∈(ins ps d p).map (·.1):=by
 unfold ins;split
 ·split
  ·exact h
  ·rw[eL];exact cH _ h
 ·exact h
theorem O7 {d:List (List Int×List Int)}(c:qK ps p=true):sortI p∈(ins ps d p).map (·.1):=by
 unfold ins;rw[if_pos c];split
 ·rename_i q;exact GC.mp q
 ·simp
theorem GD:∀ {l:List (List Int)}{d:List (List Int×List Int)},yu ps d->(∀ p∈l,nE ps p)->yu ps (l.foldl (ins ps) d) /\ (∀ q∈d.map (·.1),q∈(l.foldl (ins ps) d).map (·.1)) /\ ∀ p∈l,qK ps p=true->sortI p∈(l.foldl (ins ps) d).map (·.1)
 |[],d,h,_=>⟨h,λq m=>m,λp m=>nomatch m⟩
 | a::l,d,h,P=>by
   obtain⟨h1,h2,h3⟩:=GD (l:=l) (SX h (P a (.head _))) λp m=>P p (.tail _ m);refine⟨h1,λq m=>h2 q (M6 m),λp m c=>?_⟩;rcases aP.mp m with rfl|m
   ·exact h2 _ (O7 c)
   ·exact h3 p m c
theorem Fp:∀ j,yu ps (bU ps j) /\ ∀ i<j,∀ p∈lvl ps i,qK ps p=true->sortI p∈(bU ps j).map (·.1)
 |0=>⟨⟨(λx m=>nomatch m),.nil⟩,λi h=>absurd h (ve _)⟩
 | j+1=>by
   obtain⟨h1,h2⟩:=Fp j;obtain⟨f1,f2,f3⟩:=GD (l:=lvl ps j) h1 λp m=>(lP m).1;refine⟨f1,λi hi p m c=>?_⟩;rcases qN i j with q|q
   ·exact f2 _ (h2 i q p m c)
   ·have:i=j:=by omega
    subst this;exact f3 p m c
theorem Fq (P:nE ps p):qK ps p=true ↔ Cy ps p:=by
 rw[qK,decide_eq_true_eq,Aa];exact⟨λh=>⟨P.ne,P.ch,h.1⟩,λh=>⟨h.cl,Iy _⟩⟩
structure ph (k:Nat) (ps:List (Int×Int)) (rs:List (List Int)):Prop where
 p:∀ r∈rs,nE ps r /\ Cy ps r
 l:rs.length<=26
 f:∀ S,Core ps S->∃ r∈rs,∀ x∈r,x∈S
theorem O8 {l:List Int}{x:Int}(h:(l++[x]).Pairwise (·<·)):l.Pairwise (·<·) /\ ∀ y∈l,y<x:=by
 rw[vp]at h;exact⟨h.1,λy m=>h.2.2 y m x (a7.mpr rfl)⟩
theorem mW:∀ {k:Nat}{s:List Int},s.Pairwise (·<·)->(∀ x∈s,0<=x /\ x<(k:Int))->s∈subs k
 | 0,s,_,hb=>by
   cases s with
   |nil=>simp[subs]
   |cons a l=>have:=hb a (.head _);omega
 | k+1,s,h,hb=>by
   by_cases m:(k:Int)∈s
   ·obtain⟨u,v,e⟩:=zh m;subst e;have hv:v=[]:=by
     cases v with
     |nil=>rfl
     | cons b v =>
       have h1:=(vp.mp h).2.1;have h2:=(List.pairwise_cons.mp h1).1 b (.head _);have h3:=hb b (by simp);omega
    subst hv;obtain⟨h1,h2⟩:=O8 h;have:=mW (k:=k) h1 λx mx=>⟨(hb x (cH _ mx)).1,h2 x mx⟩;simp only[subs,bH,aT];exact .inr ⟨u,this,rfl⟩
   ·have:=mW (k:=k) h λx mx=>by
     have h1:=hb x mx;have:x≠(k:Int):=λz=>m (z▸mx);omega
    simp only[subs,bH];exact .inl this
theorem Di {l:List Int}(h:l.Pairwise (·<=·)) (n:l.Nodup):l.Pairwise (·<·):=by
 induction l with
 |nil=>exact .nil
 | cons a l ih =>
   rw[List.pairwise_cons]at h ⊢;rw[qT]at n;exact⟨λx m=>by have:=h.1 x m;have:a≠x:=λz=>n.1 (z▸m);omega,ih h.2 n.2⟩
theorem M7 (M:Mv k ps) (k5:k<=5) (j:Nat):(bU ps j).length<=26:=by
 obtain⟨h1,_⟩:=Fp (ps:=ps) j;rw[<-aF (f:=λx:List Int×List Int=>x.1)];have sub:∀ q∈(bU ps j).map (·.1),q∈(subs 5).filter λs=>decide (2<=s.length):=λq m=>by
  obtain⟨x,mx,rfl⟩:=aT.mp m;obtain⟨e1,P,c⟩:=h1.a x mx;have cy:=(Fq P).mp c;refine cD.mpr ⟨mW (Di (by rw[e1];exact gq _) (by rw[e1];exact jq P.nd)) λy my=>?_,?_⟩
  ·have my:y∈sortI x.2:=e1▸my;have:=AO M (P.nm y (iX.mp my));omega
  ·rw[decide_eq_true_eq,e1,oE];match hx:x.2,P.ne with
   | [a],_ =>
     have:=cy.cl;rw[hx]at this;exact absurd rfl (M _ this).2.2.2.2
   |a::b::l,_=>simp
 have:=h1.n.length_le_of_subset (l₂:=(subs 5).filter λs=>decide (2<=s.length)) λq m=>sub q m;exact bc this (by decide)
theorem SY (M:Mv k ps) (k5:k<=5) (e:lvl ps j=[]):ph k ps ((bU ps j).map (·.2)):=by
 obtain⟨h1,h2⟩:=Fp (ps:=ps) j;have all:∀ i,j<=i->lvl ps i=[]:=λi hi=>by
  induction hi with
  |refl=>exact e
  |step _ ih=>rw[lvl,ih];rfl
 refine⟨λr m=>?_,?_,λS C=>?_⟩
 ·obtain⟨x,mx,rfl⟩:=aT.mp m;obtain⟨_,P,c⟩:=h1.a x mx;exact⟨P,(Fq P).mp c⟩
 ·rw[aF];exact M7 M k5 j
 ·obtain⟨d,c1,c2,c3,c4⟩:=O5 C;have P:nE ps d:=⟨c1.n,c2,c1.ch,c4,λx m=>c1.named m⟩;obtain⟨i,hi⟩:∃ i,d.length=i+1:=by
   obtain⟨a,l,rfl⟩:=nM c1.n;exact⟨l.length,rfl⟩
  have mi:=Dh P hi;have ij:i<j:=by
   rcases qN i j with q|q
   ·exact q
   ·rw[all i q]at mi;cases mi
  obtain⟨x,mx,ex⟩:=aT.mp (h2 i ij d mi ((Fq P).mpr c1));obtain⟨e1,_,_⟩:=h1.a x mx;refine⟨x.2,aT.mpr ⟨x,mx,rfl⟩,λy my=>c3 y ?_⟩;have:y∈sortI d:=by rw[<-ex,e1];exact iX.mpr my
  exact iX.mp this
noncomputable def rest (ps:List (Int×Int)) (T:List Int):List Int:=(nm ps).filter λx=>!decide (x∈T)
theorem jF {T:List Int}{x:Int}:x∈rest ps T ↔ x∈nm ps /\ x∉T:=by simp[rest]
def eW (ps:List (Int×Int)) (L:List Int):Prop:=∀ S,Core ps S->¬ ∀ x∈S,x∈L
theorem oG (R:ph k ps rs) {T:List Int}(h:dJ rs T=true):eW ps (rest ps T):=λS C hS=>by
 obtain⟨r,mr,hr⟩:=R.f S C;unfold dJ at h;obtain⟨x,mx,hx⟩:=kh.mp (bR.mp h r mr);exact(jF.mp (hS x (hr x (of_decide_eq_true hx)))).2 mx
theorem JN (R:ph k ps rs) {T:List Int}(h:eW ps (rest ps T)):dJ rs T=true:=by
 unfold dJ;rw[bR];intro r mr;obtain⟨P,C⟩:=R.p r mr;rw[kh];cases e:r.find? λx=>decide (x∈T) with
 |some x=>exact⟨x,of_decide_eq_true (HX (p:=λx=>decide (x∈T)) e),decide_eq_true (wU e)⟩
 | none =>
   rw[wR]at e;exact absurd (λx mx=>jF.mpr ⟨P.nm x mx,by simpa using e x mx⟩) (h r C.core)
theorem mX:∀ {k:Nat}{s:List Int},s∈subs k->s.Pairwise (·<·) /\ ∀ x∈s,0<=x /\ x<(k:Int)
 | 0,s,h=>by
   cases (a7.mp h:s=[]);exact⟨.nil,λx m=>nomatch m⟩
 | k+1,s,h=>by
   rw[subs]at h;rcases bH.mp h with h|h
   ·obtain⟨a,b⟩:=mX h;exact⟨a,λx m=>by have:=b x m;omega⟩
   ·obtain⟨t,mt,rfl⟩:=aT.mp h;obtain⟨a,b⟩:=mX mt;refine⟨vp.mpr ⟨a,by simp,λx mx y my=>by cases a7.mp my;exact(b x mx).2⟩,λx m=>?_⟩;rcases bH.mp m with m|m
    ·have:=b x m;omega
    ·cases a7.mp m;omega
theorem M8 {l:List Int}(h:l.Pairwise (·<·)):l.Nodup:=h.imp λz e=>by omega
theorem Uo {l:List Int}(h:l.Pairwise (·<·)):l.Pairwise (·<=·):=h.imp λz=>by omega
theorem Dj (R:ph k ps rs) {m:List Int}(L:nC k rs m):∀ x∈m,x∈nm ps:=by
 obtain⟨l1,l2,l3⟩:=L;obtain⟨a,b⟩:=mX l1;have h1:(m.filter λx=>decide (x∈nm ps))∈subs k:=mW (a.filter _) λx mx=>b x ((cD.mp mx).1);have h2:dJ rs (m.filter λx=>decide (x∈nm ps))=true:=by
  unfold dJ at l2 ⊢;rw[bR]at l2 ⊢;intro r mr;obtain⟨x,mx,hx⟩:=kh.mp (l2 r mr);exact kh.mpr ⟨x,cD.mpr ⟨mx,decide_eq_true ((R.p r mr).1.nm x (of_decide_eq_true hx))⟩,hx⟩
 have h3:=l3 _ h1 h2;have h4:=tZ (λx=>decide (x∈nm ps)) m;exact λx mx=>of_decide_eq_true (List.length_filter_eq_length_iff.mp (HE h4 h3) x mx)
theorem mY (R:ph k ps rs) {m:List Int}(L:nC k rs m):m=(nm ps).filter λx=>decide (x∈m):=by
 obtain⟨a,b⟩:=mX L.1;refine oQ (M8 a) (iT _ (lG ps)) (Uo a) ((oF ps).filter _) λx=>?_;rw[cD,decide_eq_true_eq];exact⟨λh=>⟨Dj R L x h,h⟩,λh=>h.2⟩
theorem BC (l:List Int) (p:Int->Bool):l.length=(l.filter p).length+(l.filter λx=>!p x).length:=by
 induction l with
 |nil=>rfl
 | cons a l ih =>
   cases h:p a<;>simp[h,ih]<;>omega
theorem M9 (R:ph k ps rs) {m:List Int}(L:nC k rs m):(nm ps).length=m.length+(rest ps m).length:=by
 have h:=BC (nm ps) λx=>decide (x∈m);rw[<-mY R L]at h;exact h
noncomputable def dq:List Int->List (List Int)->List (List Int)
 |[],acc=>acc
 |r::l,acc=>dq l (acc++acc.map λs=>s++[r])
theorem BD:∀ (l:List Int) (acc:List (List Int)),(dq l acc).length=acc.length*2 ^ l.length
 |[],acc=>by simp[dq]
 | r::l,acc=>by
   rw[dq,BD l,cb,aF,bA,yS,<-V4,yT 2,V5,yT 2]
theorem BE:∀ {l:List Int}{acc:List (List Int)}{s:List Int},s∈dq l acc->∃ a∈acc,∃ t,t.Sublist l /\ s=a++t
 |[],acc,s,h=>⟨s,h,[],.slnil,by simp⟩
 | r::l,acc,s,h=>by
   obtain⟨a,ma,t,ht,rfl⟩:=BE (l:=l) (acc:=acc++acc.map λs=>s++[r]) h;rcases bH.mp ma with ma|ma
   ·exact⟨a,ma,t,ht.cons _,rfl⟩
   ·obtain⟨b,mb,rfl⟩:=aT.mp ma;exact⟨b,mb,r::t,ht.cons_cons _,by simp⟩
theorem j0:∀ {l:List Int}{acc:List (List Int)}{a t:List Int},a∈acc->t.Sublist l->a++t∈dq l acc
 | [],acc,a,t,ma,ht=>by
   cases ht;rw[qO];exact ma
 | r::l,acc,a,t,ma,ht=>by
   cases ht with
   |cons _ h=>exact j0 (l:=l) (acc:=acc++acc.map λs=>s++[r]) (cH _ ma) h
   | @cons_cons t _ _ h =>
     have:=j0 (l:=l) (acc:=acc++acc.map λs=>s++[r]) (a:=a++[r]) (t:=t) (bG _ (aT.mpr ⟨a,ma,rfl⟩)) h;rw[eK]at this;exact this
noncomputable def lo (l:List (List Int)):List (List Int):=(n9 (l.map cG)).map back
theorem GE (l:List (List Int)):n9 (l.map cG)=(lo l).map cG:=by
 unfold lo;rw[dv]
 symm
 refine(zc (g:=id) λr mr=>?_).trans (zg _);obtain⟨s,_,rfl⟩:=aT.mp ((g6 _).mem_iff.mp mr);rfl
theorem GF (l:List (List Int)):(lo l).Perm l:=by
 have h:=(g6 (l.map cG)).map back;rw[dv]at h;have e:(back∘cG)=id:=by funext s;rfl
 rw[e,zg]at h;exact h
theorem JO (l:List (List Int)):(lo l).Pairwise λa b=>a.length<=b.length:=by
 have h:=jt (l.map cG);rw[GE,wN]at h;refine h.imp λ{a b} z=>?_;rw[show HT.aI (cG b)=1::(b.length:Int)::(1::(HT.aB.t b).code++[0]) by simp[HT.aI,cG,HT.aB.code],show HT.aI (cG a)=1::(a.length:Int)::(1::(HT.aB.t a).code++[0]) by simp[HT.aI,cG,HT.aB.code]]at z;rw[HT.fG,if_pos rfl,HT.fG]at z;split at z
 ·omega
 ·have:=of_decide_eq_false z;omega
theorem Na {l:List (List Int)}(h0:l≠[]) (hl:l.length<64):dj [.lst (l.map cQ)]=some (.lst ((lo l).map cQ)):=by
 obtain⟨a,t,rfl⟩:=nM h0;have z:sW [.lst ((a::t).map cQ)]=none:=rfl;unfold dj;rw[z];show ((rowsOf ((a::t).map cQ)).bind λrs=>if rs.length<64 /\ uK rs=true then some (Res.lst ((n9 rs).map pW)) else none)=_;rw[AJ,a9,if_pos ⟨by rw[aF];exact hl,Bv _⟩,GE,dv];rfl
theorem Nb {l:List (List Int)}{p:List Int->Bool}{s:List Int}(ms:s∈l) (hs:p s=true):∃ f,(lo l).find? p=some f /\ f∈l /\ p f=true /\ ∀ t∈l,p t=true->f.length<=t.length:=by
 have pm:=GF l;have so:=JO l;cases e:(lo l).find? p with
 |none=>rw[wR]at e;exact absurd hs (e _ (pm.mem_iff.mpr ms))
 | some f =>
   obtain⟨hf,as,bs,el,hn⟩:=List.find?_eq_some_iff_append.mp e;refine⟨f,rfl,pm.mem_iff.mp (wU e),hf,λt mt pt=>?_⟩;have Ze:=pm.mem_iff.mpr mt;rw[el]at Ze so;rcases bH.mp Ze with m|m
   ·have:=hn t m;rw[pt]at this;cases this
   ·rcases aP.mp m with rfl|m
    ·exact ak _
    ·exact(List.pairwise_cons.mp (vp.mp so).2.1).1 t m
theorem O9 (M:Mv k ps) (R:ph k ps rs) {m:List Int}(L:nC k rs m) {q:List Int->Bool}(hq:∀ T,q T=true ↔ eW ps (rest ps T)):∃ f,(lo (dq (nm ps) [[]])).find? q=some f /\ f.length=m.length:=by
 have mm:m∈dq (nm ps) [[]]:=by
  have:=j0 (l:=nm ps) (acc:=[[]]) (a:=[]) (t:=m) (.head _) (by rw[mY R L];exact List.filter_sublist);exact this
 obtain⟨f,e,f1,f2,f3⟩:=Nb (p:=q) mm ((hq m).mpr (oG R L.2.1));refine⟨f,e,HE (f3 m mm ((hq m).mpr (oG R L.2.1))) (L.2.2 f ?_ (JN R ((hq f).mp f2)))⟩;obtain⟨a,ma,t,ht,rfl⟩:=BE f1;cases (a7.mp ma:a=[]);exact mW ((Di (oF ps) (lG ps)).sublist ht) λx mx=>AO M (ht.subset mx)
noncomputable def aX (rooms told:List Int):List Int:=rooms.filter λx=>!decide (x∈told)
noncomputable def cR (ps:List (Int×Int)) (w:List Int):List Int:=(ps.filter λq=>decide (q.1∈w)).map λq=>q.2
noncomputable def uU (ps:List (Int×Int)) (rooms told:List Int):List Int:=told++(aX rooms told).filter λx=>!decide (x∈cR ps (aX rooms told))
theorem GG {w:List Int}{x:Int}:x∈cR ps w ↔ ∃ a∈w,(a,x)∈ps:=by
 unfold cR;rw[aT];constructor
 ·rintro⟨⟨a,b⟩,m,rfl⟩;rw[cD]at m;exact⟨a,of_decide_eq_true m.2,m.1⟩
 ·rintro⟨a,ma,m⟩;exact⟨(a,x),cD.mpr ⟨m,decide_eq_true ma⟩,rfl⟩
structure Told (ps:List (Int×Int)) (rooms told:List Int):Prop where
 nd:told.Nodup
 sub:∀ x∈told,x∈rooms
 ord:∀ u b v,told=u++b::v->∀ a∈rooms,(a,b)∈ps->a∈u
theorem JP {rooms told:List Int}(T:Told ps rooms told) (hr:rooms.Nodup):Told ps rooms (uU ps rooms told):=by
 have hw:∀ x∈(aX rooms told).filter λx=>!decide (x∈cR ps (aX rooms told)),x∈rooms /\ x∉told /\ ∀ a∈rooms,(a,x)∈ps->a∈told:=λx mx=>by
  rw[cD]at mx;obtain⟨m1,m2⟩:=mx;rw[aX,cD]at m1;have nb:x∉cR ps (aX rooms told):=by simpa using m2
  refine⟨m1.1,by simpa using m1.2,λa ma e=>?_⟩;by_cases ht:a∈told
  ·exact ht
  ·exact absurd (GG.mpr ⟨a,cD.mpr ⟨ma,by simpa using ht⟩,e⟩) nb
 refine⟨?_,λx mx=>?_,λu b v e a ma ab=>?_⟩
 ·unfold uU;rw[sf];exact⟨T.nd,iT _ (iT _ hr),λx mx y my z=>(hw y my).2.1 (z▸mx)⟩
 ·rcases bH.mp mx with mx|mx
  ·exact T.sub x mx
  ·exact(hw x mx).1
 ·unfold uU at e;rcases List.append_eq_append_iff.mp e with⟨c,h1,h2⟩|⟨c,h1,h2⟩
  ·have mb:b∈(aX rooms told).filter λx=>!decide (x∈cR ps (aX rooms told)):=by rw[h2];simp
   rw[h1];exact cH _ ((hw b mb).2.2 a ma ab)
  ·cases c with
   | nil =>
     rw[qO]at h1;have mb:b∈(aX rooms told).filter λx=>!decide (x∈cR ps (aX rooms told)):=by rw[<-HU (List.filter _ _),<-h2];simp
     rw[<-h1];exact(hw b mb).2.2 a ma ab
   | cons b' c =>
     cases h2;exact T.ord u b c h1 a ma ab
theorem Nc {rooms told:List Int}(T:Told ps rooms told) (h:rooms.length<=told.length):∀ x∈rooms,x∈told:=λx mx=>by
 by_cases ht:x∈told
 ·exact ht
 ·have:=(qT.mpr ⟨ht,T.nd⟩).length_le_of_subset (l₂:=rooms) λy my=>by
   rcases aP.mp my with rfl|my
   ·exact mx
   ·exact T.sub y my
  simp at this;omega
theorem JQ {rooms told:List Int}(hr:rooms.Nodup) (F:eW ps rooms) (h:told.length<rooms.length):told.length<(uU ps rooms told).length:=by
 have hw:aX rooms told≠[]:=λz=>by
  have:=hr.length_le_of_subset (l₂:=told) λx mx=>by
   by_cases ht:x∈told
   ·exact ht
   ·have:x∈aX rooms told:=cD.mpr ⟨mx,by simpa using ht⟩;rw[z]at this;cases this
  omega
 have:∃ x∈aX rooms told,x∉cR ps (aX rooms told):=by
  cases e:(aX rooms told).find? λx=>!decide (x∈cR ps (aX rooms told)) with
  |some x=>exact⟨x,wU e,by have:=HX e;simpa using this⟩
  | none =>
    rw[wR]at e;exact absurd (λx mx=>(cD.mp mx).1) (F (aX rooms told) ⟨hw,λx mx=>by
     have:x∈cR ps (aX rooms told):=by simpa using e x mx
     exact GG.mp this⟩)
 obtain⟨x,mx,hx⟩:=this;unfold uU;rw[cb];have:0<((aX rooms told).filter λx=>!decide (x∈cR ps (aX rooms told))).length:=Wv (a:=x) (cD.mpr ⟨mx,by simpa using hx⟩);omega
noncomputable def frees (ps:List (Int×Int)) (l:List Int):List Int:=l.filter λr=>(l.filter λo=>decide ((o,r)∈ps)).isEmpty
theorem oH {l:List Int}{x:Int}:x∈frees ps l ↔ x∈l /\ ∀ y∈l,(y,x)∉ps:=by
 unfold frees;rw[cD,wQ,vo];simp
theorem Fs {l:List Int}(F:eW ps l) (h:l≠[]):frees ps l≠[]:=λz=>F l ⟨h,λx mx=>by
 cases e:l.find? λy=>decide ((y,x)∈ps) with
 |some y=>exact⟨y,wU e,of_decide_eq_true (HX (p:=λy=>decide ((y,x)∈ps)) e)⟩
 | none =>
   rw[wR]at e;have:x∈frees ps l:=oH.mpr ⟨mx,λy my q=>e y my (decide_eq_true q)⟩;rw[z]at this;cases this⟩ λx mx=>mx
theorem Nd {l m:List Int}(h:∀ x∈l,x∈m) (F:eW ps m):eW ps l:=λS C hS=>F S C λx mx=>h x (hS x mx)
theorem JR {l:List Int}(F:eW ps (l.filter λx=>!decide (x∈frees ps l))):eW ps l:=λS C hS=>by
 refine F S C λx mx=>cD.mpr ⟨hS x mx,?_⟩;simp only[qb,decide_eq_false_iff_not];intro m;obtain⟨y,my,e⟩:=C.2 x mx;exact(oH.mp m).2 y (hS y my) e
theorem stuck {l:List Int}(h:l≠[]) (z:frees ps l=[]):¬ eW ps l:=λF=>Fs F h z
theorem Dk:eW ps []:=λS C hS=>by
 obtain⟨a,l,rfl⟩:=nM C.1;exact nomatch hS a (.head _)
end K51
namespace K51
open PySem PySem.Spec PyProof.Rows L2 L2.DL K1 bz eE
section
theorem mZ {g:DG}{k:DK}{w:W}{l:List W}{env1 env2:aJ}{bx2 aO:List Bx}{n2:List Int}(h1:g w env bx=some (env1,bx1)) (h2:tf env1 bx1=.val true bx2) (h3:k env1 bx2 ns=some (env2,aO,n2)):eV g tf k (w::l) env bx ns=eV g tf k l env2 aO n2:=by
 simp only[eV,h1,h2,h3,if_true]
theorem Nf {g:DG}{k:DK}{w:W}{l:List W}{env1:aJ}{bx2:List Bx}(h1:g w env bx=some (env1,bx1)) (h2:tf env1 bx1=.val false bx2):eV g tf k (w::l) env bx ns=eV g tf k l env1 bx2 ns:=by
 simp only[eV,h1,h2,wJ,if_false]
theorem AQ {i:Int}(h:te env bx=.val (.d (.int i)) bx1) (hl:ns.length+1<4000):eU te env bx ns=some (env,bx1,cq ns i):=by
 unfold eU;rw[h];exact if_pos hl
theorem GH:∀ (l:List (Int×Int)) (x0 x1:Option W) (ns:List Int),ns.length+2*l.length<3000 ->
 ∃ y0 y1,eV (fc 0) fw (uS (aj (dV 0)) (fc 1) fw (eU (dV 1))) ((l.map dP).map W.d) [x0,x1] bx ns=some ([y0,y1],bx,(l.flatMap λq=>[q.1,q.2]).foldl cq ns)
 |[],x0,x1,ns,_=>⟨x0,x1,rfl⟩
 | q::l,x0,x1,ns,h=>by
   rw[bA]at h;have s1:=AL ns q.1;have s2:=AL (cq ns q.1) q.2;obtain⟨y0,y1,e⟩:=GH l (some (.d (dP q))) (xN q.2) (cq (cq ns q.1) q.2) (by omega);refine⟨y0,y1,?_⟩;have i1:uS (aj (dV 0)) (fc 1) fw (eU (dV 1)) [some (.d (dP q)),x1] bx ns=some ([some (.d (dP q)),xN q.2],bx,cq (cq ns q.1) q.2):=by
    show eV (fc 1) fw (eU (dV 1)) [.d (.int q.1),.d (.int q.2)] [some (.d (dP q)),x1] bx ns=_;rw[mZ (env1:=[some (.d (dP q)),xN q.1]) (bx1:=bx) (bx2:=bx) rfl rfl (AQ (i:=q.1) rfl (by omega)),mZ (env1:=[some (.d (dP q)),xN q.2]) (bx1:=bx) (bx2:=bx) rfl rfl (AQ (i:=q.2) rfl (by omega))];rfl
   rw[aS,aS,mZ (env1:=[some (.d (dP q)),x1]) (bx1:=bx) (bx2:=bx) rfl rfl i1,e];rfl
theorem lW (M:Mv k ps) (k5:k<=5) (hl:ps.length<=10):fY [.d (.lst (ps.map dP))] bx=.val (.d (.lst ((nm ps).map D.int))) bx:=by
 refine gh ?_;obtain⟨y0,y1,e⟩:=GH (bx:=bx) ps none none [] (by simp;omega);have l1:(dd (ps.flatMap λq=>[q.1,q.2])).length<64:=by
  have:=mD M;rw[nm,oE]at this;omega
 show lU [xP ps] bx=_;refine gE ?_;unfold pZ;rw[show aj (dV 0) [xP ps] bx=.val ((ps.map dP).map W.d) bx from rfl,fN];rw[show cg [none,none] [some (W.d (.lst (ps.map dP)))]=[none,none] from rfl,e];exact if_pos l1
noncomputable abbrev ED:DE Bool:=uu (dB (d2 false bI (dV 0) (d2 false ax (dV 2) (qC (dC (.int 1)))))) (dB (d2 false rH (dV 1) (d2 false ax (dV 2) (dC (.int 0)))))
theorem Uq (h:p≠[]):aY (p.map D.int) (-1)=some (.int (la p)):=by
 have l:0<p.length:=List.length_pos_iff.mpr h;unfold aY;rw[aF,AH l];have e:p.getLast h=la p:=by
  unfold la;rw[List.getLastD_eq_getLast?,List.getLast?_eq_some_getLast h];rfl
 rw[a9,kg,<-e,List.getLast_eq_getElem];simp[l]
theorem PN (h:p≠[]):aY (p.map D.int) 0=some (.int (fi p)):=by
 obtain⟨a,l,rfl⟩:=nM h;unfold aY cz;rw[if_pos (Iy 0),if_pos (by simp)];rfl
theorem SZ (h:p≠[]) (a b:Int):ED [xN a,xN b,xU p] bx=.val (decide (a=la p)&&decide (fi p<=b)) bx:=by
 have e1:dB (d2 false bI (dV 0) (d2 false ax (dV 2) (qC (dC (.int 1))))) [xN a,xN b,xU p] bx=.val (decide (a=la p)) bx :=
  gj (fH (r:=.old (.bl (decide (a=la p)))) (x:=.int a) (y:=.int (la p)) rfl (fH (r:=.old (.int (la p))) (x:=tupI p) (y:=.int (-1)) rfl rfl (by show (aY (p.map D.int) (-1)).map Res.old=_;rw[Uq h];rfl)) rfl)
 have e2:dB (d2 false rH (dV 1) (d2 false ax (dV 2) (dC (.int 0)))) [xN a,xN b,xU p] bx=.val (decide (fi p<=b)) bx :=
  gj (fH (r:=.old (.bl (decide (fi p<=b)))) (x:=.int b) (y:=.int (fi p)) rfl (fH (r:=.old (.int (fi p))) (x:=tupI p) (y:=.int 0) rfl rfl (by show (aY (p.map D.int) 0).map Res.old=_;rw[PN h];rfl)) rfl)
 cases q:decide (a=la p) with
 |false=>rw[q]at e1;exact SI e1
 |true=>rw[q]at e1;exact SJ e1 e2
theorem AR {p:List Int}(hp:p≠[]):∀ (l:List (Int×Int)) (x0 x1:Option W) (ns:List Int),ns.length+l.length<3000 ->
 ∃ y0 y1,eV gP ED (eU (dV 1)) ((l.map dP).map W.d) [x0,x1,xU p] bx ns=some ([y0,y1,xU p],bx,((l.filter λq=>decide (q.1=la p)&&decide (fi p<=q.2)).map λq=>q.2).foldl cq ns)
 |[],x0,x1,ns,_=>⟨x0,x1,rfl⟩
 | q::l,x0,x1,ns,h=>by
   rw[bA]at h;have s1:=AL ns q.2;have e0:gP (W.d (dP q)) [x0,x1,xU p] bx=some ([some (W.d (.int q.1)),some (W.d (.int q.2)),xU p],bx):=rfl;have t:=SZ (bx:=bx) hp q.1 q.2;cases c:decide (q.1=la p)&&decide (fi p<=q.2) with
   | false =>
     obtain⟨y0,y1,e⟩:=AR hp l (xN q.1) (xN q.2) ns (by omega);rw[c]at t;exact⟨y0,y1,by rw[aS,aS,Nf e0 t,e,ze (by rw[c];decide)]⟩
   | true =>
     obtain⟨y0,y1,e⟩:=AR hp l (xN q.1) (xN q.2) (cq ns q.2) (by omega);rw[c]at t;refine⟨y0,y1,?_⟩;rw[aS,aS,mZ e0 t (AQ (i:=q.2) rfl (by omega)),e,zf (p:=λ(q:Int×Int)=>decide (q.1=la p)&&decide (fi p<=q.2)) c];rfl
theorem Ur (M:Mv k ps) (k5:k<=5) (hl:ps.length<=10) (hp:p≠[]) (h0:env[0]?=some (xP ps)) (h4:env[4]?=some (xU p)) :
 pZ false [none,none,some 4] (aj (dV 0)) gP ED (eU (dV 1)) env bx=.val (.d (.lst ((nD ps p).map D.int))) bx:=by
 obtain⟨y0,y1,e⟩:=AR (bx:=bx) hp ps none none [] (by simp;omega);have l1:(dd ((ps.filter λq=>decide (q.1=la p)&&decide (fi p<=q.2)).map λq=>q.2)).length<64:=by
  have:=Cb M p;rw[nD,oE]at this;omega
 unfold pZ;rw[show aj (dV 0) env bx=.val ((ps.map dP).map W.d) bx from fP (by rw[JA,h0]),fN];rw[show cg [none,none,some 4] env=[none,none,xU p] by simp[cg,h4],e];exact if_pos l1
variable {enc : α -> D} {r : aJ}
theorem Qp {k:Nat}{l:List α}(hb:bx[k]?=some (.lst (l.map enc))) (p:α->Bool) (f:α->D):∀ (qL pre:List α) (w:Option W) (acc:List D) (n:Nat),l=pre++qL->qL.length<n->acc.length+qL.length<=sizeLine ->
 (∀ a∈qL,tf (some (.d (enc a))::r) bx=.val (p a) bx /\ (p a=true->te (some (.d (enc a))::r) bx=.val (.d (f a)) bx)) ->
 pY k (fc 0) tf te n pre.length (w::r) bx acc=.val (acc++(qL.filter p).map f) bx
 |[],pre,w,acc,0,_,h,_,_=>absurd h (ve _)
 | [],pre,w,acc,n+1,e,_,_,_=>by
   have z:(l.map enc)[pre.length]?=none:=by rw[e];simp
   unfold pY;rw[hb];simp only[z];simp
 |a::qL,pre,w,acc,0,_,h,_,_=>absurd h (ve _)
 | a::qL,pre,w,acc,n+1,e,hn,hz,h=>by
   obtain⟨h1,h2⟩:=h a (bQ ..);rw[bA]at hn hz;have n':acc.length<sizeLine:=by omega
   have z:(l.map enc)[pre.length]?=some (enc a):=by rw[e];simp
   have e0:fc 0 (W.d (enc a)) (w::r) bx=some (some (W.d (enc a))::r,bx):=rfl;have e':l=(pre++[a])++qL:=by rw[e];simp
   cases c:p a with
   | false =>
     have ih:=Qp hb p f qL (pre++[a]) (some (W.d (enc a))) acc n e' (by omega) (by omega) λx m=>h x (bF _ m);rw[cb]at ih;rw[c]at h1;rw[ze (by simp[c]),<-ih];rw[pY,hb];simp only[z,e0,h1,BU];rfl
   | true =>
     have ih:=Qp hb p f qL (pre++[a]) (some (W.d (enc a))) (acc++[f a]) n e' (by omega) (by simp;omega) λx m=>h x (bF _ m);rw[cb]at ih;rw[c]at h1;rw[zf c];rw[pY,hb];simp only[z,e0,h1,h2 c,BU,if_pos n'];rw[show pre.length+1=pre.length+[a].length from rfl,ih];simp
theorem Zf {src:List (Option Nat)}{l:List α}(p:α->Bool) (f:α->D) (h1:m env bx0=.val (.b k) bx) (hb:bx[k]?=some (.lst (l.map enc))) (he:cg src env=none::r) (n:l.length<=sizeLine)
 (h:∀ a∈l,tf (some (.d (enc a))::r) bx=.val (p a) bx /\ (p a=true->te (some (.d (enc a))::r) bx=.val (.d (f a)) bx)):kX false src m (fc 0) tf te env bx0=.val (.d (.lst ((l.filter p).map f))) bx:=by
 unfold kX;rw[h1,fN];simp only[he];have e:Et bx k=l.length:=by simp[Et,hb]
 have:=Qp hb p f l [] none [] (Et bx k+1) rfl (by rw[e];omega) (by simpa using n) h;rw[show ([]:List α).length=0 from rfl]at this;rw[this,fN,io];rfl
theorem Qq {src:List (Option Nat)}{l:List α}(p:α->Bool) (h1:m env bx0=.val (.b k) bx) (hb:bx[k]?=some (.lst (l.map enc))) (he:cg src env=none::r) (n:l.length<=sizeLine)
 (h:∀ a∈l,te (some (.d (enc a))::r) bx=.val (.d (.bl (p a))) bx):dN false bW (fb (kX false src m (fc 0) fw te) fe) env bx0=.val (.d (.bl (l.all p))) bx:=by
 have:=Zf (tf:=fw) (te:=te) (λ_=>true) (λa=>.bl (p a)) h1 hb he n λa m=>⟨rfl,λ_=>h a m⟩;rw[List.filter_eq_self.mpr λ_ _=>rfl]at this;exact gY (r:=.old (.bl (l.all p))) [.lst (l.map λa=>.bl (p a))] (ff this rfl) (by simp[bW,oD,qS])
end
section
variable {env1 : aJ} {bx2 : List Bx} {t : DE Bool} {body : ai} 
theorem JS (h:t env bx=.val false bx1):cE t body (n+1) env bx=.nx env bx1:=by rw[cE,h,ou]
theorem S6 (h:t env bx=.val true bx1) (hb:body env bx1=.nx env1 bx2):cE t body (n+1) env bx=cE t body n env1 bx2:=by
 rw[cE,h,ou];simp only[hb]
theorem Us {w:W}(h:t env bx=.val true bx1) (hb:body env bx1=.rt w bx2):cE t body (n+1) env bx=.rt w bx2:=by
 rw[cE,h,ou];simp only[hb]
end
noncomputable def Xb (B0:List Bx) (dl:List (List Key×D)) (G:List Bx) (acc:List D):List Bx:=(B0++.dT dl::G)++[.lst acc]
section
variable {B0 G : List Bx} {dl Zg : List (List Key × D)} {acc Ei : List D}
theorem ada:(Xb B0 dl G acc)[B0.length]?=some (.dT dl):=by simp[Xb]
theorem adb:(Xb B0 dl G acc).set B0.length (.dT Zg)=Xb B0 Zg G acc:=by simp[Xb]
theorem ade:(Xb B0 dl G acc)[B0.length+1+G.length]?=some (.lst acc):=by
 rw[Xb,cU (by simp;omega),show B0.length+1+G.length-(B0++.dT dl::G).length=0 by simp;omega];rfl
theorem adf:(Xb B0 dl G acc).set (B0.length+1+G.length) (.lst Ei)=Xb B0 dl G Ei:=by
 rw[Xb,vn _ _ (by simp;omega)];have:B0.length+1+G.length-(B0++.dT dl::G).length=0:=by simp;omega
 rw[this];rfl
end
noncomputable def ek (x:List Int×List Int):List Key×D:=(x.1.map Sum.inl,tupI x.2)
theorem GI:∀ {a b:List Int},a.map (Sum.inl:Int->Key)=b.map Sum.inl->a=b
 |[],[],_=>rfl
 |[],_::_,e=>by simp at e
 |_::_,[],e=>by simp at e
 | x::a,y::b,e=>by
   rw[aS,aS]at e;injection e with e1 e2;injection e1 with e1;rw[e1,GI e2]
theorem BF:∀ l:List Int,uT (l.map D.int)=some (l.map Sum.inl)
 |[]=>rfl
 |x::l=>by rw[aS,uT,BF l];rfl
theorem GJ (q:List Int):∀ d:List (List Int×List Int),(h8 (d.map ek) (q.map Sum.inl)).isSome=has d q
 |[]=>rfl
 | x::d=>by
   have ih:=GJ q d;by_cases e:x.1=q
   ·have:h8 ((x::d).map ek) (q.map Sum.inl)=some (tupI x.2):=by simp[h8,ek,e]
    rw[this];simp[has,e]
   ·have h:h8 ((x::d).map ek) (q.map Sum.inl)=h8 (d.map ek) (q.map Sum.inl):=by
     have:¬ x.1.map (Sum.inl:Int->Key)=q.map Sum.inl:=λz=>e (GI z);simp[h8,ek,this]
    rw[h,ih];simp[has,e]
section
variable {B0 : List Bx}
noncomputable abbrev fB:ai:=(fE (fF (pZ false [none,none,some 4] (aj (dV 0)) gP ED (eU (dV 1))) (fc 5)) (fE (bp (dB (d2 false (inD false) (d2 false ax (dV 4) (dC (.int 0))) (dV 5))) (gn (tE (dV 1) (dN false kz (fb (dN false dj (fb (dV 4) fe)) fe)) (dV 4))) bj) (gn (rS (dV 3) (fk false [none,some 4] (aj (dV 5)) (fc 0) (dB (d2 false (inD true) (dV 0) (dV 1))) (d2 false fO (dV 1) (fV (fb (dV 0) fe))))))))
theorem Ng:jT=(fE (fF Eu (fc 1)) (fE (fF (fk true [none] (aj (fj K51.fY 1 (fb (dV 0) fe))) (fc 0) fw (fV (fb (dV 0) fe))) (fc 2)) (fE (cE (ur (dV 2)) (fE (fF (fZ true fe) (fc 3)) (fE (ia (aj (ny 2)) (fc 4) fB) (fF (dV 3) (fc 2)))) 2000) (fQ (wj true (dV 1)))))):=rfl
theorem Pa {q v:DE W}{d:List (List Int×List Int)}{key:List Int}(h1:m env bx=.val (.b n) bx) (g:bx[n]?=some (.dT (d.map ek))) (h2:q env bx=.val (.d (tupI key)) bx) (h3:v env bx=.val (.d (tupI p)) bx) (hl:d.length<sizeLine) :
 ∃ w,tE m q v env bx=.val w (if has d key then bx else bx.set n (.dT ((d++[(key,p)]).map ek))):=by
 unfold tE;simp only[h1,fN,g,h2,h3,BF,aF,if_pos hl];have e:=GJ key d;cases c:h8 (d.map ek) (key.map Sum.inl) with
 | some w =>
   rw[c]at e;exact⟨.d w,by rw[<-e];rfl⟩
 | none =>
   rw[c]at e;refine⟨.d (tupI p),?_⟩;rw[<-e,eL];rfl
theorem UY (M:Mv k ps) (k5:k<=5) (hl:ps.length<=10) (P:nE ps p) {d:List (List Int×List Int)}{G:List Bx}{acc:List D}(hd:d.length<=4000) (ha:acc.length<=20000) (w2 w5:Option W) :
 ∃ y5,fB [xP ps,xB B0.length,w2,xB (B0.length+1+G.length),xU p,w5] (Xb B0 (d.map ek) G acc) =
  .nx [xP ps,xB B0.length,w2,xB (B0.length+1+G.length),xU p,y5] (Xb B0 ((ins ps d p).map ek) G (acc++(rV ps p).map tupI)):=by
 have sz:=ba;have pl:=P.len M;have e1:=Ur (bx:=Xb B0 (d.map ek) G acc) M k5 hl P.ne (env:=[xP ps,xB B0.length,w2,xB (B0.length+1+G.length),xU p,w5]) rfl rfl;refine⟨xJ (nD ps p),?_⟩;unfold fB;rw[fu (fU e1)];generalize hE:(List.set [xP ps,xB B0.length,w2,xB (B0.length+1+G.length),xU p,w5] 5 (xJ (nD ps p):Option W))=E;have uV:E=[xP ps,xB B0.length,w2,xB (B0.length+1+G.length),xU p,xJ (nD ps p)]:=by rw[<-hE];rfl
 have v4:∀ bx,dV 4 E bx=.val (.d (tupI p)) bx:=λbx=>by rw[uV];rfl
 have v5:∀ bx,dV 5 E bx=.val (.d (.lst ((nD ps p).map D.int))) bx:=λbx=>by rw[uV];rfl
 have v1:∀ bx,dV 1 E bx=.val (.b B0.length) bx:=λbx=>by rw[uV];rfl
 have v3:∀ bx,dV 3 E bx=.val (.b (B0.length+1+G.length)) bx:=λbx=>by rw[uV];rfl
 have s4:cg [none,some 4] E=[none,xU p]:=by rw[uV];rfl
 rw[<-uV];clear hE uV;have t:dB (d2 false (inD false) (d2 false ax (dV 4) (dC (.int 0))) (dV 5)) E (Xb B0 (d.map ek) G acc)=.val (qK ps p) (Xb B0 (d.map ek) G acc):=
  gj (fH (r:=.old (.bl (qK ps p))) (fH (r:=.old (.int (fi p))) (v4 _) (y:=.int 0) rfl (by show (aY (p.map D.int) 0).map Res.old=_;rw[PN P.ne];rfl)) (v5 _) (by show inD false (.int (fi p)) _=_;rw[iG];rfl))
 have so:∀ bx,dN false kz (fb (dN false dj (fb (dV 4) fe)) fe) E bx=.val (.d (tupI (sortI p))) bx:=λbx=>by
  have s1:dj [.tup (p.map D.int)]=some (.lst ((sortI p).map D.int)):=by
   have:p.length<64:=by omega
   simp[dj,sW,K1.jE,this]
  exact gY (r:=.tup ((sortI p).map D.int)) [.lst ((sortI p).map D.int)] (ff (gY (r:=.lst ((sortI p).map D.int)) [tupI p] (ff (v4 bx) rfl) s1) rfl) rfl
 have adg:bp (dB (d2 false (inD false) (d2 false ax (dV 4) (dC (.int 0))) (dV 5))) (gn (tE (dV 1) (dN false kz (fb (dN false dj (fb (dV 4) fe)) fe)) (dV 4))) bj E (Xb B0 (d.map ek) G acc)=.nx E (Xb B0 ((ins ps d p).map ek) G acc):=by
  unfold ins;cases c:qK ps p with
  | false =>
    rw[c]at t;rw[mw t];rfl
  | true =>
    rw[c]at t;rw[Fi t,if_pos rfl];obtain⟨w,e⟩:=Pa (d:=d) (v1 _) ada (so _) (v4 _) (by omega);rw[jy e];cases z:has d (sortI p) with
    |true=>rfl
    |false=>rw[if_neg (by decide),if_neg (by decide),adb]
 rw[fu adg];have fl:=Cb M p;have c:fk false [none,some 4] (aj (dV 5)) (fc 0) (dB (d2 false (inD true) (dV 0) (dV 1))) (d2 false fO (dV 1) (fV (fb (dV 0) fe))) E (Xb B0 ((ins ps d p).map ek) G acc)=.val (.d (.lst ((rV ps p).map tupI))) (Xb B0 ((ins ps d p).map ek) G acc):=by
  have:=pd (enc:=D.int) (r:=[xU p]) (l:=nD ps p) (bx:=Xb B0 ((ins ps d p).map ek) G acc) (bx0:=Xb B0 ((ins ps d p).map ek) G acc) (env:=E) (src:=[none,some 4]) (mi:=aj (dV 5)) (tf:=dB (d2 false (inD true) (dV 0) (dV 1))) (te:=d2 false fO (dV 1) (fV (fb (dV 0) fe))) (λr=>!decide (r∈p)) (λr=>tupI (p++[r])) (fP (v5 _)) s4 (by omega) λr mr=>⟨gj (fH (r:=.old (.bl (!decide (r∈p)))) (x:=.int r) (y:=tupI p) rfl rfl (o9 true p r)),λ_=>fH (r:=.tup ((p++[r]).map D.int)) (x:=tupI p) (y:=.tup [.int r]) rfl (gz [.int r] rfl (show (1:Nat)<=sizeLine by omega)) (by rw[eL];exact if_pos (by simp;omega))⟩;rw[this,rV,dv];rfl
 refine jy (w:=.d .aq) ?_;unfold rS;have nl:=Cd M p;simp only[v3,fN,ade,c,aF];rw[if_pos (by omega),adf]
theorem Ut (M:Mv k ps) (k5:k<=5) (hl:ps.length<=10) {G:List Bx}(w2:Option W):∀ (l:List (List Int)) (d:List (List Int×List Int)) (acc:List D) (w4 w5:Option W),(∀ p∈l,nE ps p)->d.length+l.length<=4000->acc.length+5*l.length<=20000 ->
 ∃ y4 y5,cK (fc 4) fB ((l.map tupI).map W.d) [xP ps,xB B0.length,w2,xB (B0.length+1+G.length),w4,w5] (Xb B0 (d.map ek) G acc) =
  .nx [xP ps,xB B0.length,w2,xB (B0.length+1+G.length),y4,y5] (Xb B0 ((l.foldl (ins ps) d).map ek) G (acc++(l.flatMap (rV ps)).map tupI))
 |[],d,acc,w4,w5,_,_,_=>⟨w4,w5,by simp[cK]⟩
 | p::l,d,acc,w4,w5,P,hd,ha=>by
   rw[bA]at hd ha;obtain⟨y5,e⟩:=UY (B0:=B0) M k5 hl (P p (.head _)) (d:=d) (G:=G) (acc:=acc) (by omega) (by omega) w2 w5;have il:(ins ps d p).length<=d.length+1:=by
    unfold ins;split
    ·split<;>simp
    ·simp
   have nl:=Cd M p;obtain⟨z4,z5,e2⟩:=Ut M k5 hl (G:=G) w2 l (ins ps d p) (acc++(rV ps p).map tupI) (xU p) y5 (λq m=>P q (.tail _ m)) (by omega) (by simp;omega);refine⟨z4,z5,?_⟩;rw[aS,aS,mB (env1:=[xP ps,xB B0.length,w2,xB (B0.length+1+G.length),xU p,w5]) (bx1:=Xb B0 (d.map ek) G acc) rfl e,e2];simp
theorem Uu {ds:List D}{g:Nat}{G:List Bx}(hg:G[g]?=some (.lst ds)) (dl:List (List Key×D)) (x0 x1 x3 x4 x5:Option W):aj (ny 2) [x0,x1,xB (B0.length+1+g),x3,x4,x5] (Xb B0 dl G [])=.val (ds.map W.d) (Xb B0 dl (G.set g .dead) []):=by
 have gl:=(List.getElem?_eq_some_iff.mp hg).1;have e:(Xb B0 dl G [])[B0.length+1+g]?=some (.lst ds):=by
  rw[Xb,dt (by simp;omega),cU (by omega),show B0.length+1+g-B0.length=g+1 by omega,HS];exact hg
 have s:(Xb B0 dl G []).set (B0.length+1+g) .dead=Xb B0 dl (G.set g .dead) []:=by
  rw[Xb,Wt _ _ (by simp;omega),vn _ _ (by omega),show B0.length+1+g-B0.length=g+1 by omega,List.set_cons_succ];rfl
 have f:ny 2 [x0,x1,xB (B0.length+1+g),x3,x4,x5] (Xb B0 dl G [])=.val (.d (.lst ds)) (Xb B0 dl (G.set g .dead) []):=by
  show (match (Xb B0 dl G [])[B0.length+1+g]? with|some (.lst l)=>O.val (W.d (.lst l)) ((Xb B0 dl G []).set (B0.length+1+g) .dead)|some (.aN l)=>.val (W.d (.aN l)) ((Xb B0 dl G []).set (B0.length+1+g) .dead)|_=>.bad)=_;rw[e];simp only[s]
 exact fP f
noncomputable abbrev wB:ai:=(fE (fF (fZ true fe) (fc 3)) (fE (ia (aj (ny 2)) (fc 4) fB) (fF (dV 3) (fc 2))))
theorem Uv {ds:List D}{g:Nat}{G:List Bx}(hg:G[g]?=some (.lst ds)) (dl:List (List Key×D)) (x0 x1 x3 x4 x5:Option W):ur (dV 2) [x0,x1,xB (B0.length+1+g),x3,x4,x5] (B0++.dT dl::G)=.val (!ds.isEmpty) (B0++.dT dl::G):=by
 have e:(B0++.dT dl::G)[B0.length+1+g]?=some (.lst ds):=by
  rw[cU (by omega),show B0.length+1+g-B0.length=g+1 by omega,HS];exact hg
 unfold ur;rw[show dV 2 [x0,x1,some (W.b (B0.length+1+g)),x3,x4,x5] (B0++.dT dl::G)=.val (.b (B0.length+1+g)) (B0++.dT dl::G) from rfl,fN];have r1:aG (B0++.dT dl::G) (.b (B0.length+1+g))=some (.lst ds):=by simp only[aG,e]
 rw[r1];rfl
theorem adh (M:Mv k ps) (k5:k<=5) (hl:ps.length<=10):∀ (m j:Nat) (g:Nat) (G:List Bx) (x3 x4 x5:Option W) (c:Nat),k<=j+m->G[g]?=some (.lst ((lvl ps j).map tupI)) ->
 ∃ j' y2 y3 y4 y5 G',cE (ur (dV 2)) wB (m+1+c) [xP ps,xB B0.length,xB (B0.length+1+g),x3,x4,x5] (B0++.dT ((bU ps j).map ek)::G) =
  .nx [xP ps,xB B0.length,y2,y3,y4,y5] (B0++.dT ((bU ps j').map ek)::G') /\ lvl ps j'=[]:=by
 intro m;induction m with
 | zero =>
   intro j g G x3 x4 x5 c hk hg;have e:=GA M (show k<=j by omega);have t:=Uv (B0:=B0) hg ((bU ps j).map ek) (xP ps) (xB B0.length) x3 x4 x5;rw[e]at t;exact⟨j,_,_,_,_,G,by rw[show 0+1+c=c+1 by omega,JS t],e⟩
 | succ m ih =>
   intro j g G x3 x4 x5 c hk hg;have t:=Uv (B0:=B0) hg ((bU ps j).map ek) (xP ps) (xB B0.length) x3 x4 x5;rw[show m+1+1+c=(m+1+c)+1 by omega];by_cases e:lvl ps j=[]
   ·rw[e]at t;exact⟨j,_,_,_,_,G,by rw[JS t],e⟩
   ·have t':(!((lvl ps j).map tupI).isEmpty)=true:=by
     cases q:lvl ps j with
     |nil=>exact absurd q e
     |cons a l=>rfl
    rw[t']at t;have jk:j<k:=by
     rcases qN j k with q|q
     ·exact q
     ·exact absurd (GA M q) e
    have l0:(lvl ps j).length<=3125:=bc (GB M k5 j) (yR (by decide) (show j+1<=5 by omega));have d0:=M7 M k5 (ps:=ps) j;have s1:fF (fZ true fe) (fc 3) [xP ps,xB B0.length,xB (B0.length+1+g),x3,x4,x5] (B0++.dT ((bU ps j).map ek)::G)=.nx [xP ps,xB B0.length,xB (B0.length+1+g),xB (B0.length+1+G.length),x4,x5] (Xb B0 ((bU ps j).map ek) G []):=by
     rw[fU (mn [] rfl (cT _))];rw[show (B0++.dT ((bU ps j).map ek)::G).length=B0.length+1+G.length by simp;omega];rfl
    have s2:=Uu (B0:=B0) hg ((bU ps j).map ek) (xP ps) (xB B0.length) (xB (B0.length+1+G.length)) x4 x5;obtain⟨y4,y5,s3⟩:=Ut (B0:=B0) M k5 hl (G:=G.set g .dead) (xB (B0.length+1+g)) (lvl ps j) (bU ps j) [] x4 x5 (λp m=>(lP m).1) (by omega) (by simp;omega);rw[qP]at s3;have b:wB [xP ps,xB B0.length,xB (B0.length+1+g),x3,x4,x5] (B0++.dT ((bU ps j).map ek)::G)=.nx [xP ps,xB B0.length,xB (B0.length+1+G.length),xB (B0.length+1+G.length),y4,y5] (B0++.dT ((bU ps (j+1)).map ek)::(G.set g .dead++[.lst ((lvl ps (j+1)).map tupI)])):=by
     unfold wB;rw[fu s1,fu ((iK s2).trans s3)];rw[fU (w:=.b (B0.length+1+G.length)) rfl];simp[Xb,bU,lvl]
    obtain⟨j',a2,a3,a4,a5,G',e',z'⟩:=ih (j+1) G.length (G.set g .dead++[.lst ((lvl ps (j+1)).map tupI)]) (xB (B0.length+1+G.length)) y4 y5 c (by omega) (by rw[cU (by simp),qP,nH];rfl);exact⟨j',a2,a3,a4,a5,G',by rw[S6 t b,e'],z'⟩
theorem Ft (M:Mv k ps) (k5:k<=5) (hl:ps.length<=10):∃ rs g j,jp [.d (.lst (ps.map dP))] B0=.val (.b j) (B0++g) /\ (B0++g)[j]?=some (.lst (rs.map tupI)) /\ B0.length<=j /\ ph k ps rs:=by
 have sz:=ba;have nl:=mD M;obtain⟨j',x2,x3,x4,x5,G',e,z⟩:=adh (B0:=B0) M k5 hl 5 0 0 [.lst ((lvl ps 0).map tupI)] none none none 1994 (by omega) rfl;refine⟨(bU ps j').map (·.2),.dT ((bU ps j').map ek)::G'++[.lst (((bU ps j').map (·.2)).map tupI)],B0.length+1+G'.length,?_,?_,by omega,SY M k5 z⟩
 ·have c:fk true [none] (aj (fj K51.fY 1 (fb (dV 0) fe))) (fc 0) fw (fV (fb (dV 0) fe)) [xP ps,xB B0.length,none,none,none,none] (B0++[.dT []])=.val (.b (B0.length+1)) (B0++[.dT []]++[.lst ((lvl ps 0).map tupI)]):=by
   have e1:=EA (enc:=D.int) (tf:=fw) (te:=fV (fb (dV 0) fe)) (bx:=B0++[.dT []]) (r:=[]) (λ_=>true) (λr=>tupI [r]) (nm ps) none [] (by simp;omega) λa m=>⟨rfl,λ_=>gz [.int a] rfl (show (1:Nat)<=sizeLine by omega)⟩;rw[List.filter_eq_self.mpr λ_ _=>rfl]at e1;have:=OM (bx:=B0++[.dT []]) (env:=[xP ps,xB B0.length,none,none,none,none]) (src:=[none]) (mi:=aj (fj K51.fY 1 (fb (dV 0) fe))) (fP (fK (l:=[.d (.lst (ps.map dP))]) rfl rfl (lW M k5 hl))) (e2:=[none]) rfl e1;rw[this];simp[lvl]
  have b:jT [xP ps,none,none,none,none,none] B0=.rt (.b (B0.length+1+G'.length)) (B0++(.dT ((bU ps j').map ek)::G'++[.lst (((bU ps j').map (·.2)).map tupI)])):=by
   rw[Ng,fu (env1:=[xP ps,xB B0.length,none,none,none,none]) (bx1:=B0++[.dT []]) (fU (w:=.b B0.length) (bx1:=B0++[.dT []]) rfl),fu (env1:=[xP ps,xB B0.length,xB (B0.length+1),none,none,none]) (bx1:=B0++[.dT []]++[.lst ((lvl ps 0).map tupI)]) (fU c)];rw[fu (env1:=[xP ps,xB B0.length,x2,x3,x4,x5]) (bx1:=B0++.dT ((bU ps j').map ek)::G') (by rw[<-e];simp[bU])];refine gE ?_;unfold wj;rw[show dV 1 [some (W.d (.lst (ps.map dP))),xB B0.length,x2,x3,x4,x5] (B0++.dT ((bU ps j').map ek)::G')=.val (.b B0.length) (B0++.dT ((bU ps j').map ek)::G') from rfl,fN];have g0:(B0++.dT ((bU ps j').map ek)::G')[B0.length]?=some (.dT ((bU ps j').map ek)):=by simp
   simp only[g0,Ml];rw[show (B0++.dT ((bU ps j').map ek)::G').length=B0.length+1+G'.length by simp;omega];simp[ek]
  show kP B0.length (kO (aH jT [xP ps,none,none,none,none,none] B0))=_;unfold aH;rw[b];rfl
 ·rw[cU (by omega),show B0.length+1+G'.length-B0.length=(.dT ((bU ps j').map ek)::G':List Bx).length by simp;omega,cU (ak _),nH];rfl
end
section
variable {h : D} 
theorem ph.good (M:Mv k ps) (R:ph k ps rs):Good k rs:=λr m=>⟨(R.p r m).1.ne,λi mi=>AO M ((R.p r m).1.nm i mi)⟩
theorem Nh (H:eG h k) (Qk:bx[j]?=some (.lst (rs.map tupI))) (hr:rs.length<=100) (G:Good k rs):∃ m,nC k rs m /\ gC [.d h,.b j] bx=.val (.d (tupI m)) bx:=by
 have sz:=ba;have n5:=H.n5;have sl:=jZ n5;have ne:(subs k).filter (dJ rs)≠[]:=by
  intro z;rw[vo]at z;exact z _ (AI k) (Bz G)
 obtain⟨x,l,Zh⟩:=nM ne;have mm:∀ s,s∈x::l ↔ s∈subs k /\ dJ rs s=true:=λs=>by rw[<-Zh,cD]
 refine⟨tM x l,⟨((mm _).mp (AK l x)).1,((mm _).mp (AK l x)).2,λs ms hs=>Gy l x s ((mm s).mpr ⟨ms,hs⟩)⟩,gh ?_⟩;show iz [some (.d h),xB j,none,none,none] bx=_;unfold iz;obtain⟨ay,bx',e,hb,w,he⟩:=iD (g:=fc 3) (body:=fF (yt 2 3) (fc 2)) (λi env b=>b=bx /\ ∃ w,env=[some (.d h),xB j,some (.d (.lst ((subs i).map tupI))),w,none]) (fA 0 k) 0 [some (.d h),xB j,some (.d (.lst ((subs 0).map tupI))),none,none] bx ⟨rfl,none,rfl⟩ (by
  rintro i w env b hw ⟨rfl,w0,rfl⟩;obtain⟨rfl,hi⟩:=Gw hw;rw[nJ];exact⟨[some (.d h),xB j,some (.d (.lst ((subs i).map tupI))),xN (i:Nat),none],b,[some (.d h),xB j,some (.d (.lst ((subs (i+1)).map tupI))),xN (i:Nat),none],b,rfl,fU (Gv (by omega) rfl rfl),rfl,_,rfl⟩)
 rw[show 0+(fA 0 k).length=k by simp[fA]]at he;rw[hb,he]at e;have rg:bP (fb (dN false az (fb (d2 false ax (dV 0) (dC (.int 0))) fe)) fe) [some (.d h),xB j,some (.d (.lst ((subs 0).map tupI))),none,none] bx=.val (fA 0 k) bx:=jd (ff (ks:=fe) (Qo H rfl) rfl) (by omega);refine(fu (fU B9)).trans ((fu ((iK rg).trans e)).trans ?_);have c:fk false [none,some 1] (aj (dV 2)) (fc 0) (dB (dN false bW (fb (kX false [none,some 0] (dV 1) (fc 0) fw (fj eE.mP 2 (fb (dV 1) (fb (dV 0) fe)))) fe))) (dV 0) [some (.d h),xB j,some (.d (.lst ((subs k).map tupI))),w,none] bx=.val (.d (.lst ((x::l).map tupI))) bx:=by
  rw[<-Zh];refine pd (enc:=tupI) (r:=[xB j]) (dJ rs) tupI (fP rfl) rfl (by omega) λs ms=>⟨?_,λ_=>rfl⟩;have:=mU n5 ms;exact gj (Qq (enc:=tupI) (r:=[xU s]) (k:=j) _ rfl Qk rfl (by omega) λr _=>fK (ff rfl (ff rfl rfl)) rfl (O3 s r (by omega)))
 refine(fu (fU c)).trans (gE (gY (r:=.old (tupI (tM x l))) [.lst ((x::l).map tupI)] (ff rfl rfl) ?_));show (if ((x::l).map tupI).all (λd=>(pb d).isSome)=true then some (Res.old (tq (λd=>(pb d).getD 0) (tupI x) (l.map tupI))) else none)=_;rw[if_pos (by rw[qS,bR];intro s _;show (pb (tupI s)).isSome=true;rw[Fm];rfl),Gx]
noncomputable abbrev tB:ai:=(fE (fF (fk false [none,some 2] (aj (dV 0)) (fc 0) (dB (d2 false (inD true) (dV 0) (dV 1))) (dV 0)) (fc 3)) (fE (fF (fk false [none,none,some 3] (aj (dV 1)) gP (dB (d2 false (inD false) (dV 0) (dV 2))) (dV 1)) (fc 4)) (gn (rS (dV 2) (fk false [none,some 4] (aj (dV 3)) (fc 0) (dB (d2 false (inD true) (dV 0) (dV 1))) (dV 0))))))
noncomputable abbrev tT:DE Bool:=dB (d2 false ku (dN false az (fb (dV 2) fe)) (dN false az (fb (dV 0) fe)))
theorem Pb:lO=(fE (fF (fZ true fe) (fc 2)) (fE (cE tT tB 2000) (fQ (ny 2)))):=rfl
noncomputable def Tx (bx:List Bx) (told:List Int):List Bx:=bx++[.lst (told.map D.int)]
theorem Pc {told:List Int}:(Tx bx told)[bx.length]?=some (.lst (told.map D.int)):=by simp[Tx]
theorem UZ {told t2:List Int}:(Tx bx told).set bx.length (.lst (t2.map D.int))=Tx bx t2:=by simp[Tx]
theorem Uw (rooms told:List Int) (x1 x3 x4:Option W):tT [xJ rooms,x1,xB bx.length,x3,x4] (Tx bx told)=.val (decide (told.length<rooms.length)) (Tx bx told):=by
 have r1:aG (Tx bx told) (.b bx.length)=some (.lst (told.map D.int)):=by simp only[aG,Pc]
 have a:dN false az (fb (dV 2) fe) [xJ rooms,x1,xB bx.length,x3,x4] (Tx bx told)=.val (.d (.int (told.length:Nat))) (Tx bx told):=by
  rw[DY,show fb (dV 2) fe [some (W.d (.lst (rooms.map D.int))),x1,xB bx.length,x3,x4] (Tx bx told)=.val [.b bx.length] (Tx bx told) from rfl,fN];have:df (Tx bx told) [.b bx.length]=some [.lst (told.map D.int)]:=by simp only[df,r1];rfl
  rw[this];simp[az]
 have b:dN false az (fb (dV 0) fe) [xJ rooms,x1,xB bx.length,x3,x4] (Tx bx told)=.val (.d (.int (rooms.length:Nat))) (Tx bx told):=gY (r:=.old (.int (rooms.length:Nat))) [.lst (rooms.map D.int)] (ff rfl rfl) (by simp[az]);refine gj (fH (r:=.old (.bl (decide (told.length<rooms.length)))) a b ?_);show some (Res.old (.bl (decide ((told.length:Int)<(rooms.length:Int)))))=_;congr 3;rw[nK,decide_eq_true_eq,decide_eq_true_eq];omega
theorem U0 {rooms told:List Int}(hr:rooms.length<=100) (ht:told.length<=200) (hl:ps.length<=10) (x3 x4:Option W) :
 ∃ y3 y4,tB [xJ rooms,xP ps,xB bx.length,x3,x4] (Tx bx told)=.nx [xJ rooms,xP ps,xB bx.length,y3,y4] (Tx bx (uU ps rooms told)):=by
 have sz:=ba;have c1:fk false [none,some 2] (aj (dV 0)) (fc 0) (dB (d2 false (inD true) (dV 0) (dV 1))) (dV 0) [xJ rooms,xP ps,xB bx.length,x3,x4] (Tx bx told)=.val (.d (.lst ((aX rooms told).map D.int))) (Tx bx told):=
  pd (enc:=D.int) (r:=[xB bx.length]) (λx=>!decide (x∈told)) D.int (fP rfl) rfl (by omega) λx _=>⟨gj (PM (r:=.old (.bl (!decide (x∈told)))) (x:=.int x) rfl rfl Pc (iG true told x)),λ_=>rfl⟩
 have wl:(aX rooms told).length<=rooms.length:=tZ _ _;have c2:fk false [none,none,some 3] (aj (dV 1)) gP (dB (d2 false (inD false) (dV 0) (dV 2))) (dV 1) [xJ rooms,xP ps,xB bx.length,xJ (aX rooms told),x4] (Tx bx told)=.val (.d (.lst ((cR ps (aX rooms told)).map D.int))) (Tx bx told):=by
  refine iS (fP (ds:=ps.map dP) rfl) (e2:=[none,none,xJ (aX rooms told)]) rfl ?_;rw[EC (λq=>decide (q.1∈aX rooms told)) (λq=>.int q.2) ps none none [] (by simp;omega) λq _=>⟨gj (fH (r:=.old (.bl (decide (q.1∈aX rooms told)))) (x:=.int q.1) (y:=.lst ((aX rooms told).map D.int)) rfl rfl (iG false _ _)),λ_=>rfl⟩];simp[cR]
 have c3:fk false [none,some 4] (aj (dV 3)) (fc 0) (dB (d2 false (inD true) (dV 0) (dV 1))) (dV 0) [xJ rooms,xP ps,xB bx.length,xJ (aX rooms told),xJ (cR ps (aX rooms told))] (Tx bx told)=.val (.d (.lst (((aX rooms told).filter λx=>!decide (x∈cR ps (aX rooms told))).map D.int))) (Tx bx told):=
  pd (enc:=D.int) (r:=[xJ (cR ps (aX rooms told))]) (λx=>!decide (x∈cR ps (aX rooms told))) D.int (fP rfl) rfl (by omega) λx _=>⟨gj (fH (r:=.old (.bl (!decide (x∈cR ps (aX rooms told))))) (x:=.int x) (y:=.lst ((cR ps (aX rooms told)).map D.int)) rfl rfl (iG true _ _)),λ_=>rfl⟩
 have fl:((aX rooms told).filter λx=>!decide (x∈cR ps (aX rooms told))).length<=(aX rooms told).length:=tZ _ _;refine⟨xJ (aX rooms told),xJ (cR ps (aX rooms told)),?_⟩;unfold tB;rw[fu (env1:=[xJ rooms,xP ps,xB bx.length,xJ (aX rooms told),x4]) (bx1:=Tx bx told) (fU c1)];rw[fu (env1:=[xJ rooms,xP ps,xB bx.length,xJ (aX rooms told),xJ (cR ps (aX rooms told))]) (bx1:=Tx bx told) (fU c2)];refine jy (w:=.d .aq) ?_;unfold rS;rw[show dV 2 [some (W.d (.lst (rooms.map D.int))),xP ps,xB bx.length,xJ (aX rooms told),xJ (cR ps (aX rooms told))] (Tx bx told)=.val (.b bx.length) (Tx bx told) from rfl,fN];simp only[Pc,c3,fN,aF];rw[if_pos (by omega),<-eL,UZ];rfl
theorem JT {rooms:List Int}(hr:rooms.Nodup) (F:eW ps rooms) (r5:rooms.length<=100) (hl:ps.length<=10):∀ (m:Nat) (told:List Int) (x3 x4:Option W) (c:Nat),Told ps rooms told->rooms.length-told.length<=m ->
 ∃ t2 y3 y4,cE tT tB (m+1+c) [xJ rooms,xP ps,xB bx.length,x3,x4] (Tx bx told)=.nx [xJ rooms,xP ps,xB bx.length,y3,y4] (Tx bx t2) /\ Told ps rooms t2 /\ rooms.length<=t2.length:=by
 intro m;induction m with
 | zero =>
   intro told x3 x4 c T hm;have t:=Uw (bx:=bx) rooms told (xP ps) x3 x4;rw[decide_eq_false (by omega)]at t;exact⟨told,x3,x4,by rw[show 0+1+c=c+1 by omega,JS t],T,by omega⟩
 | succ m ih =>
   intro told x3 x4 c T hm;have t:=Uw (bx:=bx) rooms told (xP ps) x3 x4;rw[show m+1+1+c=(m+1+c)+1 by omega];by_cases q:told.length<rooms.length
   ·rw[decide_eq_true q]at t;obtain⟨y3,y4,b⟩:=U0 (bx:=bx) (ps:=ps) (rooms:=rooms) (told:=told) r5 (by omega) hl x3 x4;have mo:=JQ hr F q;obtain⟨t2,z3,z4,e,T2,l2⟩:=ih (uU ps rooms told) y3 y4 c (JP T hr) (by omega);exact⟨t2,z3,z4,by rw[S6 t b,e],T2,l2⟩
   ·rw[decide_eq_false q]at t;exact⟨told,x3,x4,by rw[JS t],T,by omega⟩
theorem JU {rooms:List Int}(hr:rooms.Nodup) (F:eW ps rooms) (r5:rooms.length<=100) (hl:ps.length<=10):∃ told,jb [.d (.lst (rooms.map D.int)),.d (.lst (ps.map dP))] bx=.val (.d (.lst (told.map D.int))) bx /\ Told ps rooms told /\ rooms.length<=told.length:=by
 obtain⟨t2,y3,y4,e,T,l⟩:=JT (bx:=bx) hr F r5 hl 100 [] none none 1899 ⟨.nil,(λx m=>nomatch m),λu b v q=>by simp at q⟩ (by simp;omega);refine⟨t2,?_,T,l⟩;show kP bx.length (kO (aH lO [xJ rooms,xP ps,none,none,none] bx))=_;have b:lO [xJ rooms,xP ps,none,none,none] bx=.rt (.d (.lst (t2.map D.int))) (bx++[.dead]):=by
  rw[Pb,fu (env1:=[xJ rooms,xP ps,xB bx.length,none,none]) (bx1:=Tx bx []) (fU (mn [] rfl (cT _))),fu e];refine gE ?_;have s:(Tx bx t2).set bx.length .dead=bx++[.dead]:=by simp[Tx]
  show (match (Tx bx t2)[bx.length]? with|some (.lst l)=>O.val (W.d (.lst l)) ((Tx bx t2).set bx.length .dead)|some (.aN l)=>.val (W.d (.aN l)) ((Tx bx t2).set bx.length .dead)|_=>.bad)=_;rw[Pc];simp only[s]
 unfold aH;rw[b];simp[kO,kP]
end
structure Op (k:Nat) (ps:List (Int×Int)) (row:List Int) (rs:List (List Int)):Prop where
 R:ph k ps rs
 m:∃ m told,nC k rs m /\ Told ps (rest ps m) told /\ (rest ps m).length<=told.length /\ row=m++told++m
section
variable {h : D}
theorem Fu (H:eG h k) (M:Mv k ps) (hl:ps.length<=10):∃ row rs g i j,iF [.d h,.d (.lst (ps.map dP))] bx=.val (.t [i,j]) (bx++g) /\ (bx++g)[i]?=some (.lst (row.map D.int)) /\ (bx++g)[j]?=some (.lst (rs.map tupI)) /\ bx.length<=i /\ bx.length<=j /\ i≠j /\ Op k ps row rs:=by
 have sz:=ba;have n5:=H.n5;obtain⟨rs,g,j,e1,e2,e3,R⟩:=Ft (B0:=bx) M n5 hl;have jl:=(List.getElem?_eq_some_iff.mp e2).1;obtain⟨m,L,e4⟩:=Nh (bx:=bx++g) H e2 (by have:=R.l;omega) (R.good M);have nl:=mD M;have rl:(rest ps m).length<=(nm ps).length:=tZ _ _;have ml:=mU n5 L.1;obtain⟨told,e5,T,tl⟩:=JU (bx:=bx++g) (ps:=ps) (rooms:=rest ps m) (iT _ (lG ps)) (oG R L.2.1) (by omega) hl;have tH:=T.nd.length_le_of_subset (l₂:=rest ps m) λx mx=>T.sub x mx;refine⟨m++told++m,rs,g++[.lst ((m++told++m).map D.int)],(bx++g).length,j,?_,?_,?_,by simp,e3,by omega,⟨R,m,told,L,T,tl,rfl⟩⟩
 ·have b:jU [some (.d h),xP ps,none,none,none] bx=.rt (.t [(bx++g).length,j]) ((bx++g)++[.lst ((m++told++m).map D.int)]):=by
   unfold jU;have n1:gn (fj bz.iB 2 (fb (dV 0) (fb (dV 1) fe))) [some (.d h),xP ps,none,none,none] bx=.nx [some (.d h),xP ps,none,none,none] bx:=jy (fK (l:=[.d h,.d (.lst (ps.map dP))]) rfl rfl (bz.B8 H M hl));have n2:fF (fj K51.jp 1 (fb (dV 1) fe)) (fc 2) [some (.d h),xP ps,none,none,none] bx=.nx [some (.d h),xP ps,xB j,none,none] (bx++g):=fU (fK (l:=[.d (.lst (ps.map dP))]) rfl rfl e1);have n3:fF (dN false uz (fb (fj K51.gC 2 (fb (dV 0) (fb (dV 2) fe))) fe)) (fc 3) [some (.d h),xP ps,xB j,none,none] (bx++g)=.nx [some (.d h),xP ps,xB j,xJ m,none] (bx++g):=fU (gY (r:=.lst (m.map D.int)) [tupI m] (ff (fK (l:=[.d h,.b j]) rfl rfl e4) rfl) rfl);rw[fu n1,fu n2,fu n3];have c:fk false [none,some 3] (aj (fj K51.fY 1 (fb (dV 1) fe))) (fc 0) (dB (d2 false (inD true) (dV 0) (dV 1))) (dV 0) [some (.d h),xP ps,xB j,xJ m,none] (bx++g)=.val (.d (.lst ((rest ps m).map D.int))) (bx++g):=
    pd (enc:=D.int) (r:=[xJ m]) (λx=>!decide (x∈m)) D.int (fP (fK (l:=[.d (.lst (ps.map dP))]) rfl rfl (lW M n5 hl))) rfl (by omega) λx _=>⟨gj (fH (r:=.old (.bl (!decide (x∈m)))) (x:=.int x) (y:=.lst (m.map D.int)) rfl rfl (iG true m x)),λ_=>rfl⟩
   rw[fu (env1:=[some (.d h),xP ps,xB j,xJ m,xJ (rest ps m)]) (bx1:=bx++g) (fU c)];refine gE ?_;have a1:d2 false fO (dV 3) (fj K51.jb 2 (fb (dV 4) (fb (dV 1) fe))) [some (.d h),xP ps,xB j,xJ m,xJ (rest ps m)] (bx++g)=.val (.d (.lst ((m++told).map D.int))) (bx++g):=
    fH (r:=.lst ((m++told).map D.int)) (x:=.lst (m.map D.int)) (y:=.lst (told.map D.int)) rfl (fK (l:=[.d (.lst ((rest ps m).map D.int)),.d (.lst (ps.map dP))]) rfl rfl e5) (by rw[eL];exact if_pos (by simp;omega))
   have a2:d2 true fO (d2 false fO (dV 3) (fj K51.jb 2 (fb (dV 4) (fb (dV 1) fe)))) (dV 3) [some (.d h),xP ps,xB j,xJ m,xJ (rest ps m)] (bx++g)=.val (.b (bx++g).length) ((bx++g)++[.lst ((m++told++m).map D.int)]):=by
    rw[Mk,a1,fN,show dV 3 [some (W.d h),xP ps,xB j,xJ m,xJ (rest ps m)] (bx++g)=.val (.d (.lst (m.map D.int))) (bx++g) from rfl,fN,lV,lV,a9,a9];have:fO (.lst ((m++told).map D.int)) (.lst (m.map D.int))=some (.lst ((m++told++m).map D.int)):=by rw[eL (l₁:=m++told)];exact if_pos (by simp;omega)
    rw[this,Ml]
   unfold Ep;rw[ff a2 (l:=[.b j]) (bx2:=(bx++g)++[.lst ((m++told++m).map D.int)]) rfl,fN];exact if_pos (show (2:Nat)<=sizeLine by omega)
  show kP bx.length (kO (aH jU [some (.d h),xP ps,none,none,none] bx))=_;unfold aH;rw[b,<-eK];rfl
 ·rw[<-eK,cU (ak _),nH];rfl
 ·rw[<-eK,dt jl];exact e2
variable {row : List Int} 
theorem Op.len (O:Op k ps row rs):∃ m,nC k rs m /\ row.length=(nm ps).length+m.length:=by
 obtain⟨m,told,L,T,tl,rfl⟩:=O.m;have tH:=T.nd.length_le_of_subset (l₂:=rest ps m) λx mx=>T.sub x mx;have:=M9 O.R L;exact⟨m,L,by simp;omega⟩
theorem Op.adi (M:Mv k ps) (O:Op k ps row rs):∀ x∈row,0<=x /\ x<(k:Int):=by
 obtain⟨m,told,L,T,tl,rfl⟩:=O.m;have hm:=(mX L.1).2;intro x mx;rcases bH.mp mx with mx|mx
 ·rcases bH.mp mx with mx|mx
  ·exact hm x mx
  ·exact AO M (jF.mp (T.sub x mx)).1
 ·exact hm x mx
theorem Op.adj (O:Op k ps row rs):∀ q∈ps,∃ A B,row=A++B /\ q.1∈A /\ q.2∈B:=by
 obtain⟨m,told,L,T,tl,rfl⟩:=O.m;have all:=Nc T tl;rintro⟨a,b⟩ mq;have na:a∈nm ps:=mC.mpr ⟨_,mq,.inl rfl⟩;have nb:b∈nm ps:=mC.mpr ⟨_,mq,.inr rfl⟩;by_cases hb:b∈m
 ·refine⟨m++told,m,rfl,?_,hb⟩;by_cases ha:a∈m
  ·exact cH _ ha
  ·exact bG _ (all a (jF.mpr ⟨na,ha⟩))
 ·have tb:=all b (jF.mpr ⟨nb,hb⟩);by_cases ha:a∈m
  ·exact⟨m,told++m,by simp,ha,cH _ tb⟩
  ·obtain⟨u,v,e⟩:=zh tb;have au:=T.ord u b v e a (jF.mpr ⟨na,ha⟩) mq;exact⟨m++u,b::v++m,by rw[e];simp,bG _ au,by simp⟩
theorem AS:∀ {c:List Int},Ch ps c->∀ z,(la c,z)∈ps->c≠[]->(c.zip (c.drop 1++[z])).all (λq=>decide (q∈ps))=true
 |[],_,_,_,h=>absurd rfl h
 |[a],_,z,e,_=>by simp;exact e
 | a::b::l,h,z,e,_=>by
   have ih:=AS h.2 z (by rw[Ca]at e;exact e) (by simp);show ((a,b)::((b::l).zip (l++[z]))).all _=true;rw[pB,aA];exact⟨decide_eq_true h.1,ih⟩
theorem Op.ring (M:Mv k ps) (k5:k<=5) (O:Op k ps row rs):∀ r∈rs,EB ps r=true:=λr mr=>by
 obtain⟨P,C⟩:=O.R.p r mr;have l5:=P.len M;have l2:2<=r.length:=by
  cases r with
  |nil=>exact absurd rfl P.ne
  | cons a l =>
    cases l with
    |nil=>exact absurd rfl (M _ C.cl).2.2.2.2
    |cons b l=>simp
 have e:r.take 1=[fi r]:=by
  obtain⟨a,l,rfl⟩:=nM P.ne;rfl
 have s:steps ps r=true:=by
  unfold steps;rw[e];exact AS C.ch _ C.cl P.ne
 have d:(HT.dist r).length=r.length:=by
  rw[BA];have h1:=(mV r).length_le_of_subset (l₂:=r) λx m=>AN.mp m;have h2:=P.nd.length_le_of_subset (l₂:=dd r) λx m=>AN.mpr m;omega
 unfold EB;rw[decide_eq_true ⟨l2,by omega⟩];show yr ps r=true;unfold yr;rw[s,decide_eq_true d];rfl
end
section
variable {h : D} 
noncomputable abbrev rT:DE Bool:=dB (d2 false eC (dV 2) (fZ false fe))
noncomputable abbrev rB:ai:=(fE (fF (fk false [none,some 1,some 2] (aj (dV 2)) (fc 0) (dB (d2 false bI (fk false [none,some 0,some 1] (aj (dV 2)) (fc 0) (dB (d2 false (inD false) (fV (fb (dV 0) (fb (dV 1) fe))) (dV 2))) (dV 0)) (fZ false fe))) (dV 0)) (fc 3)) (fE (bp (dB (d2 false bI (dV 3) (fZ false fe))) (fQ (dC (.bl false))) bj) (fF (fk false [none,some 3] (aj (dV 2)) (fc 0) (dB (d2 false (inD true) (dV 0) (dV 1))) (dV 0)) (fc 2))))
theorem Ux:jc=(fE (fF (dN false uz (fb (dV 0) fe)) (fc 2)) (fE (cE rT rB 2000) (fQ (dC (.bl true))))):=rfl
theorem GK (l:List Int):bI (.lst (l.map D.int)) (.lst [])=some (.old (.bl l.isEmpty)):=by
 rw[eq_nil (mT l)];cases l<;>rfl
theorem Dl:fZ false fe env bx=.val (.d (.lst [])) bx:=BZ [] rfl (cT _)
theorem Pd {l:List Int}(hl:l.length<=100) (x0 x3:Option W):fk false [none,some 1,some 2] (aj (dV 2)) (fc 0) (dB (d2 false bI (fk false [none,some 0,some 1] (aj (dV 2)) (fc 0) (dB (d2 false (inD false) (fV (fb (dV 0) (fb (dV 1) fe))) (dV 2))) (dV 0)) (fZ false fe))) (dV 0) [x0,xP ps,xJ l,x3] bx=.val (.d (.lst ((frees ps l).map D.int))) bx:=by
 have sz:=ba;refine pd (enc:=D.int) (r:=[xP ps,xJ l]) (λr=>(l.filter λo=>decide ((o,r)∈ps)).isEmpty) D.int (fP rfl) rfl (by omega) λr _=>⟨?_,λ_=>rfl⟩;have c:fk false [none,some 0,some 1] (aj (dV 2)) (fc 0) (dB (d2 false (inD false) (fV (fb (dV 0) (fb (dV 1) fe))) (dV 2))) (dV 0) [xN r,xP ps,xJ l] bx=.val (.d (.lst ((l.filter λo=>decide ((o,r)∈ps)).map D.int))) bx :=
  pd (enc:=D.int) (r:=[xN r,xP ps]) (λo=>decide ((o,r)∈ps)) D.int (fP rfl) rfl (by omega) λo _=>⟨gj (fH (r:=.old (.bl (decide ((o,r)∈ps)))) (x:=dP (o,r)) (y:=.lst (ps.map dP)) (gz [.int o,.int r] rfl (show (2:Nat)<=sizeLine by omega)) rfl (Dd false (o,r) ps)),λ_=>rfl⟩
 exact gj (fH (r:=.old (.bl (l.filter λo=>decide ((o,r)∈ps)).isEmpty)) c Dl (GK _))
theorem Uy (l:List Int) (x0 x1 x3:Option W):rT [x0,x1,xJ l,x3] bx=.val (!l.isEmpty) bx :=
 gj (fH (r:=.old (.bl (!l.isEmpty))) (x:=.lst (l.map D.int)) (y:=.lst []) rfl Dl ((SS (mT l)).trans (by cases l<;>rfl)))
theorem Pe:∀ (m:Nat) (l:List Int) (x0 x3:Option W) (c:Nat),l.length<=m->l.length<=100 ->
 (eW ps l /\ ∃ y,cE rT rB (m+1+c) [x0,xP ps,xJ l,x3] bx=.nx y bx) \/ (¬ eW ps l /\ cE rT rB (m+1+c) [x0,xP ps,xJ l,x3] bx=.rt (.d (.bl false)) bx):=by
 have sz:=ba;intro m;induction m with
 | zero =>
   intro l x0 x3 c hm hl;have e:l=[]:=List.length_eq_zero_iff.mp (by omega);subst e;refine .inl ⟨Dk,[x0,xP ps,xJ ([]:List Int),x3],?_⟩;rw[show 0+1+c=c+1 by omega];exact JS (Uy [] x0 _ x3)
 | succ m ih =>
   intro l x0 x3 c hm hl;rw[show m+1+1+c=(m+1+c)+1 by omega];have t:=Uy (bx:=bx) l x0 (xP ps) x3;cases l with
   |nil=>exact .inl ⟨Dk,[x0,xP ps,xJ ([]:List Int),x3],JS t⟩
   | cons a l =>
     have s1:=fU (i:=3) (Pd (ps:=ps) (bx:=bx) hl x0 x3);have fl:((a::l).filter λx=>!decide (x∈frees ps (a::l))).length<=(a::l).length:=tZ _ _;have e3:dB (d2 false bI (dV 3) (fZ false fe)) [x0,xP ps,xJ (a::l),xJ (frees ps (a::l))] bx=.val (frees ps (a::l)).isEmpty bx :=
      gj (fH (r:=.old (.bl (frees ps (a::l)).isEmpty)) (x:=.lst ((frees ps (a::l)).map D.int)) (y:=.lst []) rfl Dl (GK _))
     cases ef:frees ps (a::l) with
     | nil =>
       refine .inr ⟨stuck (by simp) ef,Us t ?_⟩;unfold rB;rw[ef]at e3 s1;rw[fu (env1:=[x0,xP ps,xJ (a::l),xJ ([]:List Int)]) (bx1:=bx) s1,AG];exact(Fi e3).trans (gE rfl)
     | cons f fs =>
       have c3:fk false [none,some 3] (aj (dV 2)) (fc 0) (dB (d2 false (inD true) (dV 0) (dV 1))) (dV 0) [x0,xP ps,xJ (a::l),xJ (frees ps (a::l))] bx=.val (.d (.lst (((a::l).filter λx=>!decide (x∈frees ps (a::l))).map D.int))) bx :=
        pd (enc:=D.int) (r:=[xJ (frees ps (a::l))]) (λx=>!decide (x∈frees ps (a::l))) D.int (fP rfl) rfl (by omega) λx _=>⟨gj (fH (r:=.old (.bl (!decide (x∈frees ps (a::l))))) (x:=.int x) (y:=.lst ((frees ps (a::l)).map D.int)) rfl rfl (iG true _ _)),λ_=>rfl⟩
       have b:rB [x0,xP ps,xJ (a::l),x3] bx=.nx [x0,xP ps,xJ ((a::l).filter λx=>!decide (x∈frees ps (a::l))),xJ (frees ps (a::l))] bx:=by
        unfold rB;rw[fu (env1:=[x0,xP ps,xJ (a::l),xJ (frees ps (a::l))]) (bx1:=bx) s1];have e4:bp (dB (d2 false bI (dV 3) (fZ false fe))) (fQ (dC (.bl false))) bj [x0,xP ps,xJ (a::l),xJ (frees ps (a::l))] bx=.nx [x0,xP ps,xJ (a::l),xJ (frees ps (a::l))] bx:=mw (by rw[e3,ef];rfl);rw[fu e4];exact fU c3
       have less:((a::l).filter λx=>!decide (x∈frees ps (a::l))).length<(a::l).length:=by
        have pl:=BC (a::l) λx=>!decide (x∈frees ps (a::l));have mf:f∈frees ps (a::l):=by rw[ef];exact .head _
        have:0<((a::l).filter λx=>!!decide (x∈frees ps (a::l))).length:=Wv (a:=f) (cD.mpr ⟨(oH.mp mf).1,by simp[mf]⟩);omega
       rw[S6 t b];rcases ih ((a::l).filter λx=>!decide (x∈frees ps (a::l))) x0 (xJ (frees ps (a::l))) c (by omega) (by omega) with⟨F,y,e⟩|⟨F,e⟩
       ·exact .inl ⟨JR F,y,e⟩
       ·exact .inr ⟨λz=>F (Nd (λx mx=>(cD.mp mx).1) z),e⟩
open Classical in
noncomputable def qF (ps:List (Int×Int)) (T:List Int):Bool:=decide (eW ps (rest ps T))
theorem Fv (T:List Int):qF ps T=true ↔ eW ps (rest ps T):=by unfold qF;simp
theorem Fw {T:List Int}(hl:(rest ps T).length<=100):gx [.d (.lst ((rest ps T).map D.int)),.d (.lst (ps.map dP))] bx=.val (.d (.bl (qF ps T))) bx:=by
 refine gh ?_;show jc [xJ (rest ps T),xP ps,none,none] bx=_;rw[Ux,fu (env1:=[xJ (rest ps T),xP ps,xJ (rest ps T),none]) (bx1:=bx) (fU (gY (r:=.lst ((rest ps T).map D.int)) [.lst ((rest ps T).map D.int)] (ff rfl rfl) rfl))];rcases Pe (ps:=ps) (bx:=bx) 100 (rest ps T) (xJ (rest ps T)) none 1899 hl hl with⟨F,y,e⟩|⟨F,e⟩
 ·rw[(Fv T).mpr F];exact(fu e).trans (gE rfl)
 ·have:qF ps T=false:=by
   cases q:qF ps T with
   |false=>rfl
   |true=>exact absurd ((Fv T).mp q) F
  rw[this];exact AG e
theorem Pf {r:Int}{acc:List (List Int)}(hl:acc.length<=1000) (hs:∀ s∈acc,s.length<=100) (h1:env[i]?=some (some (.d (.lst (acc.map tupI))))) (h2:env[j]?=some (xN r)):yt i j env bx=.val (.d (.lst ((acc++acc.map λs=>s++[r]).map tupI))) bx:=by
 have sz:=ba;have v1:dV i env bx=.val (.d (.lst (acc.map tupI))) bx:=by rw[JA,h1]
 have c:fk false [none,some j] (aj (dV i)) (fc 0) fw (d2 false fO (dV 0) (fV (fb (dV 1) fe))) env bx=.val (.d (.lst (acc.map λs=>tupI (s++[r])))) bx :=
  tL (enc:=tupI) (r:=[xN r]) _ (fP v1) (by simp[cg,h2]) (by omega) λs ms=>by
   have:=hs s ms;exact fH (r:=.tup ((s++[r]).map D.int)) (x:=tupI s) (y:=.tup [.int r]) rfl (gz [.int r] rfl (show (1:Nat)<=sizeLine by omega)) (by rw[eL];exact if_pos (by simp;omega))
 refine fH (r:=.lst ((acc++acc.map λs=>s++[r]).map tupI)) v1 c ?_;rw[eL,dv];exact if_pos (by simp;omega)
theorem BG:∀ (l:List Int) (acc:List (List Int)) (x0 w:Option W) (n:Nat),l.length<=n->n<=5->acc.length*2 ^ l.length<=32->(∀ s∈acc,s.length+l.length<=50) ->
 ∃ w',cK (fc 2) (fF (yt 1 2) (fc 1)) ((l.map D.int).map W.d) [x0,some (.d (.lst (acc.map tupI))),w] bx=.nx [x0,some (.d (.lst ((dq l acc).map tupI))),w'] bx
 |[],acc,x0,w,n,_,_,_,_=>⟨w,rfl⟩
 | r::l,acc,x0,w,n,hn,n5,ha,hs=>by
   rw[bA]at hn ha hs;have Qg:(acc++acc.map λs=>s++[r]).length*2 ^ l.length<=32:=by
    rw[cb,aF,<-V4,yT 2,V5,yT 2,<-yS];exact ha
   have p0:1<=2 ^ (l.length+1):=Nat.one_le_two_pow;have al:acc.length<=32:=bc (Nat.le_mul_of_pos_right _ p0) ha;obtain⟨w',e⟩:=BG l (acc++acc.map λs=>s++[r]) x0 (xN r) n (by omega) n5 Qg λs ms=>by
    rcases bH.mp ms with ms|ms
    ·have:=hs s ms;omega
    ·obtain⟨t,mt,rfl⟩:=aT.mp ms;have:=hs t mt;simp;omega
   refine⟨w',?_⟩;rw[aS,aS,mB (env1:=[x0,some (.d (.lst (acc.map tupI))),xN r]) (bx1:=bx) (env2:=[x0,some (.d (.lst ((acc++acc.map λs=>s++[r]).map tupI))),xN r]) (bx2:=bx) rfl (fU (Pf (by omega) (λs ms=>by have:=hs s ms;omega) rfl rfl)),e];rfl
theorem Pg {l:List Int}(hl:l.length<=5):iE [.d (.lst (l.map D.int))] bx=.val (.d (.lst ((lo (dq l [[]])).map tupI))) bx:=by
 have sz:=ba;have p5:2 ^ l.length<=2 ^ 5:=yR (by decide) hl;have sl:(dq l [[]]).length<=32:=by rw[BD];simp;omega
 have s1:dq l [[]]≠[]:=λz=>by
  have:=j0 (l:=l) (acc:=[[]]) (a:=[]) (t:=[]) (.head _) (HW _);rw[z]at this;cases this
 have ll:(lo (dq l [[]])).length<=32:=by rw[(GF _).length_eq];exact sl
 refine gh ?_;show ja [xJ l,none,none] bx=_;unfold ja;obtain⟨w,e⟩:=BG (bx:=bx) l [[]] (xJ l) none 5 hl (by omega) (by simp;omega) (λs ms=>by cases a7.mp ms;simp;omega);refine(fu (fU B9)).trans ((fu ((iK (fP (ds:=l.map D.int) rfl)).trans e)).trans ?_);have c1:fk false [none] (aj (dV 1)) (fc 0) fw (fV (fb (dN false az (fb (dV 0) fe)) (fb (dV 0) fe))) [xJ l,some (.d (.lst ((dq l [[]]).map tupI))),w] bx=.val (.d (.lst ((dq l [[]]).map cQ))) bx :=
  tL (enc:=tupI) (r:=[]) _ (fP rfl) rfl (by omega) λs _=>gz [.int (s.length:Nat),tupI s] (ff (gY (r:=.old (.int (s.length:Nat))) [tupI s] (ff rfl rfl) (by simp[az])) (ff rfl rfl)) (show (2:Nat)<=sizeLine by omega)
 have c2:aj (dN false dj (fb (fk false [none] (aj (dV 1)) (fc 0) fw (fV (fb (dN false az (fb (dV 0) fe)) (fb (dV 0) fe)))) fe)) [xJ l,some (.d (.lst ((dq l [[]]).map tupI))),w] bx=.val (((lo (dq l [[]])).map cQ).map W.d) bx :=
  fP (gY (r:=.lst ((lo (dq l [[]])).map cQ)) [.lst ((dq l [[]]).map cQ)] (ff c1 rfl) (Na s1 (by omega)))
 have c3:bT (iq 2 (fR (fc 0) (fR (fc 1) iJ))) fw (dV 1) (((lo (dq l [[]])).map cQ).map W.d) [none,none] bx []=.val (((lo (dq l [[]])).map cQ).map λd=>match d with|.tup [_,x]=>x|_=>.aq) bx :=
  gR (λe=>∃ a b,e=[a,b]) _ ⟨none,none,rfl⟩ (by
   rintro d m env ⟨a,b,rfl⟩;obtain⟨s,_,rfl⟩:=aT.mp m;exact⟨[xN (s.length:Nat),xU s],rfl,⟨_,_,rfl⟩,rfl⟩) (by rw[aF];omega)
 exact gE (iS c2 rfl (c3.trans (by rw[dv];rfl)))
end
section
variable {h : D} {row : List Int}
noncomputable abbrev Qr (i:Nat):DE W:=dN false uO (fb (d2 false fO (fk false [none] (aj (dV i)) (fc 0) fw (d2 false ax (dV 0) (dC (.int 0)))) (fk false [none] (aj (dV i)) (fc 0) fw (d2 false ax (dV 0) (dC (.int 1))))) fe)
theorem S8 (ps:List (Int×Int)):sortI (HT.dist ((ps.map λq=>q.1)++ps.map λq=>q.2))=nm ps:=by
 rw[BA];refine oQ (jq (mV _)) (lG ps) (gq _) (oF ps) λx=>?_;rw[iX,AN,mC,bH,aT,aT];constructor
 ·rintro(⟨q,m,rfl⟩|⟨q,m,rfl⟩)
  ·exact⟨q,m,.inl rfl⟩
  ·exact⟨q,m,.inr rfl⟩
 ·rintro⟨q,m,rfl|rfl⟩
  ·exact .inl ⟨q,m,rfl⟩
  ·exact .inr ⟨q,m,rfl⟩
theorem PP (M:Mv k ps) (k5:k<=5) (hl:ps.length<=10) (h0:env[i]?=some (xP ps)):Qr i env bx=.val (.d (.lst ((nm ps).map D.int))) bx:=by
 have sz:=ba;have v:dV i env bx=.val (.d (.lst (ps.map dP))) bx:=by rw[JA,h0]
 have c1:fk false [none] (aj (dV i)) (fc 0) fw (d2 false ax (dV 0) (dC (.int 0))) env bx=.val (.d (.lst (ps.map λq=>D.int q.1))) bx:=tL (enc:=dP) (r:=[]) (λq=>.int q.1) (fP v) rfl (by omega) λq _=>fH (r:=.old (.int q.1)) (x:=dP q) (y:=.int 0) rfl rfl rfl;have c2:fk false [none] (aj (dV i)) (fc 0) fw (d2 false ax (dV 0) (dC (.int 1))) env bx=.val (.d (.lst (ps.map λq=>D.int q.2))) bx:=tL (enc:=dP) (r:=[]) (λq=>.int q.2) (fP v) rfl (by omega) λq _=>fH (r:=.old (.int q.2)) (x:=dP q) (y:=.int 1) rfl rfl rfl;have a:d2 false fO (fk false [none] (aj (dV i)) (fc 0) fw (d2 false ax (dV 0) (dC (.int 0)))) (fk false [none] (aj (dV i)) (fc 0) fw (d2 false ax (dV 0) (dC (.int 1)))) env bx=.val (.d (.lst (((ps.map λq=>q.1)++ps.map λq=>q.2).map D.int))) bx:=by
  refine fH (r:=.lst (((ps.map λq=>q.1)++ps.map λq=>q.2).map D.int)) c1 c2 ?_;rw[eL,dv,dv];exact if_pos (by simp;omega)
 refine gY (r:=.lst ((nm ps).map D.int)) [.lst (((ps.map λq=>q.1)++ps.map λq=>q.2).map D.int)] (ff a rfl) ?_;have l1:=Gu ((ps.map λq=>q.1)++ps.map λq=>q.2);have l2:((ps.map λq=>q.1)++ps.map λq=>q.2).length<=20:=by simp;omega
 show ((intsOf (((ps.map λq=>q.1)++ps.map λq=>q.2).map D.int)).bind λns=>if ns.length<4000 /\ (HT.dist ns).length<64 then some (Res.lst ((sortI (HT.dist ns)).map D.int)) else none)=_;rw[K1.jE,a9,if_pos ⟨by omega,by omega⟩,S8]
noncomputable abbrev adk:ai:=bp (dB (fj K51.gx 2 (fb (fk false [none,some 2] (aj (dV 1)) (fc 0) (dB (d2 false (inD true) (dV 0) (dV 1))) (dV 0)) (fb (dV 0) fe)))) (fQ (dN false az (fb (dV 2) fe))) bj
theorem GL (nl:(nm ps).length<=5):∀ (ls:List (List Int)) (w:Option W) (f:List Int),ls.find? (qF ps)=some f ->
 cK (fc 2) adk ((ls.map tupI).map W.d) [xP ps,xJ (nm ps),w] bx=.rt (.d (.int (f.length:Nat))) bx
 |[],w,f,e=>by cases e
 | s::ls,w,f,e=>by
   have sz:=ba;have c:fk false [none,some 2] (aj (dV 1)) (fc 0) (dB (d2 false (inD true) (dV 0) (dV 1))) (dV 0) [xP ps,xJ (nm ps),xU s] bx=.val (.d (.lst ((rest ps s).map D.int))) bx :=
    pd (enc:=D.int) (r:=[xU s]) (λx=>!decide (x∈s)) D.int (fP rfl) rfl (by omega) λx _=>⟨gj (fH (r:=.old (.bl (!decide (x∈s)))) (x:=.int x) (y:=tupI s) rfl rfl (o9 true s x)),λ_=>rfl⟩
   have rl:(rest ps s).length<=(nm ps).length:=tZ _ _;have t:dB (fj K51.gx 2 (fb (fk false [none,some 2] (aj (dV 1)) (fc 0) (dB (d2 false (inD true) (dV 0) (dV 1))) (dV 0)) (fb (dV 0) fe))) [xP ps,xJ (nm ps),xU s] bx=.val (qF ps s) bx :=
    gj (fK (l:=[.d (.lst ((rest ps s).map D.int)),.d (.lst (ps.map dP))]) (ff c rfl) rfl (Fw (by omega)))
   rw[vk]at e;cases q:qF ps s with
   | true =>
     rw[q]at t e;cases e;exact MK (env1:=[xP ps,xJ (nm ps),xU s]) rfl ((Fi t).trans (gE (gY (r:=.old (.int (s.length:Nat))) [tupI s] (ff rfl rfl) (by simp[az]))))
   | false =>
     rw[q]at t e;exact(mB (env1:=[xP ps,xJ (nm ps),xU s]) rfl ((mw t).trans rfl)).trans (GL nl ls _ f e)
theorem Ph (M:Mv k ps) (k5:k<=5) (hl:ps.length<=10) (R:ph k ps rs) {m:List Int}(L:nC k rs m):iR [.d (.lst (ps.map dP))] bx=.val (.d (.int (m.length:Nat))) bx:=by
 have nl:=mD M;obtain⟨f,e,ef⟩:=O9 M R L (q:=qF ps) λT=>Fv T;refine gh ?_;show lC [xP ps,none,none] bx=_;unfold lC;have s1:fF (Qr 0) (fc 1) [xP ps,none,none] bx=.nx [xP ps,xJ (nm ps),none] bx:=fU (PP M k5 hl rfl);refine(fu s1).trans (AG ?_);rw[<-ef];exact(iK (fP (fK (l:=[.d (.lst ((nm ps).map D.int))]) rfl rfl (Pg (by omega))))).trans (GL (by omega) _ none f e)
noncomputable abbrev lB:ai:=(bp (eR (dB (d2 false (inD true) (dV 3) (dV 2))) (dB (d2 false (inD true) (dV 4) (eS false (dV 2) (hJ (rO (dV 2) (dV 3))) kA)))) (fQ (dC (.bl false))) bj)
theorem S9 {A B:List Int}{a:Int}(h:a∈A):∃ t,(A++B).findIdx? (λz=>decide (z=a))=some t /\ t<=A.length /\ t<(A++B).length:=by
 have:∃ t,A.findIdx? (λz=>decide (z=a))=some t:=by
  cases e:A.findIdx? (λz=>decide (z=a)) with
  |some t=>exact⟨t,rfl⟩
  |none=>rw[List.findIdx?_eq_none_iff]at e;have:=e a h;simp at this
 obtain⟨t,e⟩:=this;obtain⟨ht,_⟩:=List.findIdx?_eq_some_iff_getElem.mp e;exact⟨t,by rw[List.findIdx?_append,e];rfl,by omega,by simp;omega⟩
theorem U1 (hb:bx[j]?=some (.lst (row.map D.int))) {q:Int×Int}(hq:∃ A B,row=A++B /\ q.1∈A /\ q.2∈B) (x0 x1:Option W):lB [x0,x1,xB j,xN q.1,xN q.2] bx=.nx [x0,x1,xB j,xN q.1,xN q.2] bx:=by
 obtain⟨A,B,e,ha,hB⟩:=hq;obtain⟨t,ht,tl,tH⟩:=S9 (B:=B) ha;rw[<-e]at ht tH;have t1:dB (d2 false (inD true) (dV 3) (dV 2)) [x0,x1,xB j,xN q.1,xN q.2] bx=.val false bx:=by
  refine gj (PM (r:=.old (.bl false)) (x:=.int q.1) rfl rfl hb ?_);rw[iG,decide_eq_true (show q.1∈row by rw[e];exact cH _ ha)];rfl
 have cf:=MI (row.map D.int) t (by rw[aF];omega);have sl:eS false (dV 2) (hJ (rO (dV 2) (dV 3))) kA [x0,x1,xB j,xN q.1,xN q.2] bx=.val (.d (.lst ((row.drop t).map D.int))) bx:=by
  rw[List.map_drop,<-cf];exact Um rfl (Gq (O4 rfl hb rfl hb ht)) rfl hb
 have t2:dB (d2 false (inD true) (dV 4) (eS false (dV 2) (hJ (rO (dV 2) (dV 3))) kA)) [x0,x1,xB j,xN q.1,xN q.2] bx=.val false bx:=by
  refine gj (fH (r:=.old (.bl false)) (x:=.int q.2) rfl sl ?_);rw[iG,decide_eq_true (show q.2∈row.drop t by rw[e,List.drop_append_of_le_length tl];exact bG _ hB)];rfl
 exact(mw (Bt t1 t2)).trans rfl
theorem Uz {j:Nat}(hb:bx[j]?=some (.lst (row.map D.int))) (x0 x1:Option W):∀ (l:List (Int×Int)) (w3 w4:Option W),(∀ q∈l,∃ A B,row=A++B /\ q.1∈A /\ q.2∈B)->∃ y3 y4,cK (iq 2 (fR (fc 3) (fR (fc 4) iJ))) lB ((l.map dP).map W.d) [x0,x1,xB j,w3,w4] bx=.nx [x0,x1,xB j,y3,y4] bx
 |[],w3,w4,_=>⟨w3,w4,rfl⟩
 | q::l,w3,w4,h=>by
   obtain⟨y3,y4,e⟩:=Uz hb x0 x1 l (xN q.1) (xN q.2) λz m=>h z (.tail _ m);refine⟨y3,y4,?_⟩;rw[aS,aS];exact(mB (env1:=[x0,x1,xB j,xN q.1,xN q.2]) (bx1:=bx) rfl (U1 hb (h q (.head _)) x0 x1)).trans e
theorem Zi {n:String}(h1:m env bx=.val (.b j) bx) (hb:bx[j]?=some (.lst l)):ic n m env bx=.val (.d (.bl (rJ "list" n))) bx:=by
 have r1:aG bx (.b j)=some (.lst l):=by simp only[aG,hb]
 rw[OE,h1,fN,r1];rfl
theorem Zj (h1:m env bx=.val (.b j) bx) (hb:bx[j]?=some (.lst l)):dN false az (fb m fe) env bx=.val (.d (.int (l.length:Nat))) bx:=by
 have r1:aG bx (.b j)=some (.lst l):=by simp only[aG,hb]
 rw[DY,ff h1 rfl,fN];have:df bx [.b j]=some [.lst l]:=by simp only[df,r1];rfl
 rw[this];simp[az]
theorem JV (k5:k<=5) (hl:ps.length<=10) (hb:bx[j]?=some (.lst (row.map D.int))) (h1:∀ x∈row,0<=x /\ x<(k:Int)) (rl:row.length<=100) (h2:∀ q∈ps,∃ A B,row=A++B /\ q.1∈A /\ q.2∈B):gQ [.d (.lst (ps.map dP)),.d (.int ((k:Int)-1)),.b j] bx=.val (.d (.bl true)) bx:=by
 have sz:=ba;refine gh ?_;show jV [xP ps,xN ((k:Int)-1),xB j,none,none] bx=_;unfold jV;have i1:bS (dB (ic "list" (dV 2))) [xP ps,xN ((k:Int)-1),xB j,none,none] bx=.val false bx:=jX (b:=true) (gj (Zi rfl hb));have i2:bS (dB (dN false bW (fb (kX false [none,some 1] (dV 2) (fc 0) fw (fj K1.gO 3 (fb (dV 0) (fb (dC (.int 0)) (fb (dV 1) fe))))) fe))) [xP ps,xN ((k:Int)-1),xB j,none,none] bx=.val false bx:=by
  have a:=Qq (enc:=D.int) (te:=fj K1.gO 3 (fb (dV 0) (fb (dC (.int 0)) (fb (dV 1) fe)))) (r:=[xN ((k:Int)-1)]) (k:=j) (bx:=bx) (bx0:=bx) (src:=[none,some 1]) (m:=dV 2) (env:=[xP ps,xN ((k:Int)-1),xB j,none,none]) (λx=>wi (.int x) 0 ((k:Int)-1)) rfl hb rfl (by omega) λx _=>fK (l:=[.d (.int x),.d (.int 0),.d (.int ((k:Int)-1))]) rfl rfl (Fe _ 0 _ bx);have all:(row.all λx=>wi (.int x) 0 ((k:Int)-1))=true:=by
   rw[bR];intro x mx;have:=h1 x mx;simp[wi];omega
  rw[all]at a;exact jX (gj a)
 refine(fu (env1:=[xP ps,xN ((k:Int)-1),xB j,none,none]) (bx1:=bx) ((mw (Bt i1 i2)).trans rfl)).trans ?_;obtain⟨y3,y4,e⟩:=Uz hb (xP ps) (xN ((k:Int)-1)) ps none none h2;exact(fu ((iK (fP (ds:=ps.map dP) rfl)).trans e)).trans (gE rfl)
theorem Dm (hb:bx[j]?=some (.lst (rs.map tupI))) (hl:rs.length<=30) (hr:∀ r∈rs,EB ps r=true):gJ [.d (.lst (ps.map dP)),.b j] bx=.val (.d (.bl true)) bx:=by
 have sz:=ba;refine gh ?_;show iI [xP ps,xB j] bx=_;unfold iI;refine gE ((o8 (Zi rfl hb)).trans ((if_pos rfl).trans ?_));have l1:d2 false cP (dN false az (fb (dV 1) fe)) (dC (.int 30)) [xP ps,xB j] bx=.val (.d (.bl true)) bx:=by
  refine fH (r:=.old (.bl true)) (Zj rfl hb) (y:=.int 30) rfl ?_;rw[aF];show some (Res.old (.bl (decide ((rs.length:Int)<=30))))=_;rw[decide_eq_true (by omega)]
 refine(o8 l1).trans ((if_pos rfl).trans ?_);have a:=Qq (enc:=tupI) (te:=fj eE.im 2 (fb (dV 1) (fb (dV 0) fe))) (r:=[xP ps]) (k:=j) (bx:=bx) (bx0:=bx) (src:=[none,some 0]) (m:=dV 1) (env:=[xP ps,xB j]) (λ_=>true) rfl hb rfl (by omega) λr mr=>by
  have q:=hr r mr;unfold EB at q;rw[aA,decide_eq_true_eq]at q;exact fK (l:=[.d (.lst (ps.map dP)),.d (tupI r)]) rfl rfl (A6 ps r q.1 q.2)
 rw[bR.mpr λ_ _=>rfl]at a;exact a
noncomputable abbrev wT:DE Bool:=dB (d2 false bI (kX false [none,some 2] (dV 1) (fc 0) (dB (d2 false bI (fk false [none,some 1] (aj (dV 0)) (fc 0) (dB (d2 false (inD false) (dV 0) (dV 1))) (dV 0)) (fZ false fe))) (dV 0)) (fZ false fe))
theorem UA {x0:Option W}(hb:bx[j]?=some (.lst (rs.map tupI))) (s:List Int) (hr:rs.length<=100) (hs:∀ r∈rs,r.length<=100):wT [x0,xB j,xU s] bx=.val (dJ rs s) bx:=by
 have sz:=ba;rw[<-O2];have c:kX false [none,some 2] (dV 1) (fc 0) (dB (d2 false bI (fk false [none,some 1] (aj (dV 0)) (fc 0) (dB (d2 false (inD false) (dV 0) (dV 1))) (dV 0)) (fZ false fe))) (dV 0) [x0,xB j,xU s] bx=.val (.d (.lst ((rs.filter (wo s)).map tupI))) bx:=by
  refine Zf (enc:=tupI) (r:=[xU s]) (k:=j) (wo s) tupI rfl hb rfl (by omega) λr mr=>⟨?_,λ_=>rfl⟩;have c2:fk false [none,some 1] (aj (dV 0)) (fc 0) (dB (d2 false (inD false) (dV 0) (dV 1))) (dV 0) [xU r,xU s] bx=.val (.d (.lst ((r.filter λx=>decide (x∈s)).map D.int))) bx :=
   pd (enc:=D.int) (r:=[xU s]) _ D.int (mQ rfl) rfl (by have:=hs r mr;omega) λx _=>⟨gj (fH (r:=.old (.bl (decide (x∈s)))) rfl rfl (o9 false s x)),λ_=>rfl⟩
  exact gj (fH (r:=.old (.bl (wo s r))) c2 Dl (by show bI (.lst _) (.lst [])=_;rw[eq_nil (mT _),HV];rfl))
 exact gj (fH (r:=.old (.bl (rs.filter (wo s)).isEmpty)) c Dl (by show bI (.lst _) (.lst [])=_;rw[eq_nil (Dc _),HV]))
theorem UB {x0:Option W}{j:Nat}(hb:bx[j]?=some (.lst (rs.map tupI))) (hr:rs.length<=100) (hs:∀ r∈rs,r.length<=100):∀ (ls:List (List Int)) (w:Option W) (f:List Int),ls.find? (dJ rs)=some f ->
 cK (fc 2) (bp wT (fQ (dN false az (fb (dV 2) fe))) bj) ((ls.map tupI).map W.d) [x0,xB j,w] bx=.rt (.d (.int (f.length:Nat))) bx
 |[],w,f,e=>by cases e
 | s::ls,w,f,e=>by
   have t:=UA (bx:=bx) (x0:=x0) hb s hr hs;rw[vk]at e;cases c:dJ rs s with
   | true =>
     rw[c]at t e;cases e;exact MK (env1:=[x0,xB j,xU s]) rfl ((Fi t).trans (gE (gY (r:=.old (.int (s.length:Nat))) [tupI s] (ff rfl rfl) (by simp[az]))))
   | false =>
     rw[c]at t e;exact(mB (env1:=[x0,xB j,xU s]) rfl ((mw t).trans rfl)).trans (UB hb hr hs ls _ f e)
theorem JW (H:eG h k) (hb:bx[j]?=some (.lst (rs.map tupI))) (hr:rs.length<=100) (hs:∀ r∈rs,r.length<=100) (G:Good k rs):∃ f,nC k rs f /\ iC [.d h,.b j] bx=.val (.d (.int (f.length:Nat))) bx:=by
 have n5:=H.n5;obtain⟨f,e,L⟩:=Fl G;refine⟨f,L,gh ?_⟩;show jW [some (.d h),xB j,none] bx=_;unfold jW;have a:vY false (fb (dN false az (fb (d2 false ax (dV 0) (dC (.int 0))) fe)) fe) [some (.d h),xB j,none] bx=.val (.d (.lst (pf k))) bx:=K2.Uk (j:=k) (ff (Qo H rfl) rfl) (by omega);exact AG ((iK (fP (fK (ff a rfl) rfl (SU n5)))).trans (UB hb hr hs (k6 k) none f e))
end
section
variable {h : D} {row : List Int}
theorem BH {l:List Nat}(h1:m env bx=.val (.t l) bx) (e:l[j]?=some n):dI m j env bx=.val (.b n) bx:=by
 unfold dI;rw[h1,fN];simp only[e]
theorem Pi (H:eG h k) (M:Mv k ps) (hl:ps.length<=10) (hi:bx[i]?=some (.lst (row.map D.int))) (hj:bx[j]?=some (.lst (rs.map tupI))) (O:Op k ps row rs):gK [.d h,.d (.lst (ps.map dP)),.t [i,j]] bx=.val (.d (.bl true)) bx:=by
 have sz:=ba;have k5:=H.n5;obtain⟨m,L,rl⟩:=O.len;have nl:=mD M;have ml:=mU k5 L.1;have yw:=O.R.l;refine gh ?_;show lD [some (.d h),xP ps,some (.t [i,j]),none,none] bx=_;unfold lD;have s1:bp (eR (bS (dB (Er "tuple" (dV 2)))) (dB (d2 false eC (Es (dV 2)) (dC (.int 2))))) (fQ (dC (.bl false))) bj [some (.d h),xP ps,some (.t [i,j]),none,none] bx=.nx [some (.d h),xP ps,some (.t [i,j]),none,none] bx:=rfl;have s2:fF (Qr 1) (fc 3) [some (.d h),xP ps,some (.t [i,j]),none,none] bx=.nx [some (.d h),xP ps,some (.t [i,j]),xJ (nm ps),none] bx:=fU (PP M k5 hl rfl);have s3:fF (fj K51.iR 1 (fb (dV 1) fe)) (fc 4) [some (.d h),xP ps,some (.t [i,j]),xJ (nm ps),none] bx=.nx [some (.d h),xP ps,some (.t [i,j]),xJ (nm ps),xN (m.length:Nat)] bx:=fU (fK (l:=[.d (.lst (ps.map dP))]) rfl rfl (Ph M k5 hl O.R L));generalize hE:([some (.d h),xP ps,some (.t [i,j]),xJ (nm ps),xN (m.length:Nat)]:aJ)=E at s3;have v0:dV 0 E bx=.val (.d h) bx:=by rw[<-hE];rfl
 have v1:dV 1 E bx=.val (.d (.lst (ps.map dP))) bx:=by rw[<-hE];rfl
 have v2:dV 2 E bx=.val (.t [i,j]) bx:=by rw[<-hE];rfl
 have v3:dV 3 E bx=.val (.d (.lst ((nm ps).map D.int))) bx:=by rw[<-hE];rfl
 have v4:dV 4 E bx=.val (.d (.int (m.length:Nat))) bx:=by rw[<-hE];rfl
 have r0:dN false az (fb (d2 false ax (dV 0) (dC (.int 0))) fe) E bx=.val (.d (.int (k:Nat))) bx:=Qo H (by rw[<-hE];rfl);have t1:bS (dB (fj K51.gQ 3 (fb (dV 1) (fb (d2 false cL (dN false az (fb (d2 false ax (dV 0) (dC (.int 0))) fe)) (dC (.int 1))) (fb (dI (dV 2) 0) fe))))) E bx=.val false bx :=
  jX (b:=true) (gj (fK (l:=[.d (.lst (ps.map dP)),.d (.int ((k:Int)-1)),.b i]) (ff v1 (ff (fH (r:=.old (.int ((k:Int)-1))) r0 (y:=.int 1) rfl rfl) (ff (BH v2 rfl) rfl))) rfl (JV k5 hl hi (O.adi M) (by omega) O.adj)))
 have t2:dB (d2 false eC (dN false az (fb (dI (dV 2) 0) fe)) (d2 false fO (dN false az (fb (dV 3) fe)) (dV 4))) E bx=.val false bx:=by
  have a1:=Zj (bx:=bx) (BH (j:=0) v2 rfl) hi;have a2:dN false az (fb (dV 3) fe) E bx=.val (.d (.int ((nm ps).length:Nat))) bx:=gY (r:=.old (.int ((nm ps).length:Nat))) [.lst ((nm ps).map D.int)] (ff v3 rfl) (by simp[az]);refine gj (fH (r:=.old (.bl false)) a1 (fH (r:=.old (.int (((nm ps).length:Int)+(m.length:Int)))) a2 v4 rfl) ?_);show some (Res.old (.bl (!decide (((row.map D.int).length:Int)=((nm ps).length:Int)+(m.length:Int)))))=_;rw[aF,decide_eq_true (by omega)];rfl
 have s4:bp (eR (bS (dB (fj K51.gQ 3 (fb (dV 1) (fb (d2 false cL (dN false az (fb (d2 false ax (dV 0) (dC (.int 0))) fe)) (dC (.int 1))) (fb (dI (dV 2) 0) fe)))))) (dB (d2 false eC (dN false az (fb (dI (dV 2) 0) fe)) (d2 false fO (dN false az (fb (dV 3) fe)) (dV 4))))) (fQ (dC (.bl false))) bj E bx=.nx E bx:=(mw (Bt t1 t2)).trans rfl;refine(fu s1).trans ((fu s2).trans ((fu s3).trans ((fu s4).trans (gE ?_))));have u1:fj K51.gJ 2 (fb (dV 1) (fb (dI (dV 2) 1) fe)) E bx=.val (.d (.bl true)) bx:=fK (l:=[.d (.lst (ps.map dP)),.b j]) (ff v1 (ff (BH v2 rfl) rfl)) rfl (Dm hj (by omega) (O.ring M k5));obtain⟨f,Lf,ew⟩:=JW (bx:=bx) H hj (by omega) (λr mr=>by have:=(O.R.p r mr).1.len M;omega) (O.R.good M);have u2:d2 false rH (fj K51.iC 2 (fb (dV 0) (fb (dI (dV 2) 1) fe))) (dV 4) E bx=.val (.d (.bl true)) bx:=by
  refine fH (r:=.old (.bl true)) (fK (l:=[.d h,.b j]) (ff v0 (ff (BH v2 rfl) rfl)) rfl ew) v4 ?_;show some (Res.old (.bl (decide ((m.length:Int)<=(f.length:Int)))))=_;rw[decide_eq_true (by have:=L.eq Lf;omega)]
 exact(o8 u1).trans ((if_pos rfl).trans u2)
theorem Ni (H:eG h k) (M:Mv k ps) (hl:ps.length<=10):vT (.tup [h,.lst (ps.map dP)])=true:=by
 have sz:=ba;have n5:=H.n5;have s:=Sm.tup (bD.cons ((H.sm.up (show 999<=10 ^ 30 by decide)).mono (show 4<=10 by decide) (ak _)) (bD.cons ((MZ M n5 hl).mono (show 2<=10 by decide) (ak _)) bD.nil));exact Fh s (by decide) (by decide) (by omega)
noncomputable abbrev yx:DE W:=sX (fV (fb (dV 3) (fb (dV 6) fe)))
noncomputable abbrev EE:ai:=(fE (fF (fj K51.iF 2 (fb (dV 3) (fb (dV 6) fe))) (fc 9)) (fE (bp (eR (bS (dB (fj K51.gK 3 (fb (dV 3) (fb (dV 6) (fb (dV 9) fe)))))) (dB (d2 false eC (sX (fV (fb (dV 3) (fb (dV 6) fe)))) (dV 7)))) (fQ (dC (.bl false))) bj) (fE (gn (eB (dI (dV 9) 0) (dC (.int 0)))) (gn (eB (dI (dV 9) 1) (fV (fb (dC (.int 0)) (fb (dC (.int 1)) fe))))))))
theorem UC (H:eG h k) (M:Mv k ps) (hl:ps.length<=10) {E:aJ}(v3:dV 3 E bx=.val (.d h) bx) (v6:dV 6 E bx=.val (.d (.lst (ps.map dP))) bx):yx E bx=.val (.d (.str (toPy (.tup [h,.lst (ps.map dP)])).shown)) bx:=by
 have sz:=ba;exact ON (gz [h,.lst (ps.map dP)] (ff v3 (ff v6 rfl)) (show (2:Nat)<=sizeLine by omega)) (Ni H M hl)
theorem UD (H:eG h k) (M:Mv k ps) (hl:ps.length<=10) (x0 x1 x2 x4 x5 x8 x9:Option W):∃ g y9,EE [x0,x1,x2,some (.d h),x4,x5,xP ps,some (.d (.str (toPy (.tup [h,.lst (ps.map dP)])).shown)),x8,x9] bx =
 .nx [x0,x1,x2,some (.d h),x4,x5,xP ps,some (.d (.str (toPy (.tup [h,.lst (ps.map dP)])).shown)),x8,y9] (bx++g):=by
 have sz:=ba;obtain⟨row,rs,g,i,j,e,hi,hj,li,lj,ij,O⟩:=Fu (bx:=bx) H M hl;generalize hT:toPy (.tup [h,.lst (ps.map dP)])=S;have s1:fF (fj K51.iF 2 (fb (dV 3) (fb (dV 6) fe))) (fc 9) [x0,x1,x2,some (.d h),x4,x5,xP ps,some (.d (.str S.shown)),x8,x9] bx=.nx [x0,x1,x2,some (.d h),x4,x5,xP ps,some (.d (.str S.shown)),x8,some (.t [i,j])] (bx++g):=fU (fK (l:=[.d h,.d (.lst (ps.map dP))]) rfl rfl e);generalize hE:([x0,x1,x2,some (.d h),x4,x5,xP ps,some (.d (.str S.shown)),x8,some (.t [i,j])]:aJ)=E at s1;have v3:∀ b,dV 3 E b=.val (.d h) b:=λb=>by rw[<-hE];rfl
 have v6:∀ b,dV 6 E b=.val (.d (.lst (ps.map dP))) b:=λb=>by rw[<-hE];rfl
 have v7:∀ b,dV 7 E b=.val (.d (.str S.shown)) b:=λb=>by rw[<-hE];rfl
 have v9:∀ b,dV 9 E b=.val (.t [i,j]) b:=λb=>by rw[<-hE];rfl
 have t1:bS (dB (fj K51.gK 3 (fb (dV 3) (fb (dV 6) (fb (dV 9) fe))))) E (bx++g)=.val false (bx++g):=jX (b:=true) (gj (fK (l:=[.d h,.d (.lst (ps.map dP)),.t [i,j]]) (ff (v3 _) (ff (v6 _) (ff (v9 _) rfl))) rfl (Pi H M hl hi hj O)));have t2:dB (d2 false eC yx (dV 7)) E (bx++g)=.val false (bx++g):=by
  have r:=UC (bx:=bx++g) H M hl (v3 _) (v6 _);rw[hT]at r;refine gj (fH (r:=.old (.bl false)) r (v7 _) ?_);show some (Res.old (.bl (!decide (S.shown=S.shown))))=_;rw[decide_eq_true rfl];rfl
 have s2:bp (eR (bS (dB (fj K51.gK 3 (fb (dV 3) (fb (dV 6) (fb (dV 9) fe)))))) (dB (d2 false eC yx (dV 7)))) (fQ (dC (.bl false))) bj E (bx++g)=.nx E (bx++g):=(mw (Bt t1 t2)).trans rfl;have rl:row.length<=100:=by
  obtain⟨m,L,q⟩:=O.len;have:=mD M;have:=mU H.n5 L.1;have:=H.n5;omega
 have yw:=O.R.l;have a1:gn (eB (dI (dV 9) 0) (dC (.int 0))) E (bx++g)=.nx E ((bx++g).set i (.lst (row.map D.int++[.int 0]))):=jy (C5 (BH (v9 _) rfl) hi rfl hi (by rw[aF];omega));have pL:((bx++g).set i (.lst (row.map D.int++[.int 0])))[j]?=some (.lst (rs.map tupI)):=by rw[sd ij];exact hj
 have a2:gn (eB (dI (dV 9) 1) (fV (fb (dC (.int 0)) (fb (dC (.int 1)) fe)))) E ((bx++g).set i (.lst (row.map D.int++[.int 0])))=.nx E (((bx++g).set i (.lst (row.map D.int++[.int 0]))).set j (.lst (rs.map tupI++[.tup [.int 0,.int 1]]))):=jy (C5 (BH (v9 _) rfl) pL (gz [.int 0,.int 1] rfl (show (2:Nat)<=sizeLine by omega)) pL (by rw[aF];omega));refine⟨(g.set (i-bx.length) (.lst (row.map D.int++[.int 0]))).set (j-bx.length) (.lst (rs.map tupI++[.tup [.int 0,.int 1]])),some (.t [i,j]),?_⟩;unfold EE;refine(fu s1).trans ((fu s2).trans ((fu a1).trans (a2.trans ?_)));rw[hE,vn _ _ li,vn _ _ lj]
end
section
variable {h : D}
theorem UE (j:Nat) (hj:j<=100) (env:aJ) (b:List Bx):bP (fb (dC (.int (j:Nat))) fe) env b=.val (fA 0 j) b:=jd (j:=j) (bx1:=b) (by simp) (by omega)
noncomputable abbrev Qs:ai:=(fE (fF yx (fc 7)) (ia (bP (fb (dC (.int 2)) fe)) (fc 8) EE))
theorem UF (H:eG h k) (M:Mv k ps) (hl:ps.length<=10) (x0 x1 x2 x4 x5 x7 x8 x9:Option W):∃ g y7 y8 y9,Qs [x0,x1,x2,some (.d h),x4,x5,xP ps,x7,x8,x9] bx=.nx [x0,x1,x2,some (.d h),x4,x5,xP ps,y7,y8,y9] (bx++g):=by
 have s1:fF yx (fc 7) [x0,x1,x2,some (.d h),x4,x5,xP ps,x7,x8,x9] bx=.nx [x0,x1,x2,some (.d h),x4,x5,xP ps,some (.d (.str (toPy (.tup [h,.lst (ps.map dP)])).shown)),x8,x9] bx:=fU (UC H M hl rfl rfl);obtain⟨ay,bx',e,g,y8,y9,rfl,rfl⟩:=iD (g:=fc 8) (body:=EE) (λ_ env b=>∃ g y8 y9,env=[x0,x1,x2,some (.d h),x4,x5,xP ps,some (.d (.str (toPy (.tup [h,.lst (ps.map dP)])).shown)),y8,y9] /\ b=bx++g) (fA 0 2) 0 [x0,x1,x2,some (.d h),x4,x5,xP ps,some (.d (.str (toPy (.tup [h,.lst (ps.map dP)])).shown)),x8,x9] bx ⟨[],x8,x9,rfl,by simp⟩ (by
  rintro i w env b hw ⟨g,y8,y9,rfl,rfl⟩;obtain⟨g',z9,e⟩:=UD (bx:=bx++g) H M hl x0 x1 x2 x4 x5 (some w) y9;exact⟨[x0,x1,x2,some (.d h),x4,x5,xP ps,some (.d (.str (toPy (.tup [h,.lst (ps.map dP)])).shown)),some w,y9],bx++g,[x0,x1,x2,some (.d h),x4,x5,xP ps,some (.d (.str (toPy (.tup [h,.lst (ps.map dP)])).shown)),some w,z9],bx++g++g',rfl,e,g++g',some w,z9,rfl,by rw[eK]⟩)
 exact⟨g,_,y8,y9,(fu s1).trans ((iK (UE 2 (by decide) _ _)).trans e)⟩
theorem GM (H:eG h k) (x0 x1 x2 x4 x5:Option W):∀ (ls:List (List (Int×Int))) (bx:List Bx) (x6 x7 x8 x9:Option W),(∀ ps∈ls,Mv k ps /\ ps.length<=10) ->
 ∃ g y6 y7 y8 y9,cK (fc 6) Qs ((ls.map λps=>D.lst (ps.map dP)).map W.d) [x0,x1,x2,some (.d h),x4,x5,x6,x7,x8,x9] bx=.nx [x0,x1,x2,some (.d h),x4,x5,y6,y7,y8,y9] (bx++g)
 |[],bx,x6,x7,x8,x9,_=>⟨[],x6,x7,x8,x9,by simp[cK]⟩
 | ps::ls,bx,x6,x7,x8,x9,hh=>by
   obtain⟨M,hl⟩:=hh ps (.head _);obtain⟨g,y7,y8,y9,e⟩:=UF (bx:=bx) H M hl x0 x1 x2 x4 x5 x7 x8 x9;obtain⟨g',z6,z7,z8,z9,e2⟩:=GM H x0 x1 x2 x4 x5 ls (bx++g) (xP ps) y7 y8 y9 λq m=>hh q (.tail _ m);refine⟨g++g',z6,z7,z8,z9,?_⟩;rw[aS,aS,<-eK];exact(mB (env1:=[x0,x1,x2,some (.d h),x4,x5,xP ps,x7,x8,x9]) (bx1:=bx) rfl e).trans e2
noncomputable abbrev Zk:DE W:=fV (fb (dV 5) (fb (fk false [none,none] (aj (dV 5)) (iq 2 (fR (fc 0) (fR (fc 1) iJ))) fw (fV (fb (dV 1) (fb (dV 0) fe)))) (fb (eS false (dV 5) kA (hJ (dC (.int 3)))) (fb (d2 false fO (dV 5) (eS false (dV 5) kA (hJ (d2 false cL (dC (.int 10)) (dN false az (fb (dV 5) fe)))))) fe))))
theorem GN (l:List D) (i:Option Int):∃ m,DL.cutD l none i=l.take m:=⟨_,rfl⟩
theorem Ta (M:Mv k ps) (hl:ps.length<=10) (v5:∀ b,dV 5 env b=.val (.d (.lst (ps.map dP))) b):∃ ls:List (List (Int×Int)),Zk env bx=.val (.d (.tup (ls.map λps=>D.lst (ps.map dP)))) bx /\ ∀ q∈ls,Mv k q /\ q.length<=10:=by
 have sz:=ba;have c1:fk false [none,none] (aj (dV 5)) (iq 2 (fR (fc 0) (fR (fc 1) iJ))) fw (fV (fb (dV 1) (fb (dV 0) fe))) env bx=.val (.d (.lst ((ps.map λq=>(q.2,q.1)).map dP))) bx:=by
  refine iS (fP (v5 bx)) (e2:=[none,none]) rfl ?_;rw[EC (λ_=>true) (λq=>dP (q.2,q.1)) ps none none [] (by simp;omega) λq _=>⟨rfl,λ_=>gz [.int q.2,.int q.1] rfl (show (2:Nat)<=sizeLine by omega)⟩,List.filter_eq_self.mpr λ_ _=>rfl,dv];rfl
 obtain⟨m3,e3⟩:=GN (ps.map dP) (some 3);have c3:eS false (dV 5) kA (hJ (dC (.int 3))) env bx=.val (.d (.lst ((ps.take m3).map dP))) bx:=by
  rw[Ww,<-e3];exact PJ (r:=.lst _) (v5 bx) rfl rfl rfl
 have ln:dN false az (fb (dV 5) fe) env bx=.val (.d (.int (ps.length:Nat))) bx:=gY (r:=.old (.int (ps.length:Nat))) [.lst (ps.map dP)] (ff (v5 bx) rfl) (by simp[az]);have sb:d2 false cL (dC (.int 10)) (dN false az (fb (dV 5) fe)) env bx=.val (.d (.int (10-(ps.length:Int)))) bx:=fH (r:=.old (.int (10-(ps.length:Int)))) (x:=.int 10) rfl ln rfl;obtain⟨m4,e4,l4⟩:∃ m4,DL.cutD (ps.map dP) none (some (10-(ps.length:Int)))=(ps.map dP).take m4 /\ ps.length+(ps.take m4).length<=10:=by
  by_cases q:10-ps.length<=ps.length
  ·refine⟨10-ps.length,?_,by rw[se];omega⟩;rw[show (10-(ps.length:Int))=((10-ps.length:Nat):Int) by omega];exact SG _ _ (by rw[aF];exact q)
  ·obtain⟨m,e⟩:=GN (ps.map dP) (some (10-(ps.length:Int)));exact⟨m,e,by rw[se];omega⟩
 have c4:d2 false fO (dV 5) (eS false (dV 5) kA (hJ (d2 false cL (dC (.int 10)) (dN false az (fb (dV 5) fe))))) env bx=.val (.d (.lst ((ps++ps.take m4).map dP))) bx:=by
  have s4:eS false (dV 5) kA (hJ (d2 false cL (dC (.int 10)) (dN false az (fb (dV 5) fe)))) env bx=.val (.d (.lst ((ps.take m4).map dP))) bx:=by
   rw[Ww,<-e4];exact PJ (r:=.lst _) (v5 bx) rfl (Gq sb) rfl
  refine fH (r:=.lst ((ps++ps.take m4).map dP)) (v5 bx) s4 ?_;rw[eL];exact if_pos (by simp;omega)
 refine⟨[ps,ps.map λq=>(q.2,q.1),ps.take m3,ps++ps.take m4],gz [.lst (ps.map dP),.lst ((ps.map λq=>(q.2,q.1)).map dP),.lst ((ps.take m3).map dP),.lst ((ps++ps.take m4).map dP)] (ff (v5 bx) (ff c1 (ff c3 (ff c4 rfl)))) (show (4:Nat)<=sizeLine by omega),λq m=>?_⟩;simp only[aP,nL,or_false]at m;rcases m with rfl|rfl|rfl|rfl
 ·exact⟨M,hl⟩
 ·refine⟨λz mz=>?_,by rw[aF];exact hl⟩;obtain⟨y,my,rfl⟩:=aT.mp mz;obtain⟨a,b,c,d,e⟩:=M y my;exact⟨c,d,a,b,Ne.symm e⟩
 ·exact⟨λz mz=>M z (Wx mz),by rw[se];omega⟩
 ·refine⟨λz mz=>?_,by rw[cb];exact l4⟩;rcases bH.mp mz with mz|mz
  ·exact M z mz
  ·exact M z (Wx mz)
noncomputable abbrev Qt:ai:=(fE (fF (fj bz.ig 2 (fb (dV 2) (fb (dV 3) fe))) (fc 5)) (ia (aj Zk) (fc 6) Qs))
theorem UG (H:eG h k) {A:List Bx}(hn:n<A.length) (q:Int) (x0 x1 x4 x5 x6 x7 x8 x9:Option W):∃ A' q' y5 y6 y7 y8 y9,n<A'.length /\ Qt [x0,x1,xB n,some (.d h),x4,x5,x6,x7,x8,x9] (pt A n q)=.nx [x0,x1,xB n,some (.d h),x4,y5,y6,y7,y8,y9] (pt A' n q'):=by
 obtain⟨ps,q',em,M,hl⟩:=MW hn q H;have s1:fF (fj bz.ig 2 (fb (dV 2) (fb (dV 3) fe))) (fc 5) [x0,x1,xB n,some (.d h),x4,x5,x6,x7,x8,x9] (pt A n q)=.nx [x0,x1,xB n,some (.d h),x4,xP ps,x6,x7,x8,x9] (pt A n q'):=fU (fK (l:=[.b n,.d h]) rfl rfl em);obtain⟨ls,ef,hs⟩:=Ta (bx:=pt A n q') M hl (env:=[x0,x1,xB n,some (.d h),x4,xP ps,x6,x7,x8,x9]) λb=>rfl;obtain⟨g,y6,y7,y8,y9,e⟩:=GM H x0 x1 (xB n) x4 (xP ps) ls (pt A n q') x6 x7 x8 x9 hs;rw[K1.lF hn]at e;exact⟨A++g,q',_,y6,y7,y8,y9,by rw[cb];omega,(fu s1).trans ((iK (mQ ef)).trans e)⟩
end
noncomputable abbrev Qu:ai:=(fE (fF (fj K1.jR 1 (fb (fj K1.ie 2 (fb (dV 0) (fb (dV 1) fe))) fe)) (fc 2)) (fE (fF (fj bz.iO 1 (fb (dV 2) fe)) (fc 3)) (ia (bP (fb (dC (.int 3)) fe)) (fc 4) Qt)))
theorem UH (l:List Int) (k:Nat) (bx:List Bx) (x2 x3 x4 x5 x6 x7 x8 x9:Option W):∃ (ys:aJ) (bx':List Bx),ys.length=9 /\ Qu [some (.s l),xN (k:Int),x2,x3,x4,x5,x6,x7,x8,x9] bx=.nx (some (.s l)::ys) bx':=by
 obtain⟨c,ec⟩:=SL l k bx;obtain⟨p,ep⟩:=Ue c bx;obtain⟨A,hn,pA⟩:∃ A:List Bx,bx.length<A.length /\ bx++[Bx.lst [D.int p]]=pt A bx.length p :=
  ⟨bx++[.lst [.int p]],by simp,by unfold pt;exact(MN Wu).symm⟩
 rw[pA]at ep;obtain⟨h,m,q,eh,H⟩:=bz.MU hn p;obtain⟨ay,bx',e,A',q',y4,y5,y6,y7,y8,y9,rfl,rfl,_⟩:=iD (g:=fc 4) (body:=Qt) (λ_ env b=>∃ A q y4 y5 y6 y7 y8 y9,env=[some (.s l),xN (k:Int),xB bx.length,some (.d h),y4,y5,y6,y7,y8,y9] /\ b=pt A bx.length q /\ bx.length<A.length) (fA 0 3) 0 [some (.s l),xN (k:Int),xB bx.length,some (.d h),x4,x5,x6,x7,x8,x9] (pt A bx.length q) ⟨A,q,x4,x5,x6,x7,x8,x9,rfl,rfl,hn⟩ (by
  rintro i w env b hw ⟨A,q,y4,y5,y6,y7,y8,y9,rfl,rfl,hA⟩;obtain⟨A',q',z5,z6,z7,z8,z9,adl,e⟩:=UG H hA q (some (.s l)) (xN (k:Int)) (some w) y5 y6 y7 y8 y9;exact⟨[some (.s l),xN (k:Int),xB bx.length,some (.d h),some w,y5,y6,y7,y8,y9],pt A bx.length q,_,_,rfl,e,A',q',some w,z5,z6,z7,z8,z9,rfl,rfl,adl⟩)
 refine⟨[xN (k:Int),xB bx.length,some (.d h),y4,y5,y6,y7,y8,y9],pt A' bx.length q',rfl,?_⟩;unfold Qu;exact(fu (fU (fK (ff (fK (ff rfl (ff rfl rfl)) rfl ec) rfl) rfl ep))).trans ((fu (fU (fK (ff rfl rfl) rfl eh))).trans ((iK (UE 3 (by decide) _ _)).trans e))
theorem law_true (l:List Int) (hl:l.length<=1000):∃ bx',BT [.s l] []=.val (.d (.bl true)) bx':=by
 obtain⟨c,ec⟩:=bz.Ul l hl [] [none,none,none,none,none,none,none,none,none];obtain⟨ay,bx',e,ys,rfl,hy⟩:=iD (g:=fc 1) (body:=Qu) (λ_ env b=>∃ ys:aJ,env=some (.s l)::ys /\ ys.length=9) (fA 0 c) 0 [some (.s l),none,none,none,none,none,none,none,none,none] [] ⟨_,rfl,rfl⟩ (by
  rintro i w env b hw ⟨ys,rfl,hy⟩;obtain⟨k,_,rfl⟩:=aT.mp (yX hw);match ys,hy with
  | [x1,x2,x3,x4,x5,x6,x7,x8,x9],_ =>
    obtain⟨zs,bx',hz,e⟩:=UH l k b x2 x3 x4 x5 x6 x7 x8 x9;refine⟨[some (.s l),xN (k:Int),x2,x3,x4,x5,x6,x7,x8,x9],b,_,_,by rw[Iw];rfl,e,zs,rfl,hz⟩)
 refine⟨_,Fj (bx':=bx') ?_⟩;show Mi [some (.s l),none,none,none,none,none,none,none,none,none] []=_;unfold Mi;refine(fu ((iK ec).trans e)).trans ?_;exact gE rfl
end K51
namespace L2.DL
open PySem PySem.Spec PyProof.Rows PySem.W
structure Cf where
 N:List Str
 nm:List (Str×NameKind)
 f:Bool
 bx:List Str
 dc:List Str
 wk:List (Str×Nat)   -- 1: a tuple of afm,2: a box Xn is walked,3: a dict with tuple keys
 EF:Str
 fs:List (Str×(Nat×(List W->List Bx->O W)))
 gl:List (Str×Int)
 bl:List Str
 rb:Bool
 ow:List Str
structure bK (c:Cf) (k:Nat) (X:Cx) (Z:Xs):Prop where
 N:X.N=c.N
 nm:X.env.scope.names=c.nm
 kd:X.env.scope.kind=.function
 calm:X.calm=true
 fn:c.f=true->∀ x,X.fn x=true
 ow:∀ x,x∈c.ow->X.fn x=true
 nd:c.N.Nodup
 room:cw k X.A
 fs:∀ x n fn,c.fs.lookup x=some (n,fn)->∃ kk ps,pU X.prog X.w X.K X.mg X.base Z.cl kk x ps fn /\ ps.length=n /\ kk<=k
 gl:∀ x v,c.gl.lookup x=some v->∃ t,X.mg x=some (.int v t)
 bl:∀ x,x∈c.bl->X.mg x=none
 adm:Passes (nU X.prog X.w) X Z.E
 ti:kQ X.K "int"
 tb:kQ X.K "bool"
 tt:kQ X.K "tuple"
 tl:kQ X.K "list"
 own:PassesOwn (model X.prog X.w) X.A X.env X.xe
noncomputable def aD:DE α:=λ_ _=>.bad
section
variable {es : List Expr} {o : Option Expr}
theorem fC:PD X T Z e aD:=λ_ _ _ _ _ _ h=>by
 obtain⟨_,_,_,_,_,h⟩:=h;exact h.elim
theorem lQ:dD X T Z e aD:=λ_ _ _ _ _ _ h=>by
 obtain⟨_,_,_,_,_,h⟩:=h;exact h.elim
theorem GO:qv X T Z e aD:=λ_ _ _ _ _ _ _ h=>by
 obtain⟨_,_,_,_,_,h⟩:=h;exact h.elim
theorem Pj:cc X T Z es aD:=λ_ _ _ _ _ _ _ h=>by
 obtain⟨_,_,_,_,_,h⟩:=h;exact h.elim
theorem Ce:nW X T Z tg e aD:=λ_ _ _ _ _ _ h=>by
 obtain⟨_,_,_,_,_,h⟩:=h;exact h.elim
noncomputable def uW:DG:=λ_ _ _=>none
noncomputable def Zl:kN:=λ_ _ _=>none
theorem lR:ez X T e uW:=λ_ _ _ _ _ _ _ _ _ h=>by
 obtain⟨_,_,_,_,_,_,_,h⟩:=h;exact h.elim
theorem Nj:rE X T es Zl:=λ_ _ _ _ _ _ _ _ _ h=>by
 obtain⟨_,_,_,_,_,_,_,h⟩:=h;exact h.elim
end
noncomputable def Cf.kd (c:Cf) (x:Str) (n:Nat):Bool:=match c.wk.lookup x with|some k=>k==n|none=>false
noncomputable def yy (c:Cf) (n:Nat):Expr->Bool
 |.Name x _=>c.kd x n
 |_=>false
noncomputable def Cf.ix (c:Cf) (x:Str):Option Nat:=c.N.findIdx? λy=>decide (y=x)
theorem Cf.Qv {c:Cf}(h:c.ix x=some i):c.N[i]?=some x:=by
 obtain⟨h1,h2,_⟩:=List.findIdx?_eq_some_iff_getElem.mp h;rw[cJ h1,of_decide_eq_true h2]
noncomputable def Cf.Qw (c:Cf) (x:Str):Bool:=(decide (c.nm.lookup x=some .local)||decide (c.nm.lookup x=some .cell)||decide (c.nm.lookup x=some .free))&&!(x==("__debug__":Str))&&!(x==("__classdict__":Str))
noncomputable def Cf.yz (c:Cf) (x:Str):Bool:=decide (c.nm.lookup x=some .globalImplicit)&&!(x==("__debug__":Str))&&decide (x≠("__name__":Str))
noncomputable def Cf.wq (c:Cf) (x:Str):Bool:=(decide (c.nm.lookup x=some .local)||decide (c.nm.lookup x=some .cell))&&(c.f||decide (x∈c.ow)||decide (c.nm.lookup x=some .local))
noncomputable def Cf.cZ (c:Cf) (x:Str):Bool:=c.yz x&&decide (x∈c.bl)
section
variable {c : Cf} 
theorem bK.adn (O:bK c k X Z) (h:c.Qw x=true):vF X.env.scope x /\ (x==("__debug__":Str))=false /\ (x==("__classdict__":Str))=false:=by
 simp only[Cf.Qw,aA,yU,decide_eq_true_eq,qb]at h;unfold vF;rw[O.nm];exact⟨or_assoc.mp h.1.1,h.1.2,h.2⟩
theorem bK.gb (O:bK c k X Z) (h:c.yz x=true):Gl X x /\ (x==("__debug__":Str))=false /\ x≠("__name__":Str):=by
 simp only[Cf.yz,aA,decide_eq_true_eq,qb]at h;unfold Gl Env.kindOf;rw[O.nm];exact⟨h.1.1,h.1.2,h.2⟩
theorem bK.lo (O:bK c k X Z) (h:c.wq x=true):Loc X.env.scope x /\ (X.fn x=true \/ X.env.scope.names.lookup x=some .local):=by
 simp only[Cf.wq,aA,yU,decide_eq_true_eq]at h;unfold Loc;rw[O.nm];exact⟨h.1,h.2.imp (λz=>z.elim (λz=>O.fn z x) (O.ow x)) id⟩
theorem bK.blt (O:bK c k X Z) (h:c.cZ x=true):Gl X x /\ (x==("__debug__":Str))=false /\ x≠("__name__":Str) /\ X.mg x=none:=by
 simp only[Cf.cZ,aA,decide_eq_true_eq]at h;obtain⟨a,b,d⟩:=O.gb h.1;exact⟨a,b,d,O.bl x h.2⟩
theorem bK.at (O:bK c k X Z) (h:c.ix x=some i):X.N[i]?=some x:=by rw[O.N];exact c.Qv h
theorem bK.wu (O:bK c k X Z):X.N.Nodup:=by rw[O.N];exact O.nd
theorem bK.u0 (O:bK c k X Z):X.A.units+100<cLine:=by have:=O.room.un;omega
theorem bK.u1 (O:bK c k X Z):X.A.units+1<cLine:=by have:=O.room.un;omega
noncomputable def EG (c:Cf) (fz:Bool) (x:Str):DE W:=match c.ix x with
 |some i=>if c.Qw x then (if fz&&c.bx.contains x then ny i else dV i) else aD
 | none=>match c.gl.lookup x with
   |some v=>if c.yz x then dC (.int v) else aD
   |none=>aD
theorem Do (O:bK c k X Z) (fz:Bool):PD X T Z (.Name x pos) (EG c fz x):=by
 unfold EG;split
 ·rename_i i e;split
  ·rename_i h;obtain⟨a,b,d⟩:=O.adn h;split
   ·exact R9 i (O.at e) a b d
   ·exact RC i (O.at e) a b d
  ·exact fC
 ·split
  ·rename_i v e;split
   ·rename_i h;obtain⟨a,b,_⟩:=O.gb h;exact Oc a (O.gl x v e) b
   ·exact fC
  ·exact fC
end
section
variable {c : Cf} {f : Expr -> DE W} {t : Expr -> DE Bool} {g : Expr -> DG}
noncomputable def tN (f:Expr->DE W):List Expr->DE (List W)
 |[]=>fe
 |e::es=>if a6 e then fb (f e) (tN f es) else aD
theorem mE (h:∀ e,PD X T Z e (f e)):∀ es,cc X T Z es (tN f es)
 |[]=>iL
 | e::es=>by
   unfold tN;split
   ·rename_i n;exact j6 (h e) (mE h es) n
   ·exact Pj
noncomputable def Qx (f:Expr->DE W):List Expr->DE W
 |[]=>aD
 |[a]=>f a
 |a::r=>gm (f a) (Qx f r)
theorem GP (h:∀ e,PD X T Z e (f e)):∀ es,PD X T Z (.BoolOp .And es pos) (Qx f es)
 |[]=>fC
 |[a]=>RK (h a)
 |a::b::r=>RL (h a) (GP h (b::r))
noncomputable def Qy (f:Expr->DE Bool):List Expr->DE Bool
 |[]=>aD
 |[a]=>f a
 |a::r=>uu (f a) (Qy f r)
theorem Dp (h:∀ e,dD X T Z e (t e)):∀ es,qv X T Z (.BoolOp .And es pos) (Qy t es)
 |[]=>GO
 |[a]=>Lu (h a)
 |a::b::r=>NQ (h a) (Dp h (b::r))
noncomputable def Qz (f:Expr->DE Bool):List Expr->DE Bool
 |[]=>aD
 |[a]=>f a
 |a::r=>eR (f a) (Qz f r)
theorem GQ (h:∀ e,dD X T Z e (t e)):∀ es,qv X T Z (.BoolOp .Or es pos) (Qz t es)
 |[]=>GO
 |[a]=>NP (h a)
 |a::b::r=>RJ (h a) (GQ h (b::r))
noncomputable def EH (g:Expr->DG):List Expr->kN
 |[]=>iJ
 |e::es=>if a6 e then fR (g e) (EH g es) else Zl
theorem Nk (h:∀ e,ez X T e (g e)):∀ es,rE X T es (EH g es)
 |[]=>LA
 | e::es=>by
   unfold EH;split
   ·rename_i n;exact Sj (h e) (Nk h es) n
   ·exact Nj
end
noncomputable def Zm:Operator->Option (D->D->Option Res)
 |.Add=>some fO|.Sub=>some cL|.Mult=>some dX|.FloorDiv=>some zY|.Mod=>some eA|.Pow=>some ux
 |_=>none
noncomputable def uX:CmpOp->Option (D->D->Option Res)
 |.Eq=>some bI|.NotEq=>some eC|.Lt=>some ku|.LtE=>some cP|.Gt=>some qy|.GtE=>some rH|.In=>some (inD false)|.NotIn=>some (inD true)
 |_=>none
theorem Pk {op:Operator}(h:Zm op=some g):∃ q,aM X (binaryOp op) q /\ bO q g:=by
 cases op<;>cases h
 ·exact⟨_,N3,abx⟩
 ·exact⟨_,Ri,aby⟩
 ·exact⟨_,N8,abY⟩
 ·exact⟨_,Rk,abA⟩
 ·exact⟨_,Rm,abB⟩
 ·exact⟨_,NB,abz⟩
theorem lS (hu:X.A.units+100<cLine) (h:uX op=some g):∃ q,aM X (compareOp op) q /\ bO q g:=by
 cases op<;>cases h
 ·exact⟨_,R6 hu,abW⟩
 ·exact⟨_,R7 hu,abX⟩
 ·exact⟨_,RT (by omega),abC⟩
 ·exact⟨_,R8 (by omega),abZ⟩
 ·exact⟨_,Ty,abD⟩
 ·exact⟨_,Tz,abE⟩
 ·exact⟨_,G3.or (Sk hu),okIn false⟩
 ·exact⟨_,BN.or (Jm hu),okIn true⟩
noncomputable def QA:List (Str×(Bool×(String×(List D->Option Res)))):=
 [("len",false, "len",az),("all",false, "all",bW),("any",false, "any",vZ),("sorted",false, "sorted",dj),("max",false, "max",maxD),("min",false, "min",minD),
  ("tuple",true, "tuple",kz),("list",true, "list",uz)]
def Zn (X:Cx) (x:Str) (p:Bool×(String×(List D->Option Res))):Prop :=
 match p with
 |(false,id,g)=>bootBuiltins x=some (.builtin id) /\ ∃ q,dA X (.builtin id) q /\ dU q g
 |(true,id,g)=>bootBuiltins x=some (.type id) /\ ∃ q,dA X (.type id) q /\ dU q g
theorem jg {α:Type}{P:Str->α->Prop}:∀ {l:List (Str×α)}{x:Str}{a:α},(∀ p∈l,P p.1 p.2)->l.lookup x=some a->P x a
 |[],_,_,_,e=>by cases e
 | (y,b)::r,x,a,h,e=>by
   rw[kG]at e;cases hx:x==y with
   | true =>
     rw[hx]at e;cases e;have:x=y:=by simpa using hx
     subst this;exact h _ (bQ ..)
   | false =>
     rw[hx]at e;exact jg (λp m=>h p (bF _ m)) e
theorem Pl (hc:X.calm=true) (hu:X.A.units+100<cLine) {p:Bool×(String×(List D->Option Res))}(h:QA.lookup x=some p):Zn X x p:=by
 refine jg (P:=Zn X) (λp m=>?_) h;simp only[QA,aP,nL,or_false]at m;rcases m with rfl|rfl|rfl|rfl|rfl|rfl|rfl|rfl
 ·exact⟨by decide +kernel,_,jH,abG⟩
 ·exact⟨by decide +kernel,_,Jb hc,abH⟩
 ·exact⟨by decide +kernel,_,Jo hc,acy⟩
 ·exact⟨by decide +kernel,_,DO hu,acp⟩
 ·exact⟨by decide +kernel,_,GX hc,abK⟩
 ·exact⟨by decide +kernel,_,GY hc,abL⟩
 ·exact⟨by decide +kernel,_,AZ,abI⟩
 ·exact⟨by decide +kernel,_,BO,abJ⟩
noncomputable def QB:List (Str×String):=[("int", "int"),("bool", "bool"),("tuple", "tuple"),("list", "list")]
theorem Nl {c:Cf}(O:bK c k X Z) {n:String}(h:QB.lookup x=some n):kQ X.K n /\ bootBuiltins x=some (.type n):=by
 refine jg (P:=λx n=>kQ X.K n /\ bootBuiltins x=some (.type n)) (λp m=>?_) h;simp only[QB,aP,nL,or_false]at m;rcases m with rfl|rfl|rfl|rfl
 ·exact⟨O.ti,by decide +kernel⟩
 ·exact⟨O.tb,by decide +kernel⟩
 ·exact⟨O.tt,by decide +kernel⟩
 ·exact⟨O.tl,by decide +kernel⟩
noncomputable def yA:Expr->Bool
 |.Call ..=>false
 |_=>true
theorem jr {o:Expr}{a:Str}{env:Env}{whole:Sem Value}(h:yA o=true):attributeBase o a env whole=whole:=by
 cases o<;>first|rfl|cases h
noncomputable def plainT:Expr->Bool
 |.BoolOp ..|.UnaryOp ..|.IfExp ..|.Compare ..=>false
 |_=>true
theorem BI {env:Env}(h:plainT e=true) (whole:Sem Value):PySem.isTrue e env whole=(do let v <-whole;standAt e.pos;holding [v] (truthy v)):=by
 cases e<;>first|rfl|cases h
noncomputable def tO:Expr->Bool
 |.Set ..=>false
 |_=>true
theorem iH {env:Env}(h:tO e=true) (x:Value):foldedSetIterable e env x=pure x:=by
 cases e<;>first|rfl|cases h
noncomputable def wx:Expr->Bool
 |.ListComp ..|.SetComp ..|.DictComp ..=>true
 |_=>false
theorem AT {t:Option Expr}{l:Nat}{env:Env}(h:wx e=false):swapsWith e t l env=pure false:=by
 cases e<;>first|rfl|cases h
noncomputable def QC:Expr->Bool
 |.Slice ..=>false
 |_=>true
section
variable {a b o : Expr} {es : List Expr} {mb mc : DE W} {p : Pos}
theorem AU (h:QC b=true):zK b:=λ_ _=>by
 cases b<;>first|rfl|cases h
theorem QD {env:Env}(h:a6 e=true):((backTo pos (starEach [e] env)).all (λx=>!x.1)&&(backToKw pos (keywordEach [] env)).all (λx=>x.1.isSome)&&decide ([e].length+([]:List Keyword).length+(if ([]:List Keyword).isEmpty then 0 else 1)<30))=true:=by
 rw[fm h];rfl
theorem ado {env:Env}{f:Expr}(h:a6 e=true) (hf:a6 f=true):((backTo pos (starEach [e,f] env)).all (λx=>!x.1)&&(backToKw pos (keywordEach [] env)).all (λx=>x.1.isSome)&&decide ([e,f].length+([]:List Keyword).length+(if ([]:List Keyword).isEmpty then 0 else 1)<30))=true:=by
 rw[fm h,fm hf];rfl
end
section
variable {c : Cf} {p : Pos} {f : Expr -> DE W} {o : Expr}
noncomputable def wy (c:Cf) (f:Expr->DE W) (bo:Bool) (x:Str) (es:List Expr):DE W :=
 match c.fs.lookup x with
 | some (n,fn)=>(match es with
   |[]=>aD
   |e::es=>if c.yz x&&kU (e::es) then fj fn n (tN f (e::es)) else aD)
 | none=>match QA.lookup x with
   | some (_,_,g)=>(match es with
     |[]=>aD
     |e::es=>if c.cZ x&&kU (e::es) then dN bo g (tN f (e::es)) else aD)
   |none=>aD
theorem Ab (O:bK c k X Z) (h:∀ e,PD X T Z e (f e)) (bo:Bool) (es:List Expr):PD X T Z (.Call (.Name x p) es [] pos) (wy c f bo x es):=by
 unfold wy;split
 ·rename_i n fn e;split
  ·exact fC
  ·split
   ·rename_i a as q;rw[aA]at q;obtain⟨g1,g2,_⟩:=O.gb q.1;obtain⟨kk,ps,hh,hn,hk⟩:=O.fs x n fn e;exact TZ hh O.room hk g1 O.adm (mE h _) q.2 hn g2
   ·exact fC
 ·split
  ·rename_i ty id g e;split
   ·exact fC
   ·split
    ·rename_i a as q;rw[aA]at q;obtain⟨g1,g2,g3,g4⟩:=O.blt q.1;have b:=Pl O.calm O.u0 e;cases ty with
     | false =>
       obtain⟨b1,qq,b2,b3⟩:=b;exact TY bo b2 b3 g1 g4 b1 (mE h _) q.2 g3 g2
     | true =>
       obtain⟨b1,qq,b2,b3⟩:=b;exact Si bo b2 b3 g1 g4 b1 (mE h _) q.2 g3 g2
    ·exact fC
  ·exact fC
noncomputable def Zo (c:Cf):Expr->Bool
 |.Name x _=>decide (x=c.EF)
 |_=>false
noncomputable def QE (c:Cf) (f:Expr->DE W) (bo:Bool) (x:Str) (es:List Expr):DE W :=
 if x="isinstance" then (match es with
  | [a,.Name t _]=>(match QB.lookup t with
    |some n=>if c.cZ "isinstance"&&c.cZ t&&a6 a then (if yy c 1 a then Er n (f a) else ic n (f a)) else aD
    |none=>aD)
  |_=>aD)
 else if x="repr" then (match es with
  |[a]=>if c.cZ "repr"&&a6 a then sX (f a) else aD
  |_=>aD)
 else match es with
  | [.Call (.Name y _) [a] [] _]=>if x="list" /\ y="range" then (if c.cZ "list"&&c.cZ "range"&&a6 a then vY bo (fb (f a) fe) else aD)
    else if x="len" /\ y="set" then (if c.cZ "len"&&c.cZ "set"&&a6 a then dN false uN (fb (f a) fe) else aD)
    else if x="sorted" /\ y="set" then (if c.cZ "sorted"&&c.cZ "set"&&a6 a then dN bo uO (fb (f a) fe) else aD) else wy c f bo x es
  |[.Call (.Attribute o n ap) [] [] cp]=>if x="list" /\ n="values" then (if c.cZ "list"&&yA o&&(ap.endLine==cp.line) then wj bo (f o) else aD) else wy c f bo x es
  |[a]=>if x="len" /\ Zo c a=true then (if c.cZ "len"&&a6 a then qD (f a) else aD) else if x="len" /\ yy c 1 a=true then (if c.cZ "len"&&a6 a then Es (f a) else aD) else wy c f bo x es
  |_=>wy c f bo x es
theorem Nm (O:bK c k X Z) (h:∀ e,PD X T Z e (f e)) (bo:Bool) (es:List Expr):PD X T Z (.Call (.Name x p) es [] pos) (QE c f bo x es):=by
 unfold QE;split
 ·rename_i hx;subst hx;split
  ·rename_i a t tp;split
   ·rename_i n e;split
    ·rename_i q;simp only[aA]at q;obtain⟨g1,g2,g3,g4⟩:=O.blt q.1.1;obtain⟨j1,j2,j3,j4⟩:=O.blt q.1.2;obtain⟨y1,y2⟩:=Nl O e;split
     ·exact Md y1 g1 g4 j1 j4 y2 (h a) j3 j2 (by rw[fm q.2]) (fm rfl _ _) (gN (es:=[.Name t tp]) rfl)
     ·exact T0 y1 g1 g4 j1 j4 y2 (h a) q.2 j3 j2
    ·exact fC
   ·exact fC
  ·exact fC
 ·split
  ·rename_i hx;subst hx;split
   ·rename_i a;split
    ·rename_i q;rw[aA]at q;obtain⟨g1,g2,g3,g4⟩:=O.blt q.1;exact N7 O.room g1 g4 (h a) (fm q.2 _ _)
    ·exact fC
   ·exact fC
  ·split
   ·rename_i y q1 a q2;split
    ·rename_i hx;obtain⟨rfl,rfl⟩:=hx;split
     ·rename_i q;simp only[aA]at q;obtain⟨g1,g2,g3,g4⟩:=O.blt q.1.1;obtain⟨j1,j2,j3,j4⟩:=O.blt q.1.2;exact T3 bo O.calm g1 g4 j1 j4 (j6 (h a) iL q.2) q.2
     ·exact fC
    ·split
     ·rename_i hx;obtain⟨rfl,rfl⟩:=hx;split
      ·rename_i q;simp only[aA]at q;obtain⟨g1,g2,g3,g4⟩:=O.blt q.1.1;obtain⟨j1,j2,j3,j4⟩:=O.blt q.1.2;exact Jt O.calm g1 g4 j1 j4 (j6 (h a) iL q.2) q.2
      ·exact fC
     ·split
      ·rename_i hx;obtain⟨rfl,rfl⟩:=hx;split
       ·rename_i q;simp only[aA]at q;obtain⟨g1,g2,g3,g4⟩:=O.blt q.1.1;obtain⟨j1,j2,j3,j4⟩:=O.blt q.1.2;exact DU bo O.calm g1 g4 j1 j4 (j6 (h a) iL q.2) q.2
       ·exact fC
      ·exact Ab O h bo _
   ·rename_i o n ap cp;split
    ·rename_i hx;obtain⟨rfl,rfl⟩:=hx;split
     ·rename_i q;simp only[aA]at q;obtain⟨g1,g2,g3,g4⟩:=O.blt q.1.1;exact OC bo O.calm g1 g4 (h o) (jr q.1.2) q.2
     ·exact fC
    ·exact Ab O h bo _
   ·rename_i a _ _;split
    ·rename_i hx;obtain⟨rfl,_⟩:=hx;split
     ·rename_i q;rw[aA]at q;obtain⟨g1,g2,g3,g4⟩:=O.blt q.1;exact Oa g1 g4 (h a) (fm q.2 _ _)
     ·exact fC
    ·split
     ·rename_i hx;obtain⟨rfl,_⟩:=hx;split
      ·rename_i q;rw[aA]at q;obtain⟨g1,g2,g3,g4⟩:=O.blt q.1;exact Oy g1 g4 (h a) (fm q.2 _ _)
      ·exact fC
     ·exact Ab O h bo _
   ·exact Ab O h bo _
noncomputable def QF (c:Cf) (f:Expr->DE W) (x k g:Str) (a:Expr):DE W :=
 if x="min" /\ k="key" /\ g="len" then (if c.cZ "min"&&c.cZ "len"&&a6 a then dN false yf (fb (f a) fe) else aD) else aD
theorem Pm (O:bK c k X Z) (h:∀ e,PD X T Z e (f e)) {n g:Str}(a:Expr) {q kp:Pos}:PD X T Z (.Call (.Name x p) [a] [⟨some n,.Name g q,kp⟩] pos) (QF c f x n g a):=by
 unfold QF;split
 ·rename_i hx;obtain⟨rfl,rfl,rfl⟩:=hx;split
  ·rename_i q;simp only[aA]at q;obtain⟨g1,g2,g3,g4⟩:=O.blt q.1.1;obtain⟨j1,j2,j3,j4⟩:=O.blt q.1.2;exact Jq O.calm g1 g4 j1 j4 (j6 (h a) iL q.2) (fm q.2 _ _)
  ·exact fC
 ·exact fC
noncomputable def QG (dd:Bool) (f:Expr->DE W) (o:Expr) (m:Str) (es:List Expr):DE W:=match es with
 |[e]=>if a6 e then (if dd then aD else if m="extend" then rS (f o) (f e) else if m="append" then eB (f o) (f e) else if m="index" then rO (f o) (f e) else aD) else aD
 |_=>aD
theorem Pn (hu:X.A.units+1<cLine) (dd:Bool) (h:∀ e,PD X T Z e (f e)) {m:Str}(es:List Expr) (hb:yA o=true) (hl:(apos.endLine==pos.line)=true):PD X T Z (.Call (.Attribute o m apos) es [] pos) (QG dd f o m es):=by
 unfold QG;split
 ·rename_i e;split
  ·rename_i n;split
   ·exact fC
   ·split
    ·rename_i z;subst z;exact Jy (h o) (h e) (jr hb) (QD n) hl (fm n _ _)
    ·split
     ·rename_i z;subst z;exact Je (h o) (h e) (jr hb) (QD n) hl (fm n _ _)
     ·split
      ·rename_i z;subst z;exact LW (h o) (h e) n (jr hb) (QD n) hl
      ·exact fC
  ·exact fC
 ·exact fC
end
noncomputable def QH (on names:List (Str×NameKind)):List (Str×NameKind):=names.map λ(n,k)=>if k==NameKind.free&&on.lookup n==some .cell then (n,NameKind.cell) else (n,k)
noncomputable def EI:Nat->Expr->List Str
 |_,.Name x _=>[x]
 |n+1,.Tuple es _ _=>es.flatMap (EI n)
 |_,_=>[]
noncomputable def Cf.cN (c:Cf) (tg:Expr) (sc:Scope):List Str:=EI 4 tg++c.N.filter λx=>decide (sc.names.lookup x=some .free)
noncomputable def Cf.src (c:Cf) (tg:Expr) (sc:Scope):List (Option Nat):=(EI 4 tg).map (λ_=>none)++(c.N.filter λx=>decide (sc.names.lookup x=some .free)).map c.ix
noncomputable def Cf.inner (c:Cf) (tg:Expr) (sc:Scope):Cf:={ c with N:=c.cN tg sc,nm:=QH c.nm sc.names,f:=false,bx:=[],ow:=(EI 4 tg).filter λx=>decide (sc.names.lookup x=some .cell) }
noncomputable def Cf.uY (c:Cf) (tg:Expr) (sc:Scope):Bool:=KY c.N { kind:=.function,names:=c.nm,isGenerator:=false,isCoroutine:=false } sc (c.cN tg sc) (c.src tg sc)&&decide (c.cN tg sc).Nodup
section
variable {c : Cf} {sc : Scope}
theorem bK.inner (O:bK c k X Z) (h:c.uY tg sc=true):kJ X (c.cN tg sc) (c.src tg sc) sc /\ ∀ cl s H C fp,bK (c.inner tg sc) k (X.comp (c.cN tg sc) sc cl s H C fp) ⟨E0,Z.cl⟩:=by
 unfold Cf.uY at h;rw[aA,decide_eq_true_eq]at h;have S:kJ X (c.cN tg sc) (c.src tg sc) sc:=DJ (XN:=c.N) (sc:={ kind:=.function,names:=c.nm,isGenerator:=false,isCoroutine:=false }) (λx=>by unfold Env.kindOf;rw[O.nm]) O.N h.1;refine⟨S,λcl s H C fp=>⟨rfl,?_,S.kind,O.calm,λz=>(by cases z),λx m=>(cD.mp m).2,h.2,O.room,O.fs,O.gl,O.bl,FO,O.ti,O.tb,O.tt,O.tl,PassesOwn.never⟩⟩;show (relabel sc X.env).names=QH c.nm sc.names;unfold relabel QH Env.kindOf;rw[O.kd,O.nm];simp
end
structure Cm where
 e:Cf->Bool->Bool->Expr->DE W
 t:Cf->Expr->DE Bool
 g:Cf->Expr->DG
 s:Cf->Stmt->ai
structure Good (m:Cm):Prop where
 e:∀ {c:Cf}{k:Nat}{X:Cx}{Z:Xs},bK c k X Z->∀ {T:Fr}(bo fz:Bool) (e:Expr),PD X T Z e (m.e c bo fz e)
 t:∀ {c:Cf}{k:Nat}{X:Cx}{Z:Xs},bK c k X Z->∀ {T:Fr}(e:Expr),dD X T Z e (m.t c e)
 g:∀ {c:Cf}{k:Nat}{X:Cx}{Z:Xs},bK c k X Z->∀ {T:Fr}(e:Expr),ez X T e (m.g c e)
 s:∀ {c:Cf}{k:Nat}{X:Cx}{Z:Xs},bK c k X Z->∀ {T:Fr}(st:Stmt),dE X T Z st (m.s c st)
section
variable (m : Cm) (c : Cf)
noncomputable def cI (tg it:Expr):DE (List W):=match it with
 | .Call (.Name x _) [a] [] _ =>
   if x="range" then (if c.cZ "range"&&a6 a then bP (fb (m.e c false false a) fe) else aD)
   else aj (m.e c false true it)
 | .Call (.Name x _) [a,b] [] _ =>
   if x="range" then (if c.cZ "range"&&a6 a&&a6 b then qx (fb (m.e c false false a) (fb (m.e c false false b) fe)) else aD)
   else if x="zip" then (if c.cZ "zip"&&a6 a&&a6 b then Ee (fb (m.e c false false a) (fb (m.e c false false b) fe)) else aD)
   else aj (m.e c false true it)
 |_=>aj (m.e c false true it)
noncomputable def cF (ifs:List Expr):DE Bool:=match ifs with
 |[]=>fw
 |[t]=>m.t c t
 |_=>aD
noncomputable def yB (bo:Bool) (elt tg it:Expr) (ifs:List Expr) (sc:Scope):DE W :=
 if c.uY tg sc&&tO it then fk bo (c.src tg sc) (cI m c tg it) (m.g (c.inner tg sc) tg) (cF m (c.inner tg sc) ifs) (m.e (c.inner tg sc) false false elt) else aD
noncomputable def QI (bo:Bool) (elt tg it:Expr) (ifs:List Expr) (sc:Scope):DE W :=
 if c.uY tg sc&&tO it then kX bo (c.src tg sc) (m.e c false false it) (m.g (c.inner tg sc) tg) (cF m (c.inner tg sc) ifs) (m.e (c.inner tg sc) false false elt) else aD
noncomputable def bZ (a b:Expr):Expr:=.Tuple [a,b] 0 ⟨0,0,0,0⟩
noncomputable def QJ (bo:Bool) (elt:Expr) (gs:List Comprehension) (sc:Scope):DE W:=match gs with
 |[⟨tg,it,ifs,0⟩]=>if c.cZ "sorted"&&c.uY tg sc&&tO it then pZ bo (c.src tg sc) (cI m c tg it) (m.g (c.inner tg sc) tg) (cF m (c.inner tg sc) ifs) (eU (m.e (c.inner tg sc) false false elt)) else aD
 | [⟨tg,it,ifs,0⟩,⟨nF,uQ,QK,0⟩]=>if c.cZ "sorted"&&c.uY (bZ tg nF) sc&&tO it&&tO uQ then pZ bo (c.src (bZ tg nF) sc) (cI m c tg it) (m.g (c.inner (bZ tg nF) sc) tg) (cF m (c.inner (bZ tg nF) sc) ifs)
     (uS (cI m (c.inner (bZ tg nF) sc) nF uQ) (m.g (c.inner (bZ tg nF) sc) nF) (cF m (c.inner (bZ tg nF) sc) QK) (eU (m.e (c.inner (bZ tg nF) sc) false false elt))) else aD
 |_=>aD
noncomputable def cO (o:Option Expr):DE (Option Int):=match o with
 |none=>kA
 |some e=>hJ (m.e c false false e)
noncomputable def QL (a:Expr) (op:CmpOp) (b:Expr):DE W :=
 match uX op with
  |some g=>if behindInMarks op b=false then d2 false g (m.e c false false a) (m.e c false false b) else aD
  |none=>aD
noncomputable def QM (a:Expr) (op cj:CmpOp) (b d:Expr):DE W:=match uX op,uX cj with
 |some g,some g'=>if lastMarks [op,cj] [b,d]=false then d3 g g' (m.e c false false a) (m.e c false false b) (m.e c false false d) else aD
 |_,_=>aD
noncomputable def QN (bo:Bool) (a b:Expr):DE W:=if yy c 1 a then (match b with|.Constant (.int (.ofNat j)) _ _=>dI (m.e c false false a) j|_=>aD) else match b with
 |.Slice lo hi none _=>eS bo (m.e c false false a) (cO m c lo) (cO m c hi)
 |.Slice none none (some (.UnaryOp .USub (.Constant (.int i) _ _) _)) _=>if i=1 then uA bo (m.e c false false a) else aD
 |b=>if QC b then (if Zo c a then Eb (m.e c false false a) (m.e c false false b) else d2 false ax (m.e c false false a) (m.e c false false b)) else aD
noncomputable def QO (v:Const):DE W:=match v with
 |.int i=>dC (.int i)
 |.bool b=>dC (.bl b)
 |.none=>dC .aq
 |.str x=>dC (.str x)
 |_=>aD
noncomputable def QP (op:UnaryOp) (a:Expr):DE W:=match op with
 |.USub=>qC (m.e c false false a)
 |.Not=>xq (m.e c false false a)
 |_=>aD
noncomputable def QQ (op:BoolOp) (es:List Expr):DE W:=match op with
 |.And=>Qx (m.e c false false) es
 |.Or=>aD
noncomputable def QR (a:Expr) (ops:List CmpOp) (bs:List Expr):DE W:=match ops,bs with
 |[op],[b]=>QL m c a op b
 |[op,cj],[b,d]=>QM m c a op cj b d
 |_,_=>aD
noncomputable def QS (x:Str) (es:List Expr) (ks:List Keyword):DE W:=match es,ks with
 |[a],[⟨some n,.Name g _,_⟩]=>QF c (m.e c false false) x n g a
 |_,_=>aD
noncomputable def QT (bo:Bool) (f:Expr) (es:List Expr) (ks:List Keyword) (pos:Pos):DE W:=match f with
 | .Name x _=>(match ks with
   | []=>(match es with
     |[.SetComp elt gs sc _]=>if x="sorted" then QJ m c bo elt gs sc else aD
     |es=>QE c (m.e c false false) bo x es)
   |k::ks=>QS m c x es (k::ks))
 | .Attribute o n apos=>(match ks with
   | []=>if yy c 3 o then (match es with
     |[e,g]=>if yA o&&(apos.endLine==pos.line)&&a6 e&&a6 g&&decide (n="setdefault") then tE (m.e c false false o) (m.e c false false e) (m.e c false false g) else aD
     |_=>aD)
     else if yA o&&(apos.endLine==pos.line) then QG false (m.e c false false) o n es else aD
   |_::_=>aD)
 |_=>aD
noncomputable def QU (bo:Bool) (elt:Expr) (gs:List Comprehension) (sc:Scope):DE W:=match gs with
 |[⟨tg,it,ifs,0⟩]=>if yy c 2 it then QI m c bo elt tg it ifs sc else yB m c bo elt tg it ifs sc
 |_=>aD
noncomputable def sE (bo fz:Bool) (e:Expr):DE W:=match e with
 |.Constant v _ _=>QO v
 |.Name x _=>EG c fz x
 |.Tuple es _ _=>if bo then Ep (tN (m.e c true false) es) else fV (tN (m.e c false false) es)
 |.List es _=>fZ bo (tN (m.e c false false) es)
 | .BinOp a op b _=>(match Zm op with
   |some g=>d2 bo g (m.e c false false a) (m.e c false false b)
   |none=>aD)
 |.UnaryOp op a _=>QP m c op a
 |.BoolOp op es _=>QQ m c op es
 |.Compare a ops bs _=>QR m c a ops bs
 |.IfExp t a b _=>sR (m.t c t) (m.e c false false a) (m.e c false false b)
 |.Subscript a b _=>QN m c bo a b
 |.Call f es ks pos=>QT m c bo f es ks pos
 |.ListComp elt gs sc _=>QU m c bo elt gs sc
 |_=>aD
noncomputable def sT (e:Expr):DE Bool:=match e with
 |.BoolOp .And es _=>Qy (m.t c) es
 |.BoolOp .Or es _=>Qz (m.t c) es
 |.UnaryOp .Not a _=>bS (m.t c a)
 |.Compare a [op] [b] _=>(match uX op with
  |some g=>if behindInMarks op b=false then dB (d2 false g (m.e c false false a) (m.e c false false b)) else aD
  |none=>aD)
 | .Compare a [op,cj] [b,d] _=>(match uX op,uX cj with
   |some g,some g'=>if lastMarks [op,cj] [b,d]=false then dB (d3 g g' (m.e c false false a) (m.e c false false b) (m.e c false false d)) else aD
   |_,_=>aD)
 |.Name x _=>ur (EG c false x)
 |e=>if plainT e then dB (m.e c false false e) else aD
noncomputable def sG (tg:Expr):DG:=match tg with
 | .Name x _=>(match c.ix x with
   |some i=>if c.wq x then fc i else uW
   |none=>uW)
 |.Tuple es _ _=>if kU es then iq es.length (EH (m.g c) es) else uW
 |.Subscript o i _=>if QC i then rK (m.e c false false o) (m.e c false false i) else uW
 |_=>uW
end
section
variable {m : Cm} {c : Cf} (G : Good m) (O : bK c k X Z)
include G O
theorem AV (tg it:Expr):nW X T Z tg it (cI m c tg it):=by
 unfold cI;split
 ·rename_i x p a pos;split
  ·rename_i z;subst z;split
   ·rename_i q;rw[aA]at q;obtain⟨g1,g2,g3,g4⟩:=O.blt q.1;exact DA g1 g4 (j6 (G.e O _ _ a) iL q.2) (fm q.2 _ _)
   ·exact Ce
  ·exact BP (G.e O _ _ _)
 ·rename_i x p a b pos;split
  ·rename_i z;subst z;split
   ·rename_i q;simp only[aA]at q;obtain⟨⟨q,n1⟩,n2⟩:=q;obtain⟨g1,g2,g3,g4⟩:=O.blt q;exact DB g1 g4 (j6 (G.e O _ _ a) (j6 (G.e O _ _ b) iL n2) n1) (by rw[fm n1,fm n2];rfl) (fm n2 _ _)
   ·exact Ce
  ·split
   ·rename_i z;subst z;split
    ·rename_i q;simp only[aA]at q;obtain⟨⟨q,n1⟩,n2⟩:=q;obtain⟨g1,g2,g3,g4⟩:=O.blt q;exact Ob g1 g4 (j6 (G.e O _ _ a) (j6 (G.e O _ _ b) iL n2) n1) (by rw[fm n1,fm n2];rfl) (fm n2 _ _)
    ·exact Ce
   ·exact BP (G.e O _ _ _)
 ·exact BP (G.e O _ _ _)
theorem AW (ifs:List Expr):PF X ifs (eQ T Z (cF m c ifs)):=by
 unfold cF;split
 ·exact N1
 ·exact N2 (G.t O _)
 ·exact λ_ _ _ _ _ _ h=>by obtain⟨_,_,_,_,_,h⟩:=h;exact h.elim
theorem Nn (bo:Bool) (elt tg it:Expr) (ifs:List Expr) (sc:Scope) (pos:Pos):PD X T Z (.ListComp elt [⟨tg,it,ifs,0⟩] sc pos) (yB m c bo elt tg it ifs sc):=by
 unfold yB;split
 ·rename_i q;rw[aA]at q;obtain⟨S,OO⟩:=O.inner q.1;exact FP bo O.calm S (AV G O tg it) (λ_ _ _ _ _ _=>G.g (OO _ _ _ _ _) tg) (λ_ _ _ _ _ _=>AW G (OO _ _ _ _ _) ifs) (λ_ _ _ _ _ _=>G.e (OO _ _ _ _ _) _ _ elt) (λx=>iH q.2 x)
 ·exact fC
theorem JX (bo:Bool) (elt tg it:Expr) (ifs:List Expr) (sc:Scope) (pos:Pos):PD X T Z (.ListComp elt [⟨tg,it,ifs,0⟩] sc pos) (QI m c bo elt tg it ifs sc):=by
 unfold QI;split
 ·rename_i q;rw[aA]at q;obtain⟨S,OO⟩:=O.inner q.1;exact Me bo O.calm S (G.e O _ _ it) (λ_ _ _ _ _ _=>G.g (OO _ _ _ _ _) tg) (λ_ _ _ _ _ _=>AW G (OO _ _ _ _ _) ifs) (λ_ _ _ _ _ _=>G.e (OO _ _ _ _ _) _ _ elt) (λx=>iH q.2 x)
 ·exact fC
theorem Tb (bo:Bool) (elt:Expr) (gs:List Comprehension) (sc:Scope) (p bf pos:Pos):PD X T Z (.Call (.Name "sorted" p) [.SetComp elt gs sc bf] [] pos) (QJ m c bo elt gs sc):=by
 unfold QJ;split
 ·rename_i tg it ifs;split
  ·rename_i q;simp only[aA]at q;obtain⟨g1,g2,g3,g4⟩:=O.blt q.1.1;obtain⟨S,OO⟩:=O.inner q.1.2;exact Jw bo O.calm g1 g4 S (AV G O tg it) (λ_ _ _ _ _=>G.g (OO _ _ _ _ _) tg) (λ_ _ _ _ _=>AW G (OO _ _ _ _ _) ifs) (λ_ _ _ _ _=>G.e (OO _ _ _ _ _) _ _ elt) (λx=>iH q.2 x)
  ·exact fC
 ·rename_i tg it ifs nF uQ QK;split
  ·rename_i q;simp only[aA]at q;obtain⟨g1,g2,g3,g4⟩:=O.blt q.1.1.1;obtain⟨S,OO⟩:=O.inner q.1.1.2;exact Jx bo O.calm g1 g4 S (AV G O tg it) (λ_ _ _ _ _=>G.g (OO _ _ _ _ _) tg) (λ_ _ _ _ _=>AW G (OO _ _ _ _ _) ifs) (λ_ _ _ _ _=>AV G (OO _ _ _ _ _) nF uQ) (λ_ _ _ _ _=>G.g (OO _ _ _ _ _) nF) (λ_ _ _ _ _=>AW G (OO _ _ _ _ _) QK) (λ_ _ _ _ _=>G.e (OO _ _ _ _ _) _ _ elt) (λx=>iH q.1.2 x) (λ_ x=>iH q.2 x)
  ·exact fC
 ·exact fC
theorem No (a:Expr) (op:CmpOp) (b:Expr) (pos:Pos):PD X T Z (.Compare a [op] [b] pos) (QL m c a op b):=by
 unfold QL;split
 ·rename_i g e;obtain⟨q,h1,h2⟩:=lS O.u0 e;split
  ·rename_i z;exact RH h1 h2 (G.e O _ _ a) (G.e O _ _ b) z
  ·exact fC
 ·exact fC
theorem Np (a:Expr) (op cj:CmpOp) (b d:Expr) (pos:Pos):PD X T Z (.Compare a [op,cj] [b,d] pos) (QM m c a op cj b d):=by
 unfold QM;split
 ·rename_i g g' e e';obtain⟨q,h1,h2⟩:=lS O.u0 e;obtain⟨q',QV,QW⟩:=lS O.u0 e';split
  ·rename_i z;exact Ls h1 QV h2 QW (G.e O _ _ a) (G.e O _ _ b) (G.e O _ _ d) z
  ·exact fC
 ·exact fC
theorem PR (o:Option Expr):xD X T Z o (cO m c o):=by
 unfold cO;split
 ·exact RV
 ·exact LE (G.e O _ _ _)
theorem Po (bo:Bool) (a b:Expr) (pos:Pos):PD X T Z (.Subscript a b pos) (QN m c bo a b):=by
 unfold QN;split
 ·split
  ·exact Su (G.e O _ _ a)
  ·exact fC
 split
 ·exact LF bo (G.e O _ _ a) (PR G O _) (PR G O _)
 ·split
  ·rename_i z;subst z;exact RX bo (G.e O _ _ a)
  ·exact fC
 ·split
  ·rename_i n;split
   ·exact Sb (G.e O _ _ a) (G.e O _ _ _) (AU n)
   ·exact TD Li abF (G.e O _ _ a) (G.e O _ _ _) (AU n)
  ·exact fC
omit G O in
theorem Pp (v:Const) (k:Nat) (pos:Pos):PD X T Z (.Constant v k pos) (QO v):=by
 unfold QO;split
 ·exact RD
 ·exact TC
 ·exact RE
 ·exact RF
 ·exact fC
theorem Tc (op:UnaryOp) (a:Expr) (pos:Pos):PD X T Z (.UnaryOp op a pos) (QP m c op a):=by
 unfold QP;split
 ·exact RY (G.e O _ _ _)
 ·exact RM (G.e O _ _ _)
 ·exact fC
theorem Td (op:BoolOp) (es:List Expr) (pos:Pos):PD X T Z (.BoolOp op es pos) (QQ m c op es):=by
 unfold QQ;split
 ·exact GP (G.e O _ _) _
 ·exact fC
theorem Te (a:Expr) (ops:List CmpOp) (bs:List Expr) (pos:Pos):PD X T Z (.Compare a ops bs pos) (QR m c a ops bs):=by
 unfold QR;split
 ·exact No G O _ _ _ _
 ·exact Np G O _ _ _ _ _ _
 ·exact fC
theorem Tf (x:Str) (p:Pos) (es:List Expr) (ks:List Keyword) (pos:Pos):PD X T Z (.Call (.Name x p) es ks pos) (QS m c x es ks):=by
 unfold QS;split
 ·exact Pm O (G.e O _ _) _
 ·exact fC
theorem Tg (bo:Bool) (f:Expr) (es:List Expr) (ks:List Keyword) (pos:Pos):PD X T Z (.Call f es ks pos) (QT m c bo f es ks pos):=by
 unfold QT;split
 ·split
  ·split
   ·split
    ·rename_i z;subst z;exact Tb G O bo _ _ _ _ _ _
    ·exact fC
   ·exact Nm O (G.e O _ _) bo _
  ·exact Tf G O _ _ _ _ _
 ·split
  ·split
   ·split
    ·split
     ·rename_i q;simp only[aA,decide_eq_true_eq]at q;obtain⟨⟨⟨⟨q1,q2⟩,n1⟩,n2⟩,rfl⟩:=q;exact Mh O.u1 (G.e O _ _ _) (G.e O _ _ _) (G.e O _ _ _) ⟨jr q1,ado n1 n2,q2,by rw[fm n1,fm n2];rfl⟩
     ·exact fC
    ·exact fC
   split
   ·rename_i q;rw[aA]at q;exact Pn O.u1 _ (G.e O _ _) _ q.1 q.2
   ·exact fC
  ·exact fC
 ·exact fC
theorem Th (bo:Bool) (elt:Expr) (gs:List Comprehension) (sc:Scope) (pos:Pos):PD X T Z (.ListComp elt gs sc pos) (QU m c bo elt gs sc):=by
 unfold QU;split
 ·split
  ·exact JX G O bo _ _ _ _ _ _
  ·exact Nn G O bo _ _ _ _ _ _
 ·exact fC
theorem UI (bo fz:Bool) (e:Expr):PD X T Z e (sE m c bo fz e):=by
 unfold sE;split
 ·exact Pp _ _ _
 ·exact Do O fz
 ·split
  ·exact Ox (mE (G.e O _ _) _)
  ·exact RP (mE (G.e O _ _) _)
 ·exact RQ bo (mE (G.e O _ _) _)
 ·split
  ·rename_i g e;obtain⟨q,h1,h2⟩:=Pk (X:=X) e;exact RG bo h1 h2 (G.e O _ _ _) (G.e O _ _ _)
  ·exact fC
 ·exact Tc G O _ _ _
 ·exact Td G O _ _ _
 ·exact Te G O _ _ _ _
 ·exact RN (G.t O _) (G.e O _ _ _) (G.e O _ _ _)
 ·exact Po G O bo _ _ _
 ·exact Tg G O bo _ _ _ _
 ·exact Th G O bo _ _ _ _
 ·exact fC
theorem UJ (e:Expr):dD X T Z e (sT m c e):=by
 unfold sT;split
 ·exact Py (Dp (G.t O) _)
 ·exact Py (GQ (G.t O) _)
 ·exact NR (G.t O _)
 ·split
  ·rename_i g e;obtain⟨q,h1,h2⟩:=lS O.u0 e;split
   ·rename_i z;exact NM h1 h2 (G.e O _ _ _) (G.e O _ _ _) z
   ·exact lQ
  ·exact lQ
 ·split
  ·rename_i g g' e e';obtain⟨q,h1,h2⟩:=lS O.u0 e;obtain⟨q',QV,QW⟩:=lS O.u0 e';split
   ·rename_i z;exact G7 h1 QV h2 QW (G.e O _ _ _) (G.e O _ _ _) (G.e O _ _ _) z
   ·exact lQ
  ·exact lQ
 ·exact NO (Do O false) (λw=>BI rfl w)
 ·split
  ·rename_i h;exact NL (G.e O _ _ _) (λw=>BI h w)
  ·exact lQ
theorem UK (tg:Expr):ez X T tg (sG m c tg):=by
 unfold sG;split
 ·split
  ·rename_i i e;split
   ·rename_i h;obtain⟨a,b⟩:=O.lo h;exact Lz i O.wu (O.at e) a b
   ·exact lR
  ·exact lR
 ·split
  ·rename_i h;exact T1 O.calm (Nk (G.g O) _) h rfl
  ·exact lR
 ·split
  ·rename_i o i pos h;exact N9 (Z:=Z) (G.e O _ _ o) (G.e O _ _ i) (λv=>by cases i<;>first|rfl|cases h)
  ·exact lR
 ·exact lR
end
end L2.DL
namespace L2
open PySem PySem.Spec PyProof.Rows
end L2
namespace L2.DL
open PySem PySem.Spec PyProof.Rows PySem.W
section
variable {env : Env} {y : Str} {px py pt eZ : Pos} {kt k2 : Nat} {a b : Expr}
theorem Pq (hk:env.blockKind=.function) (hx:env.kindOf x=some .local) (hy:env.kindOf y=some .local) (hl:(px.line==py.line)=true) (kS:x≠y) (na:a6 a=true) (nb:a6 b=true)
 (nf:([a,b].all (foldedForSure 8))=false) (nc:([a,b].all (constantsAlone 8))=false) :
 swappedStores [.Tuple [.Name x px,.Name y py] kt pt] (.Tuple [a,b] k2 eZ) env=pure (some [x,y]):=by
 have kK:px.line=py.line:=by simpa using hl
 have hd:([x,y]:List Str).eraseDups.length=2:=by
  have:(y==x)=false:=by simpa using Ne.symm kS
  simp[List.eraseDups_cons,this]
 unfold swappedStores;simp only[hk,hx,hy,kK,wK,Wy,pz,HY,bA,kF,Wz,qf,zi,Expr.pos,nf,nc];simp[kK,hd,pz,hx,hy,nf,nc];rintro(h|h)
 ·cases a<;>first|(cases h;done)|cases na
 ·cases b<;>first|(cases h;done)|cases nb
theorem Pr (hk:env.blockKind=.function) (na:a6 a=true) (nb:a6 b=true) (h:(env.kindOf x==some .local&&env.kindOf y==some .local)=false) :
 swappedStores [.Tuple [.Name x px,.Name y py] kt pt] (.Tuple [a,b] k2 eZ) env=pure none:=by
 unfold swappedStores;simp only[hk,wK,Wy,bA,kF,Wz,qf,zi,Expr.pos];rw[Bool.and_eq_false_iff]at h;rcases h with h|h
 ·simp only[pz,HY,h,HF];by_cases q:(env.kindOf y==some .local&&py.line==px.line)=true
  ·simp[q]
  ·simp[q]
 ·simp only[pz,HY,h,HF];by_cases z:env.kindOf x=some .local<;>simp[z]
end
noncomputable def uZ (f:Stmt->ai):List Stmt->ai
 |[]=>bj
 |[s]=>f s
 |s::r=>fE (f s) (uZ f r)
theorem oI {X:Cx}{Z:Xs}{T:Fr}{f:Stmt->ai}(h:∀ s,dE X T Z s (f s)):∀ b,pO X T Z b (uZ f b)
 |[]=>NT
 |[s]=>NU (h s)
 |s::a::r=>Lw (h s) (oI h (a::r))
noncomputable def Zp:Expr->Expr->Bool
 |.Tuple ..,.Tuple ..|.List ..,.Tuple ..=>false
 |_,_=>true
theorem PU {env:Env}(h:Zp tg e=true):swappedStores [tg] e env=pure none:=by
 cases tg with
 |Tuple es n p=>cases e<;>first|rfl|cases h
 |List es p=>cases e<;>first|rfl|cases h
 |_=>rfl
noncomputable def QX (c:Cf) (x:Str) (tp cp:Pos) (sc:Scope):Bool:=c.nm.lookup x==some .local&&tp.line==cp.line&&!(sc.names.any λ(n,k)=>n==x&&(k==.local||k==.cell))
section
variable {c : Cf} 
theorem bK.block (O:bK c k X Z):X.env.blockKind=.function:=by unfold Env.blockKind;rw[O.kd];rfl
theorem Ps (O:bK c k X Z) {gs:List Comprehension}{sc:Scope}{cp tp:Pos}{l:Nat}:swapsWith (.ListComp elt gs sc cp) (some (.Name x tp)) l X.env=pure (QX c x tp cp sc):=by
 have h:swapsWith (.ListComp elt gs sc cp) (some (.Name x tp)) l X.env=pure (X.env.blockKind==.function&&X.env.kindOf x==some .local&&tp.line==cp.line&&!(sc.names.any λ(n,k)=>n==x&&(k==.local||k==.cell))):=rfl;rw[h,O.block];unfold Env.kindOf QX;rw[O.nm];rfl
end
theorem j5 {t:Expr}{l:Nat}{env:Env}(h:wx e=false):swapsWithSole [t] e l env=pure false:=AT (t:=some t) h
section
variable (m : Cm) (c : Cf)
noncomputable def QY:Expr->Bool
 |.Dict [] [] _=>true
 |_=>false
noncomputable def QZ (x:Str) (e:Expr):ai:=match c.ix x with
 | some i=>if c.wq x then (match e with
   |.ListComp elt [⟨tg,it,ifs,0⟩] sc _=>if c.uY tg sc&&tO it then fF (yB m c (c.bx.contains x) elt tg it ifs sc) (fc i) else kD
   |e=>if wx e then kD else fF (if c.kd x 3&&QY e then Eu else m.e c (c.bx.contains x) false e) (fc i)) else kD
 |none=>kD
noncomputable def Zq (c:Cf) (x y:Str) (px py:Pos) (a b:Expr):Bool:=a6 a&&a6 b&&decide (x≠y)&&c.wq x&&c.wq y&&(if c.nm.lookup x==some .local&&c.nm.lookup y==some .local then px.line==py.line&&!([a,b].all (foldedForSure 8))&&!([a,b].all (constantsAlone 8)) else true)
noncomputable def Q0 (x y:Str) (px py:Pos) (a b:Expr):ai:=match c.ix x,c.ix y with
 |some i,some j=>if Zq c x y px py a b then sU i j (fb (m.e c (c.bx.contains x) false a) (fb (m.e c (c.bx.contains y) false b) fe)) else kD
 |_,_=>kD
noncomputable def Q2 (tg e:Expr):ai:=match tg,e with
 |.Name x _,e=>QZ m c x e
 |.Tuple [.Name x px,.Name y py] _ _,.Tuple [a,b] _ _=>Q0 m c x y px py a b
 |.Subscript o i p,e=>if wx e then kD else fF (m.e c false false e) (m.g c (.Subscript o i p))
 |tg,e=>if !wx e&&a6 tg&&Zp tg e then fF (m.e c false false e) (m.g c tg) else kD
noncomputable def sS (st:Stmt):ai:=match st with
 |.Assign [tg] e _=>Q2 m c tg e
 |.Return (some e) _=>fQ (m.e c c.rb true e)
 |.Expr e _=>if wx e then kD else gn (m.e c false false e)
 |.If t a b _=>bp (m.t c t) (uZ (m.s c) a) (uZ (m.s c) b)
 |.For tg it body [] _=>if tO it then ia (cI m c tg it) (m.g c tg) (uZ (m.s c) body) else kD
 |.While t body [] _=>cE (m.t c t) (uZ (m.s c) body) 2000
 |.Pass _=>bj
 |_=>kD
end
section
variable {m : Cm} {c : Cf} (G : Good m) (O : bK c k X Z)
include G O
theorem Pt (x:Str) (e:Expr) (tp pos:Pos):dE X T Z (.Assign [.Name x tp] e pos) (QZ m c x e):=by
 unfold QZ;split
 ·rename_i i hi;split
  ·rename_i hl;obtain⟨l1,l2⟩:=O.lo hl;split
   ·rename_i elt tg it ifs sc cp;split
    ·rename_i q;unfold yB;rw[if_pos q];rw[aA]at q;obtain⟨S,OO⟩:=O.inner q.1;have sw:=Ps O (elt:=elt) (gs:=[⟨tg,it,ifs,0⟩]) (sc:=sc) (cp:=cp) (tp:=tp) (x:=x) (l:=pos.line);cases hb:QX c x tp cp sc with
     | true =>
       rw[hb]at sw;exact LU i _ O.calm S (AV G O tg it) (λ_ _ _ _ _ _=>G.g (OO _ _ _ _ _) tg) (λ_ _ _ _ _ _=>AW G (OO _ _ _ _ _) ifs) (λ_ _ _ _ _ _=>G.e (OO _ _ _ _ _) _ _ elt) O.wu (O.at hi) l1 sw l2 (λx=>iH q.2 x)
     | false =>
       rw[hb]at sw;exact FN i (FP _ O.calm S (AV G O tg it) (λ_ _ _ _ _ _=>G.g (OO _ _ _ _ _) tg) (λ_ _ _ _ _ _=>AW G (OO _ _ _ _ _) ifs) (λ_ _ _ _ _ _=>G.e (OO _ _ _ _ _) _ _ elt) (λx=>iH q.2 x)) O.wu (O.at hi) l1 sw l2
    ·exact gU
   ·split
    ·exact gU
    ·rename_i h;refine FN i ?_ O.wu (O.at hi) l1 (AT (by simpa using h)) l2;split
     ·rename_i q;rw[aA]at q;revert q;cases e with
      |Dict ks vs p=>cases ks<;>cases vs<;>first|(intro _;exact OA)|(intro q;exact absurd q.2 (by simp[QY]))
      |_=>intro q;exact absurd q.2 (by simp[QY])
     ·exact G.e O _ _ _
  ·exact gU
 ·exact gU
theorem Pu (x y:Str) (a b:Expr) (px py pt eZ pos:Pos) (kt k2:Nat):dE X T Z (.Assign [.Tuple [.Name x px,.Name y py] kt pt] (.Tuple [a,b] k2 eZ) pos) (Q0 m c x y px py a b):=by
 unfold Q0;split
 ·rename_i i j hi hj;split
  ·rename_i q;unfold Zq at q;rw[aA,aA,aA,aA,aA,decide_eq_true_eq]at q;obtain⟨⟨⟨⟨⟨na,nb⟩,kS⟩,hx⟩,hy⟩,q⟩:=q;have ps:cc X T Z [a,b] (fb (m.e c (c.bx.contains x) false a) (fb (m.e c (c.bx.contains y) false b) fe)):=j6 (G.e O _ _ a) (j6 (G.e O _ _ b) iL nb) na;have kx:X.env.kindOf x=c.nm.lookup x:=by unfold Env.kindOf;rw[O.nm]
   have ky:X.env.kindOf y=c.nm.lookup y:=by unfold Env.kindOf;rw[O.nm]
   by_cases h:(c.nm.lookup x==some NameKind.local&&c.nm.lookup y==some NameKind.local)=true
   ·rw[if_pos h]at q;simp only[aA,qb]at q;rw[aA]at h;have h1:c.nm.lookup x=some .local:=by simpa using h.1
    have h2:c.nm.lookup y=some .local:=by simpa using h.2
    refine Oh i j O.calm O.wu ps (O.at hi) (O.at hj) (λz=>?_) (by rw[O.nm];exact h1) (by rw[O.nm];exact h2) (Pq O.block (kx.trans h1) (ky.trans h2) q.1.1 kS na nb q.1.2 q.2) (j5 rfl);subst z;have:=(c.Qv hi).symm.trans (c.Qv hj);exact kS (Option.some.inj this)
   ·obtain⟨l1,l2⟩:=O.lo hx;obtain⟨l3,l4⟩:=O.lo hy;refine LX i j O.calm O.wu ps (O.at hi) (O.at hj) l1 l3 l2 l4 (j5 rfl) (Pr O.block na nb ?_) rfl rfl rfl rfl rfl;rw[kx,ky];simpa using h
  ·exact gU
 ·exact gU
theorem Pv (tg e:Expr) (pos:Pos):dE X T Z (.Assign [tg] e pos) (Q2 m c tg e):=by
 unfold Q2;split
 ·exact Pt G O _ _ _ _
 ·exact Pu G O _ _ _ _ _ _ _ _ _ _ _
 ·split
  ·exact gU
  ·rename_i h;exact FM (G.e O _ _ _) (G.g O _) (j5 (by simpa using h)) (PU rfl) rfl
 ·split
  ·rename_i q;simp only[aA,qb]at q;exact FM (G.e O _ _ _) (G.g O _) (j5 q.1.1) (PU q.2) (by rw[lh q.1.2];rfl)
  ·exact gU
theorem UL (st:Stmt):dE X T Z st (sS m c st):=by
 unfold sS;split
 ·exact Pv G O _ _ _
 ·exact NV (G.e O _ _ _)
 ·split
  ·exact gU
  ·rename_i h;exact Ly (G.e O _ _ _) (AT (by simpa using h))
 ·exact RS (G.t O _) (oI (G.s O) _) (oI (G.s O) _)
 ·split
  ·rename_i h;exact NX O.own O.calm (AV G O _ _) (G.g O _) (oI (G.s O) _) (λx=>iH h x)
  ·exact gU
 ·exact Ja 2000 O.own (G.t O _) (oI (G.s O) _)
 ·exact Lx
 ·exact gU
end
noncomputable def adp (m:Cm):Cm:=⟨λc bo fz e=>sE m c bo fz e,λc e=>sT m c e,λc e=>sG m c e,λc st=>sS m c st⟩
noncomputable def cm:Nat->Cm
 |0=>⟨λ_ _ _ _=>aD,λ_ _=>aD,λ_ _=>uW,λ_ _=>kD⟩
 |n+1=>adp (cm n)
theorem m7:∀ n,Good (cm n)
 |0=>⟨λ_ _ _ _ _=>fC,λ_ _ _=>lQ,λ_ _ _=>lR,λ_ _ _=>gU⟩
 |n+1=>⟨λO _ bo fz e=>UI (m7 n) O bo fz e,λO _ e=>UJ (m7 n) O e,λO _ e=>UK (m7 n) O e,λO _ st=>UL (m7 n) O st⟩
structure FI where
 x:Str
 ps:List Str
 N:List Str
 bx:List Str
 dc:List Str
 wk:List (Str×Nat)
 fl:Nat   -- 1: af list is a box as it is returned,2: may raise,4: has a try,8: calls itself
 st:Stmt
 fn:List W->List Bx->O W
structure Tx where
 EF:Str
 gl:List (Str×Int)
 bl:List Str
noncomputable def FI.b (f:FI) (i:Nat):Bool:=f.fl / i % 2==1
noncomputable def bh (r:List FI):List (Str×(Nat×(List W->List Bx->O W))):=r.map λg=>(g.x,(g.ps.length,g.fn))
noncomputable def FI.cf (t:Tx) (fs:List (Str×(Nat×(List W->List Bx->O W)))) (f:FI):Cf :=
 { N:=f.N,nm:=(fL f.st).names,f:=true,bx:=f.bx,dc:=f.dc,wk:=f.wk,EF:=t.EF,fs:=fs,gl:=t.gl,bl:=t.bl,rb:=f.b 1,ow:=[] }
noncomputable def FI.body (t:Tx) (fs:List (Str×(Nat×(List W->List Bx->O W)))) (f:FI):List W->List Bx->O W :=
 let m:=uZ ((cm 40).s (f.cf t fs)) (gT f.st)
 aQ f.N.length (aH m)
noncomputable def FI.ok (f:FI):Bool:=decide ((fL f.st).kind=.function)&&!(fL f.st).isCoroutine&&!(fL f.st).isGenerator&&decide f.N.Nodup&&decide (f.N.take f.ps.length=f.ps) &&
 f.ps.all (λx=>decide ((fL f.st).names.lookup x=some .local)||decide ((fL f.st).names.lookup x=some .cell))&&(fL f.st).names.all λy=>decide (y.2≠.free)
theorem FI.scope {f:FI}(h:f.ok=true):vM f.N f.ps (fL f.st):=by
 simp only[FI.ok,aA,decide_eq_true_eq,bR,yU,qb]at h;obtain⟨⟨⟨⟨⟨⟨h1,h2⟩,h3⟩,h4⟩,h5⟩,h6⟩,h7⟩:=h;exact⟨h1,h2,h3,h4,h5,h6,λy m=>h7 y m⟩
def FI.Is (t:Tx) (r:List FI) (f:FI):Prop:=f.fn=f.body t (bh r)
noncomputable def Q3 (t:Tx):List FI->Prop
 |[]=>True
 |f::r=>f.Is t r /\ Q3 t r
noncomputable def yC:List FI->Nat
 |[]=>0
 |_::r=>yC r+1
structure Q4 (K:PySem.W.Frag) (mg:Str->Option Value) (t:Tx):Prop where
 gl:∀ x v,t.gl.lookup x=some v->∃ u,mg x=some (.int v u)
 bl:∀ x,x∈t.bl->mg x=none
 ti:kQ K "int"
 tb:kQ K "bool"
 tt:kQ K "tuple"
 tl:kQ K "list"
theorem Nq {t:Tx}(B:Q4 K mg t) {f:FI}(d:Def K mg f.x f.st f.ps) (ho:f.ok=true) 
 {fs:List (Str×(Nat×(List W->List Bx->O W)))}(F:∀ x n fn,fs.lookup x=some (n,fn)->∃ kk ps,pU P w K mg base cl kk x ps fn /\ ps.length=n /\ kk<=k):pU P w K mg base cl (k+1) f.x f.ps (f.body t fs):=by
 have S:=FI.scope ho;unfold FI.body;refine Sf (k:=k) d S (λfa aZ A outer s H E n F0 hr=>oI ((m7 40).s (k:=k) ?_) _);exact⟨rfl,rfl,S.kind,rfl,λ_ _=>rfl,(λx m=>nomatch m),S.nd,hr,F,B.gl,B.bl,FO,B.ti,B.tb,B.tt,B.tl,PassesOwn.never⟩
noncomputable def EJ:List FI->Bool
 |[]=>true
 |f::r=>f.ok&&EJ r
theorem GR {t:Tx}(B:Q4 K mg t):∀ (l:List FI),Q3 t l->EJ l=true->(∀ f∈l,Def K mg f.x f.st f.ps)->∀ f∈l,∃ kk,pU P w K mg base cl kk f.x f.ps f.fn /\ kk<=yC l
 |[],_,_,_=>λf m=>nomatch m
 | f::r,A,C,D=>by
   obtain⟨A1,A2⟩:=A;have C':(f.ok&&EJ r)=true:=C;rw[aA]at C';have ih:=GR B r A2 C'.2 λg m=>D g (bF _ m);have F:∀ x n fn,(bh r).lookup x=some (n,fn)->∃ kk ps,pU P w K mg base cl kk x ps fn /\ ps.length=n /\ kk<=yC r:=λx n fn e=>by
    refine jg (P:=λx (p:Nat×(List W->List Bx->O W))=>∃ kk ps,pU P w K mg base cl kk x ps p.2 /\ ps.length=p.1 /\ kk<=yC r) (l:=bh r) (λp m=>?_) e;obtain⟨g,adq,rfl⟩:=aT.mp m;obtain⟨kk,h1,h2⟩:=ih g adq;exact⟨kk,g.ps,h1,rfl,h2⟩
   intro g m;rcases aP.mp m with rfl|m
   ·rw[A1];exact⟨yC r+1,Nq B (D g (bQ ..)) C'.1 F,ak _⟩
   ·obtain⟨kk,h1,h2⟩:=ih g m;exact⟨kk,h1,Nat.le_succ_of_le h2⟩
end L2.DL
namespace L2.DL
open PySem PySem.Spec PyProof.Rows
noncomputable def Zr (o:Obj):Bool:=match o.cls with|.type n=>n == "list"|_=>false
noncomputable def EK (K:PySem.W.Frag):Bool:=K.all λp=>!Zr p.2
theorem JY (h:EK K=true) (e:K.lookup a=some o):o.cls≠.type "list":=by
 intro c;unfold EK at h;rw[bR]at h;have m:(a,o)∈K:=by
  clear h;induction K with
  |nil=>cases e
  | cons p K ih =>
    rw[kG]at e;cases q:a==p.1 with
    | true =>
      rw[q]at e;cases e;have:a=p.1:=by simpa using q
      subst this;exact bQ ..
    | false =>
      rw[q]at e;exact bF _ (ih e)
 have:=h _ m;simp[Zr,c]at this
theorem Ya (nl:EK K=true) (hO:Kw H) (hS:bu K H a (ns.map V.int)) (hf:∃ bx',fn [.s ns] []=.val (.d (.bl true)) bx') :
 rD cl 1 fn [.ref a] H (λv _=>v=.bl true) λ_ _ _=>False:=by
 rcases hS with hS|⟨o,af,n,e1,e2,_⟩
 ·rcases hS with hS|⟨o,hS⟩
  ·rcases hO a with z|⟨o,xs,z⟩
   ·rw[hS]at z;cases z
   ·rw[hS]at z;cases z
  ·obtain⟨bx',hf⟩:=hf;refine⟨H,[],[.s ns],[],⟨Sub.refl H,λi w e=>by simp at e,rfl,.nil,λn c a e=>by simp at e,λa u e _=>e,λn a _ e=>by simp at e,ak _,ak _,λa u e=>.inl e⟩,⟨.ref a,[],rfl,⟨a,o,rfl,hS⟩,rfl⟩,rfl,?_⟩;rw[hf];intro F' r' v H' _ _ d;exact d
 ·exact absurd e2 (JY nl e1)
noncomputable def tys:List String:=["NoneType", "bool", "int", "str", "tuple", "list", "dict"]
noncomputable def EL (K:PySem.W.Frag):Bool:=tys.all λS=>["int", "bool", "tuple", "list"].all λT=>PySem.W.kitOne K (.type S) (.type T)==some (rJ S T)
theorem Cg (h:EL K=true) {T:String}(m:T∈["int", "bool", "tuple", "list"]):kQ K T:=by
 intro d;unfold EL at h;rw[bR]at h;have m1:qz d∈tys:=by cases d<;>simp[qz,tys]
 have z:=h _ m1;rw[bR]at z;exact beq_iff_eq.mp (z _ m)
theorem Ti {ps:List Str}{f:Addr}{oc:Value}{od an:Option Addr}{kV doc pm aZ ct:Value}(X:K.In h) (G:h.Ns mainGlobals mg)
 (a:PySem.W.nsIn K mainGlobals x=some (some (.ref f))) (l:K.lookup f=some ⟨oc,od,.func (PySem.W.fnOf x x (jh st) (gT st) (fL st) .none kV doc pm an aZ ct),nG⟩)
 (c:PySem.W.codeIn K aZ x=true) (k:PySem.W.keepIn K (.ref f)=true) (hb:∀ fd,nS K x x st f fd->Binds K fd ps []):Def K mg x st ps :=
 ⟨f,_,Lo l c k,WW X G a,hb _ (Lo l c k)⟩
theorem Tj {l:PySem.W.OpenLaw}{fa:Addr}(cl:Nat->Addr) (wz:mg "law"=some (.ref fa)) (D:Def K mg "law" st ["_law_script"])
 (hB:∀ (fd:FuncData) (f:Addr),nS K "law" "law" st f fd->∀ (s:Shared) (u:Value),BindsTo s fd ⟨[u],[]⟩ [("_law_script",u)])
 (H:∀ base:Heap,K.In base->base.Ns mainGlobals mg->pU l.prog w K mg base cl k "law" ["_law_script"] fn) :
 ∃ (cl:Nat->Addr) (fd:FuncData),(∀ (s:Shared) (u:Value),BindsTo s fd ⟨[u],[]⟩ [("_law_script",u)]) /\ ∀ base:Heap,K.In base->base.Ns mainGlobals mg->eO l.prog w K mg base (nU l.prog w) k fa fd ["_law_script"] (rD cl 1 fn):=by
 obtain⟨f,fd,F,hm,_⟩:=D;rw[wz]at hm;cases hm;refine⟨cl,fd,hB fd fa F,λbase hK hN=>?_⟩;obtain⟨f',afn,ok,zU,_,_,o,hl,hd⟩:=H base hK hN;rw[wz]at zU;cases zU;obtain⟨o2,qp,hd2⟩:=F.obj;rw[hl]at qp;cases qp;rw[hd]at hd2;cases hd2;exact ok
theorem walk_d {l:PySem.W.OpenLaw}{q:Program}{loose:List Str}{XP:(Str->Option Value)->Heap->Prop}{YP:World->Heap->Prop}{d:DefRec}{K:Params->PySem.W.Frag}{k:Nat}{fn:List W->List Bx->O W}(hk:cw k callerA) (hn:l.most=some 63) (Ku:d.params.defaults=[])
 (hY:∀ (w:World) (h:Heap),YP w h->(K w.params).In h) (nl:∀ w:World,EK (K w.params)=true) (hf:∀ ns:List Int,ns.length<=63->∃ bx',fn [.s ns] []=.val (.d (.bl true)) bx')
 (F:∀ (w:World) (mg:Str->Option Value) (fa:Addr) (h:Heap),(K w.params).In h->h.Ns mainGlobals mg->mg d.name=some (.ref fa) ->
  ∃ (cl:Nat->Addr) (fd:FuncData),(∀ (s:Shared) (u:Value),BindsTo s fd ⟨[u],[]⟩ [("_law_script",u)]) /\ ∀ base:Heap,(K w.params).In base->base.Ns mainGlobals mg->eO l.prog w (K w.params) mg base (nU l.prog w) k fa fd ["_law_script"] (rD cl 1 fn)) :
 PySem.W.WalkO q loose XP YP l.row.toRowW d [] (λf vs=>PySem.call f vs):=by
 refine X7.aa6 hn Ku λw s0 s1 mg mb fa o pm cd doc a vs ns G Y ho hd nj hmg Kv hints hlen hg=>?_;have KX:=hY w _ Y;obtain⟨cl,fd,hb,hF⟩:=F w mg fa _ KX G.T.g hmg;exact Ln KX G.T.g G.T.b G.T.builtins G.T.nolimit hg Kv hints (bc hlen (by decide)) hk hF hb (λH hO hS=>Ya (nl w) hO hS (hf ns hlen)) λH e s' z=>by
  obtain⟨_,_,_,_,_,_,_,_,_,_,_,_,_,z⟩:=z;exact z
end L2.DL
namespace L2.DL
open PySem PySem.Spec PyProof.Rows PySem.W
noncomputable def EM (K:Frag) (bl:List Str):Bool:=bl.all λx=>match nsIn K mainGlobals x with|some none=>true|_=>false
noncomputable def EN (K:Frag) (gl:List (Str×Int)):Bool:=gl.all λp=>match nsIn K mainGlobals p.1 with|some (some (.int v _))=>v==p.2|_=>false
noncomputable def Q5 (K:Frag) (mg:Str->Option Value):List FI->Prop
 |[]=>True
 |f::r=>Def K mg f.x f.st f.ps /\ Q5 K mg r
theorem BJ {K:Frag}{mg:Str->Option Value}:∀ {l:List FI},Q5 K mg l->∀ f∈l,Def K mg f.x f.st f.ps
 |[],_=>λ_ m=>nomatch m
 | g::r,h=>λf m=>by
   rcases aP.mp m with rfl|m
   ·exact h.1
   ·exact BJ h.2 f m
theorem Fx {bl:List Str}(X:K.In h) (G:h.Ns mainGlobals mg) (c:EM K bl=true):∀ x,x∈bl->mg x=none:=λx m=>by
 unfold EM at c;rw[bR]at c;have z:=c x m;split at z
 ·next e=>exact mg_none_of X G e
 ·cases z
theorem Nr {gl:List (Str×Int)}(X:K.In h) (G:h.Ns mainGlobals mg) (c:EN K gl=true):∀ x v,gl.lookup x=some v->∃ u,mg x=some (.int v u):=λx v e=>by
 unfold EN at c;rw[bR]at c;refine jg (P:=λx (v:Int)=>∃ u,mg x=some (.int v u)) (l:=gl) (λp m=>?_) e;have z:=c p m;split at z
 ·next v u e =>
  have:v=p.2:=by simpa using z
  subst this;exact⟨u,mg_of X G e⟩
 ·cases z
theorem UM {t:Tx}(X:K.In h) (G:h.Ns mainGlobals mg) (z:EM K t.bl=true) (g:EN K t.gl=true) (y:EL K=true):Q4 K mg t :=
 ⟨Nr X G g,Fx X G z,Cg y (by simp),Cg y (by simp),Cg y (by simp),Cg y (by simp)⟩
theorem Pw {l:PySem.W.OpenLaw}{fa:Addr}(cl:Nat->Addr) (wz:mg "law"=some (.ref fa)) (D:Def K mg "law" st ["_law_script"])
 (hB:∀ (fd:FuncData) (f:Addr),nS K "law" "law" st f fd->∀ (s:Shared) (u:Value),BindsTo s fd ⟨[u],[]⟩ [("_law_script",u)])
 (H:∀ base:Heap,K.In base->base.Ns mainGlobals mg->∃ kk,pU l.prog w K mg base cl kk "law" ["_law_script"] fn /\ kk<=k) :
 ∃ (cl:Nat->Addr) (fd:FuncData),(∀ (s:Shared) (u:Value),BindsTo s fd ⟨[u],[]⟩ [("_law_script",u)]) /\ ∀ base:Heap,K.In base->base.Ns mainGlobals mg->eO l.prog w K mg base (nU l.prog w) k fa fd ["_law_script"] (rD cl 1 fn):=
 Tj cl wz D hB λbase a b=>by
  obtain⟨kk,⟨f,fd,ok,r⟩,le⟩:=H base a b;exact⟨f,fd,ok.mono le,r⟩
def bq (K:Frag) (x:Str) (st:Stmt):Prop:=∃ (f:Addr) (oc:Value) (od:Option Addr) (kV dc pm:Value) (an:Option Addr) (cd ct:Value) (sl:Array (Option Value)),nsIn K mainGlobals x=some (some (.ref f)) /\
 K.lookup f=some ⟨oc,od,.func (fnOf x x (jh st) (gT st) (fL st) .none kV dc pm an cd ct),sl⟩ /\ codeIn K cd x=true /\ keepIn K (.ref f)=true
theorem dIn_mk {K:Frag}{x:Str}{st:Stmt}{f:Addr}{oc:Value}{od:Option Addr}{kV dc pm:Value}{an:Option Addr}{cd ct:Value}{sl:Array (Option Value)}(a:nsIn K mainGlobals x=some (some (.ref f)))
 (l:K.lookup f=some ⟨oc,od,.func (fnOf x x (jh st) (gT st) (fL st) .none kV dc pm an cd ct),sl⟩) (c:codeIn K cd x=true) (k:keepIn K (.ref f)=true):bq K x st:=⟨f,oc,od,kV,dc,pm,an,cd,ct,sl,a,l,c,k⟩
theorem fM (ps:List Str) (X:K.In h) (G:h.Ns mainGlobals mg) (d:bq K x st)
 (hb:∀ (kV doc pm:Value) (an:Option Addr) (aZ ct:Value) (us:List Value),us.length=ps.length->bindArgs (fnOf x x (jh st) (gT st) (fL st) .none kV doc pm an aZ ct) ⟨us,[]⟩=pure (ps.zip us)):Def K mg x st ps:=by
 obtain⟨f,oc,od,kV,dc,pm,an,cd,ct,sl,a,l,c,k⟩:=d;exact Ti X G a l c k λfd F=>F.binds hb
end L2.DL
namespace K51
open PySem PySem.Spec PyProof.Rows L2 L2.DL
noncomputable def top (i:Nat):Stmt:=PySem.Challenge.pw_rimehold_k51_the_fewest_openings.main.body.getD i (.Pass ⟨0,0,0,0⟩)
noncomputable def tx:L2.DL.Tx:=⟨"_law_script",[("COLDEST",3),("MOST_MOVES",10)],["all", "any", "bool", "int", "isinstance", "len", "list", "max", "min", "range", "repr", "set", "sorted", "tuple", "zip"]⟩
noncomputable def i0:FI:=⟨"_law_pot",["_law_cell"],["_law_cell", "_law_number", "_law_j", "_law_more"],[],[],[],1,top 33,K1.jR⟩
noncomputable def i1:FI:=⟨"_law_take",["_law_pot_here", "_law_far"],["_law_pot_here", "_law_far", "_law_found"],[],[],[],0,top 34,K1.fg⟩
noncomputable def i2:FI:=⟨"_law_house",["_law_pot_here"],["_law_pot_here", "_law_rooms", "_law_kinds", "_law_turn", "_law_rates", "_law_apart", "_law_one", "_law_other"],["_law_apart", "_law_kinds"],[],[],0,top 37,bz.iO⟩
noncomputable def i3:FI:=⟨"_law_cell_at",["_law_script", "_law_k"],["_law_script", "_law_k"],[],[],[],0,top 32,K1.ie⟩
noncomputable def i4:FI:=⟨"_law_moves",["_law_pot_here", "_law_house_here"],["_law_pot_here", "_law_house_here", "_law_rooms", "_law_found", "_law_turn", "_law_one", "_law_other"],["_law_found"],[],[],0,top 38,bz.ig⟩
noncomputable def i5:FI:=⟨"is_tuple",["thing", "fewest", "most"],["thing", "fewest", "most"],[],[],[],0,top 7,K1.f7⟩
noncomputable def i6:FI:=⟨"is_whole",["thing"],["thing"],[],[],[],0,top 5,K1.lu⟩
noncomputable def i7:FI:=⟨"is_within",["thing", "least", "greatest"],["thing", "least", "greatest"],[],[],[],0,top 6,K1.fW⟩
noncomputable def i8:FI:=⟨"are_rooms",["thing"],["thing"],[],[],[],0,top 12,K1.iM⟩
noncomputable def i9:FI:=⟨"are_rates",["thing"],["thing"],[],[],[],0,top 15,K1.jP⟩
noncomputable def EO:FI:=⟨"is_kind",["thing"],["thing"],[],[],[],0,top 14,K1.mj⟩
noncomputable def ER:FI:=⟨"are_kinds",["thing"],["thing"],[],[],[],0,top 13,K1.iN⟩
noncomputable def i12:FI:=⟨"is_rising",["things"],["things"],[],[],[],0,top 8,K1.jO⟩
noncomputable def ES:FI:=⟨"is_pair_apart",["thing", "many"],["thing", "many"],[],[],[],0,top 17,K1.gG⟩
noncomputable def ET:FI:=⟨"are_apart",["thing", "many"],["thing", "many"],[],[],[],0,top 16,K1.gu⟩
noncomputable def EU:FI:=⟨"is_house",["thing"],["thing", "rooms", "kinds", "apart", "hold"],[],[],[],0,top 11,K1.lv⟩
noncomputable def EV:FI:=⟨"need_house",["thing"],["thing"],[],[],[],0,top 18,bz.jv⟩
noncomputable def EW:FI:=⟨"is_room",["house", "thing"],["house", "thing"],[],[],[],0,top 19,K2.iy⟩
noncomputable def EX:FI:=⟨"is_move",["house", "thing"],["house", "thing"],[],[],[],0,top 25,bz.iZ⟩
noncomputable def EY:FI:=⟨"are_moves",["house", "thing"],["house", "thing"],[],[],[],0,top 24,bz.jS⟩
noncomputable def EZ:FI:=⟨"need_moves",["house", "thing"],["house", "thing"],[],[],[],0,top 23,bz.iB⟩
noncomputable def E2:FI:=⟨"rooms_named",["moves"],["moves"],[],[],[],0,top 26,K51.fY⟩
noncomputable def E3:FI:=⟨"rings_of",["moves"],["moves", "rings", "paths", "longer", "path", "following"],["longer", "paths", "rings"],[],[("rings",3)],1,top 27,K51.jp⟩
noncomputable def E4:FI:=⟨"meets",["rooms", "ring"],["rooms", "ring"],[],[],[],0,top 29,eE.mP⟩
noncomputable def E5:FI:=⟨"fewest_of_each",["house", "rings"],["house", "rings", "sets", "room", "meeting"],[],[],[("rings",2)],0,top 28,K51.gC⟩
noncomputable def E6:FI:=⟨"in_turn",["rooms", "moves"],["rooms", "moves", "told", "waiting", "blocked"],["told"],[],[],0,top 30,K51.jb⟩
noncomputable def E7:FI:=⟨"openings",["house", "moves"],["house", "moves", "rings", "twice", "once"],[],[],[],1,top 22,K51.iF⟩
noncomputable def E8:FI:=⟨"_law_lots",["_law_rooms"],["_law_rooms", "_law_found", "_law_room"],[],[],[],0,top 40,eE.iE⟩
noncomputable def E9:FI:=⟨"_law_ringless",["_law_rooms", "_law_moves_here"],["_law_rooms", "_law_moves_here", "_law_left", "_law_free"],[],[],[],0,top 41,K51.gx⟩
noncomputable def Ha:FI:=⟨"_law_twice",["_law_moves_here"],["_law_moves_here", "_law_rooms", "_law_lot"],[],[],[],0,top 42,K51.iR⟩
noncomputable def Hb:FI:=⟨"_law_whole",["_law_thing"],["_law_thing"],[],[],[],0,top 35,K1.gH⟩
noncomputable def Hc:FI:=⟨"_law_is_ring",["_law_moves_here", "_law_thing"],["_law_moves_here", "_law_thing"],[],[],[],0,top 43,eE.im⟩
noncomputable def Hd:FI:=⟨"_law_are_rings",["_law_moves_here", "_law_thing"],["_law_moves_here", "_law_thing"],[],[],[("_law_thing",2)],0,top 45,K51.gJ⟩
noncomputable def He:FI:=⟨"_law_within",["_law_thing", "_law_low", "_law_high"],["_law_thing", "_law_low", "_law_high"],[],[],[],0,top 36,K1.gO⟩
noncomputable def Hf:FI:=⟨"_law_is_row",["_law_moves_here", "_law_most", "_law_thing"],["_law_moves_here", "_law_most", "_law_thing", "_law_begin", "_law_end"],[],[],[("_law_thing",2)],0,top 39,K51.gQ⟩
noncomputable def Hg:FI:=⟨"_law_wanted",["_law_house_here", "_law_rings"],["_law_house_here", "_law_rings", "_law_lot"],[],[],[("_law_rings",2)],0,top 44,K51.iC⟩
noncomputable def Hh:FI:=⟨"_law_right",["_law_house_here", "_law_moves_here", "_law_found"],["_law_house_here", "_law_moves_here", "_law_found", "_law_names", "_law_many"],[],[],[("_law_found",1)],0,top 46,K51.gK⟩
noncomputable def yD:FI:=⟨"law",["_law_script"],["_law_script", "_law_k", "_law_pot_here", "_law_house_here", "_law_turn", "_law_moves_here", "_law_some", "_law_kept", "_law_lap", "_law_found"],[],[],[("_law_found",1)],0,top 47,K51.BT⟩
noncomputable def r0:List FI:=[]
noncomputable def r1:List FI:=i0::r0
noncomputable def r2:List FI:=i1::r1
noncomputable def r3:List FI:=i2::r2
noncomputable def r4:List FI:=i3::r3
noncomputable def r5:List FI:=i4::r4
noncomputable def r6:List FI:=i5::r5
noncomputable def r7:List FI:=i6::r6
noncomputable def r8:List FI:=i7::r7
noncomputable def r9:List FI:=i8::r8
noncomputable def xK:List FI:=i9::r9
noncomputable def Q6:List FI:=EO::xK
noncomputable def Q7:List FI:=ER::Q6
noncomputable def Q8:List FI:=i12::Q7
noncomputable def Q9:List FI:=ES::Q8
noncomputable def U5:List FI:=ET::Q9
noncomputable def U6:List FI:=EU::U5
noncomputable def U7:List FI:=EV::U6
noncomputable def U8:List FI:=EW::U7
noncomputable def U9:List FI:=EX::U8
noncomputable def Va:List FI:=EY::U9
noncomputable def Vb:List FI:=EZ::Va
noncomputable def Vc:List FI:=E2::Vb
noncomputable def Vd:List FI:=E3::Vc
noncomputable def Ve:List FI:=E4::Vd
noncomputable def Vf:List FI:=E5::Ve
noncomputable def yw:List FI:=E6::Vf
noncomputable def Vg:List FI:=E7::yw
noncomputable def Vh:List FI:=E8::Vg
noncomputable def Vi:List FI:=E9::Vh
noncomputable def Vj:List FI:=Ha::Vi
noncomputable def Vk:List FI:=Hb::Vj
noncomputable def Vl:List FI:=Hc::Vk
noncomputable def Vm:List FI:=Hd::Vl
noncomputable def Vn:List FI:=He::Vm
noncomputable def Vo:List FI:=Hf::Vn
noncomputable def Vp:List FI:=Hg::Vo
noncomputable def Vq:List FI:=Hh::Vp
noncomputable def Hi:List FI:=yD::Vq
theorem q0:i0.Is tx r0:=(by kernel_rfl:i0.fn=i0.body tx (bh r0))
theorem q1:i1.Is tx r1:=(by kernel_rfl:i1.fn=i1.body tx (bh r1))
theorem q2:i2.Is tx r2:=(by kernel_rfl:i2.fn=i2.body tx (bh r2))
theorem q3:i3.Is tx r3:=(by kernel_rfl:i3.fn=i3.body tx (bh r3))
theorem q4:i4.Is tx r4:=(by kernel_rfl:i4.fn=i4.body tx (bh r4))
theorem q5:i5.Is tx r5:=(by kernel_rfl:i5.fn=i5.body tx (bh r5))
theorem q6:i6.Is tx r6:=(by kernel_rfl:i6.fn=i6.body tx (bh r6))
theorem q7:i7.Is tx r7:=(by kernel_rfl:i7.fn=i7.body tx (bh r7))
theorem q8:i8.Is tx r8:=(by kernel_rfl:i8.fn=i8.body tx (bh r8))
theorem q9:i9.Is tx r9:=(by kernel_rfl:i9.fn=i9.body tx (bh r9))
theorem ads:EO.Is tx xK:=(by kernel_rfl:EO.fn=EO.body tx (bh xK))
theorem adt:ER.Is tx Q6:=(by kernel_rfl:ER.fn=ER.body tx (bh Q6))
theorem adu:i12.Is tx Q7:=(by kernel_rfl:i12.fn=i12.body tx (bh Q7))
theorem adv:ES.Is tx Q8:=(by kernel_rfl:ES.fn=ES.body tx (bh Q8))
theorem adw:ET.Is tx Q9:=(by kernel_rfl:ET.fn=ET.body tx (bh Q9))
theorem adx:EU.Is tx U5:=(by kernel_rfl:EU.fn=EU.body tx (bh U5))
theorem ady:EV.Is tx U6:=(by kernel_rfl:EV.fn=EV.body tx (bh U6))
theorem adz:EW.Is tx U7:=(by kernel_rfl:EW.fn=EW.body tx (bh U7))
theorem adA:EX.Is tx U8:=(by kernel_rfl:EX.fn=EX.body tx (bh U8))
theorem adB:EY.Is tx U9:=(by kernel_rfl:EY.fn=EY.body tx (bh U9))
theorem adC:EZ.Is tx Va:=(by kernel_rfl:EZ.fn=EZ.body tx (bh Va))
theorem adD:E2.Is tx Vb:=(by kernel_rfl:E2.fn=E2.body tx (bh Vb))
theorem adE:E3.Is tx Vc:=(by kernel_rfl:E3.fn=E3.body tx (bh Vc))
theorem adF:E4.Is tx Vd:=(by kernel_rfl:E4.fn=E4.body tx (bh Vd))
theorem adG:E5.Is tx Ve:=(by kernel_rfl:E5.fn=E5.body tx (bh Ve))
theorem adH:E6.Is tx Vf:=(by kernel_rfl:E6.fn=E6.body tx (bh Vf))
theorem adI:E7.Is tx yw:=(by kernel_rfl:E7.fn=E7.body tx (bh yw))
theorem adJ:E8.Is tx Vg:=(by kernel_rfl:E8.fn=E8.body tx (bh Vg))
theorem adK:E9.Is tx Vh:=(by kernel_rfl:E9.fn=E9.body tx (bh Vh))
theorem adL:Ha.Is tx Vi:=(by kernel_rfl:Ha.fn=Ha.body tx (bh Vi))
theorem adM:Hb.Is tx Vj:=(by kernel_rfl:Hb.fn=Hb.body tx (bh Vj))
theorem adN:Hc.Is tx Vk:=(by kernel_rfl:Hc.fn=Hc.body tx (bh Vk))
theorem adO:Hd.Is tx Vl:=(by kernel_rfl:Hd.fn=Hd.body tx (bh Vl))
theorem adP:He.Is tx Vm:=(by kernel_rfl:He.fn=He.body tx (bh Vm))
theorem adQ:Hf.Is tx Vn:=(by kernel_rfl:Hf.fn=Hf.body tx (bh Vn))
theorem adR:Hg.Is tx Vo:=(by kernel_rfl:Hg.fn=Hg.body tx (bh Vo))
theorem adS:Hh.Is tx Vp:=(by kernel_rfl:Hh.fn=Hh.body tx (bh Vp))
theorem adT:yD.Is tx Vq:=(by kernel_rfl:yD.fn=yD.body tx (bh Vq))
theorem Tk:Q3 tx Hi:=⟨adT,⟨adS,⟨adR,⟨adQ,⟨adP,⟨adO,⟨adN,⟨adM,⟨adL,⟨adK,⟨adJ,⟨adI,⟨adH,⟨adG,⟨adF,⟨adE,⟨adD,⟨adC,⟨adB,⟨adA,⟨adz,⟨ady,⟨adx,⟨adw,⟨adv,⟨adu,⟨adt,⟨ads,⟨q9,⟨q8,⟨q7,⟨q6,⟨q5,⟨q4,⟨q3,⟨q2,⟨q1,⟨q0,trivial⟩⟩⟩⟩⟩⟩⟩⟩⟩⟩⟩⟩⟩⟩⟩⟩⟩⟩⟩⟩⟩⟩⟩⟩⟩⟩⟩⟩⟩⟩⟩⟩⟩⟩⟩⟩⟩⟩
theorem Tl:EJ Hi=true:=by kernel_rfl
end K51
namespace K51
open PySem L2 L2.DL PySem.W PyProof.Rows
theorem Tm {l:PySem.W.OpenLaw}{w:World}{K:Frag}{h:Heap}{mg:Str->Option Value}{fa:Addr}(X:K.In h) (G:h.Ns mainGlobals mg) (wz:mg "law"=some (.ref fa))
 (z0:EM K tx.bl=true) (g0:EN K tx.gl=true) (y1:EL K=true)
 (d0:bq K "_law_pot" (top 33))
 (d1:bq K "_law_take" (top 34))
 (d2:bq K "_law_house" (top 37))
 (d3:bq K "_law_cell_at" (top 32))
 (d4:bq K "_law_moves" (top 38))
 (d5:bq K "is_tuple" (top 7))
 (d6:bq K "is_whole" (top 5))
 (d7:bq K "is_within" (top 6))
 (d8:bq K "are_rooms" (top 12))
 (d9:bq K "are_rates" (top 15))
 (adU:bq K "is_kind" (top 14))
 (adV:bq K "are_kinds" (top 13))
 (adW:bq K "is_rising" (top 8))
 (adX:bq K "is_pair_apart" (top 17))
 (adY:bq K "are_apart" (top 16))
 (adZ:bq K "is_house" (top 11))
 (ad0:bq K "need_house" (top 18))
 (ad1:bq K "is_room" (top 19))
 (ad2:bq K "is_move" (top 25))
 (ad3:bq K "are_moves" (top 24))
 (ad4:bq K "need_moves" (top 23))
 (ad5:bq K "rooms_named" (top 26))
 (ad6:bq K "rings_of" (top 27))
 (ad7:bq K "meets" (top 29))
 (ad8:bq K "fewest_of_each" (top 28))
 (ad9:bq K "in_turn" (top 30))
 (aea:bq K "openings" (top 22))
 (aeb:bq K "_law_lots" (top 40))
 (aec:bq K "_law_ringless" (top 41))
 (aed:bq K "_law_twice" (top 42))
 (aee:bq K "_law_whole" (top 35))
 (aef:bq K "_law_is_ring" (top 43))
 (aeg:bq K "_law_are_rings" (top 45))
 (aeh:bq K "_law_within" (top 36))
 (aei:bq K "_law_is_row" (top 39))
 (aej:bq K "_law_wanted" (top 44))
 (aek:bq K "_law_right" (top 46))
 (ael:bq K "law" (top 47)) :
 ∃ (cl:Nat->Addr) (fd:FuncData),(∀ (s:Shared) (u:Value),BindsTo s fd ⟨[u],[]⟩ [("_law_script",u)]) /\ ∀ base:Heap,K.In base->base.Ns mainGlobals mg->eO l.prog w K mg base (nU l.prog w) 38 fa fd ["_law_script"] (rD cl 1 K51.BT):=by
 have D0:=fM ["_law_cell"] X G d0 λ_ _ _ _ _ _ us hl=>match us,hl with|[_],_=>rfl
 have D1:=fM ["_law_pot_here", "_law_far"] X G d1 λ_ _ _ _ _ _ us hl=>match us,hl with|[_,_],_=>rfl
 have D2:=fM ["_law_pot_here"] X G d2 λ_ _ _ _ _ _ us hl=>match us,hl with|[_],_=>rfl
 have D3:=fM ["_law_script", "_law_k"] X G d3 λ_ _ _ _ _ _ us hl=>match us,hl with|[_,_],_=>rfl
 have D4:=fM ["_law_pot_here", "_law_house_here"] X G d4 λ_ _ _ _ _ _ us hl=>match us,hl with|[_,_],_=>rfl
 have D5:=fM ["thing", "fewest", "most"] X G d5 λ_ _ _ _ _ _ us hl=>match us,hl with|[_,_,_],_=>rfl
 have D6:=fM ["thing"] X G d6 λ_ _ _ _ _ _ us hl=>match us,hl with|[_],_=>rfl
 have D7:=fM ["thing", "least", "greatest"] X G d7 λ_ _ _ _ _ _ us hl=>match us,hl with|[_,_,_],_=>rfl
 have D8:=fM ["thing"] X G d8 λ_ _ _ _ _ _ us hl=>match us,hl with|[_],_=>rfl
 have D9:=fM ["thing"] X G d9 λ_ _ _ _ _ _ us hl=>match us,hl with|[_],_=>rfl
 have aem:=fM ["thing"] X G adU λ_ _ _ _ _ _ us hl=>match us,hl with|[_],_=>rfl
 have aen:=fM ["thing"] X G adV λ_ _ _ _ _ _ us hl=>match us,hl with|[_],_=>rfl
 have aeo:=fM ["things"] X G adW λ_ _ _ _ _ _ us hl=>match us,hl with|[_],_=>rfl
 have aep:=fM ["thing", "many"] X G adX λ_ _ _ _ _ _ us hl=>match us,hl with|[_,_],_=>rfl
 have aeq:=fM ["thing", "many"] X G adY λ_ _ _ _ _ _ us hl=>match us,hl with|[_,_],_=>rfl
 have aer:=fM ["thing"] X G adZ λ_ _ _ _ _ _ us hl=>match us,hl with|[_],_=>rfl
 have aes:=fM ["thing"] X G ad0 λ_ _ _ _ _ _ us hl=>match us,hl with|[_],_=>rfl
 have aet:=fM ["house", "thing"] X G ad1 λ_ _ _ _ _ _ us hl=>match us,hl with|[_,_],_=>rfl
 have aeu:=fM ["house", "thing"] X G ad2 λ_ _ _ _ _ _ us hl=>match us,hl with|[_,_],_=>rfl
 have aev:=fM ["house", "thing"] X G ad3 λ_ _ _ _ _ _ us hl=>match us,hl with|[_,_],_=>rfl
 have aew:=fM ["house", "thing"] X G ad4 λ_ _ _ _ _ _ us hl=>match us,hl with|[_,_],_=>rfl
 have aex:=fM ["moves"] X G ad5 λ_ _ _ _ _ _ us hl=>match us,hl with|[_],_=>rfl
 have aey:=fM ["moves"] X G ad6 λ_ _ _ _ _ _ us hl=>match us,hl with|[_],_=>rfl
 have aez:=fM ["rooms", "ring"] X G ad7 λ_ _ _ _ _ _ us hl=>match us,hl with|[_,_],_=>rfl
 have aeA:=fM ["house", "rings"] X G ad8 λ_ _ _ _ _ _ us hl=>match us,hl with|[_,_],_=>rfl
 have aeB:=fM ["rooms", "moves"] X G ad9 λ_ _ _ _ _ _ us hl=>match us,hl with|[_,_],_=>rfl
 have aeC:=fM ["house", "moves"] X G aea λ_ _ _ _ _ _ us hl=>match us,hl with|[_,_],_=>rfl
 have aeD:=fM ["_law_rooms"] X G aeb λ_ _ _ _ _ _ us hl=>match us,hl with|[_],_=>rfl
 have aeE:=fM ["_law_rooms", "_law_moves_here"] X G aec λ_ _ _ _ _ _ us hl=>match us,hl with|[_,_],_=>rfl
 have aeF:=fM ["_law_moves_here"] X G aed λ_ _ _ _ _ _ us hl=>match us,hl with|[_],_=>rfl
 have aeG:=fM ["_law_thing"] X G aee λ_ _ _ _ _ _ us hl=>match us,hl with|[_],_=>rfl
 have aeH:=fM ["_law_moves_here", "_law_thing"] X G aef λ_ _ _ _ _ _ us hl=>match us,hl with|[_,_],_=>rfl
 have aeI:=fM ["_law_moves_here", "_law_thing"] X G aeg λ_ _ _ _ _ _ us hl=>match us,hl with|[_,_],_=>rfl
 have aeJ:=fM ["_law_thing", "_law_low", "_law_high"] X G aeh λ_ _ _ _ _ _ us hl=>match us,hl with|[_,_,_],_=>rfl
 have aeK:=fM ["_law_moves_here", "_law_most", "_law_thing"] X G aei λ_ _ _ _ _ _ us hl=>match us,hl with|[_,_,_],_=>rfl
 have aeL:=fM ["_law_house_here", "_law_rings"] X G aej λ_ _ _ _ _ _ us hl=>match us,hl with|[_,_],_=>rfl
 have aeM:=fM ["_law_house_here", "_law_moves_here", "_law_found"] X G aek λ_ _ _ _ _ _ us hl=>match us,hl with|[_,_,_],_=>rfl
 have Zs:=fM ["_law_script"] X G ael λ_ _ _ _ _ _ us hl=>match us,hl with|[_],_=>rfl
 have DD:Q5 K mg Hi:=⟨Zs,⟨aeM,⟨aeL,⟨aeK,⟨aeJ,⟨aeI,⟨aeH,⟨aeG,⟨aeF,⟨aeE,⟨aeD,⟨aeC,⟨aeB,⟨aeA,⟨aez,⟨aey,⟨aex,⟨aew,⟨aev,⟨aeu,⟨aet,⟨aes,⟨aer,⟨aeq,⟨aep,⟨aeo,⟨aen,⟨aem,⟨D9,⟨D8,⟨D7,⟨D6,⟨D5,⟨D4,⟨D3,⟨D2,⟨D1,⟨D0,trivial⟩⟩⟩⟩⟩⟩⟩⟩⟩⟩⟩⟩⟩⟩⟩⟩⟩⟩⟩⟩⟩⟩⟩⟩⟩⟩⟩⟩⟩⟩⟩⟩⟩⟩⟩⟩⟩⟩;refine Pw (λ_=>0) wz Zs (λfd f F s u=>?_) λbase _ _=>?_
 ·obtain⟨⟨oc,od,kV,doc,pm,an,aZ,ct,nG,rfl,_,_⟩,_⟩:=F;exact .of_eq rfl
 ·exact GR (UM X G z0 g0 y1) Hi Tk Tl (BJ DD) yD (bQ ..)
end K51
open PySem PySem.W PyProof.Rows
end
namespace PySem.W.Fast
def tw7071405095088495586:=()
def tw13741508337438750972:=()
def tw7541767095555760488:=()
def tw2869811810933842353:=()
def tw16288045557998919959:=()
def tw12541933633810479535:=()
def tw3768998019513816865:=()
def tw7207628845688830457:=()
def tw18405650639021766745:=()
def tw2783312118163203922:=()
def tw2759031376315961559:=()
def tw13603608631279063571:=()
def tw8810069404741714493:=()
def tw9192551340431987877:=()
def tw15093626028887963980:=()
def tw8303170406016182999:=()
def tw17910606650466375869:=()
def tw3086417733338940098:=()
def tw10704717769302545062:=()
def tw972393414427871821:=()
def tw7869262620518433915:=()
def tw3537102976225817207:=()
def tw10535309353319357021:=()
def tw13595527014653071100:=()
def tw12032912669272712398:=()
def tw17048012913172186886:=()
def tw528983372586814423:=()
def tw7195554692987299273:=()
def tw1985030829600338129:=()
def tw219362912067157413:=()
def tw4789466493003196751:=()
def tw2784230356358610135:=()
def tw9514854907310475731:=()
def tw14950618869322866859:=()
def tw11116071551082841769:=()
def tw2044641825489143559:=()
def tw16708036651241910604:=()
def tw2265810909355476070:=()
def tw14512130096649708065:=()
def tw17058896288727479770:=()
def tw12112110481914167852:=()
def tw12757185993558128460:=()
def tw17877071989083957342:=()
def tw14794371978581370805:=()
def tw10624112845351882695:=()
def tw13015590899082088858:=()
def tw15776459045684730999:=()
def tw1634438874486686351:=()
def tw10146234358208398463:=()
def tw7062415983777841450:=()
def tw15452477702897712324:=()
def tw9434437725470850230:=()
def tw10730374483638024193:=()
def tw14482099539606472298:=()
def tw3408047699157584956:=()
def tw11424048546935345503:=()
def tw13487620138766606741:=()
def tw12092059821713663846:=()
def tw8035453547106187701:=()
def tw18356778120717717331:=()
def tw2930541601004976196:=()
def tw10136223002861891467:=()
def tw13831254855610765260:=()
def tw916421029073657760:=()
def tw14827530225496708094:=()
def tw18422631530504718190:=()
def tw2996860662861306399:=()
def tw3424660342970870727:=()
def tw400670470109523762:=()
def tw8694435823289337826:=()
def tw17238158550514916417:=()
def tw8798733708188740782:=()
def tw4834545190211930845:=()
def tw8622227620345304588:=()
def tw2860779251123636797:=()
def tw11824641679302683682:=()
def tw2875423858630277587:=()
def tw9304431525522549817:=()
def tw9156277357441001936:=()
def tw9106008892440822744:=()
def tw602828829723604375:=()
def tw479585565920837540:=()
def tw13839538179707908969:=()
def tw17590489505464094583:=()
def tw1857072676412949408:=()
def tw288517250939157829:=()
def tw12569033248661170893:=()
def tw997040976348517550:=()
def tw14254169501627288194:=()
def tw16634717860806133846:=()
def tw16949722598904663403:=()
def tw817372169889962025:=()
def tw2550653344073848942:=()
def tw9937189814648224488:=()
def tw12042151177447532722:=()
def tw16909222708255523976:=()
def tw392887156796632178:=()
def tw3904024817668190940:=()
def tw13621222481271042737:=()
def tw8438285477362074839:=()
def tw56465350625315144:=()
def tw556102771357700670:=()
def tw917675438965452881:=()
def tw4647805158741130769:=()
def tw6841252225438980110:=()
def tw9087257611408578577:=()
def tw1997627824837998796:=()
def tw11705209546683282014:=()
def tw11577435070701619885:=()
def tw3461845149609551756:=()
def tw3466304879890728129:=()
def tw16916082240033507674:=()
def tw8985221575227977231:=()
def tw4683429935267456321:=()
def tw9289825218189117284:=()
def tw6131219796596144002:=()
def tw2452212638469128331:=()
def tw5217361087088167535:=()
def tw12325289244750019805:=()
def tw14329618154972138501:=()
def tw6255665190140765152:=()
def tw5769053007777227768:=()
def tw6848621365867153:=()
def tw5932605843055056262:=()
def tw3651297670694952455:=()
def tw2508989359857173862:=()
def tw2956415624570356607:=()
def tw12093763938865082187:=()
def tw5473003625888614066:=()
def tw7470289644504884537:=()
def tw14810197874233983863:=()
def tw2483520329078178552:=()
def tw17415502324603365982:=()
def tw3102435358171375677:=()
def tw15539047067361292886:=()
def tw808000670102464441:=()
def tw3849740845542550443:=()
def tw4113390374060655282:=()
def tw16326143049330795485:=()
def tw10918953057406512177:=()
def tw7095237545912605704:=()
def tw1719789418713389521:=()
def tw5305145503838798180:=()
def tw564627969251820104:=()
def tw7658349227401907350:=()
def tw5267354061924571285:=()
def tw13443700597885256333:=()
def tw8898644451694128661:=()
def tw9814791488982646287:=()
def tw3362889091653816954:=()
def tw14716169086796524244:=()
def tw4789539616754290724:=()
def tw2064472682174188814:=()
def tw7608369278988140817:=()
def tw7631909743043305875:=()
def tw6313908038941948967:=()
def tw15080363790504051662:=()
def tw8855750206289620859:=()
def tw4102076784440631393:=()
def tw12352217839206443723:=()
def tw476324944078452797:=()
def tw14116831357017107678:=()
def tw8864830653111458666:=()
def tw10939646730491172734:=()
def tw15735458482110759666:=()
def tw4331700436115238580:=()
def tw18308895210481021355:=()
def tw6119461063106922762:=()
def tw11552932549262790092:=()
def tw9739336502100223525:=()
def tw10622067945840376692:=()
def tw17150049292081289580:=()
def tw10825759645212716818:=()
def tw8739808971070787435:=()
def tw15375508194713767180:=()
def tw9527824768132299666:=()
def tw11171583831921089274:=()
def tw17121381165711970655:=()
def tw6917855679576253641:=()
def tw8840336274471177245:=()
def tw2425135550765526070:=()
def tw15928260889498612688:=()
def tw5387817498148895919:=()
def tw15058876504581509279:=()
def tw16671710533831226485:=()
def tw13084869239261612149:=()
def tw13655221275786779269:=()
def tw310509401932101728:=()
def tw3719433495370516442:=()
def tw10626279320502622377:=()
def tw6770650958941534890:=()
def tw14891650369370956914:=()
end PySem.W.Fast
open_top hdk51 for PySem.Challenge.rw_rimehold_k51_the_fewest_openings

set_option maxRecDepth 100000 in
set_option maxHeartbeats 0 in
theorem PySem.Challenge.cw_rimehold_k51_the_fewest_openings_holds : PySem.Challenge.rw_rimehold_k51_the_fewest_openings.Holds :=
 hdk51 (by
 k_fill
 refine L2.DL.walk_d (l:=PySem.Challenge.rw_rimehold_k51_the_fewest_openings) (k:=38) (fn:=K51.BT) ⟨rfl,by decide,by decide,rfl⟩ rfl rfl (λw h Y=>PySem.W.kIn_of Y) ?kq_nl (λns h=>K51.law_true ns (by omega)) ?kq_F
 case kq_nl =>
  intro w;kernel_rfl
 case kq_F =>
  intro w mg fa h KX G hmg
  refine' K51.Tm KX G hmg ?kq_z0 ?kq_g0 ?kq_y1 ?_ ?_ ?_ ?_ ?_ ?_ ?_ ?_ ?_ ?_ ?_ ?_ ?_ ?_ ?_ ?_ ?_ ?_ ?_ ?_ ?_ ?_ ?_ ?_ ?_ ?_ ?_ ?_ ?_ ?_ ?_ ?_ ?_ ?_ ?_ ?_ ?_ ?_
  any_goals exact L2.DL.dIn_mk (by k_is) (by k_is) (by k_is) (by k_is)
  (case kq_z0=>kernel_rfl)
  (case kq_g0=>kernel_rfl)
  (case kq_y1=>kernel_rfl)
 )
