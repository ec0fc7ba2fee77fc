import PyProof.Rows.All
import Wide.All
import OpenK.AllK
import Wide.FinOn
import Lean
import PyProof.EqAt
import PyProof.EqKinds
import PyProof.TupleCall
import PyProof.Walks
import PyProof.ListMulRoad
import PyProof.ReprRoads
import PyProof.NeData
import PyProof.P3In
import PyProof.ZipIter
import PyProof.Draws
import PyProof.TupleIter
import PyProof.Rows.StrRules
import PyProof.CompUse
import PyProof.ListRange
import KE.KDictLaws
import PyProof.EnumFor
import PyProof.EnumMake
import PyProof.EnumStmt
import PyProof.ConsumeWalk
import KE.KMinKey
import PyProof.ListNew
import PyProof.Rows.SetFrom
import PyProof.WalksMore
import KE.KDictList
import PySem.Challenge.RW_rimehold_k55_whole_no_row_is_shorter
set_option Elab.async false
set_option linter.all false
set_option maxRecDepth 100000
set_option maxHeartbeats 4000000
set_option exponentiation.threshold 3000
noncomputable section
variable {a it : PySem.Addr}{o : PySem.Obj}{u : PySem.Value}{P prog : PySem.Program}{w : PySem.World}{h h' base : PySem.Heap}{x : PySem.Str}{e c tg iter elt : PySem.Expr}{pins : List (PySem.Addr × PySem.Obj)}{s : PySem.Shared}{t' i j n ep : Nat}{ch fp r : List PySem.Addr}{N : List PySem.Str}{M : PySem.Model}{A : PySem.Around}{E Q : PySem.Value -> PySem.Shared -> Prop}{t : PySem.SetTable}{α : Type}{pos apos : PySem.Pos}{op : PySem.CmpOp}{K : PySem.W.Frag}{st : PySem.Stmt}{es ifs : List PySem.Expr}{R : PySem.Result -> PySem.Shared -> Prop}{p ns is : List Int}{f : PySem.Value -> PySem.Value -> PySem.Sem PySem.Value}{us : List PySem.Value}{mA mg : PySem.Str -> Option PySem.Value}{fd : PySem.FuncData}{ps : List (Int × Int)}{nL : Array (Option PySem.Value)}{items : Array PySem.Value}{cl : Nat -> PySem.Addr}{bo : Bool}{gens : List PySem.Comprehension}{rs : List (List Int)}
open PySem renaming wpAny_bind->ae,wpAny_pure->ag,sizeLine_eq->bp,wpAny_mono->cM,wpAny_holding->cP,wpAny_newObj_type->cT,wpAny_call_entry->dR,wpAny_field->eN,wpAny_Call_Name_kw->kJ,mem_of_lookup->kK,wpAny_rule->k6,wpAny_truthy_bool->nM,wpAny_callSpecial?_slot->pz,codeAny_builtin->qc,wpAny_seqItems->qd,wpAny_setField->qf,wpAny_askSetting->qg,wpAny_standAt->rf,wpAny_setField_rec->sx,wpAny_attempt->sy,plainId_quiet->sC,wpAny_passesOwn->tY,wpAny_of_eq->tZ,wpAny_letGo->t6,wpAny_setState_of->t7,wpAny_load->vz,wpAny_pyIter_list->vA,codeAny_mono->vB,wpAny_typeOf->vC,intKind_is->vD,wpAny_fieldsOf->vE,call_meets->wV,pushCells_keeps->wW,wpAny_onRaise->wX,wpAny_pyIter_slot->wY,wpAny_isInstance->wZ,wpAny_updateSeq->w8,wpAny_setEntries_of->w9,wpAny_execs_nil->yR,wpAny_runValue->yS,wpAny_newList->yT,tupleKind_room_in1->yU,wpAny_handled->yV,wpAny_throw->yW,isSubtype_stop->yX,wpAny_pyIter_tuple->yY,wpAny_tryCatch->yZ,wpAny_isOneOf_valiter->za,wpAny_Name->E9,concat_meets->Ha,noFill_tuple_add->Hb,seq_tuple_add->Hc,evalPart_none->Hd,seqIndex_of->He,wpAny_comprehension_free->Hf,boot_len->Hg,wpAny_updateSeq_pair->Hh,wpAny_Call_method->Hi,call_meetsIn->Hj,fits_of_scanBound->Hk,codeAny_of_tree->Hl,wpAny_dictEntries->Hm,wpAny_typeNameOfWhole_valiter->Hn,wpAny_typeNameOf_valiter->Ho,storedH_new->Hq,wpAny_Compare1->Vj,wpAny_isTrue_Compare1->Vk,wpAny_execs_cons->Vl,wpAny_assign_Name->Vm,wpAny_bindName->Vn,rangeSize_one->Vo,call_range_1->Vp,intBits_le_64->Vq,name_of_addr->Vr,wpAny_sequenceKey->Vs,evalPart_some->Vt,wpAny_Slice->Vu,wpAny_getItem_list_slice->Vv,call_list_seq->Vw,fitsIndex_both->Vx,wpAny_alloc->Vy,codeAny_loop->Vz,wpAny_noted->VA,codeAny_compStart_list->VB,wpAny_specialOf->VC,wpAny_Dict_empty->VD,wpAny_newTuple->VE,wpAny_pyIter_enum->VF,wpAny_storeSet_of->VG,sub_set_self->VH,typeLookup_type->VI,builtinLookup_eq_fast->VJ,isSubtype_type->VL,entryFor_alias->VM,wpAny_setEpoch_of->VN,wpAny_dictEpoch->VO,wpAny_notOrdered_dict->VP
open Nat renaming le_refl->aq,ne_of_lt->bH,le_trans->bR,zero_le->cG,lt_irrefl->dE,lt_of_lt_of_le->eB,lt_succ_of_lt->k7,sub_self->k8,le_of_lt->nN,lt_succ_self->pB,zero_add->qh,ne_of_gt->rh,lt_or_ge->rj,le_succ->sD,le_of_eq->sF,le_of_not_lt->t8,le_add_right->ua,not_lt_zero->ub,le_antisymm->xc,lt_trans->zb,sub_zero->zc,add_sub_cancel_left->zd,pow_succ->Hr,pow_le_pow_right->Hs,lt_of_le_of_lt->VQ,max_eq_right->VR,succ_ne_self->VT,lt_of_succ_lt_succ->VU,mod_lt->VV,lt_of_lt_of_eq->VW,add_sub_cancel->VX,succ_mul->VY,min_eq_left->VZ
open List renaming length_map->aA,map_cons->aQ,size_toArray->aT,length_cons->a9,getElem?_eq_getElem->bI,length_append->bM,mem_cons_of_mem->bS,mem_append_right->bT,mem_cons_self->bZ,getElem?_append_left->cn,getElem?_append_right->cz,mem_append_left->cU,map_append->cV,mem_cons->aO,getElem?_map->dS,append_assoc->eC,lookup_cons->eO,not_mem_nil->eZ,length_set->kL,all_eq_true->cA,filterMap_cons->k9,append_nil->ng,length_nil->nO,map_map->nP,getElem?_set_ne->pC,find?_cons->pD,all_map->pE,getElem?_set_self->qi,all_cons->qj,prefix_refl->qk,exists_cons_of_length_pos->ql,exists_cons_of_ne_nil->qm,any_cons->rn,getElem?_eq_none->rq,length_range->sH,map_nil->uc,nodup_append->sI,getElem_mem->ud,any_eq_true->kM,set_append_right->ue,nil_append->uf,mem_filter->cW,mem_map->a6,sum_cons->ug,length_take->vF,mem_singleton->a8,ext_getElem?->vG,mem_of_getElem?->xf,length_drop->xg,forIn_cons->xh,prefix_append->xi,take_length->xj,forIn_nil->xk,length_filter_le->xl,zip_cons_cons->ze,reverse_cons->zf,replicate_succ->zg,flatten_cons->zh,getElem_of_mem->zi,eq_nil_of_length_eq_zero->zj,mem_map_of_mem->zk,take_left->zm,filter_cons_of_neg->zo,filter_cons_of_pos->zp,append_of_mem->zq,of_mem_zip->Ht,length_replicate->Hu,length_singleton->Hv,nodup_cons->pF,getElem?_inj->Hw,map_congr_left->Hx,drop_zero->Hy,any_map->Hz,take_of_length_le->HC,length_eraseIdx_of_lt->HD,filter_cons->HE,getElem?_cons_succ->HF,set_set->HG,set_append_left->HH,getElem?_concat_length->HJ,getElem?_drop->HK,mem_append->bN,find?_some->HL,mem_of_find?_eq_some->HM,map_set->HN,getD_eq_getElem?_getD->HP,map_take->HQ,map_drop->HR,filterMap_nil->HS,getElem?_replicate->V0,getElem?_take_of_lt->V1,take_sublist->V2,zip_nil_left->V3,filterMap_map->V4,cons_append->V5,take_zero->V6,nodup_nil->V7,zipIdx_cons->V8,zipIdx_nil->V9,forIn_toArray->Wa,pairwise_append->zr,pairwise_lt_range->Wb,isEmpty_nil->Wc,getElem?_cons_zero->Wd,map_id'->We,nil_sublist->Wf,find?_eq_none->HU,take_append_drop->Wg,take_set_of_le->Wh,mem_of_mem_take->Wi,mem_of_mem_drop->Wj,any_nil->Wk,head?_cons->Wl
open PySem.Heap renaming get?_push_of_some->aC,lt_size->aM,get?_push_size->aU,get?_update_self->pG,size_push->qo,get?_none_of_le->vH,get?_update_other->zt
open Bool renaming and_eq_true->aE,false_ne_true->cq,eq_iff_iff->ku,false_and->vI,false_eq_true->vJ,not_eq_true'->vK,true_and->xm,or_eq_true->HV,and_self->Wm,eq_false_iff->Wn
open Option renaming bind_some->ba,map_some->kN,getD_some->zu,getD_none->HW,isSome_map->Wo
open PyProof.Rows renaming step_dedup->cH,wpS_bind->eP,wpS_pure->nQ,size_push'->rB,callWith_type1->uh,slot_tuple_getitem->vL,mirror_perm->zv,wpS_reverse->zw,assignInOrder_cons->HX,boot_range->HY,tail_any->HZ,firstMet_length_le->Ia,isTrue_plain->Wq,assignInOrder_nil->Wr,slicePart_none->Ws,entry_tuple_getitem->Wt,args_tuple_getitem->Wu,tupleItemsOf_->Wv,subscriptTail_builtinR->Ww,listItems_at->Wx,get?_update_seq->Wy,kind_sorted->Wz,plain_sorted->WA,entry_sorted->WB,args_sorted1->WC,slot_list_sort->WD,entry_list_sort->WE,list_sort_tree->WG,args_list_sort->WH,wpS_forRange->WI,callWith_builtin1->ZG,lt_int->ZH,evalArgs_empty->ZI
open Int renaming toNat_natCast->cX,eq_ofNat_of_zero_le->vM,zero_add->Ib,le_refl->Ic,ediv_one->WJ
open Array renaming length_toList->kz,getElem?_toList->nR,toList_push->Ie,getElem?_eq_none->Ig,toList_extract->WK
open PySem.Obj renaming data_mapFields->nS,isFreed_of_fields->vN,cls_mapFields->xn,data_mapDictKeys->WL
open PySem.W renaming kia_one->pH,kitx_list->WM,kitx_dict->WN,cellsFrom_some->WO,mg_of->WQ
open PySem.Calls renaming spliced_cons->qp,spliced_nil->sJ,callWith_builtin->xo,evalArgs_plain->Ih,call_function_entry->WR
open PySem.Around renaming under_plainId->ui
open PyProof.Rows.KeyOrd renaming kle_refl->vO,kle_of_klt->zx,kle_trans->Ii,kle_antisymm->WS
open PySem.F renaming plain_min_loop->vP,plainAttrs_list->xp,slot_tuple_iterator_next->zy,slot_zip_next->xq,slot_dict_setdefault->zA,slot_tuple_add->Ij,entry_tuple_add->Ik,args_tuple_add_2->Il,plainAttrs_dict->Im,entry_tuple_iterator_next->WT,args_tuple_iterator_next_1->WU,slot_zip_iter->WV,entry_zip_next->WW,args_zip_next_1->WX,type_dict_setdefault->WY,entry_dict_setdefault->WZ,args_dict_setdefault_3->W0,entry_min_loop->W2,plain_set_new->W3,slot_set_iter->W4,plain_list_iadd->W5,slot_dict_values_iter->W6,slot_dict_valueiterator_next->Io,slot_dict_values->W7,slot_list_insert->W8
open PyProof.Rows.F renaming plain_set_update_loop->Ip,entry_set_update_loop->W9
open PySem.SeqAt.EqAt renaming int_str->Xa,str_int->Xc,int_int->Xd,none_bool->ZJ,none_int->ZK,none_str->ZL,bool_none->ZM,bool_bool->ZN,bool_int->ZO,bool_str->ZP,int_none->ZQ,int_bool->ZR,str_none->ZS,str_bool->ZT,str_str->ZU
open PyProof.Rows.LSm renaming kept_iter->Xe
open PySem.Code renaming quiet_builtin->Xf
open PyProof.Rows.IntsAre renaming int_at->Xg
open PySem.EqNone renaming eq_none_none->ZV,eq_none_bool->ZW,eq_none_int->ZX,eq_none_str->ZY,eq_bool_none->ZZ,eq_int_none->Z0,eq_str_none->Z1,ne_none_none->Z2,ne_none_bool->Z3,ne_none_int->Z4,ne_none_str->Z5,ne_bool_none->Z6,ne_int_none->Z7,ne_str_none->Z8
open PySem.EqMixed renaming eq_bool_str->Z9,eq_int_str->aaa,eq_str_bool->aab,eq_str_int->aac,ne_bool_str->aad,ne_int_str->aae,ne_str_bool->aaf,ne_str_int->aag
open PySem.AutoSeq1 renaming sub_tuple_tuple->aah,list_extend_list_list_0->aai,list_clear_list_0->aaj,list_insert_list_int_val_1->aak
open PySem.MeetsSeq renaming list_pop_at->aal
open PySem.SeqAt.RcNeAt renaming lists_lengths->aam
open PySem.SetTable renaming fits_plain_off->aan
open List.Perm renaming append_left->aao,of_eq->aap
open Function renaming comp_def->aaq
open PySem PySem.Spec PyProof.Rows
namespace L2
noncomputable abbrev Key:=Sum Int Str
noncomputable def uj:Key->Value->Bool
 |.inl k,v=>Value.isInt k v
 |.inr x,v=>Value.isStrOf x v
noncomputable def aar (w:World):Key->Int
 |.inl k=>hashInt k
 |.inr x=>hashStr w x
theorem f9:∀ {k:Key}{v:Value},uj k v=true->(∃ i t,k=Sum.inl i /\ v=Value.int i t) \/ (∃ x t,k=Sum.inr x /\ v=Value.str x t)
 | .inl i,v,h=>by
   obtain⟨t,e⟩:=Value.isInt_shape (k:=i) (v:=v) h;exact .inl ⟨i,t,rfl,e⟩
 | .inr x,v,h=>by
   obtain⟨t,e⟩:=Value.isStrOf_shape (x:=x) (v:=v) h;exact .inr ⟨x,t,rfl,e⟩
theorem GE (i:Int) (t:Tok):uj (.inl i) (.int i t)=true:=by simp[uj,Value.isInt]
theorem GF (x:Str) (t:Tok):uj (.inr x) (.str x t)=true:=by simp[uj,Value.isStrOf]
theorem PX (a b:Int):decide ((Sum.inl a:Key)=Sum.inl b)=(a==b):=by
 by_cases e:a=b
 ·subst e;simp
 ·have h:¬ (Sum.inl a:Key)=Sum.inl b:=λq=>e (Sum.inl.inj q);rw[decide_eq_false h];exact(beq_eq_false_iff_ne.mpr e).symm
theorem PY (a b:Str):decide ((Sum.inr a:Key)=Sum.inr b)=decide (a=b):=by
 by_cases e:a=b
 ·subst e;simp
 ·have h:¬ (Sum.inr a:Key)=Sum.inr b:=λq=>e (Sum.inr.inj q);rw[decide_eq_false h,decide_eq_false e]
theorem PZ (a:Int) (b:Str):decide ((Sum.inl a:Key)=Sum.inr b)=false:=decide_eq_false (λq=>nomatch q)
theorem P0 (a:Str) (b:Int):decide ((Sum.inr a:Key)=Sum.inl b)=false:=decide_eq_false (λq=>nomatch q)
def eD (prog:Program) (w:World):PySem.KeyKind prog w Key where
 is:=uj
 hash:=aar w
 inj:=λv a b ha hb=>by
  rcases f9 ha with⟨i,t,rfl,rfl⟩|⟨x,t,rfl,rfl⟩
  ·rcases f9 hb with⟨j,u,rfl,e⟩|⟨y,u,rfl,e⟩
   ·injection e with e1 _;rw[e1]
   ·exact nomatch e
  ·rcases f9 hb with⟨j,u,rfl,e⟩|⟨y,u,rfl,e⟩
   ·exact nomatch e
   ·injection e with e1 _;rw[e1]
 byValue:=λk v h=>by
  rcases f9 h with⟨i,t,rfl,rfl⟩|⟨x,t,rfl,rfl⟩<;>rfl
 pyHash:=λhv h=>by
  rcases f9 hv with⟨i,t,rfl,rfl⟩|⟨x,t,rfl,rfl⟩
  ·exact wpAny_pyHash_int h
  ·exact wpAny_pyHash_str h
 eqBool:=λhu hv h=>by
  rcases f9 hu with⟨i,t,rfl,rfl⟩|⟨x,t,rfl,rfl⟩
  ·rcases f9 hv with⟨j,u,rfl,rfl⟩|⟨y,u,rfl,rfl⟩
   ·rw[PX]at h;exact wpAny_eqBool_int h
   ·rw[PZ]at h;exact Xa i t y u _ _ _ _ h
  ·rcases f9 hv with⟨j,u,rfl,rfl⟩|⟨y,u,rfl,rfl⟩
   ·rw[P0]at h;exact Xc x t j u _ _ _ _ h
   ·rw[PY]at h;exact wpAny_eqBool_str h
 «strs»:=λk x t v h=>by
  rcases f9 h with⟨i,u,rfl,e⟩|⟨y,u,rfl,e⟩
  ·exact nomatch e
  ·injection e with e1 _;subst e1;cases v<;>rfl
theorem B9 (prog:Program) (w:World) (i:Int) (t:Tok):(eD prog w).is (.inl i) (.int i t)=true:=GE i t
theorem Ca (prog:Program) (w:World) (x:Str) (t:Tok):(eD prog w).is (.inr x) (.str x t)=true:=GF x t
end L2
variable {xs : List (List L2.Key × PySem.Addr × PySem.Value)}
namespace L2
inductive V where
 |non|bl (b:Bool)|int (i:Int)|str (x:Str)|kA (b:Array UInt8)|sL (b:UInt64)|ref (a:Addr)|ty (n:String)
 deriving DecidableEq
noncomputable def RelV:V->Value->Prop
 |.non,u=>u=Value.none
 |.bl b,u=>u=Value.bool b
 |.int i,u=>∃ t,u=Value.int i t
 |.str x,u=>∃ t,u=Value.str x t
 |.kA b,u=>∃ t,u=Value.bytes b t
 |.sL b,u=>∃ t,u=Value.float b t
 |.ref a,u=>u=Value.ref a
 |.ty n,u=>u=Value.type n
abbrev Vals:List V->List Value->Prop:=Paired RelV
theorem Vals.length {xs:List V}{us:List Value}(r:Vals xs us):xs.length=us.length:=Paired.length r
theorem Vals.get:∀ {xs:List V}{us:List Value}{i:Nat}{x:V},Vals xs us->xs[i]?=some x->∃ u,us[i]?=some u /\ RelV x u
 |_,_,_,_,.nil,e=>by simp at e
 |_,_,0,_,.cons r _,e=>by simp at e;subst e;exact⟨_,rfl,r⟩
 | _,_,i+1,x,.cons _ t,e=>by
   obtain⟨u,h1,h2⟩:=Vals.get (i:=i) (x:=x) t (by simpa using e);exact⟨u,by simpa using h1,h2⟩
theorem Vals.set {x:V}{u:Value}(r:RelV x u):∀ {xs:List V}{us:List Value}(i:Nat),Vals xs us->Vals (xs.set i x) (us.set i u)
 |_,_,_,.nil=>.nil
 |_,_,0,.cons _ t=>.cons r t
 |_,_,i+1,.cons q t=>.cons q (Vals.set r i t)
theorem Vals.append:∀ {xs ys:List V}{us ws:List Value},Vals xs us->Vals ys ws->Vals (xs++ys) (us++ws)
 |_,_,_,_,.nil,s=>s
 |_,_,_,_,.cons r t,s=>.cons r (Vals.append t s)
theorem Vals.take:∀ {xs:List V}{us:List Value}(n:Nat),Vals xs us->Vals (xs.take n) (us.take n)
 |_,_,0,_=>.nil
 |_,_,_+1,.nil=>.nil
 |_,_,n+1,.cons r t=>.cons r (Vals.take n t)
theorem Vals.drop:∀ {xs:List V}{us:List Value}(n:Nat),Vals xs us->Vals (xs.drop n) (us.drop n)
 |_,_,0,r=>r
 |_,_,_+1,.nil=>.nil
 |_,_,n+1,.cons _ t=>Vals.drop n t
def e9:Option V->Option Value->Prop
 |some v,some u=>RelV v u
 |none,none=>True
 |_,_=>False
def KV {κ:Type}:List (κ×V)->List (κ×Value)->Prop:=Paired λ(p:κ×V) (q:κ×Value)=>p.1=q.1 /\ RelV p.2 q.2
noncomputable def kV:Key->V
 |.inl i=>.int i
 |.inr x=>.str x
inductive HO where
 /-- a list -/
 |lst (xs:List V)
 /-- a tuple (never changes) -/
 |tup (xs:List V)
 /-- a dict whose keys are ints and texts;one whose keys are tuples of ints and texts (the empty one is both) -/
 |dK (af:List (Key×V))|dT (af:List (List Key×V))
 /-- a set of ints: its members,its size -/
 |set (S:Int->Bool) (n:Nat)
 /-- an instance of the class at C,its dict at dx,its attributes -/
 |ins (C dx:Addr) (fs:List (Str×V))
 /-- the dict of the instance at x -/
 |own (x:Addr)
 /-- the dict of an exception -/
 |xd (fs:List (Str×V))
 /-- a bound method,f of x -/
 |met (f x:Addr)
 /-- a range object lo,lo+1,.. below hi -/
 |Iq (lo hi:Int)
 /-- a thing that is known to the object (the aeF;a dict while a loop walks it): read,never written while it is so -/
 |kB (o:Obj) (u:HO)
 /-- a code aeG table -/
 |uk (ps:Array Value)
 /-- any other thing,by what is true of its one object (a def of aeH own: aeI a S n:=HO.ext λh=>..) -/
 |ext (φ:Heap->Prop)
noncomputable abbrev Hp:=Addr->Option HO
noncomputable def upd (H:Hp) (a:Addr) (o:HO):Hp:=λb=>if b=a then some o else H b
theorem fC {H:Hp}{o:HO}:upd H a o a=some o:=by unfold upd;rw[if_pos rfl]
theorem fG {H:Hp}{b:Addr}{o:HO}(h:b≠a):upd H a o b=H b:=by unfold upd;rw[if_neg h]
theorem Pr {H:Hp}{b:Addr}{o u:HO}(h:H a=some o) (h':H b=some u) (d:o≠u):a≠b:=by
 intro e;subst e;rw[h]at h';exact d (Option.some.inj h')
theorem gh {H:Hp}{b:Addr}{o:HO}(h:H a=some o) (h':H b=none):a≠b:=by
 intro e;subst e;rw[h]at h';cases h'
section
variable (P : Program) (w : World)
noncomputable def bE (H:Hp) (h:Heap) (a:Addr):HO->Prop
 |.lst xs=>xs.length<=sizeLine /\ ∃ (its:List Value) (n:Nat),Vals xs its /\ h.get? a=some { cls:=.type "list",data:=.seq its.toArray n }
 |.tup xs=>xs.length<=sizeLine /\ ∃ its:List Value,Vals xs its /\ IsTup h a its.toArray
 |.dK af=>af.length<=sizeLine /\ (a==sysModules)=false /\ ∃ vs,KV af vs /\ h.DictOf (eD P w) a vs
 |.dT af=>af.length<=sizeLine /\ (a==sysModules)=false /\ ∃ xs:List (List Key×Addr×Value),
  Paired (λ(p:List Key×V) (q:List Key×Addr×Value)=>p.1=q.1 /\ H q.2.1=some (.tup (p.1.map kV)) /\ RelV p.2 q.2.2) af xs /\
  ∃ o es ep,h.get? a=some o /\ o.ExactDict /\ o.data=.dict es ep /\ es.toList=xs.map (entryOfKey (tupleKind (eD P w))) /\ (xs.map (·.1)).Nodup
 |.set S n=>h.SetOf (intKind P w) a S n
 |.ins C dx fs=>H dx=some (.own a) /\ fs.length<=1000 /\ dx≠a /\ h.get? a=some (PySem.W.instObj C dx) /\
  ∃ mA,h.Ns1 dx mA /\ (∀ f,e9 (fs.lookup f) (mA f)) /\ PySem.Within mA (fs.map (·.1))
 |.own _=>∃ o,h.get? a=some o
 |.xd fs=>∃ mA,h.Ns1 a mA /\ ∀ f,e9 (fs.lookup f) (mA f)
 |.Iq lo hi=>∃ t u v,h.get? a=some { cls:=.type "range",data:=.fields #[.int lo t,.int hi u,.int 1 v] }
 |.kB o u=>h.get? a=some o /\ bE H h a u
 |.uk ps=>h.get? a=some { cls:=.none,data:=.fields ps }
 |.met f x=>h.get? a=some (PySem.W.methodObj (.ref f) (.ref x))
 |.ext φ=>φ h /\ (∃ o,h.get? a=some o) /\ ∀ h1 h2:Heap,φ h1->(∀ o,h1.get? a=some o->h2.get? a=some o)->φ h2
def bU (H:Hp) (h:Heap):Prop:=∀ a o,H a=some o->bE P w H h a o
end
section
variable {H H' : Hp} {o : HO}
theorem bE.lt (x:bE P w H h a o):a<h.objs.size:=by
 cases o with
 |lst xs=>obtain⟨_,_,_,_,e⟩:=x;exact aM e
 |tup xs=>obtain⟨_,_,_,p⟩:=x;exact p.lt
 |dK af=>obtain⟨_,_,_,_,o,_,_,e,_⟩:=x;exact aM e
 |dT af=>obtain⟨_,_,_,_,o,_,_,e,_⟩:=x;exact aM e
 |set S n=>obtain⟨o,_,_,_,e,_⟩:=x;exact aM e
 |ins C dx fs=>obtain⟨_,_,_,e,_⟩:=x;exact aM e
 |own y=>obtain⟨_,e⟩:=x;exact aM e
 |xd fs=>obtain⟨_,⟨_,_,_,e,_⟩,_⟩:=x;exact aM e
 |Iq lo hi=>obtain⟨_,_,_,e⟩:=x;exact aM e
 |kB ob u=>obtain⟨e,_⟩:=x;exact aM e
 |uk ps=>exact aM (show h.get? a=some _ from x)
 |met f y=>exact aM (show h.get? a=some _ from x)
 |ext φ=>obtain⟨_,⟨_,e⟩,_⟩:=x;exact aM e
theorem Paired.Ir {α β:Type}{F G:α->β->Prop}:∀ {l₁:List α}{l₂:List β},Paired F l₁ l₂->(∀ a b,F a b->G a b)->Paired G l₁ l₂
 |_,_,.nil,_=>.nil
 |_,_,.cons r t,f=>.cons (f _ _ r) (Paired.Ir t f)
theorem bE.hG (x:bE P w H h a o) (k:∀ b u,(b=a \/ H b=some (.own a))->h.get? b=some u->h'.get? b=some u)
 (ho:∀ b,H b=some (.own a)->H' b=some (.own a)) (ht:∀ b xs,H b=some (.tup xs)->H' b=some (.tup xs)):bE P w H' h' a o:=by
 induction o with
 |lst xs=>obtain⟨z,its,n,r,e⟩:=x;exact⟨z,its,n,r,k _ _ (.inl rfl) e⟩
 |tup xs=>obtain⟨z,its,r,ob,e,c⟩:=x;exact⟨z,its,r,ob,k _ _ (.inl rfl) e,c⟩
 |dK af=>obtain⟨z,y,vs,r,ob,es,ep,e,c⟩:=x;exact⟨z,y,vs,r,ob,es,ep,k _ _ (.inl rfl) e,c⟩
 | dT af =>
   obtain⟨z,y,xs,r,ob,es,ep,e,c⟩:=x;exact⟨z,y,xs,Paired.Ir r λp q z=>⟨z.1,ht _ _ z.2.1,z.2.2⟩,ob,es,ep,k _ _ (.inl rfl) e,c⟩
 |set S n=>obtain⟨ob,es,ep,t,e,c⟩:=x;exact⟨ob,es,ep,t,k _ _ (.inl rfl) e,c⟩
 | ins C dx fs =>
   obtain⟨d,z,ne,e,mA,⟨od,es,ep,e2,c⟩,r⟩:=x;exact⟨ho _ d,z,ne,k _ _ (.inl rfl) e,mA,⟨od,es,ep,k _ _ (.inr d) e2,c⟩,r⟩
 |own y=>obtain⟨ob,e⟩:=x;exact⟨ob,k _ _ (.inl rfl) e⟩
 |xd fs=>obtain⟨mA,⟨od,es,ep,e,c⟩,r⟩:=x;exact⟨mA,⟨od,es,ep,k _ _ (.inl rfl) e,c⟩,r⟩
 |Iq lo hi=>obtain⟨t,u,v,e⟩:=x;exact⟨t,u,v,k _ _ (.inl rfl) e⟩
 |kB ob u ih=>obtain⟨e,q⟩:=x;exact⟨k _ _ (.inl rfl) e,ih q⟩
 | uk ps =>
   have e:h.get? a=some { cls:=.none,data:=.fields ps }:=x;show h'.get? a=some { cls:=.none,data:=.fields ps };exact k a _ (.inl rfl) e
 | met f y =>
   have e:h.get? a=some (PySem.W.methodObj (.ref f) (.ref y)):=x;show h'.get? a=some (PySem.W.methodObj (.ref f) (.ref y));exact k a _ (.inl rfl) e
 |ext φ=>obtain⟨p,⟨o,e⟩,st⟩:=x;exact⟨st _ _ p λo q=>k _ _ (.inl rfl) q,⟨o,k _ _ (.inl rfl) e⟩,st⟩
theorem bU.lt (x:bU P w H h) (e:H a=some o):a<h.objs.size:=(x a o e).lt
theorem bU.fresh (x:bU P w H h) (e:h.objs.size<=a):H a=none:=by
 cases q:H a with
 |none=>rfl
 |some u=>exact absurd (eB (x.lt q) e) (dE _)
theorem bU.kept (x:bU P w H h) (k:∀ b u,h.get? b=some u->h'.get? b=some u):bU P w H h':=λa o e =>
 (x a o e).hG (λb u _ q=>k b u q) (λ_ q=>q) λ_ _ q=>q
theorem bU.laid (x:bU P w H h) (k:∀ b u,h.get? b=some u->h'.get? b=some u) (hp:h.objs.size<=a) (new:bE P w (upd H a o) h' a o):bU P w (upd H a o) h':=λb u e=>by
 have hn:=x.fresh hp;by_cases hb:b=a
 ·subst hb;rw[fC]at e;cases e;exact new
 ·rw[fG hb]at e;exact(x b u e).hG (λc v _ q=>k c v q) (λc q=>by rw[fG (gh q hn)];exact q) λc xs q=>by rw[fG (gh q hn)];exact q
end
def Rd (H:Hp) (a:Addr) (u:HO):Prop:=H a=some u \/ ∃ o,H a=some (.kB o u)
theorem Rd.ok {H:Hp}{u:HO}(r:Rd H a u) (x:bU P w H h):bE P w H h a u:=by
 rcases r with r|⟨o,r⟩
 ·exact x a u r
 ·obtain⟨_,q⟩:=x a _ r;exact q
noncomputable def xr:Option HO->Prop
 |some (.lst _)=>True
 |some (.dK _)=>True
 |some (.dT _)=>True
 |some (.set _ _)=>True
 |some (.ins _ _ _)=>True
 |some (.ext _)=>True
 |_=>False
section
variable {H : Hp} {x e : Addr} {o' : HO}
theorem bU.write (ok:bU P w H h) (mu:xr (H x)) (he:e=x \/ H e=some (.own x)) (k:∀ b u,b≠e->h.get? b=some u->h'.get? b=some u) (vQ:∃ u,h'.get? e=some u)
 (new:bE P w (upd H x o') h' x o'):bU P w (upd H x o') h':=λb u q=>by
 have Xh:∀ c y,H c=some (.own y)->c≠x:=λc y r z=>by subst z;rw[r]at mu;exact mu
 have aas:∀ c xs,H c=some (.tup xs)->c≠x:=λc xs r z=>by subst z;rw[r]at mu;exact mu
 by_cases hb:b=x
 ·subst hb;rw[fC]at q;cases q;exact new
 ·rw[fG hb]at q;by_cases uo:b=e
  ·have q':H b=some (.own x):=by
    rcases he with z|z
    ·exact absurd (uo.trans z) hb
    ·rw[uo];exact z
   rw[q]at q';cases q';obtain⟨v,hv⟩:=vQ;exact⟨v,by rw[uo];exact hv⟩
  ·refine(ok b u q).hG (λc v hc r=>k c v ?_ r) (λc r=>by rw[fG (Xh c b r)];exact r) λc xs r=>by rw[fG (aas c xs r)];exact r
   rcases hc with rfl|hc
   ·exact uo
   ·rintro rfl;rcases he with z|z
    ·exact Xh c b hc z
    ·rw[hc]at z;cases z;exact hb rfl
end
structure Un (fs ex:List Addr) (H H':Hp) (h h':Heap):Prop where
 keep:∀ b o,h.get? b=some o->H b=none->b∉fs->b∉ex->h'.get? b=some o
 slot:∀ b o,h.get? b=some o->H b=none->b∈fs->b∉ex->∃ sl,h'.get? b=some { o with slots:=sl }
 free:∀ b o,h.get? b=some o->H b=none->b∉ex->H' b=none
 there:∀ b o,h.get? b=some o->b∉ex->∃ o',h'.get? b=some o'
 pI:∀ b xs,H b=some (.tup xs)->H' b=some (.tup xs)
 nU:∀ b o u,H b=some (.kB o u)->H' b=some (.kB o u)
 pJ:∀ b ps,H b=some (.uk ps)->∃ more,H' b=some (.uk (ps++more))
section
variable {fs aat ex aeJ : List Addr} {H H1 H2 : Hp} {h1 h2 : Heap} {x e : Addr} {o : HO}
theorem Un.any (u:Un fs ex H H1 h h1) {b:Addr}{ob:Obj}(q:h.get? b=some ob) (n:H b=none) (hx:b∉ex):∃ sl,h1.get? b=some { ob with slots:=sl }:=by
 by_cases hb:b∈fs
 ·exact u.slot b ob q n hb hx
 ·exact⟨ob.slots,u.keep b ob q n hb hx⟩
theorem Un.kept (k:∀ b u,h.get? b=some u->h'.get? b=some u):Un fs ex H H h h' :=
 ⟨λb ob q _ _ _=>k b ob q,λb ob q _ _ _=>⟨ob.slots,k b ob q⟩,λ_ _ _ n _=>n,λb ob q _=>⟨ob,k b ob q⟩,λ_ _ q=>q,λ_ _ _ q=>q,λ_ ps q=>⟨#[],by rw[q];simp⟩⟩
theorem Un.refl:Un fs ex H H h h:=Un.kept λ_ _ q=>q
theorem Un.laid (k:∀ b u,h.get? b=some u->h'.get? b=some u) (hp:h.objs.size<=a) (hn:H a=none):Un fs ex H (upd H a o) h h' where
 keep:=λb u q _ _ _=>k b u q
 slot:=λb u q _ _ _=>⟨u.slots,k b u q⟩
 free:=λb u q n _=>by rw[fG (bH (eB (aM q) hp))];exact n
 there:=λb u q _=>⟨u,k b u q⟩
 pI:=λb xs q=>by rw[fG (gh q hn)];exact q
 nU:=λb u xs q=>by rw[fG (gh q hn)];exact q
 pJ:=λb ps q=>⟨#[],by rw[fG (gh q hn),q];simp⟩
theorem Un.write (mu:xr (H x)) (he:e=x \/ H e=some (.own x)) (k:∀ b u,b≠e->h.get? b=some u->h'.get? b=some u) (vQ:∃ u,h'.get? e=some u):Un fs ex H (upd H x o) h h':=by
 have hx:∀ b,H b=none->b≠x:=λb n z=>by subst z;rw[n]at mu;exact mu
 have hb:∀ b,H b=none->b≠e:=λb n z=>by
  subst z;rcases he with r|r
  ·exact hx b n r
  ·rw[n]at r;cases r
 have hm:∀ b u,H b=some u->¬ xr (some u)->b≠x:=λb u q nm z=>by subst z;rw[q]at mu;exact nm mu
 refine⟨λb u q n _ _=>k b u (hb b n) q,λb u q n _ _=>⟨u.slots,k b u (hb b n) q⟩,λb u q n _=>by rw[fG (hx b n)];exact n,λb u q _=>?_,
  λb xs q=>by rw[fG (hm b _ q λz=>z)];exact q,λb u xs q=>by rw[fG (hm b _ q λz=>z)];exact q,λb ps q=>⟨#[],by rw[fG (hm b _ q λz=>z),q];simp⟩⟩
 by_cases uo:b=e
 ·subst uo;exact vQ
 ·exact⟨u,k b u uo q⟩
end
noncomputable def zB (h:Heap) (H:Hp):List Addr:=(List.range h.objs.size).filter λa=>(H a).isSome
def rC (h:Heap) (H:Hp):Heap:=PySem.W.hideAll h (zB h H)
theorem GG (h:Heap) (H:Hp):(rC h H).objs.size=h.objs.size:=PySem.W.hideAll_size _ _
theorem JL {H:Hp}{b:Addr}(e:h.get? b=some o) (n:H b=none):(rC h H).get? b=some o :=
 PySem.W.hideAll_get _ e λhm=>by
  have q:(H b).isSome=true:=(cW.mp hm).2;rw[n]at q;simp at q
theorem Ng {H:Hp}{b:Addr}(e:(rC h H).get? b=some o):h.get? b=some o /\ H b=none:=by
 have e':h.get? b=some o:=PySem.W.of_hideAll (zB h H) e;refine⟨e',?_⟩;cases q:H b with
 |none=>rfl
 | some x =>
   have hm:b∈zB h H:=cW.mpr ⟨List.mem_range.mpr (aM e'),by simp[q]⟩;have z:(rC h H).get? b=none:=PySem.W.hideAll_none (zB h H) hm;rw[z]at e;cases e
end L2
variable {H H' F : L2.Hp}{v : L2.V}{vs : List L2.V}{af : List (List L2.Key × L2.V)}
namespace L2
structure Mod (K:PySem.W.Frag) (mg:Str->Option Value) (base:Heap):Prop where
 Iu:K.In base
 glob:base.Ns mainGlobals mg
 blt:∃ mb,base.Ns builtinsNs mb /\ ∀ x:Str,x ≠ "__name__"->mb x=bootBuiltins x
 nolimit:base.NoLimit
structure Cx where
 prog:Program
 w:World
 K:PySem.W.Frag
 mg:Str->Option Value
 base:Heap
 A:Around
 N:List Str
 s₀:Shared
 H₀:Hp
 env:Env
 outer:List Env
 stack:List Env
 ex:List Addr
 fn:Str->Bool
 calm:Bool
 pn:List (Addr×Obj)
 xe:Value->Shared->Prop
noncomputable def nh (l:List Env):List Addr:=l.filterMap (·.frame)
abbrev Cx.fs (X:Cx):List Addr:=nh X.outer
def vR (sc:Scope) (x:Str):Prop:=sc.names.lookup x=some .local \/ sc.names.lookup x=some .cell \/ sc.names.lookup x=some .free
def Loc (sc:Scope) (x:Str):Prop:=sc.names.lookup x=some .local \/ sc.names.lookup x=some .cell
def Look (env:Env) (h:Heap) (m:Str->Option Value) (x:Str) (u:Value):Prop :=
 (env.kindOf x=some .local /\ m x=some u) \/ ((env.kindOf x=some .cell \/ env.kindOf x=some .free) /\ ∃ c,env.cells.lookup x=some c /\ h.IsCell c (some u))
structure Cx.Ok (X:Cx):Prop where
 mod:Mod X.K X.mg X.base
 kind:X.env.scope.kind=.function
 glob:X.env.globals=mainGlobals
 blt:X.env.builtins=builtinsNs
 above:X.s₀.heap.objs.size<=X.env.locals
 inj:∀ x y c,X.env.cells.lookup x=some c->X.env.cells.lookup y=some c->x=y
 has:∀ x,(X.env.kindOf x=some .cell \/ X.env.kindOf x=some .free)->∃ c,X.env.cells.lookup x=some c
 xt:∀ x c,X.fn x=true->X.env.cells.lookup x=some c->X.s₀.heap.objs.size<=c
 hd:X.calm=true->X.A.handled=none
 frames:X.A.frames=some X.stack
 zC:X.stack=X.outer \/ (X.stack=X.env::X.outer /\ X.env.frame=some X.env.locals)
 sM:∀ b∈X.ex,b≠X.env.locals /\ ∀ x c,X.env.cells.lookup x=some c->c≠b
 bs:∀ b o,X.base.get? b=some o->X.s₀.heap.get? b=some o /\ X.H₀ b=none
 uq:X.base.objs.size<=X.s₀.heap.objs.size
 xu:∀ b o,X.base.get? b=some o->b∉X.ex
 ur:∀ b∈X.ex,b∉X.fs
 pK:X.s₀.heap.FunFrames X.base X.outer
 vS:∀ b∈X.fs,X.H₀ b=none
structure Inv (X:Cx) (pins:List (Addr×Obj)) (σ:List (Option V)) (H:Hp) (s:Shared):Prop where
 ok:X.Ok
 os:s.os=X.s₀.os
 bare:AllBare s.gens
 base:Un X.fs X.ex X.H₀ H X.s₀.heap s.heap
 loc:∃ m,s.heap.Ns X.env.locals m /\ ∀ (i:Nat) (x:Str) (v:V),X.N[i]?=some x->σ[i]?=some (some v)->vR X.env.scope x->∃ u,RelV v u /\ Look X.env s.heap m x u
 cell:∀ x c,X.env.cells.lookup x=some c->∃ v,s.heap.IsCell c v
 free:H X.env.locals=none
 nV:∀ x c,X.env.cells.lookup x=some c->H c=none
 pin:∀ p∈X.pn++pins,s.heap.get? p.1=some p.2 /\ H p.1=none /\ p.1≠X.env.locals /\ p.1∉X.fs /\ ∀ v,p.2.data≠.cell v
 ak:bU X.prog X.w H s.heap
 len:σ.length=X.N.length
section
variable {X : Cx} {σ : List (Option V)} 
theorem Cx.Ok.aau (ok:X.Ok) {b:Addr}(e:X.base.get? b=some o):b∉X.fs:=λhb=>by
 have:=(ok.pK.mem hb).1;rw[e]at this;cases this
theorem Inv.bs (I:Inv X pins σ H s):∀ b o,X.base.get? b=some o->s.heap.get? b=some o /\ H b=none:=λb o e =>
 ⟨I.base.keep b o (I.ok.bs b o e).1 (I.ok.bs b o e).2 (I.ok.aau e) (I.ok.xu b o e),I.base.free b o (I.ok.bs b o e).1 (I.ok.bs b o e).2 (I.ok.xu b o e)⟩
theorem Inv.bk (I:Inv X pins σ H s):∀ b o,X.base.get? b=some o->s.heap.get? b=some o:=λb o e=>(I.bs b o e).1
theorem Inv.mod (I:Inv X pins σ H s):Mod X.K X.mg X.base:=I.ok.mod
theorem Inv.dF (I:Inv X pins σ H s):X.K.In s.heap:=I.ok.mod.Iu.keeps I.bk
theorem Inv.lt (I:Inv X pins σ H s):X.env.locals<s.heap.objs.size:=let ⟨_,hn,_⟩:=I.loc;hn.lt
theorem Inv.sz (I:Inv X pins σ H s):X.s₀.heap.objs.size<=s.heap.objs.size:=bR I.ok.above (nN I.lt)
theorem Inv.aav (I:Inv X pins σ H s) (h:s.heap.objs.size<=a):a∉X.fs:=λhb=>by
 obtain⟨_,o,ho,_⟩:=I.ok.pK.mem hb;exact absurd (eB (aM ho) (bR I.sz h)) (dE _)
theorem Inv.uu (I:Inv X pins σ H s):∀ x c,X.env.cells.lookup x=some c->c≠X.env.locals:=λx c e z=>by
 obtain⟨v,o,ho,hd⟩:=I.cell x c e;obtain⟨m,⟨o',es,ep,kC,aaw,_⟩,_⟩:=I.loc;rw[z,kC]at ho;cases ho;rw[aaw]at hd;cases hd
theorem Inv.pK (I:Inv X pins σ H s):s.heap.FunFrames X.base X.outer:=by
 have all:∀ (l:List Env),(∀ b∈nh l,b∈X.fs)->X.s₀.heap.FunFrames X.base l->s.heap.FunFrames X.base l:=by
  intro l;induction l with
  |nil=>intro _ _;trivial
  | cons env r ih =>
    intro hs hl;obtain⟨hk,⟨L,o,hf,hn,ho,hd⟩,hr⟩:=hl;have hL:L∈X.fs:=hs L (by unfold nh;rw[k9,hf];exact bZ);obtain⟨sl,e⟩:=I.base.slot L o ho (I.ok.vS L hL) hL λz=>I.ok.ur L z hL;exact⟨hk,⟨L,_,hf,hn,e,hd⟩,ih (λb hb=>hs b (by unfold nh;rw[k9,hf];exact bS _ hb)) hr⟩
 exact all X.outer (λ_ hb=>hb) I.ok.pK
theorem Inv.stack (I:Inv X pins σ H s):s.heap.FunFrames X.base X.stack:=by
 rcases I.ok.zC with e|⟨e,hf⟩
 ·rw[e];exact I.pK
 ·rw[e];obtain⟨m,hn,_⟩:=I.loc;refine .cons (by rw[I.ok.kind];decide) hf hn ?_ I.pK;exact vH (bR I.ok.uq I.ok.above)
theorem Inv.Iv (I:Inv X pins σ H s):∀ b∈nh X.stack,b∈X.env.locals::X.fs:=λb hb=>by
 rcases I.ok.zC with e|⟨e,hf⟩
 ·rw[e]at hb;exact bS _ hb
 ·rw[e]at hb;unfold nh at hb;rw[k9,hf]at hb;exact hb
theorem Inv.Xi (I:Inv X pins σ H s):∀ b∈nh X.stack,H b=none:=λb hb=>by
 rcases aO.mp (I.Iv b hb) with e|hb
 ·rw[e];exact I.free
 ·obtain⟨_,o,ho,_⟩:=I.ok.pK.mem hb;exact I.base.free b o ho (I.ok.vS b hb) λz=>I.ok.ur b z hb
theorem Inv.step {g':Array GenState}{d':Drawn}(I:Inv X pins σ H s)
 (qr:∀ b∈ch,(b∈X.ex \/ X.s₀.heap.objs.size<=b) /\ b≠X.env.locals /\ (∀ x c,X.env.cells.lookup x=some c->c≠b) /\ ∀ p∈X.pn++pins,p.1≠b)
 (keep:∀ b o,b≠X.env.locals->b∉X.fs->b∉ch->s.heap.get? b=some o->H b=none->h'.get? b=some o)
 (slot:∀ b o,b≠X.env.locals->b∈X.fs->b∉ch->s.heap.get? b=some o->H b=none->∃ sl,h'.get? b=some { o with slots:=sl }) (free:∀ b o,b∉ch->s.heap.get? b=some o->H b=none->H' b=none)
 (there:∀ b o,b∉ch->s.heap.get? b=some o->∃ o',h'.get? b=some o')
 (pI:∀ b xs,H b=some (.tup xs)->H' b=some (.tup xs)) (nU:∀ b o u,H b=some (.kB o u)->H' b=some (.kB o u)) (pJ:∀ b ps,H b=some (.uk ps)->∃ more,H' b=some (.uk (ps++more)))
 (ns:∀ m,s.heap.Ns X.env.locals m->h'.Ns X.env.locals m) (ak:bU X.prog X.w H' h') (hg:AllBare g') :
 Inv X pins σ H' { s with heap:=h',gens:=g',drawn:=d',toks:=t' }:=by
 have Xj:∀ b o,X.s₀.heap.get? b=some o->b≠X.env.locals:=λb o e=>bH (eB (aM e) I.ok.above);have hJ:∀ b o,X.s₀.heap.get? b=some o->b∉X.ex->b∉ch:=λb o e hx hb=>by
  rcases(qr b hb).1 with z|z
  ·exact hx z
  ·exact absurd (eB (aM e) z) (dE _)
 have cellK:∀ x c,X.env.cells.lookup x=some c->∀ v,s.heap.IsCell c v->h'.IsCell c v:=λx c e v ⟨o,ho,hd⟩=>by
  have pL:c∉ch:=λz=>(qr c z).2.2.1 x c e rfl;by_cases hc:c∈X.fs
  ·obtain⟨sl,q⟩:=slot c o (I.uu x c e) hc pL ho (I.nV x c e);exact⟨_,q,hd⟩
  ·exact⟨o,keep c o (I.uu x c e) hc pL ho (I.nV x c e),hd⟩
 refine⟨I.ok,I.os,hg,⟨λb o e n hb hx=>?_,λb o e n hb hx=>?_,λb o e n hx=>?_,λb o e hx=>?_,λb xs e=>pI b xs (I.base.pI b xs e),λb o xs e=>nU b o xs (I.base.nU b o xs e),λb ps e=>?_⟩,?_,λx c e=>?_,?_,λx c e=>?_,λp hp=>?_,ak,I.len⟩
 ·exact keep b o (Xj b o e) hb (hJ b o e hx) (I.base.keep b o e n hb hx) (I.base.free b o e n hx)
 ·obtain⟨sl,e1⟩:=I.base.slot b o e n hb hx;obtain⟨aax,e2⟩:=slot b _ (Xj b o e) hb (hJ b o e hx) e1 (I.base.free b o e n hx);exact⟨aax,e2⟩
 ·obtain⟨o',e1⟩:=I.base.there b o e hx;exact free b o' (hJ b o e hx) e1 (I.base.free b o e n hx)
 ·obtain⟨o',e1⟩:=I.base.there b o e hx;exact there b o' (hJ b o e hx) e1
 ·obtain⟨m1,e1⟩:=I.base.pJ b ps e;obtain⟨m2,e2⟩:=pJ b _ e1;exact⟨m1++m2,by rw[e2,Array.append_assoc]⟩
 ·obtain⟨m,hn,hl⟩:=I.loc;refine⟨m,ns m hn,λi x v e1 e2 e3=>?_⟩;obtain⟨u,r,l⟩:=hl i x v e1 e2 e3;refine⟨u,r,?_⟩;rcases l with l|⟨k,c,e,z⟩
  ·exact .inl l
  ·exact .inr ⟨k,c,e,cellK x c e _ z⟩
 ·obtain⟨v,z⟩:=I.cell x c e;exact⟨v,cellK x c e v z⟩
 ·obtain⟨m,⟨o,_,_,ho,_⟩,_⟩:=I.loc;exact free _ o (λz=>(qr _ z).2.1 rfl) ho I.free
 ·obtain⟨v,o,ho,hd⟩:=I.cell x c e;exact free c o (λz=>(qr c z).2.2.1 x c e rfl) ho (I.nV x c e)
 ·obtain⟨e,n,ne,nf,d⟩:=I.pin p hp;have pL:p.1∉ch:=λz=>(qr p.1 z).2.2.2 p hp rfl;exact⟨keep p.1 p.2 ne nf pL e n,free p.1 p.2 pL e n,ne,nf,d⟩
theorem Inv.un (I:Inv X pins σ H s) (u:Un X.fs [] H H' s.heap h') (ak:bU X.prog X.w H' h'):Inv X pins σ H' { s with heap:=h',toks:=t' }:=by
 obtain⟨m,⟨o,es,ep,ho,r⟩,_⟩:=id I.loc;obtain⟨sl,hL⟩:=u.any ho I.free (by simp);exact I.step (g':=s.gens) (d':=s.drawn) (ch:=[]) (λ_ z=>nomatch z) (λb o _ hb _ e n=>u.keep b o e n hb (by simp)) (λb o _ hb _ e n=>u.slot b o e n hb (by simp)) (λb o _ e n=>u.free b o e n (by simp)) (λb o _ e=>u.there b o e (by simp)) u.pI u.nU u.pJ (λm' hm=>by
  obtain⟨o',es',rD,kC,r'⟩:=hm;rw[ho]at kC;cases kC;exact⟨_,es',rD,hL,r'⟩) ak I.bare
theorem Inv.call {g':Array GenState}{d':Drawn}(I:Inv X pins σ H s) (u:Un (nh X.stack) ch H H' s.heap h') (ak:bU X.prog X.w H' h') (hg:AllBare g')
 (qr:∀ b∈ch,(b∈X.ex \/ X.s₀.heap.objs.size<=b) /\ b≠X.env.locals /\ (∀ x c,X.env.cells.lookup x=some c->c≠b) /\ ∀ p∈X.pn++pins,p.1≠b) :
 Inv X pins σ H' { s with heap:=h',gens:=g',drawn:=d',toks:=t' }:=by
 obtain⟨m,⟨o,es,ep,ho,r⟩,_⟩:=id I.loc;obtain⟨sl,hL⟩:=u.any ho I.free λz=>(qr _ z).2.1 rfl;exact I.step (ch:=ch) qr (λb o hL hb hc e n=>u.keep b o e n (λz=>(aO.mp (I.Iv b z)).elim hL hb) hc) (λb o _ _ hc e n=>u.any e n hc) (λb o hc e n=>u.free b o e n hc) (λb o hc e=>u.there b o e hc) u.pI u.nU u.pJ (λm' hm=>by
  obtain⟨o',es',rD,kC,r'⟩:=hm;rw[ho]at kC;cases kC;exact⟨_,es',rD,hL,r'⟩) ak hg
theorem Inv.turned (I:Inv X pins σ H s) (k:∀ b o,b≠it->s.heap.get? b=some o->h'.get? b=some o) (hn:H it=none) (hL:it≠X.env.locals)
 (h1:it∈X.ex \/ X.s₀.heap.objs.size<=it) (h2:∀ x c,X.env.cells.lookup x=some c->c≠it) (h3:∀ p∈X.pn++pins,p.1≠it):Inv X pins σ H { s with heap:=h',toks:=t' }:=by
 have Xk:∀ b u,H b=some u->b≠it:=λb u e z=>by rw[z,hn]at e;cases e
 refine I.step (g':=s.gens) (d':=s.drawn) (ch:=[it]) (λb hb=>?_) (λb o _ _ hc e _=>k b o (λz=>hc (by simp[z])) e) (λb o _ _ hc e _=>⟨o.slots,k b o (λz=>hc (by simp[z])) e⟩) (λ_ _ _ _ n=>n)
  (λb o hc e=>⟨o,k b o (λz=>hc (by simp[z])) e⟩) (λ_ _ e=>e) (λ_ _ _ e=>e) (λb ps e=>⟨#[],by rw[e];simp⟩) (λm hm=>?_) (λb u e=>?_) I.bare
 ·have e:b=it:=by simpa using hb
  subst e;exact⟨h1,hL,h2,h3⟩
 ·obtain⟨o,es,ep,ho,r⟩:=hm;exact⟨o,es,ep,k _ o (Ne.symm hL) ho,r⟩
 ·refine(I.ak b u e).hG (λc v hc q=>k c v ?_ q) (λ_ q=>q) λ_ _ q=>q;rcases hc with z|z
  ·rw[z];exact Xk b u e
  ·exact Xk c _ z
theorem Inv.tok (I:Inv X pins σ H s) (t:Nat):Inv X pins σ H { s with toks:=t }:=I.un (h':=s.heap) (t':=t) Un.refl I.ak
theorem Inv.kept {t':Nat}(I:Inv X pins σ H s) (k:∀ b u,s.heap.get? b=some u->h'.get? b=some u):Inv X pins σ H { s with heap:=h',toks:=t' }:=I.un (Un.kept k) (I.ak.kept k)
theorem Inv.laid {a:Addr}{o:HO}{t':Nat}(I:Inv X pins σ H s) (k:∀ b u,s.heap.get? b=some u->h'.get? b=some u) (hp:s.heap.objs.size<=a) (new:bE X.prog X.w (upd H a o) h' a o) :
 Inv X pins σ (upd H a o) { s with heap:=h',toks:=t' }:=I.un (Un.laid k hp (I.ak.fresh hp)) (I.ak.laid k hp new)
theorem Inv.write {x e:Addr}{o:HO}{t':Nat}(I:Inv X pins σ H s) (mu:xr (H x)) (he:e=x \/ H e=some (.own x)) (k:∀ b u,b≠e->s.heap.get? b=some u->h'.get? b=some u) (vQ:∃ u,h'.get? e=some u)
 (new:bE X.prog X.w (upd H x o) h' x o):Inv X pins σ (upd H x o) { s with heap:=h',toks:=t' }:=I.un (Un.write mu he k vQ) (I.ak.write mu he k vQ new)
theorem Inv.zD {Xl:List (Addr×Obj)}(I:Inv X pins σ H s) (h:∀ p∈Xl,s.heap.get? p.1=some p.2 /\ H p.1=none /\ p.1≠X.env.locals /\ p.1∉X.fs /\ ∀ v,p.2.data≠.cell v):Inv X Xl σ H s :=
 ⟨I.ok,I.os,I.bare,I.base,I.loc,I.cell,I.free,I.nV,λp hp=>(bN.mp hp).elim (λz=>I.pin p (cU _ z)) (h p),I.ak,I.len⟩
theorem Cb (hN:N.Nodup) (a:N[i]?=some x) (b:N[j]?=some x):i=j:=by
 obtain⟨h1,e1⟩:=List.getElem?_eq_some_iff.mp a;obtain⟨h2,e2⟩:=List.getElem?_eq_some_iff.mp b;exact(List.getElem_inj hN).mp (e1.trans e2.symm)
theorem A3 {Q:Unit->Shared->Prop}(I:Inv X pins σ H s) (hN:X.N.Nodup) (hi:X.N[i]?=some x) (hx:Loc X.env.scope x) (r:RelV v u)
 (h:∀ s',Inv X pins (σ.set i (some v)) H s'->(∃ a,Heap.SameBut a s.heap s'.heap /\ (a=X.env.locals \/ X.env.cells.lookup x=some a))->Q () s') (hf:X.fn x=true \/ X.env.scope.names.lookup x=some .local):wpAny M A (storeName X.env x u) Q E s:=by
 obtain⟨m,hn,hl⟩:=id I.loc;have aay:(X.env.scope.kind==.class||(X.env.scope.kind==.module&&X.env.locals != X.env.globals))=false:=by rw[I.ok.kind];rfl
 have Xm:i<σ.length:=by rw[I.len];exact(List.getElem?_eq_some_iff.mp hi).1
 have uu:=I.uu;have tracked:∀ {a:Addr}{h':Heap},(∃ o,s.heap.get? a=some o /\ H a=none)->Heap.SameBut a s.heap h'->bU X.prog X.w H h':=λ{a h'} ha hs b ob e=>by
  obtain⟨_,_,Xn⟩:=ha;refine(I.ak b ob e).hG (λc w' hc q=>(hs.2 c ?_).trans q) (λ_ q=>q) λ_ _ q=>q;rintro rfl;rcases hc with rfl|hc
  ·rw[Xn]at e;cases e
  ·rw[Xn]at hc;cases hc
 rcases hx with hk|hk
 ·refine wpAny_storeName_local hk hn (λh' aaz hs=>?_) aay;obtain⟨oL,_,_,zE,_⟩:=id hn;refine h _ ⟨I.ok,I.os,I.bare,⟨λb o e n hb hx=>?_,λb o e n hb hx=>?_,I.base.free,λb o e hx=>?_,I.base.pI,I.base.nU,I.base.pJ⟩,⟨_,aaz,λj y v' e1 e2 e3=>?_⟩,λy c e=>?_,I.free,I.nV,λp hp=>?_,tracked ⟨oL,zE,I.free⟩ hs,by simpa using I.len⟩ ⟨_,hs,.inl rfl⟩
  ·exact(hs.2 b (bH (eB (aM e) I.ok.above))).trans (I.base.keep b o e n hb hx)
  ·obtain⟨sl,e1⟩:=I.base.slot b o e n hb hx;exact⟨sl,(hs.2 b (bH (eB (aM e) I.ok.above))).trans e1⟩
  ·obtain⟨o',e1⟩:=I.base.there b o e hx;exact⟨o',(hs.2 b (bH (eB (aM e) I.ok.above))).trans e1⟩
  ·by_cases hj:j=i
   ·subst hj;rw[hi]at e1;cases e1;rw[qi Xm]at e2;cases e2;exact⟨u,r,.inl ⟨hk,by simp⟩⟩
   ·rw[pC (Ne.symm hj)]at e2;obtain⟨u',r',q⟩:=hl j y v' e1 e2 e3;refine⟨u',r',?_⟩;rcases q with⟨k,e⟩|⟨k,c,e,z⟩
    ·refine .inl ⟨k,?_⟩;have:y≠x:=λe=>hj (Cb hN e1 (e▸hi));simp[this,e]
    ·exact .inr ⟨k,c,e,z.sameBut hs (uu y c e)⟩
  ·obtain⟨w',z⟩:=I.cell y c e;exact⟨w',z.sameBut hs (uu y c e)⟩
  ·obtain⟨e,n,ne,nf,d⟩:=I.pin p hp;exact⟨(hs.2 p.1 ne).trans e,n,ne,nf,d⟩
 ·have Iw:X.fn x=true:=by
   rcases hf with z|z
   ·exact z
   ·rw[z]at hk;cases hk
  obtain⟨c,hc⟩:=I.ok.has x (.inl hk);obtain⟨w',z⟩:=I.cell x c hc;refine wpAny_storeName_cell I.ok.kind hk hc z (λh' Xo hs=>?_);obtain⟨oc,Xp,aaA⟩:=id z;refine h { s with heap:=h' } ⟨I.ok,I.os,I.bare,⟨λb o e n hb hx=>?_,λb o e n hb hx=>?_,I.base.free,λb o e hx=>?_,I.base.pI,I.base.nU,I.base.pJ⟩,⟨m,hn.sameBut hs (Ne.symm (uu x c hc)),λj y v' e1 e2 e3=>?_⟩,λy c' e=>?_,I.free,I.nV,λp hp=>?_,tracked ⟨oc,Xp,I.nV x c hc⟩ hs,by simpa using I.len⟩ ⟨c,hs,.inr hc⟩
  ·exact(hs.2 b (bH (eB (aM e) (I.ok.xt x c Iw hc)))).trans (I.base.keep b o e n hb hx)
  ·obtain⟨sl,e1⟩:=I.base.slot b o e n hb hx;exact⟨sl,(hs.2 b (bH (eB (aM e) (I.ok.xt x c Iw hc)))).trans e1⟩
  ·obtain⟨o',e1⟩:=I.base.there b o e hx;exact⟨o',(hs.2 b (bH (eB (aM e) (I.ok.xt x c Iw hc)))).trans e1⟩
  ·by_cases hj:j=i
   ·subst hj;rw[hi]at e1;cases e1;rw[qi Xm]at e2;cases e2;exact⟨u,r,.inr ⟨.inl hk,c,hc,Xo⟩⟩
   ·rw[pC (Ne.symm hj)]at e2;obtain⟨u',r',q⟩:=hl j y v' e1 e2 e3;refine⟨u',r',?_⟩;rcases q with q|⟨k,c',e,z'⟩
    ·exact .inl q
    ·refine .inr ⟨k,c',e,z'.sameBut hs ?_⟩;rintro rfl;exact hj (Cb hN e1 (I.ok.inj _ _ _ e hc▸hi))
  ·by_cases bz:c'=c
   ·subst bz;exact⟨_,Xo⟩
   ·obtain⟨w2,z2⟩:=I.cell y c' e;exact⟨w2,z2.sameBut hs bz⟩
  ·obtain⟨e,n,ne,nf,d⟩:=I.pin p hp;refine⟨(hs.2 p.1 ?_).trans e,n,ne,nf,d⟩;intro q;rw[q,Xp]at e;have q':oc=p.2:=Option.some.inj e;exact d w' (by rw[<-q'];exact aaA)
theorem mB {Q:Unit->Shared->Prop}(I:Inv X pins σ H s) (hN:X.N.Nodup) (hi:X.N[i]?=some x) (hx:Loc X.env.scope x) (r:RelV v u)
 (h:∀ s',Inv X pins (σ.set i (some v)) H s'->Q () s') (hf:X.fn x=true \/ X.env.scope.names.lookup x=some .local):wpAny M A (storeName X.env x u) Q E s :=
 A3 I hN hi hx r (λs' I' _=>h s' I') hf
theorem Inv.Iy {s':Shared}(I:Inv X pins σ H s) (ho:s'.os=s.os) (u:Un (nh X.stack) ch H H' s.heap s'.heap) (ak:bU X.prog X.w H' s'.heap) (hg:AllBare s'.gens)
 (qr:∀ b∈ch,(b∈X.ex \/ X.s₀.heap.objs.size<=b) /\ b≠X.env.locals /\ (∀ x c,X.env.cells.lookup x=some c->c≠b) /\ ∀ p∈X.pn++pins,p.1≠b):Inv X pins σ H' s':=by
 obtain⟨h',g',d',t',o'⟩:=s';have e:o'=s.os:=ho;subst e;exact I.call (g':=g') (t':=t') (d':=d') u ak hg qr
end
abbrev XK:=Value->Option Addr->Hp->Prop
noncomputable abbrev St:=List (Option V)
abbrev VK:=V->Hp->Prop
abbrev TE:=St->Hp->VK->Prop
abbrev TT:=St->Hp->(Bool->Hp->Prop)->Prop
abbrev TA:=St->Hp->(List V->Hp->Prop)->Prop
structure Ends where
 nx:St->Hp->Prop
 rt:VK
 bk:St->Hp->Prop:=λ_ _=>False
 ct:St->Hp->Prop:=λ_ _=>False
abbrev TS:=Ends->St->Hp->Prop
def EP (X:Cx) (pins:List (Addr×Obj)) (σ:St) (Q:VK) (u:Value) (s':Shared):Prop:=∃ v H',Inv X pins σ H' s' /\ RelV v u /\ Q v H'
def TP (X:Cx) (pins:List (Addr×Obj)) (σ:St) (Q:Bool->Hp->Prop) (b:Bool) (s':Shared):Prop:=∃ H',Inv X pins σ H' s' /\ Q b H'
def AP (X:Cx) (pins:List (Addr×Obj)) (σ:St) (Q:List V->Hp->Prop) (us:List Value) (s':Shared):Prop:=∃ vs H',Inv X pins σ H' s' /\ Vals vs us /\ Q vs H'
def SP (X:Cx) (pins:List (Addr×Obj)) (D:Ends) (f:Flow) (s':Shared):Prop :=
 match f with
 |.next=>∃ σ' H',Inv X pins σ' H' s' /\ D.nx σ' H'
 |.brk=>∃ σ' H',Inv X pins σ' H' s' /\ D.bk σ' H'
 |.cont=>∃ σ' H',Inv X pins σ' H' s' /\ D.ct σ' H'
 |.ret u=>∃ v σ' H',Inv X pins σ' H' s' /\ RelV v u /\ D.rt v H'
def PE (X:Cx) (e:Expr) (t:TE):Prop :=
 ∀ (pins:List (Addr×Obj)) (s:Shared) (σ:St) (H:Hp) (Q:VK),Inv X pins σ H s->t σ H Q->wpAny (model X.prog X.w) X.A (eval e X.env) (EP X pins σ Q) X.xe s
def PT (X:Cx) (e:Expr) (t:TT):Prop :=
 ∀ (pins:List (Addr×Obj)) (s:Shared) (σ:St) (H:Hp) (Q:Bool->Hp->Prop),Inv X pins σ H s->t σ H Q->wpAny (model X.prog X.w) X.A (isTrue e X.env (eval e X.env)) (TP X pins σ Q) X.xe s
def PW (X:Cx) (e:Expr) (t:TT):Prop :=
 ∀ (whole:Sem Value) (pins:List (Addr×Obj)) (s:Shared) (σ:St) (H:Hp) (Q:Bool->Hp->Prop),Inv X pins σ H s->t σ H Q->wpAny (model X.prog X.w) X.A (isTrue e X.env whole) (TP X pins σ Q) X.xe s
theorem PW.pt {X:Cx}{t:TT}(h:PW X e t):PT X e t:=h _
def PA (X:Cx) (es:List Expr) (t:TA):Prop :=
 ∀ (pos:Pos) (pins:List (Addr×Obj)) (s:Shared) (σ:St) (H:Hp) (Q:List V->Hp->Prop),Inv X pins σ H s->t σ H Q->wpAny (model X.prog X.w) X.A (spliced (backTo pos (starEach es X.env))) (AP X pins σ Q) X.xe s
def PS (X:Cx) (st:Stmt) (t:TS):Prop :=
 ∀ (pins:List (Addr×Obj)) (s:Shared) (σ:St) (H:Hp) (D:Ends),Inv X pins σ H s->t D σ H->wpAny (model X.prog X.w) X.A (exec st X.env) (SP X pins D) X.xe s
def dU (X:Cx) (st:List Stmt) (t:TS):Prop :=
 ∀ (pins:List (Addr×Obj)) (s:Shared) (σ:St) (H:Hp) (D:Ends),Inv X pins σ H s->t D σ H->wpAny (model X.prog X.w) X.A (execs st X.env) (SP X pins D) X.xe s
theorem ai {t:Sem α}{Q Q':α->Shared->Prop}(h:wpAny M A t Q E s) (hQ:∀ a s,Q a s->Q' a s):wpAny M A t Q' E s:=cM h hQ λ_ _ x=>x
end L2
variable {X : L2.Cx}{σ : L2.St}{q : List L2.V -> L2.Hp -> L2.VK -> Prop}
namespace L2
section
def aaB (i:Nat):TE:=λσ H Q=>∃ v,σ[i]?=some (some v) /\ Q v H
def tC (v:V):TE:=λ_ H Q=>Q v H
theorem JM (hN:X.N[i]?=some x) (hv:vR X.env.scope x) (hd:(x==("__debug__":Str))=false) (nj:(x==("__classdict__":Str))=false):PE X (.Name x pos) (aaB i):=by
 intro pins s σ H Q I h;obtain⟨v,e,h⟩:=h;obtain⟨m,hn,hl⟩:=I.loc;obtain⟨u,r,l⟩:=hl i x v hN e hv;have fin:EP X pins σ Q u s:=⟨v,H,I,r,h⟩;rcases l with⟨hk,hm⟩|⟨hk,c,hc,zF⟩
 ·exact E9 (wpAny_loadName_local I.ok.kind hk hn hm fin) hd
 ·rcases hk with hk|hk
  ·exact E9 (wpAny_loadName_cell I.ok.kind hk hc zF fin) hd
  ·exact E9 (wpAny_loadName_free I.ok.kind hk hc zF fin nj) hd
theorem JN {i j pos}:PE X (.Constant (.int i) j pos) (tC (.int i)):=λ_ _ _ H _ I h=>wpAny_Constant_int ⟨.int i,H,I.tok _,⟨_,rfl⟩,h⟩
theorem Tz {b j pos}:PE X (.Constant (.bool b) j pos) (tC (.bl b)):=λ_ _ _ H _ I h=>Constant_bool ⟨.bl b,H,I,rfl,h⟩
theorem P7 {j pos}:PE X (.Constant .none j pos) (tC .non):=λ_ _ _ H _ I h=>Constant_none ⟨.non,H,I,rfl,h⟩
theorem P8 {x j pos}:PE X (.Constant (.str x) j pos) (tC (.str x)):=λ_ _ _ H _ I h=>Calls.Constant_str ⟨.str x,H,I.tok _,⟨_,rfl⟩,h⟩
def Gl (X:Cx) (x:Str):Prop:=X.env.kindOf x=some .globalImplicit
theorem Fl (I:Inv X pins σ H s) (hg:Gl X x) (hm:X.mg x=some u) (h:Q u s)
 (hd:(x==("__debug__":Str))=false):wpAny (model X.prog X.w) X.A (eval (.Name x pos) X.env) Q E s :=
 Calls.Name_function_global I.ok.kind hg (Calls.loadGlobal_global (by rw[I.ok.glob];exact I.mod.glob.keeps I.bk) hm h) hd
theorem gJ (I:Inv X pins σ H s) (hg:Gl X x) (hm:X.mg x=none) (hv:bootBuiltins x=some u) (h:Q u s)
 (hn:x ≠ "__name__":=by decide) (hd:(x==("__debug__":Str))=false:=by decide):wpAny (model X.prog X.w) X.A (eval (.Name x pos) X.env) Q E s:=by
 obtain⟨mb,h1,h2⟩:=I.mod.blt;exact Calls.Name_function_global I.ok.kind hg (Calls.loadGlobal_builtin (by rw[I.ok.glob];exact I.mod.glob.keeps I.bk) hm (by rw[I.ok.blt];exact h1.keeps I.bk) ((h2 x hn).trans hv) h) hd
theorem Nh (hg:Gl X x) (hm:X.mg x=some u) (r:RelV v u) (hd:(x==("__debug__":Str))=false):PE X (.Name x pos) (tC v):=
 λ_ _ _ H _ I h=>Fl I hg hm ⟨v,H,I,r,h⟩ hd
theorem Ni (hg:Gl X x) (hm:X.mg x=none) (hv:bootBuiltins x=some u) (r:RelV v u) (hn:x ≠ "__name__") (hd:(x==("__debug__":Str))=false):PE X (.Name x pos) (tC v):=
 λ_ _ _ H _ I h=>gJ I hg hm hv ⟨v,H,I,r,h⟩ hn hd
variable {a b : Expr} {ta tb : TE} 
def PC (X:Cx) (op:CmpOp) (a b:Expr) (t:TE):Prop :=
 ∀ (pins:List (Addr×Obj)) (s:Shared) (σ:St) (H:Hp) (Q:VK),Inv X pins σ H s->t σ H Q ->
  wpAny (model X.prog X.w) X.A (eval a X.env) (λv s₁=>wpAny (model X.prog X.w) X.A (eval b X.env) (λu s₂=>wpAny (model X.prog X.w) X.A (compareOp op v u) (EP X pins σ Q) X.xe s₂) X.xe s₁) X.xe s
theorem aaC (b:Expr) (h:op≠.In) (h2:op≠.NotIn):behindInMarks op b=false:=by
 have e1:(op==CmpOp.In)=false:=by cases op<;>first|rfl|exact absurd rfl h
 have e2:(op==CmpOp.NotIn)=false:=by cases op<;>first|rfl|exact absurd rfl h2
 cases b<;>simp[behindInMarks,e1,e2]
def Xq (ta:TE):TE:=λσ H Q=>ta σ H λx H1=>Q (.bl (decide (x=.non))) H1
theorem RelV.aaD {x:V}{v:Value}(r:RelV x v):(v==Value.none)=decide (x=.non):=by
 cases x with
 |non=>cases r;rfl
 |bl _=>cases r;rfl
 |int _=>obtain⟨t,rfl⟩:=r;rfl
 |str _=>obtain⟨t,rfl⟩:=r;rfl
 |kA _=>obtain⟨t,rfl⟩:=r;rfl
 |sL _=>obtain⟨t,rfl⟩:=r;rfl
 |ref _=>cases r;rfl
 |ty _=>cases r;rfl
theorem JO {j pos'}(ha:PE X a ta):PC X .Is a (.Constant .none j pos') (Xq ta):=by
 intro pins s σ H Q I h;refine ai (ha pins s σ H _ I h) λv s1 ⟨x,H1,I1,r1,q1⟩=>?_;exact Constant_none (is_none_gen ⟨.bl _,H1,I1,by rw[r1.aaD];rfl,q1⟩)
noncomputable def tB (t:TE):TT:=λσ H Q=>t σ H λx H1=>∃ c,x=.bl c /\ Q c H1
theorem Do {t:TE}(h:PC X op a b t) (h1:behindInMarks op b=false:=by first|exact aaC _ (by decide) (by decide)|rfl):PE X (.Compare a [op] [b] pos) t:=λpins s σ H Q I hw=>Vj (h pins s σ H Q I hw) h1
theorem Dp {t:TE}(h:PC X op a b t) (h1:behindInMarks op b=false):PT X (.Compare a [op] [b] pos) (tB t):=by
 intro pins s σ H Q I hw;refine Vk (ai (h pins s σ H _ I hw) λv s1 h1=>ai h1 λu s2 h2=>ai h2 λc s3 ⟨x,H1,I1,r1,q1⟩=>?_) h1;obtain⟨d,rfl,q⟩:=q1;cases r1;exact nM ⟨H1,I1,q⟩
theorem P9 {t:TE}(h:PE X e t) (he:∀ whole,isTrue e X.env whole=(do let v <-whole;standAt e.pos;holding [v] (truthy v))):PT X e (tB t):=by
 intro pins s σ H Q I hw;refine Wq (ai (h pins s σ H _ I hw) λv s1 ⟨x,H1,I1,r1,q1⟩=>?_) (he _);obtain⟨d,rfl,q⟩:=q1;cases r1;exact nM ⟨H1,I1,q⟩
variable {tA zG : TT} {rest : List Expr}
noncomputable def aaE (t u:TT):TT:=λσ H Q=>t σ H λc H1=>if c=true then u σ H1 Q else Q false H1
noncomputable def aaF (t u:TT):TT:=λσ H Q=>t σ H λc H1=>if c=true then Q true H1 else u σ H1 Q
noncomputable def aaG (t:TT):TT:=λσ H Q=>t σ H λc H1=>Q (!c) H1
theorem Nj (ha:PT X a tA):PW X (.BoolOp .And [a] pos) tA:=by
 intro wh pins s σ H Q I h;refine isTrue_and (ai (ha pins s σ H Q I h) λc s1 e=>?_);cases c with
 |true=>exact isTrue_and_nil e
 |false=>exact e
theorem Ra (ha:PT X a tA):PW X (.BoolOp .Or [a] pos) tA:=by
 intro wh pins s σ H Q I h;refine isTrue_or (ai (ha pins s σ H Q I h) λc s1 e=>?_);cases c with
 |false=>exact isTrue_or_nil e
 |true=>exact e
theorem Rb (ha:PT X a tA) (hb:PW X (.BoolOp .And (b::rest) pos) zG):PW X (.BoolOp .And (a::b::rest) pos) (aaE tA zG):=by
 intro wh pins s σ H Q I h;refine isTrue_and (ai (ha pins s σ H _ I h) λc s1 ⟨H1,I1,q1⟩=>?_);cases c with
 |true=>exact hb wh pins s1 σ H1 Q I1 q1
 |false=>exact⟨H1,I1,q1⟩
theorem TB (ha:PT X a tA) (hb:PW X (.BoolOp .Or (b::rest) pos) zG):PW X (.BoolOp .Or (a::b::rest) pos) (aaF tA zG):=by
 intro wh pins s σ H Q I h;refine isTrue_or (ai (ha pins s σ H _ I h) λc s1 ⟨H1,I1,q1⟩=>?_);cases c with
 |true=>exact⟨H1,I1,q1⟩
 |false=>exact hb wh pins s1 σ H1 Q I1 q1
theorem Rc (ha:PT X a tA):PT X (.UnaryOp .Not a pos) (aaG tA):=by
 intro pins s σ H Q I h;exact isTrue_not (ha pins s σ H (λc H1=>Q (!c) H1) I h)
def aaH (ta tb:TE):TE:=λσ H Q=>ta σ H λx H1=>∃ c,x=.bl c /\ if c=true then tb σ H1 Q else Q (.bl false) H1
def aaI (ta:TE):TE:=λσ H Q=>ta σ H λx H1=>∃ c,x=.bl c /\ Q (.bl (!c)) H1
theorem Re {op}{t:TE}(h:PE X a t):PE X (.BoolOp op [a] pos) t:=λpins s σ H Q I hw=>BoolOp_one (h pins s σ H Q I hw)
theorem Rf (ha:PE X a ta) (hb:PE X (.BoolOp .And (b::rest) pos) tb):PE X (.BoolOp .And (a::b::rest) pos) (aaH ta tb):=by
 intro pins s σ H Q I h;refine BoolOp_and (ai (ha pins s σ H _ I h) λv s1 ⟨x,H1,I1,r1,q1⟩=>?_);obtain⟨c,rfl,q1⟩:=q1;cases r1;refine nM ?_;cases c with
 |true=>exact hb pins s1 σ H1 Q I1 q1
 |false=>exact⟨.bl false,H1,I1,rfl,q1⟩
theorem Rg (ha:PE X a ta):PE X (.UnaryOp .Not a pos) (aaI ta):=by
 intro pins s σ H Q I h;refine UnaryOp_ (ai (ha pins s σ H _ I h) λv s1 ⟨x,H1,I1,r1,q1⟩=>?_);obtain⟨c,rfl,q1⟩:=q1;cases r1;exact not_of (nM ⟨.bl (!c),H1,I1,rfl,q1⟩)
def aaJ (t:TT) (ta tb:TE):TE:=λσ H Q=>t σ H λc H1=>if c=true then ta σ H1 Q else tb σ H1 Q
theorem JP (hc:PT X c tA) (ha:PE X a ta) (hb:PE X b tb):PE X (.IfExp c a b pos) (aaJ tA ta tb):=by
 intro pins s σ H Q I h;refine wpAny_IfExp (ai (hc pins s σ H _ I h) λd s1 ⟨H1,I1,q1⟩=>?_);cases d with
 |true=>exact ha pins s1 σ H1 Q I1 q1
 |false=>exact hb pins s1 σ H1 Q I1 q1
end
def aS (K:PySem.W.Frag) (H:Hp) (a:Addr) (xs:List V):Prop :=
 Rd H a (.lst xs) \/
  ∃ (o:Obj) (its:Array Value) (n:Nat),K.lookup a=some o /\ o.cls=.type "list" /\ o.dict=none /\ o.data=.seq its n /\ its.size<=sizeLine /\ Vals xs its.toList
def aV (K:PySem.W.Frag) (H:Hp) (a:Addr) (xs:List V):Prop :=
 Rd H a (.tup xs) \/
  ∃ (o:Obj) (its:Array Value) (n:Nat),K.lookup a=some o /\ o.cls=.type "tuple" /\ o.data=.seq its n /\ its.size<=sizeLine /\ Vals xs its.toList
noncomputable def aaK:Value->Option V
 |.none=>some .non
 |.bool b=>some (.bl b)
 |.int i _=>some (.int i)
 |.str x _=>some (.str x)
 |.bytes b _=>some (.kA b)
 |.float b _=>some (.sL b)
 |.ref a=>some (.ref a)
 |.type n=>some (.ty n)
 |_=>none
theorem RelV.abs {x:V}(r:RelV x u):aaK u=some x:=by
 cases x with
 |non=>cases r;rfl
 |bl _=>cases r;rfl
 |int _=>obtain⟨t,rfl⟩:=r;rfl
 |str _=>obtain⟨t,rfl⟩:=r;rfl
 |kA _=>obtain⟨t,rfl⟩:=r;rfl
 |sL _=>obtain⟨t,rfl⟩:=r;rfl
 |ref _=>cases r;rfl
 |ty _=>cases r;rfl
theorem RelV.inj {x y:V}{u:Value}(r:RelV x u) (q:RelV y u):x=y:=Option.some.inj (r.abs.symm.trans q.abs)
theorem Vals.inj:∀ {xs ys:List V}{us:List Value},Vals xs us->Vals ys us->xs=ys
 |_,_,_,.nil,.nil=>rfl
 |_,_,_,.cons r t,.cons r' t'=>by rw[r.inj r',Vals.inj t t']
section
variable {xs ys : List V}
theorem aS.of (h:H a=some (.lst xs)):aS K H a xs:=.inl (.inl h)
theorem aV.of (h:H a=some (.tup xs)):aV K H a xs:=.inl (.inl h)
theorem Inv.list (I:Inv X pins σ H s) (h:aS X.K H a xs):∃ its:List Value,Vals xs its /\ PlainL s.heap a its.toArray /\ xs.length<=sizeLine:=by
 rcases h with h|⟨o,its,n,hk,hc,hd,hs,hz,r⟩
 ·obtain⟨z,its,n,r,e⟩:=h.ok I.ak;exact⟨its,r,⟨_,n,e,rfl,rfl,rfl⟩,z⟩
 ·refine⟨its.toList,r,⟨o,n,I.dF a o hk,hc,hd,by simpa using hs⟩,?_⟩;have e:=r.length;simp only[kz]at e;omega
theorem Inv.tuple (I:Inv X pins σ H s) (h:aV X.K H a xs):∃ its:List Value,Vals xs its /\ IsTup s.heap a its.toArray /\ xs.length<=sizeLine:=by
 rcases h with h|⟨o,its,n,hk,hc,hs,hz,r⟩
 ·obtain⟨z,its,r,p⟩:=h.ok I.ak;exact⟨its,r,p,z⟩
 ·refine⟨its.toList,r,⟨o,I.dF a o hk,hc,n,by simpa using hs⟩,?_⟩;have e:=r.length;simp only[kz]at e;omega
theorem Inv.Xr (I:Inv X pins σ H s) (h:aS X.K H a xs) (h':aS X.K H a ys):xs=ys:=by
 obtain⟨its,r,⟨o,n,e,_,_,d⟩,_⟩:=I.list h;obtain⟨its',r',⟨o',n',e',_,_,d'⟩,_⟩:=I.list h';rw[e]at e';cases e';rw[d]at d';injection d' with d1 _;have:its=its':=by simpa using congrArg Array.toList d1
 subst this;exact r.inj r'
theorem Inv.Iz (I:Inv X pins σ H s) (h:aV X.K H a xs) (h':aV X.K H a ys):xs=ys:=by
 obtain⟨its,r,⟨o,e,_,n,d⟩,_⟩:=I.tuple h;obtain⟨its',r',⟨o',e',_,n',d'⟩,_⟩:=I.tuple h';rw[e]at e';cases e';rw[d]at d';injection d' with d1 _;have:its=its':=by simpa using congrArg Array.toList d1
 subst this;exact r.inj r'
end
noncomputable abbrev Cx.qt (X:Cx) (E:Value->Shared->Prop):Cx:={ X with xe:=E }
abbrev Cx.vT (X:Cx):Cx:=X.qt λ_ _=>False
theorem Cx.Ok.qt {X:Cx}(ok:X.Ok) (E:Value->Shared->Prop):(X.qt E).Ok :=
 ⟨ok.mod,ok.kind,ok.glob,ok.blt,ok.above,ok.inj,ok.has,ok.xt,ok.hd,ok.frames,ok.zC,ok.sM,ok.bs,ok.uq,ok.xu,ok.ur,ok.pK,ok.vS⟩
theorem Cx.Ok.sN (ok:(X.qt E).Ok):X.Ok :=
 ⟨ok.mod,ok.kind,ok.glob,ok.blt,ok.above,ok.inj,ok.has,ok.xt,ok.hd,ok.frames,ok.zC,ok.sM,ok.bs,ok.uq,ok.xu,ok.ur,ok.pK,ok.vS⟩
theorem Inv.qt (I:Inv X pins σ H s) (E:Value->Shared->Prop):Inv (X.qt E) pins σ H s:=⟨I.ok.qt E,I.os,I.bare,I.base,I.loc,I.cell,I.free,I.nV,I.pin,I.ak,I.len⟩
theorem Inv.sN (I:Inv (X.qt E) pins σ H s):Inv X pins σ H s:=⟨I.ok.sN,I.os,I.bare,I.base,I.loc,I.cell,I.free,I.nV,I.pin,I.ak,I.len⟩
theorem SP.sN {D:Ends}{f:Flow}{s':Shared}(h:SP (X.qt E) pins D f s'):SP X pins D f s':=by
 cases f with
 |next=>obtain⟨σ',H',I,q⟩:=h;exact⟨σ',H',I.sN,q⟩
 |brk=>obtain⟨σ',H',I,q⟩:=h;exact⟨σ',H',I.sN,q⟩
 |cont=>obtain⟨σ',H',I,q⟩:=h;exact⟨σ',H',I.sN,q⟩
 |ret u=>obtain⟨v,σ',H',I,r,q⟩:=h;exact⟨v,σ',H',I.sN,r,q⟩
theorem dU.vT {st:List Stmt}{t:TS}(h:dU X.vT st t):dU X st t:=λpins s σ H D I hw =>
 cM (h pins s σ H D (I.qt _) hw) (λ_ _ q=>q.sN) λ_ _ z=>False.elim z
section
variable {rest : List Stmt} {t u : TS} {te : TE} 
def Xt:TS:=λD σ H=>D.nx σ H
def aaL (t u:TS):TS:=λD σ H=>t { D with nx:=u D } σ H
theorem Nk:dU X [] Xt:=λ_ _ σ H _ I h=>yR ⟨σ,H,I,h⟩
theorem JQ (h1:PS X st t) (h2:dU X rest u):dU X (st::rest) (aaL t u):=by
 intro pins s σ H D I h;refine Vl (ai (h1 pins s σ H { D with nx:=u D } I h) λf s1 q=>?_);cases f with
 | next =>
   obtain⟨σ',H',I',q⟩:=q;exact h2 pins s1 σ' H' D I' q
 |ret v=>exact q
 |brk=>exact q
 |cont=>exact q
theorem Nl (h1:PS X st t):dU X [st] t:=by
 intro pins s σ H D I h;refine Vl (ai (h1 pins s σ H D I h) λf s1 q=>?_);cases f with
 |next=>exact yR q
 |ret v=>exact q
 |brk=>exact q
 |cont=>exact q
theorem Nn:PS X (.Pass pos) Xt:=λ_ _ σ H _ I h=>wpAny_Pass ⟨σ,H,I,h⟩
theorem Inv.quiet (I:Inv X pins σ H s):interactive X.env=false:=by simp[interactive,I.ok.kind]
def aaM (te:TE):TS:=λD σ H=>te σ H λ_ H1=>D.nx σ H1
theorem No (he:PE X e te) (hs:swapsWith e none pos.line X.env=pure false):PS X (.Expr e pos) (aaM te):=by
 intro pins s σ H D I h;exact wpAny_Expr_any (ai (he pins s σ H _ I h) λv s1 ⟨x,H1,I1,r1,q1⟩=>⟨σ,H1,I1,q1⟩) I.quiet hs
def aaN (te:TE):TS:=λD σ H=>te σ H D.rt
theorem Rh (he:PE X e te):PS X (.Return (some e) pos) (aaN te):=by
 intro pins s σ H D I h;exact wpAny_Return_some (ai (he pins s σ H _ I h) λv s1 ⟨x,H1,I1,r1,q1⟩=>⟨x,σ,H1,I1,r1,q1⟩)
def aaO (c:TT) (t u:TS):TS:=λD σ H=>c σ H λb H1=>if b=true then t D σ H1 else u D σ H1
theorem TC {a b:List Stmt}{tc:TT}(hc:PT X c tc) (ha:dU X a t) (hb:dU X b u):PS X (.If c a b pos) (aaO tc t u):=by
 intro pins s σ H D I h;refine wpAny_If (ai (hc pins s σ H _ I h) λd s1 ⟨H1,I1,q1⟩=>?_);cases d with
 |true=>exact ha pins s1 σ H1 D I1 q1
 |false=>exact hb pins s1 σ H1 D I1 q1
end
abbrev TG:=V->St->Hp->(St->Hp->Prop)->Prop
abbrev rE:=List V->St->Hp->(St->Hp->Prop)->Prop
def PG (X:Cx) (target:Expr) (t:TG):Prop :=
 ∀ (pins:List (Addr×Obj)) (s:Shared) (σ:St) (H:Hp) (v:V) (u:Value) (Q:St->Hp->Prop),Inv X pins σ H s->RelV v u->t v σ H Q ->
  wpAny (model X.prog X.w) X.A (assign target X.env u) (λ_ s'=>∃ σ' H',Inv X pins σ' H' s' /\ Q σ' H') X.xe s
def qu (X:Cx) (ts:List Expr) (t:rE):Prop :=
 ∀ (pins:List (Addr×Obj)) (s:Shared) (σ:St) (H:Hp) (vs:List V) (us:List Value) (Q:St->Hp->Prop),Inv X pins σ H s->Vals vs us->t vs σ H Q ->
  wpAny (model X.prog X.w) X.A (assignInOrder ((assignEach ts X.env).map (·.2)) us) (λ_ s'=>∃ σ' H',Inv X pins σ' H' s' /\ Q σ' H') X.xe s
abbrev IC:=V->V->V->Hp->(Hp->Prop)->Prop
def Xu (X:Cx) (t:IC):Prop :=
 ∀ (pins:List (Addr×Obj)) (s:Shared) (σ:St) (H:Hp) (o i v:V) (ov iv u:Value) (Q:Hp->Prop),Inv X pins σ H s->RelV o ov->RelV i iv->RelV v u->t o i v H Q ->
  wpAny (model X.prog X.w) X.A (setItem ov iv u) (λ_ s'=>∃ H',Inv X pins σ H' s' /\ Q H') X.xe s
def ID (i:Nat):TG:=λv σ H Q=>Q (σ.set i (some v)) H
theorem Bz (hN:X.N.Nodup) (hi:X.N[i]?=some x) (hx:Loc X.env.scope x) (hf:X.fn x=true \/ X.env.scope.names.lookup x=some .local):PG X (.Name x pos) (ID i):=by
 intro pins s σ H v u Q I r h;exact Vm (mB I hN hi hx r (λs' I'=>⟨_,H,I',h⟩) hf)
noncomputable def aaP:rE:=λvs σ H Q=>vs=[] /\ Q σ H
noncomputable def aaQ (t:TG) (u:rE):rE:=λvs σ H Q=>∃ v r,vs=v::r /\ t v σ H λσ' H'=>u r σ' H' Q
theorem Fm:qu X [] aaP:=by
 intro pins s σ H vs us Q I r h;obtain⟨e,h⟩:=h;subst e;cases r;exact Wr ⟨σ,H,I,h⟩
theorem oY {t:TG}{u:rE}(h1:PG X e t) (h2:qu X es u)
 (hs:(assignEach (e::es) X.env).map (·.2)=assign e X.env::(assignEach es X.env).map (·.2)):qu X (e::es) (aaQ t u):=by
 intro pins s σ H vs us Q I r h;obtain⟨v,vr,e1,h⟩:=h;subst e1;cases r with
 | cons r rr =>
   rw[hs];refine HX (ai (h1 pins s σ H _ _ _ I r h) λ_ s1 ⟨σ1,H1,I1,q1⟩=>?_);exact h2 pins s1 σ1 H1 _ _ Q I1 rr q1
def aaR (K:PySem.W.Frag) (n:Nat) (t:rE):TG:=λv σ H Q=>∃ a xs,v=.ref a /\ aV K H a xs /\ xs.length=n /\ t xs σ H Q
theorem Dq {k:Nat}{t:rE}(hc:X.calm=true) (h:qu X es t)
 (hn:(assignEach es X.env).length=n) (xw:(assignEach es X.env).findIdx? (·.1)=none):PG X (.Tuple es k pos) (aaR X.K n t):=by
 intro pins s σ H v u Q I r hw;obtain⟨a,xs,e1,hq,hl,hw⟩:=hw;subst e1;cases r;obtain⟨its,rv,ht,hz⟩:=I.tuple hq;refine assign_Tuple_tuple (I.ok.hd hc) ht (by simp[hn,<-hl,rv.length]) xw λh' hx=>?_;have I1:Inv X pins σ H { s with heap:=h' }:=I.kept (t':=s.toks) λb o e=>hx b o (bH (aM e)) e;exact h pins _ σ H xs _ Q I1 (by simpa using rv) hw
def aaS (to ti:TE) (t:IC):TG:=λv σ H Q=>to σ H λo H1=>ti σ H1 λi H2=>t o i v H2 λH3=>Q σ H3
theorem Ri {o i:Expr}{to ti:TE}{t:IC}(ho:PE X o to) (hi:PE X i ti) (hs:Xu X t)
 (ha:∀ v,assign (.Subscript o i pos) X.env v=(do
  let ov <-holding [v] (eval o X.env)
  let iv <-holding [v,ov] (eval i X.env)
  standAt pos
  holding [v,ov,iv] (setItem ov iv v)
  release [v,ov,iv] [])):PG X (.Subscript o i pos) (aaS to ti t):=by
 intro pins s σ H v u Q I r h;rw[ha];refine ae (cP (ai (ho pins s σ H _ I h) λov s1 ⟨x,H1,I1,r1,q1⟩=>?_));refine ae (cP (ai (hi pins s1 σ H1 _ I1 q1) λiv s2 ⟨y,H2,I2,r2,q2⟩=>?_));refine ae (rf (ae (cP (ai (hs pins s2 σ H2 x y v ov iv u _ I2 r1 r2 r q2) λ_ s3 ⟨H3,I3,q3⟩=>?_))));exact wpAny_release ⟨σ,H3,I3,q3⟩
def zH (te:TE) (g:TG):TS:=λD σ H=>te σ H λx H1=>g x σ H1 D.nx
theorem JR {te:TE}{g:TG}(he:PE X e te) (hg:PG X tg g) (hs:swapsWithSole [tg] e pos.line X.env=pure false) (hw:swappedStores [tg] e X.env=pure none)
 (h1:(assignEach [tg] X.env).map (·.2)=[assign tg X.env]):PS X (.Assign [tg] e pos) (zH te g):=by
 intro pins s σ H D I h;refine wpAny_Assign_stores (ai (he pins s σ H _ I h) λv s1 ⟨x,H1,I1,r1,q1⟩=>?_) hs hw;rw[h1];exact ai (hg pins s1 σ H1 x v _ I1 r1 q1) λ_ s2 q=>q
theorem Rj {te:TE}{pos':Pos}(hN:X.N.Nodup) (hi:X.N[i]?=some x) (hx:Loc X.env.scope x) (he:PE X e te) (hs:swapsWith e (some (.Name x pos')) pos.line X.env=pure false) (hf:X.fn x=true \/ X.env.scope.names.lookup x=some .local) :
 PS X (.Assign [.Name x pos'] e pos) (zH te (ID i)):=by
 intro pins s σ H D I h;refine wpAny_Assign_Name (ai (he pins s σ H _ I h) λv s1 ⟨y,H1,I1,r1,q1⟩=>?_) hs;exact mB I1 hN hi hx r1 (λs2 I2=>⟨_,H1,I2,q1⟩) hf
def Xv (i j:Nat) (ta:TA):TS:=λD σ H=>ta σ H λvs H1=>∃ v w,vs=[v,w] /\ D.nx ((σ.set i (some v)).set j (some w)) H1
theorem Rk {y:Str}{a b:Expr}{ta:TA}{px py pt:Pos}{kt k2 hU}(hc:X.calm=true) (hN:X.N.Nodup) (hi:X.N[i]?=some x) (hj:X.N[j]?=some y) (IE:i≠j)
 (hx:X.env.scope.names.lookup x=some .local) (hy:X.env.scope.names.lookup y=some .local) (ha:PA X [a,b] ta)
 (hw:swappedStores [.Tuple [.Name x px,.Name y py] kt pt] (.Tuple [a,b] k2 hU) X.env=pure (some [x,y]))
 (hs:swapsWithSole [.Tuple [.Name x px,.Name y py] kt pt] (.Tuple [a,b] k2 hU) pos.line X.env=pure false) :
 PS X (.Assign [.Tuple [.Name x px,.Name y py] kt pt] (.Tuple [a,b] k2 hU) pos) (Xv i j ta):=by
 intro pins s σ H D I h;rw[exec_Assign_arm];refine ae (rf ?_);rw[hs];refine ae (ag ?_);rw[if_neg (by decide)];refine ae (Tuple_ (ai (ha _ pins s σ H _ I h) λus s1 ⟨vs,H1,I1,r1,q1⟩=>?_));obtain⟨v,w,e1,q1⟩:=q1;subst e1;obtain⟨u1,u2,rfl,rv,hV⟩:∃ u1 u2,us=[u1,u2] /\ RelV v u1 /\ RelV w u2:=by
  cases r1 with
  | cons p q =>
    cases q with
    | cons p' q' =>
      cases q';exact⟨_,_,rfl,p,p'⟩
 refine cT ?_ (by show 2<=sizeLine;decide);have I2:Inv X pins σ H1 { s1 with heap:=s1.heap.push { cls:=.type "tuple",data:=.seq [u1,u2].toArray } }:=I1.kept (t':=s1.toks) λb o e=>aC _ e;rw[hw];refine ae (ag ?_);show wpAny (model X.prog X.w) X.A (do rule "assign.swapped-stores";let items <-unpackItems (.ref s1.heap.objs.size) 2 none;assignInOrder [λv=>bindName X.env y v,λv=>bindName X.env x v] items.reverse;pure Flow.next) _ _ _;refine ae (k6 (ae (unpackItems_tuple (items:=#[u1,u2]) (I.ok.hd hc) (IsTup.new s1.heap _) λh' aaT=>?_)));have I3:=I2.kept (h':=h') (t':=s1.toks) λb o e=>aaT b o (bH (aM e)) e;show wpAny _ _ (assignInOrder [λv=>bindName X.env y v,λv=>bindName X.env x v] [u2,u1] >>= λ_=>pure Flow.next) _ _ _;refine ae (HX (Vn (mB I3 hN hj (.inl hy) hV (λs2 I4=>?_) (.inr hy))));refine HX (Vn (mB I4 hN hi (.inl hx) rv (λs3 I5=>Wr (ag ?_)) (.inr hx)));rw[List.set_comm _ _ (Ne.symm IE)]at I5;exact⟨_,H1,I5,q1⟩
def Xw (c:TT) (tb:TS):TS:=λD σ H=>∃ W:Nat->St->Hp->Prop,(∃ m,W m σ H) /\ ∀ m σ H,W m σ H ->
 c σ H λb H1=>if b=true then ∃ N:St->Hp->Prop,(∀ σ' H',N σ' H'->∃ m',m'<m /\ W m' σ' H') /\ tb { D with nx:=N,ct:=N,bk:=D.nx } σ H1 else D.nx σ H1
theorem JS {body:List Stmt}{tc:TT}{tb:TS}(hp:PassesOwn (model X.prog X.w) X.A X.env X.xe) (hc:PT X c tc) (hb:dU X body tb):PS X (.While c body [] pos) (Xw tc tb):=by
 intro pins s σ H D I h;obtain⟨W,⟨m0,w0⟩,turn⟩:=h;refine wpAny_While (codeAny_whileLoop (λn s'=>∃ σ' H',Inv X pins σ' H' s' /\ W n σ' H') ?_ m0 ⟨σ,H,I,w0⟩);rintro n s1 ⟨σ1,H1,I1,w1⟩;refine tY hp (ai (hc pins s1 σ1 H1 _ I1 (turn n σ1 H1 w1)) λb s2 ⟨H2,I2,q2⟩=>?_);cases b with
 | true =>
   obtain⟨N,hN,q2⟩:=q2;rw[if_pos rfl];refine tY hp (ai (hb pins s2 σ1 H2 _ I2 q2) λf s3 q3=>?_);cases f with
   | next =>
     obtain⟨σ3,H3,I3,n3⟩:=q3;obtain⟨m',hm,w3⟩:=hN σ3 H3 n3;exact⟨m',hm,σ3,H3,I3,w3⟩
   | cont =>
     obtain⟨σ3,H3,I3,n3⟩:=q3;obtain⟨m',hm,w3⟩:=hN σ3 H3 n3;exact⟨m',hm,σ3,H3,I3,w3⟩
   |brk=>exact q3
   |ret v=>exact q3
 | false =>
   rw[if_neg cq];exact yR ⟨σ1,H2,I2,q2⟩
structure It where
 go:Nat->Hp->Prop
 xx:Nat->Hp->V->Hp->Prop
 stop:Nat->Hp->Prop
def dj (X:Cx) (pins:List (Addr×Obj)) (H:Hp) (b:Addr):Prop :=
 H b=none /\ b≠X.env.locals /\ b∉X.fs /\ (b∈X.ex \/ X.s₀.heap.objs.size<=b) /\ (∀ x c,X.env.cells.lookup x=some c->c≠b) /\ ∀ p∈X.pn++pins,p.1≠b
theorem Inv.uv {b:Addr}(I:Inv X pins σ H s) (hb:s.heap.objs.size<=b) (hn:H' b=none):dj X pins H' b:=by
 refine⟨hn,rh (eB I.lt hb),I.aav hb,.inr (bR I.sz hb),λx c e z=>?_,λp hp z=>?_⟩
 ·obtain⟨v,q⟩:=I.cell x c e;exact absurd (eB q.lt (by rw[z];exact hb)) (dE _)
 ·exact absurd (eB (aM (I.pin p hp).1) (by rw[z];exact hb)) (dE _)
structure Turn (P:Program) (w:World) (K:PySem.W.Frag) (tg:Expr) (J:It) (fp:List Addr) (it:Addr) (tn:Nat->Heap->Prop):Prop where
 mem:it∈fp
 obj:∀ i h,tn i h->∀ b∈fp,∃ o,h.get? b=some o /\ ∀ v,o.data≠.cell v
 keep:∀ i h h',tn i h->(∀ b∈fp,∀ o,h.get? b=some o->h'.get? b=some o)->tn i h'
 item:∀ (X:Cx),X.prog=P->X.w=w->X.K=K->X.calm=true->∀ (i:Nat) (pins:List (Addr×Obj)) (s:Shared) (σ:St) (H:Hp) (E:Value->Shared->Prop),Inv X pins σ H s->(∀ b∈fp,dj X pins H b)->tn i s.heap->J.go i H ->
  wpAny (model P w) X.A (pyNext (.ref it)) (λr s1=>∃ u,r=some u /\
   wpAny (model P w) X.A (letOwnedTupleGo tg (.ref it) u) (λ_ s2=>∃ x H',Inv X pins σ H' s2 /\ RelV x u /\ J.xx i H x H' /\ tn (i+1) s2.heap /\ ∀ b∈fp,H' b=none) E s1) E s
 done:∀ (X:Cx),X.prog=P->X.w=w->X.K=K->X.calm=true->∀ (i:Nat) (pins:List (Addr×Obj)) (s:Shared) (σ:St) (H:Hp) (E:Value->Shared->Prop),Inv X pins σ H s->(∀ b∈fp,dj X pins H b)->tn i s.heap->J.stop i H ->
  wpAny (model P w) X.A (pyNext (.ref it)) (λr s1=>r=none /\ Inv X pins σ H s1) E s
 self:∀ (A:Around) (i:Nat) (s:Shared) (Q:Value->Shared->Prop) (E:Value->Shared->Prop),tn i s.heap->Q (.ref it) s->wpAny (model P w) A (pyIter (.ref it)) Q E s
abbrev TI:=St->Hp->(It->Hp->Prop)->Prop
def Xx (X:Cx) (pins:List (Addr×Obj)) (σ:St) (tg:Expr) (R:It->Hp->Prop) (vU:Value) (s2:Shared):Prop :=
 ∃ (it:Addr) (fp:List Addr) (tn:Nat->Heap->Prop) (J:It) (H':Hp),vU=.ref it /\ Inv X pins σ H' s2 /\ Turn X.prog X.w X.K tg J fp it tn /\ tn 0 s2.heap /\ (∀ b∈fp,dj X pins H' b) /\ R J H'
def PI (X:Cx) (tg iter:Expr) (wi:TI):Prop :=
 ∀ (pins:List (Addr×Obj)) (s:Shared) (σ:St) (H:Hp) (R:It->Hp->Prop),Inv X pins σ H s->wi σ H R ->
  wpAny (model X.prog X.w) X.A (eval iter X.env) (λv s1=>wpAny (model X.prog X.w) X.A (pyIter v) (Xx X pins σ tg R) X.xe s1) X.xe s
theorem JT {n:String}{vs:Array Value}{Q:Unit->Shared->Prop}(ho:s.heap.get? it=some o) (hc:o.cls=.type n) (hd:o.data=.fields vs)
 (hn:["enumerate", "zip", "dict_itemiterator", "dict_reverseitemiterator", "odict_iterator", "itertools.zip_longest", "itertools.pairwise"].contains n=false) (hQ:Q () s):wpAny M A (letOwnedTupleGo tg (.ref it) u) Q E s:=by
 unfold letOwnedTupleGo;cases tg<;>first
  |exact ag hQ
  |(cases u<;>first
   |exact ag hQ
   | (refine ae (vz ho ?_)
      rw[hc,hd];show wpAny M A (if (["enumerate", "zip", "dict_itemiterator", "dict_reverseitemiterator", "odict_iterator", "itertools.zip_longest", "itertools.pairwise"].contains n&&vs[0]?==some (rawInt _))=true then _ else _) Q E s;rw[if_neg (by intro h;rw[hn,vI]at h;cases h)];exact ag hQ))
noncomputable def zI (K:PySem.W.Frag) (a:Addr):It :=
 ⟨λi H=>∃ xs x,aS K H a xs /\ xs[i]?=some x,λi H x H'=>H'=H /\ ∀ xs,aS K H a xs->xs[i]?=some x,λi H=>∃ xs,aS K H a xs /\ xs.length<=i⟩
noncomputable def IF (K:PySem.W.Frag) (a:Addr):It :=
 ⟨λi H=>∃ xs x,aV K H a xs /\ xs[i]?=some x,λi H x H'=>H'=H /\ ∀ xs,aV K H a xs->xs[i]?=some x,λi H=>∃ xs,aV K H a xs /\ xs.length<=i⟩
noncomputable def xy (lo:Int) (n:Nat):It:=⟨λi _=>i<n,λi H x H'=>H'=H /\ x=.int (lo+i),λi _=>n<=i⟩
theorem A4 (a it:Addr):Turn P w K tg (zI K a) [it] it (λi h=>h.IsListIter it a i) where
 mem:=by simp
 obj:=λi h st b hb=>by
  have e:b=it:=by simpa using hb
  subst e;obtain⟨o,e,c,d⟩:=st;exact⟨o,e,λv z=>by rw[d]at z;cases z⟩
 keep:=λi h h' st k=>st.at λo e=>k it (by simp) o e
 item:=by
  intro X hP hw hK hc i pins s σ H E I hf st hg;subst hP hw hK;obtain⟨xs,x,hq,hx⟩:=hg;obtain⟨its,rv,p,hz⟩:=I.list hq;obtain⟨u,hu,ru⟩:=rv.get hx;obtain⟨f0,f1,f2,f3,f4,f5⟩:=hf it (by simp);refine wpAny_pyNext_list_item st p.isList (x:=u) (by simpa using hu) λh' sO sb=>?_;have I1:Inv X pins σ H { s with heap:=h' }:=I.turned (t':=s.toks) (λb o hb e=>(sb.2 b hb).trans e) f0 f1 f3 f4 f5;obtain⟨o,e,c,d⟩:=id sO;exact⟨u,rfl,JT (s:={ s with heap:=h' }) e c d (by decide) ⟨x,H,I1,ru,⟨rfl,λys hy=>by rw[I.Xr hy hq];exact hx⟩,sO,λb hb=>(hf b hb).1⟩⟩
 done:=by
  intro X hP hw hK hc i pins s σ H E I hf st hg;subst hP hw hK;obtain⟨xs,hq,hx⟩:=hg;obtain⟨its,rv,p,hz⟩:=I.list hq;obtain⟨f0,f1,f2,f3,f4,f5⟩:=hf it (by simp);have hl:=rv.length;exact wpAny_pyNext_list_end (I.ok.hd hc) st p.isList (by simp;omega) λh' eb=>⟨rfl,I.turned (t':=s.toks) (λb o hb e=>eb b o hb e) f0 f1 f3 f4 f5⟩
 self:=λ_ _ _ _ _ st h=>wpAny_pyIter_listiter st h
theorem Ds (a it:Addr):Turn P w K tg (IF K a) [it] it (λi h=>h.IsTupleIter it a i) where
 mem:=by simp
 obj:=λi h st b hb=>by
  have e:b=it:=by simpa using hb
  subst e;obtain⟨o,e,c,d⟩:=st;exact⟨o,e,λv z=>by rw[d]at z;cases z⟩
 keep:=λi h h' st k=>st.at λo e=>k it (by simp) o e
 item:=by
  intro X hP hw hK hc i pins s σ H E I hf st hg;subst hP hw hK;obtain⟨xs,x,hq,hx⟩:=hg;obtain⟨its,rv,p,hz⟩:=I.tuple hq;obtain⟨u,hu,ru⟩:=rv.get hx;obtain⟨f0,f1,f2,f3,f4,f5⟩:=hf it (by simp);refine wpAny_pyNext_tuple_item st (show s.heap.IsTuple a its.toArray from p) (x:=u) (by simpa using hu) λh' sO sb=>?_;have I1:Inv X pins σ H { s with heap:=h' }:=I.turned (t':=s.toks) (λb o hb e=>(sb.2 b hb).trans e) f0 f1 f3 f4 f5;obtain⟨o,e,c,d⟩:=id sO;exact⟨u,rfl,JT (s:={ s with heap:=h' }) e c d (by decide) ⟨x,H,I1,ru,⟨rfl,λys hy=>by rw[I.Iz hy hq];exact hx⟩,sO,λb hb=>(hf b hb).1⟩⟩
 done:=by
  intro X hP hw hK hc i pins s σ H E I hf st hg;subst hP hw hK;obtain⟨xs,hq,hx⟩:=hg;obtain⟨its,rv,p,hz⟩:=I.tuple hq;obtain⟨f0,f1,f2,f3,f4,f5⟩:=hf it (by simp);have hl:=rv.length;exact wpAny_pyNext_tuple_end (I.ok.hd hc) st (show s.heap.IsTuple a its.toArray from p) (by simp;omega) λh' eb=>⟨rfl,I.turned (t':=s.toks) (λb o hb e=>eb b o hb e) f0 f1 f3 f4 f5⟩
 self:=λ_ _ _ _ _ st h=>wpAny_pyIter_tupleiter st h
theorem Dt (it:Addr) (lo:Int) (n:Nat):Turn P w K tg (xy lo n) [it] it (λi h=>IsRangeIter h it (lo+(i:Nat)*1) ((n:Int)-(i:Nat)) 1) where
 mem:=by simp
 obj:=λi h st b hb=>by
  have e:b=it:=by simpa using hb
  subst e;exact⟨_,st,λv z=>by
   have z':Data.fields _=Data.cell v:=z;cases z'⟩
 keep:=λi h h' st k=>k it (by simp) _ st
 item:=by
  intro X hP hw hK hc i pins s σ H E I hf st hg;subst hP hw hK;obtain⟨f0,f1,f2,f3,f4,f5⟩:=hf it (by simp);have W:=Walks.range (prog:=X.prog) (w:=X.w) (I.ok.hd hc) it lo 1 n;refine W.item i s _ _ hg st λv h' tk hv sO kk=>?_;obtain⟨t,rfl⟩:=hv;have I1:Inv X pins σ H { s with heap:=h',toks:=tk }:=I.turned (λb o hb e=>kk b o (by simpa using hb) e) f0 f1 f3 f4 f5;refine⟨_,rfl,JT (s:={ s with heap:=h',toks:=tk }) (n:="range_iterator") sO rfl rfl (by decide) ⟨.int (lo+i),H,I1,⟨t,?_⟩,⟨rfl,rfl⟩,sO,λb hb=>(hf b hb).1⟩⟩;rw[Int.mul_one]
 done:=by
  intro X hP hw hK hc i pins s σ H E I hf st hg;subst hP hw hK;obtain⟨f0,f1,f2,f3,f4,f5⟩:=hf it (by simp);exact wpAny_pyNext_range_end (I.ok.hd hc) st (by have:n<=i:=hg;omega) λh' eb=>⟨rfl,I.turned (t':=s.toks) (λb o hb e=>eb b o hb e) f0 f1 f3 f4 f5⟩
 self:=λ_ _ _ _ _ st h=>wpAny_pyIter_rangeiter st h
def Xy (K:PySem.W.Frag) (tl:TE):TI:=λσ H R=>tl σ H λx H1=>∃ a,x=.ref a /\ (∃ xs,aS K H1 a xs) /\ R (zI K a) H1
theorem Np {l:Expr}{tl:TE}(hl:PE X l tl):PI X tg l (Xy X.K tl):=by
 intro pins s σ H R I h;refine ai (hl pins s σ H _ I h) λv s1 ⟨x,H1,I1,r1,q1⟩=>?_;obtain⟨a,e,⟨xs,hq⟩,q⟩:=q1;subst e;cases r1;obtain⟨its,rv,p,hz⟩:=I1.list hq;refine vA p.isList ?_;refine⟨s1.heap.objs.size,[s1.heap.objs.size],_,_,H1,rfl,I1.kept (t':=s1.toks) λb o e=>aC _ e,A4 a _,⟨_,aU _ rfl,rfl,rfl⟩,λb hb=>?_,q⟩;have e:b=s1.heap.objs.size:=by simpa using hb
 subst e;exact I1.uv (aq _) (I1.ak.fresh (aq _))
theorem Cc {R:It->Hp->Prop}{lo hi:Int}{t u v:Tok}{tk:Nat}(I:Inv X pins σ H s) (h1:-(2 ^ 62)<=lo) (h2:lo<2 ^ 62) (h3:-(2 ^ 62)<=hi) (h4:hi<2 ^ 62)
 (q:R (xy lo (hi-lo).toNat) H):wpAny (model X.prog X.w) X.A (pyIter (.ref s.heap.objs.size)) (Xx X pins σ tg R) E { s with heap:=s.heap.push { cls:=.type "range",data:=.fields #[.int lo t,.int hi u,.int 1 v] },toks:=tk }:=by
 refine wpAny_pyIter_range (IsRange.new ..) (small_one h1 h2 h3 h4) ?_;have I1:Inv X pins σ H { s with heap:=s.heap.push { cls:=.type "range",data:=.fields #[.int lo t,.int hi u,.int 1 v] },toks:=tk }:=I.kept λb o e=>aC _ e;refine⟨(s.heap.push { cls:=.type "range",data:=.fields #[.int lo t,.int hi u,.int 1 v] }).objs.size,[(s.heap.push { cls:=.type "range",data:=.fields #[.int lo t,.int hi u,.int 1 v] }).objs.size],_,_,H,rfl,
  I1.kept (t':=tk) λb o e=>aC _ e,Dt _ lo (hi-lo).toNat,?_,λb hb=>?_,q⟩
 ·have e1:lo+((0:Nat):Int)*1=lo:=by simp
  have e2:(((hi-lo).toNat:Nat):Int)-((0:Nat):Int)=Builtin.Range.rangeSize lo hi 1:=by rw[Vo];split<;>omega
  show IsRangeIter _ _ (lo+((0:Nat):Int)*1) ((((hi-lo).toNat:Nat):Int)-((0:Nat):Int)) 1;rw[e1,e2];exact aU _ rfl
 ·have e:b=(s.heap.push { cls:=.type "range",data:=.fields #[.int lo t,.int hi u,.int 1 v] }).objs.size:=by simpa using hb
  subst e;exact I1.uv (aq _) (I1.ak.fresh (aq _))
def aaU (ta:TA):TI:=λσ H R=>ta σ H λvs H1=>∃ j:Int,vs=[.int j] /\ -(2 ^ 62)<=j /\ j<2 ^ 62 /\ R (xy 0 j.toNat) H1
def aaV (ta:TA):TI:=λσ H R=>ta σ H λvs H1=>∃ i j:Int,vs=[.int i,.int j] /\ (-(2 ^ 62)<=i /\ i<2 ^ 62 /\ -(2 ^ 62)<=j /\ j<2 ^ 62) /\ R (xy i (j-i).toNat) H1
theorem GH {a:Expr}{ta:TA}{p:Pos}(hg:Gl X "range") (hm:X.mg "range"=none) (ha:PA X [a] ta) (hs:starEach [a] X.env=[(false,eval a X.env)]):PI X tg (.Call (.Name "range" p) [a] [] pos) (aaU ta):=by
 intro pins s σ H R I h;refine Call_ (gJ I hg hm HY (uh (ai (ha pos pins s σ H _ I h) λus s1 ⟨vs,H1,I1,r1,q1⟩=>?_) hs rfl));obtain⟨j,e,q1,q2,q⟩:=q1;subst e;cases r1 with
 | cons r rr =>
   cases rr;obtain⟨t,rfl⟩:=r;exact Vp (Cc I1 (by omega) (by omega) q1 q2 (by simpa using q))
theorem GI {a b:Expr}{ta:TA}{p:Pos}(hg:Gl X "range") (hm:X.mg "range"=none) (ha:PA X [a,b] ta) (hs:starEach [a,b] X.env=[(false,eval a X.env),(false,eval b X.env)]) (cY:starEach [b] X.env=[(false,eval b X.env)]) :
 PI X tg (.Call (.Name "range" p) [a,b] [] pos) (aaV ta):=by
 intro pins s σ H R I h;refine Call_ (gJ I hg hm HY (uh (ai (ha pos pins s σ H _ I h) λus s1 ⟨vs,H1,I1,r1,q1⟩=>?_) (by rw[hs,cY]) (by rw[cY];rfl)));obtain⟨i,j,e,⟨q1,q2,q3,q4⟩,q⟩:=q1;subst e;cases r1 with
 | cons r rr =>
   cases rr with
   | cons r' rr =>
     cases rr;obtain⟨t,rfl⟩:=r;obtain⟨t',rfl⟩:=r';exact call_range_2 (Cc I1 q1 q2 q3 q4 q)
def Xz (wi:TI) (g:TG) (tb:TS):TS:=λD σ H=>wi σ H λJ H1=>∃ W:Nat->Nat->St->Hp->Prop,(∃ m,W 0 m σ H1) /\ ∀ i m σ H,W i m σ H ->
 (J.stop i H /\ D.nx σ H) \/ (J.go i H /\ ∃ N:St->Hp->Prop,(∀ σ' H',N σ' H'->∃ m',m'<m /\ W (i+1) m' σ' H') /\ ∀ x H',J.xx i H x H'->g x σ H' λσ2 H2=>tb { D with nx:=N,ct:=N,bk:=D.nx } σ2 H2)
noncomputable def rF (fp:List Addr) (h:Heap):List (Addr×Obj):=fp.filterMap λb=>(h.get? b).map λo=>(b,o)
theorem gK {b:Addr}(hb:b∈fp) (e:h.get? b=some o):(b,o)∈rF fp h:=List.mem_filterMap.mpr ⟨b,hb,by rw[e];rfl⟩
theorem A5 {p:Addr×Obj}(hp:p∈rF fp h):p.1∈fp /\ h.get? p.1=some p.2:=by
 obtain⟨b,hb,e⟩:=List.mem_filterMap.mp hp;cases q:h.get? b with
 |none=>rw[q]at e;cases e
 | some o =>
   rw[q]at e;have e':(b,o)=p:=Option.some.inj e;subst e';exact⟨hb,q⟩
theorem Inv.pinned (I:Inv X pins σ H s) (hf:∀ b∈fp,dj X pins H b) (ho:∀ b∈fp,∃ o,s.heap.get? b=some o /\ ∀ v,o.data≠.cell v):Inv X (pins++rF fp s.heap) σ H s :=
 I.zD λp hp=>(bN.mp hp).elim (λz=>I.pin p (bT _ z)) λz=>by
  obtain⟨hb,e⟩:=A5 z;obtain⟨f0,f1,f2,_⟩:=hf p.1 hb;obtain⟨o,e',d⟩:=ho p.1 hb;rw[e]at e';cases e';exact⟨e,f0,f1,f2,d⟩
theorem Inv.sP {pl:List (Addr×Obj)}(I:Inv X (pins++pl) σ H s):Inv X pins σ H s:=I.zD λp hp=>I.pin p (bT _ (cU _ hp))
theorem Rm {body:List Stmt}{wi:TI}{g:TG}{tb:TS}(hp:PassesOwn (model X.prog X.w) X.A X.env X.xe) (hc:X.calm=true) (hi:PI X tg iter wi) (hg:PG X tg g) (hb:dU X body tb)
 (hs:∀ x,foldedSetIterable iter X.env x=pure x):PS X (.For tg iter body [] pos) (Xz wi g tb):=by
 intro pins s σ H D I h;refine wpAny_For (ai (hi pins s σ H _ I h) λv s1 h1=>ai h1 λvU s2 h2=>?_) hs;obtain⟨it,fp,tn,J,H2,e,I2,T,nq,f2,W,⟨m0,w0⟩,turn⟩:=h2;subst e;have stat:∀ {H':Hp},(∀ b∈fp,H' b=none)->∀ b∈fp,dj X pins H' b:=λhn b hb=>⟨hn b hb,(f2 b hb).2⟩;refine codeAny_forLoop_any (λn s'=>∃ i σ' H',Inv X pins σ' H' s' /\ tn i s'.heap /\ (∀ b∈fp,H' b=none) /\ W i n σ' H') ?_ m0 ⟨0,σ,H2,I2,nq,λb hb=>(f2 b hb).1,w0⟩;rintro n s3 ⟨i,σ3,H3,I3,pM,XA,w3⟩;rcases turn i n σ3 H3 w3 with⟨stop,qn⟩|⟨go,N,hN,step⟩
 ·refine tY hp (ai (T.done X rfl rfl rfl hc i pins s3 σ3 H3 X.xe I3 (stat XA) pM stop) λr s4 ⟨hr,I4⟩=>?_);subst hr;exact yR ⟨σ3,H3,I4,qn⟩
 ·refine tY hp (ai (T.item X rfl rfl rfl hc i pins s3 σ3 H3 X.xe I3 (stat XA) pM go) λr s4 ⟨u,hr,h4⟩=>?_);subst hr;refine tY hp (ai h4 λ_ s5 ⟨x,H5,I5,r5,y5,nW,qv⟩=>?_);have aaW:=I5.pinned (stat qv) (T.obj _ _ nW);refine tY hp (ai (hg _ s5 σ3 H5 x u _ aaW r5 (step x H5 y5)) λ_ s6 ⟨σ6,H6,I6,q6⟩=>?_);refine tY hp (ai (hb _ s6 σ6 H6 _ I6 q6) λf s7 q7=>?_);have again:∀ {σ7:St}{H7:Hp},Inv X (pins++rF fp s5.heap) σ7 H7 s7->N σ7 H7->∃ m,m<n /\ ∃ i σ' H',Inv X pins σ' H' s7 /\ tn i s7.heap /\ (∀ b∈fp,H' b=none) /\ W i m σ' H':=λ{σ7 H7} I7 n7=>by
   obtain⟨m',hm,w7⟩:=hN σ7 H7 n7;refine⟨m',hm,i+1,σ7,H7,I7.sP,T.keep _ _ _ nW λb hb o e=>(I7.pin (b,o) (bT _ (bT _ (gK hb e)))).1,λb hb=>?_,w7⟩;obtain⟨o,e,d⟩:=T.obj _ _ nW b hb;exact(I7.pin (b,o) (bT _ (bT _ (gK hb e)))).2.1
  cases f with
  |next=>obtain⟨σ7,H7,I7,n7⟩:=q7;exact again I7 n7
  |cont=>obtain⟨σ7,H7,I7,n7⟩:=q7;exact again I7 n7
  |brk=>obtain⟨σ7,H7,I7,q7⟩:=q7;exact⟨σ7,H7,I7.sP,q7⟩
  |ret v=>obtain⟨x7,σ7,H7,I7,r7,q7⟩:=q7;exact⟨x7,σ7,H7,I7.sP,r7,q7⟩
abbrev R2:=V->V->Hp->VK->Prop
def aN (X:Cx) (f:Value->Value->Sem Value) (r:R2):Prop :=
 ∀ (pins:List (Addr×Obj)) (s:Shared) (σ:St) (H:Hp) (x y:V) (v u:Value) (Q:VK),Inv X pins σ H s->RelV x v->RelV y u->r x y H Q ->
  wpAny (model X.prog X.w) X.A (f v u) (EP X pins σ Q) X.xe s
def IG (X:Cx) (f:Value->Sem Value) (r:V->Hp->VK->Prop):Prop :=
 ∀ (pins:List (Addr×Obj)) (s:Shared) (σ:St) (H:Hp) (x:V) (v:Value) (Q:VK),Inv X pins σ H s->RelV x v->r x H Q ->
  wpAny (model X.prog X.w) X.A (f v) (EP X pins σ Q) X.xe s
def eE (X:Cx) (f:Value) (r:List V->Hp->VK->Prop):Prop :=
 ∀ (pins:List (Addr×Obj)) (s:Shared) (σ:St) (H:Hp) (xs:List V) (us:List Value) (Q:VK),Inv X pins σ H s->Vals xs us->r xs H Q ->
  wpAny (model X.prog X.w) X.A (call f us) (EP X pins σ Q) X.xe s
def aaX (X:Cx) (r:V->Hp->(Bool->Hp->Prop)->Prop):Prop :=
 ∀ (pins:List (Addr×Obj)) (s:Shared) (σ:St) (H:Hp) (x:V) (v:Value) (Q:Bool->Hp->Prop),Inv X pins σ H s->RelV x v->r x H Q ->
  wpAny (model X.prog X.w) X.A (truthy v) (TP X pins σ Q) X.xe s
def xA (r:R2) (ta tb:TE):TE:=λσ H Q=>ta σ H λx H1=>tb σ H1 λy H2=>r x y H2 Q
def aaY (r:V->Hp->VK->Prop) (ta:TE):TE:=λσ H Q=>ta σ H λx H1=>r x H1 Q
def rI (C:Int->Int->Prop) (g:Int->Int->V):R2:=λx y H Q=>∃ i j,x=.int i /\ y=.int j /\ C i j /\ Q (g i j) H
def eQ (g:Int->Int->V):R2:=λx y H Q=>∃ i j,x=.int i /\ y=.int j /\ Q (g i j) H
def rU (g:Int->V):V->Hp->VK->Prop:=λx H Q=>∃ i,x=.int i /\ Q (g i) H
section
variable {a b : Expr} {ta tb tc : TE} 
theorem IH (ha:PE X a ta) (hb:PE X b tb) {R:V->V->Hp->Prop}(I:Inv X pins σ H s)
 (h:ta σ H λx H1=>tb σ H1 λy H2=>R x y H2) 
 (hf:∀ v u s2 x y H2,Inv X pins σ H2 s2->RelV x v->RelV y u->R x y H2->wpAny (model X.prog X.w) X.A (f v u) Q X.xe s2) :
 wpAny (model X.prog X.w) X.A (eval a X.env) (λv s₁=>wpAny (model X.prog X.w) X.A (eval b X.env) (λu s₂=>wpAny (model X.prog X.w) X.A (f v u) Q X.xe s₂) X.xe s₁) X.xe s:=by
 refine ai (ha pins s σ H _ I h) λv s1 ⟨x,H1,I1,r1,q1⟩=>?_;refine ai (hb pins s1 σ H1 _ I1 q1) λu s2 ⟨y,H2,I2,r2,q2⟩=>?_;exact hf v u s2 x y H2 I2 r1 r2 q2
theorem TD {op:Operator}{r:R2}(ho:aN X (binaryOp op) r) (ha:PE X a ta) (hb:PE X b tb):PE X (.BinOp a op b pos) (xA r ta tb):=by
 intro pins s σ H Q I h;exact wpAny_BinOp (IH ha hb I h λv u s2 x y H2 I2 rx ry q=>ho pins s2 σ H2 x y v u Q I2 rx ry q)
theorem Ps {op:UnaryOp}{r:V->Hp->VK->Prop}(ho:IG X (unaryOp op) r) (ha:PE X a ta):PE X (.UnaryOp op a pos) (aaY r ta):=by
 intro pins s σ H Q I h;exact UnaryOp_ (ai (ha pins s σ H _ I h) λv s1 ⟨x,H1,I1,r1,q1⟩=>ho pins s1 σ H1 x v Q I1 r1 q1)
theorem zJ {C:Int->Int->Prop}{g:Int->Int->Int}
 (rule:∀ (i j:Int) (t u:Tok) (s:Shared) (Q:Value->Shared->Prop) (E:Value->Shared->Prop),C i j->Q (.int (g i j) s.toks) { s with toks:=s.toks+1 }->wpAny (model X.prog X.w) X.A (f (.int i t) (.int j u)) Q E s) :
 aN X f (rI C λi j=>.int (g i j)):=by
 intro pins s σ H x y v u Q I rx ry h;obtain⟨i,j,rfl,rfl,hc,q⟩:=h;obtain⟨t,rfl⟩:=rx;obtain⟨t',rfl⟩:=ry;exact rule i j t t' s _ _ hc ⟨.int (g i j),H,I.tok _,⟨_,rfl⟩,q⟩
theorem XB {g:Int->Int->Int}
 (rule:∀ (i j:Int) (t u:Tok) (s:Shared) (Q:Value->Shared->Prop) (E:Value->Shared->Prop),Q (.int (g i j) s.toks) { s with toks:=s.toks+1 }->wpAny (model X.prog X.w) X.A (f (.int i t) (.int j u)) Q E s) :
 aN X f (eQ λi j=>.int (g i j)):=by
 intro pins s σ H x y v u Q I rx ry h;obtain⟨i,j,rfl,rfl,q⟩:=h;obtain⟨t,rfl⟩:=rx;obtain⟨t',rfl⟩:=ry;exact rule i j t t' s _ _ ⟨.int (g i j),H,I.tok _,⟨_,rfl⟩,q⟩
theorem zK {g:Int->Int->Bool}
 (rule:∀ (i j:Int) (t u:Tok) (s:Shared) (Q:Value->Shared->Prop) (E:Value->Shared->Prop),Q (.bool (g i j)) s->wpAny (model X.prog X.w) X.A (f (.int i t) (.int j u)) Q E s) :
 aN X f (eQ λi j=>.bl (g i j)):=by
 intro pins s σ H x y v u Q I rx ry h;obtain⟨i,j,rfl,rfl,q⟩:=h;obtain⟨t,rfl⟩:=rx;obtain⟨t',rfl⟩:=ry;exact rule i j t t' s _ _ ⟨.bl (g i j),H,I,rfl,q⟩
def vV (i j:Int):Prop:=0<j /\ j<1073741824
def vW (i j:Int):Prop:=0<=j /\ j<=1000000 /\ i.natAbs<2 ^ 64
def sQ (i j:Int):Prop:=(-(2 ^ 64)<i /\ i<2 ^ 64) \/ (-(2 ^ 64)<j /\ j<2 ^ 64)
theorem sQ.ok {i j:Int}(h:sQ i j):IntMulOk i j:=by
 rcases h with⟨h1,h2⟩|⟨h1,h2⟩
 ·exact .of_left (Vq h1 h2)
 ·exact .of_right (Vq h1 h2)
theorem Rn:aN X (binaryOp .Add) (eQ λi j=>.int (i+j)):=XB λ_ _ _ _ _ _ _ q=>add_int q
theorem Ro:aN X (binaryOp .Sub) (eQ λi j=>.int (i-j)):=XB λ_ _ _ _ _ _ _ q=>sub_int q
theorem Rp:aN X (binaryOp .Mult) (rI sQ λi j=>.int (i*j)):=zJ λ_ _ _ _ _ _ _ hc q=>mul_int q hc.ok
theorem Nq:aN X (binaryOp .FloorDiv) (rI vV λi j=>.int (i / j)):=zJ λi j _ _ _ _ _ hc q=>by
 have h1:(0:Int)<j:=hc.1;have h2:j<1073741824:=hc.2;exact floordiv_int (by omega) (by rw[Int.fdiv_eq_ediv_of_nonneg i (by omega)];exact q) (.inl (PyProof.noPylong_small (by omega)))
theorem Rq:aN X (binaryOp .Mod) (rI (λ_ j=>0<j) λi j=>.int (i % j)):=zJ λi j _ _ _ _ _ hc q=>by
 have h1:(0:Int)<j:=hc;exact mod_int' (by omega) (by rw[Int.fmod_eq_emod_of_nonneg i (by omega)];exact q)
theorem Rr:aN X (binaryOp .Pow) (rI vW λi j=>.int (i ^ j.toNat)):=zJ λ_ _ _ _ _ _ _ hc q=>pow_int_small hc.1 hc.2.1 hc.2.2 q
theorem aaZ {f:Value->Sem Value}{g:Int->Int}
 (rule:∀ (i:Int) (t:Tok) (s:Shared) (Q:Value->Shared->Prop) (E:Value->Shared->Prop),Q (.int (g i) s.toks) { s with toks:=s.toks+1 }->wpAny (model X.prog X.w) X.A (f (.int i t)) Q E s) :
 IG X f (rU λi=>.int (g i)):=by
 intro pins s σ H x v Q I rx h;obtain⟨i,rfl,q⟩:=h;obtain⟨t,rfl⟩:=rx;exact rule i t s _ _ ⟨.int (g i),H,I.tok _,⟨_,rfl⟩,q⟩
theorem JU:IG X (unaryOp .USub) (rU λi=>.int (-i)):=aaZ λ_ _ _ _ _ q=>neg_int q
end
noncomputable def XC:V->V->Bool
 |.non,.non=>true|.non,.int _=>true|.int _,.non=>true|.non,.bl _=>true|.bl _,.non=>true|.non,.str _=>true|.str _,.non=>true
 |.int _,.int _=>true|.bl _,.bl _=>true|.str _,.str _=>true|.kA _,.kA _=>true
 |.int _,.str _=>true|.str _,.int _=>true|.bl _,.str _=>true|.str _,.bl _=>true
 |_,_=>false
def II:R2:=λx y H Q=>XC x y=true /\ Q (.bl (decide (x=y))) H
def XD:R2:=λx y H Q=>XC x y=true /\ Q (.bl (!decide (x=y))) H
theorem Fn {i j:Int}:decide (V.int i=V.int j)=(i==j):=by
 rw[ku];simp
theorem JV {i j:Bool}:decide (V.bl i=V.bl j)=(i==j):=by
 rw[ku];simp
theorem Fo {i j:Str}:decide (V.str i=V.str j)=(i==j):=by
 rw[ku];simp
theorem Fp {i j:Array UInt8}:decide (V.kA i=V.kA j)=(i.toList==j.toList):=by
 rw[ku];cases i;cases j;simp
section
variable {a b : Expr} {ta tb tc : TE} 
theorem fQ {Q:VK}{k k':Bool}(I:Inv X pins σ H s) (q:Q (.bl k) H) (e:k=k'):EP X pins σ Q (.bool k') s:=by
 subst e;exact⟨.bl k,H,I,rfl,q⟩
theorem TF:aN X (compareOp .Eq) II:=by
 intro pins s σ H x y v u Q I rx ry h;obtain⟨hs,q⟩:=h;cases x with
 | non =>
   cases rx;cases y with
   |non=>cases ry;exact ZV (fQ I q (by simp))
   |bl j=>cases ry;exact ZW (fQ I q (by simp))
   |int j=>obtain⟨t',rfl⟩:=ry;exact ZX (fQ I q (by simp))
   |str j=>obtain⟨t',rfl⟩:=ry;exact ZY (fQ I q (by simp))
   |_=>exact absurd (show false=true from hs) cq
 | bl i =>
   cases rx;cases y with
   |non=>cases ry;exact ZZ (fQ I q (by simp))
   |bl j=>cases ry;exact eq_bool (fQ I q JV)
   |str j=>obtain⟨t',rfl⟩:=ry;exact Z9 (fQ I q (by simp))
   |_=>exact absurd (show false=true from hs) cq
 | int i =>
   obtain⟨t,rfl⟩:=rx;cases y with
   |non=>cases ry;exact Z0 (fQ I q (by simp))
   |int j=>obtain⟨t',rfl⟩:=ry;exact eq_int (fQ I q Fn)
   |str j=>obtain⟨t',rfl⟩:=ry;exact aaa (fQ I q (by simp))
   |_=>exact absurd (show false=true from hs) cq
 | str i =>
   obtain⟨t,rfl⟩:=rx;cases y with
   |non=>cases ry;exact Z1 (fQ I q (by simp))
   |bl j=>cases ry;exact aab (fQ I q (by simp))
   |int j=>obtain⟨t',rfl⟩:=ry;exact aac (fQ I q (by simp))
   |str j=>obtain⟨t',rfl⟩:=ry;exact eq_str (fQ I q Fo)
   |_=>exact absurd (show false=true from hs) cq
 | kA i =>
   obtain⟨t,rfl⟩:=rx;cases y with
   |kA j=>obtain⟨t',rfl⟩:=ry;exact PySem.W.eq_bytes (fQ I q Fp)
   |_=>exact absurd (show false=true from hs) cq
 |_=>cases y<;>exact absurd (show false=true from hs) cq
theorem TH:aN X (compareOp .NotEq) XD:=by
 intro pins s σ H x y v u Q I rx ry h;obtain⟨hs,q⟩:=h;cases x with
 | non =>
   cases rx;cases y with
   |non=>cases ry;exact Z2 (fQ I q (by simp))
   |bl j=>cases ry;exact Z3 (fQ I q (by simp))
   |int j=>obtain⟨t',rfl⟩:=ry;exact Z4 (fQ I q (by simp))
   |str j=>obtain⟨t',rfl⟩:=ry;exact Z5 (fQ I q (by simp))
   |_=>exact absurd (show false=true from hs) cq
 | bl i =>
   cases rx;cases y with
   |non=>cases ry;exact Z6 (fQ I q (by simp))
   |bl j=>cases ry;exact ne_bool (fQ I q (congrArg not JV))
   |str j=>obtain⟨t',rfl⟩:=ry;exact aad (fQ I q (by simp))
   |_=>exact absurd (show false=true from hs) cq
 | int i =>
   obtain⟨t,rfl⟩:=rx;cases y with
   |non=>cases ry;exact Z7 (fQ I q (by simp))
   |int j=>obtain⟨t',rfl⟩:=ry;exact ne_int (fQ I q (congrArg not Fn))
   |str j=>obtain⟨t',rfl⟩:=ry;exact aae (fQ I q (by simp))
   |_=>exact absurd (show false=true from hs) cq
 | str i =>
   obtain⟨t,rfl⟩:=rx;cases y with
   |non=>cases ry;exact Z8 (fQ I q (by simp))
   |bl j=>cases ry;exact aaf (fQ I q (by simp))
   |int j=>obtain⟨t',rfl⟩:=ry;exact aag (fQ I q (by simp))
   |str j=>obtain⟨t',rfl⟩:=ry;exact ne_str (fQ I q (congrArg not Fo))
   |_=>exact absurd (show false=true from hs) cq
 | kA i =>
   obtain⟨t,rfl⟩:=rx;cases y with
   |kA j=>obtain⟨t',rfl⟩:=ry;exact PySem.W.ne_bytes (fQ I q (congrArg not Fp))
   |_=>exact absurd (show false=true from hs) cq
 |_=>cases y<;>exact absurd (show false=true from hs) cq
theorem TJ:aN X (compareOp .Lt) (eQ λi j=>.bl (decide (i<j))):=zK λ_ _ _ _ _ _ _ q=>lt_int q
theorem TL:aN X (compareOp .LtE) (eQ λi j=>.bl (decide (i<=j))):=zK λ_ _ _ _ _ _ _ q=>le_int q
theorem TM:aN X (compareOp .Gt) (eQ λi j=>.bl (decide (j<i))):=zK λ_ _ _ _ _ _ _ q=>gt_int q
theorem TN:aN X (compareOp .GtE) (eQ λi j=>.bl (decide (j<=i))):=zK λ_ _ _ _ _ _ _ q=>ge_int q
theorem aN.or {r r':R2}(h:aN X f r) (h':aN X f r'):aN X f (λx y H Q=>r x y H Q \/ r' x y H Q):=by
 intro pins s σ H x y v u Q I rx ry q;rcases q with q|q
 ·exact h pins s σ H x y v u Q I rx ry q
 ·exact h' pins s σ H x y v u Q I rx ry q
theorem Nr {r:R2}(ho:aN X (compareOp op) r) (ha:PE X a ta) (hb:PE X b tb) (hm:behindInMarks op b=false):PE X (.Compare a [op] [b] pos) (xA r ta tb):=by
 intro pins s σ H Q I h;exact Vj (IH ha hb I h λv u s2 x y H2 I2 rx ry q=>ho pins s2 σ H2 x y v u Q I2 rx ry q) hm
noncomputable def XE (t:TE):TT:=λσ H Q=>t σ H λx H'=>∃ k,x=.bl k /\ Q k H'
theorem Nt {r:R2}(ho:aN X (compareOp op) r) (ha:PE X a ta) (hb:PE X b tb) (hm:behindInMarks op b=false):PT X (.Compare a [op] [b] pos) (XE (xA r ta tb)):=by
 intro pins s σ H Q I h;refine Vk (ai (ha pins s σ H _ I h) λv s1 ⟨x,H1,I1,r1,q1⟩=>ai (hb pins s1 σ H1 _ I1 q1) λu s2 ⟨y,H2,I2,r2,q2⟩ =>
  ai (ho pins s2 σ H2 x y v u _ I2 r1 r2 q2) λc s3 ⟨z,H3,I3,r3,k,e,q3⟩=>?_) hm
 subst e;cases r3;exact nM ⟨H3,I3,q3⟩
def IJ (r r':R2) (ta tb tc:TE):TE:=λσ H Q=>ta σ H λx H1=>tb σ H1 λy H2=>r x y H2 λz H3=>∃ k,z=.bl k /\
 (if k=true then tc σ H3 λw' H4=>r' y w' H4 Q else Q (.bl false) H3)
theorem JW {cB:CmpOp}{r r':R2}(ho:aN X (compareOp op) r) (kC:aN X (compareOp cB) r') (ha:PE X a ta) (hb:PE X b tb) (hc:PE X c tc)
 (hm:lastMarks [op,cB] [b,c]=false):PE X (.Compare a [op,cB] [b,c] pos) (IJ r r' ta tb tc):=by
 intro pins s σ H Q I h;refine Compare_chain (ai (ha pins s σ H _ I h) λv s1 ⟨x,H1,I1,r1,q1⟩=>chain_link (ai (hb pins s1 σ H1 _ I1 q1) λu s2 ⟨y,H2,I2,r2,q2⟩ =>
  ai (ho pins s2 σ H2 x y v u _ I2 r1 r2 q2) λd s3 ⟨z,H3,I3,r3,k,e,q3⟩=>?_)) hm
 subst e;cases r3;refine nM ?_;cases k with
 |false=>exact ite_ff ⟨.bl false,H3,I3,rfl,q3⟩
 |true=>exact ite_tt (chain_last (ai (hc pins s3 σ H3 _ I3 q3) λw' s4 ⟨z',H4,I4,r4,q4⟩=>kC pins s4 σ H4 y z' u w' Q I4 r2 r4 q4))
theorem JX {cB:CmpOp}{r r':R2}(ho:aN X (compareOp op) r) (kC:aN X (compareOp cB) r') (ha:PE X a ta) (hb:PE X b tb) (hc:PE X c tc)
 (hm:lastMarks [op,cB] [b,c]=false):PT X (.Compare a [op,cB] [b,c] pos) (XE (IJ r r' ta tb tc)):=by
 intro pins s σ H Q I h;refine isTrue_chain (ai (ha pins s σ H _ I h) λv s1 ⟨x,H1,I1,r1,q1⟩=>test_link (ai (hb pins s1 σ H1 _ I1 q1) λu s2 ⟨y,H2,I2,r2,q2⟩ =>
  ai (ho pins s2 σ H2 x y v u _ I2 r1 r2 q2) λd s3 ⟨z,H3,I3,r3,k,e,q3⟩=>?_)) hm
 subst e;cases r3;refine nM ?_;cases k with
 | false =>
   obtain⟨k',e',q'⟩:=q3;cases e';exact ite_ff ⟨H3,I3,q'⟩
 | true =>
   refine ite_tt (test_last (ai (hc pins s3 σ H3 _ I3 q3) λw' s4 ⟨z',H4,I4,r4,q4⟩=>ai (kC pins s4 σ H4 y z' u w' _ I4 r2 r4 q4) λd' s5 ⟨z2,H5,I5,r5,k2,e2,q5⟩=>?_));subst e2;cases r5;exact nM ⟨H5,I5,q5⟩
def IK (K:PySem.W.Frag) (x:V) (H:Hp) (k:Bool):Prop :=
 match x with
 |.non=>k=false
 |.bl b=>k=b
 |.int i=>k=(i != 0)
 |.str y=>y.length<=sizeLine /\ k=((y.length:Int) != 0)
 |.kA y=>y.size<=sizeLine /\ k=((y.size:Int) != 0)
 |.ref p=>(∃ xs,aS K H p xs /\ k=!xs.isEmpty) \/ (∃ xs,aV K H p xs /\ k=!xs.isEmpty) \/ ∃ af,H p=some (.dK af) /\ k=!af.isEmpty
 |_=>False
theorem Du {κ:Type}{af:List (κ×V)}{vs:List (κ×Value)}(r:KV af vs):(!vs.isEmpty)=!af.isEmpty:=by
 cases r<;>rfl
theorem oZ {xs:List V}{its:List Value}(r:Vals xs its):(!its.toArray.isEmpty)=!xs.isEmpty:=by
 cases r<;>simp
theorem uw:(sizeLine:Nat)<2 ^ 63:=by rw[bp];decide
theorem Rs:aaX X (λx H Q=>∃ k,IK X.K x H k /\ Q k H):=by
 intro pins s σ H x v Q I rx h;obtain⟨k,e,q⟩:=h;have hl:=uw;have hs:sizeLine=16777216:=bp;cases x with
 | non =>
   cases rx;have e':k=false:=e;subst e';exact truthy_none ⟨H,I,q⟩
 | bl b =>
   cases rx;have e':k=b:=e;subst e';exact nM ⟨H,I,q⟩
 | int i =>
   obtain⟨t,rfl⟩:=rx;have e':k=(i != 0):=e;subst e';exact PySem.P.truthy_int ⟨H,I,q⟩
 | str y =>
   obtain⟨t,rfl⟩:=rx;obtain⟨hy,e'⟩:y.length<=sizeLine /\ k=((y.length:Int) != 0):=e;subst e';exact PySem.P.truthy_str (by omega) ⟨H,I.tok _,q⟩
 | kA y =>
   obtain⟨t,rfl⟩:=rx;obtain⟨hy,e'⟩:y.size<=sizeLine /\ k=((y.size:Int) != 0):=e;subst e';exact PySem.W.truthy_bytes (by omega) ⟨H,I.tok _,q⟩
 | ref p =>
   cases rx;have e':(∃ xs,aS X.K H p xs /\ k=!xs.isEmpty) \/ (∃ xs,aV X.K H p xs /\ k=!xs.isEmpty) \/ ∃ af,H p=some (.dK af) /\ k=!af.isEmpty:=e;rcases e' with⟨xs,hx,e'⟩|⟨xs,hx,e'⟩|⟨af,hx,e'⟩
   ·subst e';obtain⟨its,r,pl,hz⟩:=I.list hx;have hlen:=r.length;exact wpAny_truthy_list pl.isList (by simp only[aT];omega) ⟨H,I.tok _,by rw[oZ r];exact q⟩
   ·subst e';obtain⟨its,r,pl,hz⟩:=I.tuple hx;have hlen:=r.length;exact truthy_tuple pl (by simp only[aT];omega) ⟨H,I.tok _,by rw[oZ r];exact q⟩
   ·subst e';obtain⟨hz,hS,vs,r,m⟩:af.length<=sizeLine /\ (p==sysModules)=false /\ ∃ vs,KV af vs /\ s.heap.DictOf (eD X.prog X.w) p vs:=I.ak p _ hx;have hlen:af.length=vs.length:=Paired.length r;exact wpAny_truthy_dict hS m (by omega) ⟨H,I.tok _,by rw[Du r];exact q⟩
 |_=>exact(show False from e).elim
theorem JY (ha:PE X a ta) (he:∀ whole,isTrue a X.env whole=(do let v <-whole;standAt a.pos;holding [v] (truthy v))) :
 PT X a (λσ H Q=>ta σ H λx H'=>∃ k,IK X.K x H' k /\ Q k H'):=by
 intro pins s σ H Q I h;exact Wq (ai (ha pins s σ H _ I h) λv s1 ⟨x,H1,I1,r1,q1⟩=>Rs pins s1 σ H1 x v Q I1 r1 q1) (he _)
theorem Dv:aN X (binaryOp .Add) (λx y H Q=>∃ i j,x=.str i /\ y=.str j /\ i.length+j.length<=sizeLine /\ Q (.str (i++j)) H):=by
 intro pins s σ H x y v u Q I rx ry h;obtain⟨i,j,rfl,rfl,hz,q⟩:=h;obtain⟨t,rfl⟩:=rx;obtain⟨t',rfl⟩:=ry;exact add_str (λt' tk=>⟨.str (i++j),H,I.tok _,⟨_,rfl⟩,q⟩) hz
theorem vals1 {x:V}(r:Vals [x] us):∃ u,us=[u] /\ RelV x u:=by
 cases r with
 |cons r1 r2=>cases r2;exact⟨_,rfl,r1⟩
theorem vals2 {x y:V}(r:Vals [x,y] us):∃ u w',us=[u,w'] /\ RelV x u /\ RelV y w':=by
 cases r with
 | cons r1 r2 =>
   cases r2 with
   |cons r3 r4=>cases r4;exact⟨_,_,rfl,r1,r3⟩
theorem GJ (hc:X.calm=true):eE X (.builtin "max") (λxs H Q=>∃ i j,xs=[.int i,.int j] /\ Q (.int (if j>i then j else i)) H):=by
 intro pins s σ H xs us Q I r h;obtain⟨i,j,rfl,q⟩:=h;obtain⟨u,w',rfl,⟨t,rfl⟩,⟨t',rfl⟩⟩:=vals2 r;refine max_two_ints (I.ok.hd hc) λh' tk k=>⟨_,H,I.kept k,?_,q⟩;by_cases hj:j>i
 ·rw[if_pos hj,if_pos hj];exact⟨_,rfl⟩
 ·rw[if_neg hj,if_neg hj];exact⟨_,rfl⟩
theorem GK (hc:X.calm=true):eE X (.builtin "min") (λxs H Q=>∃ i j,xs=[.int i,.int j] /\ Q (.int (if j<i then j else i)) H):=by
 intro pins s σ H xs us Q I r h;obtain⟨i,j,rfl,q⟩:=h;obtain⟨u,w',rfl,⟨t,rfl⟩,⟨t',rfl⟩⟩:=vals2 r;refine min_two_ints (I.ok.hd hc) λh' tk k=>⟨_,H,I.kept k,?_,q⟩;by_cases hj:j<i
 ·rw[if_pos hj,if_pos hj];exact⟨_,rfl⟩
 ·rw[if_neg hj,if_neg hj];exact⟨_,rfl⟩
end
structure IL (h:Heap) (x dx C:Addr) (mA:Str->Option Value):Prop where
 obj:h.get? x=some (PySem.W.instObj C dx)
 ns:h.Ns1 dx mA
 ne:dx≠x
theorem GL {dx:Addr}(n:h.Ns1 dx mA):∃ od,h.get? dx=some od /\ ∀ name,PySem.W.lookIn name od=some (mA name):=by
 obtain⟨o,es,ep,ho,hd,hk,_,hm⟩:=n;refine⟨o,ho,λname=>?_⟩;have e:=hm name;unfold nsFind findBy at e;rw[<-Array.find?_toList]at e;unfold PySem.W.lookIn;rw[hd];dsimp only;split
 ·rename_i y q;rw[q]at e;exact congrArg some e
 ·rename_i q;rw[q]at e;have a:es.toList.any (·.refKey)=false:=by
   rw[List.any_eq_false];intro y hy;obtain⟨z,t,aa0⟩:=hk y (Array.mem_toList_iff.mp hy);simp[DictEntry.refKey,aa0]
  have a':¬ es.toList.any (·.refKey)=true:=by rw[a];exact cq
  rw[if_neg a'];exact congrArg some e
theorem IL.look {x dx C:Addr}(I:IL h x dx C mA):∃ od,PySem.W.InstAt h x (PySem.W.instObj C dx) C (some od) /\ ∀ name,PySem.W.lookIn name od=some (mA name):=
 let ⟨od,ho,hl⟩:=GL I.ns
 ⟨od,⟨I.obj,rfl,rfl,ho⟩,hl⟩
section
variable {x dx C f : Addr} {name : Str} {v : Value}
end
theorem e9.some_of {o:Option Value}(r:e9 (some v) o):∃ u,o=some u /\ RelV v u:=by
 cases o with
 |none=>exact(show False from r).elim
 |some u=>exact⟨u,rfl,r⟩
theorem e9.none_of {o:Option Value}(r:e9 none o):o=none:=by
 cases o with
 |none=>rfl
 |some u=>exact(show False from r).elim
section
variable {C dx : Addr} {fs aat : List (Str × V)}
theorem Nu (ak:bU P w H h) (e:H a=some (.ins C dx fs)):∃ mA,IL h a dx C mA /\ (∀ f,e9 (fs.lookup f) (mA f)) /\ PySem.Within mA (fs.map (·.1)) /\ fs.length<=1000 /\ H dx=some (.own a):=by
 obtain⟨d,z,ne,ob,mA,n,r,q⟩:=(show bE P w H h a (.ins C dx fs) from ak a _ e);exact⟨mA,⟨ob,n,ne⟩,r,q,z,d⟩
end
structure IM (K:PySem.W.Frag) (C:Addr):Prop where
 pg:PySem.W.plainGet K C Str.empty=true
 hd:PySem.W.hasDictIn K C=true
 po:PySem.W.plainOver K C=true
 sa:PySem.W.findIn K (.ref C) "__setattr__"=some (some (.builtin "object.__setattr__"))
theorem IM.get {C:Addr}(c:IM K C) (f:Str):PySem.W.plainGet K C f=true:=c.pg
section
variable {C dx : Addr} {fs : List (Str × V)} {f : Str} 
end
section
variable {o value : Expr} {f : Str} {pos' XF : Pos} {ta tv : TE}
end
section
variable {c : Value} {b : Bool}
inductive kO (K:PySem.W.Frag) (H:Hp):V->Value->Prop where
 |non:kO K H .non (.type "NoneType")
 |bl (x:Bool):kO K H (.bl x) (.type "bool")
 |int (i:Int):kO K H (.int i) (.type "int")
 |str (x:Str):kO K H (.str x) (.type "str")
 |sL (x:UInt64):kO K H (.sL x) (.type "float")
 |lst {a:Addr}{xs:List V}(e:H a=some (.lst xs)):kO K H (.ref a) (.type "list")
 |kB {a:Addr}{o:Obj}{xs:List V}(e:H a=some (.kB o (.lst xs))):kO K H (.ref a) (.type "list")
 |tup {a:Addr}{xs:List V}(e:H a=some (.tup xs)):kO K H (.ref a) (.type "tuple")
 |dK {a:Addr}{af:List (Key×V)}(e:H a=some (.dK af)):kO K H (.ref a) (.type "dict")
 |dT {a:Addr}{af:List (List Key×V)}(e:H a=some (.dT af)):kO K H (.ref a) (.type "dict")
 |ins {a C dx:Addr}{fs:List (Str×V)}(e:H a=some (.ins C dx fs)) (cl:IM K C) (ha:PySem.W.findIn K (.ref C) "__class__"=some (some (.builtin "object.__class__")))
  (hn:PySem.W.specialIn K (.builtin "object.__class__") "__get__"=some (some (.builtin "getset_descriptor.__get__"))) (XG:PySem.W.takesIn K (.builtin "object.__class__")=some true)
  (hm:PySem.W.mroIn K C (.type "object")=some true):kO K H (.ref a) (.ref C)
theorem GM {x:V}{t:Value}(I:Inv X pins σ H s) (rx:RelV x u) (ty:kO X.K H x t) (e:PySem.W.kitOne X.K t c=some b) (h:∀ tk,Q (.bool b) { s with toks:=tk }) :
 wpAny (model X.prog X.w) A (call (.builtin "isinstance") [u,c]) Q E s:=by
 cases ty with
 |non=>cases (show u=Value.none from rx);exact pH PySem.W.kitx_none I.dF True.intro e (λz=>nomatch z) h
 |bl y=>cases (show u=Value.bool y from rx);exact pH PySem.W.kitx_bool I.dF True.intro e (λz=>nomatch z) h
 |int i=>obtain⟨t,q⟩:=(show ∃ t,u=Value.int i t from rx);cases q;exact pH PySem.W.kitx_int I.dF True.intro e (λz=>nomatch z) h
 |str y=>obtain⟨t,q⟩:=(show ∃ t,u=Value.str y t from rx);cases q;exact pH PySem.W.kitx_str I.dF True.intro e (λz=>nomatch z) h
 |sL y=>obtain⟨t,q⟩:=(show ∃ t,u=Value.float y t from rx);cases q;exact pH PySem.W.kitx_float I.dF True.intro e (λz=>nomatch z) h
 | @lst a xs ea =>
   cases (show u=Value.ref a from rx);obtain⟨_,_,n,_,h1⟩:=(show bE X.prog X.w H s.heap a (.lst xs) from I.ak a _ ea);exact pH WM I.dF ⟨_,h1,rfl⟩ e (λz=>nomatch z) h
 | @kB a ob xs ea =>
   cases (show u=Value.ref a from rx);obtain⟨_,_,_,n,_,h1⟩:=(show bE X.prog X.w H s.heap a (.kB ob (.lst xs)) from I.ak a _ ea);exact pH WM I.dF ⟨_,h1,rfl⟩ e (λz=>nomatch z) h
 | @tup a xs ea =>
   cases (show u=Value.ref a from rx);obtain⟨_,_,_,p⟩:=(show bE X.prog X.w H s.heap a (.tup xs) from I.ak a _ ea);obtain⟨o,h1,h2,_⟩:=p;exact pH PySem.W.kitx_tuple I.dF ⟨o,h1,h2⟩ e (λz=>nomatch z) h
 | @dK a af ea =>
   cases (show u=Value.ref a from rx);obtain⟨_,_,vs,_,p⟩:=(show bE X.prog X.w H s.heap a (.dK af) from I.ak a _ ea);obtain⟨o,es,ep,h1,h2,_⟩:=p;exact pH WN I.dF ⟨o,h1,h2.1⟩ e (λz=>nomatch z) h
 | @dT a af ea =>
   cases (show u=Value.ref a from rx);obtain⟨_,_,xs,_,o,es,ep,h1,h2,_⟩:=(show bE X.prog X.w H s.heap a (.dT af) from I.ak a _ ea);exact pH WN I.dF ⟨o,h1,h2.1⟩ e (λz=>nomatch z) h
 | @ins a C dx fs ea cl ha hn XG hm =>
   cases (show u=Value.ref a from rx);obtain⟨mA,O,_⟩:=Nu I.ak ea;obtain⟨od,J,_⟩:=O.look;exact pH (PySem.W.kitx_own (cl.get _) cl.hd ha hn XG hm) I.dF J e (λz=>nomatch z) h
end
structure cZ (k:Nat) (A:Around):Prop where
 hd:A.handled=none
 dp:A.depth+3*k+5<recursionLimit
 un:A.units+16*k+200<cLine
 gd:A.guards=some []
theorem cZ.mono {k:Nat}(r:cZ k A) (h:j<=k):cZ j A:=⟨r.hd,by have:=r.dp;omega,by have:=r.un;omega,r.gd⟩
theorem cZ.deeper {k:Nat}{A:Around}(r:cZ (k+1) A) (env:Env):cZ k (A.deeper env):=
 ⟨r.hd,by have:=r.dp;show A.depth+1+3*k+5<_;omega,by have:=r.un;show A.units+3+16*k+200<_;omega,by first|exact r.gd|(rw[<-r.gd];first|rfl|simp[Around.under,Code.isGuard,guardIds])⟩
theorem cZ.depth {k:Nat}{A:Around}(r:cZ k A):A.depth<recursionLimit:=by have:=r.dp;omega
def xC:TA:=λ_ H Q=>Q [] H
def vX (ta:TE) (tr:TA):TA:=λσ H Q=>ta σ H λx H1=>tr σ H1 λxs H2=>Q (x::xs) H2
section
variable {te : TE} {t : TA} 
theorem lX:PA X [] xC:=λ_ _ _ _ H Q I h=>sJ ⟨[],H,I,.nil,h⟩
theorem iN (ha:PE X e te) (hr:PA X es t) (hs:starEach (e::es) X.env=(false,eval e X.env)::starEach es X.env):PA X (e::es) (vX te t):=by
 intro pos pins s σ H Q I h;rw[hs];show wpAny _ _ (spliced ((false,eval e X.env)::backTo pos (starEach es X.env))) _ _ s;refine qp (ai (ha pins s σ H _ I h) λu s1 ⟨x,H1,I1,r1,q1⟩=>?_);exact ai (hr pos pins s1 σ H1 _ I1 q1) λus s2 ⟨xs,H2,I2,r2,q2⟩=>⟨x::xs,H2,I2,.cons r1 r2,q2⟩
def aa1 (t:TA):TE:=λσ H Q=>t σ H λxs H1=>xs.length<=sizeLine /\ ∀ p,H1 p=none->Q (.ref p) (upd H1 p (.tup xs))
def aa2 (t:TA):TE:=λσ H Q=>t σ H λxs H1=>xs.length<=sizeLine /\ ∀ p,H1 p=none->Q (.ref p) (upd H1 p (.lst xs))
theorem Dw {x1}(h:PA X es t):PE X (.Tuple es x1 pos) (aa1 t):=by
 intro pins s σ H Q I hq;refine wpAny_Tuple_spliced (ai (h pos pins s σ H _ I hq) λus s1 ⟨xs,H1,I1,r,z,q⟩=>⟨by rw[<-r.length];exact z,?_⟩);have hf:H1 s1.heap.objs.size=none:=I1.ak.fresh (aq _);refine⟨.ref s1.heap.objs.size,upd H1 s1.heap.objs.size (.tup xs),I1.laid (t':=s1.toks) (λb u e=>aC _ e) (aq _) ?_,rfl,q _ hf⟩;exact⟨z,us,r,⟨_,aU _ rfl,rfl,_,rfl⟩⟩
theorem Rt (h:PA X es t):PE X (.List es pos) (aa2 t):=by
 intro pins s σ H Q I hq;refine wpAny_List_spliced (ai (h pos pins s σ H _ I hq) λus s1 ⟨xs,H1,I1,r,z,q⟩=>⟨by rw[<-r.length];exact z,?_⟩);have hf:H1 s1.heap.objs.size=none:=I1.ak.fresh (aq _);refine⟨.ref s1.heap.objs.size,upd H1 s1.heap.objs.size (.lst xs),I1.laid (t':=s1.toks) (λb u e=>aC _ e) (aq _) ?_,rfl,q _ hf⟩;exact⟨z,us,0,r,aU _ rfl⟩
end
abbrev Sp:=List V->Hp->VK->XK->Prop
abbrev nX:=List Env->Hp->Shared->XK->Value->Shared->Prop
structure zL (P:Program) (w:World) (K:PySem.W.Frag) (mg:Str->Option Value) (base:Heap) (A:Around) (outer:List Env) (s:Shared) (H:Hp):Prop where
 frames:A.frames=some outer
 mod:Mod K mg base
 bs:∀ b o,base.get? b=some o->s.heap.get? b=some o /\ H b=none
 uq:base.objs.size<=s.heap.objs.size
 pK:s.heap.FunFrames base outer
 vS:∀ b∈nh outer,H b=none
 ak:bU P w H s.heap
 bare:AllBare s.gens
def CE (outer:List Env) (P:Program) (w:World) (H:Hp) (s:Shared) (Q:VK) (u:Value) (s':Shared):Prop :=
 ∃ v H',s'.os=s.os /\ AllBare s'.gens /\ Un (nh outer) [] H H' s.heap s'.heap /\ bU P w H' s'.heap /\ RelV v u /\ Q v H'
def CR (CX:nX) (outer:List Env) (P:Program) (w:World) (H:Hp) (s:Shared) (Q:VK) (E:XK) (r:Result) (s':Shared):Prop :=
 match r with
 |.ok (.ret u)=>CE outer P w H s Q u s'
 |.ok _=>False
 |.error e=>CX outer H s E e s'
structure eR (P:Program) (w:World) (K:PySem.W.Frag) (mg:Str->Option Value) (base:Heap) (CX:nX) (k:Nat) (f:Addr) (fd:FuncData) (ps:List Str) (sp:Sp):Prop where
 len:∀ vs H Q E,sp vs H Q E->vs.length=ps.length
 run:∀ (A:Around) (outer:List Env) (s:Shared) (H:Hp) (args:Args) (us:List Value) (vs:List V) (Q:VK) (E:XK),cZ k A->zL P w K mg base A outer s H->BindsTo s fd args (ps.zip us)->Vals vs us->sp vs H Q E ->
  codeAny (model P w) A (.call (.ref f) args) (CR CX outer P w H s Q E) s
theorem eR.mono {P:Program}{w:World}{K:PySem.W.Frag}{mg:Str->Option Value}{base:Heap}{CX:nX}{j k:Nat}{f:Addr}{fd:FuncData}{ps:List Str}{sp:Sp}(F:eR P w K mg base CX j f fd ps sp) (h:j<=k) :
 eR P w K mg base CX k f fd ps sp:=⟨F.len,λA outer s H args us vs Q E hr=>F.run A outer s H args us vs Q E (hr.mono h)⟩
section
variable {s' : Shared}
theorem Inv.aa3 (I:Inv X pins σ H s):zL X.prog X.w X.K X.mg X.base X.A X.stack s H :=
 ⟨I.ok.frames,I.ok.mod,I.bs,bR I.ok.uq I.sz,I.stack,I.Xi,I.ak,I.bare⟩
theorem Inv.after {Q:VK}(I:Inv X pins σ H s) (h:CE X.stack X.prog X.w H s Q u s'):EP X pins σ Q u s':=by
 obtain⟨v,H',os,bare,un,ak,r,q⟩:=h;obtain⟨hh,g,d,t,IP⟩:=s';obtain rfl:IP=s.os:=os;exact⟨v,H',I.call (h':=hh) (g':=g) (d':=d) (t':=t) (ch:=[]) un ak bare (λb z=>absurd z (by simp)),r,q⟩
end
def IQ (sp:Sp) (rG:List V) (E:XK) (t:TA):TE:=λσ H Q=>t σ H λvs H1=>sp (vs++rG) H1 Q E
def Binds (K:PySem.W.Frag) (fd:FuncData) (ps:List Str) (ds:List Value):Prop :=
 ∀ (s:Shared) (us:List Value),K.In s.heap->(us++ds).length=ps.length->BindsTo s fd ⟨us,[]⟩ (ps.zip (us++ds))
theorem Binds.all {ps:List Str}(h:∀ us:List Value,us.length=ps.length->bindArgs fd ⟨us,[]⟩=pure (ps.zip us)):Binds K fd ps []:=λs us _ hl=>by
 rw[ng]at hl ⊢;exact .of_eq (h us hl)
def Passes (CX:nX) (X:Cx) (E:XK):Prop:=∀ (pins:List (Addr×Obj)) (σ:St) (H:Hp) (s:Shared) (e:Value) (s':Shared),Inv X pins σ H s->CX X.stack H s E e s'->X.xe e s'
section
variable {CX : nX} {k : Nat} {f C : Addr} {ps : List Str} {sp : Sp} {rG : List V} {ds : List Value} {E : XK} {m : Str} {p : Pos} {o : Expr} {ta : TE} {t : TA}
theorem Ru {Q:VK}(F:eR X.prog X.w X.K X.mg X.base CX k f fd ps sp) (hr:cZ k X.A) (hb:Binds X.K fd ps ds) (hd:Vals rG ds) (hx:Passes CX X E)
 (I:Inv X pins σ H s) (r:Vals vs us) (h:sp (vs++rG) H Q E):wpAny (model X.prog X.w) X.A (call (.ref f) us) (EP X pins σ Q) X.xe s:=by
 have r2:Vals (vs++rG) (us++ds):=r.append hd;have hl:(us++ds).length=ps.length:=by rw[<-r2.length];exact F.len _ _ _ _ h
 refine wpAny_call (vB (F.run X.A X.stack s H ⟨us,[]⟩ (us++ds) (vs++rG) Q E hr I.aa3 (hb s us I.dF hl) r2 h) λr s' hq=>?_);cases r with
 |error e=>exact hx pins σ H s e s' I hq
 | ok fl =>
   cases fl with
   |ret u=>exact I.after hq
   |next=>exact False.elim hq
   |brk=>exact False.elim hq
   |cont=>exact False.elim hq
theorem Fq (F:eR X.prog X.w X.K X.mg X.base CX k f fd ps sp) (hr:cZ k X.A) (hg:Gl X x) (hm:X.mg x=some (.ref f)) (hk:PySem.W.keepIn X.K (.ref f)=true) (hb:Binds X.K fd ps ds) (hd:Vals rG ds) (hx:Passes CX X E)
 (ha:PA X (e::es) t) (cJ:(x==("__debug__":Str))=false) (he:starEach (e::es) X.env=(false,eval e X.env)::starEach es X.env) (hZ:(backTo pos (starEach es X.env)).any (·.1)=false) :
 PE X (.Call (.Name x p) (e::es) [] pos) (IQ sp rG E t):=by
 intro pins s σ H Q I h;refine kJ (Fl I hg hm ?_ cJ);refine PySem.W.callWith_K (h₀:=X.base) I.ok.mod.Iu hk (ai (ha pos pins s σ H _ I h) λus s1 ⟨vs,H1,I1,r,q⟩=>⟨I1.dF,?_⟩) he hZ;exact Ru F hr hb hd hx I1 r q
end
section
variable {CX : nX} {k : Nat} {f C : Addr} {ps ks : List Str} {sp : Sp} {E : XK} {m : Str} {p aeK : Pos} {o : Expr} {aeL : List Keyword} {te ta : TE} {t tk : TA} {nm : Option Str}
variable {g : List Value -> List Value -> List Value} {gV : List V -> List V -> List V}
end
structure vY (N P:List Str) (sc:Scope):Prop where
 kind:sc.kind=.function
 co:sc.isCoroutine=false
 gen:sc.isGenerator=false
 nd:N.Nodup
 pre:N.take P.length=P
 par:∀ x∈P,sc.names.lookup x=some .local \/ sc.names.lookup x=some .cell
 aa4:∀ y∈sc.names,y.2≠.free
theorem A6 {kindOf:Str->Option NameKind}{x:Str}:∀ {binds:List (Str×Value)}{m:Str->Option Value},(∀ v,(x,v)∉binds)->bindL kindOf binds m x=m x
 |[],_,_=>rfl
 | (n,v)::r,m,h=>by
   unfold bindL;rw[A6 λw hw=>h w (bS _ hw)];split
   ·have:x≠n:=by rintro rfl;exact h v bZ
    simp[this]
   ·rfl
theorem A7 {kindOf:Str->Option NameKind}{x:Str}:∀ {binds:List (Str×Value)}{m:Str->Option Value},(∀ v,(x,v)∉binds)->bindC kindOf binds m x=m x
 |[],_,_=>rfl
 | (n,v)::r,m,h=>by
   unfold bindC;rw[A7 λw hw=>h w (bS _ hw)];split
   ·rfl
   ·have:x≠n:=by rintro rfl;exact h v bZ
    simp[this]
theorem A8 {kindOf:Str->Option NameKind}{x:Str}{v:Value}:∀ {P:List Str}{vs:List Value}{i:Nat}{m:Str->Option Value},P.Nodup->P[i]?=some x->vs[i]?=some v->kindOf x=some .local ->
 bindL kindOf (P.zip vs) m x=some v
 |[],_,_,_,_,h,_,_=>by simp at h
 |_::_,[],_,_,_,_,h,_=>by simp at h
 | p::P,w::vs,0,m,nd,h1,h2,hk=>by
   simp at h1 h2;subst h1;subst h2;show bindL kindOf ((p,w)::P.zip vs) m p=_;unfold bindL;rw[A6 λv hv=>(pF.mp nd).1 (Ht hv).1,if_pos hk];simp
 | p::P,w::vs,i+1,m,nd,h1,h2,hk=>by
   show bindL kindOf ((p,w)::P.zip vs) m x=_;unfold bindL;exact A8 (i:=i) (pF.mp nd).2 (by simpa using h1) (by simpa using h2) hk
theorem A9 {kindOf:Str->Option NameKind}{x:Str}{v:Value}:∀ {P:List Str}{vs:List Value}{i:Nat}{m:Str->Option Value},P.Nodup->P[i]?=some x->vs[i]?=some v->kindOf x≠some .local ->
 bindC kindOf (P.zip vs) m x=some v
 |[],_,_,_,_,h,_,_=>by simp at h
 |_::_,[],_,_,_,_,h,_=>by simp at h
 | p::P,w::vs,0,m,nd,h1,h2,hk=>by
   simp at h1 h2;subst h1;subst h2;show bindC kindOf ((p,w)::P.zip vs) m p=_;unfold bindC;rw[A7 λv hv=>(pF.mp nd).1 (Ht hv).1,if_neg hk];simp
 | p::P,w::vs,i+1,m,nd,h1,h2,hk=>by
   show bindC kindOf ((p,w)::P.zip vs) m x=_;unfold bindC;exact A9 (i:=i) (pF.mp nd).2 (by simpa using h1) (by simpa using h2) hk
noncomputable def start (N:List Str) (vs:List V):St:=vs.map some++List.replicate (N.length-vs.length) none
noncomputable def sR (CX:nX) (P:Program) (w:World) (K:PySem.W.Frag) (mg:Str->Option Value) (base:Heap) (N:List Str) (qual:Str) (scope:Scope) (f:Addr) (cd:Value) (A:Around) (outer:List Env) (s:Shared) (H:Hp) (E:XK):Cx where
 prog:=P
 w:=w
 K:=K
 mg:=mg
 base:=base
 A:=A.deeper (envOfC qual scope s.heap.objs.size f cd)
 N:=N
 s₀:=s
 H₀:=H
 env:=envOfC qual scope s.heap.objs.size f cd
 outer:=outer
 stack:=envOfC qual scope s.heap.objs.size f cd::outer
 ex:=[]
 calm:=true
 fn:=λ_=>true
 pn:=[]
 xe:=λe s'=>wpAny (model P w) (A.deeper (envOfC qual scope s.heap.objs.size f cd)) (leaving (envOfC qual scope s.heap.objs.size f cd) e) (λ_ IU=>CX outer H s E e IU) (λe' IU=>CX outer H s E e' IU) s'
theorem o6 {sc:Scope}(h:sc.names.lookup x=some .cell):∃ c,(cellsFrom n sc.names []).lookup x=some c:=by
 have q:=WO sc.names n [] (.inl h);exact Option.isSome_iff_exists.mp q
theorem GN {CX:nX}{ps:List Str}{qual:Str}{scope:Scope}{f:Addr}{cd:Value}{outer:List Env}{s1:Shared}{E:XK} 
 (S:vY N ps scope) (hd:A.handled=none) (e0:zL P w K mg base A outer s H) (hl:vs.length=ps.length) (r:Vals vs us)
 (x:InCallC s s.heap.objs.size (bindL (envOfC qual scope s.heap.objs.size f cd).kindOf (ps.zip us) λ_=>none) (cellsFrom (s.heap.objs.size+1) scope.names []) (bindC (envOfC qual scope s.heap.objs.size f cd).kindOf (ps.zip us) λ_=>none) s1) :
 Inv (sR CX P w K mg base N qual scope f cd A outer s H E) [] (start N vs) H s1:=by
 have hZ:ps.length<=N.length:=by have:=congrArg List.length S.pre;rw[vF]at this;omega
 obtain⟨h1,tk,rfl,hk⟩:=x.done;have xD:∀ b:Addr,b∉(sR CX P w K mg base N qual scope f cd A outer s H E).ex:=λb z=>absurd (show b∈([]:List Addr) from z) (by simp);refine⟨⟨e0.mod,S.kind,rfl,rfl,aq _,λy z c h1 h2=>?_,λy hy=>?_,λy c _ h=>?_,λ_=>hd,Around.frames_deeper e0.frames,.inr ⟨rfl,rfl⟩,λb z=>absurd z (xD b),e0.bs,e0.uq,λb _ _=>xD b,λb z=>absurd z (xD b),e0.pK,e0.vS⟩,
  rfl,e0.bare,Un.kept hk,⟨_,x.toInCall.ns,λi y v h1 h2 h3=>?_⟩,λy c h=>⟨_,x.cell y c h⟩,e0.ak.fresh (aq _),λy c h=>?_,λp hp=>absurd (show p∈([]:List (Addr×Obj)) from hp) (by simp),e0.ak.kept hk,?_⟩
 ·exact Vr x.apart (kK h1) (kK h2)
 ·have hy:scope.names.lookup y=some .cell \/ scope.names.lookup y=some .free:=hy;rcases hy with hy|hy
  ·exact o6 hy
  ·exact absurd rfl (S.aa4 _ (kK hy))
 ·exact nN (x.above y c (kK h))
 ·have hi:i<vs.length:=by
   unfold start at h2;by_cases hi:i<vs.length
   ·exact hi
   ·rw[cz (by simpa using hi)]at h2;rw[V0]at h2;split at h2<;>cases h2
  have ha:vs[i]?=some v:=by
   unfold start at h2;rw[cn (by simpa using hi),dS]at h2;cases e:vs[i]? with
   |none=>rw[e]at h2;cases h2
   |some a=>rw[e]at h2;cases h2;rfl
  obtain⟨u,hu,rv⟩:=r.get ha;have hp:ps[i]?=some y:=by
   rw[<-S.pre,V1 (by omega)];exact h1
  have XH:ps.Nodup:=by rw[<-S.pre];exact S.nd.sublist (V2 _ _)
  refine⟨u,rv,?_⟩;rcases S.par y (xf hp) with k|k
  ·exact .inl ⟨k,A8 XH hp hu k⟩
  ·obtain⟨c,e⟩:=o6 (n:=s.heap.objs.size+1) k;refine .inr ⟨.inl k,c,e,?_⟩;have q:=x.cell y c e;rw[A9 XH hp hu (by show scope.names.lookup y≠_;rw[k];decide)]at q;exact q
 ·exact e0.ak.fresh (nN (x.above y c (kK h)))
 ·unfold start;show _=N.length;rw[bM,aA,Hu];omega
theorem TQ {CX:nX}{k:Nat}{f:Addr}{name qual:Str}{params:Arguments}{body:List Stmt}{scope:Scope}{dV kV doc pm a7 ct oc:Value}{an od:Option Addr}
 {ps:List Str}{sp:Sp}(lk:K.lookup f=some ⟨oc,od,.func (PySem.W.fnOf name qual params body scope dV kV doc pm an a7 ct),nL⟩) (nj:PySem.W.codeIn K a7 qual=true) (S:vY N ps scope)
  (len:∀ vs H Q E,sp vs H Q E->vs.length=ps.length)
  (ux:∀ (A:Around) (outer:List Env) (s:Shared) (H:Hp) (vs:List V) (Q:VK) (E:XK),cZ k (A.deeper (envOfC qual scope s.heap.objs.size f a7))->sp vs H Q E ->
   ∃ t,dU (sR CX P w K mg base N qual scope f a7 A outer s H E) body t /\ t { nx:=λ_ H'=>Q .non H',rt:=Q } (start N vs) H) :
  eR P w K mg base CX (k+1) f (PySem.W.fnOf name qual params body scope dV kV doc pm an a7 ct) ps sp:=by
  refine⟨len,λA outer s H args us vs Q E hr e0 hb r vZ=>?_⟩;have hl:=len _ _ _ _ vZ;have KX:K.In s.heap:=e0.mod.Iu.keeps λb o e=>(e0.bs b o e).1;have lim:s.heap.NoLimit:=e0.mod.nolimit.keeps λb o e=>(e0.bs b o e).1;have aa5:∀ y∈ps.zip us,scope.names.lookup y.1=some .local \/ (scope.names.lookup y.1=some .cell /\ ((cellsFrom (s.heap.objs.size+1) scope.names []).lookup y.1).isSome=true):=λ⟨n,v⟩ hy=>by
   rcases S.par n (Ht hy).1 with q|q
   ·exact .inl q
   ·exact .inr ⟨q,WO _ _ _ (.inl q)⟩
  refine codeAny_call_function hr.depth (KX _ _ lk) rfl S.co S.gen rfl (PySem.W.codeRec_of KX nj) (hb _ _ _ _ ?_);refine wpAny_newFunctionEnv_cells S.kind aa5 λenv he s1 x=>?_;subst he;refine⟨lim.keeps x.toInCall.keep,codeAny_func ?_⟩;obtain⟨t,ht,hq⟩:=ux A outer s H vs Q E (hr.deeper _) vZ;have I:Inv (sR CX P w K mg base N qual scope f a7 A outer s H E) [] (start N vs) H s1:=GN S hr.hd e0 hl r x;refine cM (ht [] s1 (start N vs) H _ I hq) (λfl s' hs=>?_) λe s' hs=>hs;have fin:∀ {σ':St}{H':Hp}{v:V}{u:Value},Inv (sR CX P w K mg base N qual scope f a7 A outer s H E) [] σ' H' s'->RelV v u->Q v H'->CE outer P w H s Q u s' :=
   λ{σ' H' v u} J rv q=>⟨v,H',J.os,J.bare,J.base,J.ak,rv,q⟩
  cases fl with
  | ret u =>
    obtain⟨v,σ',H',J,rv,q⟩:=hs;exact fin J rv q
  | next =>
    obtain⟨σ',H',J,q⟩:=hs;exact fin (v:=V.non) (u:=Value.none) J rfl q
  | brk =>
    obtain⟨_,_,_,q⟩:=hs;exact False.elim q
  | cont =>
    obtain⟨_,_,_,q⟩:=hs;exact False.elim q
end L2
variable {CX : L2.nX}
namespace L2
section
variable {p : Pos} {t : TA} {id T : String} {r : List V -> Hp -> VK -> Prop}
def v7 (r:List V->Hp->VK->Prop) (t:TA):TE:=λσ H Q=>t σ H λvs H1=>r vs H1 Q
theorem o7 (hc:eE X (.builtin id) r) (hg:Gl X x) (hm:X.mg x=none) (hv:bootBuiltins x=some (.builtin id)) (ha:PA X (e::es) t) (hn:x ≠ "__name__") (cJ:(x==("__debug__":Str))=false)
 (he:starEach (e::es) X.env=(false,eval e X.env)::starEach es X.env) (hZ:(backTo pos (starEach es X.env)).any (·.1)=false):PE X (.Call (.Name x p) (e::es) [] pos) (v7 r t):=by
 intro pins s σ H Q I h;refine kJ (gJ I hg hm hv ?_ hn cJ);exact ZG (ai (ha pos pins s σ H _ I h) λus s1 ⟨vs,H1,I1,r1,q1⟩=>hc pins s1 σ H1 vs us Q I1 r1 q1) he hZ
theorem GO (hc:eE X (.type T) r) (hg:Gl X x) (hm:X.mg x=none) (hv:bootBuiltins x=some (.type T)) (ha:PA X (e::es) t) (hn:x ≠ "__name__") (cJ:(x==("__debug__":Str))=false)
 (he:starEach (e::es) X.env=(false,eval e X.env)::starEach es X.env) (hZ:(backTo pos (starEach es X.env)).any (·.1)=false):PE X (.Call (.Name x p) (e::es) [] pos) (v7 r t):=by
 intro pins s σ H Q I h;refine kJ (gJ I hg hm hv ?_ hn cJ);exact uh (ai (ha pos pins s σ H _ I h) λus s1 ⟨vs,H1,I1,r1,q1⟩=>hc pins s1 σ H1 vs us Q I1 r1 q1) he hZ
end
end L2
namespace HT
noncomputable def lexLt:List Int->List Int->Bool
 |[],[]=>false
 |[],_::_=>true
 |_::_,[]=>false
 |x::xs,y::ys=>if x=y then lexLt xs ys else decide (x<y)
theorem fR (x y:Int) (xs ys:List Int):lexLt (x::xs) (y::ys)=if x=y then lexLt xs ys else decide (x<y):=rfl
theorem lT:lexLt [] []=false:=rfl
theorem o8 (y:Int) (ys:List Int):lexLt [] (y::ys)=true:=rfl
theorem o9 (x:Int) (xs:List Int):lexLt (x::xs) []=false:=rfl
theorem JZ (A:Around) (s:Shared) (a:Int) (t:Tok) (c:Int) (u:Tok):∃ e,SeqAt.EqAt A s (.int a t) (.int c u) e /\ (e=true ↔ a=c):=
 ⟨(a==c),Xd a t c u,by simp⟩
theorem J0 (A:Around) (s:Shared) (a:Int) (t:Tok) (c:Int) (u:Tok) (prog:Program) (w:World) (E:Value->Shared->Prop) (Q:Value->Shared->Prop) (h:Q (.bool (decide (a<c))) s) :
 wpAny (model prog w) A (richCompare .Lt (.int a t) (.int c u)) Q E s :=
 (ZH h:wpAny (model prog w) A (compareOp .Lt (.int a t) (.int c u)) Q E s)
section
open PySem.SeqAt
open PySem.AutoSeq1 (wpAny_loadPart')
open PySem.MeetsSeq PySem.MeetsSeq2 PySem.MeetsSeq3
theorem AU (l b:Addr) (items items2:Array Value) (n n2:Nat) (dd sU:Option Addr) (sl sV:Array (Option Value)) (ns ms:List Int) (hi:IntsAre items.toList ns) (hj:IntsAre items2.toList ms) :
 Meets (Builtin.«tuple.__lt__» ⟨[.ref l,.ref b],[]⟩)
  (λ_ R s=>s.heap.get? l=some { cls:=.type "tuple",dict:=dd,data:=.seq items n,slots:=sl } /\ s.heap.get? b=some { cls:=.type "tuple",dict:=sU,data:=.seq items2 n2,slots:=sV } /\
   R (.ok (.ret (.bool (lexLt ns ms)))) s):=
 .of_wp λprog w A R s h=>by
  obtain⟨hp,g,d,tk,os⟩:=s;obtain⟨hl,hb,h⟩:=h;have f2:=aah;have z1:items.size=ns.length:=by rw[<-hi.length];simp
  have z2:items2.size=ms.length:=by rw[<-hj.length];simp
  wp_walk using wpAny_loadPart' hl,wpAny_loadPart' hb,wpAny_forIn_list _ (λrest b s'=>b.1=none /\ s'=⟨hp,g,d,tk,os⟩ /\ ∃ (vs ws:List Value) (aW qw:List Int),rest=vs.zip ws /\
   IntsAre vs aW /\ IntsAre ws qw /\ aW.length+items2.size=qw.length+items.size /\ R (.ok (.ret (.bool (lexLt aW qw)))) ⟨hp,g,d,tk,os⟩) _
  case turn =>
   rintro⟨y,x⟩ rest b s' ⟨uy,rfl,vs,ws,aW,qw,hz,IV,zM,hlen,hR⟩;cases IV with
   |nil=>rw[V3]at hz;cases hz
   | cons a t aa6 =>
     cases zM with
     |nil=>rw[List.zip_nil_right]at hz;cases hz
     | cons c u aa7 =>
       rw[ze]at hz;injection hz with aa8 aa9;injection aa8 with hy hx;subst hy hx;rw[fR]at hR;simp only[a9]at hlen;obtain⟨e,he,XI⟩:=JZ A.in1 ⟨hp,g,d,tk,os⟩ a t c u;refine ae (he prog w _ _ ?_);cases e with
       | true =>
         rw[if_pos (XI.mp rfl)]at hR
         wp_walk
         exact⟨rfl,rfl,_,_,_,_,aa9,aa6,aa7,by omega,hR⟩
       | false =>
         rw[if_neg (λq=>absurd (XI.mpr q) cq)]at hR;have aba:=J0 A.in1 ⟨hp,g,d,tk,os⟩ a t c u prog w
         wp_walk using aba
         exact⟨_,rfl,by simpa using hR⟩
  case fin =>
   rintro⟨b1,b2⟩ s' ⟨uy,rfl,vs,ws,aW,qw,hz,IV,zM,hlen,hR⟩;simp only at uy;subst uy;have hv:lexLt aW qw=decide (items.size<items2.size):=by
    cases IV with
    | nil =>
      cases zM with
      | nil =>
        simp only[nO]at hlen;rw[lT];exact(decide_eq_false (by omega)).symm
      | cons c u hw =>
        simp only[nO,a9]at hlen;rw[o8];exact(decide_eq_true (by omega)).symm
    | cons a t hv =>
      cases zM with
      | nil =>
        simp only[nO,a9]at hlen;rw[o9];exact(decide_eq_false (by omega)).symm
      | cons c u hw =>
        rw[ze]at hz;cases hz
   rw[hv]at hR
   wp_walk
   exact⟨_,rfl,by simpa[Builtin.Tuple.tupleCompareSizes] using hR⟩
  case h =>
   exact⟨rfl,rfl,items.toList,items2.toList,ns,ms,rfl,hi,hj,by omega,h⟩
end
theorem Dx {l b:Addr}{items2:Array Value}{ms:List Int}(hl:IsTup s.heap l items) (hb:IsTup s.heap b items2) (hi:IntsAre items.toList ns) (hj:IntsAre items2.toList ms)
 (hu:A.units<cLine) (h:Q (.bool (lexLt ns ms)) s):wpAny (model prog w) A (compareOp .Lt (.ref l) (.ref b)) Q E s:=by
 obtain⟨⟨cls,dd,data,sl⟩,ho,hc,n,hd⟩:=id hl;obtain⟨⟨XJ,sU,data2,sV⟩,qx,dG,n2,hd2⟩:=id hb;simp only at hc hd dG hd2;subst hc hd dG hd2;exact richCompare_meets_room (op:=.Lt) ⟨_,ho,rfl⟩ ⟨_,qx,rfl⟩ PySem.F.slot_tuple_lt PySem.F.entry_tuple_lt (PySem.F.args_tuple_lt_2 _ _) (AU l b items items2 n n2 dd sU sl sV ns ms hi hj)
  ⟨ho,qx,show Value.bool (lexLt ns ms)≠Value.notImplemented /\ Q (.bool (lexLt ns ms)) s from⟨(λx=>nomatch x),h⟩⟩ hu
theorem Nv {t b:Addr}{vs ws:List Value}(ht:IsTup s.heap t vs.toArray) (hb:IsTup s.heap b ws.toArray) (hv:vs≠[])
 (h1:ws=[]->Q (.ref t) s) (h2:ws≠[]->Q (.ref s.heap.objs.size) { s with heap:=s.heap.push { cls:=.type "tuple",data:=.seq (vs++ws).toArray } })
 (hsz:vs.length+ws.length<=sizeLine):wpAny (model prog w) A (binaryOp .Add (.ref t) (.ref b)) Q E s:=by
 obtain⟨⟨cls,dd,data,sl⟩,ho,hc,n,hd⟩:=id ht;obtain⟨⟨XJ,sU,data2,sV⟩,qx,dG,n2,hd2⟩:=id hb;simp only at hc hd dG hd2;subst hc hd dG hd2;have e:vs.toArray++ws.toArray=(vs++ws).toArray:=by simp
 by_cases hw:ws=[]
 ·exact Ha ⟨_,ho,rfl⟩ ⟨_,qx,rfl⟩ Hb Hc Ij Ik (Il _ _)
   (tuple_addW1 t b vs.toArray ws.toArray n n2 dd sU sl sV (by simpa using hv) (by simp[hw])) ⟨ho,qx,h1 hw⟩
 ·refine Ha ⟨_,ho,rfl⟩ ⟨_,qx,rfl⟩ Hb Hc Ij Ik (Il _ _)
   (tuple_addW2 t b vs.toArray ws.toArray n n2 dd sU sl sV (by simpa using hv) (by simpa using hw) (by rw[aT,aT];exact hsz)) ⟨ho,qx,?_⟩
  rw[e];exact h2 hw
noncomputable def aF (n d:Nat):Option Int->Nat
 |none=>d
 |some v=>if v<0 then (v+(n:Int)).toNat else min v.toNat n
theorem Cd (n d:Nat):aF n d none=d:=rfl
theorem Fs (n d k:Nat):aF n d (some (k:Int))=min k n:=by
 show (if (k:Int)<0 then ((k:Int)+(n:Int)).toNat else min (k:Int).toNat n)=min k n;rw[if_neg (by omega),cX]
theorem Rv (n d:Nat) (hd:d<=n) (o:Option Int):aF n d o<=n:=by
 cases o with
 |none=>exact hd
 | some v =>
   show (if v<0 then (v+(n:Int)).toNat else min v.toNat n)<=n;by_cases hv:v<0
   ·rw[if_pos hv];omega
   ·rw[if_neg hv];exact Nat.min_le_right _ _
theorem Ft (v:Int) (n d:Nat):(if v<0 then max (v+(n:Int)) 0 else min v (n:Int))=((aF n d (some v):Nat):Int):=by
 show (if v<0 then max (v+(n:Int)) 0 else min v (n:Int))=(((if v<0 then (v+(n:Int)).toNat else min v.toNat n):Nat):Int);by_cases hv:v<0
 ·simp only[if_pos hv];omega
 ·simp only[if_neg hv];omega
theorem Dy (lo hi:Option Int) (n:Nat):Builtin.Slice.sliceAdjust lo hi 1 (n:Int)=(((aF n 0 lo:Nat):Int),((aF n n hi:Nat):Int)):=by
 have h1:¬ ((1:Int)<0):=by omega
 unfold Builtin.Slice.sliceAdjust;simp only[h1,if_false];refine Prod.ext ?_ ?_
 ·cases lo with
  |none=>rfl
  |some v=>exact Ft v n 0
 ·cases hi with
  |none=>rfl
  |some v=>exact Ft v n n
theorem Dz (i j:Nat):Builtin.Slice.slicePlaces (i:Int) (j:Int) 1=j-i:=by
 unfold Builtin.Slice.slicePlaces;have h1:(1:Int)>0:=by omega
 simp only[h1,if_true,WJ];split<;>omega
theorem Aa {v:Value}{o:Option Int}{Q:Option Int->Shared->Prop}(p:IsPart v o) (h:Q o s):wpAny (model prog w) A (Builtin.Slice.slicePartIndex v) Q E s:=by
 cases p with
 |none=>exact Ws h
 |int i t=>exact slicePart_int h
theorem jB {sl:Addr}{vl vu:Value}{lo hi:Option Int}{Q:Int×Int×Nat->Shared->Prop}(hs:s.heap.IsSliceOf sl vl vu .none) (pl:IsPart vl lo) (pu:IsPart vu hi)
 (h:Q (((aF n 0 lo:Nat):Int),1,aF n n hi-aF n 0 lo) s):wpAny (model prog w) A (Builtin.Slice.sliceApplied (.ref sl) (pure (n:Int))) Q E s:=by
 obtain⟨os,uz,zN,eS⟩:=id hs;unfold Builtin.Slice.sliceApplied Builtin.Slice.sliceFields;refine ae (ae (eN uz eS (x:=vl) rfl (ae (eN uz eS (x:=vu) rfl (ae (eN uz eS (x:=.none) rfl (ag ?_)))))));refine ae (Ws ?_);show wpAny _ _ (if ((1:Int)==0)=true then _ else _) _ _ s;rw[if_neg (by decide)];refine ae (Aa pl (ae (Aa pu (ae (ag ?_)))));show wpAny _ _ (match Builtin.Slice.sliceAdjust lo hi 1 (n:Int) with|(lo,hi)=>pure (lo,(1:Int),Builtin.Slice.slicePlaces lo hi 1)) _ _ s;rw[Dy lo hi n];show wpAny _ _ (pure (((aF n 0 lo:Nat):Int),(1:Int),Builtin.Slice.slicePlaces ((aF n 0 lo:Nat):Int) ((aF n n hi:Nat):Int) 1)) _ _ s;rw[Dz];exact ag h
theorem J1 (xs:Array Value) (i k:Nat):((List.range k).filterMap λ(m:Nat)=>xs[((i:Int)+(m:Int)*1).toNat]?).toArray=((xs.toList.drop i).take k).toArray:=by
 have e:(λ(m:Nat)=>xs[((i:Int)+(m:Int)*1).toNat]?)=λm=>xs[i+m]?:=by
  funext m;have:((i:Int)+(m:Int)*1).toNat=i+m:=by omega
  rw[this]
 rw[e];have:=pick_run xs i k;rw[V4]at this;have e2:((λx=>xs[x]?)∘λx=>i+x)=λm=>xs[i+m]?:=rfl;rw[e2]at this;rw[this]
theorem mC {t sl:Addr}{vl vu:Value}{lo hi:Option Int}(ht:IsTup s.heap t items) (hs:s.heap.IsSliceOf sl vl vu .none) (pl:IsPart vl lo) (pu:IsPart vu hi)
 (hw:¬ (aF items.size 0 lo=0 /\ aF items.size items.size hi=items.size))
 (h:Q (.ref s.heap.objs.size) { s with heap:=s.heap.push { cls:=.type "tuple",data:=.seq ((items.toList.drop (aF items.size 0 lo)).take (aF items.size items.size hi-aF items.size 0 lo)).toArray } })
 (hsz:items.size<=sizeLine):wpAny (model prog w) A (getItem (.ref t) (.ref sl)) Q E s:=by
 have zO:sizeOk (.seq ((items.toList.drop (aF items.size 0 lo)).take (aF items.size items.size hi-aF items.size 0 lo)).toArray):=by
  show ((items.toList.drop (aF items.size 0 lo)).take (aF items.size items.size hi-aF items.size 0 lo)).toArray.size<=sizeLine;rw[aT,vF,xg,kz];omega
 have hj:aF items.size items.size hi<=items.size:=Rv _ _ (aq _) hi;obtain⟨os,uz,zN,eS⟩:=id hs;have IW:s.TypeIs (.ref sl) "slice":=⟨os,uz,zN⟩;unfold getItem;try with_reducible refine cP ?_
 first|refine ae (ag ?_)|skip
 refine ae (Vs ht.typeIs (by decide) ?_);refine ae (pz (name:=Str.ofString "__getitem__") ht.typeIs vL
  (dR vL ht.typeIs Wt ?_ (Wu _ _)))
 show wpAny _ _ (Builtin.Tuple.tupleItemsOf (.ref t) >>= _) _ _ s;refine ae (Wv ht ?_);refine ae (vC IW ?_);rw[if_pos (by decide)];refine ae (jB hs pl pu ?_);have zP:¬ ((((aF items.size 0 lo:Nat):Int)==0&&(1:Int)==1&&(aF items.size items.size hi-aF items.size 0 lo)==items.size)=true):=by
  intro q;rw[aE,aE]at q;have q1:((aF items.size 0 lo:Nat):Int)=0:=eq_of_beq q.1.1;have q2:aF items.size items.size hi-aF items.size 0 lo=items.size:=eq_of_beq q.2;exact hw ⟨by omega,by omega⟩
 show wpAny _ _ (if (((aF items.size 0 lo:Nat):Int)==0&&(1:Int)==1&&(aF items.size items.size hi-aF items.size 0 lo)==items.size)=true then _ else _) _ _ s;rw[if_neg zP,J1];first
  |exact ae (m:=Builtin.Tuple.tupleExact _) (cT (ag ⟨_,rfl,ag h⟩) zO)
  |exact ae (m:=Builtin.Tuple.tupleExact _) (cT (ae (ag (ag ⟨_,rfl,ag h⟩))) zO)
  |exact ae (ae (m:=Builtin.Tuple.tupleExact _) (cT (ag (ag ⟨_,rfl,ag h⟩)) zO))
  |exact ae (ae (m:=Builtin.Tuple.tupleExact _) (cT (ag ⟨_,rfl,ag h⟩) zO))
end HT
namespace L2
abbrev TO:=St->Hp->(Option Int->Hp->Prop)->Prop
def PO (X:Cx) (e:Option Expr) (t:TO):Prop :=
 ∀ (pins:List (Addr×Obj)) (s:Shared) (σ:St) (H:Hp) (Q:Option Int->Hp->Prop),Inv X pins σ H s->t σ H Q ->
  wpAny (model X.prog X.w) X.A (evalPart e X.env) (λu s'=>∃ o H',Inv X pins σ H' s' /\ IsPart u o /\ Q o H') X.xe s
noncomputable def abb:TO:=λ_ H Q=>Q none H
noncomputable def abd (t:TE):TO:=λσ H Q=>t σ H λx H1=>∃ i,x=.int i /\ Q (some i) H1
theorem jJ:∀ {us:List Value},Vals (ns.map V.int) us->IntsAre us ns:=by
 induction ns with
 |nil=>intro us r;rw[uc]at r;cases r;exact .nil
 | cons n ns ih =>
   intro us r;rw[aQ]at r;cases r with
   | cons r1 r2 =>
     obtain⟨t,e⟩:=r1;subst e;exact .cons n t (ih r2)
section
variable {te : TE} {lo hi : Option Expr} {tl th : TO} {p2 : Pos}
theorem Nw:PO X none abb:=by
 intro pins s σ H Q I h;rw[Hd];exact ag ⟨none,H,I,.none,h⟩
theorem Nx (h:PE X e te):PO X (some e) (abd te):=by
 intro pins s σ H Q I hw;rw[Vt];refine ai (h pins s σ H _ I hw) λu s1 ⟨x,H1,I1,r1,q1⟩=>?_;obtain⟨i,rfl,q⟩:=q1;obtain⟨t,rfl⟩:=r1;exact⟨some i,H1,I1,.int i t,q⟩
def rH (X:Cx) (r:V->Option Int->Option Int->Hp->VK->Prop):Prop :=
 ∀ (pins:List (Addr×Obj)) (s:Shared) (σ:St) (H:Hp) (x:V) (v vl vu:Value) (lo hi:Option Int) (sl:Addr) (Q:VK),Inv X pins σ H s->RelV x v->s.heap.IsSliceOf sl vl vu .none->IsPart vl lo->IsPart vu hi->r x lo hi H Q ->
  ∃ T id,typeLookup (.type T) "__getitem__"=pure (some (.builtin id)) /\ s.TypeIs v T /\ wpAny (model X.prog X.w) X.A (getItem v (.ref sl)) (EP X pins σ Q) X.xe s
theorem rH.or {r r':V->Option Int->Option Int->Hp->VK->Prop}(h:rH X r) (h':rH X r'):rH X (λx lo hi H Q=>r x lo hi H Q \/ r' x lo hi H Q):=by
 intro pins s σ H x v vl vu lo hi sl Q I rx hs pl pu q;rcases q with q|q
 ·exact h pins s σ H x v vl vu lo hi sl Q I rx hs pl pu q
 ·exact h' pins s σ H x v vl vu lo hi sl Q I rx hs pl pu q
def abe (r:V->Option Int->Option Int->Hp->VK->Prop) (te:TE) (tl th:TO):TE:=λσ H Q=>te σ H λx H1=>tl σ H1 λl H2=>th σ H2 λu H3=>r x l u H3 Q
theorem J2 {r:V->Option Int->Option Int->Hp->VK->Prop}(hr:rH X r) (he:PE X e te) (hl:PO X lo tl) (hu:PO X hi th):PE X (.Subscript e (.Slice lo hi none p2) pos) (abe r te tl th):=by
 intro pins s σ H Q I h;refine Subscript_ (ai (he pins s σ H _ I h) λv s1 ⟨x,H1,I1,r1,q1⟩=>?_);refine Vu (ai (hl pins s1 σ H1 _ I1 q1) λvl s2 ⟨l,H2,I2,pl,q2⟩=>ai (hu pins s2 σ H2 _ I2 q2) λvu s3 ⟨u,H3,I3,pu,q3⟩=>?_);rw[Hd];refine ag ?_;have I4:Inv X pins σ H3 { s3 with heap:=s3.heap.push { cls:=.type "slice",data:=.fields #[vl,vu,.none] } }:=I3.kept (t':=s3.toks) λb ob q=>aC _ q;obtain⟨T,id,hT,ht,hg⟩:=hr pins { s3 with heap:=s3.heap.push { cls:=.type "slice",data:=.fields #[vl,vu,.none] } } σ H3 x v vl vu l u s3.heap.objs.size Q I4 r1 (Heap.IsSliceOf.new ..) pl pu q3;show wpAny (model X.prog X.w) X.A (subscriptTail e (.Slice lo hi none p2) v (.ref s3.heap.objs.size)) (EP X pins σ Q) X.xe { s3 with heap:=s3.heap.push { cls:=.type "slice",data:=.fields #[vl,vu,.none] } };exact HZ (ops:=[.ref s3.heap.objs.size,v]) ht hT hg (by with_unfolding_all rfl)
def sW (xs:List V) (lo hi:Option Int):List V:=(xs.drop (HT.aF xs.length 0 lo)).take (HT.aF xs.length xs.length hi-HT.aF xs.length 0 lo)
theorem oA (xs:List V) (lo hi:Option Int):(sW xs lo hi).length<=xs.length:=by
 unfold sW;rw[vF,xg];omega
def XM (K:PySem.W.Frag):V->Option Int->Option Int->Hp->VK->Prop:=λx lo hi H Q=>∃ a xs,x=.ref a /\ aV K H a xs /\
 ¬ (HT.aF xs.length 0 lo=0 /\ HT.aF xs.length xs.length hi=xs.length) /\ ∀ p,H p=none->Q (.ref p) (upd H p (.tup (sW xs lo hi)))
theorem Rw:rH X (XM X.K):=by
 intro pins s σ H x v vl vu lo hi sl Q I rx hs pl pu h;obtain⟨a,xs,rfl,hx,hw,q⟩:=h;cases rx;obtain⟨its,r,ht,hz⟩:=I.tuple hx;have hlen:its.toArray.size=xs.length:=by rw[aT];exact r.length.symm
 refine⟨"tuple",_,vL.lookup,ht.typeIs,?_⟩;refine HT.mC ht hs pl pu (by rw[hlen];exact hw) ?_ (by rw[hlen];exact hz);rw[hlen];refine⟨.ref s.heap.objs.size,_,I.laid (t':=s.toks) (o:=.tup (sW xs lo hi)) (λb ob q=>aC _ q) (aq _) ?_,rfl,q _ (I.ak.fresh (aq _))⟩;exact⟨bR (oA xs lo hi) hz,_,(r.drop (HT.aF xs.length 0 lo)).take (HT.aF xs.length xs.length hi-HT.aF xs.length 0 lo),IsTup.new _ _⟩
def IZ (K:PySem.W.Frag):R2:=λx y H Q=>∃ a b ns ms,x=.ref a /\ y=.ref b /\ aV K H a (ns.map V.int) /\ aV K H b (ms.map V.int) /\ Q (.bl (HT.lexLt ns ms)) H
theorem Rx (hu:X.A.units<cLine):aN X (compareOp .Lt) (IZ X.K):=by
 intro pins s σ H x y v u Q I rx ry h;obtain⟨a,b,ns,ms,rfl,rfl,ha,hb,q⟩:=h;cases rx;cases ry;obtain⟨its,r1,p1,_⟩:=I.tuple ha;obtain⟨kP,r2,p2,_⟩:=I.tuple hb;have i1:IntsAre its.toArray.toList ns:=jJ r1;have i2:IntsAre kP.toArray.toList ms:=jJ r2;exact HT.Dx p1 p2 i1 i2 hu ⟨.bl (HT.lexLt ns ms),H,I,rfl,q⟩
def XO (K:PySem.W.Frag):R2:=λx y H Q=>∃ a b xs ys,x=.ref a /\ y=.ref b /\ aV K H a xs /\ aV K H b ys /\ xs≠[] /\ xs.length+ys.length<=sizeLine /\
 (ys=[]->Q (.ref a) H) /\ (ys≠[]->∀ p,H p=none->Q (.ref p) (upd H p (.tup (xs++ys))))
theorem Vals.Ka {xs:List V}(r:Vals xs us):us=[] ↔ xs=[]:=by
 cases r with
 |nil=>simp
 |cons _ _=>simp
theorem Ny:aN X (binaryOp .Add) (XO X.K):=by
 intro pins s σ H x y v u Q I rx ry h;obtain⟨a,b,xs,ys,rfl,rfl,ha,hb,hx,hz,q1,q2⟩:=h;cases rx;cases ry;obtain⟨its,r1,p1,_⟩:=I.tuple ha;obtain⟨kP,r2,p2,_⟩:=I.tuple hb;refine HT.Nv p1 p2 (λz=>hx (r1.Ka.mp z)) (λz=>⟨.ref a,H,I,rfl,q1 (r2.Ka.mp z)⟩) (λz=>?_) (by rw[<-r1.length,<-r2.length];exact hz);refine⟨.ref s.heap.objs.size,_,I.laid (t':=s.toks) (o:=.tup (xs++ys)) (λb ob q=>aC _ q) (aq _) ?_,rfl,q2 (λw=>z (r2.Ka.mpr w)) _ (I.ak.fresh (aq _))⟩;exact⟨by rw[bM];exact hz,_,r1.append r2,IsTup.new _ _⟩
end
noncomputable def b9 (n:Nat) (i:Int):Option Nat:=if 0<=i then (if i<n then some i.toNat else none) else if -(n:Int)<=i then some (i+n).toNat else none
def bc (xs:List α) (i:Int):Option α:=(b9 xs.length i).bind λj=>xs[j]?
theorem BA {i:Int}(h:b9 n i=some j):seqIndex? i n=some j /\ j<n /\ -(n:Int)<=i /\ i<n:=by
 unfold b9 at h;by_cases h0:0<=i
 ·rw[if_pos h0]at h;by_cases h1:i<n
  ·rw[if_pos h1]at h;have e:i.toNat=j:=Option.some.inj h;exact⟨by rw[He h0 h1,e],by omega,by omega,h1⟩
  ·rw[if_neg h1]at h;cases h
 ·rw[if_neg h0]at h;by_cases h1:-(n:Int)<=i
  ·rw[if_pos h1]at h;have e:(i+n).toNat=j:=Option.some.inj h;exact⟨by rw[seqIndex_neg (by omega) h1,e],by omega,h1,by omega⟩
  ·rw[if_neg h1]at h;cases h
theorem BB {xs:List α}{i:Int}{v:α}(h:bc xs i=some v):∃ j,seqIndex? i xs.length=some j /\ xs[j]?=some v /\ j<xs.length /\ -(xs.length:Int)<=i /\ i<xs.length:=by
 unfold bc at h;cases e:b9 xs.length i with
 |none=>rw[e]at h;cases h
 | some j =>
   rw[e]at h;obtain⟨h1,h2,h3,h4⟩:=BA e;exact⟨j,h1,h,h2,h3,h4⟩
def zQ (b:Expr):Prop:=∀ o i,subscripted b false o i=operate [o,i] (getItem o i)
def qy (X:Cx) (r:R2):Prop :=
 ∀ (value slice:Expr) (pins:List (Addr×Obj)) (s:Shared) (σ:St) (H:Hp) (x y:V) (v u:Value) (Q:VK),Inv X pins σ H s->RelV x v->RelV y u->r x y H Q ->
  subscripted slice false v u=operate [v,u] (getItem v u)->wpAny (model X.prog X.w) X.A (subscriptTail value slice v u) (EP X pins σ Q) X.xe s
def Kb (X:Cx) (id:String) (r:V->List V->Hp->VK->Prop):Prop :=
 ∀ (pins:List (Addr×Obj)) (s:Shared) (σ:St) (H:Hp) (x:V) (xs:List V) (v:Value) (us:List Value) (Q:VK),Inv X pins σ H s->RelV x v->Vals xs us->r x xs H Q ->
  wpAny (model X.prog X.w) X.A (call (.builtin id) (v::us)) (EP X pins σ Q) X.xe s
section
variable {a b : Expr} {ta tb : TE} 
theorem qy.or {r r':R2}(h:qy X r) (h':qy X r'):qy X (λx y H Q=>r x y H Q \/ r' x y H Q):=by
 intro value slice pins s σ H x y v u Q I rx ry q hs;rcases q with q|q
 ·exact h value slice pins s σ H x y v u Q I rx ry q hs
 ·exact h' value slice pins s σ H x y v u Q I rx ry q hs
theorem Pt {r:R2}(hr:qy X r) (ha:PE X a ta) (hb:PE X b tb) (hs:zQ b):PE X (.Subscript a b pos) (xA r ta tb):=by
 intro pins s σ H Q I h;exact Subscript_ (IH ha hb I h λv u s2 x y H2 I2 rx ry q=>hr a b pins s2 σ H2 x y v u Q I2 rx ry q (hs _ _))
def XQ (K:PySem.W.Frag):R2:=λx y H Q=>∃ p xs i v,x=.ref p /\ y=.int i /\ aS K H p xs /\ bc xs i=some v /\ Q v H
def XR (K:PySem.W.Frag):R2:=λx y H Q=>∃ p xs i v,x=.ref p /\ y=.int i /\ aV K H p xs /\ bc xs i=some v /\ Q v H
def XS:R2:=λx y H Q=>∃ z i c,x=.str z /\ y=.int i /\ z.length<=sizeLine /\ bc z.cps.toList i=some c /\ Q (.str ⟨#[c]⟩) H
theorem Fu:qy X (XQ X.K):=by
 intro value slice pins s σ H x y v u Q I rx ry h hs;obtain⟨p,xs,i,z,rfl,rfl,hq,he,q⟩:=h;cases rx;obtain⟨t,rfl⟩:=ry;obtain⟨its,r,pl,hz⟩:=I.list hq;obtain⟨j,h1,h2,h3,h4,h5⟩:=BB he;obtain⟨w,ew,hV⟩:=r.get h2;have hl:=r.length;have hn:=uw;have fin:EP X pins σ Q w s:=⟨z,H,I,hV,q⟩;by_cases h0:0<=i
 ·have hj:i.toNat=j:=by
   rw[He h0 h5]at h1;exact Option.some.inj h1
  exact item_listR pl.isList h0 (by omega) (by rw[hj];simpa using ew) fin hs
 ·have hj:(i+(its.toArray.size:Int)).toNat=j:=by
   rw[seqIndex_neg (by omega) h4]at h1;rw[aT,<-hl];exact Option.some.inj h1
  exact Ww (x:=w) pl.isList.typeIs slot_list_getitem.lookup
   (wpAny_getItem_list_neg (Q:=λr s'=>r=w /\ EP X pins σ Q r s') pl.isList (by omega) (by rw[aT]<;>omega) (by omega) (by rw[hj];simpa using ew) ⟨rfl,fin⟩) hs
theorem Ry:qy X (XR X.K):=by
 intro value slice pins s σ H x y v u Q I rx ry h hs;obtain⟨p,xs,i,z,rfl,rfl,hq,he,q⟩:=h;cases rx;obtain⟨t,rfl⟩:=ry;obtain⟨its,r,pl,hz⟩:=I.tuple hq;obtain⟨j,h1,h2,h3,h4,h5⟩:=BB he;obtain⟨w,ew,hV⟩:=r.get h2;have hl:=r.length;have hn:=uw;have fin:EP X pins σ Q w s:=⟨z,H,I,hV,q⟩;exact Ww (x:=w) pl.typeIs slot_tuple_getitem.lookup
  (getItem_tuple (j:=j) (Q:=λr s'=>r=w /\ EP X pins σ Q r s') pl (by omega) (by omega) (by rw[aT,<-hl];exact h1) (by simpa using ew) ⟨rfl,fin⟩) hs
theorem Rz:qy X XS:=by
 intro value slice pins s σ H x y v u Q I rx ry h hs;obtain⟨z,i,c,rfl,rfl,hz,he,q⟩:=h;obtain⟨t,rfl⟩:=rx;obtain⟨t',rfl⟩:=ry;obtain⟨j,h1,h2,h3,h4,h5⟩:=BB he;have hl:z.cps.toList.length=z.length:=by simp[Str.length]
 rw[hl]at h1 h4 h5;have hn:=uw;exact HZ (typeIs_str s z t) slot_str_getitem.lookup (getItem_str (c:=c) (by
  have e1:decide (i < -(2 ^ 63:Int))=false:=decide_eq_false (by omega);have e2:decide (i>=2 ^ 63)=false:=decide_eq_false (by omega);rw[e1,e2,Bool.or_false]) (by rw[h1];simpa using h2) ⟨.str ⟨#[c]⟩,H,I.tok _,⟨_,rfl⟩,q⟩) hs
def XT (K:PySem.W.Frag):R2:=λx y H Q=>XQ K x y H Q \/ XR K x y H Q \/ XS x y H Q
theorem RC:qy X (XT X.K):=Fu.or (Ry.or Rz)
theorem DA (its:List Value) (n j:Nat) (u:Value):Obj.mapSeq (·.setIfInBounds j u) { cls:=.type "list",data:=.seq its.toArray n }={ cls:=.type "list",data:=.seq (its.set j u).toArray n }:=by
 simp[Obj.mapSeq]
theorem Inv.lst {pins:List (Addr×Obj)}{σ:St}{H:Hp}{s:Shared}{p:Addr}{xs:List V}(I:Inv X pins σ H s) (h:H p=some (.lst xs)) :
 ∃ (its:List Value) (n:Nat),Vals xs its /\ s.heap.get? p=some { cls:=.type "list",data:=.seq its.toArray n } /\ xs.length<=sizeLine:=by
 obtain⟨z,its,n,r,e⟩:=I.ak p _ h;exact⟨its,n,r,e,z⟩
theorem Inv.abf {p:Addr}{xs ys:List V}{its its':List Value}{n':Nat}{f:Obj->Obj}(I:Inv X pins σ H s) (h:H p=some (.lst xs))
 (ho:s.heap.get? p=some { cls:=.type "list",data:=.seq its.toArray n }) (hf:f { cls:=.type "list",data:=.seq its.toArray n }={ cls:=.type "list",data:=.seq its'.toArray n' }) (r:Vals ys its') (hz:ys.length<=sizeLine) (t:Nat) :
 Inv X pins σ (upd H p (.lst ys)) { s with heap:=s.heap.update p f,toks:=t }:=by
 have e:(s.heap.update p f).get? p=some { cls:=.type "list",data:=.seq its'.toArray n' }:=by
  rw[pG f ho (by rw[hf]<;>rfl),hf]
 refine I.write (x:=p) (e:=p) (by rw[h];trivial) (.inl rfl) (λb u hb q=>(zt _ _ (Ne.symm hb)).trans q) ⟨_,e⟩ ?_;exact⟨hz,its',n',r,e⟩
def abg:V->V->V->Hp->(Hp->Prop)->Prop:=λo i v H Q=>∃ p xs k j,o=.ref p /\ i=.int k /\ H p=some (.lst xs) /\ b9 xs.length k=some j /\ Q (upd H p (.lst (xs.set j v)))
theorem J3:Xu X abg:=by
 intro pins s σ H o i v ov iv u Q I ro ri rv h;obtain⟨p,xs,k,j,rfl,rfl,hp,hj,q⟩:=h;cases ro;obtain⟨t,rfl⟩:=ri;obtain⟨its,n,r,ho,hz⟩:=I.lst hp;obtain⟨h1,h2,h3,h4⟩:=BA hj;have hl:=r.length;have hn:=uw;have I':Inv X pins σ (upd H p (.lst (xs.set j v))) { s with heap:=s.heap.update p (Obj.mapSeq (·.setIfInBounds j u)) } :=
  I.abf hp ho (DA its n j u) (r.set rv j) (by rw[kL];exact hz) s.toks
 by_cases h0:0<=k
 ·have hk:k.toNat=j:=by
   rw[He h0 h4]at h1;exact Option.some.inj h1
  exact PySem.W.ki_setAt ho h0 (by omega) (by rw[aT,<-hl];exact h4) (by rw[hk];exact⟨_,I',q⟩)
 ·have hk:(k+(its.toArray.size:Int)).toNat=j:=by
   rw[seqIndex_neg (by omega) h3]at h1;rw[aT,<-hl];exact Option.some.inj h1
  exact PySem.W.ki_setBack ho (by omega) (by rw[aT,<-hl];exact h3) (by omega) (by rw[hk];exact⟨_,I',q⟩)
theorem BC (lo hi:Option Int) (n:Nat):(sliceBounds lo hi none n).1=((HT.aF n 0 lo:Nat):Int) /\ (sliceBounds lo hi none n).2.1=((HT.aF n n hi:Nat):Int) /\ (sliceBounds lo hi none n).2.2=1:=by
 refine⟨?_,?_,rfl⟩
 ·cases lo with
  |none=>simp[sliceBounds,HT.aF]
  | some i =>
    simp only[sliceBounds,HT.aF,HW,show (1:Int)>0 by decide,if_true];by_cases h:i<0
    ·simp only[h,if_true]<;>omega
    ·simp only[h,if_false]<;>omega
 ·cases hi with
  |none=>simp[sliceBounds,HT.aF]
  | some i =>
    simp only[sliceBounds,HT.aF,HW,show (1:Int)>0 by decide,if_true];by_cases h:i<0
    ·simp only[h,if_true]<;>omega
    ·simp only[h,if_false]<;>omega
theorem AV (its:List Value) (lo hi:Option Int):slicePick its.toArray lo hi none=((its.drop (HT.aF its.length 0 lo)).take (HT.aF its.length its.length hi-HT.aF its.length 0 lo)).toArray:=by
 obtain⟨h1,h2,h3⟩:=BC lo hi its.toArray.size;unfold slicePick;rw[h1,h2,h3];simp only[sliceRange_one,pick_run,aT]<;>rfl
def XU (K:PySem.W.Frag):V->Option Int->Option Int->Hp->VK->Prop:=λx lo hi H Q=>∃ a xs,x=.ref a /\ aS K H a xs /\ ∀ p,H p=none->Q (.ref p) (upd H p (.lst (sW xs lo hi)))
theorem Nz:rH X (XU X.K):=by
 intro pins s σ H x v vl vu lo hi sl Q I rx hs pl pu h;obtain⟨a,xs,rfl,hx,q⟩:=h;cases rx;obtain⟨its,r,ht,hz⟩:=I.list hx;have hlen:=r.length;refine⟨"list",_,slot_list_getitem.lookup,ht.isList.typeIs,?_⟩;refine Vv ht.isList hs pl pu .none (by simp) ?_ (by rw[aT]<;>omega);rw[AV,<-hlen];refine⟨.ref s.heap.objs.size,_,I.laid (t':=s.toks) (o:=.lst (sW xs lo hi)) (λb ob q=>aC _ q) (aq _) ?_,rfl,q _ (I.ak.fresh (aq _))⟩;exact⟨bR (oA xs lo hi) hz,_,0,(r.drop (HT.aF xs.length 0 lo)).take (HT.aF xs.length xs.length hi-HT.aF xs.length 0 lo),aU _ rfl⟩
noncomputable def qz:V->Bool
 |.non=>true
 |.bl _=>true
 |.int _=>true
 |.str _=>true
 |_=>false
noncomputable def rJ:V->V->Bool
 |.non,.non=>true
 |.bl a,.bl b=>a==b
 |.bl a,.int b=>(if a then 1 else 0)==b
 |.int a,.bl b=>a==(if b then 1 else 0)
 |.int a,.int b=>a==b
 |.str a,.str b=>a==b
 |_,_=>false
theorem RD {y x:V}{v:Value}(ry:RelV y u) (rx:RelV x v) (fy:qz y=true) (fx:qz x=true):SeqAt.EqAt A s u v (rJ y x):=by
 cases y with
 | non =>
   cases ry;cases x with
   |non=>cases rx;exact SeqAt.EqAt.same _
   |bl b=>cases rx;exact ZJ b
   |int b=>obtain⟨t,rfl⟩:=rx;exact ZK b t
   |str b=>obtain⟨t,rfl⟩:=rx;exact ZL b t
   |_=>exact absurd (show false=true from fx) cq
 | bl a =>
   cases ry;cases x with
   |non=>cases rx;exact ZM a
   |bl b=>cases rx;exact ZN a b
   |int b=>obtain⟨t,rfl⟩:=rx;exact ZO a b t
   |str b=>obtain⟨t,rfl⟩:=rx;exact ZP a b t
   |_=>exact absurd (show false=true from fx) cq
 | int a =>
   obtain⟨t',rfl⟩:=ry;cases x with
   |non=>cases rx;exact ZQ a t'
   |bl b=>cases rx;exact ZR a t' b
   |int b=>obtain⟨t,rfl⟩:=rx;exact Xd a t' b t
   |str b=>obtain⟨t,rfl⟩:=rx;exact Xa a t' b t
   |_=>exact absurd (show false=true from fx) cq
 | str a =>
   obtain⟨t',rfl⟩:=ry;cases x with
   |non=>cases rx;exact ZS a t'
   |bl b=>cases rx;exact ZT a t' b
   |int b=>obtain⟨t,rfl⟩:=rx;exact Xc a t' b t
   |str b=>obtain⟨t,rfl⟩:=rx;exact ZU a t' b t
   |_=>exact absurd (show false=true from fx) cq
 |_=>exact absurd (show false=true from fy) cq
def kD (x:V) (u:Value):Bool:=match u with
 |.none=>rJ .non x
 |.bool b=>rJ (.bl b) x
 |.int i _=>rJ (.int i) x
 |.str z _=>rJ (.str z) x
 |_=>false
theorem J4 {x y:V}(r:RelV y u) (f:qz y=true):kD x u=rJ y x:=by
 cases y with
 |non=>cases r;rfl
 |bl b=>cases r;rfl
 |int i=>obtain⟨t,rfl⟩:=r;rfl
 |str z=>obtain⟨t,rfl⟩:=r;rfl
 |_=>exact absurd (show false=true from f) cq
theorem mD {x:V}:∀ {xs:List V}{us:List Value},Vals xs us->xs.all qz=true->us.any (kD x)=xs.any λy=>rJ y x
 |_,_,.nil,_=>rfl
 | y::xs,u::us,.cons r t,f=>by
   rw[qj,aE]at f;rw[rn,rn,J4 r f.1,mD t f.2]
theorem j8 {A:Around}{s:Shared}{x:V}{v:Value}(rx:RelV x v) (fx:qz x=true):∀ {xs:List V}{us:List Value},Vals xs us->xs.all qz=true->∀ u∈us,SeqAt.EqAt A s u v (kD x u)
 |_,_,.nil,_=>λu hu=>by cases hu
 | y::xs,u::us,.cons r t,f=>λu' hu=>by
   rw[qj,aE]at f;rcases aO.mp hu with rfl|hu
   ·rw[J4 r f.1];exact RD r rx f.1 fx
   ·exact j8 rx fx t f.2 u' hu
def zR (x:V) (xs:List V):Bool:=xs.any λy=>rJ y x
def zS (K:PySem.W.Frag) (neg:Bool):R2:=λx y H Q=>∃ p xs,y=.ref p /\ (aS K H p xs \/ aV K H p xs) /\ qz x=true /\ xs.all qz=true /\ Q (.bl (if neg then !zR x xs else zR x xs)) H
theorem GP:aN X (compareOp .In) (zS X.K false):=by
 intro pins s σ H x y v u Q I rx ry h;obtain⟨p,xs,rfl,hq,fx,fs,q⟩:=h;cases ry;rcases hq with hq|hq
 ·obtain⟨its,r,pl,hz⟩:=I.list hq;refine SeqAt.in_listAt (kD x) pl.isList (λw hw=>j8 rx fx r fs w (by simpa using hw)) ⟨.bl _,H,I,rfl,?_⟩;rw[show its.toArray.any (kD x)=its.any (kD x) by simp,mD r fs];exact q
 ·obtain⟨its,r,pl,hz⟩:=I.tuple hq;refine SeqAt.in_tupleAt (kD x) pl (λw hw=>j8 rx fx r fs w (by simpa using hw)) ⟨.bl _,H,I,rfl,?_⟩;rw[show its.toArray.any (kD x)=its.any (kD x) by simp,mD r fs];exact q
theorem BD:aN X (compareOp .NotIn) (zS X.K true):=by
 intro pins s σ H x y v u Q I rx ry h;obtain⟨p,xs,rfl,hq,fx,fs,q⟩:=h;cases ry;rcases hq with hq|hq
 ·obtain⟨its,r,pl,hz⟩:=I.list hq;refine SeqAt.notIn_listAt (kD x) pl.isList (λw hw=>j8 rx fx r fs w (by simpa using hw)) ⟨.bl _,H,I,rfl,?_⟩;rw[show its.toArray.any (kD x)=its.any (kD x) by simp,mD r fs];exact q
 ·obtain⟨its,r,pl,hz⟩:=I.tuple hq;refine SeqAt.notIn_tupleAt (kD x) pl (λw hw=>j8 rx fx r fs w (by simpa using hw)) ⟨.bl _,H,I,rfl,?_⟩;rw[show its.toArray.any (kD x)=its.any (kD x) by simp,mD r fs];exact q
theorem mE:eE X (.builtin "len") (λxs H Q=>∃ p ys,xs=[.ref p] /\ (aS X.K H p ys \/ aV X.K H p ys) /\ Q (.int ys.length) H):=by
 intro pins s σ H xs us Q I r h;obtain⟨p,ys,rfl,hq,q⟩:=h;obtain⟨u,rfl,rx⟩:=vals1 r;cases rx;have hn:=uw;rcases hq with hq|hq
 ·obtain⟨its,r',pl,hz⟩:=I.list hq;have hlen:=r'.length;exact Calls.call_len_list pl.isList (by simp only[aT]<;>omega) ⟨.int ys.length,H,I.tok _,⟨s.toks+1,by rw[aT,hlen]⟩,q⟩
 ·obtain⟨its,r',pl,hz⟩:=I.tuple hq;have hlen:=r'.length;exact len_tuple pl (by simp only[aT]<;>omega) ⟨.int ys.length,H,I.tok _,⟨s.toks+1,by rw[aT,hlen]⟩,q⟩
theorem BE:eE X (.type "list") (λxs H Q=>∃ p ys,xs=[.ref p] /\ (aS X.K H p ys \/ aV X.K H p ys) /\ ∀ l,H l=none->Q (.ref l) (upd H l (.lst ys))):=by
 intro pins s σ H xs us Q I r h;obtain⟨p,ys,rfl,hq,q⟩:=h;obtain⟨u,rfl,rx⟩:=vals1 r;cases rx
 have fin:∀ (its:List Value),Vals ys its->ys.length<=sizeLine->∀ (h':Heap) (c':Nat),(∀ b o',s.heap.get? b=some o'->h'.get? b=some o') ->
  h'.get? s.heap.objs.size=some { cls:=.type "list",dict:=none,data:=.seq its.toArray c',slots:=#[] }->EP X pins σ Q (.ref s.heap.objs.size) { s with heap:=h' }:=λits r' hz h' c' kp e =>
  ⟨.ref s.heap.objs.size,_,I.laid (t':=s.toks) kp (aq _) (show bE X.prog X.w _ h' _ (.lst ys) from⟨hz,its,c',r',e⟩),rfl,q _ (I.ak.fresh (aq _))⟩
 rcases hq with hq|hq
 ·obtain⟨its,r',pl,hz⟩:=I.list hq;have hlen:=r'.length;obtain⟨o,ho,hc,n,hd⟩:=pl.isList;exact Vw p (.inl rfl) ho hc hd (λh' c' kp e=>fin its r' hz h' c' kp e) (by simp only[aT]<;>omega)
 ·obtain⟨its,r',pl,hz⟩:=I.tuple hq;have hlen:=r'.length;obtain⟨o,ho,hc,n,hd⟩:=pl;exact Vw p (.inr rfl) ho hc hd (λh' c' kp e=>fin its r' hz h' c' kp e) (by simp only[aT]<;>omega)
theorem AW:eE X (.type "tuple") (λxs H Q=>∃ p ys,xs=[.ref p] /\ ((aS X.K H p ys /\ ∀ l,H l=none->Q (.ref l) (upd H l (.tup ys))) \/ (aV X.K H p ys /\ Q (.ref p) H))):=by
 intro pins s σ H xs us Q I r h;obtain⟨p,ys,rfl,h⟩:=h;obtain⟨u,rfl,rx⟩:=vals1 r;cases rx;rcases h with⟨hq,q⟩|⟨hq,q⟩
 ·obtain⟨its,r',pl,hz⟩:=I.list hq;have hlen:=r'.length;refine call_tuple_list pl.isList (λh' kp=>?_) (by simp only[aT]<;>omega);have I1:Inv X pins σ H { s with heap:=h' }:=I.kept (t':=s.toks) kp;have I2:Inv X pins σ (upd H h'.objs.size (.tup ys)) { s with heap:=h'.push { cls:=.type "tuple",data:=.seq its.toArray } } :=
   I1.laid (t':=s.toks) (λb o e=>aC _ e) (aq _) (show bE X.prog X.w _ _ _ (.tup ys) from⟨hz,its,r',IsTup.new _ _⟩)
  exact⟨.ref h'.objs.size,_,I2,rfl,q _ (I1.ak.fresh (aq _))⟩
 ·obtain⟨its,r',pl,hz⟩:=I.tuple hq;exact call_tuple_same pl ⟨.ref p,H,I,rfl,q⟩
def Kc (K:PySem.W.Frag) (T:String) (x:V) (H:Hp):Prop:=match x with
 |.str _=>T="str"
 |.int _=>T="int"
 |.ref p=>(T="list" /\ ∃ xs,aS K H p xs) \/ (T="tuple" /\ ∃ o,K.lookup p=some o /\ o.cls=.type "tuple" /\ o.dict=none) \/
  (T="dict" /\ ((∃ af,H p=some (.dK af)) \/ ∃ af,H p=some (.dT af))) \/ (T="set" /\ ∃ S n,H p=some (.set S n))
 |_=>False
theorem J5 {T:String}{x:V}{v:Value}(I:Inv X pins σ H s) (r:RelV x v) (ty:Kc X.K T x H) :
 s.TypeIs v T /\ ∀ a,v=.ref a->∃ ob,s.heap.get? a=some ob /\ ob.dict=none:=by
 cases x with
 | str z =>
   obtain⟨t,rfl⟩:=r;cases (show T="str" from ty);exact⟨typeIs_str s z t,λ_ e=>nomatch e⟩
 | int i =>
   obtain⟨t,rfl⟩:=r;cases (show T="int" from ty);exact⟨typeIs_int s i t,λ_ e=>nomatch e⟩
 | ref p =>
   cases r;rcases ty with⟨rfl,xs,hq⟩|⟨rfl,o,hk,hc,hd⟩|⟨rfl,hk⟩|⟨rfl,S,n,hk⟩
   ·obtain⟨its,_,pl,_⟩:=I.list hq;refine⟨pl.isList.typeIs,λa e=>?_⟩;cases e;obtain⟨o,n,e,c,hd,_⟩:=pl;exact⟨o,e,hd⟩
   ·refine⟨⟨o,I.dF p o hk,hc⟩,λa e=>?_⟩;cases e;exact⟨o,I.dF _ o hk,hd⟩
   ·have z:∃ o,s.heap.get? p=some o /\ o.ExactDict:=by
     rcases hk with⟨af,hk⟩|⟨af,hk⟩
     ·obtain⟨_,_,_,_,o,_,_,e,ex,_⟩:=I.ak p _ hk;exact⟨o,e,ex⟩
     ·obtain⟨_,_,_,_,o,_,_,e,ex,_⟩:=I.ak p _ hk;exact⟨o,e,ex⟩
    obtain⟨o,e,ex⟩:=z;refine⟨⟨o,e,ex.1⟩,λa e2=>?_⟩;cases e2;exact⟨o,e,ex.2.1⟩
   ·obtain⟨o,_,_,_,e,ex,_⟩:=I.ak p _ hk;refine⟨⟨o,e,ex.1⟩,λa e2=>?_⟩;cases e2;exact⟨o,e,ex.2.1⟩
 |_=>exact False.elim ty
def XW (K:PySem.W.Frag) (T:String) (r:V->List V->Hp->VK->Prop) (to:TE):TE:=λσ H Q=>to σ H λx H1=>Kc K T x H1 /\ r x [] H1 Q
def xE (K:PySem.W.Frag) (T:String) (r:V->List V->Hp->VK->Prop) (to:TE) (t:TA):TE:=λσ H Q=>to σ H λx H1=>Kc K T x H1 /\ t σ H1 λxs H2=>r x xs H2 Q
variable {o : Expr} {to : TE} {t : TA} {name : Str} {aX : Pos} {T id : String} {r : V -> List V -> Hp -> VK -> Prop}
theorem RE (pa:PlainAttrs T) (slot:Slot T name id) (Kd:typeOf (.builtin id)=pure (.type "method_descriptor")) (hm:Kb X id r) (ho:PE X o to)
 (kE:attributeBase o name X.env (eval o X.env)=eval o X.env) (kF:(apos.endLine==aX.line)=true):PE X (.Call (.Attribute o name apos) [] [] aX) (XW X.K T r to):=by
 intro pins s σ H Q I h;refine wpAny_Call_method0_late kE kF (ai (ho pins s σ H _ I h) λv s1 ⟨x,H1,I1,r1,ty,q1⟩=>?_);obtain⟨h1,h2⟩:=J5 I1 r1 ty;exact⟨T,id,pa,slot,Kd,h1,h2,xo rfl (PySem.evalArgs_none (hm pins s1 σ H1 x [] v [] Q I1 r1 .nil q1))⟩
theorem Fv (pa:PlainAttrs T) (slot:Slot T name id) (Kd:typeOf (.builtin id)=pure (.type "method_descriptor")) (hm:Kb X id r) (ho:PE X o to) (ha:PA X (e::es) t)
 (kE:attributeBase o name X.env (eval o X.env)=eval o X.env)
 (pN:((backTo aX (starEach (e::es) X.env)).all (λx=>!x.1)&&(backToKw aX (keywordEach [] X.env)).all (λx=>x.1.isSome)
  && decide ((e::es).length+([]:List Keyword).length+(if ([]:List Keyword).isEmpty then 0 else 1)<30))=true)
 (kF:(apos.endLine==aX.line)=true) (hs:starEach (e::es) X.env=(false,eval e X.env)::starEach es X.env) (abh:(backTo aX (starEach es X.env)).any (·.1)=false) :
 PE X (.Call (.Attribute o name apos) (e::es) [] aX) (xE X.K T r to t):=by
 intro pins s σ H Q I h;refine wpAny_Call_method_late kE pN kF rfl (ai (ho pins s σ H _ I h) λv s1 ⟨x,H1,I1,r1,ty,q1⟩=>?_);obtain⟨h1,h2⟩:=J5 I1 r1 ty;refine⟨T,id,pa,slot,Kd,h1,h2,?_⟩;have hA:=ha aX pins s1 σ H1 _ I1 q1;rw[hs]at hA ⊢;refine xo (by show (false||(backTo aX (starEach es X.env)).any (·.1))=false;rw[abh]<;>rfl) (Ih ?_);exact ai hA λus s2 ⟨vs,H2,I2,r2,q2⟩=>hm pins s2 σ H2 x vs v us Q I2 r1 r2 q2
/- xs.append(e),list.index on a module's tuple .. are Kb facts of 06m -/
end
def xF (X:Cx) (id:String) (r:V->List V->Hp->VK->Prop):Prop :=
 ∀ (pins:List (Addr×Obj)) (s:Shared) (σ:St) (H:Hp) (x:V) (xs:List V) (v:Value) (us:List Value) (Q:VK),Inv X pins σ H s->RelV x v->Vals xs us->r x xs H Q ->
  wpAny (model X.prog X.w) X.A (call (.builtin id) (v::us)) (EP X pins σ Q) X.xe s
theorem Vals.one:∀ {x:V}{us:List Value},Vals [x] us->∃ u,us=[u] /\ RelV x u
 |_,_,.cons r .nil=>⟨_,rfl,r⟩
theorem Vals.two:∀ {x y:V}{us:List Value},Vals [x,y] us->∃ u v,us=[u,v] /\ RelV x u /\ RelV y v
 |_,_,_,.cons r (.cons q .nil)=>⟨_,_,rfl,r,q⟩
theorem Vals.zero:∀ {us:List Value},Vals [] us->us=[]
 |_,.nil=>rfl
theorem Vals.dropLast {xs:List V}{us:List Value}(h:Vals xs us):Vals xs.dropLast us.dropLast:=by
 induction h with
 |nil=>exact .nil
 | cons r t ih =>
   cases t with
   |nil=>exact .nil
   |cons q t'=>exact .cons r ih
theorem Vals.eraseIdx:∀ {xs:List V}{us:List Value}(i:Nat),Vals xs us->Vals (xs.eraseIdx i) (us.eraseIdx i)
 |_,_,_,.nil=>.nil
 |_,_,0,.cons _ t=>t
 |_,_,i+1,.cons r t=>.cons r (Vals.eraseIdx i t)
theorem Vals.reverse {xs:List V}{us:List Value}(h:Vals xs us):Vals xs.reverse us.reverse:=by
 induction h with
 |nil=>exact .nil
 |cons r t ih=>rw[zf,zf];exact Vals.append ih (.cons r .nil)
theorem Vals.rep {xs:List V}{us:List Value}(h:Vals xs us):∀ k:Nat,Vals (List.replicate k xs).flatten (List.replicate k us).flatten
 |0=>.nil
 | k+1=>by
   rw[zg,zg,zh,zh];exact Vals.append h (Vals.rep h k)
theorem Ba {α:Type}:∀ (l:List α) (i:Nat),(l.eraseIdx i).length<=l.length
 |[],_=>aq _
 |_::_,0=>sD _
 |_::r,i+1=>Nat.succ_le_succ (Ba r i)
section
variable {l b : Addr} {xs ys zs : List V}
theorem Inv.xG {its its':List Value}{f:Array Value->Array Value}(I:Inv X pins σ H s) (hH:H l=some (.lst xs))
 (e:s.heap.get? l=some { cls:=.type "list",data:=.seq its.toArray n }) (hf:f its.toArray=its'.toArray) (hv:Vals ys its') (hz:ys.length<=sizeLine) :
 Inv X pins σ (upd H l (.lst ys)) { s with heap:=s.heap.update l (Obj.mapSeq f),toks:=t' }:=by
 have q:=PySem.IsL.update e f;rw[hf]at q;refine I.write (x:=l) (e:=l) (by rw[hH];exact trivial) (.inl rfl) (λb' u hb hu=>(zt s.heap (Obj.mapSeq f) (Ne.symm hb)).trans hu) ⟨_,q⟩ ?_;exact⟨hz,its',_,hv,q⟩
theorem Inv.abi {its:List Value}(I:Inv X pins σ H s) (hv:Vals ys its) (hz:ys.length<=sizeLine) :
 Inv X pins σ (upd H s.heap.objs.size (.lst ys)) { s with heap:=s.heap.push { cls:=.type "list",data:=.seq its.toArray },toks:=t' } :=
 I.laid (λ_ _ q=>aC _ q) (aq _) ⟨hz,its,0,hv,aU _ rfl⟩
theorem Inv.fresh (I:Inv X pins σ H s):H s.heap.objs.size=none:=I.ak.fresh (aq _)
theorem Inv.sX (I:Inv X pins σ H s) (hH:H l=some (.lst xs)):xs.length<=sizeLine /\ ∃ (its:List Value) (n:Nat),Vals xs its /\ xs.length=its.length /\ s.heap.get? l=some { cls:=.type "list",data:=.seq its.toArray n }:=by
 obtain⟨z,its,n,r,e⟩:=I.ak l _ hH;exact⟨z,its,n,r,r.length,e⟩
theorem abj (h:n<=sizeLine):Builtin.List.listTooLong n=false:=by
 unfold Builtin.List.listTooLong;exact decide_eq_false (by omega)
end
def XX:V->List V->Hp->VK->Prop:=λx vs H Q=>∃ l xs y,x=.ref l /\ vs=[y] /\ H l=some (.lst xs) /\ xs.length<sizeLine /\ Q .non (upd H l (.lst (xs++[y])))
theorem mY:xF X "list.append" XX:=by
 intro pins s σ H x vs v us Q I rx rv h;obtain⟨l,xs,y,rfl,rfl,hH,hz,q⟩:=h;cases rx;obtain⟨u,rfl,ru⟩:=rv.one;obtain⟨z,its,n,r,hl,e⟩:=I.sX hH;refine wV F.slot_list_append ⟨_,e,rfl⟩ F.entry_list_append (F.args_list_append_2 _ _) (PySem.list_append l its.toArray n u (by rw[aT];omega)) ⟨e,?_⟩;refine⟨.non,_,I.xG (its':=its++[u]) hH e (by simp) (r.append (.cons ru .nil)) ?_,rfl,q⟩;rw[bM,Hv];omega
def XY:V->List V->Hp->VK->Prop:=λx vs H Q=>∃ l b xs zs,x=.ref l /\ vs=[.ref b] /\ H l=some (.lst xs) /\ H b=some (.lst zs) /\ xs.length+zs.length<=sizeLine /\ Q .non (upd H l (.lst (xs++zs)))
theorem GQ:xF X "list.extend" XY:=by
 intro pins s σ H x vs v us Q I rx rv h;obtain⟨l,b,xs,zs,rfl,rfl,hH,hB,hz,q⟩:=h;cases rx;obtain⟨u,rfl,ru⟩:=rv.one;cases ru;obtain⟨z,its,n,r,hl,e⟩:=I.sX hH;obtain⟨z2,kP,n2,r2,qC,e2⟩:=I.sX hB;have hsz:its.toArray.size+kP.toArray.size<=sizeLine:=by rw[aT,aT];omega
 have abk:¬ (!its.toArray.isEmpty&&Builtin.List.listTooLong (its.toArray.size+kP.toArray.size))=true:=by
  rw[abj hsz,Bool.and_false];exact cq
 refine wV F.slot_list_extend ⟨_,e,rfl⟩ F.entry_list_extend (F.args_list_extend_2 _ _)
  (aai l its.toArray n b kP.toArray n2 abk (by rw[aT];omega) (by omega)) ⟨e,e2,?_⟩
 refine⟨.non,_,I.xG (its':=its++kP) hH e (by simp) (r.append r2) ?_,rfl,q⟩;rw[bM];omega
def XZ:V->List V->Hp->VK->Prop:=λx vs H Q=>∃ l xs i k y,x=.ref l /\ vs=[.int i] /\ H l=some (.lst xs) /\ -(2 ^ 63)<=i /\ i<2 ^ 63 /\ seqIndex? i xs.length=some k /\ xs[k]?=some y /\ Q y (upd H l (.lst (xs.eraseIdx k)))
theorem J6:xF X "list.pop" XZ:=by
 intro pins s σ H x vs v us Q I rx rv h;obtain⟨l,xs,i,k,y,rfl,rfl,hH,h1,h2,hk,hy,q⟩:=h;cases rx;obtain⟨u,rfl,ru⟩:=rv.one;obtain⟨t,rfl⟩:=ru;obtain⟨z,its,n,r,hl,e⟩:=I.sX hH;obtain⟨w,hw,hV⟩:=r.get hy;refine wV F.slot_list_pop ⟨_,e,rfl⟩ F.entry_list_pop (F.args_list_pop_2 _ _)
  (aal l its.toArray n i t k w (Vx h1 h2) (by rw[aT,<-hl];exact hk) (by rw[<-nR];exact hw) (by rw[aT];omega)) ⟨e,?_⟩
 refine⟨y,_,I.xG (its':=its.eraseIdx k) hH e ?_ (r.eraseIdx k) ?_,hV,q⟩
 ·show its.toArray.eraseIdxIfInBounds k=(its.eraseIdx k).toArray;rw[List.eraseIdxIfInBounds_toArray]
 ·have:=Ba xs k;omega
def X0:V->List V->Hp->VK->Prop:=λx vs H Q=>∃ l xs,x=.ref l /\ vs=[] /\ H l=some (.lst xs) /\ Q .non (upd H l (.lst []))
theorem J7:xF X "list.clear" X0:=by
 intro pins s σ H x vs v us Q I rx rv h;obtain⟨l,xs,rfl,rfl,hH,q⟩:=h;cases rx;have abl:=rv.zero;subst abl;obtain⟨z,its,n,r,hl,e⟩:=I.sX hH;refine wV F.slot_list_clear ⟨_,e,rfl⟩ F.entry_list_clear (F.args_list_clear_1 _) (aaj l its.toArray n (by rw[aT];omega)) ⟨e,?_⟩;exact⟨.non,_,I.xG (its':=[]) (ys:=[]) hH e rfl .nil (cG _),rfl,q⟩
def X1:R2:=λx y H Q=>∃ l b xs zs,x=.ref l /\ y=.ref b /\ H l=some (.lst xs) /\ H b=some (.lst zs) /\ xs.length+zs.length<=sizeLine /\ ∀ p,H p=none->Q (.ref p) (upd H p (.lst (xs++zs)))
theorem RF:aN X (binaryOp .Add) X1:=by
 intro pins s σ H x y v u Q I rx ry h;obtain⟨l,b,xs,zs,rfl,rfl,hH,hB,hz,q⟩:=h;cases rx;cases ry;obtain⟨z,its,n,r,hl,e⟩:=I.sX hH;obtain⟨z2,kP,n2,r2,qC,e2⟩:=I.sX hB;refine PySem.P.add_list e e2 ?_ (by rw[aT,aT];omega);have ea:its.toArray++kP.toArray=(its++kP).toArray:=by simp
 rw[ea];exact⟨.ref _,_,I.abi (t':=s.toks) (r.append r2) (by rw[bM];omega),rfl,q _ I.fresh⟩
end L2
namespace X2
open PySem.W PySem.Calls
theorem oG {P:Params}:∀ (ns:List Int) (vs:List Value),WellAll P h vs (ns.map WData.int)->IntsAre vs ns:=by
 intro ns;induction ns with
 | nil =>
   intro vs w;rw[uc]at w;cases w;exact .nil
 | cons n ns ih =>
   intro vs w;rw[aQ]at w;cases w with
   | cons a b =>
     cases a;exact .cons _ _ (ih _ b)
theorem GR {l:OpenLaw}(hn:l.most=some n) {P:Params}{args:List WData}{vals:List Value}
 (zT:l.row.toRowW.claim.pre args=true) (Ke:WellAll P h vals args) :
 ∃ a vs ns,vals=[Value.ref a] /\ args=[WData.list (ns.map WData.int)] /\ h.get? a=some { cls:=.type "list",data:=.seq vs.toArray } /\ IntsAre vs ns /\ ns.length<=n:=by
 have abm:WShape.hasAll [] args [.list .int]=true:=(pre_splitW zT).1;have hc:l.pre.holds [] { args:=args }=true:=(pre_splitW zT).2;obtain⟨d,r,rfl,h1,h2⟩:=hasAllW_cons abm;obtain rfl:=hasAllW_nil h2;obtain⟨xs,rfl,h3⟩:=hasW_list h1;obtain⟨ns,rfl⟩:=items_int h3;have hlen:ns.length<=n:=by
  unfold OpenLaw.pre at hc;have h4:(WTm.not (.lt (.lit (.int (n:Int))) (.len (.arg 0)))).holds [] { args:=[.list (ns.map .int)] }=true:=by
   have h4:=(holds_andW hc).1;rw[hn]at h4;exact h4
  have h5:=condW_of h4 (w_not (w_lt w_lit (w_len_list (w_arg rfl))));rw[aA]at h5;refine t8 λq=>?_;have q':(n:Int)<((ns.length:Nat):Int):=by omega
  first
   |(rw[decide_eq_true q']at h5;exact absurd h5 (by decide))
   |(simp at h5;omega)
 cases Ke with
 | cons w1 w2 =>
   cases w2;cases w1 with
   |list ho abn=>exact⟨_,_,ns,rfl,rfl,ho,oG ns _ abn,hlen⟩
theorem GS (l:OpenLaw) (args:List WData):l.row.toRowW.claim.post args (.bool true) args=true :=
 postW_of (r:=l.row.toRowW) (X:=(true==true))
  (show WShape.has [] (.bool true) .bool=true by first|rfl|decide|simp[WShape.has,WShape.arms,WShape.armsAll])
  (show (WTm.eq .res (.lit (.bool true))).value [] { args:=args,res:=some (.bool true),after:=args }=some (.bool (true==true)) from w_eq_bool (w_res rfl) w_lit) rfl
theorem abo {l:OpenLaw}{q:Program}{loose:List Str}{XP:(Str->Option Value)->Heap->Prop}{YP:World->Heap->Prop}{d:DefRec}
 (hn:l.most=some n) (Kf:d.params.defaults=[])
 (call:∀ (w:World) (s₀ s₁:Shared) (mg mb:Str->Option Value) (fa:Addr) (o:Obj) (pm cd doc:Value) (a:Addr) (vs:List Value) (ns:List Int),
  Ground q loose [] XP w s₀ mg mb s₁.heap->YP w s₁.heap ->
  s₁.heap.get? fa=some o->o.data=.func (docDef d.name d.params d.body d.scope pm cd doc)->s₁.heap.CodeRec cd d.name->mg d.name=some (.ref fa) ->
  s₁.heap.get? a=some { cls:=.type "list",data:=.seq vs.toArray }->IntsAre vs ns->ns.length<=n->s₁.gens=#[] ->
  codeAny (model l.prog w) callerA (.call (.ref fa) ⟨[.ref a],[]⟩) (λr s'=>r=.ok (.ret (.bool true)) /\ OldK s₁.heap s'.heap /\ s'.os=s₁.os /\ AllBare s'.gens) s₁) :
 WalkO q loose XP YP l.row.toRowW d [] (λf vs=>PySem.call f vs):=by
 intro w s₀ s₁ mg mb G Y fa o pm cd doc dV kV ho hd nj hD hmg hg args vals as zT aeM aeN Ke aeO;obtain rfl:dV=.none:=Dflts.none hD Kf;obtain rfl:kV=.none:=Dflts.noKw hD;obtain⟨a,vs,ns,rfl,rfl,Kg,hints,hlen⟩:=GR hn zT Ke;refine enter_call (vB (call w s₀ s₁ mg mb fa o pm cd doc a vs ns G Y ho (fd_plain hd) nj hmg Kg hints hlen hg) λr s' hq=>?_);obtain⟨rfl,h2,h3,h4⟩:=hq;exact⟨.inl ⟨.bool true,.bool true,[],rfl,λ_=>rfl,.bool true,GS l _,λ_=>⟨List.Pairwise.nil,λ_ hm=>(nomatch hm)⟩⟩,h2,h3,h4⟩
end X2
namespace L2
theorem Bb:∀ {vs:List Value}{ns:List Int},IntsAre vs ns->Vals (ns.map V.int) vs
 |_,_,.nil=>.nil
 |_,_,.cons n t h=>.cons ⟨t,rfl⟩ (Bb h)
def Kh (H:Hp):Prop:=∀ b,H b=none \/ ∃ o xs,H b=some (.kB o (.lst xs))
theorem J8 {mb:Str->Option Value}{k:Nat}{fa:Addr}{sp:Sp}{s₁:Shared}{vs:List Value} 
 (KX:K.In s₁.heap) (cc:s₁.heap.Ns mainGlobals mg) (hb:s₁.heap.Ns builtinsNs mb) (abp:∀ x:Str,x ≠ "__name__"->mb x=bootBuiltins x) (abq:s₁.heap.NoLimit) (hg:s₁.gens=#[])
 (ha:s₁.heap.get? a=some { cls:=.type "list",data:=.seq vs.toArray }) (hi:IntsAre vs ns) (hl:ns.length<=sizeLine) (hr:cZ k callerA)
 (F:∀ base:Heap,K.In base->base.Ns mainGlobals mg->eR P w K mg base CX k fa fd [x] sp) (abr:∀ (s:Shared) (u:Value),BindsTo s fd ⟨[u],[]⟩ [(x,u)])
 (vZ:∀ H:Hp,Kh H->aS K H a (ns.map V.int)->sp [.ref a] H (λv _=>v=.bl true) λ_ _ _=>False)
 (abt:∀ H e s',CX [] H s₁ (λ_ _ _=>False) e s'->False) :
 codeAny (model P w) callerA (.call (.ref fa) ⟨[.ref a],[]⟩) (λr s'=>r=.ok (.ret (.bool true)) /\ OldK s₁.heap s'.heap /\ s'.os=s₁.os /\ AllBare s'.gens) s₁:=by
 have rv:=Bb hi;have abu:=hi.length
 have core:∀ H:Hp,Kh H->aS K H a (ns.map V.int)->bU P w H s₁.heap->(∀ b,H b≠none->b=a)->(H a≠none->K.lookup a=none) ->
  codeAny (model P w) callerA (.call (.ref fa) ⟨[.ref a],[]⟩) (λr s'=>r=.ok (.ret (.bool true)) /\ OldK s₁.heap s'.heap /\ s'.os=s₁.os /\ AllBare s'.gens) s₁:=by
  intro H hO hS ak hA hK;have iA:∀ {b:Addr}{o:Obj},s₁.heap.get? b=some o->H b=none->(rC s₁.heap H).get? b=some o:=λe n=>JL e n;have xD:∀ {b:Addr}{o:Obj}{es:Array DictEntry}{ep:Nat},s₁.heap.get? b=some o->o.data=.dict es ep->H b=none:=λ{b o es ep} e d=>by
   cases q:H b with
   |none=>rfl
   | some u =>
     have e':b=a:=hA b (by rw[q];simp);subst e';rw[ha]at e;cases e;have d':Data.seq vs.toArray _=Data.dict es ep:=d;cases d'
  have zU:∀ {b:Addr}{m:Str->Option Value},s₁.heap.Ns b m->(rC s₁.heap H).Ns b m:=λ{b m} ⟨o,es,ep,e,d,r⟩=>⟨o,es,ep,iA e (xD e d),d,r⟩;have X3:K.In (rC s₁.heap H):=λb o e=>iA (KX b o e) (by
   cases q:H b with
   |none=>rfl
   | some u =>
     have e':b=a:=hA b (by rw[q];simp);subst e';rw[hK (by rw[q];simp)]at e;cases e)
  have hM:Mod K mg (rC s₁.heap H):=⟨X3,zU cc,⟨mb,zU hb,abp⟩,let ⟨mc,h1,h2⟩:=abq;⟨mc,zU h1,h2⟩⟩;have e0:zL P w K mg (rC s₁.heap H) callerA [] s₁ H:=⟨rfl,hM,λb o e=>Ng e,sF (GG _ _),trivial,λb hb=>absurd (show b∈([]:List Addr) from hb) (by simp),ak,.of_eq hg⟩;refine vB ((F _ X3 (zU cc)).run callerA [] s₁ H ⟨[.ref a],[]⟩ [.ref a] [.ref a] _ _ hr e0 (abr s₁ (.ref a)) (.cons rfl .nil) (vZ H hO hS)) λr s' h=>?_;cases r with
  |error e=>exact(abt H e s' h).elim
  | ok fl =>
    cases fl with
    |next=>exact False.elim h
    |brk=>exact False.elim h
    |cont=>exact False.elim h
    | ret u =>
      obtain⟨v,H',os,bare,un,abv,r',q⟩:=h;have q':v=.bl true:=q;subst q';obtain rfl:u=Value.bool true:=r';refine⟨rfl,OldK.of_keep λb o e=>?_,os,bare⟩;cases q:H b with
      |none=>exact un.keep b o e q (by intro z;exact absurd (show b∈([]:List Addr) from z) (by simp)) (by simp)
      | some u =>
        rcases hO b with z|⟨ob,xs,z⟩
        ·rw[q]at z;cases z
        ·have z2:=un.nU b ob _ z;obtain⟨e1,_⟩:=ak b _ z;obtain⟨e2,_⟩:=abv b _ z2;rw[e]at e1;cases e1;exact e2
 cases hk:K.lookup a with
 | some o =>
   have e:=KX a o hk;rw[ha]at e;cases e;refine core (λ_=>none) (λ_=>.inl rfl) (.inr ⟨_,vs.toArray,_,hk,rfl,rfl,rfl,by rw[aT,abu];exact hl,by simpa using rv⟩) (λb u z=>by have z':(none:Option HO)=some u:=z;cases z') (λb z=>absurd rfl z) λz=>absurd rfl z
 | none =>
   refine core (λb=>if b=a then some (.kB { cls:=.type "list",data:=.seq vs.toArray } (.lst (ns.map V.int))) else none) (λb=>?_) (.inl (.inr ⟨{ cls:=.type "list",data:=.seq vs.toArray },if_pos rfl⟩)) (λb u z=>?_) (λb z=>?_) λ_=>hk
   ·by_cases hb:b=a
    ·exact .inr ⟨_,_,if_pos hb⟩
    ·exact .inl (if_neg hb)
   ·by_cases hb:b=a
    ·have z':=(if_pos hb).symm.trans z;cases z';subst hb;exact⟨ha,by rw[aA];exact hl,vs,_,rv,ha⟩
    ·have z':=(if_neg hb).symm.trans z;cases z'
   ·by_cases hb:b=a
    ·exact hb
    ·exact absurd (if_neg hb) z
noncomputable abbrev X4 (_:K.In h):PySem.W.Frag:=K
end L2
/- THE LAST THEOREM (shape;aeP,My.* are aeQ):
 My.aeR: a structure of the addresses that aeS aeT names (classes,functions);My.Txt K t: a structure (Prop) of the equations over K;
 My.abw:{K}{implicit addresses ..}(e1:nsIn K mainGlobals "law"=some (some (.ref f))) (e2:K.lookup f=some ⟨oc,od,.func (fnOf "law" "law" params body scope dV kV doc pm an a7 ct),sl⟩) (e3:codeIn K a7 "law"=true) ..:∃ t,My.Txt K t
set_option maxRecDepth 100000 in
set_option maxHeartbeats 0 in
theorem PySem.Challenge.cw_LID_holds : PySem.Challenge.abx.Holds := by
 w_on;o_law;k_head;(case hw=>w_witness2)
 k_fill
 refine L2.aeU (l:=PySem.Challenge.abx) (n:=63) (k:=40) (x:="script") (CX:=λw=>..) (sp:=λ_=>My.X5) rfl (by decide) rfl ⟨rfl,by decide,by decide⟩ (λw h Y=>PySem.W.kIn_of Y) ?F ?S ?C
 case F =>
  intro w mg fa h KX G hmg;have T:∃ t,My.Txt (L2.X4 KX) t:=by
   dsimp only[L2.X4]                          -- K must xH as «<heap const> w.params» for k_is
   refine' My.abw ?e1 ?e2 ?e3 ..
   (case e1=>PySem.W.k_is)                    -- in the order: a name->its address->its object->its parts
   (case e2=>PySem.W.k_is)
   ..
  obtain⟨t,T⟩:=T;have e0:=hmg.symm.trans (WQ KX G T.law)
  cases e0                                       -- fa is the aeV own address
  exact⟨_,λs u=>.of_eq rfl,λbase kb nb=>My.aby T kb nb⟩     -- if «.of_eq rfl» comes too early: refine' ⟨_,?b,λbase kb nb=>My.aby T kb nb⟩;exact λs u=>.of_eq rfl
 case S=>exact λw H a ns hl hO hS=>..
 case C=>exact ..
(the tactic k_is has no namespace: write k_is) -/
namespace L2
noncomputable def jg (s:Stmt):Arguments:=match s with
 |.FunctionDef _ a _ _ _ _ _ _ _ _=>a
 |_=>{ posonlyargs:=[],args:=[],vararg:=none,kwonlyargs:=[],kw_defaults:=[],kwarg:=none,defaults:=[] }
noncomputable def ie (s:Stmt):List Stmt:=match s with
 |.FunctionDef _ _ b _ _ _ _ _ _ _=>b
 |_=>[]
noncomputable def fN (s:Stmt):Scope:=match s with
 |.FunctionDef _ _ _ _ _ _ sc _ _ _=>sc
 |_=>{ kind:=.function,names:=[],isGenerator:=false,isCoroutine:=false }
abbrev xI:nX:=λ_ _ _ _ _ _=>False
noncomputable abbrev E0:XK:=λ_ _ _=>False
structure nY (K:PySem.W.Frag) (x qual:Str) (st:Stmt) (f:Addr) (fd:FuncData):Prop where
 ex:∃ (oc:Value) (od:Option Addr) (kV doc pm:Value) (an:Option Addr) (a7 ct:Value) (nL:Array (Option Value)),
  fd=PySem.W.fnOf x qual (jg st) (ie st) (fN st) .none kV doc pm an a7 ct /\ K.lookup f=some ⟨oc,od,.func fd,nL⟩ /\ PySem.W.codeIn K a7 qual=true
 kp:PySem.W.keepIn K (.ref f)=true
theorem nY.ok {qual:Str}{f:Addr}{ps:List Str}{k:Nat}{sp:Sp}(F:nY K x qual st f fd) (S:vY N ps (fN st)) (len:∀ vs H Q E,sp vs H Q E->vs.length=ps.length)
 (ux:∀ (a7:Value) (A:Around) (outer:List Env) (s:Shared) (H:Hp) (vs:List V) (Q:VK) (E:XK),cZ k (A.deeper (envOfC qual (fN st) s.heap.objs.size f a7))->sp vs H Q E ->
  ∃ t,dU (sR xI P w K mg base N qual (fN st) f a7 A outer s H E).vT (ie st) t /\ t { nx:=λ_ H'=>Q .non H',rt:=Q } (start N vs) H):eR P w K mg base xI (k+1) f fd ps sp:=by
 obtain⟨oc,od,kV,doc,pm,an,a7,ct,nL,rfl,lk,nj⟩:=F.ex;refine TQ lk nj S len λA outer s H vs Q E hr vZ=>?_;obtain⟨t,h,q⟩:=ux a7 A outer s H vs Q E hr vZ;exact⟨t,h.vT,q⟩
theorem nY.binds {qual:Str}{f:Addr}{ps:List Str}(F:nY K x qual st f fd)
 (h:∀ (kV doc pm:Value) (an:Option Addr) (a7 ct:Value) (us:List Value),us.length=ps.length->bindArgs (PySem.W.fnOf x qual (jg st) (ie st) (fN st) .none kV doc pm an a7 ct) ⟨us,[]⟩=pure (ps.zip us)):Binds K fd ps []:=by
 obtain⟨oc,od,kV,doc,pm,an,a7,ct,nL,rfl,lk,nj⟩:=F.ex;exact .all (h kV doc pm an a7 ct)
theorem J9 {qual:Str}{f:Addr}{oc:Value}{od an:Option Addr}{kV doc pm a7 ct:Value}(l:K.lookup f=some ⟨oc,od,.func (PySem.W.fnOf x qual (jg st) (ie st) (fN st) .none kV doc pm an a7 ct),nL⟩)
 (c:PySem.W.codeIn K a7 qual=true) (k:PySem.W.keepIn K (.ref f)=true):nY K x qual st f (PySem.W.fnOf x qual (jg st) (ie st) (fN st) .none kV doc pm an a7 ct):=⟨⟨oc,od,kV,doc,pm,an,a7,ct,nL,rfl,l,c⟩,k⟩
noncomputable def c6 (cells:List (Str×Addr)):List (Str×NameKind)->List (Str×Addr)->List (Str×Addr)
 |[],acc=>acc
 |(n,k)::r,acc=>c6 cells r (if k==.free then (match cells.lookup n with|some c=>(n,c)::acc|none=>acc) else acc)
theorem jK {env:Env}:∀ (names:List (Str×NameKind)) (acc:List (Str×Addr)),(∀ y∈names,y.2=.free->∃ c,env.cells.lookup y.1=some c) ->
 (forIn names acc (λ(x:Str×NameKind) (r:List (Str×Addr))=>(match x with
  |(name,kind)=>if (kind==NameKind.free)=true then (do let a <-cellOf env name;pure (ForInStep.yield ((name,a)::r))) else pure (ForInStep.yield r):Sem (ForInStep (List (Str×Addr))))))=(pure (c6 env.cells names acc):Sem _)
 |[],acc,_=>rfl
 | (n,k)::r,acc,h=>by
   rw[xh];by_cases hk:k=.free
   ·subst hk;obtain⟨c,e⟩:=h (n,.free) bZ rfl;have e':env.cells.lookup n=some c:=e;have e1:cellOf env n=pure c:=by unfold cellOf;rw[e']
    dsimp only;rw[if_pos (by decide),e1];have q:=jK (env:=env) r ((n,c)::acc) λy hy=>h y (bS _ hy);have z:c6 env.cells ((n,NameKind.free)::r) acc=c6 env.cells r ((n,c)::acc):=by
     show c6 env.cells r _=_;rw[if_pos (by decide),e']
    rw[z,<-q];rfl
   ·dsimp only;have hb:(k==NameKind.free)=false:=by simpa using hk
    rw[if_neg (by rw[hb];decide)];have q:=jK (env:=env) r acc λy hy=>h y (bS _ hy);have z:c6 env.cells ((n,k)::r) acc=c6 env.cells r acc:=by
     show c6 env.cells r _=_;rw[if_neg (by rw[hb];decide)]
    rw[z,<-q];rfl
theorem lY {scope:Scope}{env:Env}(h:∀ y∈scope.names,y.2=.free->∃ c,env.cells.lookup y.1=some c):closureFor scope env=pure (c6 env.cells scope.names []):=by
 have q:=jK (env:=env) scope.names [] h;unfold closureFor;first
  |exact q
  |(dsimp only;rw[show (forIn scope.names ([]:List (Str×Addr)) _:Sem _)=_ from q];rfl)
  |(rw[<-q];rfl)
theorem Ce {cells:List (Str×Addr)}:∀ (names:List (Str×NameKind)) (acc:List (Str×Addr)),(∀ x c,acc.lookup x=some c->cells.lookup x=some c)->∀ x c,(c6 cells names acc).lookup x=some c->cells.lookup x=some c
 |[],_,h=>h
 | (n,k)::r,acc,h=>by
   refine Ce r _ ?_;intro x c e;by_cases hk:(k==NameKind.free)=true
   ·rw[if_pos hk]at e;cases q:cells.lookup n with
    |none=>rw[q]at e;exact h x c e
    | some a =>
      rw[q]at e;have e':((n,a)::acc).lookup x=some c:=e;rw[eO]at e';cases hx:x==n with
      |true=>rw[hx]at e';rw[eq_of_beq hx,q];exact e'
      |false=>rw[hx]at e';exact h x c e'
   ·rw[if_neg hk]at e;exact h x c e
theorem Ci {cells:List (Str×Addr)}:∀ (names:List (Str×NameKind)) (acc:List (Str×Addr)) (x:Str),((∃ c,acc.lookup x=some c) \/ ((x,NameKind.free)∈names /\ ∃ c,cells.lookup x=some c))->∃ c,(c6 cells names acc).lookup x=some c
 |[],_,x,h=>h.elim id λz=>nomatch z.1
 | (n,k)::r,acc,x,h=>by
   refine Ci r _ x ?_;rcases h with⟨c,e⟩|⟨hm,c,e⟩
   ·left;by_cases hk:(k==NameKind.free)=true
    ·rw[if_pos hk];cases q:cells.lookup n with
     |none=>exact⟨c,e⟩
     | some a =>
       show ∃ c,((n,a)::acc).lookup x=some c;rw[eO];cases hx:x==n with
       |true=>exact⟨a,rfl⟩
       |false=>exact⟨c,e⟩
    ·rw[if_neg hk];exact⟨c,e⟩
   ·rcases aO.mp hm with z|z
    ·have z1:x=n:=congrArg Prod.fst z;have z2:NameKind.free=k:=congrArg Prod.snd z;subst z1;subst z2;left;rw[if_pos (by decide),e];exact⟨c,by show ((x,c)::acc).lookup x=_;rw[eO,beq_self_eq_true]⟩
    ·exact .inr ⟨z,c,e⟩
theorem lZ {env:Env}:∀ (names:List (Str×NameKind)) (x:Str) (k':NameKind),
 (names.map λ(n,k)=>if (k==NameKind.free&&env.scope.kind==.function&&env.kindOf n==some .cell) then (n,NameKind.cell) else (n,k)).lookup x=some k' ->
 ∃ k,names.lookup x=some k /\ (k'=k \/ (k=.free /\ k'=.cell))
 |[],_,_,h=>by simp at h
 | (n,k)::r,x,k',h=>by
   have h':List.lookup x ((if (k==NameKind.free&&env.scope.kind==.function&&env.kindOf n==some .cell)=true then (n,NameKind.cell) else (n,k))::(r.map λ(n,k)=>if (k==NameKind.free&&env.scope.kind==.function&&env.kindOf n==some .cell) then (n,NameKind.cell) else (n,k)))=some k':=h;by_cases hc:(k==NameKind.free&&env.scope.kind==.function&&env.kindOf n==some .cell)=true
   ·rw[if_pos hc,eO]at h';rw[eO];cases hx:x==n with
    | true =>
      rw[hx]at h';have hk:k=.free:=by
       cases hq:(k==NameKind.free) with
       |true=>exact eq_of_beq hq
       |false=>rw[hq]at hc;simp at hc
      exact⟨k,rfl,.inr ⟨hk,(Option.some.inj h').symm⟩⟩
    |false=>rw[hx]at h';exact lZ r x k' h'
   ·rw[if_neg hc,eO]at h';rw[eO];cases hx:x==n with
    |true=>rw[hx]at h';exact⟨k,rfl,.inl (Option.some.inj h').symm⟩
    |false=>rw[hx]at h';exact lZ r x k' h'
theorem jL {env:Env}:∀ (names:List (Str×NameKind)) (x:Str),names.lookup x=some .free ->
 (names.map λ(n,k)=>if (k==NameKind.free&&env.scope.kind==.function&&env.kindOf n==some .cell) then (n,NameKind.cell) else (n,k)).lookup x=some .cell \/
 (names.map λ(n,k)=>if (k==NameKind.free&&env.scope.kind==.function&&env.kindOf n==some .cell) then (n,NameKind.cell) else (n,k)).lookup x=some .free
 |[],_,h=>by simp at h
 | (n,k)::r,x,h=>by
   show List.lookup x ((if (k==NameKind.free&&env.scope.kind==.function&&env.kindOf n==some .cell)=true then (n,NameKind.cell) else (n,k))::_)=_ \/ List.lookup x ((if (k==NameKind.free&&env.scope.kind==.function&&env.kindOf n==some .cell)=true then (n,NameKind.cell) else (n,k))::_)=_;rw[eO]at h;by_cases hc:(k==NameKind.free&&env.scope.kind==.function&&env.kindOf n==some .cell)=true
   ·rw[if_pos hc,eO];cases hx:x==n with
    |true=>exact .inl rfl
    |false=>rw[hx]at h;exact jL r x h
   ·rw[if_neg hc,eO];cases hx:x==n with
    |true=>rw[hx]at h;exact .inr h
    |false=>rw[hx]at h;exact jL r x h
theorem iB:∀ (names:List (Str×NameKind)) (n:Nat) (acc:List (Str×Addr)),cellsFrom n names acc=cellsFrom n names []++acc
 |[],_,_=>rfl
 | (x,k)::r,n,acc=>by
   unfold cellsFrom;split
   ·rw[iB r (n+1) ((x,n)::acc),iB r (n+1) [(x,n)],eC];rfl
   ·exact iB r n acc
theorem mZ:∀ (names:List (Str×NameKind)) (n:Nat) {x:Str}{c:Addr},(x,c)∈cellsFrom n names []->(x,NameKind.cell)∈names
 |[],_,_,_,h=>nomatch h
 | (y,k)::r,n,x,c,h=>by
   unfold cellsFrom at h;split at h
   ·rename_i hk;rw[iB]at h;rcases bN.mp h with h|h
    ·exact bS _ (mZ r _ h)
    ·cases a8.mp h;rw[<-eq_of_beq hk];exact bZ
   ·exact bS _ (mZ r _ h)
theorem Ab {α:Type}:∀ {l:List (Str×α)}{x:Str}{a b:α},(l.map (·.1)).Nodup->(x,a)∈l->(x,b)∈l->a=b
 | (y,c)::l,x,a,b,h,ha,hb=>by
   rw[aQ,pF]at h;rcases aO.mp ha with e|ha<;>rcases aO.mp hb with e'|hb
   ·rw[<-e']at e;exact(Prod.mk.inj e).2
   ·exact absurd (a6.mpr ⟨_,hb,(Prod.mk.inj e).1⟩) h.1
   ·exact absurd (a6.mpr ⟨_,ha,(Prod.mk.inj e').1⟩) h.1
   ·exact Ab h.2 ha hb
theorem jM {α:Type}{x:Str}:∀ {l m:List (Str×α)},(l++m).lookup x=match l.lookup x with|some a=>some a|none=>m.lookup x
 |[],m=>rfl
 | (y,a)::l,m=>by
   rw[V5,eO,eO];cases x==y with
   |true=>rfl
   |false=>exact jM
theorem l6 {scope:Scope}{globals:Addr}{cl:List (Str×Addr)}{qual:Str}{env:Env}{Q:Env->Shared->Prop}
 (h:Q { scope:=scope,locals:=s.heap.objs.size,globals:=globals,cells:=cellsFrom (s.heap.objs.size+1) scope.names cl,qual:=qual,func:=none,code:=env.code,frame:=env.frame,builtins:=env.builtins }
  { s with heap:=pushCells (s.heap.push { cls:=.type "dict",data:=.dict #[] }) scope.names }) :
 wpAny M A (newFunctionEnv scope globals cl [] qual none .none (some env)) Q E s:=by
 unfold newFunctionEnv;refine ae (Vy (ae (wpAny_layCells _ (λname kind cells=>by cases hk:kind==NameKind.cell<;>simp[hk]) _ _ _ _ ?_)));rw[show ({ s with heap:=s.heap.push { cls:=.type (if (some env).isSome=true then "dict" else "frame"),data:=.dict #[] } }:Shared).heap.objs.size=s.heap.objs.size+1 from qo ..];exact ae (ag (ag h))
noncomputable abbrev Cx.comp (X:Cx) (N:List Str) (scope:Scope) (cl:List (Str×Addr)) (s:Shared) (H:Hp) (C:Addr) (fp:List Addr):Cx :=
 { X with N:=N,s₀:=s,H₀:=H,env:=compEnvC scope cl C X.env,outer:=X.stack,stack:=X.stack,ex:=fp,fn:=λx=>decide (scope.names.lookup x=some .cell),pn:=[],xe:=λ_ _=>False }
structure kQ (X:Cx) (N:List Str) (src:List (Option Nat)) (scope:Scope):Prop where
 kind:scope.kind=.function
 nk:(scope.names.map (·.1)).Nodup
 names:∀ y∈scope.names,y.2=.local->scope.names.lookup y.1=some .local
 has:∀ y∈scope.names,y.2=.free->X.env.kindOf y.1=some .cell \/ X.env.kindOf y.1=some .free
 abz:src.length=N.length
 abA:∀ (j i:Nat) (x:Str),src[j]?=some (some i)->N[j]?=some x->X.N[i]?=some x /\ scope.names.lookup x=some .free
noncomputable def rK (src:List (Option Nat)) (σ:St):St:=src.map λo=>o.bind λi=>(σ[i]?).bind id
def PF (X:Cx) (ifs:List Expr) (t:TT):Prop :=
 ∀ (pins:List (Addr×Obj)) (s:Shared) (σ:St) (H:Hp) (Q:Bool->Hp->Prop),Inv X pins σ H s->t σ H Q ->
  wpAny (model X.prog X.w) X.A (forIn ifs true λc r=>if r=true then do let ok <-isTrue c X.env (eval c X.env);pure (ForInStep.yield ok) else pure (ForInStep.yield r)) (TP X pins σ Q) X.xe s
theorem RG:PF X [] (λ_ H Q=>Q true H):=λ_ _ _ H _ I h=>wpAny_tests_nil ⟨H,I,h⟩
theorem RH {t:TT}(h:PT X c t):PF X [c] t:=λpins s σ H Q I hw=>wpAny_tests_one (h pins s σ H Q I hw)
def abB (J:It) (g:TG) (tf:TT) (te:TE) (D:Addr) (Q:VK) (σ0:St) (H0:Hp):Prop :=
 ∃ W:Nat->Nat->St->Hp->Prop,(∃ m,W 0 m σ0 H0) /\ ∀ i m σ' H',W i m σ' H' ->
  (J.stop i H' /\ Q (.ref D) H') \/ (J.go i H' /\ ∃ N:St->Hp->Prop,(∀ σ2 H2,N σ2 H2->∃ m',m'<m /\ W (i+1) m' σ2 H2) /\ ∀ x H2,J.xx i H' x H2->g x σ' H2 λσ2 H3=>tf σ2 H3 λb H4 =>
   if b=true then te σ2 H4 λy H5=>∃ ys,H5 D=some (.lst ys) /\ ys.length<sizeLine /\ N σ2 (upd H5 D (.lst (ys++[y]))) else N σ2 H4)
def zV (src:List (Option Nat)) (wi:TI) (g:TG) (tf:TT) (te:TE):TE:=λσ H Q=>wi σ H λJ H1=>∀ D,H1 D=none->abB J g tf te D Q (rK src σ) (upd H1 D (.lst []))
noncomputable abbrev pO (P:Program) (w:World) (A:Around) (env:Env) (R:Result->Shared->Prop):Value->Shared->Prop :=
 notedBy (model P w) A env λx z=>R (.error x) z
noncomputable abbrev Ki (ifs:List Expr) (env:Env):Sem Bool :=
 forIn ifs true λc r=>if r=true then do let ok <-isTrue c env (eval c env);pure (ForInStep.yield ok) else pure (ForInStep.yield r)
theorem mF {scope:Scope}{it acc:Value}{env:Env}
 (J:Nat->Shared->Prop) (N:Value->Nat->Shared->Prop)
 (hN:∀ v n z,N v n z->wpAny (model prog w) A (letOwnedTupleGo tg it v) (λ_ z1 =>
  wpAny (model prog w) A (assign tg env v) (λ_ z2 =>
  wpAny (model prog w) A (Ki ifs env) (λb z3 =>
   if b=true then wpAny (model prog w) A (eval elt env) (λy z4 =>
    wpAny (model prog w) A (call (.builtin "list.append") [acc,y])
     (λ_ z5=>∃ k,k<n /\ J k z5) (pO prog w A env R) z4) (pO prog w A env R) z3
   else ∃ k,k<n /\ J k z3)
   (pO prog w A env R) z2) (pO prog w A env R) z1) (pO prog w A env R) z)
 (go:∀ n z,J n z->wpAny (model prog w) A (pyNext it)
  (λr z1=>match r with|none=>R (.ok .next) z1|some v=>N v n z1) (pO prog w A env R) z)
 (n:Nat) (h:J n s) :
 codeAny (model prog w) A (.compLoop (.ListComp elt [⟨tg,iter,ifs,0⟩] scope pos) 0 it acc env) R s:=by
 refine Vz rfl J (λk z hz=>?_) n h;show wpAny _ A (Sem.onRaise (compTurn _ 0 it acc env) _) _ _ z;refine VA ?_;rw[compTurn_list];refine ae (rf (ae ?_));refine cM (go k z hz) (λr z1 h1=>?_) λ_ _ q=>q;cases r with
 |none=>exact ag h1
 | some v =>
   refine ae (cM (hN v k z1 h1) (λ_ z2 h2=>ae ?_) λ_ _ q=>q);refine cM h2 (λ_ z3 h3=>ae ?_) λ_ _ q=>q;refine cM h3 (λb z4 h4=>?_) λ_ _ q=>q;cases b with
   |false=>exact ag ⟨rfl,h4⟩
   | true =>
     refine ae (ae (cM h4 (λy z5 h5=>ae ?_) λ_ _ q=>q));exact cM h5 (λ_ z6 h6=>ag (ag ⟨rfl,h6⟩)) λ_ _ q=>q
theorem kQ.cells {N:List Str}{src:List (Option Nat)}{scope:Scope}(S:kQ X N src scope) (ok:X.Ok):∀ y∈scope.names,y.2=.free->∃ c,X.env.cells.lookup y.1=some c :=
 λy hy hf=>ok.has y.1 (S.has y hy hf)
theorem Cj {cells:List (Str×Addr)}{x:Str}{c:Addr}:∀ (names:List (Str×NameKind)) (acc:List (Str×Addr)),(x,c)∉acc->(x,c)∈c6 cells names acc->(x,NameKind.free)∈names
 |[],_,h,e=>absurd e h
 | (n,k)::r,acc,h,e=>by
   by_cases hx:x=n /\ k=.free
   ·obtain⟨rfl,rfl⟩:=hx;exact bZ
   ·refine bS _ (Cj r _ ?_ e);by_cases hk:(k==NameKind.free)=true
    ·rw[if_pos hk];cases q:cells.lookup n with
     |none=>exact h
     | some a =>
       intro z;rcases aO.mp z with z|z
       ·exact hx ⟨(Prod.mk.inj z).1,eq_of_beq hk⟩
       ·exact h z
    ·rw[if_neg hk];exact h
theorem Ac {src:List (Option Nat)}{scope:Scope}{s':Shared} 
 (S:kQ X N src scope) (I:Inv X pins σ H s) (Kj:∀ b∈fp,dj X pins H b /\ b<s.heap.objs.size) (hh:s'={ s with heap:=pushCells (s.heap.push { cls:=.type "dict",data:=.dict #[] }) scope.names }) :
 Inv (X.comp N scope (cellsFrom (s.heap.objs.size+1) scope.names (c6 X.env.cells scope.names [])) s H s.heap.objs.size fp) [] (rK src σ) H s':=by
 subst hh;have hk:∀ b o,s.heap.get? b=some o->(pushCells (s.heap.push { cls:=.type "dict",data:=.dict #[] }) scope.names).get? b=some o:=λb o e=>wW _ _ b o (aC _ e);have cc:(pushCells (s.heap.push { cls:=.type "dict",data:=.dict #[] }) scope.names).Ns s.heap.objs.size (λ_=>none):=(Heap.Ns.new s.heap (.type "dict")).keeps (wW _ _);have ok:=cellsFrom_ok scope.names (s.heap.push { cls:=.type "dict",data:=.dict #[] }) (s.heap.objs.size+1) [] ⟨λ_ _ hm=>(nomatch hm),List.Pairwise.nil⟩ (by rw[qo];exact aq _);rw[qo]at ok;have split:∀ x c,(cellsFrom (s.heap.objs.size+1) scope.names (c6 X.env.cells scope.names [])).lookup x=some c->(cellsFrom (s.heap.objs.size+1) scope.names []).lookup x=some c \/ (c6 X.env.cells scope.names []).lookup x=some c:=λx c e=>by
  rw[iB,jM]at e;cases q:(cellsFrom (s.heap.objs.size+1) scope.names []).lookup x with
  |some a=>rw[q]at e;exact .inl e
  |none=>rw[q]at e;exact .inr e
 have own:∀ x c,(cellsFrom (s.heap.objs.size+1) scope.names []).lookup x=some c->s.heap.objs.size<c /\ (pushCells (s.heap.push { cls:=.type "dict",data:=.dict #[] }) scope.names).IsCell c none:=λx c e=>by
  obtain⟨a,b⟩:=ok.empty x c (kK e);exact⟨b,a⟩
 have X6:∀ x,scope.names.lookup x=some .free->(cellsFrom (s.heap.objs.size+1) scope.names (c6 X.env.cells scope.names [])).lookup x=(c6 X.env.cells scope.names []).lookup x:=λx e=>by
  rw[iB,jM];cases q:(cellsFrom (s.heap.objs.size+1) scope.names []).lookup x with
  |some a=>exact absurd (Ab S.nk (kK e) (mZ _ _ (kK q))) (by decide)
  |none=>rfl
 have low:∀ x c,X.env.cells.lookup x=some c->c<s.heap.objs.size:=λx c e=>by
  obtain⟨v,o,ho,_⟩:=I.cell x c e;exact aM ho
 have sub:=Ce (cells:=X.env.cells) scope.names [] (λx c e=>by simp at e);have abC:∀ x,((relabel scope X.env).names.lookup x=some .cell \/ (relabel scope X.env).names.lookup x=some .free)->scope.names.lookup x=some .free \/ scope.names.lookup x=some .cell:=λx hx=>by
  have go:∀ k',(k'=NameKind.cell \/ k'=NameKind.free)->(relabel scope X.env).names.lookup x=some k'->scope.names.lookup x=some .free \/ scope.names.lookup x=some .cell:=λk' zW e=>by
   obtain⟨k,e1,q⟩:=lZ (env:=X.env) scope.names x k' e;rcases q with q|⟨q,_⟩
   ·subst q;rcases zW with z|z
    ·subst z;exact .inr e1
    ·subst z;exact .inl e1
   ·subst q;exact .inl e1
  exact hx.elim (go _ (.inl rfl)) (go _ (.inr rfl))
 have X7:∀ x,scope.names.lookup x=some .free->∃ c,(c6 X.env.cells scope.names []).lookup x=some c /\ X.env.cells.lookup x=some c:=λx e=>by
  have hm:=kK e;obtain⟨c,e1⟩:=Ci (cells:=X.env.cells) scope.names [] x (.inr ⟨hm,S.cells I.ok (x,.free) hm rfl⟩);exact⟨c,e1,sub x c e1⟩
 refine⟨⟨I.ok.mod,?_,I.ok.glob,I.ok.blt,aq _,λx y c e1 e2=>?_,λx hx=>?_,λx c e=>?_,I.ok.hd,I.ok.frames,.inl rfl,λb hb=>?_,I.bs,bR I.ok.uq I.sz,λb o e hb=>?_,λb hb=>?_,I.stack,I.Xi⟩,
  rfl,I.bare,Un.kept hk,⟨_,cc,λj x v e1 e2 e3=>?_⟩,λx c e=>?_,I.ak.fresh (aq _),λx c e=>?_,λp hp=>absurd (show p∈([]:List (Addr×Obj)) from hp) (by simp),I.ak.kept hk,?_⟩
 ·exact S.kind
 ·rcases split x c e1 with q1|q1<;>rcases split y c e2 with q2|q2
  ·exact Vr ok.apart (kK q1) (kK q2)
  ·exact absurd (zb (own x c q1).1 (low y c (sub y c q2))) (dE _)
  ·exact absurd (zb (own y c q2).1 (low x c (sub x c q1))) (dE _)
  ·exact I.ok.inj x y c (sub x c q1) (sub y c q2)
 ·rcases abC x hx with k|k
  ·obtain⟨c,e1,_⟩:=X7 x k;exact⟨c,(X6 x k).trans e1⟩
  ·obtain⟨c,e1⟩:=o6 (n:=s.heap.objs.size+1) k;refine⟨c,?_⟩;show (cellsFrom (s.heap.objs.size+1) scope.names (c6 X.env.cells scope.names [])).lookup x=some c;rw[iB,jM,e1]
 ·intro hl;rcases split x c hl with q|q
  ·exact nN (own x c q).1
  ·have k:scope.names.lookup x=some .cell:=of_decide_eq_true e;have m:(x,NameKind.free)∈scope.names:=Cj _ _ (by simp) (kK q);exact absurd (Ab S.nk (kK k) m) (by decide)
 ·obtain⟨f,hl⟩:=Kj b hb;refine⟨bH hl,λx c e=>?_⟩;rcases split x c e with q|q
  ·exact rh (zb hl (own x c q).1)
  ·exact f.2.2.2.2.1 x c (sub x c q)
 ·obtain⟨f,_⟩:=Kj b hb;obtain⟨_,_,_,f4,_⟩:=f;rcases f4 with z|z
  ·exact I.ok.xu b o e z
  ·have q:=(I.ok.bs b o e).1;exact absurd (eB (aM q) z) (dE _)
 ·obtain⟨f,_⟩:=Kj b hb;intro hz;rcases aO.mp (I.Iv b hz) with e|e
  ·exact f.2.1 e
  ·exact f.2.2.1 e
 ·have hs:∃ i,src[j]?=some (some i) /\ σ[i]?=some (some v):=by
   have rL:(src.map λo=>o.bind λi=>(σ[i]?).bind id)[j]?=some (some v):=e2;rw[dS]at rL;cases q:src[j]? with
   |none=>rw[q]at rL;cases rL
   | some o =>
     rw[q]at rL;cases o with
     |none=>cases rL
     | some i =>
       refine⟨i,rfl,?_⟩;have zX:(σ[i]?).bind id=some v:=Option.some.inj rL;cases z:σ[i]? with
       |none=>rw[z]at zX;cases zX
       | some o' =>
         rw[z]at zX;have:o'=some v:=zX;rw[this]
  obtain⟨i,abD,hσ⟩:=hs;obtain⟨hN,v8⟩:=S.abA j i x abD e1;have X8:=S.has (x,.free) (kK v8) rfl;obtain⟨m,_,hl⟩:=I.loc;obtain⟨u,r,lk⟩:=hl i x v hN hσ (.inr X8);refine⟨u,r,?_⟩;rcases lk with⟨k,_⟩|⟨_,c,ec,zF⟩
  ·rcases X8 with z|z
   ·rw[z]at k;cases k
   ·rw[z]at k;cases k
  ·obtain⟨c',kG,rL⟩:=X7 x v8;have:c'=c:=by rw[ec]at rL;exact(Option.some.inj rL).symm
   subst this;refine .inr ⟨?_,c',(X6 x v8).trans kG,?_⟩
   ·exact jL (env:=X.env) scope.names x v8
   ·obtain⟨o,ho,hd⟩:=zF;exact⟨o,hk _ _ ho,hd⟩
 ·rcases split x c e with q|q
  ·exact⟨none,(own x c q).2⟩
  ·obtain⟨v,o,ho,hd⟩:=I.cell x c (sub x c q);exact⟨v,o,hk _ _ ho,hd⟩
 ·rcases split x c e with q|q
  ·exact I.ak.fresh (nN (own x c q).1)
  ·exact I.nV x c (sub x c q)
 ·show (rK src σ).length=N.length;unfold rK;rw[aA];exact S.abz
theorem Fw {src:List (Option Nat)}{scope:Scope}{wi:TI}{g:TG}{tf:TT}{te:TE}
 (hc:X.calm=true) (S:kQ X N src scope) (hi:PI X tg iter wi)
 (hg:∀ cl s H C fp,PG (X.comp N scope cl s H C fp) tg g) (hf:∀ cl s H C fp,PF (X.comp N scope cl s H C fp) ifs tf) (he:∀ cl s H C fp,PE (X.comp N scope cl s H C fp) elt te)
 (hs:∀ x,foldedSetIterable iter X.env x=pure x):PE X (.ListComp elt [⟨tg,iter,ifs,0⟩] scope pos) (zV src wi g tf te):=by
 intro pins s σ H Q I h;rw[eval_ListComp];refine Hf (use:=none) rfl hs (lY (S.cells I.ok)) S.kind S.names (ai (hi pins s σ H _ I h) λxv s1 h1=>ai h1 λvU s2 h2=>?_);obtain⟨it,fp,tn,J,H2,e,I2,T,nq,f2,hW⟩:=h2;subst e;refine cT ?_;generalize hD:s2.heap.objs.size=D;have xK:H2 D=none:=I2.ak.fresh (sF hD);have I3:Inv X pins σ (upd H2 D (.lst [])) { s2 with heap:=s2.heap.push { cls:=.type "list",dict:=none,data:=.seq ([]:List Value).toArray } }:=by
  subst hD;exact I2.laid (t':=s2.toks) (λb u e=>aC _ e) (aq _) ⟨cG _,[],0,.nil,aU _ rfl⟩
 obtain⟨W,⟨m0,w0⟩,turn⟩:=hW D xK;have up:∀ b o,s2.heap.get? b=some o->(s2.heap.push { cls:=.type "list",dict:=none,data:=.seq ([]:List Value).toArray }).get? b=some o:=λb u e=>aC _ e;have xM:=T.obj _ _ nq;have pM:tn 0 (s2.heap.push { cls:=.type "list",dict:=none,data:=.seq ([]:List Value).toArray }):=T.keep _ _ _ nq λb _ o e=>up b o e;have sY:∀ b∈fp,b<s2.heap.objs.size:=λb hb=>by obtain⟨o,e,_⟩:=xM b hb;exact aM e
 have f3:∀ b∈fp,dj X pins (upd H2 D (.lst [])) b:=λb hb=>⟨by rw[fG (by rw[<-hD];exact bH (sY b hb))];exact(f2 b hb).1,(f2 b hb).2⟩;generalize xO:({ s2 with heap:=s2.heap.push { cls:=.type "list",dict:=none,data:=.seq ([]:List Value).toArray } }:Shared)=s3 at I3 ⊢;have sZ:s3.heap=s2.heap.push { cls:=.type "list",dict:=none,data:=.seq ([]:List Value).toArray }:=by rw[<-xO]
 rw[<-sZ]at pM;have Kk:∀ b∈fp,b<s3.heap.objs.size:=λb hb=>by rw[sZ,qo];exact k7 (sY b hb)
 generalize abE:upd H2 D (.lst [])=H3 at I3 f3 w0;refine l6 ?_;generalize tj:pushCells (s3.heap.push { cls:=.type "dict",data:=.dict #[] }) scope.names=h₁;have k1:∀ b o,s3.heap.get? b=some o->h₁.get? b=some o:=λb o e=>by rw[<-tj];exact wW _ _ b o (aC _ e)
 have IY:=Ac S I3 (λb hb=>⟨f3 b hb,Kk b hb⟩) (s':={ s3 with heap:=h₁ }) (by rw[tj]);have tm:tn 0 h₁:=T.keep _ _ _ pM λb _ o e=>k1 b o e;generalize uA:cellsFrom (s3.heap.objs.size+1) scope.names (c6 X.env.cells scope.names [])=cl at IY ⊢;generalize hC:s3.heap.objs.size=C at IY ⊢;have qD:∀ {H':Hp},(∀ b∈fp,H' b=none)->∀ b∈fp,dj (X.comp N scope cl s3 H3 C fp) [] H' b:=λhn b hb=>by
  refine⟨hn b hb,?_,?_,.inl hb,?_,λp hp=>absurd (show p∈([]:List (Addr×Obj)) from hp) (by simp)⟩
  ·exact(IY.ok.sM b hb).1
  ·exact IY.ok.ur b hb
  ·intro x c e z;exact(IY.ok.sM b hb).2 x c e z
 have fin:∀ (σ':St) (H':Hp) (s':Shared),Inv (X.comp N scope cl s3 H3 C fp) [] σ' H' s'->∀ h',Heap.SameBut C s'.heap h'->Inv X pins σ H' { s' with heap:=h' }:=λσ' H' s' I' h' nZ=>by
  have qE:H' C=none:=I'.free;have kp:∀ b o,b≠C->s'.heap.get? b=some o->h'.get? b=some o:=λb o hb e=>nZ.extBut b o hb e;have xQ:s3.heap.get? C=none:=by rw[<-hC];exact vH (aq _)
  have hJ:∀ b o,s3.heap.get? b=some o->b≠C:=λb o e z=>by rw[z,xQ]at e;cases e
  have U:=I'.base;refine I3.Iy (s':={ s' with heap:=h' }) (ch:=fp) I'.os ⟨λb o e n hb hx=>kp b o (hJ b o e) (U.keep b o e n hb hx),λb o e n hb hx=>?_,U.free,λb o e hx=>?_,U.pI,U.nU,U.pJ⟩ ?_ I'.bare λb hb=>?_
  ·obtain⟨sl,e1⟩:=U.slot b o e n hb hx;exact⟨sl,kp b _ (hJ b o e) e1⟩
  ·obtain⟨o',e1⟩:=U.there b o e hx;exact⟨o',kp b o' (hJ b o e) e1⟩
  ·intro b ob e;refine(I'.ak b ob e).hG (λc w' bz q=>kp c w' (λz=>?_) q) (λ_ q=>q) λ_ _ q=>q;rcases bz with z1|z1
   ·rw[<-z1,z,qE]at e;cases e
   ·rw[z,qE]at z1;cases z1
  ·exact⟨(f3 b hb).2.2.2.1,(f3 b hb).2.1,λx c e=>(f3 b hb).2.2.2.2.1 x c e,(f3 b hb).2.2.2.2.2⟩
 have loop:∀ s4:Shared,s4={ s3 with heap:=h₁ } ->
  codeAny (model X.prog X.w) X.A (.compLoop (.ListComp elt [⟨tg,iter,ifs,0⟩] scope pos) 0 (.ref it) (.ref D) (compEnvC scope cl C X.env)) (compPost (model X.prog X.w) X.A X.xe none (EP X pins σ Q) (.ref D) C) s4:=by
  rintro s4 rfl;refine mF (λn s'=>∃ i σ' H',Inv (X.comp N scope cl s3 H3 C fp) [] σ' H' s' /\ tn i s'.heap /\ (∀ b∈fp,H' b=none) /\ W i n σ' H') _ (λ_ _ _ q=>q) ?_ m0 ⟨0,_,H3,IY,tm,λb hb=>(f3 b hb).1,w0⟩;rintro n s5 ⟨i,σ5,H5,I5,nW,qv,w5⟩;have cK:∀ {α:Type}{t:Sem α}{Q1:α->Shared->Prop}{E1:Value->Shared->Prop}{ss:Shared},wpAny (model X.prog X.w) X.A t Q1 (λ_ _=>False) ss->wpAny (model X.prog X.w) X.A t Q1 E1 ss:=λhw=>cM hw (λ_ _ q=>q) λ_ _ z=>False.elim z;rcases turn i n σ5 H5 w5 with⟨stop,q5⟩|⟨go,NN,hN,step⟩
  ·refine cK (ai (T.done (X.comp N scope cl s3 H3 C fp) rfl rfl rfl hc i [] s5 σ5 H5 (λ_ _=>False) I5 (qD qv) nW stop) λr s6 ⟨hr,I6⟩=>?_);subst hr;obtain⟨m6,xR,_⟩:=I6.loc;exact⟨m6,xR,λh' nZ=>⟨.ref D,H5,fin σ5 H5 s6 I6 h' nZ,rfl,q5⟩⟩
  ·refine cK (ai (T.item (X.comp N scope cl s3 H3 C fp) rfl rfl rfl hc i [] s5 σ5 H5 (λ_ _=>False) I5 (qD qv) nW go) λr s6 ⟨u,hr,h6⟩=>?_);subst hr;refine cK (ai h6 λ_ s7 ⟨x,H7,I7,r7,y7,qG,xS⟩=>?_);have xT:=I7.pinned (qD xS) (T.obj _ _ qG);refine cK (ai (hg cl s3 H3 C fp _ s7 σ5 H7 x u _ xT r7 (step x H7 y7)) λ_ s8 ⟨σ8,H8,I8,q8⟩=>?_);refine cK (ai (hf cl s3 H3 C fp _ s8 σ8 H8 _ I8 q8) λb s9 ⟨H9,I9,q9⟩=>?_);have again:∀ {σ9:St}{HA:Hp}{sA:Shared},Inv (X.comp N scope cl s3 H3 C fp) ([]++rF fp s7.heap) σ9 HA sA->NN σ9 HA->∃ m,m<n /\ ∃ i σ' H',Inv (X.comp N scope cl s3 H3 C fp) [] σ' H' sA /\ tn i sA.heap /\ (∀ b∈fp,H' b=none) /\ W i m σ' H':=λ{σ9 HA sA} IA nA=>by
    obtain⟨m',hm,wA⟩:=hN σ9 HA nA;refine⟨m',hm,i+1,σ9,HA,IA.sP,T.keep _ _ _ qG λb hb o e=>(IA.pin (b,o) (bT _ (bT _ (gK hb e)))).1,λb hb=>?_,wA⟩;obtain⟨o,e,d⟩:=T.obj _ _ qG b hb;exact(IA.pin (b,o) (bT _ (bT _ (gK hb e)))).2.1
   cases b with
   | false =>
     rw[if_neg (by decide)]at q9;rw[if_neg (by decide)];exact again I9 q9
   | true =>
     rw[if_pos rfl]at q9;rw[if_pos rfl];refine cK (ai (he cl s3 H3 C fp _ s9 σ8 H9 _ I9 q9) λyv sA ⟨y,HA,IA,rA,ys,Kl,Km,nA⟩=>?_);refine cK (ai (mY _ sA σ8 HA (.ref D) [y] (.ref D) [yv] (λ_ HB=>NN σ8 HB) IA rfl (.cons rA .nil) ⟨D,ys,y,rfl,rfl,Kl,Km,nA⟩) λr sB hB=>?_);obtain⟨_,HB,IB,_,nB⟩:=hB;exact again IB nB
 exact VB (loop _ rfl) (T.self _ 0 _ _ _ tm (loop _ rfl))
open PySem.W PySem.Builtin PySem.Builtin.ObjectAttr PySem.Builtin.Getset_descriptor
section
variable {x C : Addr}
def X9 (x C:Addr) (h:Heap):Prop:=∃ ox,h.get? x=some ox /\ ox.cls=.ref C
theorem X9.type (I:X9 x C h):Looks M h (typeOf (.ref x)) (.ref C):=by
 obtain⟨ox,e,hc⟩:=I;exact hc▸(Looks.ld e).andThen .now
structure aeW (K:Frag) (C:Addr):Prop where
 ga:findIn K (.ref C) "__getattribute__"=some (some (.builtin "BaseException.__getattribute__"))
 gt:findIn K (.ref C) "__getattr__"=some none
 cl:findIn K (.ref C) "__class__"=some (some (.builtin "object.__class__"))
 gs:specialIn K (.builtin "object.__class__") "__get__"=some (some (.builtin "getset_descriptor.__get__"))
 tk:takesIn K (.builtin "object.__class__")=some true
 mo:mroIn K C (.type "object")=some true
 mb:mroIn K C (.type "BaseException")=some true
 cd:(clsIn K C).isSome=true
end
def abF (B:Heap) (l:List Env) (ea:Addr) (cls a0:Value) (h:Heap):Prop :=
 Heap.FlyingW B l ea cls a0 h \/ (B.StaysIn h /\ B.get? ea=none /\ h.FunFrames B l /\
  h.get? ea=some { cls:=cls,data:=.fields #[a0,.none,.none,.none,.bool false,.none] })
section
variable {B : Heap} {env : Env} {outer : List Env} {L ea : Addr} {cls a0 : Value} {Q : Unit -> Shared -> Prop}
end
def nu (P:Program) (w:World):nX:=λouter H s E e s'=>∃ (ea C:Addr) (a0:Value) (B:Heap) (H':Hp),
 e=.ref ea /\ s'.os=s.os /\ AllBare s'.gens /\ Un (nh outer) [] H H' s.heap s'.heap /\ bU P w H' s'.heap /\ abF B outer ea (.ref C) a0 s'.heap /\
 (∀ b u o,H' b=some u->s'.heap.get? b=some o->B.get? b=some o) /\ (∀ b o,s.heap.get? b=some o->b∉nh outer->∃ o',B.get? b=some o') /\ E (.ref C) none H'
section
variable {k : Nat} {f C : Addr} {ps : List Str} {sp : Sp} {rG : List V} {ds : List Value} {E : XK} {m : Str} {p : Pos} {o : Expr} {ta : TE} {t : TA}
inductive Ya (K:Frag) (H:Hp):V->Value->Prop where
 |of {x:V}{t:Value}(h:kO K H x t):Ya K H x t
noncomputable def abG:V->Value->Prop
 |.ref a,c=>c=.ref a
 |.ty n,c=>c=.type n
 |_,_=>False
def abH (K:Frag):List V->Hp->VK->Prop:=λvs H Q=>∃ x c t cv b,vs=[x,c] /\ Ya K H x t /\ abG c cv /\ kitOne K t cv=some b /\ Q (.bl b) H
theorem GT:eE X (.builtin "isinstance") (abH X.K):=by
 intro pins s σ H xs us Q I rv h;obtain⟨x,c,t,cv,b,rfl,ty,hc,e,q⟩:=h;cases rv with
 | cons r1 r2 =>
   cases r2 with
   | cons r3 r4 =>
     cases r4;rename_i u1 u2;have ec:u2=cv:=by
      cases c with
      |ref a=>exact(show u2=.ref a from r3).trans (show cv=.ref a from hc).symm
      |ty n=>exact(show u2=.type n from r3).trans (show cv=.type n from hc).symm
      |non=>exact hc.elim
      |bl _=>exact hc.elim
      |int _=>exact hc.elim
      |str _=>exact hc.elim
      |kA _=>exact hc.elim
      |sL _=>exact hc.elim
     subst ec;cases ty with
     |of ty=>exact GM I r1 ty e λtk=>⟨.bl b,H,I.tok tk,rfl,q⟩
end
end L2
namespace L2.DL
inductive D where
 |non|bl (b:Bool)|int (i:Int)|str (x:Str)|tup (l:List D)|lst (l:List D)|ah (l:List (Key×D))
inductive W where
 |d (x:D)|b (n:Nat)|s (l:List Int)|x (i:Nat)|t (l:List Nat)|m (l:List (Str×Nat))
inductive Bx where
 |lst (l:List D)|ah (l:List (Key×D))|dead|dT (l:List (List Key×D))
mutual
noncomputable def Den (F:Hp):D->V->Prop
 |.non,v=>v=.non
 |.bl b,v=>v=.bl b
 |.int i,v=>v=.int i
 |.str x,v=>v=.str x
 |.tup l,v=>∃ a vs,v=.ref a /\ F a=some (.tup vs) /\ ao F l vs
 |.lst l,v=>∃ a vs,v=.ref a /\ F a=some (.lst vs) /\ ao F l vs
 |.ah l,v=>∃ a af,v=.ref a /\ F a=some (.dK af) /\ aK F l af
noncomputable def ao (F:Hp):List D->List V->Prop
 |[],vs=>vs=[]
 |d::l,vs=>∃ v r,vs=v::r /\ Den F d v /\ ao F l r
noncomputable def aK (F:Hp):List (Key×D)->List (Key×V)->Prop
 |[],r=>r=[]
 |(k,d)::l,r=>∃ v r',r=(k,v)::r' /\ Den F d v /\ aK F l r'
end
def Sub (F F':Hp):Prop:=∀ a u,F a=some u->F' a=some u
theorem Sub.refl (F:Hp):Sub F F:=λ_ _ h=>h
theorem Sub.trans {G:Hp}(a:Sub F G) (b:Sub G H):Sub F H:=λx u h=>b x u (a x u h)
mutual
theorem Den.mono {F F':Hp}(s:Sub F F'):∀ (d:D) {v:V},Den F d v->Den F' d v
 |.non,_,h=>h
 |.bl _,_,h=>h
 |.int _,_,h=>h
 |.str _,_,h=>h
 | .tup l,_,h=>by
   obtain⟨a,vs,e,h1,h2⟩:=h;exact⟨a,vs,e,s _ _ h1,ao.mono s l h2⟩
 | .lst l,_,h=>by
   obtain⟨a,vs,e,h1,h2⟩:=h;exact⟨a,vs,e,s _ _ h1,ao.mono s l h2⟩
 | .ah l,_,h=>by
   obtain⟨a,vs,e,h1,h2⟩:=h;exact⟨a,vs,e,s _ _ h1,aK.mono s l h2⟩
theorem ao.mono {F F':Hp}(s:Sub F F'):∀ (l:List D) {vs:List V},ao F l vs->ao F' l vs
 |[],_,h=>h
 | d::l,_,h=>by
   obtain⟨v,r,e,h1,h2⟩:=h;exact⟨v,r,e,Den.mono s d h1,ao.mono s l h2⟩
theorem aK.mono {F F':Hp}(s:Sub F F'):∀ (l:List (Key×D)) {vs:List (Key×V)},aK F l vs->aK F' l vs
 |[],_,h=>h
 | (k,d)::l,_,h=>by
   obtain⟨v,r,e,h1,h2⟩:=h;exact⟨v,r,e,Den.mono s d h1,aK.mono s l h2⟩
end
theorem ao.length {F:Hp}:∀ {l:List D}{vs:List V},ao F l vs->l.length=vs.length
 | [],_,h=>by
   have e:_=[]:=h;rw[e];rfl
 | d::l,_,h=>by
   obtain⟨v,r,e,_,h2⟩:=h;rw[e,a9,a9,h2.length]
theorem ao.get {F:Hp}:∀ {l:List D}{vs:List V}{i:Nat}{d:D},ao F l vs->l[i]?=some d->∃ v,vs[i]?=some v /\ Den F d v
 |[],_,_,_,_,e=>by simp at e
 | x::l,_,0,d,h,e=>by
   obtain⟨v,r,q,h1,_⟩:=h;simp at e;subst e;subst q;exact⟨v,rfl,h1⟩
 | x::l,_,i+1,d,h,e=>by
   obtain⟨v,r,q,_,h2⟩:=h;subst q;obtain⟨u,e1,e2⟩:=ao.get (i:=i) h2 (by simpa using e);exact⟨u,by simpa using e1,e2⟩
theorem ao.get' {l:List D}(h:ao F l vs) (e:vs[i]?=some v):∃ d,l[i]?=some d /\ Den F d v:=by
 cases q:l[i]? with
 | none =>
   have h1:=List.getElem?_eq_none_iff.mp q;rw[h.length]at h1;rw[List.getElem?_eq_none_iff.mpr h1]at e;cases e
 | some d =>
   obtain⟨u,e1,e2⟩:=h.get q;rw[e]at e1;cases e1;exact⟨d,rfl,e2⟩
theorem ao.nil:ao F [] []:=rfl
theorem ao.cons {F:Hp}{d:D}{v:V}{l:List D}{vs:List V}(h:Den F d v) (t:ao F l vs):ao F (d::l) (v::vs):=⟨v,vs,rfl,h,t⟩
theorem ao.append {F:Hp}:∀ {l l':List D}{vs wa:List V},ao F l vs->ao F l' wa->ao F (l++l') (vs++wa)
 | [],_,_,_,h,t=>by
   have e:_=[]:=h;rw[e];exact t
 | d::l,_,_,_,h,t=>by
   obtain⟨v,r,q,h1,h2⟩:=h;subst q;exact .cons h1 (h2.append t)
theorem ao.take {F:Hp}:∀ {l:List D}{vs:List V}(n:Nat),ao F l vs->ao F (l.take n) (vs.take n)
 |l,_,0,_=>by rw[V6,V6];rfl
 | [],_,n+1,h=>by
   have e:_=[]:=h;rw[e];exact rfl
 | d::l,_,n+1,h=>by
   obtain⟨v,r,q,h1,h2⟩:=h;subst q;exact .cons h1 (h2.take n)
theorem ao.drop {F:Hp}:∀ {l:List D}{vs:List V}(n:Nat),ao F l vs->ao F (l.drop n) (vs.drop n)
 |l,_,0,h=>h
 | [],_,n+1,h=>by
   have e:_=[]:=h;rw[e];exact rfl
 | d::l,_,n+1,h=>by
   obtain⟨v,r,q,h1,h2⟩:=h;subst q;exact h2.drop n
theorem ao.reverse {F:Hp}:∀ {l:List D}{vs:List V},ao F l vs->ao F l.reverse vs.reverse
 | [],_,h=>by
   have e:_=[]:=h;rw[e];exact rfl
 | d::l,_,h=>by
   obtain⟨v,r,q,h1,h2⟩:=h;subst q;rw[zf,zf];exact h2.reverse.append (.cons h1 .nil)
theorem ao.set {F:Hp}{d:D}{v:V}(hd:Den F d v):∀ {l:List D}{vs:List V}(i:Nat),ao F l vs->ao F (l.set i d) (vs.set i v)
 | [],_,_,h=>by
   have e:_=[]:=h;rw[e];exact rfl
 | _::l,_,0,h=>by
   obtain⟨v',r,q,h1,h2⟩:=h;subst q;exact .cons hd h2
 | _::l,_,i+1,h=>by
   obtain⟨v',r,q,h1,h2⟩:=h;subst q;exact .cons h1 (ao.set hd i h2)
theorem ao.eraseIdx {F:Hp}:∀ {l:List D}{vs:List V}(i:Nat),ao F l vs->ao F (l.eraseIdx i) (vs.eraseIdx i)
 | [],_,_,h=>by
   have e:_=[]:=h;rw[e];exact rfl
 | _::l,_,0,h=>by
   obtain⟨v',r,q,h1,h2⟩:=h;subst q;exact h2
 | _::l,_,i+1,h=>by
   obtain⟨v',r,q,h1,h2⟩:=h;subst q;exact .cons h1 (h2.eraseIdx i)
structure Fr where
 H₀:Hp
 n₀:Nat
 F₀:Hp
noncomputable def pP (r:List Addr):List Nat->List Addr->Prop
 |[],as=>as=[]
 |n::l,as=>∃ a t,as=a::t /\ r[n]?=some a /\ pP r l t
theorem pP.mono {r r':List Addr}(p:r <+: r'):∀ {l:List Nat}{as:List Addr},pP r l as->pP r' l as
 |[],_,h=>h
 | n::l,_,h=>by
   obtain⟨a,t,e,h1,h2⟩:=h;refine⟨a,t,e,?_,h2.mono p⟩;obtain⟨u,rfl⟩:=p;rw[cn (List.getElem?_eq_some_iff.mp h1).1];exact h1
def eT (F:Hp):List (List Key×D)->List (List Key×V)->Prop
 |[],r=>r=[]
 |(k,d)::l,r=>∃ v r',r=(k,v)::r' /\ Den F d v /\ eT F l r'
theorem eT.mono {F F':Hp}(s:Sub F F'):∀ (l:List (List Key×D)) {vs:List (List Key×V)},eT F l vs->eT F' l vs
 |[],_,h=>h
 | (k,d)::l,_,h=>by
   obtain⟨v,r,e,h1,h2⟩:=h;exact⟨v,r,e,Den.mono s d h1,eT.mono s l h2⟩
def bB (F:Hp) (Kn:List Addr):W->V->Prop
 |.d x,v=>Den F x v
 |.b n,v=>∃ a,v=.ref a /\ Kn[n]?=some a
 |.s l,v=>∃ a o,v=.ref a /\ F a=some (.kB o (.lst (l.map V.int)))
 |.x _,_=>False
 |.t l,v=>∃ c as,v=.ref c /\ F c=some (.tup (as.map V.ref)) /\ pP Kn l as
 |.m l,v=>∃ c as,v=.ref c /\ F c=some (.dK (List.zipWith (λk a=>(.inr k.1,V.ref a)) l as)) /\ pP Kn (l.map (·.2)) as
theorem bB.mono {F F':Hp}{r r':List Addr}(s:Sub F F') (p:r <+: r'):∀ (w:W) {v:V},bB F r w v->bB F' r' w v
 |.d x,_,h=>Den.mono s x h
 | .b n,_,h=>by
   obtain⟨a,e,h⟩:=h;refine⟨a,e,?_⟩;obtain⟨t,rfl⟩:=p;rw[cn (List.getElem?_eq_some_iff.mp h).1];exact h
 |.s l,_,h=>let ⟨a,o,e,h⟩:=h;⟨a,o,e,s _ _ h⟩
 |.x _,_,h=>h
 |.t l,_,h=>let ⟨c,as,e,h1,h2⟩:=h;⟨c,as,e,s _ _ h1,h2.mono p⟩
 |.m l,_,h=>let ⟨c,as,e,h1,h2⟩:=h;⟨c,as,e,s _ _ h1,h2.mono p⟩
def qH (F H:Hp) (a:Addr):Bx->Prop
 |.lst l=>F a=none /\ ∃ vs,H a=some (.lst vs) /\ ao F l vs
 |.ah l=>F a=none /\ ∃ af,H a=some (.dK af) /\ aK F l af
 |.dead=>∃ u,H a=some u
 |.dT l=>F a=none /\ ∃ af,H a=some (.dT af) /\ eT F l af
noncomputable abbrev aI:=List (Option W)
noncomputable abbrev xB (n:Nat):Option W:=some (.b n)
noncomputable abbrev xN (i:Int):Option W:=some (.d (.int i))
noncomputable abbrev xJ (l:List Int):Option W:=some (.d (.lst (l.map D.int)))
structure Rel (T:Fr) (F:Hp) (r:List Addr) (σ:St) (H:Hp) (env:aI) (bx:List Bx):Prop where
 fh:Sub F H
 slot:∀ (i:Nat) (w:W),env[i]?=some (some w)->∃ v,σ[i]?=some (some v) /\ bB F r w v
 len:r.length=bx.length
 nd:r.Nodup
 box:∀ (n:Nat) (c:Bx) (a:Addr),bx[n]?=some c->r[n]?=some a->qH F H a c
 keep:∀ a u,T.H₀ a=some u->a∉r->H a=some u
 new:∀ (n:Nat) (a:Addr),T.n₀<=n->r[n]?=some a->T.H₀ a=none
 n0:T.n₀<=r.length
 sl:env.length<=σ.length
 fs:∀ a u,F a=some u->T.F₀ a=some u \/ T.H₀ a=none \/ a∈r
structure aL (F:Hp) (r:List Addr) (F':Hp) (r':List Addr):Prop where
 s:Sub F F'
 p:r <+: r'
theorem aL.refl (F:Hp) (r:List Addr):aL F r F r:=⟨Sub.refl F,qk r⟩
theorem aL.trans {F F' Yb:Hp}{r r' Yc:List Addr}(a:aL F r F' r') (b:aL F' r' Yb Yc):aL F r Yb Yc:=⟨a.s.trans b.s,a.p.trans b.p⟩
theorem aL.den {F':Hp}{r':List Addr}(g:aL F r F' r') {w:W}(h:bB F r w v):bB F' r' w v:=h.mono g.s g.p w
inductive O (α:Type) where
 |val (a:α) (bx:List Bx)|exc (c:Nat) (bx:List Bx)|bad
abbrev DE (α:Type):=aI->List Bx->O α
noncomputable def fm {β:Type}(m:O α) (k:α->List Bx->O β):O β :=
 match m with
 |.val a bx=>k a bx
 |.exc c bx=>.exc c bx
 |.bad=>.bad
structure Xs where
 E:XK
 cl:Nat->Addr
noncomputable def End {β:Type}(T:Fr) (Z:Xs) (Rl:Hp->List Addr->α->β->Prop) (F:Hp) (r:List Addr) (σ:St) (env:aI) (Q:β->Hp->Prop):O α->Prop
 |.val d bx'=>∀ F' r' v H',aL F r F' r'->Rel T F' r' σ H' env bx'->Rl F' r' d v->Q v H'
 |.exc c bx'=>∀ F' r' H',aL F r F' r'->Rel T F' r' [] H' [] bx'->Z.E (.ref (Z.cl c)) none H'
 |.bad=>False
theorem End.weak {β:Type}{T:Fr}{Z:Xs}{Rl:Hp->List Addr->α->β->Prop}{F':Hp}{r':List Addr}{env:aI}{Q:β->Hp->Prop}(g:aL F r F' r'):∀ {o:O α},End T Z Rl F r σ env Q o->End T Z Rl F' r' σ env Q o
 |.val _ _,h=>λF2 r2 v H2 g2=>h F2 r2 v H2 (g.trans g2)
 |.exc _ _,h=>λF2 r2 H2 g2=>h F2 r2 H2 (g.trans g2)
 |.bad,h=>h
theorem End.bind {β α' β':Type}{T:Fr}{Z:Xs}{R1:Hp->List Addr->α->β->Prop}{R2:Hp->List Addr->α'->β'->Prop}{env:aI}{Q:β'->Hp->Prop}{Q1:β->Hp->Prop}
 {m:O α}{k:α->List Bx->O α'}(h:End T Z R2 F r σ env Q (fm m k))
 (c:∀ d bx1 F1 r1 v H1,aL F r F1 r1->Rel T F1 r1 σ H1 env bx1->R1 F1 r1 d v->End T Z R2 F1 r1 σ env Q (k d bx1)->Q1 v H1):End T Z R1 F r σ env Q1 m:=by
 cases m with
 |val d bx=>exact λF' r' v H' g R q=>c d bx F' r' v H' g R q (End.weak g h)
 |exc n bx=>exact h
 |bad=>exact h
theorem Rel.drop {T:Fr}{env:aI}{bx:List Bx}(R:Rel T F r σ H env bx):Rel T F r [] H [] bx :=
 ⟨R.fh,λi w e=>by simp at e,R.len,R.nd,R.box,R.keep,R.new,R.n0,aq _,R.fs⟩
def tD (T:Fr) (Z:Xs) (m:DE W):TE:=λσ H Q=>∃ F r env bx,Rel T F r σ H env bx /\ End T Z bB F r σ env Q (m env bx)
def PD (X:Cx) (T:Fr) (Z:Xs) (e:Expr) (m:DE W):Prop:=PE X e (tD T Z m)
abbrev abI:Hp->List Addr->Bool->Bool->Prop:=λ_ _ a b=>a=b
def eU (T:Fr) (Z:Xs) (m:DE Bool):TT:=λσ H Q=>∃ F r env bx,Rel T F r σ H env bx /\ End T Z abI F r σ env Q (m env bx)
def dk (X:Cx) (T:Fr) (Z:Xs) (e:Expr) (m:DE Bool):Prop:=PT X e (eU T Z m)
def cw (F:Hp) (r:List Addr):List W->List V->Prop
 |[],vs=>vs=[]
 |w::l,vs=>∃ v t,vs=v::t /\ bB F r w v /\ cw F r l t
theorem cw.mono {F F':Hp}{r r':List Addr}(g:aL F r F' r'):∀ {l:List W}{vs:List V},cw F r l vs->cw F' r' l vs
 |[],_,h=>h
 | w::l,_,h=>by
   obtain⟨v,t,e,h1,h2⟩:=h;exact⟨v,t,e,g.den h1,h2.mono g⟩
def xV (T:Fr) (Z:Xs) (m:DE (List W)):TA:=λσ H Q=>∃ F r env bx,Rel T F r σ H env bx /\ End T Z cw F r σ env Q (m env bx)
def bX (X:Cx) (T:Fr) (Z:Xs) (es:List Expr) (m:DE (List W)):Prop:=PA X es (xV T Z m)
theorem PE.imp {t t':TE}(h:PE X e t) (f:∀ σ H Q,t' σ H Q->t σ H Q):PE X e t':=λpins s σ H Q I q=>h pins s σ H Q I (f σ H Q q)
theorem PT.imp {t t':TT}(h:PT X e t) (f:∀ σ H Q,t' σ H Q->t σ H Q):PT X e t':=λpins s σ H Q I q=>h pins s σ H Q I (f σ H Q q)
theorem PW.imp {t t':TT}(h:PW X e t) (f:∀ σ H Q,t' σ H Q->t σ H Q):PW X e t':=λwhole pins s σ H Q I q=>h whole pins s σ H Q I (f σ H Q q)
theorem PA.imp {e:List Expr}{t t':TA}(h:PA X e t) (f:∀ σ H Q,t' σ H Q->t σ H Q):PA X e t':=λpos pins s σ H Q I q=>h pos pins s σ H Q I (f σ H Q q)
theorem PS.imp {e:Stmt}{t t':TS}(h:PS X e t) (f:∀ Q σ H,t' Q σ H->t Q σ H):PS X e t':=λpins s σ H Q I q=>h pins s σ H Q I (f Q σ H q)
theorem dU.imp {e:List Stmt}{t t':TS}(h:dU X e t) (f:∀ Q σ H,t' Q σ H->t Q σ H):dU X e t':=λpins s σ H Q I q=>h pins s σ H Q I (f Q σ H q)
section
variable {T : Fr} {Z : Xs} {a b : Expr} {ma mb mc : DE W} 
noncomputable def dV (i:Nat):DE W:=λenv bx=>match env[i]? with|some (some w)=>.val w bx|_=>.bad
theorem RI (i:Nat) (hN:X.N[i]?=some x) (hv:vR X.env.scope x) (hd:(x==("__debug__":Str))=false)
 (nj:(x==("__classdict__":Str))=false):PD X T Z (.Name x pos) (dV i):=by
 refine PE.imp (JM hN hv hd nj) λσ H Q ⟨F,r,env,bx,R,h⟩=>?_;unfold dV at h;split at h
 ·rename_i w e;obtain⟨v,e1,e2⟩:=R.slot i w e;exact⟨v,e1,h F r v H (.refl F r) R e2⟩
 ·exact h.elim
noncomputable def dC (d:D):DE W:=λ_ bx=>.val (.d d) bx
theorem Ck {d:D}(h:PE X e (tC v)) (hd:∀ F,Den F d v):PD X T Z e (dC d):=
 PE.imp h λσ H Q ⟨F,r,env,bx,R,h⟩=>h F r v H (.refl F r) R (hd F)
theorem RJ {i:Int}{j}:PD X T Z (.Constant (.int i) j pos) (dC (.int i)):=Ck JN λ_=>rfl
theorem TR {i:Bool}{j}:PD X T Z (.Constant (.bool i) j pos) (dC (.bl i)):=Ck Tz λ_=>rfl
theorem RK {j}:PD X T Z (.Constant .none j pos) (dC .non):=Ck P7 λ_=>rfl
theorem RL {j}:PD X T Z (.Constant (.str x) j pos) (dC (.str x)):=Ck P8 λ_=>rfl
noncomputable def fe:DE (List W):=λ_ bx=>.val [] bx
def fb (m:DE W) (k:DE (List W)):DE (List W):=λenv bx=>fm (m env bx) λw bx1=>fm (k env bx1) λl bx2=>.val (w::l) bx2
theorem iH:bX X T Z [] fe:=PA.imp lX λσ H Q ⟨F,r,env,bx,R,h⟩=>h F r [] H (.refl F r) R rfl
theorem La {k:DE (List W)}(ha:PD X T Z e ma) (hr:bX X T Z es k) (hs:starEach (e::es) X.env=(false,eval e X.env)::starEach es X.env):bX X T Z (e::es) (fb ma k):=by
 refine PA.imp (iN ha hr hs) λσ H Q ⟨F,r,env,bx,R,h⟩=>?_;refine⟨F,r,env,bx,R,End.bind h λw bx1 F1 r1 v H1 g1 R1 d1 h1=>?_⟩;refine⟨F1,r1,env,bx1,R1,End.bind h1 λl bx2 F2 r2 vs H2 g2 R2 d2 h2=>?_⟩;exact h2 F2 r2 _ H2 (.refl F2 r2) R2 ⟨v,vs,rfl,g2.den d1,d2⟩
end
end L2.DL
variable {te m ma : L2.DL.DE L2.DL.W}{l : List L2.DL.D}{ks mi : L2.DL.DE (List L2.DL.W)}{T : L2.DL.Fr}{d : L2.DL.D}{env : L2.DL.aI}{tf : L2.DL.DE Bool}{Z : L2.DL.Xs}{bx bx' bx1 bx0 : List L2.DL.Bx}{fn : List L2.DL.W -> List L2.DL.Bx -> L2.DL.O L2.DL.W}
namespace L2.DL
theorem oI {p:Addr}{o:HO}(h:F p=none):Sub F (upd F p o):=λa u e=>by rw[fG (gh e h)];exact e
theorem Rel.uB (R:Rel T F r σ H env bx) {p:Addr}(h:H p=none):F p=none:=by
 cases e:F p with
 |none=>rfl
 |some u=>rw[R.fh p u e]at h;cases h
theorem qH.there:∀ {c:Bx},qH F H a c->∃ u,H a=some u
 |.lst _,h=>let ⟨_,vs,e,_⟩:=h;⟨_,e⟩
 |.ah _,h=>let ⟨_,vs,e,_⟩:=h;⟨_,e⟩
 |.dead,h=>h
 |.dT _,h=>let ⟨_,vs,e,_⟩:=h;⟨_,e⟩
theorem Rel.dH (R:Rel T F r σ H env bx) (e:r[n]?=some a):∃ c,bx[n]?=some c /\ qH F H a c:=by
 have h:=(List.getElem?_eq_some_iff.mp e).1;rw[R.len]at h;exact⟨_,bI h,R.box n _ a (bI h) e⟩
theorem Rel.uC (R:Rel T F r σ H env bx) {p:Addr}(h:H p=none):p∉r:=λhp=>by
 obtain⟨n,e⟩:=List.mem_iff_getElem?.mp hp;obtain⟨c,_,k⟩:=R.dH e;obtain⟨u,k⟩:=k.there;rw[h]at k;cases k
theorem qH.grow {F':Hp}(s:Sub F F') (hf:F a=none->F' a=none) (hh:∀ u,H a=some u->H' a=some u):∀ {c:Bx},qH F H a c->qH F' H' a c
 |.lst _,h=>let ⟨h1,vs,h2,h3⟩:=h;⟨hf h1,vs,hh _ h2,ao.mono s _ h3⟩
 |.ah _,h=>let ⟨h1,vs,h2,h3⟩:=h;⟨hf h1,vs,hh _ h2,aK.mono s _ h3⟩
 |.dead,h=>let ⟨u,h⟩:=h;⟨u,hh u h⟩
 |.dT _,h=>let ⟨h1,vs,h2,h3⟩:=h;⟨hf h1,vs,hh _ h2,eT.mono s _ h3⟩
theorem Rel.uD (R:Rel T F r σ H env bx) {p:Addr}{o:HO}(h:H p=none):Rel T (upd F p o) r σ (upd H p o) env bx:=by
 have hf:=R.uB h;have s:=oI (o:=o) hf;refine⟨λa u e=>?_,λi w e=>?_,R.len,R.nd,λn c a e1 e2=>?_,λa u e hn=>?_,R.new,R.n0,R.sl,λa u e=>?_⟩
 ·by_cases ha:a=p
  ·subst ha;rw[fC]at e ⊢;exact e
  ·rw[fG ha]at e ⊢;exact R.fh a u e
 ·obtain⟨v,e1,e2⟩:=R.slot i w e;exact⟨v,e1,e2.mono s (qk r)⟩
 ·have k:=R.box n c a e1 e2;obtain⟨u,hu⟩:=k.there;have ha:a≠p:=gh hu h;exact k.grow s (λz=>by rw[fG ha];exact z) (λu z=>by rw[fG ha];exact z)
 ·have k:=R.keep a u e hn;rw[fG (gh k h)];exact k
 ·by_cases ha:a=p
  ·subst ha;refine .inr (.inl ?_);cases q:T.H₀ a with
   |none=>rfl
   |some u=>rw[R.keep a u q (R.uC h)]at h;cases h
  ·rw[fG ha]at e;exact R.fs a u e
theorem Rel.qI (R:Rel T F r σ H env bx) {p:Addr}{o:HO}(h:H p=none):aL F r (upd F p o) r:=⟨oI (R.uB h),qk r⟩
theorem Rel.Ko (R:Rel T F r σ H env bx) {p:Addr}{o:HO}{c:Bx}(h:H p=none) (hc:qH F (upd H p o) p c):Rel T F (r++[p]) σ (upd H p o) env (bx++[c]):=by
 have hs:∀ a u,H a=some u->upd H p o a=some u:=λa u e=>by rw[fG (gh e h)];exact e
 refine⟨λa u e=>hs a u (R.fh a u e),λi w e=>?_,by rw[bM,bM,R.len];rfl,?_,λn c' a e1 e2=>?_,λa u e hn=>?_,λn a hn e=>?_,by rw[bM];exact bR R.n0 (ua _ _),R.sl,λa u e=>(R.fs a u e).imp id (Or.imp id λz=>cU _ z)⟩
 ·obtain⟨v,e1,e2⟩:=R.slot i w e;exact⟨v,e1,e2.mono (Sub.refl F) (xi r [p])⟩
 ·rw[sI];refine⟨R.nd,by simp,λa ha b hb=>?_⟩;rw[a8]at hb;subst hb;exact λz=>R.uC h (z▸ha)
 ·by_cases hn:n<r.length
  ·rw[cn hn]at e2;rw[cn (by rw[<-R.len];exact hn)]at e1;exact(R.box n c' a e1 e2).grow (Sub.refl F) id (hs a)
  ·rw[cz (by omega)]at e2;rw[cz (by rw[<-R.len];omega)]at e1;have hl:n-r.length=0:=by
    cases q:n-r.length with
    |zero=>rfl
    |succ k=>rw[q]at e2;simp at e2
   have rM:n-bx.length=0:=by rw[<-R.len];exact hl
   rw[hl]at e2;rw[rM]at e1;simp at e1 e2;subst e1 e2;exact hc
 ·exact hs a u (R.keep a u e λz=>hn (cU _ z))
 ·by_cases hl:n<r.length
  ·rw[cn hl]at e;exact R.new n a hn e
  ·have hp:a=p:=by
    rw[cz (by omega)]at e;cases q:n-r.length with
    |zero=>rw[q]at e;simp at e;exact e.symm
    |succ k=>rw[q]at e;simp at e
   subst hp;cases q:T.H₀ a with
   |none=>rfl
   |some u=>rw[R.keep a u q (R.uC h)]at h;cases h
theorem Ad {l:List α}(h:l.Nodup) {x:α}(a:l[i]?=some x) (b:l[j]?=some x):i=j:=by
 have h1:=(List.getElem?_eq_some_iff.mp a).1;have h2:=(List.getElem?_eq_some_iff.mp b).1;exact(Hw h1 h).mp (a.trans b.symm)
theorem Rel.write (R:Rel T F r σ H env bx) {o:HO}{c:Bx}(e:r[n]?=some a) (hF:F a=none) (hc:qH F (upd H a o) a c):Rel T F r σ (upd H a o) env (bx.set n c):=by
 have ha:a∈r:=List.mem_iff_getElem?.mpr ⟨n,e⟩;refine⟨λb u q=>?_,R.slot,by rw[kL];exact R.len,R.nd,λm c' b e1 e2=>?_,λb u q hn=>?_,R.new,R.n0,R.sl,R.fs⟩
 ·by_cases hb:b=a
  ·subst hb;rw[hF]at q;cases q
  ·rw[fG hb];exact R.fh b u q
 ·by_cases hm:m=n
  ·subst hm;rw[e]at e2;cases e2;rw[qi (by rw[<-R.len];exact(List.getElem?_eq_some_iff.mp e).1)]at e1;cases e1;exact hc
  ·rw[pC (Ne.symm hm)]at e1;have hb:b≠a:=λz=>hm (Ad R.nd e2 (z▸e));exact(R.box m c' b e1 e2).grow (Sub.refl F) id λu z=>by rw[fG hb];exact z
 ·rw[fG (λz=>hn (by rw[z];exact ha))];exact R.keep b u q hn
theorem Rel.freeze (R:Rel T F r σ H env bx) {o:HO}(e:r[n]?=some a) (hF:F a=none) (hH:H a=some o):Rel T (upd F a o) r σ H env (bx.set n .dead) /\ aL F r (upd F a o) r:=by
 have s:=oI (o:=o) hF;refine⟨⟨λb u q=>?_,λi w q=>?_,by rw[kL];exact R.len,R.nd,λm c' b e1 e2=>?_,R.keep,R.new,R.n0,R.sl,λb u q=>?_⟩,s,qk r⟩
 ·by_cases hb:b=a
  ·subst hb;rw[fC]at q;cases q;exact hH
  ·rw[fG hb]at q;exact R.fh b u q
 ·obtain⟨v,e1,e2⟩:=R.slot i w q;exact⟨v,e1,e2.mono s (qk r)⟩
 ·by_cases hm:m=n
  ·subst hm;rw[e]at e2;cases e2;rw[qi (by rw[<-R.len];exact(List.getElem?_eq_some_iff.mp e).1)]at e1;cases e1;exact⟨_,hH⟩
  ·rw[pC (Ne.symm hm)]at e1;have hb:b≠a:=λz=>hm (Ad R.nd e2 (z▸e));exact(R.box m c' b e1 e2).grow s (λz=>by rw[fG hb];exact z) λu z=>z
 ·by_cases hb:b=a
  ·subst hb;exact .inr (.inr (List.mem_iff_getElem?.mpr ⟨n,e⟩))
  ·rw[fG hb]at q;exact R.fs b u q
def kR (F H:Hp):D->V->Prop
 |.lst l,v=>∃ a vs,v=.ref a /\ H a=some (.lst vs) /\ ao F l vs
 |.ah l,v=>∃ a af,v=.ref a /\ H a=some (.dK af) /\ aK F l af
 |.tup l,v=>∃ a vs,v=.ref a /\ F a=some (.tup vs) /\ ao F l vs
 |.non,v=>v=.non
 |.bl b,v=>v=.bl b
 |.int i,v=>v=.int i
 |.str x,v=>v=.str x
noncomputable def aJ (bx:List Bx):W->Option D
 |.d x=>some x
 | .b n=>match bx[n]? with
   |some (.lst l)=>some (.lst l)
   |some (.ah l)=>some (.ah l)
   |_=>none
 |_=>none
theorem Den.pQ (s:Sub F H):∀ {d:D}{v:V},Den F d v->kR F H d v
 |.non,_,h=>h
 |.bl _,_,h=>h
 |.int _,_,h=>h
 |.str _,_,h=>h
 |.tup l,_,h=>h
 |.lst l,_,h=>let ⟨a,vs,e,h1,h2⟩:=h;⟨a,vs,e,s _ _ h1,h2⟩
 |.ah l,_,h=>let ⟨a,vs,e,h1,h2⟩:=h;⟨a,vs,e,s _ _ h1,h2⟩
theorem Rel.pQ (R:Rel T F r σ H env bx) {w:W}{v:V}{d:D}(h:bB F r w v) (e:aJ bx w=some d):kR F H d v:=by
 cases w with
 | d x =>
   cases e;exact Den.pQ R.fh h
 | b n =>
   obtain⟨a,rfl,ha⟩:=h;obtain⟨c,hc,k⟩:=R.dH ha;simp only[aJ,hc]at e;cases c with
   |lst l=>cases e;obtain⟨_,vs,k1,k2⟩:=k;exact⟨a,vs,rfl,k1,k2⟩
   |ah l=>cases e;obtain⟨_,vs,k1,k2⟩:=k;exact⟨a,vs,rfl,k1,k2⟩
   |dead=>cases e
   |dT _=>cases e
 |s l=>cases e
 |x i=>exact h.elim
 |t _=>cases e
 |m _=>cases e
def Kq (F H:Hp):List D->List V->Prop
 |[],vs=>vs=[]
 |d::l,vs=>∃ v t,vs=v::t /\ kR F H d v /\ Kq F H l t
def dn (bx:List Bx):List W->Option (List D)
 |[]=>some []
 |w::l=>(aJ bx w).bind λd=>(dn bx l).map λt=>d::t
theorem Rel.Yd (R:Rel T F r σ H env bx):∀ {ws:List W}{vs:List V}{ds:List D},cw F r ws vs->dn bx ws=some ds->Kq F H ds vs
 |[],_,_,h,e=>by cases e;exact h
 | w::l,_,ds,h,e=>by
   obtain⟨v,t,q,h1,h2⟩:=h;unfold dn at e;cases e1:aJ bx w with
   |none=>rw[e1]at e;cases e
   | some d =>
     rw[e1]at e;cases e2:dn bx l with
     |none=>rw[e2]at e;cases e
     | some t' =>
       rw[e2]at e;cases e;exact⟨v,t,q,R.pQ h1 e1,R.Yd h2 e2⟩
inductive Res where
 |old (d:D)|tup (l:List D)|lst (l:List D)|ah (l:List (Key×D))
noncomputable def Res.toD:Res->D
 |.old d=>d|.tup l=>.tup l|.lst l=>.lst l|.ah l=>.ah l
def uE (F H:Hp):Res->V->Hp->Prop
 |.old d,v,H'=>H'=H /\ Den F d v
 |.tup l,v,H'=>(H'=H /\ Den F (.tup l) v) \/ ∃ p vs,v=.ref p /\ H p=none /\ H'=upd H p (.tup vs) /\ ao F l vs
 |.lst l,v,H'=>∃ p vs,v=.ref p /\ H p=none /\ H'=upd H p (.lst vs) /\ ao F l vs
 |.ah l,v,H'=>∃ p vs,v=.ref p /\ H p=none /\ H'=upd H p (.dK vs) /\ aK F l vs
theorem Rel.res (R:Rel T F r σ H env bx):∀ {q:Res},uE F H q v H'->∃ F',aL F r F' r /\ Rel T F' r σ H' env bx /\ Den F' q.toD v
 | .old d,h=>by
   obtain⟨rfl,h⟩:=h;exact⟨F,.refl F r,R,h⟩
 | .tup l,h=>by
   rcases h with⟨rfl,h⟩|⟨p,vs,rfl,hp,rfl,h⟩
   ·exact⟨F,.refl F r,R,h⟩
   exact⟨_,R.qI hp,R.uD hp,p,vs,rfl,fC,ao.mono (R.qI (o:=.tup vs) hp).s l h⟩
 | .lst l,h=>by
   obtain⟨p,vs,rfl,hp,rfl,h⟩:=h;exact⟨_,R.qI hp,R.uD hp,p,vs,rfl,fC,ao.mono (R.qI (o:=.lst vs) hp).s l h⟩
 | .ah l,h=>by
   obtain⟨p,vs,rfl,hp,rfl,h⟩:=h;exact⟨_,R.qI hp,R.uD hp,p,vs,rfl,fC,aK.mono (R.qI (o:=.dK vs) hp).s l h⟩
theorem Rel.resB (R:Rel T F r σ H env bx) (h:uE F H (.lst l) v H'):∃ r',aL F r F r' /\ Rel T F r' σ H' env (bx++[.lst l]) /\ bB F r' (.b bx.length) v:=by
 obtain⟨p,vs,rfl,hp,rfl,h⟩:=h;refine⟨r++[p],⟨Sub.refl F,xi r [p]⟩,R.Ko hp ⟨R.uB hp,vs,fC,h⟩,p,rfl,?_⟩;rw[<-R.len,cz (aq _),k8];rfl
theorem Rel.abJ (R:Rel T F r σ H env bx) {l:List (Key×D)}(h:uE F H (.ah l) v H'):∃ r',aL F r F r' /\ Rel T F r' σ H' env (bx++[.ah l]) /\ bB F r' (.b bx.length) v:=by
 obtain⟨p,vs,rfl,hp,rfl,h⟩:=h;refine⟨r++[p],⟨Sub.refl F,xi r [p]⟩,R.Ko hp ⟨R.uB hp,vs,fC,h⟩,p,rfl,?_⟩;rw[<-R.len,cz (aq _),k8];rfl
def bJ (b:Bool):Option Res->List Bx->O W
 |none,_=>.bad
 | some q,bx=>match b,q with
   |true,.lst l=>.val (.b bx.length) (bx++[.lst l])
   |true,.ah l=>.val (.b bx.length) (bx++[.ah l])
   |_,_=>.val (.d q.toD) bx
theorem ig {Q:VK}{b:Bool}{q:Res}(R:Rel T F r σ H env bx) (h:End T Z bB F r σ env Q (bJ b (some q) bx)) (k:uE F H q v H'):Q v H':=by
 have one:End T Z bB F r σ env Q (.val (.d q.toD) bx)->Q v H':=λh=>by
  obtain⟨F',g,R',d⟩:=R.res k;exact h F' r v H' g R' d
 cases b with
 |false=>exact one h
 | true =>
   cases q with
   |old d=>exact one h
   |tup l=>exact one h
   | lst l =>
     obtain⟨r',g,R',d⟩:=R.resB k;exact h F r' v H' g R' d
   | ah l =>
     obtain⟨r',g,R',d⟩:=R.abJ k;exact h F r' v H' g R' d
def bK (q:R2) (g:D->D->Option Res):Prop:=∀ (F H:Hp) (x y:D) (v w:V) (Q:VK) (s:Res),Sub F H->kR F H x v->kR F H y w->g x y=some s->(∀ u H',uE F H s u H'->Q u H')->q v w H Q
def dW (q:List V->Hp->VK->Prop) (g:List D->Option Res):Prop:=∀ (F H:Hp) (xs:List D) (vs:List V) (Q:VK) (s:Res),Sub F H->Kq F H xs vs->g xs=some s->(∀ u H',uE F H s u H'->Q u H')->q vs H Q
def d2 (b:Bool) (g:D->D->Option Res) (ma mb:DE W):DE W:=λenv bx=>fm (ma env bx) λx bx1=>fm (mb env bx1) λy bx2=>bJ b ((aJ bx2 x).bind λp=>(aJ bx2 y).bind λq=>g p q) bx2
theorem Fx {q:R2}{g:D->D->Option Res}{b:Bool}{mb:DE W}(hg:bK q g) (σ:St) (H:Hp) (Q:VK) (h:tD T Z (d2 b g ma mb) σ H Q):xA q (tD T Z ma) (tD T Z mb) σ H Q:=by
 obtain⟨F,r,env,bx,R,h⟩:=h;refine⟨F,r,env,bx,R,End.bind h λx bx1 F1 r1 v H1 g1 R1 d1 h1=>?_⟩;refine⟨F1,r1,env,bx1,R1,End.bind h1 λy bx2 F2 r2 w H2 g2 R2 uF h2=>?_⟩;have n6:=g2.den d1;cases e1:aJ bx2 x with
 |none=>rw[e1]at h2;exact h2.elim
 | some p =>
   cases e2:aJ bx2 y with
   |none=>rw[e1,e2]at h2;exact h2.elim
   | some z =>
     cases e3:g p z with
     |none=>rw[e1,e2]at h2;simp only[ba,e3]at h2;exact h2.elim
     | some s =>
       rw[e1,e2]at h2;simp only[ba,e3]at h2;exact hg F2 H2 p z v w Q s R2.fh (R2.pQ n6 e1) (R2.pQ uF e2) e3 λu H' k=>ig R2 h2 k
def dN (b:Bool) (g:List D->Option Res) (k:DE (List W)):DE W:=λenv bx=>fm (k env bx) λws bx1=>bJ b ((dn bx1 ws).bind g) bx1
theorem Cl {g:List D->Option Res}{b:Bool}{k:DE (List W)}(hg:dW q g) (σ:St) (H:Hp) (Q:VK) (h:tD T Z (dN b g k) σ H Q):v7 q (xV T Z k) σ H Q:=by
 obtain⟨F,r,env,bx,R,h⟩:=h;refine⟨F,r,env,bx,R,End.bind h λws bx1 F1 r1 vs H1 g1 R1 d1 h1=>?_⟩;cases e1:dn bx1 ws with
 |none=>rw[e1]at h1;exact h1.elim
 | some ds =>
   rw[e1]at h1;cases e2:g ds with
   |none=>simp only[ba,e2]at h1;exact h1.elim
   | some s =>
     simp only[ba,e2]at h1;exact hg F1 H1 ds vs Q s R1.fh (R1.Yd d1 e1) e2 λu H' k=>ig R1 h1 k
end L2.DL
variable {g : L2.DL.D -> L2.DL.D -> Option L2.DL.Res}
namespace L2.DL
section
variable {a b : Expr} {mb mc : DE W} {p : Pos}
theorem RM {op:Operator}{q:R2}(bo:Bool) (ho:aN X (binaryOp op) q) (hg:bK q g) (ha:PD X T Z a ma) (hb:PD X T Z b mb):PD X T Z (.BinOp a op b pos) (d2 bo g ma mb):=
 PE.imp (TD ho ha hb) (Fx hg)
theorem RN {q:R2}(ho:aN X (compareOp op) q) (hg:bK q g) (ha:PD X T Z a ma) (hb:PD X T Z b mb) (hm:behindInMarks op b=false):PD X T Z (.Compare a [op] [b] pos) (d2 false g ma mb):=
 PE.imp (Nr ho ha hb hm) (Fx hg)
theorem TU {q:R2}(ho:qy X q) (hg:bK q g) (ha:PD X T Z a ma) (hb:PD X T Z b mb) (hs:zQ b):PD X T Z (.Subscript a b pos) (d2 false g ma mb):=
 PE.imp (Pt ho ha hb hs) (Fx hg)
def dB (m:DE W):DE Bool:=λenv bx=>fm (m env bx) λw bx1=>match w with|.d (.bl k)=>.val k bx1|_=>.bad
theorem NA {Q:Bool->Hp->Prop}(h:eU T Z (dB ma) σ H Q):tB (tD T Z ma) σ H Q:=by
 obtain⟨F,r,env,bx,R,h⟩:=h;refine⟨F,r,env,bx,R,End.bind h λw bx1 F1 r1 v H1 g1 R1 d1 h1=>?_⟩;split at h1
 ·rename_i k;exact⟨k,d1,h1 F1 r1 k H1 (.refl F1 r1) R1 rfl⟩
 ·exact h1.elim
theorem NB (h:PD X T Z e ma) (he:∀ whole,isTrue e X.env whole=(do let v <-whole;standAt e.pos;holding [v] (truthy v))):dk X T Z e (dB ma):=
 PT.imp (P9 h he) λσ H Q h=>NA h
theorem NC {q:R2}(ho:aN X (compareOp op) q) (hg:bK q g) (ha:PD X T Z a ma) (hb:PD X T Z b mb) (hm:behindInMarks op b=false):dk X T Z (.Compare a [op] [b] pos) (dB (d2 false g ma mb)):=by
 refine PT.imp (Nt ho ha hb hm) λσ H Q h=>?_;obtain⟨F,r,env,bx,R,h⟩:=h;refine Fx (T:=T) (Z:=Z) (b:=false) hg σ H _ ⟨F,r,env,bx,R,End.bind h λw bx1 F1 r1 v H1 g1 R1 d1 h1=>?_⟩;split at h1
 ·rename_i k;exact⟨k,d1,h1 F1 r1 k H1 (.refl F1 r1) R1 rfl⟩
 ·exact h1.elim
noncomputable def Ye:D->Option Bool
 |.non=>some false
 |.bl b=>some b
 |.int i=>some (i != 0)
 |.str y=>if y.length<=sizeLine then some ((y.length:Int) != 0) else none
 |.tup l=>some !l.isEmpty
 |.lst l=>some !l.isEmpty
 |.ah l=>some !l.isEmpty
def uG (m:DE W):DE Bool:=λenv bx=>fm (m env bx) λw bx1=>match (aJ bx1 w).bind Ye with|some k=>.val k bx1|none=>.bad
theorem ao.isEmpty {F:Hp}{l:List D}{vs:List V}(h:ao F l vs):l.isEmpty=vs.isEmpty:=by
 have:=h.length;cases l<;>cases vs<;>simp_all
theorem aK.length {F:Hp}:∀ {l:List (Key×D)}{vs:List (Key×V)},aK F l vs->l.length=vs.length
 | [],_,h=>by
   have e:_=[]:=h;rw[e];rfl
 | (k,d)::l,_,h=>by
   obtain⟨v,r,e,_,h2⟩:=h;rw[e,a9,a9,h2.length]
theorem aK.isEmpty {F:Hp}{l:List (Key×D)}{vs:List (Key×V)}(h:aK F l vs):l.isEmpty=vs.isEmpty:=by
 have:=h.length;cases l<;>cases vs<;>simp_all
theorem RP {k:Bool}(s:Sub F H) (h:kR F H d v) (e:Ye d=some k):IK K v H k:=by
 cases d with
 |non=>cases e;cases (show v=.non from h);exact rfl
 |bl b=>cases e;cases (show v=.bl k from h);exact rfl
 |int i=>cases e;cases (show v=.int i from h);exact rfl
 | str y =>
   cases (show v=.str y from h);have e':(if y.length<=sizeLine then some ((y.length:Int) != 0) else none)=some k:=e;split at e'
   ·cases e';exact⟨by assumption,rfl⟩
   ·cases e'
 |tup l=>cases e;obtain⟨p,vs,rfl,h1,h2⟩:=h;exact .inr (.inl ⟨vs,.of (s _ _ h1),by rw[h2.isEmpty]⟩)
 |lst l=>cases e;obtain⟨p,vs,rfl,h1,h2⟩:=h;exact .inl ⟨vs,.of h1,by rw[h2.isEmpty]⟩
 |ah l=>cases e;obtain⟨p,vs,rfl,h1,h2⟩:=h;exact .inr (.inr ⟨vs,h1,by rw[h2.isEmpty]⟩)
theorem ND (h:PD X T Z e ma) (he:∀ whole,isTrue e X.env whole=(do let v <-whole;standAt e.pos;holding [v] (truthy v))):dk X T Z e (uG ma):=by
 refine PT.imp (JY h he) λσ H Q h=>?_;obtain⟨F,r,env,bx,R,h⟩:=h;refine⟨F,r,env,bx,R,End.bind h λw bx1 F1 r1 v H1 g1 R1 d1 h1=>?_⟩;split at h1
 ·rename_i k e;cases e1:aJ bx1 w with
  |none=>rw[e1]at e;cases e
  | some d =>
    rw[e1]at e;exact⟨k,RP R1.fh (R1.pQ d1 e1) e,h1 F1 r1 k H1 (.refl F1 r1) R1 rfl⟩
 ·exact h1.elim
def d3 (g g':D->D->Option Res) (ma mb mc:DE W):DE W:=λenv bx=>fm (ma env bx) λx bx1=>fm (mb env bx1) λy bx2 =>
 fm (bJ false ((aJ bx2 x).bind λp=>(aJ bx2 y).bind λq=>g p q) bx2) λz aD=>match z with
  |.d (.bl true)=>fm (mc env aD) λw bq=>bJ false ((aJ bq y).bind λp=>(aJ bq w).bind λq=>g' p q) bq
  |.d (.bl false)=>.val (.d (.bl false)) aD
  |_=>.bad
theorem Yf {q:R2}(hg:bK q g) {x y:W}{w:V}{Q:VK}(R:Rel T F r σ H env bx) (dx:bB F r x v) (dy:bB F r y w)
 (h:End T Z bB F r σ env Q (bJ false ((aJ bx x).bind λp=>(aJ bx y).bind λq=>g p q) bx)):q v w H Q:=by
 cases e1:aJ bx x with
 |none=>rw[e1]at h;exact h.elim
 | some p =>
   cases e2:aJ bx y with
   |none=>rw[e1,e2]at h;exact h.elim
   | some z =>
     cases e3:g p z with
     |none=>rw[e1,e2]at h;simp only[ba,e3]at h;exact h.elim
     | some s =>
       rw[e1,e2]at h;simp only[ba,e3]at h;exact hg F H p z v w Q s R.fh (R.pQ dx e1) (R.pQ dy e2) e3 λu H' k=>ig R h k
theorem Fy {q q':R2}{g':D->D->Option Res}(hg:bK q g) (tq:bK q' g') {Q:VK}(h:tD T Z (d3 g g' ma mb mc) σ H Q):IJ q q' (tD T Z ma) (tD T Z mb) (tD T Z mc) σ H Q:=by
 obtain⟨F,r,env,bx,R,h⟩:=h;refine⟨F,r,env,bx,R,End.bind h λx bx1 F1 r1 v H1 g1 R1 d1 h1=>?_⟩;refine⟨F1,r1,env,bx1,R1,End.bind h1 λy bx2 F2 r2 w H2 g2 R2 d2 h2=>?_⟩;refine Yf (T:=T) (Z:=Z) (bx:=bx2) hg R2 (g2.den d1) d2 (End.bind h2 λz aD F3 r3 u H3 g3 R3 d3 h3=>?_);split at h3
 ·refine⟨true,d3,?_⟩;rw[if_pos rfl];refine⟨F3,r3,env,aD,R3,End.bind h3 λt bq F4 r4 s H4 g4 R4 d4 h4=>?_⟩;exact Yf (T:=T) (Z:=Z) tq R4 (g4.den (g3.den d2)) d4 h4
 ·refine⟨false,d3,?_⟩;rw[if_neg (by decide)];exact h3 F3 r3 _ H3 (.refl F3 r3) R3 rfl
 ·exact h3.elim
theorem Lb {cB:CmpOp}{q q':R2}{g':D->D->Option Res}(ho:aN X (compareOp op) q) (kC:aN X (compareOp cB) q') (hg:bK q g) (tq:bK q' g') (ha:PD X T Z a ma) (hb:PD X T Z b mb) (hc:PD X T Z c mc)
 (hm:lastMarks [op,cB] [b,c]=false):PD X T Z (.Compare a [op,cB] [b,c] pos) (d3 g g' ma mb mc):=
 PE.imp (JW ho kC ha hb hc hm) λσ H Q h=>Fy hg tq h
theorem GU {cB:CmpOp}{q q':R2}{g':D->D->Option Res}(ho:aN X (compareOp op) q) (kC:aN X (compareOp cB) q') (hg:bK q g) (tq:bK q' g') (ha:PD X T Z a ma) (hb:PD X T Z b mb) (hc:PD X T Z c mc)
 (hm:lastMarks [op,cB] [b,c]=false):dk X T Z (.Compare a [op,cB] [b,c] pos) (dB (d3 g g' ma mb mc)):=by
 refine PT.imp (JX ho kC ha hb hc hm) λσ H Q h=>?_;obtain⟨F,r,env,bx,R,h⟩:=h;refine Fy (T:=T) (Z:=Z) hg tq ⟨F,r,env,bx,R,End.bind h λw bx1 F1 r1 v H1 g1 R1 d1 h1=>?_⟩;split at h1
 ·rename_i k;exact⟨k,d1,h1 F1 r1 k H1 (.refl F1 r1) R1 rfl⟩
 ·exact h1.elim
def nv (m k:DE Bool):DE Bool:=λenv bx=>fm (m env bx) λb bx1=>match b with|true=>k env bx1|false=>.val false bx1
def kS (m k:DE Bool):DE Bool:=λenv bx=>fm (m env bx) λb bx1=>match b with|true=>.val true bx1|false=>k env bx1
def cC (m:DE Bool):DE Bool:=λenv bx=>fm (m env bx) λb bx1=>.val (!b) bx1
def qJ (X:Cx) (T:Fr) (Z:Xs) (e:Expr) (m:DE Bool):Prop:=PW X e (eU T Z m)
variable {ta tb : DE Bool} {rest : List Expr}
theorem Lc (h:dk X T Z a ta):qJ X T Z (.BoolOp .And [a] pos) ta:=Nj h
theorem NE (h:dk X T Z a ta):qJ X T Z (.BoolOp .Or [a] pos) ta:=Ra h
theorem NF (ha:dk X T Z a ta) (hb:qJ X T Z (.BoolOp .And (b::rest) pos) tb):qJ X T Z (.BoolOp .And (a::b::rest) pos) (nv ta tb):=by
 refine PW.imp (Rb ha hb) λσ H Q ⟨F,r,env,bx,R,h⟩=>?_;refine⟨F,r,env,bx,R,End.bind h λk bx1 F1 r1 v H1 g1 R1 d1 h1=>?_⟩;subst d1;cases k with
 |true=>rw[if_pos rfl];exact⟨F1,r1,env,bx1,R1,h1⟩
 |false=>rw[if_neg (by decide)];exact h1 F1 r1 _ H1 (.refl F1 r1) R1 rfl
theorem RQ (ha:dk X T Z a ta) (hb:qJ X T Z (.BoolOp .Or (b::rest) pos) tb):qJ X T Z (.BoolOp .Or (a::b::rest) pos) (kS ta tb):=by
 refine PW.imp (TB ha hb) λσ H Q ⟨F,r,env,bx,R,h⟩=>?_;refine⟨F,r,env,bx,R,End.bind h λk bx1 F1 r1 v H1 g1 R1 d1 h1=>?_⟩;subst d1;cases k with
 |false=>rw[if_neg (by decide)];exact⟨F1,r1,env,bx1,R1,h1⟩
 |true=>rw[if_pos rfl];exact h1 F1 r1 _ H1 (.refl F1 r1) R1 rfl
theorem Pu (h:qJ X T Z e ta):dk X T Z e ta:=h.pt
theorem NG (h:dk X T Z a ta):dk X T Z (.UnaryOp .Not a pos) (cC ta):=by
 refine PT.imp (Rc h) λσ H Q ⟨F,r,env,bx,R,h⟩=>?_;refine⟨F,r,env,bx,R,End.bind h λk bx1 F1 r1 v H1 g1 R1 d1 h1=>?_⟩;subst d1;exact h1 F1 r1 _ H1 (.refl F1 r1) R1 rfl
def gq (m k:DE W):DE W:=λenv bx=>fm (m env bx) λw bx1=>match w with|.d (.bl true)=>k env bx1|.d (.bl false)=>.val (.d (.bl false)) bx1|_=>.bad
def zY (m:DE W):DE W:=λenv bx=>fm (m env bx) λw bx1=>match w with|.d (.bl k)=>.val (.d (.bl (!k))) bx1|_=>.bad
theorem RR {op}(h:PD X T Z a ma):PD X T Z (.BoolOp op [a] pos) ma:=Re h
theorem RS (ha:PD X T Z a ma) (hb:PD X T Z (.BoolOp .And (b::rest) pos) mb):PD X T Z (.BoolOp .And (a::b::rest) pos) (gq ma mb):=by
 refine PE.imp (Rf ha hb) λσ H Q ⟨F,r,env,bx,R,h⟩=>?_;refine⟨F,r,env,bx,R,End.bind h λw bx1 F1 r1 v H1 g1 R1 d1 h1=>?_⟩;split at h1
 ·refine⟨true,d1,?_⟩;rw[if_pos rfl];exact⟨F1,r1,env,bx1,R1,h1⟩
 ·refine⟨false,d1,?_⟩;rw[if_neg (by decide)];exact h1 F1 r1 _ H1 (.refl F1 r1) R1 rfl
 ·exact h1.elim
theorem RU (ha:PD X T Z a ma):PD X T Z (.UnaryOp .Not a pos) (zY ma):=by
 refine PE.imp (Rg ha) λσ H Q ⟨F,r,env,bx,R,h⟩=>?_;refine⟨F,r,env,bx,R,End.bind h λw bx1 F1 r1 v H1 g1 R1 d1 h1=>?_⟩;split at h1
 ·rename_i k;exact⟨k,d1,h1 F1 r1 _ H1 (.refl F1 r1) R1 rfl⟩
 ·exact h1.elim
def tu (t:DE Bool) (m k:DE W):DE W:=λenv bx=>fm (t env bx) λb bx1=>match b with|true=>m env bx1|false=>k env bx1
theorem RV (hc:dk X T Z c ta) (ha:PD X T Z a ma) (hb:PD X T Z b mb):PD X T Z (.IfExp c a b pos) (tu ta ma mb):=by
 refine PE.imp (JP hc ha hb) λσ H Q ⟨F,r,env,bx,R,h⟩=>?_;refine⟨F,r,env,bx,R,End.bind h λk bx1 F1 r1 v H1 g1 R1 d1 h1=>?_⟩;subst d1;cases k with
 |true=>rw[if_pos rfl];exact⟨F1,r1,env,bx1,R1,h1⟩
 |false=>rw[if_neg (by decide)];exact⟨F1,r1,env,bx1,R1,h1⟩
noncomputable def kT:List W->Option (List D)
 |[]=>some []
 |.d x::l=>(kT l).map λt=>x::t
 |_=>none
theorem cw.ds {F:Hp}{r:List Addr}:∀ {ws:List W}{vs:List V}{ds:List D},cw F r ws vs->kT ws=some ds->ao F ds vs
 |[],_,_,h,e=>by cases e;exact h
 | .d x::l,_,ds,h,e=>by
   obtain⟨v,t,q,h1,h2⟩:=h;unfold kT at e;cases e2:kT l with
   |none=>rw[e2]at e;cases e
   | some t' =>
     rw[e2]at e;cases e;exact⟨v,t,q,h1,h2.ds e2⟩
 |.b _::l,_,ds,h,e=>by cases e
 |.s _::l,_,ds,h,e=>by cases e
 |.x _::l,_,ds,h,e=>by cases e
 |.t _::l,_,ds,h,e=>by cases e
 |.m _::l,_,ds,h,e=>by cases e
def gC (k:DE (List W)):DE W:=λenv bx=>fm (k env bx) λws bx1=>bJ false ((kT ws).bind λl=>if l.length<=sizeLine then some (.tup l) else none) bx1
def f7 (bo:Bool) (k:DE (List W)):DE W:=λenv bx=>fm (k env bx) λws bx1=>bJ bo ((kT ws).bind λl=>if l.length<=sizeLine then some (.lst l) else none) bx1
theorem RW {x1}{k:DE (List W)}(h:bX X T Z es k):PD X T Z (.Tuple es x1 pos) (gC k):=by
 refine PE.imp (Dw h) λσ H Q ⟨F,r,env,bx,R,h⟩=>?_;refine⟨F,r,env,bx,R,End.bind h λws bx1 F1 r1 vs H1 g1 R1 d1 h1=>?_⟩;cases e:kT ws with
 |none=>rw[e]at h1;exact h1.elim
 | some l =>
   rw[e]at h1;simp only[ba]at h1;split at h1
   ·have dl:=d1.ds e;refine⟨by rw[<-dl.length];assumption,λp hp=>ig R1 h1 (.inr ⟨p,vs,rfl,hp,rfl,dl⟩)⟩
   ·exact h1.elim
theorem RX {k:DE (List W)}(bo:Bool) (h:bX X T Z es k):PD X T Z (.List es pos) (f7 bo k):=by
 refine PE.imp (Rt h) λσ H Q ⟨F,r,env,bx,R,h⟩=>?_;refine⟨F,r,env,bx,R,End.bind h λws bx1 F1 r1 vs H1 g1 R1 d1 h1=>?_⟩;cases e:kT ws with
 |none=>rw[e]at h1;exact h1.elim
 | some l =>
   rw[e]at h1;simp only[ba]at h1;split at h1
   ·have dl:=d1.ds e;refine⟨by rw[<-dl.length];assumption,λp hp=>ig R1 h1 ⟨p,vs,rfl,hp,rfl,dl⟩⟩
   ·exact h1.elim
theorem Ld {id:String}{g:List D->Option Res}{k:DE (List W)}(bo:Bool) (hc:eE X (.builtin id) q) (hk:dW q g) (hg:Gl X x) (hm:X.mg x=none) (hv:bootBuiltins x=some (.builtin id)) (ha:bX X T Z (e::es) k)
 (hn:x ≠ "__name__") (cJ:(x==("__debug__":Str))=false)
 (he:starEach (e::es) X.env=(false,eval e X.env)::starEach es X.env) (hZ:(backTo pos (starEach es X.env)).any (·.1)=false):PD X T Z (.Call (.Name x p) (e::es) [] pos) (dN bo g k):=
 PE.imp (o7 hc hg hm hv ha hn cJ he hZ) (Cl hk)
theorem GV {id:String}{g:List D->Option Res}{k:DE (List W)}(bo:Bool) (hc:eE X (.type id) q) (hk:dW q g) (hg:Gl X x) (hm:X.mg x=none) (hv:bootBuiltins x=some (.type id)) (ha:bX X T Z (e::es) k)
 (hn:x ≠ "__name__") (cJ:(x==("__debug__":Str))=false)
 (he:starEach (e::es) X.env=(false,eval e X.env)::starEach es X.env) (hZ:(backTo pos (starEach es X.env)).any (·.1)=false):PD X T Z (.Call (.Name x p) (e::es) [] pos) (dN bo g k):=
 PE.imp (GO hc hg hm hv ha hn cJ he hZ) (Cl hk)
def qK (cl:Nat->Addr) (n:Nat) (fn:List W->List Bx->O W):Sp:=λvs H Q E=>∃ F r ws bx,Rel ⟨H,r.length,F⟩ F r [] H [] bx /\ cw F r ws vs /\ ws.length=n /\ End ⟨H,r.length,F⟩ ⟨E,cl⟩ bB F r [] [] Q (fn ws bx)
theorem cw.length {F:Hp}{r:List Addr}:∀ {ws:List W}{vs:List V},cw F r ws vs->ws.length=vs.length
 | [],_,h=>by
   have e:_=[]:=h;rw[e];rfl
 | d::l,_,h=>by
   obtain⟨v,t,e,_,h2⟩:=h;rw[e,a9,a9,h2.length]
theorem Rel.enter (R:Rel T F r σ H env bx):Rel ⟨H,r.length,F⟩ F r [] H [] bx :=
 ⟨R.fh,λi w e=>by simp at e,R.len,R.nd,R.box,λa u e _=>e,λn a hn e=>(by rw[rq hn]at e;cases e),aq _,aq _,λa u e=>.inl e⟩
theorem Rel.after {F':Hp}{r':List Addr}(R:Rel T F r σ H env bx) (g:aL F r F' r') (R':Rel ⟨H,r.length,F⟩ F' r' [] H' [] bx'):Rel T F' r' σ H' env bx':=by
 have pre:∀ (n:Nat) (a:Addr),r[n]?=some a->r'[n]?=some a:=λn a e=>by
  obtain⟨t,rfl⟩:=g.p;rw[cn (List.getElem?_eq_some_iff.mp e).1];exact e
 have sub:∀ a,a∈r->a∈r':=λa h=>g.p.subset h;refine⟨R'.fh,λi w e=>?_,R'.len,R'.nd,R'.box,λa u e hn=>?_,λn a hn e=>?_,bR R.n0 g.p.length_le,R.sl,λa u e=>?_⟩
 ·obtain⟨v,e1,e2⟩:=R.slot i w e;exact⟨v,e1,g.den e2⟩
 ·exact R'.keep a u (R.keep a u e λz=>hn (sub a z)) hn
 ·by_cases hl:n<r.length
  ·have q:=pre n _ (bI hl);rw[e]at q;cases q;exact R.new n _ hn (bI hl)
  ·have q:H a=none:=R'.new n a (t8 hl) e;cases z:T.H₀ a with
   |none=>rfl
   | some u =>
     have hr:a∉r:=λha=>by
      obtain⟨m,em⟩:=List.mem_iff_getElem?.mp ha;have:=Ad R'.nd (pre m a em) e;exact hl (by rw[<-this];exact(List.getElem?_eq_some_iff.mp em).1)
     rw[R.keep a u z hr]at q;cases q
 ·rcases R'.fs a u e with z|z|z
  ·exact(R.fs a u z).imp id (Or.imp id (sub a))
  ·by_cases ha:a∈r
   ·exact .inr (.inr (sub a ha))
   ·refine .inr (.inl ?_);cases y:T.H₀ a with
    |none=>rfl
    | some u =>
      have z':H a=none:=z;rw[R.keep a u y ha]at z';cases z'
  ·exact .inr (.inr z)
def fj (fn:List W->List Bx->O W) (n:Nat) (k:DE (List W)):DE W:=λenv bx=>fm (k env bx) λws bx1=>if ws.length=n then fn ws bx1 else .bad
theorem RY {k:DE (List W)}{Q:VK}(h:tD T Z (fj fn n k) σ H Q):IQ (qK Z.cl n fn) [] Z.E (xV T Z k) σ H Q:=by
 obtain⟨F,r,env,bx,R,h⟩:=h;refine⟨F,r,env,bx,R,End.bind h λws bx1 F1 r1 vs H1 g1 R1 d1 h1=>?_⟩;split at h1
 ·rename_i hl;refine⟨F1,r1,ws,bx1,R1.enter,by rw[ng];exact d1,hl,?_⟩;cases e:fn ws bx1 with
  |val w bx'=>rw[e]at h1;exact λF' r' v H' g R' d=>h1 F' r' v H' g (R1.after g R') d
  |exc c bx'=>rw[e]at h1;exact λF' r' H' g R'=>h1 F' r' H' g (R1.after g R').drop
  |bad=>rw[e]at h1;exact h1
 ·exact h1.elim
theorem NH {f:Addr}{ps:List Str}{k:Nat}{m:DE (List W)}(G:eR X.prog X.w X.K X.mg X.base (nu X.prog X.w) k f fd ps (qK Z.cl ps.length fn)) (hr:cZ k X.A) (hg:Gl X x) (hm:X.mg x=some (.ref f))
 (hk:PySem.W.keepIn X.K (.ref f)=true) (hb:Binds X.K fd ps []) (hx:Passes (nu X.prog X.w) X Z.E) (ha:bX X T Z (e::es) m) (cJ:(x==("__debug__":Str))=false)
 (he:starEach (e::es) X.env=(false,eval e X.env)::starEach es X.env) (hZ:(backTo pos (starEach es X.env)).any (·.1)=false):PD X T Z (.Call (.Name x p) (e::es) [] pos) (fj fn ps.length m):=
 PE.imp (Fq G hr hg hm hk hb .nil hx ha cJ he hZ) λσ H Q h=>RY h
end
inductive OS where
 |nx (env:aI) (bx:List Bx)|rt (w:W) (bx:List Bx)|bk (env:aI) (bx:List Bx)|ct (env:aI) (bx:List Bx)|exc (c:Nat) (bx:List Bx)|bad
abbrev aj:=aI->List Bx->OS
def dX (T:Fr) (Z:Xs) (F:Hp) (r:List Addr) (D:Ends):OS->Prop
 |.nx ax bx'=>∀ F' r' σ' H',aL F r F' r'->Rel T F' r' σ' H' ax bx'->D.nx σ' H'
 |.rt w bx'=>∀ F' r' v H',aL F r F' r'->Rel T F' r' [] H' [] bx'->bB F' r' w v->D.rt v H'
 |.bk ax bx'=>∀ F' r' σ' H',aL F r F' r'->Rel T F' r' σ' H' ax bx'->D.bk σ' H'
 |.ct ax bx'=>∀ F' r' σ' H',aL F r F' r'->Rel T F' r' σ' H' ax bx'->D.ct σ' H'
 |.exc c bx'=>∀ F' r' H',aL F r F' r'->Rel T F' r' [] H' [] bx'->Z.E (.ref (Z.cl c)) none H'
 |.bad=>False
theorem dX.weak {F':Hp}{r':List Addr}{D:Ends}(g:aL F r F' r'):∀ {o:OS},dX T Z F r D o->dX T Z F' r' D o
 |.nx _ _,h=>λF2 r2 s2 H2 g2=>h F2 r2 s2 H2 (g.trans g2)
 |.rt _ _,h=>λF2 r2 s2 H2 g2=>h F2 r2 s2 H2 (g.trans g2)
 |.bk _ _,h=>λF2 r2 s2 H2 g2=>h F2 r2 s2 H2 (g.trans g2)
 |.ct _ _,h=>λF2 r2 s2 H2 g2=>h F2 r2 s2 H2 (g.trans g2)
 |.exc _ _,h=>λF2 r2 H2 g2=>h F2 r2 H2 (g.trans g2)
 |.bad,h=>h
noncomputable def bO (m:O α) (k:α->List Bx->OS):OS :=
 match m with
 |.val a bx=>k a bx
 |.exc c bx=>.exc c bx
 |.bad=>.bad
theorem End.bO {β:Type}{R1:Hp->List Addr->α->β->Prop}{D:Ends}{Q1:β->Hp->Prop}
 {m:O α}{k:α->List Bx->OS}(h:dX T Z F r D (DL.bO m k))
 (c:∀ d bx1 F1 r1 v H1,aL F r F1 r1->Rel T F1 r1 σ H1 env bx1->R1 F1 r1 d v->dX T Z F1 r1 D (k d bx1)->Q1 v H1):End T Z R1 F r σ env Q1 m:=by
 cases m with
 |val d bx=>exact λF' r' v H' g R q=>c d bx F' r' v H' g R q (dX.weak g h)
 |exc n bx=>exact h
 |bad=>exact h
def tS (T:Fr) (Z:Xs) (m:aj):TS:=λD σ H=>∃ F r env bx,Rel T F r σ H env bx /\ dX T Z F r D (m env bx)
def dq (X:Cx) (T:Fr) (Z:Xs) (s:Stmt) (m:aj):Prop:=PS X s (tS T Z m)
def pR (X:Cx) (T:Fr) (Z:Xs) (s:List Stmt) (m:aj):Prop:=dU X s (tS T Z m)
section
variable {a b : Expr} {mb mc : DE W} {p : Pos} {rest : List Stmt} {m k : aj} {tc : DE Bool}
noncomputable def bf:aj:=λenv bx=>.nx env bx
noncomputable def fu (m k:aj):aj:=λenv bx=>match m env bx with|.nx env1 bx1=>k env1 bx1|o=>o
theorem NI:pR X T Z [] bf:=dU.imp Nk λD σ H ⟨F,r,env,bx,R,h⟩=>h F r σ H (.refl F r) R
theorem Le (h1:dq X T Z st m) (h2:pR X T Z rest k):pR X T Z (st::rest) (fu m k):=by
 refine dU.imp (JQ h1 h2) λD σ H ⟨F,r,env,bx,R,h⟩=>⟨F,r,env,bx,R,?_⟩;unfold fu at h;cases e:m env bx with
 |nx env1 bx1=>rw[e]at h;exact λF1 r1 σ1 H1 g R1=>⟨F1,r1,env1,bx1,R1,dX.weak g h⟩
 |rt w bx1=>rw[e]at h;exact h
 |bk env1 bx1=>rw[e]at h;exact h
 |ct env1 bx1=>rw[e]at h;exact h
 |exc c bx1=>rw[e]at h;exact h
 |bad=>rw[e]at h;exact h
theorem NJ (h1:dq X T Z st m):pR X T Z [st] m:=Nl h1
theorem Lf:dq X T Z (.Pass pos) bf:=PS.imp Nn λD σ H ⟨F,r,env,bx,R,h⟩=>h F r σ H (.refl F r) R
def fV (m:DE W):aj:=λenv bx=>bO (m env bx) λ_ bx1=>.nx env bx1
theorem Lg (h:PD X T Z e ma) (hs:swapsWith e none pos.line X.env=pure false):dq X T Z (.Expr e pos) (fV ma):=by
 refine PS.imp (No h hs) λD σ H ⟨F,r,env,bx,R,h⟩=>?_;exact⟨F,r,env,bx,R,End.bO h λw bx1 F1 r1 v H1 g1 R1 d1 h1=>h1 F1 r1 σ H1 (.refl F1 r1) R1⟩
def fO (m:DE W):aj:=λenv bx=>bO (m env bx) λw bx1=>.rt w bx1
theorem NK (h:PD X T Z e ma):dq X T Z (.Return (some e) pos) (fO ma):=by
 refine PS.imp (Rh h) λD σ H ⟨F,r,env,bx,R,h⟩=>?_;exact⟨F,r,env,bx,R,End.bO h λw bx1 F1 r1 v H1 g1 R1 d1 h1=>h1 F1 r1 v H1 (.refl F1 r1) R1.drop d1⟩
def bh (t:DE Bool) (m k:aj):aj:=λenv bx=>bO (t env bx) λb bx1=>match b with|true=>m env bx1|false=>k env bx1
theorem RZ {sa sb:List Stmt}(hc:dk X T Z c tc) (ha:pR X T Z sa m) (hb:pR X T Z sb k):dq X T Z (.If c sa sb pos) (bh tc m k):=by
 refine PS.imp (TC hc ha hb) λD σ H ⟨F,r,env,bx,R,h⟩=>?_;refine⟨F,r,env,bx,R,End.bO h λw bx1 F1 r1 v H1 g1 R1 d1 h1=>?_⟩;subst d1;cases w with
 |true=>rw[if_pos rfl];exact⟨F1,r1,env,bx1,R1,h1⟩
 |false=>rw[if_neg (by decide)];exact⟨F1,r1,env,bx1,R1,h1⟩
abbrev DG:=W->aI->List Bx->Option (aI×List Bx)
abbrev h8:=List W->aI->List Bx->Option (aI×List Bx)
noncomputable def Yg (T:Fr) (F:Hp) (r:List Addr) (Q:St->Hp->Prop):Option (aI×List Bx)->Prop
 |none=>False
 |some (ax,bx')=>∀ F' r' σ' H',aL F r F' r'->Rel T F' r' σ' H' ax bx'->Q σ' H'
def tG (T:Fr) (g:DG):TG:=λv σ H Q=>∃ F r env bx w,Rel T F r σ H env bx /\ bB F r w v /\ Yg T F r Q (g w env bx)
def abK (T:Fr) (g:h8):rE:=λvs σ H Q=>∃ F r env bx ws,Rel T F r σ H env bx /\ cw F r ws vs /\ Yg T F r Q (g ws env bx)
def dY (X:Cx) (T:Fr) (tg:Expr) (g:DG):Prop:=PG X tg (tG T g)
def qL (X:Cx) (T:Fr) (tg:List Expr) (g:h8):Prop:=qu X tg (abK T g)
theorem PG.imp {t t':TG}(h:PG X tg t) (f:∀ v σ H Q,t' v σ H Q->t v σ H Q):PG X tg t':=λpins s σ H v u Q I r q=>h pins s σ H v u Q I r (f v σ H Q q)
theorem qu.imp {tg:List Expr}{t t':rE}(h:qu X tg t) (f:∀ v σ H Q,t' v σ H Q->t v σ H Q):qu X tg t':=λpins s σ H v u Q I r q=>h pins s σ H v u Q I r (f v σ H Q q)
noncomputable def fc (i:Nat):DG:=λw env bx=>some (env.set i (some w),bx)
theorem Rel.set {F H:Hp}{r:List Addr}{σ:St}{env:aI}{bx:List Bx}(R:Rel T F r σ H env bx) {w:W}{v:V}(d:bB F r w v) (i:Nat):Rel T F r (σ.set i (some v)) H (env.set i (some w)) bx:=by
 refine⟨R.fh,λj w' e=>?_,R.len,R.nd,R.box,R.keep,R.new,R.n0,by rw[kL,kL];exact R.sl,R.fs⟩;by_cases hj:j=i
 ·subst hj;have hl:j<env.length:=by
   have:=(List.getElem?_eq_some_iff.mp e).1;rw[kL]at this;exact this
  rw[qi hl]at e;cases e;exact⟨v,qi (eB hl R.sl),d⟩
 ·rw[pC (Ne.symm hj)]at e;obtain⟨u,e1,e2⟩:=R.slot j w' e;exact⟨u,by rw[pC (Ne.symm hj)];exact e1,e2⟩
theorem Lh (i:Nat) (hN:X.N.Nodup) (hi:X.N[i]?=some x) (hx:Loc X.env.scope x) (hf:X.fn x=true \/ X.env.scope.names.lookup x=some .local):dY X T (.Name x pos) (fc i):=
 PG.imp (Bz hN hi hx hf) λv σ H Q ⟨F,r,env,bx,w,R,d,h⟩=>h F r _ H (.refl F r) (R.set d i)
noncomputable def gU:h8:=λws env bx=>match ws with|[]=>some (env,bx)|_=>none
noncomputable def fJ (g:DG) (k:h8):h8:=λws env bx=>match ws with|w::l=>(g w env bx).bind λ(env1,bx1)=>k l env1 bx1|_=>none
theorem Cn:qL X T [] gU:=qu.imp Fm λv σ H Q ⟨F,r,env,bx,w,R,d,h⟩=>by
 cases w with
 |nil=>exact⟨d,h F r σ H (.refl F r) R⟩
 |cons _ _=>exact h.elim
theorem GW {g:DG}{k:h8}(h1:dY X T e g) (h2:qL X T es k) (hs:(assignEach (e::es) X.env).map (·.2)=assign e X.env::(assignEach es X.env).map (·.2)):qL X T (e::es) (fJ g k):=by
 refine qu.imp (oY h1 h2 hs) λv σ H Q ⟨F,r,env,bx,ws,R,d,h⟩=>?_;cases ws with
 |nil=>exact h.elim
 | cons w l =>
   obtain⟨u,t,rfl,d1,d2⟩:=d;refine⟨u,t,rfl,F,r,env,bx,w,R,d1,?_⟩;unfold fJ at h;cases eg:g w env bx with
   |none=>simp only[eg]at h;exact h.elim
   | some o =>
     obtain⟨env1,bx1⟩:=o;simp only[eg,ba]at h;intro F1 r1 σ1 H1 g1 R1;refine⟨F1,r1,env1,bx1,l,R1,d2.mono g1,?_⟩;cases ek:k l env1 bx1 with
     |none=>simp only[ek]at h;exact h.elim
     | some o2 =>
       simp only[ek]at h;exact λF2 r2 σ2 H2 g2 R2=>h F2 r2 σ2 H2 (g1.trans g2) R2
theorem ao.ws {F:Hp}{r:List Addr}:∀ {l:List D}{vs:List V},ao F l vs->cw F r (l.map W.d) vs
 |[],_,h=>h
 | d::l,_,h=>by
   obtain⟨v,t,e,h1,h2⟩:=h;exact⟨v,t,e,h1,h2.ws⟩
noncomputable def ia (n:Nat) (k:h8):DG:=λw env bx=>match w with|.d (.tup l)=>if l.length=n then k (l.map W.d) env bx else none|_=>none
theorem NL {k:h8}(hc:X.calm=true) (h:qL X T es k) (hn:(assignEach es X.env).length=n) (xw:(assignEach es X.env).findIdx? (·.1)=none):dY X T (.Tuple es i pos) (ia n k):=by
 refine PG.imp (Dq hc h hn xw) λv σ H Q ⟨F,r,env,bx,w,R,d,h⟩=>?_;unfold ia at h;split at h
 ·rename_i l;split at h
  ·rename_i hl;obtain⟨p,vs,rfl,h1,h2⟩:=d;exact⟨p,vs,rfl,.of (R.fh _ _ h1),by rw[<-h2.length];exact hl,F,r,env,bx,_,R,h2.ws,h⟩
  ·exact h.elim
 ·exact h.elim
def fH (m:DE W) (g:DG):aj:=λenv bx=>bO (m env bx) λw bx1=>match g w env bx1 with|some (env1,bx2)=>.nx env1 bx2|none=>.bad
theorem TV {g:DG}{D:Ends}(h:tS T Z (fH ma g) D σ H):zH (tD T Z ma) (tG T g) D σ H:=by
 obtain⟨F,r,env,bx,R,h⟩:=h;refine⟨F,r,env,bx,R,End.bO h λw bx1 F1 r1 v H1 g1 R1 d1 h1=>⟨F1,r1,env,bx1,w,R1,d1,?_⟩⟩;cases eg:g w env bx1 with
 |none=>simp only[eg]at h1;exact h1.elim
 |some o=>simp only[eg]at h1;exact h1
theorem oJ {g:DG}(he:PD X T Z e ma) (hg:dY X T tg g) (hs:swapsWithSole [tg] e pos.line X.env=pure false) (hw:swappedStores [tg] e X.env=pure none)
 (h1:(assignEach [tg] X.env).map (·.2)=[assign tg X.env]):dq X T Z (.Assign [tg] e pos) (fH ma g):=
 PS.imp (JR he hg hs hw h1) λD σ H h=>TV h
theorem Fz (i:Nat) {pos':Pos}(he:PD X T Z e ma) (hN:X.N.Nodup) (hi:X.N[i]?=some x) (hx:Loc X.env.scope x) (hs:swapsWith e (some (.Name x pos')) pos.line X.env=pure false) (hf:X.fn x=true \/ X.env.scope.names.lookup x=some .local) :
 dq X T Z (.Assign [.Name x pos'] e pos) (fH ma (fc i)):=by
 refine PS.imp (Rj hN hi hx he hs hf) λD σ H ⟨F,r,env,bx,R,h⟩=>?_;exact⟨F,r,env,bx,R,End.bO h λw bx1 F1 r1 v H1 g1 R1 d1 h1=>h1 F1 r1 _ H1 (.refl F1 r1) (R1.set d1 i)⟩
def kU (i j:Nat) (m:DE (List W)):aj:=λenv bx=>bO (m env bx) λws bx1=>match ws with|[x,y]=>.nx ((env.set i (some x)).set j (some y)) bx1|_=>.bad
theorem TW {m:DE (List W)}{D:Ends}(h:tS T Z (kU i j m) D σ H):Xv i j (xV T Z m) D σ H:=by
 obtain⟨F,r,env,bx,R,h⟩:=h;refine⟨F,r,env,bx,R,End.bO h λws bx1 F1 r1 vs H1 g1 R1 d1 h1=>?_⟩;split at h1
 ·obtain⟨v,t,rfl,q1,u,t2,rfl,q2,q3⟩:=d1;cases (show t2=[] from q3);exact⟨v,u,rfl,h1 F1 r1 _ H1 (.refl F1 r1) ((R1.set q1 i).set q2 j)⟩
 ·exact h1.elim
def uH (F:Hp) (r:List Addr) (ds:List W) (J:It):Prop :=
 ∀ (T:Fr) (i:Nat) (F1:Hp) (r1:List Addr) (σ1:St) (H1:Hp) (env1:aI) (bx1:List Bx),aL F r F1 r1->Rel T F1 r1 σ1 H1 env1 bx1 ->
  (ds.length=i->J.stop i H1) /\ ∀ w,ds[i]?=some w->J.go i H1 /\ ∀ x H2,J.xx i H1 x H2->∃ F2,aL F1 r1 F2 r1 /\ Rel T F2 r1 σ1 H2 env1 bx1 /\ bB F2 r1 w x
def tI (T:Fr) (Z:Xs) (m:DE (List W)):TI:=λσ H R=>∃ F r env bx,Rel T F r σ H env bx /\ End T Z uH F r σ env R (m env bx)
def ny (X:Cx) (T:Fr) (Z:Xs) (tg iter:Expr) (m:DE (List W)):Prop:=PI X tg iter (tI T Z m)
theorem PI.imp {t t':TI}(h:PI X tg iter t) (f:∀ σ H Q,t' σ H Q->t σ H Q):PI X tg iter t':=λpins s σ H R I q=>h pins s σ H R I (f σ H R q)
noncomputable def dI (g:DG) (body:aj):List W->aj
 |[],env,bx=>.nx env bx
 | w::l,env,bx=>match g w env bx with
   |none=>.bad
   | some (env1,bx1)=>match body env1 bx1 with
     |.nx aP bx2=>dI g body l aP bx2
     |.ct aP bx2=>dI g body l aP bx2
     |.bk aP bx2=>.nx aP bx2
     |o=>o
def iC (m:DE (List W)) (g:DG) (body:aj):aj:=λenv bx=>bO (m env bx) λds bx1=>dI g body ds env bx1
theorem TX {g:DG}{D:Ends}(h:tS T Z (iC mi g m) D σ H):Xz (tI T Z mi) (tG T g) (tS T Z m) D σ H:=by
 obtain⟨F,r,env,bx,R,h⟩:=h;refine⟨F,r,env,bx,R,End.bO h λds bx1 F1 r1 J H1 g1 R1 y1 h1=>?_⟩;refine⟨λi n σ' H'=>∃ pre l F' r' ax bx',ds=pre++l /\ pre.length=i /\ n=l.length /\ aL F1 r1 F' r' /\ Rel T F' r' σ' H' ax bx' /\ dX T Z F' r' D (dI g m l ax bx'),⟨ds.length,[],ds,F1,r1,env,bx1,rfl,rfl,rfl,.refl F1 r1,R1,h1⟩,?_⟩;rintro i n σ' H' ⟨pre,l,F',r',ax,bx',eS,hi,hn,g',R',h'⟩;obtain⟨ys,yg⟩:=y1 T i F' r' σ' H' ax bx' g' R';cases l with
 |nil=>exact .inl ⟨ys (by rw[eS,ng];omega),h' F' r' σ' H' (.refl F' r') R'⟩
 | cons w l =>
   obtain⟨go,yl⟩:=yg w (by rw[eS,cz (by omega),hi,k8];rfl);refine .inr ⟨go,λσ2 H2=>∃ F2 r2 aP bx2,aL F1 r1 F2 r2 /\ Rel T F2 r2 σ2 H2 aP bx2 /\ dX T Z F2 r2 D (dI g m l aP bx2),λσ2 H2 ⟨F2,r2,aP,bx2,g2,R2,h2⟩=>⟨l.length,by rw[hn];exact pB _,pre++[w],l,F2,r2,aP,bx2,by rw[eS,eC];rfl,by rw[bM,hi];rfl,rfl,g2,R2,h2⟩,λx H2 hy=>?_⟩;obtain⟨F2,g2,R2,d2⟩:=yl x H2 hy;refine⟨F2,r',ax,bx',w,R2,d2,?_⟩;simp only[dI]at h';cases eg:g w ax bx' with
   |none=>simp only[eg]at h';exact h'.elim
   | some o =>
     obtain⟨c7,aD⟩:=o;simp only[eg]at h';intro F3 r3 σ3 H3 g3 R3;refine⟨F3,r3,c7,aD,R3,?_⟩;have gg:=(g'.trans g2).trans g3;cases em:m c7 aD with
     |nx rN bq=>simp only[em]at h';exact λF4 r4 σ4 H4 g4 R4=>⟨F4,r4,rN,bq,gg.trans g4,R4,dX.weak ((g2.trans g3).trans g4) h'⟩
     |ct rN bq=>simp only[em]at h';exact λF4 r4 σ4 H4 g4 R4=>⟨F4,r4,rN,bq,gg.trans g4,R4,dX.weak ((g2.trans g3).trans g4) h'⟩
     |bk rN bq=>simp only[em]at h';exact λF4 r4 σ4 H4 g4 R4=>h' F4 r4 σ4 H4 ((g2.trans g3).trans g4) R4
     |rt w bq=>simp only[em]at h';exact dX.weak (g2.trans g3) (o:=.rt w bq) h'
     |exc c bq=>simp only[em]at h';exact dX.weak (g2.trans g3) (o:=.exc c bq) h'
     |bad=>simp only[em]at h';exact h'
theorem NM {body:List Stmt}{g:DG}(hp:PassesOwn (model X.prog X.w) X.A X.env X.xe) (hc:X.calm=true) (hi:ny X T Z tg iter mi) (hg:dY X T tg g) (hb:pR X T Z body m)
 (hs:∀ x,foldedSetIterable iter X.env x=pure x):dq X T Z (.For tg iter body [] pos) (iC mi g m):=
 PS.imp (Rm hp hc hi hg hb hs) λD σ H h=>TX h
def eF (t:DE Bool) (body:aj):Nat->aj
 |0,_,_=>.bad
 | n+1,env,bx=>bO (t env bx) λb bx1=>match b with
   |false=>.nx env bx1
   | true=>match body env bx1 with
     |.nx aP bx2=>eF t body n aP bx2
     |.ct aP bx2=>eF t body n aP bx2
     |.bk aP bx2=>.nx aP bx2
     |o=>o
theorem NO {D:Ends}(h:tS T Z (eF tc m n) D σ H):Xw (eU T Z tc) (tS T Z m) D σ H:=by
 obtain⟨F,r,env,bx,R,h⟩:=h;refine⟨λi σ' H'=>∃ F' r' ax bx',Rel T F' r' σ' H' ax bx' /\ dX T Z F' r' D (eF tc m i ax bx'),⟨n,F,r,env,bx,R,h⟩,?_⟩;rintro i σ' H' ⟨F',r',ax,bx',R',h'⟩;cases i with
 |zero=>exact h'.elim
 | succ i =>
   refine⟨F',r',ax,bx',R',End.bO h' λb bx1 F1 r1 v H1 g1 R1 d1 h1=>?_⟩;subst d1;cases b with
   |false=>rw[if_neg (by decide)];exact h1 F1 r1 σ' H1 (.refl F1 r1) R1
   | true =>
     rw[if_pos rfl];refine⟨λσ2 H2=>∃ F2 r2 aP bx2,Rel T F2 r2 σ2 H2 aP bx2 /\ dX T Z F2 r2 D (eF tc m i aP bx2),λσ2 H2 ⟨F2,r2,aP,bx2,R2,h2⟩=>⟨i,pB _,F2,r2,aP,bx2,R2,h2⟩,F1,r1,ax,bx1,R1,?_⟩;cases em:m ax bx1 with
     |nx rN bq=>simp only[em]at h1;exact λF4 r4 σ4 H4 g4 R4=>⟨F4,r4,rN,bq,R4,dX.weak g4 h1⟩
     |ct rN bq=>simp only[em]at h1;exact λF4 r4 σ4 H4 g4 R4=>⟨F4,r4,rN,bq,R4,dX.weak g4 h1⟩
     |bk rN bq=>simp only[em]at h1;exact h1
     |rt w bq=>simp only[em]at h1;exact h1
     |exc c bq=>simp only[em]at h1;exact h1
     |bad=>simp only[em]at h1;exact h1
theorem GX {body:List Stmt}(n:Nat) (hp:PassesOwn (model X.prog X.w) X.A X.env X.xe) (hc:dk X T Z c tc) (hb:pR X T Z body m):dq X T Z (.While c body [] pos) (eF tc m n):=
 PS.imp (JS hp hc hb) λD σ H h=>NO h
def ay (m:DE W):DE (List W):=λenv bx=>fm (m env bx) λw bx1=>match w with|.d (.lst l)=>.val (l.map W.d) bx1|.d (.tup l)=>.val (l.map W.d) bx1|_=>.bad
end
noncomputable def dZ:OS->O W
 |.rt w bx=>.val w bx
 |.nx _ bx=>.val (.d .non) bx
 |.exc c bx=>.exc c bx
 |_=>.bad
noncomputable def ed (n:Nat):O W->O W
 |.val (.d x) bx=>.val (.d x) (bx.take n)
 |.val w bx=>.val w bx
 |.exc c bx=>.exc c (bx.take n)
 |.bad=>.bad
noncomputable def envOf (n:Nat) (ws:List W):aI:=ws.map some++List.replicate (n-ws.length) none
def aY (n:Nat) (m:aj):List W->List Bx->O W:=λws bx=>ed bx.length (dZ (m (envOf n ws) bx))
noncomputable def aG (m:aj):aj:=λenv bx=>match m env bx with|.exc _ _=>.bad|o=>o
theorem cw.get {F:Hp}{r:List Addr}:∀ {l:List W}{vs:List V}{i:Nat}{d:W},cw F r l vs->l[i]?=some d->∃ v,vs[i]?=some v /\ bB F r d v
 |[],_,_,_,_,e=>by simp at e
 | x::l,_,0,d,h,e=>by
   obtain⟨v,t,q,h1,_⟩:=h;simp at e;subst e;subst q;exact⟨v,rfl,h1⟩
 | x::l,_,i+1,d,h,e=>by
   obtain⟨v,t,q,_,h2⟩:=h;subst q;obtain⟨u,e1,e2⟩:=cw.get (i:=i) h2 (by simpa using e);exact⟨u,by simpa using e1,e2⟩
theorem Rel.start {T:Fr}{F H:Hp}{r:List Addr}{bx:List Bx}{N:List Str}{ws:List W}{vs:List V}(R:Rel T F r [] H [] bx) (d:cw F r ws vs):Rel T F r (start N vs) H (envOf N.length ws) bx:=by
 have hl:=d.length;refine⟨R.fh,λi w e=>?_,R.len,R.nd,R.box,R.keep,R.new,R.n0,?_,R.fs⟩
 ·unfold envOf at e;unfold L2.start;by_cases hi:i<ws.length
  ·rw[cn (by rw[aA];exact hi),dS]at e;cases q:ws[i]? with
   |none=>rw[q]at e;cases e
   | some w' =>
     rw[q]at e;cases e;obtain⟨v,e1,e2⟩:=d.get q;refine⟨v,?_,e2⟩;rw[cn (by rw[aA,<-hl];exact hi),dS,e1];rfl
  ·rw[cz (by rw[aA];omega)]at e;rw[V0]at e;split at e<;>cases e
 ·unfold envOf L2.start;rw[bM,bM,aA,aA,Hu,Hu,hl];exact aq _
theorem Li {l l':List α}(h:l <+: l'):l'.take l.length=l:=by
 obtain⟨t,rfl⟩:=h;simp
theorem Rel.cut {F':Hp}{r':List Addr}(g:aL F r F' r') (R:Rel ⟨H,r.length,F⟩ F' r' [] H' [] bx'):Rel ⟨H,r.length,F⟩ F' r [] H' [] (bx'.take r.length):=by
 have hr:r'.take r.length=r:=Li g.p;have hle:r.length<=r'.length:=g.p.length_le;have pre:∀ (n:Nat) (a:Addr),r[n]?=some a->r'[n]?=some a:=λn a e=>by
  obtain⟨t,rfl⟩:=g.p;rw[cn (List.getElem?_eq_some_iff.mp e).1];exact e
 refine⟨R.fh,λi w e=>by simp at e,?_,?_,λn c a e1 e2=>?_,λa u e hn=>?_,λn a hn e=>?_,aq _,aq _,λa u e=>?_⟩
 ·rw[vF,<-R.len];omega
 ·exact List.Sublist.nodup (List.IsPrefix.sublist g.p) R.nd
 ·have pS:=(List.getElem?_eq_some_iff.mp e2).1;rw[V1 pS]at e1;exact R.box n c a e1 (pre n a e2)
 ·refine R.keep a u e λz=>?_;obtain⟨m,em⟩:=List.mem_iff_getElem?.mp z;by_cases hm:m<r.length
  ·have q:=pre m _ (bI hm);rw[em]at q;cases q;exact hn (ud hm)
  ·have q:=R.new m a (t8 hm) em;have e':H a=some u:=e;have q':H a=none:=q;rw[e']at q';cases q'
 ·rw[rq hn]at e;cases e
 ·rcases R.fs a u e with z|z|z
  ·exact .inl z
  ·exact .inr (.inl z)
  ·obtain⟨m,em⟩:=List.mem_iff_getElem?.mp z;by_cases hm:m<r.length
   ·have q:=pre m _ (bI hm);rw[em]at q;cases q;exact .inr (.inr (ud hm))
   ·exact .inr (.inl (R.new m a (t8 hm) em))
theorem NP {Q:VK}(hb:bx.length=r.length) {o:O W}(h:End ⟨H,r.length,F⟩ Z bB F r [] [] Q (ed bx.length o)):End ⟨H,r.length,F⟩ Z bB F r [] [] Q o:=by
 rw[hb]at h;cases o with
 |bad=>exact h
 |exc c bx1=>exact λF' r' H' g R=>h F' r H' ⟨g.s,qk r⟩ (R.cut g)
 | val w bx1 =>
   cases w with
   |d x=>exact λF' r' v H' g R d=>h F' r v H' ⟨g.s,qk r⟩ (R.cut g) d
   |b n=>exact h
   |s l=>exact h
   |x i=>exact h
   |t _=>exact h
   |m _=>exact h
theorem NQ {Q:VK}{o:OS}(h:End T Z bB F r [] [] Q (dZ o)):dX T Z F r { nx:=λ_ H'=>Q .non H',rt:=Q } o:=by
 cases o with
 |nx env bx=>exact λF' r' σ' H' g R=>h F' r' .non H' g R.drop rfl
 |rt w bx=>exact λF' r' v H' g R d=>h F' r' v H' g R d
 |exc c bx=>exact h
 |bk env bx=>exact(show False from h).elim
 |ct env bx=>exact(show False from h).elim
 |bad=>exact h
section
variable {qual : Str} {f : Addr} {ps : List Str} {k : Nat} {m : aj} 
theorem TY {sp:Sp}(G:eR P w K mg base xI k f fd ps sp):eR P w K mg base CX k f fd ps sp :=
 ⟨G.len,λA outer s H args us vs Q E hr e0 hb hv hs=>vB (G.run A outer s H args us vs Q E hr e0 hb hv hs) λr s' h=>by
  cases r with
  |error e=>exact False.elim h
  | ok fl =>
    cases fl with
    |ret u=>exact h
    |next=>exact h
    |brk=>exact h
    |cont=>exact h⟩
theorem TZ (F:nY K x qual st f fd) (S:vY N ps (fN st))
 (ux:∀ (a7:Value) (A:Around) (outer:List Env) (s:Shared) (H:Hp) (E:XK) (n:Nat) (F0:Hp),cZ k (A.deeper (envOfC qual (fN st) s.heap.objs.size f a7)) ->
  pR (sR xI P w K mg base N qual (fN st) f a7 A outer s H E).vT ⟨H,n,F0⟩ ⟨E0,cl⟩ (ie st) m):eR P w K mg base (nu P w) (k+1) f fd ps (qK cl ps.length (aY N.length (aG m))):=by
 refine TY (F.ok S (λvs H Q E h=>?_) (λa7 A outer s H vs Q E hr h=>?_))
 ·obtain⟨F,r,ws,bx,_,d,hl,_⟩:=h;rw[<-d.length];exact hl
 ·obtain⟨F,r,ws,bx,R,d,hl,h⟩:=h;refine⟨_,ux a7 A outer s H E r.length F hr,F,r,envOf N.length ws,bx,R.start d,?_⟩;have h':=NQ (NP R.len.symm h);unfold aG at h';cases e:m (envOf N.length ws) bx with
  |nx env bx1=>simp only[e]at h';exact h'
  |rt w bx1=>simp only[e]at h';exact h'
  |bk env bx1=>simp only[e]at h';exact h'
  |ct env bx1=>simp only[e]at h';exact h'
  |exc c bx1=>simp only[e]at h';exact h'.elim
  |bad=>simp only[e]at h';exact h'
end
theorem FA:Passes (nu X.prog X.w) X E0:=λ_ _ _ _ _ _ _ h=>by
 obtain⟨_,_,_,_,_,_,_,_,_,_,_,_,_,h⟩:=h;exact h.elim
section
variable {m : aj} {aeX : List Stmt}
end
noncomputable def bindB {β:Type}(m:O α) (k:α->List Bx->O β):O β :=
 match m with
 |.val a bx=>k a bx
 |_=>.bad
def bG (g:DG) (tf:DE Bool) (te:DE W):List W->aI->List Bx->List D->O (List D)
 |[],_,bx,acc=>.val acc bx
 | w::l,env,bx,acc=>match g w env bx with
   |none=>.bad
   | some (env1,bx1)=>bindB (tf env1 bx1) λb bx2=>match b with
     |false=>bG g tf te l env1 bx2 acc
     | true=>bindB (te env1 bx2) λy aD=>match y with
       |.d d=>if acc.length<sizeLine then bG g tf te l env1 aD (acc++[d]) else .bad
       |_=>.bad
noncomputable def cD (src:List (Option Nat)) (env:aI):aI:=src.map λo=>o.bind λi=>(env[i]?).bind id
def fA (bo:Bool) (src:List (Option Nat)) (mi:DE (List W)) (g:DG) (tf:DE Bool) (te:DE W):DE W:=λenv bx =>
 fm (mi env bx) λds bx1=>fm (bG g tf te ds (cD src env) bx1 []) λl bx2=>bJ bo (some (.lst l)) bx2
theorem Rel.src {T:Fr}{F H:Hp}{r:List Addr}{σ:St}{env:aI}{bx:List Bx}(R:Rel T F r σ H env bx) (src:List (Option Nat)):Rel T F r (rK src σ) H (cD src env) bx:=by
 refine⟨R.fh,λj w e=>?_,R.len,R.nd,R.box,R.keep,R.new,R.n0,?_,R.fs⟩
 ·unfold cD at e;unfold L2.rK;rw[dS]at e ⊢;cases q:src[j]? with
  |none=>rw[q]at e;cases e
  | some o =>
    rw[q]at e;cases o with
    |none=>cases e
    | some i =>
      have e':(env[i]?).bind id=some w:=Option.some.inj e;cases z:env[i]? with
      |none=>rw[z]at e';cases e'
      | some o' =>
        rw[z]at e';have e2:o'=some w:=e';subst e2;obtain⟨v,e1,e2⟩:=R.slot i w z;exact⟨v,by simp[e1],e2⟩
 ·unfold cD L2.rK;rw[aA,aA];exact aq _
theorem Rel.inner {F':Hp}{r':List Addr}{σ':St}{ax:aI}(R:Rel T F r σ H env bx) (g:aL F r F' r') (R':Rel ⟨H,r.length,F⟩ F' r' σ' H' ax bx'):Rel T F' r' σ' H' ax bx':=by
 have q:=R.after g R'.drop;exact⟨q.fh,R'.slot,q.len,q.nd,q.box,q.keep,q.new,q.n0,R'.sl,q.fs⟩
theorem Rel.again (R:Rel T F r σ H env bx):Rel ⟨H,r.length,F⟩ F r σ H env bx :=
 ⟨R.fh,R.slot,R.len,R.nd,R.box,λa u e _=>e,λn a hn e=>(by rw[rq hn]at e;cases e),aq _,R.sl,λa u e=>.inl e⟩
structure Own (F:Hp) (r:List Addr) (H:Hp) (a:Addr) (vs:List V):Prop where
 h:H a=some (.lst vs)
 f:F a=none
 b:a∉r
theorem Own.inner {F':Hp}{r':List Addr}{σ':St}{ax:aI}(o:Own F r H a vs) (g:aL F r F' r') (R':Rel ⟨H,r.length,F⟩ F' r' σ' H' ax bx'):Own F' r' H' a vs:=by
 have hb:a∉r':=λz=>by
  obtain⟨m,em⟩:=List.mem_iff_getElem?.mp z;by_cases hm:m<r.length
  ·obtain⟨t,e⟩:=g.p;rw[<-e,cn hm]at em;exact o.b (List.mem_iff_getElem?.mpr ⟨m,em⟩)
  ·have q:H a=none:=R'.new m a (t8 hm) em;rw[o.h]at q;cases q
 refine⟨R'.keep a _ o.h hb,?_,hb⟩;cases q:F' a with
 |none=>rfl
 | some u =>
   rcases R'.fs a u q with z|z|z
   ·have z':F a=some u:=z;rw[o.f]at z';cases z'
   ·have z':H a=none:=z;rw[o.h]at z';cases z'
   ·exact absurd z hb
theorem Rel.Yh (R:Rel T F r σ H env bx) {p:Addr}{o:HO}(h:H p=none):Rel T F r σ (upd H p o) env bx:=by
 have hs:∀ a u,H a=some u->upd H p o a=some u:=λa u e=>by rw[fG (gh e h)];exact e
 exact⟨λa u e=>hs a u (R.fh a u e),R.slot,R.len,R.nd,λn c a e1 e2=>(R.box n c a e1 e2).grow (Sub.refl F) id (hs a),λa u e hn=>hs a u (R.keep a u e hn),R.new,R.n0,R.sl,R.fs⟩
theorem Rel.Yi (R:Rel T F r σ H env bx) {p:Addr}{o:HO}(w:Own F r H p vs) (hT:T.H₀ p=none):Rel T F r σ (upd H p o) env bx:=by
 refine⟨λa u e=>?_,R.slot,R.len,R.nd,λn c a e1 e2=>?_,λa u e hn=>?_,R.new,R.n0,R.sl,R.fs⟩
 ·rw[fG (λz=>by rw[z,w.f]at e;cases e)];exact R.fh a u e
 ·have ha:a≠p:=λz=>w.b (List.mem_iff_getElem?.mpr ⟨n,z▸e2⟩);exact(R.box n c a e1 e2).grow (Sub.refl F) id λu z=>by rw[fG ha];exact z
 ·rw[fG (λz=>by rw[z,hT]at e;cases e)];exact R.keep a u e hn
theorem Rel.Yj (R:Rel T F r σ H env bx) {p:Addr}(w:Own F r H p vs) (hT:T.H₀ p=none):Rel T (upd F p (.lst vs)) r σ H env bx /\ aL F r (upd F p (.lst vs)) r:=by
 have s:=oI (o:=.lst vs) w.f;refine⟨⟨λa u e=>?_,λi w e=>?_,R.len,R.nd,λn c a e1 e2=>?_,R.keep,R.new,R.n0,R.sl,λa u e=>?_⟩,s,qk r⟩
 ·by_cases ha:a=p
  ·subst ha;rw[fC]at e;cases e;exact w.h
  ·rw[fG ha]at e;exact R.fh a u e
 ·obtain⟨v,e1,e2⟩:=R.slot i w e;exact⟨v,e1,e2.mono s (qk r)⟩
 ·have ha:a≠p:=λz=>w.b (List.mem_iff_getElem?.mpr ⟨n,z▸e2⟩);exact(R.box n c a e1 e2).grow s (λz=>by rw[fG ha];exact z) λu z=>z
 ·by_cases ha:a=p
  ·subst ha;exact .inr (.inl hT)
  ·rw[fG ha]at e;exact R.fs a u e
theorem Rel.Yk (R:Rel T F r σ H env bx) {p:Addr}(w:Own F r H p vs) (hT:T.H₀ p=none) (d:ao F l vs):Rel T F (r++[p]) σ H env (bx++[.lst l]) /\ aL F r F (r++[p]) /\ (r++[p])[bx.length]?=some p:=by
 have hx:(r++[p])[bx.length]?=some p:=by rw[<-R.len,cz (aq _),k8];rfl
 have g:aL F r F (r++[p]):=⟨Sub.refl F,xi r [p]⟩;refine⟨⟨R.fh,λi w e=>?_,by rw[bM,bM,R.len];rfl,?_,λn c' a e1 e2=>?_,λa u e hn=>R.keep a u e λz=>hn (cU _ z),λn a hn e=>?_,by rw[bM];exact bR R.n0 (ua _ _),R.sl,λa u e=>(R.fs a u e).imp id (Or.imp id λz=>cU _ z)⟩,g,hx⟩
 ·obtain⟨v,e1,e2⟩:=R.slot i w e;exact⟨v,e1,g.den e2⟩
 ·rw[sI];refine⟨R.nd,by simp,λa ha b hb=>?_⟩;rw[a8]at hb;subst hb;exact λz=>w.b (z▸ha)
 ·by_cases hn:n<r.length
  ·rw[cn hn]at e2;rw[cn (by rw[<-R.len];exact hn)]at e1;exact R.box n c' a e1 e2
  ·rw[cz (by omega)]at e2;rw[cz (by rw[<-R.len];omega)]at e1;have hl:n-r.length=0:=by
    cases q:n-r.length with
    |zero=>rfl
    |succ k=>rw[q]at e2;simp at e2
   have rM:n-bx.length=0:=by rw[<-R.len];exact hl
   rw[hl]at e2;rw[rM]at e1;simp at e1 e2;subst e1 e2;exact⟨w.f,vs,w.h,d⟩
 ·by_cases hl:n<r.length
  ·rw[cn hl]at e;exact R.new n a hn e
  ·have hp:a=p:=by
    rw[cz (by omega)]at e;cases q:n-r.length with
    |zero=>rw[q]at e;simp at e;exact e.symm
    |succ k=>rw[q]at e;simp at e
   subst hp;exact hT
section
variable {src : List (Option Nat)} {scope : Scope} {g : DG} 
abbrev xW (g:DG):TG:=λv σ H Q=>∃ T,tG T g v σ H Q
abbrev xX (Z:Xs) (tf:DE Bool):TT:=λσ H Q=>∃ T,eU T Z tf σ H Q
abbrev xY (Z:Xs) (te:DE W):TE:=λσ H Q=>∃ T,tD T Z te σ H Q
theorem Rel.slots {T':Fr}{F':Hp}{r':List Addr}{σ':St}{ax:aI}(R:Rel T F r σ H env bx) (g:aL F r F' r') (R':Rel T' F' r' σ' H' ax bx'):Rel T' F' r' σ H' env bx' :=
 ⟨R'.fh,λi w e=>let ⟨v,e1,e2⟩:=R.slot i w e;⟨v,e1,g.den e2⟩,R'.len,R'.nd,R'.box,R'.keep,R'.new,R'.n0,R.sl,R'.fs⟩
theorem Lj {Q:VK}(h:tD T Z (fA bo src mi g tf te) σ H Q):zV src (tI T Z mi) (xW g) (xX ⟨E0,Z.cl⟩ tf) (xY ⟨E0,Z.cl⟩ te) σ H Q:=by
 obtain⟨F,r,env,bx,R,h⟩:=h;refine⟨F,r,env,bx,R,End.bind h λds bx1 F1 r1 J H1 g1 R1 y1 h1=>λDa hD=>?_⟩;have hT:T.H₀ Da=none:=by
  cases q:T.H₀ Da with
  |none=>rfl
  |some u=>rw[R1.keep Da u q (R1.uC hD)]at hD;cases hD
 have o0:Own F1 r1 (upd H1 Da (.lst [])) Da []:=⟨fC,R1.uB hD,R1.uC hD⟩;refine⟨λi n σ' H'=>∃ pre l F' r' ax bx' acc vs,ds=pre++l /\ pre.length=i /\ n=l.length /\ aL F1 r1 F' r' /\ Rel T F' r' σ' H' ax bx' /\ Own F' r' H' Da vs /\ ao F' acc vs /\
  End T Z bB F' r' σ env Q (fm (bG g tf te l ax bx' acc) λl bx2=>bJ bo (some (.lst l)) bx2),
  ⟨ds.length,[],ds,F1,r1,_,bx1,[],[],rfl,rfl,rfl,.refl F1 r1,(R1.Yh hD).src src,o0,.nil,h1⟩,?_⟩
 rintro i n σ' H' ⟨pre,l,F',r',ax,bx',acc,vs,eS,hi,hn,g',R',o',da,h'⟩;obtain⟨ys,yg⟩:=y1 ⟨H',r'.length,F'⟩ i F' r' σ' H' ax bx' g' R'.again;cases l with
 | nil =>
   refine .inl ⟨ys (by rw[eS,ng];omega),?_⟩;have RO:Rel T F' r' σ H' env bx':=R1.slots g' R';have hd:End T Z bB F' r' σ env Q (.val (.d (.lst acc)) bx')->Q (.ref Da) H':=λh'=>by
    obtain⟨RA,gA⟩:=RO.Yj o' hT;exact h' _ r' _ H' gA RA ⟨Da,vs,rfl,fC,ao.mono gA.s acc da⟩
   cases bo with
   |false=>exact hd h'
   | true =>
     obtain⟨RB,gB,hx⟩:=RO.Yk o' hT da;exact h' F' _ _ H' gB RB ⟨Da,rfl,hx⟩
 | cons w l =>
   obtain⟨go,yl⟩:=yg w (by rw[eS,cz (by omega),hi,k8];rfl);refine .inr ⟨go,λσ2 H2=>∃ F2 r2 aP bx2 rO rP,aL F1 r1 F2 r2 /\ Rel T F2 r2 σ2 H2 aP bx2 /\ Own F2 r2 H2 Da rP /\ ao F2 rO rP /\
    End T Z bB F2 r2 σ env Q (fm (bG g tf te l aP bx2 rO) λl bx2=>bJ bo (some (.lst l)) bx2),
    λσ2 H2 ⟨F2,r2,aP,bx2,rO,rP,g2,R2,o2,d2,h2⟩=>⟨l.length,by rw[hn];exact pB _,pre++[w],l,F2,r2,aP,bx2,rO,rP,by rw[eS,eC];rfl,by rw[bM,hi];rfl,rfl,g2,R2,o2,d2,h2⟩,λx H2 hy=>?_⟩
   obtain⟨F2,g2,R2,d2⟩:=yl x H2 hy;have Yl:=R'.inner g2 R2;have o2:=o'.inner g2 R2;refine⟨⟨H2,r'.length,F2⟩,F2,r',ax,bx',w,Yl.again,d2,?_⟩;simp only[bG]at h';cases eg:g w ax bx' with
   |none=>simp only[eg]at h';exact h'.elim
   | some o =>
     obtain⟨c7,aD⟩:=o;simp only[eg]at h';intro F3 r3 σ3 H3 g3 R3;have xZ:=Yl.inner g3 R3;have o3:=o2.inner g3 R3;refine⟨⟨H3,r3.length,F3⟩,F3,r3,c7,aD,xZ.again,?_⟩;cases ef:tf c7 aD with
     |bad=>simp only[ef,bindB]at h';exact h'.elim
     |exc c bq=>simp only[ef,bindB]at h';exact h'.elim
     | val b bq =>
       simp only[ef,bindB]at h';intro F4 r4 b' H4 g4 R4 eb;subst eb;have uI:=xZ.inner g4 R4;have o4:=o3.inner g4 R4;have yb:aL F1 r1 F4 r4:=((g'.trans g2).trans g3).trans g4;have tE:aL F' r' F4 r4:=(g2.trans g3).trans g4;cases b with
       | false =>
         rw[if_neg (by decide)];exact⟨F4,r4,c7,bq,acc,vs,yb,uI,o4,ao.mono tE.s acc da,End.weak tE h'⟩
       | true =>
         rw[if_pos rfl];refine⟨⟨H4,r4.length,F4⟩,F4,r4,c7,bq,uI.again,?_⟩;cases ee:te c7 bq with
         |bad=>simp only[ee]at h';exact h'.elim
         |exc c uJ=>simp only[ee]at h';exact h'.elim
         | val y uJ =>
           simp only[ee]at h';intro F5 r5 v H5 g5 R5 d5;have Kr:=uI.inner g5 R5;have o5:=o4.inner g5 R5;have yc:=tE.trans g5;cases y with
           | d d =>
             simp only at h';split at h'
             ·rename_i hz;have Ks:=ao.mono yc.s acc da;refine⟨vs,o5.h,by rw[<-da.length];exact hz,F5,r5,c7,uJ,acc++[d],vs++[v],yb.trans g5,Kr.Yi o5 hT,⟨fC,o5.f,o5.b⟩,Ks.append (.cons d5 .nil),End.weak yc h'⟩
             ·exact h'.elim
           |b n=>exact h'.elim
           |s l=>exact h'.elim
           |x i=>exact h'.elim
           |t _=>exact h'.elim
           |m _=>exact h'.elim
theorem FB (bo:Bool) (hc:X.calm=true) (S:kQ X N src scope) (hi:ny X T Z tg iter mi)
 (hg:∀ T cl s H C fp,dY (X.comp N scope cl s H C fp) T tg g) (hf:∀ T cl s H C fp,PF (X.comp N scope cl s H C fp) ifs (eU T ⟨E0,Z.cl⟩ tf)) (he:∀ T cl s H C fp,PD (X.comp N scope cl s H C fp) T ⟨E0,Z.cl⟩ elt te)
 (hs:∀ x,foldedSetIterable iter X.env x=pure x):PD X T Z (.ListComp elt [⟨tg,iter,ifs,0⟩] scope pos) (fA bo src mi g tf te):=
 PE.imp (Fw (src:=src) (g:=xW g) (tf:=xX ⟨E0,Z.cl⟩ tf) (te:=xY ⟨E0,Z.cl⟩ te) hc S hi (λcl s H C fp pins s' σ' H' v u Q I rv ⟨T,q⟩=>hg T cl s H C fp pins s' σ' H' v u Q I rv q)
  (λcl s H C fp pins s' σ' H' Q I ⟨T,q⟩=>hf T cl s H C fp pins s' σ' H' Q I q) (λcl s H C fp pins s' σ' H' Q I ⟨T,q⟩=>he T cl s H C fp pins s' σ' H' Q I q) hs) λσ H Q h=>Lj h
noncomputable def fw:DE Bool:=λ_ bx=>.val true bx
theorem NR:PF X [] (eU T Z fw):=λpins s σ H Q I ⟨F,r,env,bx,R,h⟩=>RG pins s σ H Q I (h F r true H (.refl F r) R rfl)
theorem NS {t:DE Bool}(h:dk X T Z c t):PF X [c] (eU T Z t):=RH h
theorem Bc {w:W}(e:(l.map W.d)[i]?=some w):∃ d,l[i]?=some d /\ w=.d d:=by
 rw[dS]at e;cases q:l[i]? with
 |none=>rw[q]at e;cases e
 |some d=>rw[q]at e;cases e;exact⟨d,rfl,rfl⟩
noncomputable def fE (lo:Int) (n:Nat):List W:=(List.range n).map λ(i:Nat)=>W.d (.int (lo+i))
theorem mG (lo:Int) (n:Nat):uH F r (fE lo n) (xy lo n):=λT i F1 r1 σ1 H1 env1 bx1 g R=>by
 unfold fE;refine⟨λhl=>?_,λw e=>?_⟩
 ·rw[aA,sH]at hl;exact sF hl
 ·rw[dS]at e;cases q:(List.range n)[i]? with
  |none=>rw[q]at e;cases e
  | some j =>
    rw[q]at e;cases e;obtain⟨h1,h2⟩:=List.getElem?_eq_some_iff.mp q;rw[List.getElem_range]at h2;subst h2;rw[sH]at h1;refine⟨h1,λx H2 ⟨e1,e2⟩=>?_⟩;subst e1 e2;exact⟨F1,.refl F1 r1,R,rfl⟩
def bC (k:DE (List W)):DE (List W):=λenv bx=>fm (k env bx) λws bx1=>match ws with
 |[.d (.int j)]=>if -(2 ^ 62)<=j /\ j<2 ^ 62 then .val (fE 0 j.toNat) bx1 else .bad
 |_=>.bad
theorem DB {a:Expr}{p:Pos}{k:DE (List W)}(hg:Gl X "range") (hm:X.mg "range"=none) (ha:bX X T Z [a] k) (hs:starEach [a] X.env=[(false,eval a X.env)]):ny X T Z tg (.Call (.Name "range" p) [a] [] pos) (bC k):=by
 refine PI.imp (GH hg hm ha hs) λσ H Q ⟨F,r,env,bx,R,h⟩=>?_;refine⟨F,r,env,bx,R,End.bind h λws bx1 F1 r1 vs H1 g1 R1 d1 h1=>?_⟩;split at h1
 ·rename_i j;split at h1
  ·rename_i hj;obtain⟨v,t,rfl,e1,e2⟩:=d1;cases (show t=[] from e2);cases (show v=.int j from e1);exact⟨j,rfl,hj.1,hj.2,h1 F1 r1 _ H1 (.refl F1 r1) R1 (mG 0 j.toNat)⟩
  ·exact h1.elim
 ·exact h1.elim
def qM (k:DE (List W)):DE (List W):=λenv bx=>fm (k env bx) λws bx1=>match ws with
 |[.d (.int i),.d (.int j)]=>if (-(2 ^ 62)<=i /\ i<2 ^ 62) /\ -(2 ^ 62)<=j /\ j<2 ^ 62 then .val (fE i (j-i).toNat) bx1 else .bad
 |_=>.bad
theorem DC {a b:Expr}{p:Pos}{k:DE (List W)}(hg:Gl X "range") (hm:X.mg "range"=none) (ha:bX X T Z [a,b] k) (hs:starEach [a,b] X.env=[(false,eval a X.env),(false,eval b X.env)]) (cY:starEach [b] X.env=[(false,eval b X.env)]) :
 ny X T Z tg (.Call (.Name "range" p) [a,b] [] pos) (qM k):=by
 refine PI.imp (GI hg hm ha hs cY) λσ H Q ⟨F,r,env,bx,R,h⟩=>?_;refine⟨F,r,env,bx,R,End.bind h λws bx1 F1 r1 vs H1 g1 R1 d1 h1=>?_⟩;split at h1
 ·rename_i i j;split at h1
  ·rename_i hj;obtain⟨v,t,rfl,e1,v2,t2,rfl,e2,e3⟩:=d1;cases (show t2=[] from e3);cases (show v=.int i from e1);cases (show v2=.int j from e2);exact⟨i,j,rfl,⟨hj.1.1,hj.1.2,hj.2.1,hj.2.2⟩,h1 F1 r1 _ H1 (.refl F1 r1) R1 (mG i _)⟩
  ·exact h1.elim
 ·exact h1.elim
end
section
variable {a b : Expr} {mb mc : DE W} {p : Pos}
def Ym (K:PySem.W.Frag):R2:=λx y H Q=>∃ a b ys,x=.ref a /\ y=.ref b /\ aV K H a [] /\ aV K H b ys /\ Q (.ref b) H
theorem Lk:aN X (binaryOp .Add) (Ym X.K):=by
 intro pins s σ H x y v u Q I rx ry h;obtain⟨a,b,ys,rfl,rfl,ha,hb,q⟩:=h;cases rx;cases ry;obtain⟨its,r1,p1,_⟩:=I.tuple ha;obtain⟨kP,r2,p2,_⟩:=I.tuple hb;cases r1;obtain⟨⟨cls,dd,data,sl⟩,ho,hc,n,hd⟩:=id p1;obtain⟨⟨XJ,sU,data2,sV⟩,qx,dG,n2,hd2⟩:=id p2;simp only at hc hd dG hd2;subst hc hd dG hd2
 exact Ha ⟨_,ho,rfl⟩ ⟨_,qx,rfl⟩ Hb Hc Ij Ik (Il _ _)
  (tuple_addW0 a b ([]:List Value).toArray kP.toArray n n2 dd sU sl sV (by simp)) ⟨ho,qx,⟨.ref b,H,I,rfl,q⟩⟩
def Yn (K:PySem.W.Frag):R2:=λx y H Q=>eQ (λi j=>.int (i+j)) x y H Q \/ XO K x y H Q \/ Ym K x y H Q \/ X1 x y H Q \/ ∃ i j,x=.str i /\ y=.str j /\ i.length+j.length<=sizeLine /\ Q (.str (i++j)) H
theorem NT:aN X (binaryOp .Add) (Yn X.K):=Rn.or (Ny.or (Lk.or (RF.or Dv)))
noncomputable def fM:D->D->Option Res
 |.int i,.int j=>some (.old (.int (i+j)))
 |.tup a,.tup b=>if a.length+b.length<=sizeLine then some (.tup (a++b)) else none
 |.lst a,.lst b=>if a.length+b.length<=sizeLine then some (.lst (a++b)) else none
 |.str a,.str b=>if a.length+b.length<=sizeLine then some (.old (.str (a++b))) else none
 |_,_=>none
theorem ao.eq_nil (h:ao F l vs):vs=[] ↔ l=[]:=by
 have:=h.length;cases l<;>cases vs<;>simp_all
theorem abL:bK (Yn K) fM:=by
 intro F H x y v w Q s sub rx ry e k;unfold fM at e;split at e
 ·rename_i i j;cases e;exact .inl ⟨i,j,rx,ry,k _ _ ⟨rfl,rfl⟩⟩
 ·rename_i l l';split at e
  ·rename_i hz;cases e;obtain⟨a,vs,rfl,h1,h2⟩:=rx;obtain⟨b,ws,rfl,h3,h4⟩:=ry;by_cases hv:vs=[]
   ·subst hv;have hl:l=[]:=h2.eq_nil.mp rfl;subst hl;exact .inr (.inr (.inl ⟨a,b,ws,rfl,rfl,.of (sub _ _ h1),.of (sub _ _ h3),k _ _ (.inl ⟨rfl,b,ws,rfl,h3,h4⟩)⟩))
   ·refine .inr (.inl ⟨a,b,vs,ws,rfl,rfl,.of (sub _ _ h1),.of (sub _ _ h3),hv,by rw[<-h2.length,<-h4.length];exact hz,λhw=>?_,λhw p hp=>k _ _ (.inr ⟨p,vs++ws,rfl,hp,rfl,h2.append h4⟩)⟩);have hl:l'=[]:=h4.eq_nil.mp hw;subst hl;exact k _ _ (.inl ⟨rfl,a,vs,rfl,h1,by rw[ng];exact h2⟩)
  ·cases e
 ·rename_i l l';split at e
  ·rename_i hz;cases e;obtain⟨a,vs,rfl,h1,h2⟩:=rx;obtain⟨b,ws,rfl,h3,h4⟩:=ry;exact .inr (.inr (.inr (.inl ⟨a,b,vs,ws,rfl,rfl,h1,h3,by rw[<-h2.length,<-h4.length];exact hz,λp hp=>k _ _ ⟨p,vs++ws,rfl,hp,rfl,h2.append h4⟩⟩)))
  ·cases e
 ·rename_i i j;split at e
  ·rename_i hz;cases e;exact .inr (.inr (.inr (.inr ⟨i,j,rx,ry,hz,k _ _ ⟨rfl,rfl⟩⟩)))
  ·cases e
 ·cases e
theorem zZ {C:Int->Int->Prop} [∀ i j,Decidable (C i j)] {g:Int->Int->D}{gv:Int->Int->V}(hg:∀ i j F,Den F (g i j) (gv i j)):bK (rI C gv) λx y=>match x,y with|.int i,.int j=>if C i j then some (.old (g i j)) else none|_,_=>none:=by
 intro F H x y v w Q s sub rx ry e k;dsimp only at e;split at e
 ·rename_i i j;split at e
  ·rename_i hc;cases e;exact⟨i,j,rx,ry,hc,k _ _ ⟨rfl,hg i j F⟩⟩
  ·cases e
 ·cases e
theorem z7 {g:Int->Int->D}{gv:Int->Int->V}(hg:∀ i j F,Den F (g i j) (gv i j)):bK (eQ gv) λx y=>match x,y with|.int i,.int j=>some (.old (g i j))|_,_=>none:=by
 intro F H x y v w Q s sub rx ry e k;dsimp only at e;split at e
 ·rename_i i j;cases e;exact⟨i,j,rx,ry,k _ _ ⟨rfl,hg i j F⟩⟩
 ·cases e
noncomputable def en:D->D->Option Res:=λx y=>match x,y with|.int i,.int j=>some (.old (.int (i-j)))|_,_=>none
theorem abM:bK (eQ λi j=>.int (i-j)) en:=z7 (g:=λi j=>.int (i-j)) λ_ _ _=>rfl
instance (i j:Int):Decidable (sQ i j):=by unfold sQ;exact inferInstance
instance (i j:Int):Decidable (vV i j):=by unfold vV;exact inferInstance
instance (i j:Int):Decidable (vW i j):=by unfold vW;exact inferInstance
noncomputable def z8:D->D->Option Res:=λx y=>match x,y with|.int i,.int j=>if vV i j then some (.old (.int (i / j))) else none|_,_=>none
theorem abN:bK (rI vV λi j=>.int (i / j)) z8:=zZ (g:=λi j=>.int (i / j)) λ_ _ _=>rfl
noncomputable def eG:D->D->Option Res:=λx y=>match x,y with|.int i,.int j=>if 0<j then some (.old (.int (i % j))) else none|_,_=>none
theorem abO:bK (rI (λ_ j=>0<j) λi j=>.int (i % j)) eG:=zZ (C:=λ_ j=>0<j) (g:=λi j=>.int (i % j)) λ_ _ _=>rfl
noncomputable def uK:D->D->Option Res:=λx y=>match x,y with|.int i,.int j=>if vW i j then some (.old (.int (i ^ j.toNat))) else none|_,_=>none
theorem abP:bK (rI vW λi j=>.int (i ^ j.toNat)) uK:=zZ (g:=λi j=>.int (i ^ j.toNat)) λ_ _ _=>rfl
noncomputable def intsOf:List D->Option (List Int)
 |[]=>some []
 |.int i::l=>(intsOf l).map λt=>i::t
 |_=>none
theorem ao.ints {F:Hp}:∀ {l:List D}{vs:List V}{ns:List Int},ao F l vs->intsOf l=some ns->vs=ns.map V.int
 |[],_,_,h,e=>by cases e;exact h
 | .int i::l,_,ns,h,e=>by
   obtain⟨v,r,q,h1,h2⟩:=h;unfold intsOf at e;cases e2:intsOf l with
   |none=>rw[e2]at e;cases e
   | some t =>
     rw[e2]at e;cases e;rw[q,h2.ints e2,show v=.int i from h1];rfl
 |.non::l,_,_,_,e=>by cases e
 |.bl _::l,_,_,_,e=>by cases e
 |.str _::l,_,_,_,e=>by cases e
 |.tup _::l,_,_,_,e=>by cases e
 |.lst _::l,_,_,_,e=>by cases e
 |.ah _::l,_,_,_,e=>by cases e
def cL:D->D->Option Res
 |.int i,.int j=>some (.old (.bl (decide (i<j))))
 |.tup a,.tup b=>(intsOf a).bind λns=>(intsOf b).map λms=>.old (.bl (HT.lexLt ns ms))
 |_,_=>none
theorem R6 (hu:X.A.units<cLine):aN X (compareOp .Lt) (λx y H Q=>eQ (λi j=>.bl (decide (i<j))) x y H Q \/ IZ X.K x y H Q):=TJ.or (Rx hu)
theorem abQ:bK (λx y H Q=>eQ (λi j=>.bl (decide (i<j))) x y H Q \/ IZ K x y H Q) cL:=by
 intro F H x y v w Q s sub rx ry e k;unfold cL at e;split at e
 ·rename_i i j;cases e;exact .inl ⟨i,j,rx,ry,k _ _ ⟨rfl,rfl⟩⟩
 ·rename_i l l';cases e1:intsOf l with
  |none=>rw[e1]at e;cases e
  | some ns =>
    cases e2:intsOf l' with
    |none=>rw[e1,e2]at e;cases e
    | some ms =>
      rw[e1,e2]at e;cases e;obtain⟨a,vs,rfl,h1,h2⟩:=rx;obtain⟨b,ws,rfl,h3,h4⟩:=ry;have q1:=h2.ints e1;have q2:=h4.ints e2;subst q1 q2;exact .inr ⟨a,b,ns,ms,rfl,rfl,.of (sub _ _ h1),.of (sub _ _ h3),k _ _ ⟨rfl,rfl⟩⟩
 ·cases e
noncomputable def h9:D->D->Option Res:=λx y=>match x,y with|.int i,.int j=>some (.old (.bl (decide (j<i))))|_,_=>none
theorem abR:bK (eQ λi j=>.bl (decide (j<i))) h9:=z7 (g:=λi j=>.bl (decide (j<i))) λ_ _ _=>rfl
noncomputable def rQ:D->D->Option Res:=λx y=>match x,y with|.int i,.int j=>some (.old (.bl (decide (j<=i))))|_,_=>none
theorem abS:bK (eQ λi j=>.bl (decide (j<=i))) rQ:=z7 (g:=λi j=>.bl (decide (j<=i))) λ_ _ _=>rfl
def av:D->D->Option Res
 |.lst l,.int i=>(bc l i).map Res.old
 |.tup l,.int i=>(bc l i).map Res.old
 |_,_=>none
theorem FC {i:Int}(h:ao F l vs) (e:bc l i=some d):∃ v,bc vs i=some v /\ Den F d v:=by
 unfold bc at e ⊢;rw[<-h.length];cases q:b9 l.length i with
 |none=>rw[q]at e;cases e
 |some j=>rw[q]at e;exact h.get e
theorem abT:bK (XT K) av:=by
 intro F H x y v w Q s sub rx ry e k;unfold av at e;split at e
 ·rename_i l i;obtain⟨a,vs,rfl,h1,h2⟩:=rx;cases e1:bc l i with
  |none=>rw[e1]at e;cases e
  | some d =>
    rw[e1]at e;cases e;obtain⟨u,e2,du⟩:=FC h2 e1;exact .inl ⟨a,vs,i,u,rfl,ry,.of h1,e2,k _ _ ⟨rfl,du⟩⟩
 ·rename_i l i;obtain⟨a,vs,rfl,h1,h2⟩:=rx;cases e1:bc l i with
  |none=>rw[e1]at e;cases e
  | some d =>
    rw[e1]at e;cases e;obtain⟨u,e2,du⟩:=FC h2 e1;exact .inr (.inl ⟨a,vs,i,u,rfl,ry,.of (sub _ _ h1),e2,k _ _ ⟨rfl,du⟩⟩)
 ·cases e
noncomputable def az:List D->Option Res
 |[.lst l]=>some (.old (.int l.length))
 |[.tup l]=>some (.old (.int l.length))
 |_=>none
theorem abU:dW (λxs H Q=>∃ p ys,xs=[.ref p] /\ (aS K H p ys \/ aV K H p ys) /\ Q (.int ys.length) H) az:=by
 intro F H xs vs Q s sub rx e k;unfold az at e;split at e
 ·rename_i l;cases e;obtain⟨v,t,rfl,⟨a,us,rfl,h1,h2⟩,rt⟩:=rx;cases (show t=[] from rt);exact⟨a,us,rfl,.inl (.of h1),k _ _ ⟨rfl,by rw[<-h2.length];rfl⟩⟩
 ·rename_i l;cases e;obtain⟨v,t,rfl,⟨a,us,rfl,h1,h2⟩,rt⟩:=rx;cases (show t=[] from rt);exact⟨a,us,rfl,.inr (.of (sub _ _ h1)),k _ _ ⟨rfl,by rw[<-h2.length];rfl⟩⟩
 ·cases e
noncomputable def qN:D->String
 |.non=>"NoneType"|.bl _=>"bool"|.int _=>"int"|.str _=>"str"|.tup _=>"tuple"|.lst _=>"list"|.ah _=>"dict"
noncomputable def uL (S T:String):Bool:=S==T||(S == "bool"&&T == "int")
def nz (K:PySem.W.Frag) (T:String):Prop:=∀ d:D,PySem.W.kitOne K (.type (qN d)) (.type T)=some (uL (qN d) T)
theorem T0 (sub:Sub F H):∀ {d:D}{v:V},kR F H d v->kO K H v (.type (qN d))
 |.non,_,h=>by cases (show _=V.non from h);exact .non
 |.bl b,_,h=>by cases (show _=V.bl b from h);exact .bl b
 |.int b,_,h=>by cases (show _=V.int b from h);exact .int b
 |.str b,_,h=>by cases (show _=V.str b from h);exact .str b
 |.tup l,_,h=>by obtain⟨a,vs,rfl,h1,h2⟩:=h;exact .tup (sub _ _ h1)
 |.lst l,_,h=>by obtain⟨a,vs,rfl,h1,h2⟩:=h;exact .lst h1
 |.ah l,_,h=>by obtain⟨a,vs,rfl,h1,h2⟩:=h;exact .dK h1
def iM (n:String) (m:DE W):DE W:=λenv bx=>fm (m env bx) λw bx1=>match aJ bx1 w with|some d=>.val (.d (.bl (uL (qN d) n))) bx1|none=>.bad
theorem NU {n:String}{p p1:Pos}(hT:nz X.K n) (hg:Gl X "isinstance") (hm:X.mg "isinstance"=none) (dr:Gl X x) (eu:X.mg x=none) (hv:bootBuiltins x=some (.type n)) (ha:PD X T Z a ma)
 (hn:x ≠ "__name__") (cJ:(x==("__debug__":Str))=false)
 (Yo:starEach [a,.Name x p1] X.env=(false,eval a X.env)::starEach [.Name x p1] X.env) (abV:starEach [.Name x p1] X.env=(false,eval (.Name x p1) X.env)::starEach [] X.env)
 (hZ:(backTo pos (starEach [.Name x p1] X.env)).any (·.1)=false):PD X T Z (.Call (.Name "isinstance" p) [a,.Name x p1] [] pos) (iM n ma):=by
 refine PE.imp (o7 GT hg hm (by decide +kernel) (iN ha (iN (Ni dr eu hv (v:=.ty n) rfl hn cJ) lX abV) Yo) (by decide) (by decide) Yo hZ) λσ H Q ⟨F,r,env,bx,R,h⟩=>?_;refine⟨F,r,env,bx,R,End.bind h λw bx1 F1 r1 v H1 g1 R1 d1 h1=>?_⟩;cases e:aJ bx1 w with
 |none=>simp only[e]at h1;exact h1.elim
 | some d =>
   simp only[e]at h1;exact⟨v,.ty n,_,.type n,_,rfl,.of (T0 R1.fh (R1.pQ d1 e)),rfl,hT d,h1 F1 r1 _ H1 (.refl F1 r1) R1 rfl⟩
end
section
variable {a b : Expr} {mb mc : DE W} {p : Pos}
def Yp (K:PySem.W.Frag):R2:=λx y H Q=>∃ a b xs,x=.ref a /\ y=.ref b /\ aS K H a xs /\ aS K H b [] /\ Q (.bl (!xs.isEmpty)) H
theorem R7 (hu:X.A.units<cLine):aN X (compareOp .NotEq) (Yp X.K):=by
 intro pins s σ H x y v u Q I rx ry h;obtain⟨a,b,xs,rfl,rfl,h1,h2,q⟩:=h;cases rx;cases ry;obtain⟨i1,r1,p1,z1⟩:=I.list h1;obtain⟨i2,r2,p2,z2⟩:=I.list h2;cases r2;cases r1 with
 |nil=>exact SeqAt.RcNeAt.lists (items:=([]:List Value).toArray) (items2:=([]:List Value).toArray) (e:=λ_=>true) p1.isList p2.isList rfl hu (λj h1 h2=>absurd h2 (by simp)) X.prog X.w X.xe _ ⟨.bl false,H,I,rfl,q⟩
 |cons _ _=>exact aam (items2:=([]:List Value).toArray) p1.isList p2.isList (by simp) hu X.prog X.w X.xe _ ⟨.bl true,H,I,rfl,q⟩
def z9 (K:PySem.W.Frag):R2:=λx y H Q=>XD x y H Q \/ Yp K x y H Q
theorem NV (hu:X.A.units<cLine):aN X (compareOp .NotEq) (z9 X.K):=TH.or (R7 hu)
noncomputable def Kt:D->D->Option Res
 |.int i,.int j=>some (.old (.bl (!decide (i=j))))
 |.str i,.str j=>some (.old (.bl (!decide (i=j))))
 |.lst l,.lst []=>some (.old (.bl (!l.isEmpty)))
 |_,_=>none
theorem abW:bK (z9 K) Kt:=by
 intro F H x y v w Q s sub rx ry e k;unfold Kt at e;split at e
 ·rename_i i j;cases e;cases (show v=.int i from rx);cases (show w=.int j from ry);exact .inl ⟨rfl,k _ _ ⟨rfl,by show _=_;simp⟩⟩
 ·rename_i i j;cases e;cases (show v=.str i from rx);cases (show w=.str j from ry);exact .inl ⟨rfl,k _ _ ⟨rfl,by show _=_;simp⟩⟩
 ·rename_i l;cases e;obtain⟨a,vs,rfl,h1,h2⟩:=rx;obtain⟨b,ws,rfl,h3,h4⟩:=ry;cases (show ws=[] from h4);exact .inr ⟨a,b,vs,rfl,rfl,.of h1,.of h3,k _ _ ⟨rfl,by show _=_;rw[h2.isEmpty]⟩⟩
 ·cases e
def Yq (K:PySem.W.Frag) (vs:List V) (H:Hp) (Q:VK):Prop:=∃ (p:Addr) (bs:List Bool),vs=[.ref p] /\ H p=some (.lst (bs.map V.bl)) /\ Q (.bl (bs.all id)) H
theorem GY (hc:X.calm=true):eE X (.builtin "all") (Yq X.K):=by
 intro pins s σ H xs us Q I rv h;obtain⟨p,bs,rfl,hp,q⟩:=h;obtain⟨u,rfl,ru⟩:=Vals.one rv;cases ru;obtain⟨its,r1,p1,z1⟩:=I.list (aS.of (K:=X.K) hp);have hl:=p1.isList;have pS:p<s.heap.objs.size:=by obtain⟨_,e,_⟩:=hl;exact aM e
 have hlen:bs.length=its.length:=by have:=r1.length;simpa using this
 refine call_all_walk (vA hl ?_);refine⟨s.heap.objs.size,[s.heap.objs.size,p],[s.heap.objs.size],its.toArray.size,_,_,λi=>(bs[i]?).getD true,rfl,Walks.list (A:=X.A.in1) (I.ok.hd hc) _ p (bH pS) its.toArray,
  ⟨⟨_,aU _ rfl,rfl,rfl⟩,hl.push _⟩,λi v s' Q' E' hP hQ=>?_,λh' tk hk=>?_⟩
 ·have yd:its[i]?=some v:=by simpa using hP
  have hi:i<bs.length:=by rw[hlen];exact(List.getElem?_eq_some_iff.mp yd).1
  obtain⟨w,e1,e2⟩:=r1.get (i:=i) (x:=V.bl bs[i]) (by simp[hi]);rw[yd]at e1;cases e1;cases e2;simp only[bI hi,zu]at hQ;exact nM hQ
 ·have e:((List.range its.toArray.size).all λi=>(bs[i]?).getD true)=bs.all id:=by
   rw[aT,<-hlen];exact LSm.range_all bs
  rw[e];exact⟨.bl _,H,I.kept (t':=tk) (Xe hk),rfl,q⟩
noncomputable def nC:List D->Option (List Bool)
 |[]=>some []
 |.bl i::l=>(nC l).map λt=>i::t
 |_=>none
theorem ao.Ku {F:Hp}:∀ {l:List D}{vs:List V}{ns:List Bool},ao F l vs->nC l=some ns->vs=ns.map V.bl
 |[],_,_,h,e=>by cases e;exact h
 | .bl i::l,_,ns,h,e=>by
   obtain⟨v,r,q,h1,h2⟩:=h;unfold nC at e;cases e2:nC l with
   |none=>rw[e2]at e;cases e
   | some t =>
     rw[e2]at e;cases e;rw[q,h2.Ku e2,show v=.bl i from h1];rfl
 |.non::l,_,_,_,e=>by cases e
 |.int _::l,_,_,_,e=>by cases e
 |.str _::l,_,_,_,e=>by cases e
 |.tup _::l,_,_,_,e=>by cases e
 |.lst _::l,_,_,_,e=>by cases e
 |.ah _::l,_,_,_,e=>by cases e
def bP:List D->Option Res
 |[.lst l]=>(nC l).map λbs=>.old (.bl (bs.all id))
 |_=>none
theorem abX:dW (Yq K) bP:=by
 intro F H xs vs Q s sub rx e k;unfold bP at e;split at e
 ·rename_i l;obtain⟨v,t,rfl,⟨a,us,rfl,h1,h2⟩,rt⟩:=rx;cases (show t=[] from rt);cases e1:nC l with
  |none=>rw[e1]at e;cases e
  | some bs =>
    rw[e1]at e;cases e;have q1:=h2.Ku e1;subst q1;exact⟨a,bs,rfl,h1,k _ _ ⟨rfl,rfl⟩⟩
 ·cases e
theorem abY:dW (λxs H Q=>∃ p ys,xs=[.ref p] /\ ((aS K H p ys /\ ∀ l,H l=none->Q (.ref l) (upd H l (.tup ys))) \/ (aV K H p ys /\ Q (.ref p) H)))
 (λxs=>match xs with|[.lst l]=>some (.tup l)|[.tup l]=>some (.tup l)|_=>none):=by
 intro F H xs vs Q s sub rx e k;dsimp only at e;split at e
 ·rename_i l;cases e;obtain⟨v,t,rfl,⟨a,us,rfl,h1,h2⟩,rt⟩:=rx;cases (show t=[] from rt);exact⟨a,us,rfl,.inl ⟨.of h1,λp hp=>k _ _ (.inr ⟨p,us,rfl,hp,rfl,h2⟩)⟩⟩
 ·rename_i l;cases e;obtain⟨v,t,rfl,⟨a,us,rfl,h1,h2⟩,rt⟩:=rx;cases (show t=[] from rt);exact⟨a,us,rfl,.inr ⟨.of (sub _ _ h1),k _ _ (.inl ⟨rfl,a,us,rfl,h1,h2⟩)⟩⟩
 ·cases e
noncomputable def kH:List D->Option Res:=λxs=>match xs with|[.lst l]=>some (.tup l)|[.tup l]=>some (.tup l)|_=>none
noncomputable def tF:List D->Option Res:=λxs=>match xs with|[.lst l]=>some (.lst l)|[.tup l]=>some (.lst l)|_=>none
theorem abZ:dW (λxs H Q=>∃ p ys,xs=[.ref p] /\ (aS K H p ys \/ aV K H p ys) /\ ∀ l,H l=none->Q (.ref l) (upd H l (.lst ys))) tF:=by
 intro F H xs vs Q s sub rx e k;unfold tF at e;split at e
 ·rename_i l;cases e;obtain⟨v,t,rfl,⟨a,us,rfl,h1,h2⟩,rt⟩:=rx;cases (show t=[] from rt);exact⟨a,us,rfl,.inl (.of h1),λp hp=>k _ _ ⟨p,us,rfl,hp,rfl,h2⟩⟩
 ·rename_i l;cases e;obtain⟨v,t,rfl,⟨a,us,rfl,h1,h2⟩,rt⟩:=rx;cases (show t=[] from rt);exact⟨a,us,rfl,.inr (.of (sub _ _ h1)),λp hp=>k _ _ ⟨p,us,rfl,hp,rfl,h2⟩⟩
 ·cases e
noncomputable def maxD:List D->Option Res:=λxs=>match xs with|[.int i,.int j]=>some (.old (.int (if j>i then j else i)))|_=>none
theorem ab0:dW (λxs H Q=>∃ i j,xs=[.int i,.int j] /\ Q (.int (if j>i then j else i)) H) maxD:=by
 intro F H xs vs Q s sub rx e k;unfold maxD at e;split at e
 ·rename_i i j;cases e;obtain⟨v,t,rfl,h1,v2,t2,rfl,h2,rt⟩:=rx;cases (show t2=[] from rt);cases (show v=.int i from h1);cases (show v2=.int j from h2);exact⟨i,j,rfl,k _ _ ⟨rfl,rfl⟩⟩
 ·cases e
noncomputable def minD:List D->Option Res:=λxs=>match xs with|[.int i,.int j]=>some (.old (.int (if j<i then j else i)))|_=>none
theorem ab1:dW (λxs H Q=>∃ i j,xs=[.int i,.int j] /\ Q (.int (if j<i then j else i)) H) minD:=by
 intro F H xs vs Q s sub rx e k;unfold minD at e;split at e
 ·rename_i i j;cases e;obtain⟨v,t,rfl,h1,v2,t2,rfl,h2,rt⟩:=rx;cases (show t2=[] from rt);cases (show v=.int i from h1);cases (show v2=.int j from h2);exact⟨i,j,rfl,k _ _ ⟨rfl,rfl⟩⟩
 ·cases e
end
end L2.DL
namespace HT
theorem mH {t sl:Addr}{vl vu:Value}{lo hi:Option Int}(ht:IsTup s.heap t items) (hs:s.heap.IsSliceOf sl vl vu .none) (pl:IsPart vl lo) (pu:IsPart vu hi)
 (hw:aF items.size 0 lo=0 /\ aF items.size items.size hi=items.size) (h:Q (.ref t) s):wpAny (model prog w) A (getItem (.ref t) (.ref sl)) Q E s:=by
 obtain⟨os,uz,zN,eS⟩:=id hs;have IW:s.TypeIs (.ref sl) "slice":=⟨os,uz,zN⟩;unfold getItem;try with_reducible refine cP ?_
 first|refine ae (ag ?_)|skip
 refine ae (Vs ht.typeIs (by decide) ?_);refine ae (pz (name:=Str.ofString "__getitem__") ht.typeIs vL
  (dR vL ht.typeIs Wt ?_ (Wu _ _)))
 show wpAny _ _ (Builtin.Tuple.tupleItemsOf (.ref t) >>= _) _ _ s;refine ae (Wv ht ?_);refine ae (vC IW ?_);rw[if_pos (by decide)];refine ae (jB hs pl pu ?_);have ab2:((((aF items.size 0 lo:Nat):Int)==0&&(1:Int)==1&&(aF items.size items.size hi-aF items.size 0 lo)==items.size)=true):=by
  rw[hw.1,hw.2];simp
 show wpAny _ _ (if (((aF items.size 0 lo:Nat):Int)==0&&(1:Int)==1&&(aF items.size items.size hi-aF items.size 0 lo)==items.size)=true then _ else _) _ _ s;rw[if_pos ab2];refine ae (m:=Builtin.Tuple.tupleIsExact (.ref t)) ?_;unfold Builtin.Tuple.tupleIsExact;refine ae (vC ht.typeIs (ag ?_));rw[if_pos (by decide)];exact ae (k6 (ag ⟨_,rfl,ag h⟩))
theorem j9 {α β:Type}{f g:α->Option β}:∀ {l:List α},(∀ x∈l,f x=g x)->l.filterMap f=l.filterMap g
 |[],_=>rfl
 | x::l,h=>by
   rw[k9,k9,h x bZ,j9 λy hy=>h y (bS _ hy)]
theorem Ae (n:Nat):sliceRange ((n:Int)-1) (-1) (-1)=(List.range n).map λk=>n-1-k:=by
 have e:(if (-1:Int)>0 then (if (n:Int)-1 < -1 then (-1-((n:Int)-1)+-1-1) / -1 else 0) else (if (n:Int)-1>-1 then ((n:Int)-1 - -1 - -1-1) / (- -1) else 0):Int).toNat=n:=by
  rw[if_neg (by decide)];split
  ·have:((n:Int)-1 - -1 - -1-1) / (- -1)=n:=by
    rw[show (- -1:Int)=1 by decide,WJ];omega
   rw[this];rfl
  ·omega
 show (List.range (if (-1:Int)>0 then (if (n:Int)-1 < -1 then (-1-((n:Int)-1)+-1-1) / -1 else 0) else (if (n:Int)-1>-1 then ((n:Int)-1 - -1 - -1-1) / (- -1) else 0):Int).toNat).map _=_;rw[e];refine Hx λk hk=>?_;have:=List.mem_range.mp hk;omega
theorem AX (its:List Value):slicePick its.toArray none none (some (-1))=its.reverse.toArray:=by
 unfold slicePick;have e:sliceBounds none none (some (-1)) its.toArray.size=((its.length:Int)-1,-1,-1):=by
  simp[sliceBounds]
 rw[e];congr 1;show (sliceRange ((its.length:Int)-1) (-1) (-1)).filterMap (its.toArray[·]?)=_;rw[Ae,V4];apply vG;intro i;have h1:(List.range its.length).filterMap ((λx=>its.toArray[x]?)∘λk=>its.length-1-k)=(List.range its.length).map λk=>(its[its.length-1-k]?).getD .none:=by
  rw[<-List.filterMap_eq_map];refine j9 λk hk=>?_;have zW:=List.mem_range.mp hk;have pS:its.length-1-k<its.length:=by omega
  simp[pS]
 rw[h1,dS];by_cases hi:i<its.length
 ·have pS:its.length-1-i<its.length:=by omega
  rw[List.getElem?_range hi,List.getElem?_reverse hi];simp[pS]
 ·rw[rq (by simpa using t8 hi),rq (by simpa using t8 hi)];rfl
end HT
namespace L2.DL
section
variable {a b : Expr} {mb mc : DE W} {p p2 : Pos} {lo hi : Option Expr}
def Yr (K:PySem.W.Frag):V->Option Int->Option Int->Hp->VK->Prop:=λx lo hi H Q=>∃ a xs,x=.ref a /\ aV K H a xs /\
 (HT.aF xs.length 0 lo=0 /\ HT.aF xs.length xs.length hi=xs.length) /\ Q (.ref a) H
theorem NW:rH X (Yr X.K):=by
 intro pins s σ H x v vl vu lo hi sl Q I rx hs pl pu h;obtain⟨a,xs,rfl,hx,hw,q⟩:=h;cases rx;obtain⟨its,r,ht,hz⟩:=I.tuple hx;have hlen:its.toArray.size=xs.length:=by rw[aT];exact r.length.symm
 exact⟨"tuple",_,vL.lookup,ht.typeIs,HT.mH ht hs pl pu (by rw[hlen];exact hw) ⟨.ref a,H,I,rfl,q⟩⟩
def Ys (K:PySem.W.Frag):V->Option Int->Option Int->Hp->VK->Prop:=λx lo hi H Q=>XM K x lo hi H Q \/ Yr K x lo hi H Q \/ XU K x lo hi H Q
theorem R8:rH X (Ys X.K):=Rw.or (NW.or Nz)
def cutD (xs:List D) (lo hi:Option Int):List D:=(xs.drop (HT.aF xs.length 0 lo)).take (HT.aF xs.length xs.length hi-HT.aF xs.length 0 lo)
theorem FD (h:ao F l vs) (lo hi:Option Int):ao F (cutD l lo hi) (sW vs lo hi):=by
 unfold cutD sW;rw[h.length];exact(h.drop _).take _
def qO:D->Option Int->Option Int->Option Res
 |.tup l,lo,hi=>some (.tup (cutD l lo hi))
 |.lst l,lo,hi=>some (.lst (cutD l lo hi))
 |_,_,_=>none
theorem ab3 {x:D}{lo hi:Option Int}{Q:VK}{s:Res}(sub:Sub F H) (rx:kR F H x v) (e:qO x lo hi=some s) (k:∀ u H',uE F H s u H'->Q u H'):Ys K v lo hi H Q:=by
 cases x with
 | tup l =>
   cases e;obtain⟨a,vs,rfl,h1,h2⟩:=rx;by_cases hw:HT.aF vs.length 0 lo=0 /\ HT.aF vs.length vs.length hi=vs.length
   ·refine .inr (.inl ⟨a,vs,rfl,.of (sub _ _ h1),hw,k _ _ (.inl ⟨rfl,?_⟩)⟩);have e:cutD l lo hi=l:=by
     unfold cutD;rw[h2.length,hw.1,hw.2,zc,Hy,<-h2.length,xj]
    rw[e];exact⟨a,vs,rfl,h1,h2⟩
   ·exact .inl ⟨a,vs,rfl,.of (sub _ _ h1),hw,λp hp=>k _ _ (.inr ⟨p,_,rfl,hp,rfl,FD h2 lo hi⟩)⟩
 | lst l =>
   cases e;obtain⟨a,vs,rfl,h1,h2⟩:=rx;exact .inr (.inr ⟨a,vs,rfl,.of h1,λp hp=>k _ _ ⟨p,_,rfl,hp,rfl,FD h2 lo hi⟩⟩)
 |non=>cases e
 |bl _=>cases e
 |int _=>cases e
 |str _=>cases e
 |ah _=>cases e
abbrev ab4:Hp->List Addr->Option Int->Option Int->Prop:=λ_ _ a b=>a=b
def ab5 (T:Fr) (Z:Xs) (m:DE (Option Int)):TO:=λσ H Q=>∃ F r env bx,Rel T F r σ H env bx /\ End T Z ab4 F r σ env Q (m env bx)
def ye (X:Cx) (T:Fr) (Z:Xs) (e:Option Expr) (m:DE (Option Int)):Prop:=PO X e (ab5 T Z m)
theorem PO.imp {e:Option Expr}{t t':TO}(h:PO X e t) (f:∀ σ H Q,t' σ H Q->t σ H Q):PO X e t':=λpins s σ H Q I q=>h pins s σ H Q I (f σ H Q q)
noncomputable def c8:DE (Option Int):=λ_ bx=>.val none bx
def cQ (m:DE W):DE (Option Int):=λenv bx=>fm (m env bx) λw bx1=>match w with|.d (.int i)=>.val (some i) bx1|_=>.bad
theorem R9:ye X T Z none c8:=PO.imp Nw λσ H Q ⟨F,r,env,bx,R,h⟩=>h F r none H (.refl F r) R rfl
theorem Ll (h:PD X T Z e ma):ye X T Z (some e) (cQ ma):=by
 refine PO.imp (Nx h) λσ H Q ⟨F,r,env,bx,R,h⟩=>?_;refine⟨F,r,env,bx,R,End.bind h λw bx1 F1 r1 v H1 g1 R1 d1 h1=>?_⟩;split at h1
 ·rename_i i;exact⟨i,d1,h1 F1 r1 _ H1 (.refl F1 r1) R1 rfl⟩
 ·exact h1.elim
def dJ (bo:Bool) (m:DE W) (l u:DE (Option Int)):DE W:=λenv bx=>fm (m env bx) λx bx1=>fm (l env bx1) λi bx2=>fm (u env bx2) λj aD=>bJ bo ((aJ aD x).bind λd=>qO d i j) aD
theorem Lm {l u:DE (Option Int)}(bo:Bool) (ha:PD X T Z e ma) (hl:ye X T Z lo l) (hu:ye X T Z hi u):PD X T Z (.Subscript e (.Slice lo hi none p2) pos) (dJ bo ma l u):=by
 refine PE.imp (J2 R8 ha hl hu) λσ H Q ⟨F,r,env,bx,R,h⟩=>?_;refine⟨F,r,env,bx,R,End.bind h λx bx1 F1 r1 v H1 g1 R1 d1 h1=>?_⟩;refine⟨F1,r1,env,bx1,R1,End.bind h1 λi bx2 F2 r2 i' H2 g2 R2 d2 h2=>?_⟩;refine⟨F2,r2,env,bx2,R2,End.bind h2 λj aD F3 r3 j' H3 g3 R3 d3 h3=>?_⟩;subst d2 d3;cases e1:aJ aD x with
 |none=>rw[e1]at h3;exact h3.elim
 | some d =>
   rw[e1]at h3;simp only[ba]at h3;cases e2:qO d i j with
   |none=>rw[e2]at h3;exact h3.elim
   | some s =>
     rw[e2]at h3;exact ab3 R3.fh (R3.pQ (g3.den (g2.den d1)) e1) e2 λu H' k=>ig R3 h3 k
theorem Sb {te:TE}{i:Int}{q1 q2:Pos}(he:PE X e te):PE X (.Subscript e (.Slice none none (some (.UnaryOp .USub (.Constant (.int 1) j q1) q2)) p2) pos)
 (λσ H Q=>te σ H λx H1=>∃ a xs,x=.ref a /\ aS X.K H1 a xs /\ ∀ p,H1 p=none->Q (.ref p) (upd H1 p (.lst xs.reverse))):=by
 intro pins s σ H Q I h;refine Subscript_ (ai (he pins s σ H _ I h) λv s1 ⟨x,H1,I1,r1,q1⟩=>?_);refine Vu ?_;rw[Hd];refine ag (ag ?_);rw[Vt];refine ai (Ps (X:=X) JU JN pins s1 σ H1 (λy H2=>y=.int (-1) /\ H2=H1) I1 ⟨1,rfl,rfl,rfl⟩) λvs s3 ⟨y,H3,I3,r3,e1,e2⟩=>?_;subst e1 e2;obtain⟨t,rfl⟩:=r3;obtain⟨a,xs,rfl,hx,q⟩:=q1;cases r1;have I4:Inv X pins σ H3 { s3 with heap:=s3.heap.push { cls:=.type "slice",data:=.fields #[.none,.none,.int (-1) t] } }:=I3.kept (t':=s3.toks) λb ob q=>aC _ q;obtain⟨its,r,ht,hz⟩:=I4.list hx;have hlen:=r.length;have hg:wpAny (model X.prog X.w) X.A (getItem (.ref a) (.ref s3.heap.objs.size)) (EP X pins σ Q) X.xe { s3 with heap:=s3.heap.push { cls:=.type "slice",data:=.fields #[.none,.none,.int (-1) t] } }:=by
  refine Vv (lo:=none) (hi:=none) (st:=some (-1)) ht.isList (Heap.IsSliceOf.new ..) .none .none (.int (-1) t) (by simp) ?_ (by rw[aT]<;>omega);rw[HT.AX];refine⟨.ref _,_,I4.laid (t':=s3.toks) (o:=.lst xs.reverse) (λb ob q=>aC _ q) (aq _) ?_,rfl,q _ (I4.ak.fresh (aq _))⟩;exact⟨by rw[List.length_reverse];exact hz,_,0,r.reverse,aU _ rfl⟩
 show wpAny (model X.prog X.w) X.A (subscriptTail e (.Slice none none (some (.UnaryOp .USub (.Constant (.int 1) j _) q2)) p2) (.ref a) (.ref s3.heap.objs.size)) (EP X pins σ Q) X.xe _;exact HZ (ops:=[.ref a,.ref s3.heap.objs.size]) ht.isList.typeIs slot_list_getitem.lookup hg (by with_unfolding_all rfl)
def uM (bo:Bool) (m:DE W):DE W:=λenv bx=>fm (m env bx) λx bx1=>bJ bo ((aJ bx1 x).bind λd=>match d with|.lst l=>some (.lst l.reverse)|_=>none) bx1
theorem Sc {q1 q2:Pos}(bo:Bool) (ha:PD X T Z e ma):PD X T Z (.Subscript e (.Slice none none (some (.UnaryOp .USub (.Constant (.int 1) j q1) q2)) p2) pos) (uM bo ma):=by
 refine PE.imp (Sb (i:=0) ha) λσ H Q ⟨F,r,env,bx,R,h⟩=>?_;refine⟨F,r,env,bx,R,End.bind h λx bx1 F1 r1 v H1 g1 R1 d1 h1=>?_⟩;cases e1:aJ bx1 x with
 |none=>rw[e1]at h1;exact h1.elim
 | some d =>
   rw[e1]at h1;cases d with
   | lst l =>
     obtain⟨a,vs,rfl,k1,k2⟩:=R1.pQ d1 e1;exact⟨a,vs,rfl,.of k1,λp hp=>ig R1 h1 ⟨p,_,rfl,hp,rfl,k2.reverse⟩⟩
   |_=>exact h1.elim
def qP (m:DE W):DE W:=λenv bx=>fm (m env bx) λw bx1=>match w with|.d (.int i)=>.val (.d (.int (-i))) bx1|_=>.bad
theorem Sd (ha:PD X T Z a ma):PD X T Z (.UnaryOp .USub a pos) (qP ma):=by
 refine PE.imp (Ps JU ha) λσ H Q ⟨F,r,env,bx,R,h⟩=>?_;refine⟨F,r,env,bx,R,End.bind h λw bx1 F1 r1 v H1 g1 R1 d1 h1=>?_⟩;split at h1
 ·rename_i i;exact⟨i,d1,h1 F1 r1 _ H1 (.refl F1 r1) R1 rfl⟩
 ·exact h1.elim
end
end L2.DL
namespace HT
theorem Co {l:Addr}{vs:List Value}{Q:List Value->Shared->Prop}(hl:IsTup s.heap l vs.toArray) (hz:vs.length<=sizeLine)
 (h:Q vs { s with heap:=(s.heap.push (seqObj "list" #[] 0)).update s.heap.objs.size (Obj.mapSeq (·++vs.toArray)) }):wpAny (model prog w) A (collect (.ref l)) Q E s:=by
 obtain⟨ob,ho,uA,k,pT⟩:=id hl;unfold collect;refine ae (yS (qc entry_proto_collect' (ae (yT (ag ⟨Xf _ (by decide +kernel),qc entry_list_iadd' ?_⟩)))));show wpAny _ _ (Builtin.List.listExtendWith (.ref s.heap.objs.size) (.ref l) (.ref s.heap.objs.size)) _ _ { s with heap:=s.heap.push (seqObj "list" #[] 0) };unfold Builtin.List.listExtendWith;have pU:(s.heap.push (seqObj "list" #[] 0)).get? l=some ob:=aC _ ho;refine ae (vC (T:="tuple") ⟨ob,pU,uA⟩ ?_);rw[if_pos (by rw[show (Value.type "tuple"==Value.type "tuple")=true by decide,Bool.or_true])];refine ae (Wx pU pT (ae (Wx (xs:=#[]) (n:=0) (aU _ rfl) rfl ?_)));rw[if_neg (by simp)];refine ae (listUpdate_at (xs:=#[]) (n:=0) (aU _ rfl) rfl (ag ?_) (cG _) (by show (#[]++vs.toArray).size<=sizeLine+1;simp only[Array.size_append,aT,nO];omega));refine ae (vz (Wy (aU _ rfl) _) (show wpAny _ _ (pure ((#[]:Array Value)++vs.toArray).toList) Q E _ from ?_));rw[show ((#[]:Array Value)++vs.toArray).toList=vs by simp];exact ag h
theorem Af {l:Addr}{vs:List Value}(hl:IsTup s.heap l vs.toArray) (hI:IntsAre vs ns) (ka:vs.length<64)
 (h:∀ (out:Array Value) (aW:List Int),IntsAre out.toList aW->aW.Perm ns->aW.Pairwise (·<=·)->Q (.ref (s.heap.objs.size+1)) { s with heap:=sortedAll s.heap vs out }):wpAny (model prog w) A (call (.builtin "sorted") [.ref l]) Q E s:=by
 refine WR Wz WA WB (WC _) ?_;unfold Builtin.«sorted»;refine ae (m:=checkCount "sorted" 1 1 _) (ag (ae (Co hl (bR (nN ka) (by decide)) (ae (yT ?_)))));have hsz:((s.heap.push (seqObj "list" #[] 0)).update s.heap.objs.size (Obj.mapSeq (·++vs.toArray))).objs.size=s.heap.objs.size+1:=by rw[Heap.size_update,rB]
 have zE:(((s.heap.push (seqObj "list" #[] 0)).update s.heap.objs.size (Obj.mapSeq (·++vs.toArray))).push (seqObj "list" vs.toArray 0)).get? (s.heap.objs.size+1)=some (seqObj "list" vs.toArray 0):=by rw[<-hsz];exact aU _ rfl
 show wpAny _ _ _ _ _ { s with heap:=((s.heap.push (seqObj "list" #[] 0)).update s.heap.objs.size (Obj.mapSeq (·++vs.toArray))).push (seqObj "list" vs.toArray 0) };rw[hsz];exact ae (cP (dR WD ⟨_,zE,rfl⟩ WE (WG zE hI ka λout aW a1 a2 a3=>⟨_,rfl,ag ⟨_,rfl,h out aW a1 a2 a3⟩⟩) (WH _)))
end HT
namespace L2.DL
noncomputable def sortI (ns:List Int):List Int:=ns.mergeSort λa b=>decide (a<=b)
theorem gm (ns:List Int):(sortI ns).Perm ns:=List.mergeSort_perm ns _
theorem gE (ns:List Int):(sortI ns).Pairwise (·<=·):=by
 have h:=List.pairwise_mergeSort (le:=λa b:Int=>decide (a<=b)) (λa b c h1 h2=>by simp at *;omega) (λa b=>by simp;omega) ns;exact h.imp λq=>by simpa using q
theorem jh {a b:List Int}(p:a.Perm b) (ha:a.Pairwise (·<=·)) (hb:b.Pairwise (·<=·)):a=b :=
 p.eq_of_pairwise (λx y _ _ h1 h2=>Int.le_antisymm h1 h2) ha hb
section
variable {a b : Expr} {mb mc : DE W} {p p2 : Pos}
def Ea (K:PySem.W.Frag) (vs:List V) (H:Hp) (Q:VK):Prop:=∃ (p:Addr) (ns:List Int),vs=[.ref p] /\ (aS K H p (ns.map V.int) \/ aV K H p (ns.map V.int)) /\ ns.length<64 /\ ∀ l,H l=none->Q (.ref l) (upd H l (.lst ((sortI ns).map V.int)))
theorem lI:∀ {us:List Value}{ns:List Int},IntsAre us ns->Vals (ns.map V.int) us
 |_,_,.nil=>.nil
 |_,_,.cons n t h=>.cons ⟨t,rfl⟩ (lI h)
theorem GZ:eE X (.builtin "sorted") (Ea X.K):=by
 intro pins s σ H xs us Q I rv h;obtain⟨p,ns,rfl,hp,ka,q⟩:=h;obtain⟨u,rfl,ru⟩:=Vals.one rv;cases ru;have fin:∀ (its:List Value) (out:Array Value) (aW:List Int),IntsAre out.toList aW->aW.Perm ns->aW.Pairwise (·<=·)->EP X pins σ Q (.ref (s.heap.objs.size+1)) { s with heap:=sortedAll s.heap its out }:=λits out aW a1 a2 a3=>by
  obtain⟨k,he⟩:=sortedAll_at s.heap its out;have e:aW=sortI ns:=jh (a2.trans (gm ns).symm) a3 (gE ns);subst e;have hf:H (s.heap.objs.size+1)=none:=I.ak.fresh (sD _);have ll:((sortI ns).map V.int).length<=sizeLine:=by
   rw[aA,(gm ns).length_eq];exact bR (nN ka) (by decide)
  refine⟨.ref (s.heap.objs.size+1),_,I.laid (t':=s.toks) (o:=.lst ((sortI ns).map V.int)) (λb ob q=>sortedAll_old q) (sD _) ?_,rfl,q _ hf⟩;exact⟨ll,out.toList,k,lI a1,he⟩
 rcases hp with hp|hp
 ·obtain⟨its,r1,p1,z1⟩:=I.list hp;have hl:ns.length=its.length:=by have:=r1.length;simpa using this
  exact sorted_ints p1.isList (jJ r1) (by omega) λout aW=>fin its out aW
 ·obtain⟨its,r1,p1,z1⟩:=I.tuple hp;have hl:ns.length=its.length:=by have:=r1.length;simpa using this
  exact HT.Af p1 (jJ r1) (by omega) λout aW=>fin its out aW
def yf:List D->Option Res
 |[.lst l]=>(intsOf l).bind λns=>if ns.length<64 then some (.lst ((sortI ns).map D.int)) else none
 |[.tup l]=>(intsOf l).bind λns=>if ns.length<64 then some (.lst ((sortI ns).map D.int)) else none
 |_=>none
theorem lb {F:Hp}:∀ (ns:List Int),ao F (ns.map D.int) (ns.map V.int)
 |[]=>rfl
 |n::ns=>.cons rfl (lb ns)
theorem ab6:dW (Ea K) yf:=by
 intro F H xs vs Q s sub rx e k;unfold yf at e;split at e
 ·rename_i l;obtain⟨v,t,rfl,⟨a,us,rfl,h1,h2⟩,rt⟩:=rx;cases (show t=[] from rt);cases e1:intsOf l with
  |none=>rw[e1]at e;cases e
  | some ns =>
    rw[e1]at e;simp only[ba]at e;split at e
    ·rename_i ka;cases e;have q1:=h2.ints e1;subst q1;exact⟨a,ns,rfl,.inl (.of h1),ka,λl hl=>k _ _ ⟨l,_,rfl,hl,rfl,lb _⟩⟩
    ·cases e
 ·rename_i l;obtain⟨v,t,rfl,⟨a,us,rfl,h1,h2⟩,rt⟩:=rx;cases (show t=[] from rt);cases e1:intsOf l with
  |none=>rw[e1]at e;cases e
  | some ns =>
    rw[e1]at e;simp only[ba]at e;split at e
    ·rename_i ka;cases e;have q1:=h2.ints e1;subst q1;exact⟨a,ns,rfl,.inr (.of (sub _ _ h1)),ka,λl hl=>k _ _ ⟨l,_,rfl,hl,rfl,lb _⟩⟩
    ·cases e
 ·cases e
def n8 (m:DE W) (k:DE W):DE W:=λenv bx=>fm (m env bx) λx bx1=>match x with
 | .b n=>(match bx1[n]? with
   | some (.lst _)=>fm (k env bx1) λy bx2=>(match y,bx2[n]? with
     |.d d,some (.lst l)=>if l.length<sizeLine then .val (.d .non) (bx2.set n (.lst (l++[d]))) else .bad
     |_,_=>.bad)
   |_=>.bad)
 |_=>.bad
theorem T1 {Q:VK}(h:tD T Z (n8 ma mb) σ H Q):xE X.K "list" XX (tD T Z ma) (vX (tD T Z mb) xC) σ H Q:=by
 obtain⟨F,r,env,bx,R,h⟩:=h;refine⟨F,r,env,bx,R,End.bind h λx bx1 F1 r1 v H1 g1 R1 d1 h1=>?_⟩;cases x with
 |d _=>exact h1.elim
 |s _=>exact h1.elim
 |x _=>exact h1.elim
 |t _=>exact h1.elim
 |m _=>exact h1.elim
 | b n =>
   simp only at h1;obtain⟨a,rfl,ha⟩:=d1;obtain⟨c,hc,kc⟩:=R1.dH ha;rw[hc]at h1;cases c with
   |ah _=>exact h1.elim
   |dead=>exact h1.elim
   |dT _=>exact h1.elim
   | lst l0 =>
     obtain⟨_,kW,k0,_⟩:=kc;refine⟨.inl ⟨rfl,kW,aS.of k0⟩,?_⟩;refine⟨F1,r1,env,bx1,R1,End.bind h1 λy bx2 F2 r2 u H2 g2 R2 d2 h2=>?_⟩;obtain⟨t,et⟩:=g2.p;have pV:r2[n]?=some a:=by rw[<-et,cn (List.getElem?_eq_some_iff.mp ha).1];exact ha
     obtain⟨c2,dG,pW⟩:=R2.dH pV;rw[dG]at h2;cases y with
     |b _=>exact h2.elim
     |s _=>exact h2.elim
     |x _=>exact h2.elim
     |t _=>exact h2.elim
     |m _=>exact h2.elim
     | d dd =>
       cases c2 with
       |ah _=>exact h2.elim
       |dead=>exact h2.elim
       |dT _=>exact h2.elim
       | lst l =>
         simp only at h2;split at h2
         ·rename_i hz;obtain⟨hF,vs,k1,k2⟩:=pW;refine⟨a,vs,u,rfl,rfl,k1,by rw[<-k2.length];exact hz,?_⟩;exact h2 F2 r2 _ _ (.refl F2 r2) (R2.write pV hF ⟨hF,vs++[u],fC,k2.append (.cons d2 .nil)⟩) rfl
         ·exact h2.elim
end
end L2.DL
namespace L2
section
variable {κ : Type} [DecidableEq κ]
noncomputable def cx (af:List (κ×V)) (k:κ):Option V:=(af.find? λkv=>decide (kv.1=k)).map (·.2)
noncomputable def putK (af:List (κ×V)) (k:κ) (v:V):List (κ×V):=
 if (af.any λkv=>decide (kv.1=k))=true then af.map (λkv=>if kv.1=k then (kv.1,v) else kv) else af++[(k,v)]
theorem lc {p:κ×V}{r:List (κ×V)}{k:κ}(e:p.1=k):cx (p::r) k=some p.2:=by simp[cx,pD,e]
theorem jC {p:κ×V}{r:List (κ×V)}{k:κ}(e:¬ p.1=k):cx (p::r) k=cx r k:=by simp[cx,pD,e]
theorem Ag (k:κ):∀ af:List (κ×V),(af.any λkv=>decide (kv.1=k))=(cx af k).isSome
 |[]=>rfl
 | p::r=>by
   rw[rn];by_cases e:p.1=k
   ·simp only[lc e,decide_eq_true e,Bool.true_or,Option.isSome_some]
   ·rw[jC e,decide_eq_false e,Bool.false_or];exact Ag k r
theorem ji (af:List (κ×V)) (k:κ) (v:V):(putK af k v).length<=af.length+1:=by
 unfold putK;split
 ·rw[aA];omega
 ·rw[bM,a9,nO];omega
theorem e9.Kv {o:Option V}{u:Option Value}(r:e9 o u):o.isSome=u.isSome:=by
 cases o with
 | none=>cases u with
   |none=>rfl
   |some _=>exact(show False from r).elim
 | some _=>cases u with
   |none=>exact(show False from r).elim
   |some _=>rfl
theorem KV.val {af:List (κ×V)}{vs:List (κ×Value)}(r:KV af vs) (k:κ):e9 (cx af k) (valueAt vs k):=by
 unfold KV at r;induction r with
 |nil=>exact True.intro
 | @cons p q ps qs h t ih =>
   obtain⟨h1,h2⟩:=h;by_cases e:p.1=k
   ·have e':q.1=k:=h1.symm.trans e;have b:valueAt (q::qs) k=some q.2:=by simp[valueAt,pD,e']
    rw[lc e,b];exact h2
   ·have e':¬ q.1=k:=λz=>e (h1.trans z);have b:valueAt (q::qs) k=valueAt qs k:=by simp[valueAt,pD,e']
    rw[jC e,b];exact ih
theorem KV.any {af:List (κ×V)}{vs:List (κ×Value)}(r:KV af vs) (k:κ):(af.any λkv=>decide (kv.1=k))=vs.any λkv=>decide (kv.1=k):=by
 unfold KV at r;induction r with
 |nil=>rfl
 |cons h t ih=>rw[rn,rn,ih,h.1]
theorem KV.Kw {af:List (κ×V)}{vs:List (κ×Value)}(r:KV af vs) (k:κ) {y:V}(ry:RelV y u) :
 KV (af.map λkv=>if kv.1=k then (kv.1,y) else kv) (vs.map λkv=>if kv.1=k then (kv.1,u) else kv):=by
 unfold KV at r ⊢;induction r with
 |nil=>exact .nil
 | @cons p q ps qs h t ih =>
   rw[aQ,aQ];refine .cons ?_ ih;obtain⟨h1,h2⟩:=h;by_cases e:p.1=k
   ·rw[if_pos e,if_pos (h1.symm.trans e)];exact⟨h1,ry⟩
   ·rw[if_neg e,if_neg (λz=>e (h1.trans z))];exact⟨h1,h2⟩
theorem KV.put {af:List (κ×V)}{vs:List (κ×Value)}(r:KV af vs) (k:κ) {y:V}(ry:RelV y u):KV (putK af k y) (stored vs k u):=by
 unfold putK stored;rw[r.any k];by_cases e:(vs.any λkv=>decide (kv.1=k))=true
 ·rw[if_pos e,if_pos e];exact r.Kw k ry
 ·rw[if_neg e,if_neg e];exact Paired.snoc r ⟨rfl,ry⟩
theorem KV.length {af:List (κ×V)}{vs:List (κ×Value)}(r:KV af vs):af.length=vs.length:=Paired.length r
end
theorem Cp {k:Key}(r:RelV (kV k) u):(eD P w).is k u=true:=by
 cases k with
 |inl i=>obtain⟨t,e⟩:=(show ∃ t,u=Value.int i t from r);subst e;exact B9 P w i t
 |inr x=>obtain⟨t,e⟩:=(show ∃ t,u=Value.str x t from r);subst e;exact Ca P w x t
theorem Bd {P:Program}{w:World}:∀ {ks:List Key}{us:List Value},Vals (ks.map kV) us->ItemsAre (eD P w) ks us
 |[],_,r=>by rw[uc]at r;cases r;exact .nil
 | k::ks,_,r=>by
   rw[aQ]at r;cases r with
   |cons h t=>exact .cons (Cp h) (Bd t)
abbrev KT (H:Hp):List (List Key×V)->List (List Key×Addr×Value)->Prop:=Paired λp q=>p.1=q.1 /\ H q.2.1=some (.tup (p.1.map kV)) /\ RelV p.2 q.2.2
theorem KT.val (r:KT H af xs) (k:List Key):e9 (cx af k) ((atKey xs k).map (·.2)):=by
 induction r with
 |nil=>exact True.intro
 | @cons p q ps qs h t ih =>
   obtain⟨h1,_,h2⟩:=h;by_cases e:p.1=k
   ·have e':q.1=k:=h1.symm.trans e;have b:atKey (q::qs) k=some q.2:=by simp[atKey,pD,e']
    rw[lc e,b];exact h2
   ·have e':¬ q.1=k:=λz=>e (h1.trans z);have b:atKey (q::qs) k=atKey qs k:=by simp[atKey,pD,e']
    rw[jC e,b];exact ih
theorem KT.Kw (r:KT H af xs) (k:List Key) {y:V}(ry:RelV y u) :
 KT H (af.map λkv=>if kv.1=k then (kv.1,y) else kv) (xs.map (putAt k u)):=by
 induction r with
 |nil=>exact .nil
 | @cons p q ps qs h t ih =>
   rw[aQ,aQ];refine .cons ?_ ih;obtain⟨h1,h2,h3⟩:=h;unfold putAt;by_cases e:p.1=k
   ·rw[if_pos e,if_pos (h1.symm.trans e)];exact⟨h1,h2,ry⟩
   ·rw[if_neg e,if_neg (λz=>e (h1.trans z))];exact⟨h1,h2,h3⟩
theorem KT.put (r:KT H af xs) (k:List Key) {b:Addr}{y:V}(hb:H b=some (.tup (k.map kV))) (ry:RelV y u) :
 KT H (putK af k y) (storedH xs k b u):=by
 have e:(af.any λkv=>decide (kv.1=k))=(atKey xs k).isSome:=by
  rw[Ag,(r.val k).Kv,Wo]
 unfold putK storedH;rw[e];by_cases q:(atKey xs k).isSome=true
 ·rw[if_pos q,if_pos q];exact r.Kw k ry
 ·rw[if_neg q,if_neg q];exact Paired.snoc r ⟨rfl,hb,ry⟩
theorem KT.keeps (r:KT H af xs) (ht:∀ b ys,H b=some (.tup ys)->H' b=some (.tup ys)):KT H' af xs :=
 Paired.Ir r λ_ _ z=>⟨z.1,ht _ _ z.2.1,z.2.2⟩
theorem Pv {u:HO}(ok:bU P w H h) (e:Rd H a u):bE P w H h a u:=e.ok ok
theorem Cq {af:List (Key×V)}(ok:bU P w H h) (e:Rd H a (.dK af)):af.length<=sizeLine /\ (a==sysModules)=false /\ ∃ vs,KV af vs /\ h.DictOf (eD P w) a vs :=
 show bE P w H h a (.dK af) from Pv ok e
theorem Pw {af:List (Key×V)}(ok:bU P w H h) (e:H a=some (.dK af)):af.length<=sizeLine /\ (a==sysModules)=false /\ ∃ vs,KV af vs /\ h.DictOf (eD P w) a vs:=Cq ok (.inl e)
theorem Ah {ks:List Key}(ok:bU P w H h) (e:H a=some (.tup (ks.map kV))):(tupleKind (eD P w)).is h ks a:=by
 obtain⟨_,its,r,o,h1,h2,n,h3⟩:=(show bE P w H h a (.tup (ks.map kV)) from ok a _ e);exact⟨o,its.toArray,n,h1,h2,h3,by simpa using Bd r⟩
theorem Cr (ok:bU P w H h) (e:Rd H a (.dT af)):af.length<=sizeLine /\ (a==sysModules)=false /\
 ∃ xs,KT H af xs /\ h.DictOfH (tupleKind (eD P w)) a xs:=by
 obtain⟨z,y,xs,r,o,es,ep,h1,h2,h3,h4,h5⟩:=(show bE P w H h a (.dT af) from Pv ok e);refine⟨z,y,xs,r,o,es,ep,h1,h2,h3,h4,λx hx=>?_,h5⟩;have all:∀ {l:List (List Key×V)}{m:List (List Key×Addr×Value)},KT H l m->∀ x∈m,(tupleKind (eD P w)).is h x.1 x.2.1:=by
  intro l m q;induction q with
  |nil=>intro x hx;exact nomatch hx
  | @cons p q ps qs hq t ih =>
    intro x hx;rcases aO.mp hx with e|hx
    ·subst e;exact Ah ok (by rw[<-hq.1];exact hq.2.1)
    ·exact ih x hx
 exact all r x hx
theorem Ln (ok:bU P w H h) (e:H a=some (.dT af)):af.length<=sizeLine /\ (a==sysModules)=false /\
 ∃ xs,KT H af xs /\ h.DictOfH (tupleKind (eD P w)) a xs:=Cr ok (.inl e)
def rR (H:Hp) (a:Addr) (y:V) (r:Option V):Prop :=
 (∃ af k,Rd H a (.dK af) /\ y=kV k /\ r=cx af k) \/ ∃ af k b,Rd H a (.dT af) /\ y=.ref b /\ H b=some (.tup (k.map kV)) /\ r=cx af k
def Yt (H:Hp) (a:Addr) (y v:V) (H':Hp):Prop :=
 (∃ af k,H a=some (.dK af) /\ y=kV k /\ af.length<sizeLine /\ H'=upd H a (.dK (putK af k v))) \/
 ∃ af k b,H a=some (.dT af) /\ y=.ref b /\ H b=some (.tup (k.map kV)) /\ af.length<sizeLine /\ H'=upd H a (.dT (putK af k v))
theorem rR.k {H:Hp}{a:Addr}{af:List (Key×V)}{k:Key}(e:H a=some (.dK af)):rR H a (kV k) (cx af k):=.inl ⟨af,k,.inl e,rfl,rfl⟩
section
variable {y : V} {r : Value} {o : Option V} 
theorem Inv.big (I:Inv X pins σ H s):sysModules<s.heap.objs.size:=by
 have h:mainGlobals<s.heap.objs.size:=(I.mod.glob.keeps I.bk).lt;exact zb (by decide) h
theorem G0 (hu:A.units+1<cLine) (I:Inv X pins σ H s) (g:rR H a y (some v)) (ry:RelV y u) (h:∀ w' s',Inv X pins σ H s'->RelV v w'->Q w' s') :
 wpAny (model X.prog X.w) A (getItem (.ref a) u) Q E s:=by
 rcases g with⟨af,k,e,ey,l⟩|⟨af,k,b,e,ey,eb,l⟩
 ·subst ey;obtain⟨z,hd,vs,rel,dd⟩:=Cq I.ak e;obtain⟨w',hw,hV⟩:=e9.some_of (v:=v) (o:=valueAt vs k) (by rw[l];exact rel.val k);exact wpAny_getItem_of (Cp ry) dd.mapOf hw (h w' _ (I.tok _) hV)
 ·subst ey;cases (show u=Value.ref b from ry);obtain⟨z,hd,xs,rel,dd⟩:=Cr I.ak e;obtain⟨w',hw,hV⟩:=e9.some_of (v:=v) (o:=(atKey xs k).map (·.2)) (by rw[l];exact rel.val k);obtain⟨p,hp,ab7⟩:=Option.map_eq_some_iff.mp hw;refine wpAny_getItem_heap (yU hu) (Ah I.ak eb) dd hp ?_;rw[ab7];exact h w' _ (I.tok _) hV
theorem UT (hu:A.units+1<cLine) (I:Inv X pins σ H s) (g:rR H a y o) (ry:RelV y u) (h:∀ s',Inv X pins σ H s'->Q (.bool o.isSome) s') :
 wpAny (model X.prog X.w) A (compareOp .In u (.ref a)) Q E s:=by
 rcases g with⟨af,k,e,ey,l⟩|⟨af,k,b,e,ey,eb,l⟩
 ·subst ey;obtain⟨z,hd,vs,rel,dd⟩:=Cq I.ak e;refine wpAny_in_of (Cp ry) hd dd.mapOf ?_;rw[<-(rel.val k).Kv,<-l];exact h _ (I.tok _)
 ·subst ey;cases (show u=Value.ref b from ry);obtain⟨z,hd,xs,rel,dd⟩:=Cr I.ak e;refine wpAny_in_heap (yU hu) (Ah I.ak eb) hd dd ?_;have q:=(rel.val k).Kv;rw[Wo]at q;rw[<-q,<-l];exact h _ (I.tok _)
theorem oK {ob:HO}(I:Inv X pins σ H s) (mu:xr (H a)) (hs:Heap.SameBut a s.heap h') (he:∃ q,h'.get? a=some q) (new:bE X.prog X.w (upd H a ob) h' a ob) :
 Inv X pins σ (upd H a ob) { s with heap:=h',toks:=t' } :=
 I.write (x:=a) (e:=a) mu (.inl rfl) (λb q hb z=>(hs.2 b hb).trans z) he new
theorem Lo {af:List (Key×V)}{vs:List (Key×Value)}(z:af.length<=sizeLine) (hd:(a==sysModules)=false) (rel:KV af vs) (dd:h'.DictOf (eD P w) a vs) :
 bE P w H' h' a (.dK af):=⟨z,hd,vs,rel,dd⟩
theorem G1 {Q:Unit->Shared->Prop}(hu:A.units+1<cLine) (I:Inv X pins σ H s) (g:Yt H a y v H') (ry:RelV y u) (rv:RelV v r) (h:∀ s',Inv X pins σ H' s'->Q () s') :
 wpAny (model X.prog X.w) A (setItem (.ref a) u r) Q E s:=by
 rcases g with⟨af,k,e,ey,l,eH⟩|⟨af,k,b,e,ey,eb,l,eH⟩
 ·subst ey eH;obtain⟨z,hd,vs,rel,dd⟩:=Pw I.ak e;have hz:vs.length<=sizeLine:=by rw[<-rel.length];exact z
  have hl:(putK af k v).length<=sizeLine:=by have:=ji af k v;omega
  refine wpAny_setItem_pairs (hsz:=hz) (Cp ry) dd λh' rS hs=>h _ ?_;have he:∃ q,h'.get? a=some q:=let ⟨q,_,_,hq,_⟩:=rS;⟨q,hq⟩
  exact oK I (by rw[e];exact True.intro) hs he (Lo hl hd (rel.put k rv) rS)
 ·subst ey eH;cases (show u=Value.ref b from ry);obtain⟨z,hd,xs,rel,dd⟩:=Ln I.ak e;have hz:xs.length<=sizeLine:=by rw[<-Paired.length rel];exact z
  have hl:(putK af k v).length<=sizeLine:=by have:=ji af k v;omega
  refine wpAny_setItem_heap (hsz:=hz) (yU hu) (Ah I.ak eb) dd λh' rS hs=>h _ ?_;obtain⟨q,es,ep,hq,h2,h3,h4,_,h5⟩:=rS;refine oK I (by rw[e];exact True.intro) hs ⟨q,hq⟩ ⟨hl,hd,_,(rel.put k eb rv).keeps λc ys ec=>?_,q,es,ep,hq,h2,h3,h4,h5⟩;rw[fG (Pr ec e (λz=>nomatch z))];exact ec
end
section
variable {af : List (Key × V)} {k : Key} 
end
def Eb (i:Expr):Prop:=∀ ov iv,subscripted i false ov iv=operate [ov,iv] (getItem ov iv)
theorem NX {env:Env}{value slice:Expr}{T id:String} 
 (hl:typeLookup (.type T) "__getitem__"=pure (some (.builtin id))) (hs:Eb slice)
 (h:wpAny (model prog w) A (eval value env) (λo s₁=>wpAny (model prog w) A (eval slice env) (λi s₂=>s₂.TypeIs o T /\ wpAny (model prog w) A (getItem o i) Q E s₂) E s₁) E s) :
 wpAny (model prog w) A (eval (.Subscript value slice pos) env) Q E s:=by
 refine Subscript_ (cM h (λo s₁ h₁=>cM h₁ (λi s₂ h₂=>?_) λ_ _ x=>x) λ_ _ x=>x);obtain⟨hT,h₂⟩:=h₂;unfold subscriptTail;refine ae ?_;rw[getitemInPython_of_ne hT.not_modules];refine ae (VC hT hl ?_);have fin:wpAny (model prog w) A (subscripted slice false o i) (λr s₃=>wpAny (model prog w) A (letTemporaryGo value o r >>= λ_=>pure r) Q E s₃) E s₂:=by
  rw[hs o i];exact wpAny_operating (cM h₂ (λr s₃ h₃=>ae (wpAny_letTemporaryGo (ag h₃))) λ_ _ x=>x)
 first
  |exact ag (ae fin)
  |exact ae (ag (ae fin))
  |exact ae fin
theorem Cs {y:V}{o:Option V}(I:Inv X pins σ H s) (g:rR H a y o):s.TypeIs (.ref a) "dict":=by
 rcases g with⟨af,k,e,_,_⟩|⟨af,k,b,e,_,_,_⟩
 ·obtain⟨_,_,vs,_,dd⟩:=Cq I.ak e;exact dd.typeIs
 ·obtain⟨_,_,xs,_,dd⟩:=Cr I.ak e;exact dd.typeIs
def Yu (td ty:TE):TE:=λσ H Q=>td σ H λx H1=>ty σ H1 λy H2=>∃ a v,x=.ref a /\ rR H2 a y (some v) /\ Q v H2
def Yv (ty td:TE):TE:=λσ H Q=>ty σ H λy H1=>td σ H1 λx H2=>∃ a o,x=.ref a /\ rR H2 a y o /\ Q (.bl o.isSome) H2
def Yw (td ty tv:TE):TS:=λD σ H=>tv σ H λv H1=>td σ H1 λx H2=>ty σ H2 λy H3=>∃ a H4,x=.ref a /\ Yt H3 a y v H4 /\ D.nx σ H4
section
variable {o i value : Expr} {pos' XF : Pos} {td ty tv : TE}
theorem NY (hu:X.A.units+1<cLine) (ho:PE X o td) (hi:PE X i ty) (hs:Eb i):PE X (.Subscript o i pos) (Yu td ty):=by
 intro pins s σ H Q I h;refine NX PySem.F.slot_dict_getitem.lookup hs (ai (ho pins s σ H _ I h) λu s1 ⟨x,H1,I1,rx,q1⟩=>ai (hi pins s1 σ H1 _ I1 q1) λiv s2 ⟨y,H2,I2,ry,a,v,ex,g,q2⟩=>?_);subst ex;obtain rfl:u=Value.ref a:=rx;exact⟨Cs I2 g,G0 hu I2 g ry λw' s3 I3 hV=>⟨v,H2,I3,hV,q2⟩⟩
theorem Lp (hu:X.A.units+1<cLine) (hi:PE X i ty) (ho:PE X o td):PC X .In i o (Yv ty td):=by
 intro pins s σ H Q I h;refine ai (hi pins s σ H _ I h) λiv s1 ⟨y,H1,I1,ry,q1⟩=>ai (ho pins s1 σ H1 _ I1 q1) λu s2 ⟨x,H2,I2,rx,a,ov,ex,g,q2⟩=>?_;subst ex;obtain rfl:u=Value.ref a:=rx;exact UT hu I2 g ry λs3 I3=>⟨.bl ov.isSome,H2,I3,rfl,q2⟩
theorem NZ (hu:X.A.units+1<cLine) (ho:PE X o td) (hi:PE X i ty) (hv:PE X value tv) (hs:swapsWith value (some (.Subscript o i pos')) pos.line X.env=pure false) :
 PS X (.Assign [.Subscript o i pos'] value pos) (Yw td ty tv):=by
 intro pins s σ H D I h;refine wpAny_Assign_Subscript (ai (hv pins s σ H _ I h) λr s1 ⟨v,H1,I1,rv,q1⟩=>ai (ho pins s1 σ H1 _ I1 q1) λu s2 ⟨x,H2,I2,rx,q2⟩=>ai (hi pins s2 σ H2 _ I2 q2) λiv s3 ⟨y,H3,I3,ry,a,H4,ex,g,q3⟩=>?_) hs;subst ex;obtain rfl:u=Value.ref a:=rx;exact G1 hu I3 g ry rv λs4 I4=>⟨σ,H4,I4,q3⟩
end
theorem Lq (h:Heap) (hb:sysModules<h.objs.size):bE P w H (h.push { cls:=.type "dict",data:=.dict #[] }) h.objs.size (.dK []):=
 ⟨cG _,beq_eq_false_iff_ne.mpr (Ne.symm (bH hb)),[],.nil,Heap.DictOf.new h⟩
theorem Lr (h:Heap) (hb:sysModules<h.objs.size):bE P w H (h.push { cls:=.type "dict",data:=.dict #[] }) h.objs.size (.dT []):=
 ⟨cG _,beq_eq_false_iff_ne.mpr (Ne.symm (bH hb)),[],.nil,_,#[],0,aU _ rfl,⟨rfl,rfl,rfl⟩,rfl,rfl,V7⟩
def ab8:TE:=λ_ H Q=>∀ p,H p=none->Q (.ref p) (upd H p (.dK []))
def ab9:TE:=λ_ H Q=>∀ p,H p=none->Q (.ref p) (upd H p (.dT []))
theorem Ls:PE X (.Dict [] [] pos) ab8:=λpins s σ H Q I h =>
 VD ⟨.ref s.heap.objs.size,_,I.laid (a:=s.heap.objs.size) (o:=.dK []) (t':=s.toks) (λ_ _ q=>aC _ q) (aq _) (Lq s.heap I.big),rfl,h _ (I.ak.fresh (aq _))⟩
theorem Lu:PE X (.Dict [] [] pos) ab9:=λpins s σ H Q I h =>
 VD ⟨.ref s.heap.objs.size,_,I.laid (a:=s.heap.objs.size) (o:=.dT []) (t':=s.toks) (λ_ _ q=>aC _ q) (aq _) (Lr s.heap I.big),rfl,h _ (I.ak.fresh (aq _))⟩
structure M2 (X:Cx) (o:Expr) (m:Str) (apos:Pos) (e f:Expr) (aX:Pos):Prop where
 base:attributeBase o m X.env (eval o X.env)=eval o X.env
 few:((backTo aX (starEach [e,f] X.env)).all (λx=>!x.1)&&(backToKw aX (keywordEach [] X.env)).all (λx=>x.1.isSome)
  && decide (([e,f]:List Expr).length+([]:List Keyword).length+(if ([]:List Keyword).isEmpty then 0 else 1)<30))=true
 line:(apos.endLine==aX.line)=true
 trees:backTo aX (starEach [e,f] X.env)=[(false,eval e X.env),(false,eval f X.env)]
def Kx (H:Hp) (a:Addr):Prop:=(∃ af,Rd H a (.dK af)) \/ ∃ af,Rd H a (.dT af)
theorem DD (I:Inv X pins σ H s) (d:Kx H a) :
 s.TypeIs (.ref a) "dict" /\ (∀ b,Value.ref a=.ref b->∃ ob,s.heap.get? b=some ob /\ ob.dict=none) /\ (a==sysModules)=false:=by
 rcases d with⟨af,e⟩|⟨af,e⟩
 ·obtain⟨_,hd,vs,_,dd⟩:=Cq I.ak e;refine⟨dd.typeIs,λb q=>?_,hd⟩;cases q;obtain⟨ob,_,_,h1,h2,_⟩:=dd;exact⟨ob,h1,h2.2.1⟩
 ·obtain⟨_,hd,xs,_,dd⟩:=Cr I.ak e;refine⟨dd.typeIs,λb q=>?_,hd⟩;cases q;obtain⟨ob,_,_,h1,h2,_⟩:=dd;exact⟨ob,h1,h2.2.1⟩
section
variable {y d : V} {r : Value} {o : Option V} 
end
section
variable {o f : Expr} {aX : Pos} {td ty tx : TE}
end
section
variable {af : List (Key × V)} 
end
section
variable {y : V} 
end
end L2
namespace L2.DL
noncomputable def Yx:Key->PyData
 |.inl i=>.int i
 |.inr x=>.str x
mutual
noncomputable def toPy:D->PyData
 |.non=>.none
 |.bl b=>.bool b
 |.int i=>.int i
 |.str x=>.str x
 |.tup l=>.tuple (ke l)
 |.lst l=>.list (ke l)
 |.ah l=>.dict (Ec l)
noncomputable def ke:List D->List PyData
 |[]=>[]
 |d::l=>toPy d::ke l
noncomputable def Ec:List (Key×D)->List (PyData×PyData)
 |[]=>[]
 |(k,d)::l=>(Yx k,toPy d)::Ec l
end
theorem m7 {h:Heap}:∀ {es:List DictEntry}{vs:List (Key×Value)}{l:List (Key×D)}{af:List (Key×V)},PySem.Pairs (eD X.prog X.w) es vs->KV af vs->aK F l af->ReadsAll h (es.map (·.key)) ((Ec l).map (·.1)) []
 | _,_,[],_,p,k,d=>by
   cases (show _=[] from d);cases k;cases p;exact .nil
 | _,_,(k,x)::l,_,p,q,d=>by
   obtain⟨v,r,e,_,d2⟩:=d;subst e;cases q with
   | cons q1 q2 =>
     cases p with
     | @cons de _ _ _ p1 p2 p3 =>
       have ih:=m7 (h:=h) p3 q2 d2;have e1:=q1.1;simp only at e1;rw[<-e1]at p1;have hk:Reads h de.key (Yx k) []:=by
        rcases f9 (show uj k de.key=true from p1) with⟨i,t,e2,e3⟩|⟨y,t,e2,e3⟩
        ·rw[e2,e3];exact .int i t
        ·rw[e2,e3];exact .str y t
       exact ReadsAll.cons hk ih
mutual
theorem iD (I:Inv X pins σ H s) (sub:Sub F H):∀ {d:D}{v:V}{u:Value},Den F d v->RelV v u->∃ as,Reads s.heap u (toPy d) as
 |.non,_,_,h,r=>by cases (show _=V.non from h);cases r;exact⟨[],.none⟩
 |.bl b,_,_,h,r=>by cases (show _=V.bl b from h);cases r;exact⟨[],.bool b⟩
 |.int i,_,_,h,r=>by cases (show _=V.int i from h);obtain⟨t,rfl⟩:=r;exact⟨[],.int i t⟩
 |.str x,_,_,h,r=>by cases (show _=V.str x from h);obtain⟨t,rfl⟩:=r;exact⟨[],.str x t⟩
 | .tup l,_,_,h,r=>by
   obtain⟨a,vs,rfl,h1,h2⟩:=h;cases r;obtain⟨_,its,rv,ob,e1,e2,n,e3⟩:=(show bE X.prog X.w H s.heap a (.tup vs) from I.ak a _ (sub _ _ h1));obtain⟨as,ra⟩:=jN I sub h2 rv;exact⟨as,.tuple e1 e2 e3 (by simpa using ra)⟩
 | .lst l,_,_,h,r=>by
   obtain⟨a,vs,rfl,h1,h2⟩:=h;cases r;obtain⟨_,its,n,rv,e1⟩:=(show bE X.prog X.w H s.heap a (.lst vs) from I.ak a _ (sub _ _ h1));obtain⟨as,ra⟩:=jN I sub h2 rv;exact⟨a::as,.list e1 rfl rfl (by simpa using ra)⟩
 | .ah l,_,_,h,r=>by
   obtain⟨a,af,rfl,h1,h2⟩:=h;cases r;obtain⟨_,_,vs,rk,ob,es,ep,e1,e2,e3,_,pr,_⟩:=(show bE X.prog X.w H s.heap a (.dK af) from I.ak a _ (sub _ _ h1));obtain⟨as,ra⟩:=l7 I sub h2 rk pr;exact⟨a::[]++as,.dict e1 e2.1 e3 (m7 (X:=X) pr rk h2) ra⟩
theorem jN (I:Inv X pins σ H s) (sub:Sub F H):∀ {l:List D}{vs:List V}{us:List Value},ao F l vs->Vals vs us->∃ as,ReadsAll s.heap us (ke l) as
 |[],_,_,h,r=>by cases (show _=[] from h);cases r;exact⟨[],.nil⟩
 | d::l,_,_,h,r=>by
   obtain⟨v,t,e,h1,h2⟩:=h;subst e;cases r with
   | cons r1 r2 =>
     obtain⟨as,ra⟩:=iD I sub h1 r1;obtain⟨bs,rb⟩:=jN I sub h2 r2;exact⟨as++bs,.cons ra rb⟩
theorem l7 (I:Inv X pins σ H s) (sub:Sub F H):∀ {l:List (Key×D)}{af:List (Key×V)}{vs:List (Key×Value)}{es:List DictEntry},aK F l af->KV af vs->PySem.Pairs (eD X.prog X.w) es vs->∃ as,ReadsAll s.heap (es.map (·.val)) ((Ec l).map (·.2)) as
 |[],_,_,_,h,r,p=>by cases (show _=[] from h);cases r;cases p;exact⟨[],.nil⟩
 | (k,d)::l,_,_,_,h,r,p=>by
   obtain⟨v,t,e,h1,h2⟩:=h;subst e;cases r with
   | cons r1 r2 =>
     cases p with
     | cons p1 p2 p3 =>
       obtain⟨as,ra⟩:=iD I sub h1 r1.2;obtain⟨bs,rb⟩:=l7 I sub h2 r2 p3;rw[<-p2]at ra;exact⟨as++bs,.cons ra rb⟩
end
section
variable {a b : Expr} {mb mc : DE W} {p p2 : Pos}
end
theorem ic (I:Inv X pins σ H s) (sub:Sub F H) (h:kR F H d v) (r:RelV v u):∃ as,Reads s.heap u (toPy d) as:=by
 cases d with
 | lst l =>
   obtain⟨a,vs,rfl,h1,h2⟩:=h;cases r;obtain⟨_,its,n,rv,e1⟩:=(show bE X.prog X.w H s.heap a (.lst vs) from I.ak a _ h1);obtain⟨as,ra⟩:=jN I sub h2 rv;exact⟨a::as,.list e1 rfl rfl (by simpa using ra)⟩
 | ah l =>
   obtain⟨a,af,rfl,h1,h2⟩:=h;cases r;obtain⟨_,_,vs,rk,ob,es,ep,e1,e2,e3,_,pr,_⟩:=(show bE X.prog X.w H s.heap a (.dK af) from I.ak a _ h1);obtain⟨as,ra⟩:=l7 I sub h2 rk pr;exact⟨a::[]++as,.dict e1 e2.1 e3 (m7 (X:=X) pr rk h2) ra⟩
 |tup l=>exact iD (d:=.tup l) I sub h r
 |non=>exact iD (d:=.non) I sub h r
 |bl b=>exact iD (d:=.bl b) I sub h r
 |int i=>exact iD (d:=.int i) I sub h r
 |str x=>exact iD (d:=.str x) I sub h r
def eI (d:D):Bool:=(toPy d).canLay0&&decide ((toPy d).depth<=60)
def eqv (x y:D):Bool:=PyData.eqv (toPy x) (toPy y)
theorem lg (h:eI d=true):(toPy d).canLay0=true /\ (toPy d).depth<=60:=by
 unfold eI at h
 rwa [aE,decide_eq_true_eq]at h
def uN (neg:Bool):R2:=λx y H Q=>∃ F dx dy,Sub F H /\ kR F H dx x /\ kR F H dy y /\ eI dx=true /\ eI dy=true /\ Q (.bl (if neg then !eqv dx dy else eqv dx dy)) H
theorem Se (hu:X.A.units+100<cLine):aN X (compareOp .Eq) (uN false):=by
 intro pins s σ H x y v u Q I rx ry h;obtain⟨F,dx,dy,sub,hx,hy,ox,oy,q⟩:=h;obtain⟨as,ra⟩:=ic I sub hx rx;obtain⟨bs,rb⟩:=ic I sub hy ry;obtain⟨x1,x2⟩:=lg ox;obtain⟨y1,y2⟩:=lg oy;exact SeqAt.compareEq_reads ra rb x1 y1 (by omega) ⟨.bl _,H,I,rfl,q⟩
theorem Sf (hu:X.A.units+100<cLine):aN X (compareOp .NotEq) (uN true):=by
 intro pins s σ H x y v u Q I rx ry h;obtain⟨F,dx,dy,sub,hx,hy,ox,oy,q⟩:=h;obtain⟨as,ra⟩:=ic I sub hx rx;obtain⟨bs,rb⟩:=ic I sub hy ry;obtain⟨x1,x2⟩:=lg ox;obtain⟨y1,y2⟩:=lg oy;exact SeqAt.compareNe_reads ra rb x1 y1 (by omega) ⟨.bl _,H,I,rfl,q⟩
def uO (neg:Bool) (x y:D):Option Res:=if eI x&&eI y then some (.old (.bl (if neg then !eqv x y else eqv x y))) else none
theorem Yy (neg:Bool):bK (uN neg) (uO neg):=by
 intro F H x y v w Q s sub rx ry e k;unfold uO at e;split at e
 ·rename_i c;rw[aE]at c;cases e;exact⟨F,x,y,sub,rx,ry,c.1,c.2,k _ _ ⟨rfl,rfl⟩⟩
 ·cases e
def dt:D->D->Option Res
 |.int i,.int j=>some (.old (.bl (decide (i=j))))
 |x,y=>uO false x y
def c9:D->D->Option Res
 |.int i,.int j=>some (.old (.bl (!decide (i=j))))
 |.str i,.str j=>some (.old (.bl (!decide (i=j))))
 |.lst l,.lst []=>some (.old (.bl (!l.isEmpty)))
 |x,y=>uO true x y
theorem Sg {x y:D}{s:Res}(h:c9 x y=some s):Kt x y=some s \/ uO true x y=some s:=by
 unfold c9 at h;split at h
 ·exact .inl h
 ·exact .inl h
 ·exact .inl h
 ·exact .inr h
theorem Sh (hu:X.A.units+100<cLine):aN X (compareOp .Eq) (λx y H Q=>II x y H Q \/ uN false x y H Q):=TF.or (Se hu)
theorem Si (hu:X.A.units+100<cLine):aN X (compareOp .NotEq) (λx y H Q=>z9 X.K x y H Q \/ uN true x y H Q):=(NV (by omega)).or (Sf hu)
theorem aca:bK (λx y H Q=>II x y H Q \/ uN false x y H Q) dt:=by
 intro F H x y v w Q s sub rx ry e k;unfold dt at e;split at e
 ·rename_i i j;cases e;cases (show v=.int i from rx);cases (show w=.int j from ry);exact .inl ⟨rfl,k _ _ ⟨rfl,by show _=_;simp⟩⟩
 ·exact .inr (Yy false F H _ _ v w Q s sub rx ry e k)
theorem acb:bK (λx y H Q=>z9 K x y H Q \/ uN true x y H Q) c9:=λF H x y v w Q s sub rx ry e k=>(Sg e).imp (λe=>abW F H x y v w Q s sub rx ry e k) λe=>Yy true F H x y v w Q s sub rx ry e k
end L2.DL
namespace HT
section
open PySem.SeqAt
open PySem.AutoSeq1 (wpAny_loadPart')
open PySem.MeetsSeq PySem.MeetsSeq2 PySem.MeetsSeq3
end
section
open PySem.AutoSeq1 (wpAny_loadPart')
end
end HT
namespace L2.DL
section
variable {a b : Expr} {mb mc : DE W} {p p2 : Pos}
theorem N0:aN X (binaryOp .Mult) (rI sQ λi j=>.int (i*j)):=Rp
noncomputable def ez:D->D->Option Res:=λx y=>match x,y with|.int i,.int j=>if sQ i j then some (.old (.int (i*j))) else none|_,_=>none
theorem ao.rep {F:Hp}{l:List D}{vs:List V}(h:ao F l vs):∀ k:Nat,ao F (List.replicate k l).flatten (List.replicate k vs).flatten
 |0=>rfl
 | k+1=>by
   rw[zg,zg,zh,zh];exact h.append (h.rep k)
theorem acd:bK (rI sQ λi j=>.int (i*j)) ez:=zZ (g:=λi j=>.int (i*j)) λ_ _ _=>rfl
theorem Sj (hu:X.A.units<cLine):aN X (compareOp .LtE) (eQ λi j=>.bl (decide (i<=j))):=TL
noncomputable def nD:D->D->Option Res:=λx y=>match x,y with|.int i,.int j=>some (.old (.bl (decide (i<=j))))|_,_=>none
theorem ace:bK (eQ λi j=>.bl (decide (i<=j))) nD:=z7 (g:=λi j=>.bl (decide (i<=j))) λ_ _ _=>rfl
theorem G2 {o:Expr}(ho:PD X T Z o ma) (ha:PD X T Z e mb)
 (kE:attributeBase o "append" X.env (eval o X.env)=eval o X.env)
 (pN:((backTo pos (starEach [e] X.env)).all (λx=>!x.1)&&(backToKw pos (keywordEach [] X.env)).all (λx=>x.1.isSome)
  && decide ([e].length+([]:List Keyword).length+(if ([]:List Keyword).isEmpty then 0 else 1)<30))=true)
 (kF:(apos.endLine==pos.line)=true) (hs:starEach [e] X.env=(false,eval e X.env)::starEach [] X.env) :
 PD X T Z (.Call (.Attribute o "append" apos) [e] [] pos) (n8 ma mb):=
 PE.imp (Fv xp PySem.F.slot_list_append PySem.F.type_list_append mY ho (iN ha lX hs) kE pN kF hs (by rfl)) λσ H Q h=>T1 h
def rT (mo mi:DE W):DG:=λw env bx=>match mo env bx with
 | .val (.b n) bx1=>(match mi env bx1 with
   | .val (.d (.int k)) bx2=>(match w,bx2[n]? with
     |.d d,some (.lst l)=>(b9 l.length k).map λj=>(env,bx2.set n (.lst (l.set j d)))
     |_,_=>none)
   |_=>none)
 |_=>none
theorem N3 {o i:Expr}{mo mi:DE W}(ho:PD X T Z o mo) (hi:PD X T Z i mi)
 (ha:∀ v,assign (.Subscript o i pos) X.env v=(do
  let ov <-holding [v] (eval o X.env)
  let iv <-holding [v,ov] (eval i X.env)
  standAt pos
  holding [v,ov,iv] (setItem ov iv v)
  release [v,ov,iv] [])):dY X T (.Subscript o i pos) (rT mo mi):=by
 refine PG.imp (Ri ho hi J3 ha) λv σ H Q ⟨F,r,env,bx,w,R,dw,h⟩=>?_;unfold rT at h;refine⟨F,r,env,bx,R,?_⟩;cases eo:mo env bx with
 |bad=>simp only[eo]at h;exact h.elim
 |exc c bx1=>simp only[eo]at h;exact h.elim
 | val ow bx1 =>
   simp only[eo]at h;intro F1 r1 ov H1 g1 R1 d1;cases ow with
   |d _=>exact h.elim
   |s _=>exact h.elim
   |x _=>exact h.elim
   |t _=>exact h.elim
   |m _=>exact h.elim
   | b n =>
     simp only at h;refine⟨F1,r1,env,bx1,R1,?_⟩;cases ei:mi env bx1 with
     |bad=>simp only[ei]at h;exact h.elim
     |exc c bx2=>simp only[ei]at h;exact h.elim
     | val iw bx2 =>
       simp only[ei]at h;intro F2 r2 iv H2 g2 R2 d2;cases iw with
       |b _=>exact h.elim
       |s _=>exact h.elim
       |x _=>exact h.elim
       |t _=>exact h.elim
       |m _=>exact h.elim
       | d id =>
         cases id with
         | int k =>
           simp only at h;obtain⟨a,rfl,ha⟩:=g2.den d1;obtain⟨c2,dG,pW⟩:=R2.dH ha;rw[dG]at h;cases w with
           |b _=>exact h.elim
           |s _=>exact h.elim
           |x _=>exact h.elim
           |t _=>exact h.elim
           |m _=>exact h.elim
           | d dd =>
             cases c2 with
             |ah _=>exact h.elim
             |dead=>exact h.elim
             |dT _=>exact h.elim
             | lst l =>
               simp only at h;cases ej:b9 l.length k with
               |none=>rw[ej]at h;exact h.elim
               | some j =>
                 rw[ej]at h;obtain⟨hF,vs,k1,k2⟩:=pW;refine⟨a,vs,k,j,rfl,d2,k1,by rw[<-k2.length];exact ej,?_⟩;have acf:Den F2 dd v:=Den.mono (g1.trans g2).s dd dw;exact h F2 r2 σ _ (g1.trans g2) (R2.write ha hF ⟨hF,_,fC,ao.set acf j k2⟩)
         |_=>exact h.elim
noncomputable def kI (i:Nat):DE W:=λenv bx=>match env[i]? with
 | some (some (.b n))=>(match bx[n]? with
   |some (.lst l)=>.val (.d (.lst l)) (bx.set n .dead)
   |some (.ah l)=>.val (.d (.ah l)) (bx.set n .dead)
   |_=>.bad)
 |_=>.bad
theorem Sk (i:Nat) (hN:X.N[i]?=some x) (hv:vR X.env.scope x) (hd:(x==("__debug__":Str))=false)
 (nj:(x==("__classdict__":Str))=false):PD X T Z (.Name x pos) (kI i):=by
 refine PE.imp (JM hN hv hd nj) λσ H Q ⟨F,r,env,bx,R,h⟩=>?_;unfold kI at h;split at h
 ·rename_i n e;obtain⟨v,e1,a,rfl,ha⟩:=R.slot i _ e;obtain⟨c,hc,kc⟩:=R.dH ha;rw[hc]at h;cases c with
  |dead=>exact h.elim
  |dT _=>exact h.elim
  | lst l =>
    obtain⟨hF,vs,k1,k2⟩:=kc;obtain⟨R',g⟩:=R.freeze ha hF k1;exact⟨_,e1,h _ r _ H g R' ⟨a,vs,rfl,fC,ao.mono g.s l k2⟩⟩
  | ah l =>
    obtain⟨hF,vs,k1,k2⟩:=kc;obtain⟨R',g⟩:=R.freeze ha hF k1;exact⟨_,e1,h _ r _ H g R' ⟨a,vs,rfl,fC,aK.mono g.s l k2⟩⟩
 ·exact h.elim
def qQ (m:DE W):DE W:=λenv bx=>fm (m env bx) λw bx1=>match w with|.s l=>.val (.d (.int l.length)) bx1|_=>.bad
theorem N4 (hg:Gl X "len") (hm:X.mg "len"=none) (ha:PD X T Z a ma) (he:starEach [a] X.env=(false,eval a X.env)::starEach [] X.env):PD X T Z (.Call (.Name "len" p) [a] [] pos) (qQ ma):=by
 refine PE.imp (o7 mE hg hm Hg (iN ha lX he) (by decide) (by decide) he (by rfl)) λσ H Q ⟨F,r,env,bx,R,h⟩=>?_;refine⟨F,r,env,bx,R,End.bind h λw bx1 F1 r1 v H1 g1 R1 d1 h1=>?_⟩;cases w with
 |b _=>exact h1.elim
 |d _=>exact h1.elim
 |x _=>exact h1.elim
 |t _=>exact h1.elim
 |m _=>exact h1.elim
 | s l =>
   obtain⟨q,o,rfl,k⟩:=d1;refine⟨q,_,rfl,.inl (.inl (.inr ⟨o,R1.fh _ _ k⟩)),?_⟩;rw[aA];exact h1 F1 r1 _ H1 (.refl F1 r1) R1 rfl
def Ed (m k:DE W):DE W:=λenv bx=>fm (m env bx) λw bx1=>fm (k env bx1) λu bx2=>match w,u with
 |.s l,.d (.int i)=>(match bc l i with|some n=>.val (.d (.int n)) bx2|none=>.bad)
 |_,_=>.bad
theorem Sl (ha:PD X T Z a ma) (hb:PD X T Z b mb) (hs:zQ b):PD X T Z (.Subscript a b pos) (Ed ma mb):=by
 refine PE.imp (Pt Fu ha hb hs) λσ H Q ⟨F,r,env,bx,R,h⟩=>?_;refine⟨F,r,env,bx,R,End.bind h λw bx1 F1 r1 v H1 g1 R1 d1 h1=>?_⟩;refine⟨F1,r1,env,bx1,R1,End.bind h1 λu bx2 F2 r2 y H2 g2 R2 d2 h2=>?_⟩;cases w with
 |b _=>exact h2.elim
 |d _=>exact h2.elim
 |x _=>exact h2.elim
 |t _=>exact h2.elim
 |m _=>exact h2.elim
 | s l =>
   cases u with
   |b _=>exact h2.elim
   |s _=>exact h2.elim
   |x _=>exact h2.elim
   |t _=>exact h2.elim
   |m _=>exact h2.elim
   | d d =>
     cases d with
     | int i =>
       obtain⟨q,o,rfl,k⟩:=d1;simp only at h2;cases e:bc l i with
       |none=>rw[e]at h2;exact h2.elim
       | some n =>
         rw[e]at h2;refine⟨q,l.map V.int,i,.int n,rfl,d2,.inl (.inr ⟨o,R2.fh _ _ (g2.s _ _ k)⟩),?_,h2 F2 r2 _ H2 (.refl F2 r2) R2 rfl⟩;unfold bc at e ⊢;rw[aA];cases ej:b9 l.length i with
         |none=>rw[ej]at e;cases e
         |some j=>rw[ej]at e;simp only[ba]at e ⊢;rw[dS,e];rfl
     |_=>exact h2.elim
def tH (bo:Bool) (l:List (Key×D)):DE W:=λ_ bx=>bJ bo (some (.ah l)) bx
theorem N5 (bo:Bool):PD X T Z (.Dict [] [] pos) (tH bo []):=by
 refine PE.imp (Ls) λσ H Q ⟨F,r,env,bx,R,h⟩=>?_;exact λp hp=>ig R h ⟨p,[],rfl,hp,rfl,rfl⟩
end
end L2.DL
namespace HT
section
theorem DH {t:Addr}{x:Value}(hit:s.heap.IsTupleIter it t i) (ht:s.heap.IsTuple t items) (hx:items[i]?=some x)
 (hQ:∀ h',h'.IsTupleIter it t (i+1)->Heap.SameBut it s.heap h'->Q x { s with heap:=h' }):wpAny (model prog w) A (Builtin.SmallTypes.nextOf (.ref it)) Q E s:=by
 obtain⟨ob,pU,uA,pT⟩:=id hit;obtain⟨ot,uP,_,nt,Ky⟩:=ht;unfold Builtin.SmallTypes.nextOf;refine ae (pz (name:=Str.ofString "__next__") hit.typeIs zy (dR zy hit.typeIs WT (show wpAny _ _ (field (.ref it) 0 >>= _) _ _ s from ae (eN pU pT (x:=.ref t) rfl ?_)) (WU _)))
 change wpAny _ _ (if (Value.ref t==Value.none)=true then _ else _) _ _ s;rw[if_neg (show ¬ ((Value.ref t==Value.none)=true) from cq)]
 change wpAny _ _ (field (.ref it) 1 >>= _) _ _ s
 refine ae (eN pU pT (x:=.int i 0) rfl (show wpAny _ _ (seqItems? (.ref t) >>= _) _ _ s from ae (qd uP Ky ?_)));simp only[cX,hx];refine ae (qf pU pT (by simp) (ag ⟨x,rfl,ag (hQ _ ⟨_,pG _ pU (vN (nS pT _)),(xn ..).trans uA,?_⟩ (Heap.SameBut.update ..))⟩));rw[nS pT];simp[rawInt]
theorem G3 {t:Addr}(hh:A.handled=none) (hit:s.heap.IsTupleIter it t i) (ht:s.heap.IsTuple t items) (hx:items[i]?=none)
 (hE:∀ h' e,Heap.ExtBut it s.heap h'->(∃ o,h'.get? e=some o /\ o.cls=.type "StopIteration")->E (.ref e) { s with heap:=h' }):wpAny (model prog w) A (Builtin.SmallTypes.nextOf (.ref it)) Q E s:=by
 obtain⟨ob,pU,uA,pT⟩:=id hit;obtain⟨ot,uP,_,nt,Ky⟩:=ht;unfold Builtin.SmallTypes.nextOf;refine ae (pz (name:=Str.ofString "__next__") hit.typeIs zy (dR zy hit.typeIs WT (show wpAny _ _ (field (.ref it) 0 >>= _) _ _ s from ae (eN pU pT (x:=.ref t) rfl ?_)) (WU _)))
 change wpAny _ _ (if (Value.ref t==Value.none)=true then _ else _) _ _ s;rw[if_neg (show ¬ ((Value.ref t==Value.none)=true) from cq)]
 change wpAny _ _ (field (.ref it) 1 >>= _) _ _ s
 refine ae (eN pU pT (x:=.int i 0) rfl (show wpAny _ _ (seqItems? (.ref t) >>= _) _ _ s from ae (qd uP Ky ?_)));simp only[cX,hx];refine ae (k6 (ae (qf pU pT (by simp) (show wpAny _ _ (newExc (.type "StopIteration") [] >>= _) _ _ _ from ae ?_))));simp only[newExc,newTuple];refine ae (cT (ae (m:=firstArgMember _ _) (tZ (a:=Value.none) (by first|rfl|(simp only[firstArgMember];rfl)) (cT ?_ (by size_fits)))) (by size_fits));simp only[raiseNew];refine ae (yV ?_);first|rw[show A.in1.handled=none from hh]|rw[hh]
 exact ae (ag (yW (hE _ _ (((Heap.SameBut.update ..).extBut.push _).push _) ⟨_,aU _ rfl,rfl⟩)))
theorem lJ (hh:A.handled=none) (it l:Addr) (kX:l≠it) (items:Array Value) :
 Draws prog w A it [it,l] items.size (λi v=>items[i]?=some v) (λi h=>h.IsTupleIter it l i /\ h.IsTuple l items) where
 live:=λ_ _ st=>let ⟨o,ho,_⟩:=st.1;⟨o,ho⟩
 frame:=λ_ _ _ st hk=>⟨st.1.at λo e=>hk it (by simp) o e,st.2.at λo e=>hk l (by simp) o e⟩
 item:=λi s Q E hi st hQ=>DH st.1 st.2 (x:=items[i]) (by simp[hi]) λh' a b=>hQ _ h' s.toks (by simp[hi]) ⟨a,st.2.at λo e=>b.extBut _ _ kX e⟩ b
 done:=λs Q E st hE=>G3 hh st.1 st.2 (by simp) hE
structure yh (z TI TO i1 i2:Addr) (n9 pb:List Addr):Prop where
 a:TI≠z /\ TO≠z /\ i1≠z /\ i2≠z /\ TI≠TO /\ TI≠i1 /\ TI≠i2 /\ TO≠i1 /\ TO≠i2 /\ i1≠i2
 f1:z∉n9 /\ TO∉n9 /\ i2∉n9
 f2:z∉pb /\ TO∉pb /\ i1∉pb
variable {z TI TO i1 i2 : Addr} {n9 pb : List Addr} {n1 n2 : Nat} {P1 P2 : Nat -> Value -> Prop} {S1 S2 : Nat -> Heap -> Prop}
theorem Draws.same {P:Nat->Value->Prop}{S:Nat->Heap->Prop}(D:Draws prog w A it fp n P S) {c:Addr}{k:Nat}(x:Heap.SameBut c h h') (hc:c∉fp) (st:S k h):S k h' :=
 D.frame k h h' st λb hb o e=>x.extBut _ _ (λq=>hc (q▸hb)) e
abbrev pX (h:Heap) (z TI TO:Addr) (f0 f1:Value):Prop:=h.get? z=some { cls:=.type "zip",dict:=none,data:=.fields #[f0,f1,.bool false,.ref TI,.ref TO],slots:=#[] }
def pY (h:Heap) (z TI TO:Addr):Prop:=∃ f0 f1,(f0=.none \/ ∃ a,f0=rawInt a) /\ pX h z TI TO f0 f1
theorem acg {Q:Option Obj->Shared->Prop}(h:Q (s.heap.get? a) s):wpAny (model prog w) A (loadIfAlive a) Q E s:=λΓ p _=>by simpa[loadIfAlive] using h
theorem Ai {f0 f1:Value}{Q:Bool->Shared->Prop}(hf:f0=.none \/ ∃ a,f0=rawInt a) (hz:pX s.heap z TI TO f0 f1) (h:∀ r h' ach,pX h' z TI TO f0 ach->Heap.SameBut z s.heap h'->Q r { s with heap:=h' }) :
 wpAny (model prog w) A (Builtin.SmallTypes.ownedTupleIsFree (.ref z)) Q E s:=by
 have hs:Heap.SameBut z s.heap s.heap:=⟨rfl,λ_ _=>rfl⟩;unfold Builtin.SmallTypes.ownedTupleIsFree;rcases hf with rfl|⟨a,rfl⟩
 ·exact ae (eN hz rfl (x:=.none) rfl (ag (h _ _ f1 hz hs)))
 ·refine ae (eN hz rfl (x:=rawInt a) rfl (ae (acg ?_)));cases s.heap.get? a.toNat with
  |none=>exact ag (h _ _ f1 hz hs)
  | some o =>
    refine ae (eN hz rfl (x:=f1) rfl ?_);by_cases q:(f1 != Value.bool true)=true
    ·rw[if_pos q];exact ae (sx hz (by simp) λg1 uQ e1=>ag (h _ g1 (.bool true) uQ e1))
    ·rw[if_neg q];exact ae (ag (ag (h _ _ f1 hz hs)))
theorem Lv (D1:Draws prog w A i1 n9 n1 P1 S1) (D2:Draws prog w A i2 pb n2 P2 S2) (R:yh z TI TO i1 i2 n9 pb) {k:Nat}{a b:Value}(k1:k<n1) (k2:k<n2)
 (hz:pY s.heap z TI TO) (uR:IsPair s.heap TI (.ref i1) (.ref i2)) (tJ:IsPair s.heap TO a b) (s1:S1 k s.heap) (s2:S2 k s.heap)
 (hQ:∀ x y h' tk,P1 k x->P2 k y->pY h' z TI TO->(∃ u v,IsPair h' TO u v)->S1 (k+1) h'->S2 (k+1) h'->IsPair h' s.heap.objs.size x y ->
  (∀ c o,c≠z->c≠TO->c≠i1->c≠i2->s.heap.get? c=some o->h'.get? c=some o)->Q (.ref s.heap.objs.size) { s with heap:=h',toks:=tk }) :
 wpAny (model prog w) A (Builtin.«zip.__next__» ⟨[.ref z],[]⟩) (λfin s'=>∃ v,fin=.done (.ret v) /\ Q v s') E s:=by
 obtain⟨⟨r1,r2,r3,r4,r5,r6,r7,r8,r9,yi⟩,⟨f1,f2,f3⟩,⟨f4,f5,f6⟩⟩:=R;obtain⟨o0,o1,ho,hz⟩:=hz
 change wpAny _ _ (field (.ref z) 2 >>= _) _ _ _;refine ae (eN hz rfl (x:=.bool false) rfl ?_)
 change wpAny _ _ (field (.ref z) 3 >>= _) _ _ _;refine ae (eN hz rfl (x:=.ref TI) rfl (ae (qd uR rfl ?_)))
 change wpAny _ _ (Builtin.SmallTypes.ownedTupleIsFree (.ref z) >>= _) _ _ _
 refine ae (Ai ho hz λr g0 o2 wb e0=>?_);cases r with
 | true =>
   simp only[if_true];refine ae (k6 (ae (eN wb rfl (x:=.ref TO) rfl (ae (sx wb (by simp) λg1 uQ kG=>?_)))));have e1:Heap.SameBut z s.heap g1:=⟨kG.1.trans e0.1,λc hc=>(kG.2 c hc).trans (e0.2 c hc)⟩;have Ee:pX g1 z TI TO .ellipsis o2:=uQ;refine ae ?_;simp only[V8,V9,xh,xk];refine ae (ae (wX (show wpAny _ _ (Builtin.SmallTypes.nextOf (.ref i1) >>= _) _ _ _ from ae (D1.item k _ _ _ k1 (Draws.same D1 e1 f1 s1) λx g2 t2 px yj e2=>ag ?_))));have yk:IsPair g2 TO a b:=e2.extBut _ _ r8 (e1.extBut _ _ r2 tJ);refine ae (qd yk rfl (ae (Hh yk λg3 Yz e3=>ae (t6 (ag ?_)))));have aci:IsPair g3 TO x b:=Yz;refine ae (ae (wX (show wpAny _ _ (Builtin.SmallTypes.nextOf (.ref i2) >>= _) _ _ _ from ae (D2.item k _ _ _ k2 (Draws.same D2 e3 f5 (Draws.same D2 e2 f6 (Draws.same D2 e1 f4 s2))) λy g4 t4 py Kz e4=>ag ?_))));have YA:IsPair g4 TO x b:=e4.extBut _ _ r9 aci;refine ae (qd YA rfl (ae (Hh YA λg5 acj e5=>ae (t6 (ag (ag ?_))))));have YB:IsPair g5 TO x y:=acj;refine ae (qd YB rfl (ae (VE ?_)));have hsz:g5.objs.size=s.heap.objs.size:=by rw[e5.1,e4.1,e3.1,e2.1,e1.1]
   have YC:pX g5 z TI TO .ellipsis o2:=e5.extBut _ _ r2.symm (e4.extBut _ _ r4.symm (e3.extBut _ _ r2.symm (e2.extBut _ _ r3.symm Ee)));have kp:∀ c o,c≠z->c≠TO->c≠i1->c≠i2->s.heap.get? c=some o->g5.get? c=some o:=λc o c1 c2 c3 c4 q=>e5.extBut _ _ c2 (e4.extBut _ _ c4 (e3.extBut _ _ c2 (e2.extBut _ _ c3 (e1.extBut _ _ c1 q))));have q1:S1 (k+1) g5:=Draws.same D1 e5 f2 (Draws.same D1 e4 f3 (Draws.same D1 e3 f2 yj));have q2:S2 (k+1) g5:=Draws.same D2 e5 f5 Kz;have rV:z<g5.objs.size:=aM YC
   change wpAny _ _ (Builtin.SmallTypes.ownedTupleHandOut (.ref z) (.ref g5.objs.size) >>= _) _ _ _;refine ae ?_
   unfold Builtin.SmallTypes.ownedTupleHandOut;refine ae (sx (aC _ YC) (by simp) λg7 ack e7=>sx (show pX g7 z TI TO (rawInt g5.objs.size) o2 from ack) (by simp) λg8 acm e8=>?_);have up:∀ c o,c≠z->g5.get? c=some o->g8.get? c=some o:=λc o c1 q=>e8.extBut _ _ c1 (e7.extBut _ _ c1 (aC _ q));have YD:IsPair g8 g5.objs.size x y:=e8.extBut _ _ (rh rV) (e7.extBut _ _ (rh rV) (aU _ rfl));have acn:pY g8 z TI TO:=⟨_,_,.inr ⟨_,rfl⟩,show pX g8 z TI TO (rawInt g5.objs.size) (.bool false) from acm⟩;refine ag ⟨_,rfl,(show Q (.ref g5.objs.size) _ from ?_)⟩;rw[hsz]at YD ⊢;exact hQ x y g8 _ px py acn ⟨_,_,up _ _ r2 YB⟩ (D1.frame _ _ _ q1 λc hc o q=>up c o (λw=>f1 (w▸hc)) q) (D2.frame _ _ _ q2 λc hc o q=>up c o (λw=>f4 (w▸hc)) q) YD λc o c1 c2 c3 c4 q=>up c o c1 (kp c o c1 c2 c3 c4 q)
 | false =>
   simp only[vJ,if_false];rw[show (#[Value.ref i1,Value.ref i2]:Array Value)=[Value.ref i1,Value.ref i2].toArray from rfl];simp only[Wa,xh,xk];refine ae (ae (ae (cP (show wpAny _ _ (Builtin.SmallTypes.nextOf (.ref i1) >>= _) _ _ _ from ae (D1.item k _ _ _ k1 (Draws.same D1 e0 f1 s1) λx g2 t2 px yj e2=>ag ?_)))));refine ag (ae (ae (cP (show wpAny _ _ (Builtin.SmallTypes.nextOf (.ref i2) >>= _) _ _ _ from ae (D2.item k _ _ _ k2 (Draws.same D2 e2 f6 (Draws.same D2 e0 f4 s2)) λy g4 t4 py Kz e4=>ag ?_)))));refine ag (ag (ae (VE (ag ⟨_,rfl,?_⟩) (show 2<=sizeLine by decide))));have hsz:g4.objs.size=s.heap.objs.size:=by rw[e4.1,e2.1,e0.1]
   have Ef:pX g4 z TI TO o0 o2:=e4.extBut _ _ r4.symm (e2.extBut _ _ r3.symm wb);have up:∀ c o,g4.get? c=some o->(g4.push { cls:=.type "tuple",data:=.seq #[x,y] }).get? c=some o:=λc o q=>aC _ q;have hT:IsPair (g4.push { cls:=.type "tuple",data:=.seq #[x,y] }) g4.objs.size x y:=aU _ rfl;show Q (.ref g4.objs.size) _;rw[hsz]at hT ⊢;exact hQ x y _ _ px py ⟨o0,o2,ho,up _ _ Ef⟩ ⟨a,b,up _ _ (e4.extBut _ _ r9 (e2.extBut _ _ r8 (e0.extBut _ _ r2 tJ)))⟩ (D1.frame _ _ _ (Draws.same D1 e4 f3 yj) λc hc o q=>up c o q) (D2.frame _ _ _ Kz λc hc o q=>up c o q) hT
    λc o c1 c2 c3 c4 q=>up c o (e4.extBut _ _ c4 (e2.extBut _ _ c3 (e0.extBut _ _ c1 q)))
theorem Lw (D1:Draws prog w A i1 n9 n1 P1 S1) (D2:Draws prog w A i2 pb n2 P2 S2) (R:yh z TI TO i1 i2 n9 pb) {k:Nat}{a b:Value}{Q:Fin->Shared->Prop}(hk:k=n1 \/ (k<n1 /\ k=n2))
 (hz:pY s.heap z TI TO) (uR:IsPair s.heap TI (.ref i1) (.ref i2)) (tJ:IsPair s.heap TO a b) (s1:S1 k s.heap) (s2:S2 k s.heap)
 (hE:∀ h' e tk,(∀ c o,c≠z->c≠TO->c≠i1->c≠i2->s.heap.get? c=some o->h'.get? c=some o)->(∃ o,h'.get? e=some o /\ o.cls=.type "StopIteration")->E (.ref e) { s with heap:=h',toks:=tk }) :
 wpAny (model prog w) A (Builtin.«zip.__next__» ⟨[.ref z],[]⟩) Q E s:=by
 obtain⟨⟨r1,r2,r3,r4,r5,r6,r7,r8,r9,yi⟩,⟨f1,f2,f3⟩,⟨f4,f5,f6⟩⟩:=R;obtain⟨o0,o1,ho,hz⟩:=hz
 change wpAny _ _ (field (.ref z) 2 >>= _) _ _ _;refine ae (eN hz rfl (x:=.bool false) rfl ?_)
 change wpAny _ _ (field (.ref z) 3 >>= _) _ _ _;refine ae (eN hz rfl (x:=.ref TI) rfl (ae (qd uR rfl ?_)))
 change wpAny _ _ (Builtin.SmallTypes.ownedTupleIsFree (.ref z) >>= _) _ _ _
 refine ae (Ai ho hz λr g0 o2 wb e0=>?_);cases r with
 | true =>
   simp only[if_true];refine ae (k6 (ae (eN wb rfl (x:=.ref TO) rfl (ae (sx wb (by simp) λg1 uQ kG=>?_)))));have e1:Heap.SameBut z s.heap g1:=⟨kG.1.trans e0.1,λc hc=>(kG.2 c hc).trans (e0.2 c hc)⟩;have Ee:pX g1 z TI TO .ellipsis o2:=uQ;refine ae ?_;simp only[V8,V9,xh,xk];rcases hk with hk|⟨ym,uS⟩
   ·refine ae (ae (wX (show wpAny _ _ (Builtin.SmallTypes.nextOf (.ref i1) >>= _) _ _ _ from ae (D1.done _ _ _ (hk▸Draws.same D1 e1 f1 s1) λg2 ex e2 hx=>?_))));obtain⟨oe,uT,yn⟩:=hx;have uU:pX g2 z TI TO .ellipsis o2:=e2 _ _ r3.symm Ee;have KA:ex≠z:=λq=>by subst q;rw[uU]at uT;cases uT;simp at yn
    exact sx uU (by simp) λg3 _ e3=>hE g3 ex _ (λc o c1 _ c3 _ q=>e3.extBut _ _ c1 (e2 _ _ c3 (e1.extBut _ _ c1 q))) ⟨oe,e3.extBut _ _ KA uT,yn⟩
   ·refine ae (ae (wX (show wpAny _ _ (Builtin.SmallTypes.nextOf (.ref i1) >>= _) _ _ _ from ae (D1.item k _ _ _ ym (Draws.same D1 e1 f1 s1) λx g2 t2 px yj e2=>ag ?_))));have yk:IsPair g2 TO a b:=e2.extBut _ _ r8 (e1.extBut _ _ r2 tJ);refine ae (qd yk rfl (ae (Hh yk λg3 Yz e3=>ae (t6 (ag ?_)))));refine ae (ae (wX (show wpAny _ _ (Builtin.SmallTypes.nextOf (.ref i2) >>= _) _ _ _ from ae (D2.done _ _ _ (uS▸Draws.same D2 e3 f5 (Draws.same D2 e2 f6 (Draws.same D2 e1 f4 s2))) λg4 ex e4 hx=>?_))));obtain⟨oe,uT,yn⟩:=hx;have Ef:pX g4 z TI TO .ellipsis o2:=e4 _ _ r4.symm (e3.extBut _ _ r2.symm (e2.extBut _ _ r3.symm Ee));have KA:ex≠z:=λq=>by subst q;rw[Ef]at uT;cases uT;simp at yn
    exact sx Ef (by simp) λg5 _ e5=>hE g5 ex _ (λc o c1 c2 c3 c4 q=>e5.extBut _ _ c1 (e4 _ _ c4 (e3.extBut _ _ c2 (e2.extBut _ _ c3 (e1.extBut _ _ c1 q))))) ⟨oe,e5.extBut _ _ KA uT,yn⟩
 | false =>
   simp only[vJ,if_false];rw[show (#[Value.ref i1,Value.ref i2]:Array Value)=[Value.ref i1,Value.ref i2].toArray from rfl];simp only[Wa,xh,xk];rcases hk with hk|⟨ym,uS⟩
   ·refine ae (ae (ae (cP (show wpAny _ _ (Builtin.SmallTypes.nextOf (.ref i1) >>= _) _ _ _ from ae (D1.done _ _ _ (hk▸Draws.same D1 e0 f1 s1) λg2 ex e2 hx=>?_)))));exact hE g2 ex _ (λc o c1 _ c3 _ q=>e2 _ _ c3 (e0.extBut _ _ c1 q)) hx
   ·refine ae (ae (ae (cP (show wpAny _ _ (Builtin.SmallTypes.nextOf (.ref i1) >>= _) _ _ _ from ae (D1.item k _ _ _ ym (Draws.same D1 e0 f1 s1) λx g2 t2 px yj e2=>ag ?_)))));refine ag (ae (ae (cP (show wpAny _ _ (Builtin.SmallTypes.nextOf (.ref i2) >>= _) _ _ _ from ae (D2.done _ _ _ (uS▸Draws.same D2 e2 f6 (Draws.same D2 e0 f4 s2)) λg4 ex e4 hx=>?_)))));exact hE g4 ex _ (λc o c1 _ c3 c4 q=>e4 _ _ c4 (e2.extBut _ _ c3 (e0.extBut _ _ c1 q))) hx
theorem Lx (hz:pY s.heap z TI TO) (h:Q (.ref z) s):wpAny (model prog w) A (pyIter (.ref z)) Q E s:=by
 have ty:s.TypeIs (.ref z) "zip":=let ⟨_,_,_,hz⟩:=hz;⟨_,hz,rfl⟩
 exact wY ty WV (dR WV ty F.entry_zip_iter (show wpAny _ _ (ret (.ref z)) _ _ s from ag ⟨_,rfl, "zip",_,ty,xq.lookup,h⟩) (F.args_zip_iter_1 _))
theorem AY (D1:Draws prog w A.in1 i1 n9 n1 P1 S1) (D2:Draws prog w A.in1 i2 pb n2 P2 S2) (R:yh z TI TO i1 i2 n9 pb) {k:Nat}{a b:Value}{Q:Option Value->Shared->Prop}(k1:k<n1) (k2:k<n2)
 (hz:pY s.heap z TI TO) (uR:IsPair s.heap TI (.ref i1) (.ref i2)) (tJ:IsPair s.heap TO a b) (s1:S1 k s.heap) (s2:S2 k s.heap)
 (hQ:∀ x y h' tk,P1 k x->P2 k y->pY h' z TI TO->(∃ u v,IsPair h' TO u v)->S1 (k+1) h'->S2 (k+1) h'->IsPair h' s.heap.objs.size x y ->
  (∀ c o,c≠z->c≠TO->c≠i1->c≠i2->s.heap.get? c=some o->h'.get? c=some o)->Q (some (.ref s.heap.objs.size)) { s with heap:=h',toks:=tk }):wpAny (model prog w) A (pyNext (.ref z)) Q E s:=by
 have hT:s.TypeIs (.ref z) "zip":=let ⟨_,_,_,hz⟩:=hz;⟨_,hz,rfl⟩
 unfold pyNext;exact ae (sy (pz (name:=Str.ofString "__next__") hT xq (dR xq hT WW (Lv D1 D2 R k1 k2 hz uR tJ s1 s2 λx y h' tk b1 b2 b3 b4 b5 b6 b7 b8=>ag (hQ x y h' tk b1 b2 b3 b4 b5 b6 b7 b8)) (WX _))))
theorem Sn {p:Addr}{Q:Unit->Shared->Prop}(hz:pY s.heap z TI TO) (h:∀ h',pY h' z TI TO->Heap.SameBut z s.heap h'->Q () { s with heap:=h' }):wpAny (model prog w) A (letOwnedTupleGo tg (.ref z) (.ref p)) Q E s:=by
 have hs:Heap.SameBut z s.heap s.heap:=⟨rfl,λ_ _=>rfl⟩;have same:Q () s:=h _ hz hs;obtain⟨f0,f1,hf,hz⟩:=id hz
 have tup:wpAny (model prog w) A (do
  let o <-load z
  match o.cls,o.data with
  | .type n,.fields vs =>
    if ["enumerate", "zip", "dict_itemiterator", "dict_reverseitemiterator", "odict_iterator", "itertools.zip_longest", "itertools.pairwise"].contains n&&vs[0]?==some (rawInt p) then
     rule "for.unpacks-the-owned-tuple"
     updateField z 0 .none
  |_,_=>pure ()) Q E s:=by
  refine ae (vz hz ?_);dsimp only;split
  ·refine ae (k6 (sx hz (by simp) λg1 uQ e1=>h g1 ⟨.none,f1,.inl rfl,uQ⟩ e1))
  ·exact ag same
 unfold letOwnedTupleGo;cases tg with
 |Tuple es n q=>exact tup
 |List es q=>exact tup
 |_=>exact ag same
theorem AZ (D1:Draws prog w A.in1 i1 n9 n1 P1 S1) (D2:Draws prog w A.in1 i2 pb n2 P2 S2) (R:yh z TI TO i1 i2 n9 pb) {k:Nat}{a b:Value}{Q:Option Value->Shared->Prop}(hk:k=n1 \/ (k<n1 /\ k=n2))
 (hz:pY s.heap z TI TO) (uR:IsPair s.heap TI (.ref i1) (.ref i2)) (tJ:IsPair s.heap TO a b) (s1:S1 k s.heap) (s2:S2 k s.heap)
 (hQ:∀ h' tk,(∀ c o,c≠z->c≠TO->c≠i1->c≠i2->s.heap.get? c=some o->h'.get? c=some o)->Q none { s with heap:=h',toks:=tk }):wpAny (model prog w) A (pyNext (.ref z)) Q E s:=by
 have hT:s.TypeIs (.ref z) "zip":=let ⟨_,_,_,hz⟩:=hz;⟨_,hz,rfl⟩
 unfold pyNext;refine ae (sy (pz (name:=Str.ofString "__next__") hT xq (dR xq hT WW (Lw D1 D2 R hk hz uR tJ s1 s2 λh' e tk q1 q2=>?_) (WX _))));obtain⟨o,ho,hc⟩:=q2;exact ae (wZ (T:="StopIteration") (b:=true) ⟨o,ho,hc⟩ yX (ag (hQ h' tk q1)))
noncomputable def yo (h:Heap) (l1:Addr):Heap:=h.push { cls:=.type "tuple_iterator",data:=.fields #[.ref l1,.int 0 0] }
def wc (h:Heap) (l1 l2:Addr):Heap:=(yo h l1).push { cls:=.type "tuple_iterator",data:=.fields #[.ref l2,.int 0 0] }
def wg (h:Heap) (l1 l2:Addr):Heap:=(wc h l1 l2).push { cls:=.type "tuple",data:=.seq #[.ref h.objs.size,.ref (yo h l1).objs.size] }
def yp (h:Heap) (l1 l2:Addr):Heap:=(wg h l1 l2).push { cls:=.type "tuple",data:=.seq #[.none,.none] }
def wm (h:Heap) (l1 l2:Addr):Heap:=(yp h l1 l2).push { cls:=.type "zip",data:=.fields #[.none,.bool false,.bool false,.ref (wc h l1 l2).objs.size,.ref (wg h l1 l2).objs.size] }
theorem DI (l1 l2:Addr) (xs ys:Array Value) :
 Meets (Builtin.«zip.__new__» ⟨[.type "zip",.ref l1,.ref l2],[]⟩) (λ_ R s=>s.heap.IsTuple l1 xs /\ s.heap.IsTuple l2 ys /\ R (.ok (.ret (.ref (yp s.heap l1 l2).objs.size))) { s with heap:=wm s.heap l1 l2 }):=
 .of_wp λprog w A R s h=>by
  obtain⟨hp,g,d,tk,os⟩:=s;obtain⟨KC,qC,h⟩:=h;have aeY:=sub_zip;have aco:Heap.IsTuple (Shared.heap ⟨hp,g,d,tk,os⟩) l1 xs:=KC;have acp:Heap.IsTuple (Shared.heap ⟨hp.push { cls:=.type "tuple_iterator",data:=.fields #[.ref l1,.int 0 0] },g,d,tk,os⟩) l2 ys:=qC.at λo e=>aC _ e
  wp_walk using yY aco,yY acp
  exact⟨_,rfl,h⟩
theorem G4 {l1 l2:Addr}{xs ys:Array Value}(KC:s.heap.IsTuple l1 xs) (qC:s.heap.IsTuple l2 ys)
 (h:∀ h',IsZip h' (s.heap.objs.size+4) (s.heap.objs.size+2) (s.heap.objs.size+3) .none->IsPair h' (s.heap.objs.size+2) (.ref s.heap.objs.size) (.ref (s.heap.objs.size+1))->IsPair h' (s.heap.objs.size+3) .none .none ->
  h'.IsTupleIter s.heap.objs.size l1 0->h'.IsTupleIter (s.heap.objs.size+1) l2 0->(∀ c o,s.heap.get? c=some o->h'.get? c=some o)->Q (.ref (s.heap.objs.size+4)) { s with heap:=h' }):wpAny (model prog w) A (call (.type "zip") [.ref l1,.ref l2]) Q E s:=by
 refine callType_new F.called_zip (by decide) (F.typeCall_zip_2 _ _) (F.newCall_zip_2 _ _) (λobj=>F.args_object_init_3 obj _ _) F.entry_zip_new (DI l1 l2 xs ys) ⟨KC,qC,?_⟩;have z1:(yo s.heap l1).objs.size=s.heap.objs.size+1:=qo ..;have z2:(wc s.heap l1 l2).objs.size=s.heap.objs.size+2:=by rw[wc,qo,z1]
 have z3:(wg s.heap l1 l2).objs.size=s.heap.objs.size+3:=by rw[wg,qo,z2]
 have z4:(yp s.heap l1 l2).objs.size=s.heap.objs.size+4:=by rw[yp,qo,z3]
 have g5:(wm s.heap l1 l2).get? (yp s.heap l1 l2).objs.size=some { cls:=.type "zip",data:=.fields #[.none,.bool false,.bool false,.ref (wc s.heap l1 l2).objs.size,.ref (wg s.heap l1 l2).objs.size] }:=aU _ rfl;have g4:(wm s.heap l1 l2).get? (wg s.heap l1 l2).objs.size=some { cls:=.type "tuple",data:=.seq #[.none,.none] }:=aC _ (aU _ rfl);have g3:(wm s.heap l1 l2).get? (wc s.heap l1 l2).objs.size=some { cls:=.type "tuple",data:=.seq #[.ref s.heap.objs.size,.ref (yo s.heap l1).objs.size] }:=aC _ (aC _ (aU _ rfl));have g2:(wm s.heap l1 l2).get? (yo s.heap l1).objs.size=some { cls:=.type "tuple_iterator",data:=.fields #[.ref l2,.int 0 0] }:=aC _ (aC _ (aC _ (aU _ rfl)));have g1:(wm s.heap l1 l2).get? s.heap.objs.size=some { cls:=.type "tuple_iterator",data:=.fields #[.ref l1,.int 0 0] }:=aC _ (aC _ (aC _ (aC _ (aU _ rfl))))
 change _ /\ _
 rw[z2,z3,z4]at g5;rw[z1,z2]at g3;rw[z3]at g4;rw[z1]at g2;rw[z4];exact⟨⟨_,g5,rfl⟩,h _ g5 g3 g4 ⟨_,g1,rfl,rfl⟩ ⟨_,g2,rfl,rfl⟩ λc o q=>aC _ (aC _ (aC _ (aC _ (aC _ q))))⟩
end
end HT
namespace L2
theorem Inv.YE {p:Addr}{o:HO}(I:Inv X pins σ H s) (hf:∀ b∈ch,dj X pins H b) (k:∀ b o,b∉ch->s.heap.get? b=some o->h'.get? b=some o) (hp:s.heap.objs.size<=p)
 (new:bE X.prog X.w (upd H p o) h' p o):Inv X pins σ (upd H p o) { s with heap:=h',toks:=t' }:=by
 have v8:H p=none:=I.ak.fresh hp;have pL:∀ b u,H b=some u->b∉ch:=λb u e z=>by rw[(hf b z).1]at e;cases e
 have acq:∀ b u,H b=some u->b≠p:=λb u e=>gh e v8;have hG:∀ b u,H b=some u->upd H p o b=some u:=λb u e=>by rw[fG (acq b u e)];exact e
 refine I.step (g':=s.gens) (d':=s.drawn) (ch:=ch) (λb hb=>?_) (λb o _ _ hc e _=>k b o hc e) (λb o _ _ hc e _=>⟨o.slots,k b o hc e⟩) (λb ob _ e n=>?_)
  (λb o hc e=>⟨o,k b o hc e⟩) (λb _ e=>hG b _ e) (λb _ _ e=>hG b _ e) (λb ps e=>⟨#[],by rw[hG b _ e];simp⟩) (λm hm=>?_) ?_ I.bare
 ·obtain⟨f0,f1,f2,f3,f4,f5⟩:=hf b hb;exact⟨f3,f1,f4,f5⟩
 ·rw[fG (λz=>dE _ (eB (aM e) (by rw[z];exact hp)))];exact n
 ·obtain⟨ob,es,ep,ho,r⟩:=hm;exact⟨ob,es,ep,k _ ob (λz=>(hf _ z).2.1 rfl) ho,r⟩
 ·intro b u e;by_cases hb:b=p
  ·subst hb;rw[fC]at e;cases e;exact new
  ·rw[fG hb]at e;refine(I.ak b u e).hG (λc v hc q=>k c v ?_ q) (λc q=>hG c _ q) λc xs q=>hG c _ q;rcases hc with z|z
   ·rw[z];exact pL b u e
   ·exact pL c _ z
theorem Inv.YF (I:Inv X pins σ H s) (hf:∀ b∈ch,dj X pins H b) (k:∀ b o,b∉ch->s.heap.get? b=some o->h'.get? b=some o):Inv X pins σ H { s with heap:=h',toks:=t' }:=by
 have pL:∀ b u,H b=some u->b∉ch:=λb u e z=>by rw[(hf b z).1]at e;cases e
 refine I.step (g':=s.gens) (d':=s.drawn) (ch:=ch) (λb hb=>?_) (λb o _ _ hc e _=>k b o hc e) (λb o _ _ hc e _=>⟨o.slots,k b o hc e⟩) (λb ob _ e n=>n)
  (λb o hc e=>⟨o,k b o hc e⟩) (λb _ e=>e) (λb _ _ e=>e) (λb ps e=>⟨#[],by rw[e];simp⟩) (λm hm=>?_) ?_ I.bare
 ·obtain⟨f0,f1,f2,f3,f4,f5⟩:=hf b hb;exact⟨f3,f1,f4,f5⟩
 ·obtain⟨ob,es,ep,ho,r⟩:=hm;exact⟨ob,es,ep,k _ ob (λz=>(hf _ z).2.1 rfl) ho,r⟩
 ·intro b u e;refine(I.ak b u e).hG (λc v hc q=>k c v ?_ q) (λc q=>q) λc xs q=>q;rcases hc with z|z
  ·rw[z];exact pL b u e
  ·exact pL c _ z
def KD (K:PySem.W.Frag) (a b:Addr):It :=
 ⟨λi H=>∃ (xs ys:List V) (x y:V),aV K H a xs /\ aV K H b ys /\ xs[i]?=some x /\ ys[i]?=some y,
  λi H w H'=>∀ (xs ys:List V),aV K H a xs->aV K H b ys->∃ (p:Addr) (x y:V),xs[i]?=some x /\ ys[i]?=some y /\ H p=none /\ w=.ref p /\ H'=upd H p (.tup [x,y]),
  λi H=>∃ (xs ys:List V),aV K H a xs /\ aV K H b ys /\ (i=xs.length \/ (i<xs.length /\ i=ys.length))⟩
theorem Be {b:Nat}(k:Nat) (h:b<n):b≠n+k:=by omega
theorem Bf {m:Nat}(h:n+4<m):m≠n /\ m≠n+1 /\ m≠n+2 /\ m≠n+3 /\ m≠n+4:=by omega
theorem FE {n b:Addr}(ha:a<n) (hb:b<n):HT.yh (n+4) (n+2) (n+3) n (n+1) [n,a] [n+1,b] where
 a:=by refine⟨?_,?_,?_,?_,?_,?_,?_,?_,?_,?_⟩<;>exact λz=>by have z':(_:Nat)=_:=z;omega
 f1:=by
  have e1:∀ k:Nat,n+k≠a:=λk z=>dE _ (VQ (ua n k) (z▸ha));refine⟨?_,?_,?_⟩<;>(rw[aO,a8];rintro(z|z))
  ·have z':(_:Nat)=_:=z;omega
  ·exact e1 4 z
  ·have z':(_:Nat)=_:=z;omega
  ·exact e1 3 z
  ·have z':(_:Nat)=_:=z;omega
  ·exact e1 1 z
 f2:=by
  have e1:∀ k:Nat,n+k≠b:=λk z=>dE _ (VQ (ua n k) (z▸hb));refine⟨?_,?_,?_⟩<;>(rw[aO,a8];rintro(z|z))
  ·have z':(_:Nat)=_:=z;omega
  ·exact e1 4 z
  ·have z':(_:Nat)=_:=z;omega
  ·exact e1 3 z
  ·have z':(_:Nat)=_:=z;omega
  ·exact e1 0 z
theorem Ly {n b:Addr}(ha:a<n) (hb:b<n) :
 Turn P w K tg (KD K a b) [n+4,n+2,n+3,n,n+1] (n+4)
  (λi h=>HT.pY h (n+4) (n+2) (n+3) /\ IsPair h (n+2) (.ref n) (.ref (n+1)) /\ (∃ u v,IsPair h (n+3) u v) /\ h.IsTupleIter n a i /\ h.IsTupleIter (n+1) b i) where
 mem:=by simp
 obj:=λi h st c hc=>by
  obtain⟨⟨_,_,_,z1⟩,z2,⟨u,v,z3⟩,⟨o4,e4,c4,d4⟩,⟨o5,e5,c5,d5⟩⟩:=st;simp only[aO,eZ,or_false]at hc;rcases hc with rfl|rfl|rfl|rfl|rfl
  ·exact⟨_,z1,λv z=>by cases z⟩
  ·exact⟨_,z2,λv z=>by cases z⟩
  ·exact⟨_,z3,λv z=>by cases z⟩
  ·exact⟨o4,e4,λv z=>by rw[d4]at z;cases z⟩
  ·exact⟨o5,e5,λv z=>by rw[d5]at z;cases z⟩
 keep:=λi h h' st k=>by
  obtain⟨z1,z2,⟨u,v,z3⟩,z4,z5⟩:=st;obtain⟨w0,w1,w2,z1⟩:=z1;exact⟨⟨w0,w1,w2,k _ (by simp) _ z1⟩,k _ (by simp) _ z2,⟨u,v,k _ (by simp) _ z3⟩,z4.at λo e=>k _ (by simp) o e,z5.at λo e=>k _ (by simp) o e⟩
 item:=by
  intro X hP hw hK hc i pins s σ H E I hf st hg;subst hP hw hK;obtain⟨xs,ys,x,y,q1,q2,e1,e2⟩:=hg;obtain⟨z1,z2,⟨u,v,z3⟩,z4,z5⟩:=st;obtain⟨i1,r1,p1,l1⟩:=I.tuple q1;obtain⟨i2,r2,p2,l2⟩:=I.tuple q2;have hx:=(List.getElem?_eq_some_iff.mp e1).1;have hy:=(List.getElem?_eq_some_iff.mp e2).1;have R:=FE ha hb;have D1:=HT.lJ (prog:=X.prog) (w:=X.w) (A:=X.A.in1) (I.ok.hd hc) n a (bH ha) i1.toArray;have D2:=HT.lJ (prog:=X.prog) (w:=X.w) (A:=X.A.in1) (I.ok.hd hc) (n+1) b (Be 1 hb) i2.toArray;refine HT.AY D1 D2 R (by rw[aT,<-r1.length];exact hx) (by rw[aT,<-r2.length];exact hy) z1 z2 z3 ⟨z4,p1⟩ ⟨z5,p2⟩ λvx vy h' tk b1 b2 b3 b4 b5 b6 b7 b8=>⟨_,rfl,?_⟩;refine HT.Sn b3 λh2 uU cY=>?_;obtain⟨w1,f1,g1⟩:=r1.get e1;obtain⟨w2,f2,g2⟩:=r2.get e2;have YG:i1[i]?=some vx:=by simpa using b1
  have YH:i2[i]?=some vy:=by simpa using b2
  rw[f1]at YG;cases YG;rw[f2]at YH;cases YH;have rV:(n+4:Nat)<s.heap.objs.size:=let ⟨_,_,_,z1⟩:=z1;aM z1
  have KG:IsPair h2 s.heap.objs.size vx vy:=cY.extBut _ _ (Bf rV).2.2.2.2 b7;have nw:H s.heap.objs.size=none:=I.ak.fresh (aq _);have I2:Inv X pins σ (upd H s.heap.objs.size (.tup [x,y])) { s with heap:=h2,toks:=tk }:=by
   refine I.YE (ch:=[n+4,n+2,n+3,n,n+1]) hf (λc o bz e=>?_) (aq _) ?_
   ·simp only[aO,eZ,or_false,not_or]at bz;exact cY.extBut _ _ bz.1 (b8 c o bz.1 bz.2.2.1 bz.2.2.2.1 bz.2.2.2.2 e)
   ·exact⟨by show 2<=sizeLine;decide,[vx,vy],.cons g1 (.cons g2 .nil),⟨_,KG,rfl,_,rfl⟩⟩
  refine⟨.ref s.heap.objs.size,_,I2,rfl,λacr aeZ y1 y2=>⟨_,x,y,by rw[I.Iz y1 q1];exact e1,by rw[I.Iz y2 q2];exact e2,nw,rfl,rfl⟩,⟨uU,?_,(let ⟨u,v,b4⟩:=b4;⟨u,v,cY.extBut _ _ R.a.2.1 b4⟩),?_,?_⟩,λc bz=>?_⟩
  ·exact cY.extBut _ _ R.a.1 (b8 _ _ R.a.1 R.a.2.2.2.2.1 R.a.2.2.2.2.2.1 R.a.2.2.2.2.2.2.1 z2)
  ·exact b5.1.at λo e=>cY.extBut _ _ R.a.2.2.1 e
  ·exact b6.1.at λo e=>cY.extBut _ _ R.a.2.2.2.1 e
  ·rw[fG]
   ·exact(hf c bz).1
   ·intro z;subst z;simp only[aO,eZ,or_false]at bz;obtain⟨m1,m2,m3,m4,m5⟩:=Bf rV;rcases bz with q|q|q|q|q
    ·exact m5 q
    ·exact m3 q
    ·exact m4 q
    ·exact m1 q
    ·exact m2 q
 done:=by
  intro X hP hw hK hc i pins s σ H E I hf st hg;subst hP hw hK;obtain⟨xs,ys,q1,q2,hk⟩:=hg;obtain⟨z1,z2,⟨u,v,z3⟩,z4,z5⟩:=st;obtain⟨i1,r1,p1,l1⟩:=I.tuple q1;obtain⟨i2,r2,p2,l2⟩:=I.tuple q2;have R:=FE ha hb;have D1:=HT.lJ (prog:=X.prog) (w:=X.w) (A:=X.A.in1) (I.ok.hd hc) n a (bH ha) i1.toArray;have D2:=HT.lJ (prog:=X.prog) (w:=X.w) (A:=X.A.in1) (I.ok.hd hc) (n+1) b (Be 1 hb) i2.toArray;refine HT.AZ D1 D2 R (k:=i) (by rw[aT,aT,<-r1.length,<-r2.length];exact hk) z1 z2 z3 ⟨z4,p1⟩ ⟨z5,p2⟩ λh' tk b8=>⟨rfl,I.YF (ch:=[n+4,n+2,n+3,n,n+1]) hf λc o bz e=>?_⟩;simp only[aO,eZ,or_false,not_or]at bz;exact b8 c o bz.1 bz.2.2.1 bz.2.2.2.1 bz.2.2.2.2 e
 self:=λA i s Q E st h=>HT.Lx st.1 h
theorem YI.lt {its:List Value}(p:IsTup s.heap a its.toArray):a<s.heap.objs.size:=by
 obtain⟨o,e,_⟩:=p;exact aM e
def acs (K:PySem.W.Frag) (ta:TA):TI:=λσ H R=>ta σ H λvs H2=>∃ (p q:Addr) (xs ys:List V),vs=[.ref p,.ref q] /\ aV K H2 p xs /\ aV K H2 q ys /\ R (KD K p q) H2
theorem So {a b:Expr}{ta:TA}{p:Pos}(hg:Gl X "zip") (hm:X.mg "zip"=none) (ha:PA X [a,b] ta) (hs:starEach [a,b] X.env=[(false,eval a X.env),(false,eval b X.env)]) (cY:starEach [b] X.env=[(false,eval b X.env)]) :
 PI X tg (.Call (.Name "zip" p) [a,b] [] pos) (acs X.K ta):=by
 intro pins s σ H R I h;refine kJ (gJ I hg hm (by decide +kernel:bootBuiltins "zip"=some (.type "zip")) ?_);refine uh (ai (ha pos pins s σ H _ I h) λus s1 ⟨vs,H2,I2,r2,q⟩=>?_) (by rw[hs,cY]) (by rw[cY];rfl);obtain⟨x,y,xs,ys,rfl,hx,hy,q⟩:=q;obtain⟨u,v,rfl,ru,rv⟩:=Vals.two r2;cases ru;cases rv;obtain⟨i1,r1,p1,_⟩:=I2.tuple hx;obtain⟨i2,r2,p2,_⟩:=I2.tuple hy;refine HT.G4 (xs:=i1.toArray) (ys:=i2.toArray) p1 p2 λh' b1 b2 b3 b4 b5 b6=>?_;refine wpAny_pyIter_zip b1 ?_;refine⟨s1.heap.objs.size+4,_,_,_,H2,rfl,I2.kept (t':=s1.toks) b6,Ly (YI.lt p1) (YI.lt p2),⟨⟨_,_,.inl rfl,b1⟩,b2,⟨_,_,b3⟩,b4,b5⟩,λc hc=>?_,q⟩;have hle:s1.heap.objs.size<=c:=by
  simp only[aO,eZ,or_false]at hc;rcases hc with z|z|z|z|z<;>(rw[z];first|exact aq _|exact ua _ _)
 exact I2.uv hle (I2.ak.fresh hle)
end L2
namespace L2.DL
section
variable {a b : Expr} {p : Pos} {k : DE (List W)}
noncomputable def kh:List D->List D->List W
 |x::l,y::r=>.d (.tup [x,y])::kh l r
 |_,_=>[]
theorem Ct:∀ (l r:List D),(kh l r).length=min l.length r.length
 |[],_=>by simp[kh]
 |_::_,[]=>by simp[kh]
 |_::l,_::r=>by simp only[kh,a9,Ct l r];omega
theorem Cu:∀ {l r:List D}{i:Nat}{w:W},(kh l r)[i]?=some w->∃ x y,l[i]?=some x /\ r[i]?=some y /\ w=.d (.tup [x,y])
 |[],_,_,_,e=>by simp[kh]at e
 |_::_,[],_,_,e=>by simp[kh]at e
 |x::l,y::r,0,w,e=>by simp[kh]at e;exact⟨x,y,rfl,rfl,e.symm⟩
 | x::l,y::r,i+1,w,e=>by
   have e':(kh l r)[i]?=some w:=by simpa[kh] using e
   obtain⟨x',y',h1,h2,h3⟩:=Cu e';exact⟨x',y',by simpa using h1,by simpa using h2,h3⟩
def tK (k:DE (List W)):DE (List W):=λenv bx=>fm (k env bx) λws bx1=>match ws with
 |[.d (.tup l),.d (.tup r)]=>.val (kh l r) bx1
 |_=>.bad
theorem DJ {p q:Addr}{us:List V}{m:List D}(hp:F p=some (.tup vs)) (hq:F q=some (.tup us)) (dl:ao F l vs) (dm:ao F m us):uH F r (kh l m) (KD K p q):=by
 intro T i F1 r1 σ1 H1 env1 bx1 g R;have s1:aV K H1 p vs:=.of (R.fh _ _ (g.s _ _ hp));have s2:aV K H1 q us:=.of (R.fh _ _ (g.s _ _ hq));have e1:=dl.length;have e2:=dm.length;refine⟨λhl=>?_,λw e=>?_⟩
 ·rw[Ct]at hl;exact⟨vs,us,s1,s2,by omega⟩
 ·obtain⟨x,y,h1,h2,rfl⟩:=Cu e;obtain⟨v,f1,d1⟩:=dl.get h1;obtain⟨u,f2,d2⟩:=dm.get h2;refine⟨⟨vs,us,v,u,s1,s2,f1,f2⟩,λw H2 hy=>?_⟩;obtain⟨a,v',u',g1,g2,ha,rfl,rfl⟩:=hy vs us s1 s2;rw[f1]at g1;cases g1;rw[f2]at g2;cases g2;have gr:=R.qI (o:=.tup [v,u]) ha;exact⟨_,gr,R.uD ha,a,[v,u],rfl,fC,.cons (Den.mono (g.trans gr).s x d1) (.cons (Den.mono (g.trans gr).s y d2) .nil)⟩
theorem N6 (hg:Gl X "zip") (hm:X.mg "zip"=none) (ha:bX X T Z [a,b] k) (hs:starEach [a,b] X.env=[(false,eval a X.env),(false,eval b X.env)]) (cY:starEach [b] X.env=[(false,eval b X.env)]) :
 ny X T Z tg (.Call (.Name "zip" p) [a,b] [] pos) (tK k):=by
 refine PI.imp (So hg hm ha hs cY) λσ H Q ⟨F,r,env,bx,R,h⟩=>?_;refine⟨F,r,env,bx,R,End.bind h λws bx1 F1 r1 vs H1 g1 R1 d1 h1=>?_⟩;split at h1
 ·rename_i l m;obtain⟨v,t,rfl,⟨p,us,rfl,k1,k2⟩,v2,t2,rfl,⟨q,acu,rfl,k3,k4⟩,rt⟩:=d1;cases (show t2=[] from rt);exact⟨p,q,us,acu,rfl,.of (R1.fh _ _ k1),.of (R1.fh _ _ k3),h1 F1 r1 _ H1 (.refl F1 r1) R1 (DJ k1 k3 k2 k4)⟩
 ·exact h1.elim
end
section
variable {a : Expr} {p : Pos}
def acv (K:PySem.W.Frag) (tl:TE):TI:=λσ H R=>tl σ H λx H1=>(∃ a,x=.ref a /\ (∃ xs,aS K H1 a xs) /\ R (zI K a) H1) \/ ∃ a,x=.ref a /\ (∃ xs,aV K H1 a xs) /\ R (IF K a) H1
theorem Sq {l:Expr}{tl:TE}(hl:PE X l tl):PI X tg l (acv X.K tl):=by
 intro pins s σ H R I h;refine ai (hl pins s σ H _ I h) λv s1 ⟨x,H1,I1,r1,q1⟩=>?_;rcases q1 with⟨a,rfl,⟨xs,hq⟩,q⟩|⟨a,rfl,⟨xs,hq⟩,q⟩
 ·cases r1;obtain⟨its,rv,p,hz⟩:=I1.list hq;refine vA p.isList ⟨s1.heap.objs.size,[s1.heap.objs.size],_,_,H1,rfl,I1.kept (t':=s1.toks) λb o e=>aC _ e,A4 a _,⟨_,aU _ rfl,rfl,rfl⟩,λb hb=>?_,q⟩;cases a8.mp hb;exact I1.uv (aq _) (I1.ak.fresh (aq _))
 ·cases r1;obtain⟨its,rv,p,hz⟩:=I1.tuple hq;refine yY (show s1.heap.IsTuple a its.toArray from p) ⟨s1.heap.objs.size,[s1.heap.objs.size],_,_,H1,rfl,I1.kept (t':=s1.toks) λb o e=>aC _ e,Ds a _,⟨_,aU _ rfl,rfl,rfl⟩,λb hb=>?_,q⟩;cases a8.mp hb;exact I1.uv (aq _) (I1.ak.fresh (aq _))
theorem Cv {a:Addr}(k1:F a=some (.lst vs)) (k2:ao F l vs):uH F r (l.map W.d) (zI K a):=λT' i F2 r2 σ2 H2 aP bx2 g2 R2=>by
 have hq:aS K H2 a vs:=.of (R2.fh _ _ (g2.s _ _ k1));refine⟨λhl=>?_,λw e=>?_⟩
 ·rw[aA,k2.length]at hl;exact⟨vs,hq,sF hl⟩
 ·obtain⟨d,e1,rfl⟩:=Bc e;obtain⟨u,e2,du⟩:=k2.get e1;refine⟨⟨vs,u,hq,e2⟩,λx H3 ⟨e3,hy⟩=>?_⟩;subst e3;have e4:vs[i]?=some x:=hy vs hq;rw[e2]at e4;cases e4;exact⟨F2,.refl F2 r2,R2,Den.mono g2.s d du⟩
theorem DM {a:Addr}(k1:F a=some (.tup vs)) (k2:ao F l vs):uH F r (l.map W.d) (IF K a):=λT' i F2 r2 σ2 H2 aP bx2 g2 R2=>by
 have hq:aV K H2 a vs:=.of (R2.fh _ _ (g2.s _ _ k1));refine⟨λhl=>?_,λw e=>?_⟩
 ·rw[aA,k2.length]at hl;exact⟨vs,hq,sF hl⟩
 ·obtain⟨d,e1,rfl⟩:=Bc e;obtain⟨u,e2,du⟩:=k2.get e1;refine⟨⟨vs,u,hq,e2⟩,λx H3 ⟨e3,hy⟩=>?_⟩;subst e3;have e4:vs[i]?=some x:=hy vs hq;rw[e2]at e4;cases e4;exact⟨F2,.refl F2 r2,R2,Den.mono g2.s d du⟩
theorem BF (ha:PD X T Z a ma):ny X T Z tg a (ay ma):=by
 refine PI.imp (Sq ha) λσ H Q ⟨F,r,env,bx,R,h⟩=>?_;refine⟨F,r,env,bx,R,End.bind h λw bx1 F1 r1 v H1 g1 R1 d1 h1=>?_⟩;split at h1
 ·rename_i l;obtain⟨p,vs,rfl,k1,k2⟩:=d1;exact .inl ⟨p,rfl,⟨vs,.of (R1.fh _ _ k1)⟩,h1 F1 r1 _ H1 (.refl F1 r1) R1 (Cv k1 k2)⟩
 ·rename_i l;obtain⟨p,vs,rfl,k1,k2⟩:=d1;exact .inr ⟨p,rfl,⟨vs,.of (R1.fh _ _ k1)⟩,h1 F1 r1 _ H1 (.refl F1 r1) R1 (DM k1 k2)⟩
 ·exact h1.elim
theorem N7 {v:Int}(hg:Gl X x) (hm:∃ t,X.mg x=some (.int v t)) (hd:(x==("__debug__":Str))=false):PD X T Z (.Name x pos) (dC (.int v)):=by
 obtain⟨t,hm⟩:=hm;exact Ck (Nh (v:=.int v) hg hm ⟨t,rfl⟩ hd) λ_=>rfl
end
noncomputable def KH (XN:List Str) (sc cs:Scope) (N:List Str) (src:List (Option Nat)):Bool :=
 decide (cs.kind=.function)&&decide (cs.names.map (·.1)).Nodup&&cs.names.all (λy=>decide (y.2=.local->cs.names.lookup y.1=some .local)) &&
 cs.names.all (λy=>decide (y.2=.free->(sc.names.lookup y.1=some .cell \/ sc.names.lookup y.1=some .free)))&&decide (src.length=N.length) &&
 (List.range src.length).all λj=>match src[j]?,N[j]? with
  |some (some i),some x=>decide (XN[i]?=some x /\ cs.names.lookup x=some .free)
  |_,_=>true
theorem DN {XN:List Str}{src:List (Option Nat)}{sc cs:Scope}(hX:∀ x,X.env.kindOf x=sc.names.lookup x) (hN:X.N=XN) (h:KH XN sc cs N src=true):kQ X N src cs:=by
 subst hN;unfold KH at h;simp only[aE,decide_eq_true_eq,cA]at h;obtain⟨⟨⟨⟨⟨h1,h2⟩,h3⟩,h4⟩,h5⟩,h6⟩:=h;refine⟨h1,h2,λy hy=>h3 y hy,λy hy hf=>?_,h5,λj i x e1 e2=>?_⟩
 ·rw[hX];exact h4 y hy hf
 ·have q:=h6 j (List.mem_range.mpr (List.getElem?_eq_some_iff.mp e1).1);rw[e1,e2]at q;exact of_decide_eq_true q
section
variable (P : Program) (w : World) (K : PySem.W.Frag) (mg : Str -> Option Value) (base : Heap) (cl : Nat -> Addr)
def pd (k:Nat) (x:Str) (ps:List Str) (fn:List W->List Bx->O W):Prop :=
 ∃ (f:Addr) (fd:FuncData),eR P w K mg base (nu P w) k f fd ps (qK cl ps.length fn) /\ mg x=some (.ref f) /\ PySem.W.keepIn K (.ref f)=true /\ Binds K fd ps [] /\ ∃ o:Obj,K.lookup f=some o /\ o.data=.func fd
def Def (x:Str) (st:Stmt) (ps:List Str):Prop:=∃ (f:Addr) (fd:FuncData),nY K x x st f fd /\ mg x=some (.ref f) /\ Binds K fd ps []
end
section
variable {k : Nat} {ps : List Str} {m : aj} {nn kk : Nat}
theorem _root_.L2.nY.obj {qual:Str}{f:Addr}(F:nY K x qual st f fd):∃ o:Obj,K.lookup f=some o /\ o.data=.func fd:=by
 obtain⟨⟨oc,od,kV,doc,pm,an,a7,ct,nL,_,l,_⟩,_⟩:=F;exact⟨_,l,rfl⟩
theorem Sr (d:Def K mg x st ps) (S:vY N ps (fN st))
 (ux:∀ (f:Addr) (a7:Value) (A:Around) (outer:List Env) (s:Shared) (H:Hp) (E:XK) (n:Nat) (F0:Hp),cZ k (A.deeper (envOfC x (fN st) s.heap.objs.size f a7)) ->
  pR (sR xI P w K mg base N x (fN st) f a7 A outer s H E).vT ⟨H,n,F0⟩ ⟨E0,cl⟩ (ie st) m) (hn:N.length=nn:=by rfl) (acw:k+1=kk:=by rfl):pd P w K mg base cl kk x ps (aY nn (aG m)):=by
 subst hn acw;obtain⟨f,fd,F,hm,hb⟩:=d;exact⟨f,fd,TZ F S (λa7 A outer s H E n F0 hr=>ux f a7 A outer s H E n F0 hr),hm,F.kp,hb,F.obj⟩
end
section
variable {p : Pos} {k k' : Nat} {ps : List Str} {m : DE (List W)} {nn : Nat}
theorem Ss (h:pd X.prog X.w X.K X.mg X.base Z.cl k x ps fn) (hr:cZ k' X.A) (hk:k<=k') (hg:Gl X x) (hx:Passes (nu X.prog X.w) X Z.E) (ha:bX X T Z (e::es) m) (cJ:(x==("__debug__":Str))=false)
 (he:starEach (e::es) X.env=(false,eval e X.env)::starEach es X.env) (hZ:(backTo pos (starEach es X.env)).any (·.1)=false) (hn:ps.length=nn):PD X T Z (.Call (.Name x p) (e::es) [] pos) (fj fn nn m):=by
 subst hn;obtain⟨f,fd,G,hm,KI,hb,_⟩:=h;exact NH G (hr.mono hk) hg hm KI hb hx ha cJ he hZ
end
end L2.DL
namespace HT
structure SB (kd:SortKind) (b:Array Keyed) (z:SortSt):Prop where
 pm:(arrOf z).Perm b
 kd:kindOf z=kd
 fl:failedOf z=none
 pn:pendingOf z=#[]
theorem SB.len {kd:SortKind}{b:Array Keyed}{z:SortSt}(g:SB kd b z):(arrOf z).size=b.size:=g.pm.size_eq
theorem SB.put {kd:SortKind}{b:Array Keyed}{z:SortSt}(g:SB kd b z) {c:Array Keyed}(q:c.Perm (arrOf z)):SB kd b (setArr z c):=⟨q.trans g.pm,g.kd,g.fl,g.pn⟩
section
def wo (prog:Program) (w:World) (A:Around) (E:Value->Shared->Prop) (s:Shared) (κ:KeyKind) (kd:SortKind) (b:Array Keyed):Prop :=
 ∀ (x y:Keyed),x∈b.toList->y∈b.toList->∀ (Q:Bool->Shared->Prop) (E':Value->Shared->Prop),Q (κ.blt ((κ.keyOf x.1).getD κ.dflt) ((κ.keyOf y.1).getD κ.dflt)) s->wpAny (model prog w) A (keyLt' kd x.1 y.1) Q E' s
variable {κ : KeyKind} {kd : SortKind} {b : Array Keyed}
noncomputable abbrev kx (κ:KeyKind) (z:SortSt) (i:Nat):κ.α:=KK κ (arrOf z) i
theorem SB.item {z:SortSt}(g:SB kd b z) (hi:i<b.size):∃ x,(arrOf z)[i]?=some x /\ x∈b.toList /\ kx κ z i=(κ.keyOf x.1).getD κ.dflt:=by
 have hz:i<(arrOf z).size:=g.len▸hi;refine⟨(arrOf z)[i],getElem?_pos _ i hz,(Array.perm_iff_toList_perm.mp g.pm).mem_iff.mp (by simp),?_⟩;simp only[kx,KK,getElem?_pos (arrOf z) i hz]
theorem ask (C:wo prog w A E s κ kd b) {z:SortSt}(g:SB kd b z) (hi:i<b.size) (hj:j<b.size) {Q:Option Bool->SortSt->Prop}
 (q:Q (some (κ.blt (kx κ z i) (kx κ z j))) z):wpS (model prog w) A E s (ltAt' i j) Q z:=by
 obtain⟨x,ex,mx,acx⟩:=g.item (κ:=κ) hi;obtain⟨y,ey,my,acy⟩:=g.item (κ:=κ) hj;rw[acx,acy]at q;rw[ltAt'_eq];refine eP (wpS_get ?_);dsimp only;rw[elem'_eq,elem'_eq,ex,ey];refine eP (nQ (eP (nQ ?_)));rw[lt'_eq];refine eP (wpS_get ?_);rw[g.kd];exact eP (wpS_lift (sy (C x y mx my _ _ ⟨rfl,nQ q⟩)))
def Up (κ:KeyKind) (z:SortSt) (n:Nat):Prop:=∀ i j,i<=j->j<n->κ.kle (kx κ z i) (kx κ z j)
def Dn (κ:KeyKind) (z:SortSt) (n:Nat):Prop:=∀ i j,i<=j->j<n->κ.kle (kx κ z j) (kx κ z i)
theorem Up.one {z:SortSt}(h:n<=1):Up κ z n:=λi j a c=>by
 have e:i=j:=by omega
 subst e;exact vO _
theorem Up.more {z:SortSt}(u:Up κ z n) (h:1<=n) (l:κ.kle (kx κ z (n-1)) (kx κ z n)):Up κ z (n+1):=λi j a c=>by
 rcases rj j n with c'|c'
 ·exact u i j a c'
 obtain rfl:j=n:=by omega
 rcases rj i j with a'|a'
 ·exact Ii (u i (j-1) (by omega) (by omega)) l
 ·obtain rfl:i=j:=by omega
  exact vO _
theorem Dn.more {z:SortSt}(u:Dn κ z n) (h:1<=n) (l:κ.kle (kx κ z n) (kx κ z (n-1))):Dn κ z (n+1):=λi j a c=>by
 rcases rj j n with c'|c'
 ·exact u i j a c'
 obtain rfl:j=n:=by omega
 rcases rj i j with a'|a'
 ·exact Ii l (u i (j-1) (by omega) (by omega))
 ·obtain rfl:i=j:=by omega
  exact vO _
theorem asc (C:wo prog w A E s κ kd b) {z:SortSt}(g:SB kd b z) {a:Nat}(hn:n<=b.size) (h1:1<=a) (h2:a<=n) (u:Up κ z a) {Q:AscSt->SortSt->Prop}
 (q:∀ m,a<=m->m<=n->Up κ z m->(m<n->κ.klt (kx κ z m) (kx κ z (m-1)))->Q (none,m) z):wpS (model prog w) A E s (ascLoop a n) Q z:=by
 unfold ascLoop;refine WI (I:=λm c y=>y=z /\ c=(none,m) /\ Up κ z m) ?_ ?_ ⟨rfl,rfl,u⟩
 ·intro m c y g1 g2 ⟨e1,e2,u'⟩;subst e1;subst e2;refine eP (ask C g (show m<b.size by omega) (show m-1<b.size by omega) ?_);cases e:κ.blt (kx κ y m) (kx κ y (m-1)) with
  |true=>exact nQ (q m g1 (nN g2) u' λ_=>e)
  |false=>exact nQ ⟨rfl,rfl,u'.more (by omega) e⟩
 ·intro c y ⟨e1,e2,u'⟩;subst e1;subst e2;rw[VR h2]at u' ⊢;exact q n h2 (aq n) u' λh=>absurd h (dE n)
theorem FF {z:SortSt}{k:Nat}(hj:j<=(arrOf z).size):kx κ (setArr z (mirror (arrOf z) i j ((j-i) / 2))) k=if i<=k /\ k<j then kx κ z (i+j-1-k) else kx κ z k:=KK_mirror (κ:=κ) hj k
theorem lK {z:SortSt}(hj:j<=(arrOf z).size) (e:∀ k,i<=k->k<j->kx κ z k=kx κ z (j-1)) (k:Nat):kx κ (setArr z (mirror (arrOf z) i j ((j-i) / 2))) k=kx κ z k:=KK_mirror_equal (κ:=κ) hj e k
def Ends (prog:Program) (w:World) (A:Around) (E:Value->Shared->Prop) (s:Shared) (κ:KeyKind) (kd:SortKind) (b:Array Keyed) (n:Nat) (Q:Option Nat->SortSt->Prop):Prop :=
 ∀ m y,SB kd b y->1<=m->m<=n->Up κ y m->Q (some m) y
theorem turned (C:wo prog w A E s κ kd b) {z:SortSt}(g:SB kd b z) {a:Nat}(hn:n<=b.size) (h1:1<=a) (h2:a<=n) (d:Dn κ z a) {Q:Option Nat->SortSt->Prop}(q:Ends prog w A E s κ kd b n Q) :
 wpS (model prog w) A E s (tail3 a n) Q z:=by
 have hz:a<=(arrOf z).size:=g.len▸bR h2 hn;have g':SB kd b (setArr z (mirror (arrOf z) 0 a ((a-0) / 2))):=g.put (zv _ _ _ _);unfold tail3;refine eP (zw (eP (asc C g' hn h1 h2 (λi j c1 c2=>?_) λm m1 m2 um _=>nQ (q m _ g' (bR h1 m1) m2 um))));rw[FF hz,FF hz,if_pos ⟨cG i,by omega⟩,if_pos ⟨cG j,c2⟩];exact d _ _ (by omega) (by omega)
def Alike (κ:KeyKind) (z:SortSt) (m e:Nat):Prop:=e+1<=m /\ ∀ i,m-(e+1)<=i->i<m->kx κ z i=kx κ z (m-1)
theorem Alike.zero {z:SortSt}{m:Nat}(h:1<=m):Alike κ z m 0:=⟨h,λi h1 h2=>by rw[show i=m-1 by omega]⟩
theorem desc (C:wo prog w A E s κ kd b) {z:SortSt}(g:SB kd b z) {a:Nat}(hn:n<=b.size) (h1:1<=a) (h2:a<=n) (d:Dn κ z a) {Q:DescSt->SortSt->Prop}
 (q:∀ m e y,SB kd b y->a<=m->m<=n->Dn κ y m->Alike κ y m e->Q (none,m,e) y):wpS (model prog w) A E s (descLoop a n) Q z:=by
 unfold descLoop;refine WI (I:=λm c y=>∃ e,c=(none,m,e) /\ SB kd b y /\ Dn κ y m /\ Alike κ y m e) ?_ ?_ ⟨0,rfl,g,d,.zero h1⟩
 ·intro m c y g1 g2 ⟨e,ec,gy,dy,al⟩;subst ec;have hm:m<=(arrOf y).size:=by rw[gy.len];omega
  refine eP (ask C gy (show m<b.size by omega) (show m-1<b.size by omega) ?_);cases t:κ.blt (kx κ y m) (kx κ y (m-1)) with
  | true =>
    have d':Dn κ y (m+1):=dy.more (by omega) (zx t);dsimp only;rw[if_pos rfl];by_cases he:e>0
    ·rw[if_pos he];refine eP (zw (nQ ⟨0,rfl,gy.put (zv _ _ _ _),λi j c1 c2=>?_,.zero (by omega)⟩));rw[lK hm al.2,lK hm al.2];exact d' i j c1 c2
    ·rw[if_neg he];exact nQ ⟨0,rfl,gy,d',.zero (by omega)⟩
  | false =>
    dsimp only;rw[if_neg (by simp)];refine eP (ask C gy (show m-1<b.size by omega) (show m<b.size by omega) ?_);cases t2:κ.blt (kx κ y (m-1)) (kx κ y m) with
    |true=>exact nQ (q m e y gy g1 (by omega) dy al)
    | false =>
      have eq:kx κ y m=kx κ y (m-1):=WS t2 t;refine nQ ⟨e+1,rfl,gy,dy.more (by omega) t2,by have:=al.1;omega,λi c1 c2=>?_⟩;rw[show m+1-1=m by omega];by_cases hi:i=m
      ·rw[hi]
      ·rw[eq];exact al.2 i (by omega) (by omega)
 ·intro c y ⟨e,ec,gy,dy,al⟩;subst ec;rw[VR h2]at dy al ⊢;exact q n e y gy h2 (aq n) dy al
theorem fall (C:wo prog w A E s κ kd b) {z:SortSt}(g:SB kd b z) {a:Nat}(hn:n<=b.size) (h2:a+1<=n) (d:Dn κ z (a+1)) {Q:Option Nat->SortSt->Prop}(q:Ends prog w A E s κ kd b n Q) :
 wpS (model prog w) A E s (descPart a n) Q z:=by
 unfold descPart;refine eP (wpS_lift (k6 ⟨rfl,eP (desc C g hn (Nat.succ_pos a) h2 d λm e y gy m1 m2 dy al=>?_)⟩));dsimp only;by_cases he:e>0
 ·rw[if_pos he];have hm:m<=(arrOf y).size:=by rw[gy.len];omega
  refine eP (zw (turned C (gy.put (zv _ _ _ _)) hn (by omega) m2 (λi j c1 c2=>?_) q));rw[lK hm al.2,lK hm al.2];exact dy i j c1 c2
 ·rw[if_neg he];exact turned C gy hn (by omega) m2 dy q
theorem count (C:wo prog w A E s κ kd b) {z:SortSt}(g:SB kd b z) (hn:n<=b.size) (h1:1<=n) {Q:Option Nat->SortSt->Prop}(q:Ends prog w A E s κ kd b n Q) :
 wpS (model prog w) A E s (countRun' 0 n) Q z:=by
 rw[countRun0_eq];refine eP (asc C g hn (aq 1) h1 (.one (aq 1)) λm m1 m2 um last=>?_);dsimp only;by_cases hm:m=n
 ·rw[if_pos (by simp[hm])];exact nQ (q m z g m1 m2 um)
 rw[if_neg (by simp[hm])];have lt:=last (by omega);by_cases h3:m>1
 ·rw[if_pos h3];refine eP (ask C g (show 0<b.size by omega) (show m-1<b.size by omega) ?_);cases t:κ.blt (kx κ z 0) (kx κ z (m-1)) with
  |true=>exact nQ (q m z g m1 m2 um)
  | false =>
    dsimp only;rw[if_neg (by simp)];have al:∀ k,0<=k->k<m->kx κ z k=kx κ z (m-1):=λk _ hk =>
     WS (um k (m-1) (by omega) (by omega)) (Ii t (um 0 k (cG k) hk))
    have hz:m<=(arrOf z).size:=by rw[g.len];omega
    refine eP (zw (fall C (g.put (zv _ _ _ _)) hn (by omega) (λi j c1 c2=>?_) q));rw[lK hz al,lK hz al];have d0:Dn κ z m:=λi j c1 c2=>by rw[al i (cG _) (by omega),al j (cG _) c2];exact vO _
    exact d0.more m1 (zx lt) i j c1 c2
 ·rw[if_neg h3];obtain rfl:m=1:=by omega
  have d0:Dn κ z 1:=λi j c1 c2=>by
   obtain rfl:i=j:=by omega
   exact vO _
  exact fall C g hn (by omega) (d0.more (aq 1) (zx lt)) q
end
section
variable {κ : KeyKind} {kd : SortKind} {b : Array Keyed}
def Fits (κ:KeyKind) (z:SortSt) (k l r:Nat):Prop:=(∀ i,i<l->κ.kle (kx κ z i) (kx κ z k)) /\ ∀ i,r<=i->i<k->κ.klt (kx κ z k) (kx κ z i)
theorem FG {z:SortSt}{k l:Nat}(hk:k<(arrOf z).size) (hl:l<=k):kx κ (setArr z (bubble (arrOf z) k (k-l))) i=if i=l then kx κ z k else if l<i /\ i<=k then kx κ z (i-1) else kx κ z i:=by
 have e:=KK_bubble (κ:=κ) hk (Nat.sub_le k l) i;rw[show k-(k-l)=l by omega]at e;exact e
theorem Up.insert {z:SortSt}{k l:Nat}(u:Up κ z k) (hk:k<(arrOf z).size) (hl:l<=k) (f:Fits κ z k l l):Up κ (setArr z (bubble (arrOf z) k (k-l))) (k+1):=by
 intro i j c1 c2;rw[FG hk hl,FG hk hl];by_cases i1:i=l
 ·rw[if_pos i1];by_cases j1:j=l
  ·rw[if_pos j1];exact vO _
  ·rw[if_neg j1,if_pos ⟨by omega,by omega⟩];exact zx (f.2 _ (by omega) (by omega))
 ·rw[if_neg i1];by_cases i2:l<i /\ i<=k
  ·rw[if_pos i2,if_neg (by omega),if_pos ⟨by omega,by omega⟩];exact u _ _ (by omega) (by omega)
  ·rw[if_neg i2];by_cases j1:j=l
   ·rw[if_pos j1];exact f.1 i (by omega)
   ·rw[if_neg j1];by_cases j2:l<j /\ j<=k
    ·rw[if_pos j2];exact u _ _ (by omega) (by omega)
    ·rw[if_neg j2];exact u _ _ c1 (by omega)
def acz (κ:KeyKind) (b:Array Keyed) (y:SortSt):Prop:=(arrOf y).Perm b /\ failedOf y=none /\ pendingOf y=#[(0,b.size,0)] /\ Up κ y b.size
theorem SB.fin {y:SortSt}(g:SB kd b y) (u:Up κ y b.size):acz κ b (setPending y ((pendingOf y).push (0,b.size,0))):=⟨g.pm,g.fl,by show (pendingOf y).push _=_;rw[g.pn];rfl,u⟩
end
def qR (h:Heap) (v:Value) (ns:List Int):Prop:=∃ a vs,v=.ref a /\ IsTup h a vs.toArray /\ IntsAre vs ns /\ ns≠[]
theorem lh:∀ {vs:List Value}{ns ms:List Int},IntsAre vs ns->IntsAre vs ms->ns=ms
 |_,_,_,.nil,.nil=>rfl
 |_,_,_,.cons n t h,g=>by cases g with|cons _ _ g=>rw[lh h g]
theorem qR.inj {v:Value}{ms:List Int}(p:qR h v ns) (q:qR h v ms):ns=ms:=by
 obtain⟨a,vs,rfl,⟨o,e1,_,n,e2⟩,i1,_⟩:=p;obtain⟨a',wa,e,⟨o',f1,_,n',f2⟩,i2,_⟩:=q;cases e;rw[e1]at f1;cases f1;rw[e2]at f2;injection f2 with g _;have:vs=wa:=by simpa using g
 subst this;exact lh i1 i2
theorem m8:∀ a,lexLt a a=false
 |[]=>rfl
 |x::a=>by rw[fR,if_pos rfl];exact m8 a
theorem mI:∀ a b c,lexLt a b=true->lexLt b c=true->lexLt a c=true
 |[],[],_,h,_=>by cases h
 |[],_::_,[],_,h=>by cases h
 |[],_::_,_::_,_,_=>rfl
 |_::_,[],_,h,_=>by cases h
 |_::_,_::_,[],_,h=>by cases h
 | x::a,y::b,z::c,h,g=>by
   rw[fR]at *;by_cases e1:x=y
   ·subst e1;rw[if_pos rfl]at h;by_cases e2:x=z
    ·subst e2;rw[if_pos rfl]at g ⊢;exact mI a b c h g
    ·rw[if_neg e2]at g ⊢;exact g
   ·rw[if_neg e1]at h;by_cases e2:y=z
    ·subst e2;rw[if_neg e1];exact h
    ·rw[if_neg e2]at g;have h':=of_decide_eq_true h;have g':=of_decide_eq_true g;rw[if_neg (by omega)];exact decide_eq_true (by omega)
theorem lL:∀ a b,lexLt a b=false->lexLt b a=false->a=b
 |[],[],_,_=>rfl
 |[],_::_,h,_=>by cases h
 |_::_,[],_,h=>by cases h
 | x::a,y::b,h,g=>by
   rw[fR]at *;by_cases e:x=y
   ·subst e;rw[if_pos rfl]at h g;rw[lL a b h g]
   ·rw[if_neg e]at h;rw[if_neg (Ne.symm e)]at g;have h':=of_decide_eq_false h;have g':=of_decide_eq_false g;omega
theorem Bg (a b c:List Int) (h:lexLt a c=true):lexLt a b=true \/ lexLt b c=true:=by
 cases e:lexLt a b with
 |true=>exact .inl rfl
 | false =>
   refine .inr ?_;cases f:lexLt b a with
   |true=>exact mI b a c f h
   |false=>rw[<-lL a b e f];exact h
open Classical in
def ae0 (h:Heap):KeyKind where
 α:=List Int
 blt:=lexLt
 irrefl:=m8
 trans:=mI
 negTrans:=Bg
 total:=lL
 keyOf v:=if p:∃ ns,qR h v ns then some p.choose else none
 dflt:=[]
structure KP (P:Heap->Value->List Int->Prop):Prop where
 inj:∀ {h:Heap}{v:Value}{ns ms:List Int},P h v ns->P h v ms->ns=ms
 push:∀ {h:Heap}{v:Value}{ns:List Int},P h v ns->∀ o:Obj,P (h.push o) v ns
 upd:∀ {h:Heap}{v:Value}{ns:List Int},P h v ns->∀ {l:Addr}{xs:Array Value}{n:Nat},h.get? l=some (seqObj "list" xs n)->∀ f:Obj->Obj,P (h.update l f) v ns
theorem qR.push {h:Heap}{v:Value}{ns:List Int}(p:qR h v ns) (o:Obj):qR (h.push o) v ns:=by
 obtain⟨a,vs,e,⟨u,e1,e2⟩,k⟩:=p;exact⟨a,vs,e,⟨u,aC _ e1,e2⟩,k⟩
theorem qR.upd {v:Value}(p:qR h v ns) {l:Addr}{xs:Array Value}(hl:h.get? l=some (seqObj "list" xs n)) (f:Obj->Obj):qR (h.update l f) v ns:=by
 obtain⟨a,vs,e,⟨u,e1,e2,e3⟩,k⟩:=p;refine⟨a,vs,e,⟨u,?_,e2,e3⟩,k⟩;by_cases q:l=a
 ·subst q;rw[hl]at e1;cases e1;injection (show Value.type "list"=Value.type "tuple" from e2) with e4;exact absurd e4 (by decide)
 ·rw[Heap.get?_update_ne _ _ _ _ (Ne.symm q)];exact e1
section
variable {P : Heap -> Value -> List Int -> Prop} (KQ : KP P)
open Classical in
noncomputable def ae1 (P:Heap->Value->List Int->Prop) (h:Heap):KeyKind where
 α:=List Int
 blt:=lexLt
 irrefl:=m8
 trans:=mI
 negTrans:=Bg
 total:=lL
 keyOf v:=if p:∃ ns,P h v ns then some p.choose else none
 dflt:=[]
include KQ
omit KQ
end
end HT
namespace L2.DL
end L2.DL
namespace HT
inductive cR where
 |i (n:Int)|s (x:Str)|t (ns:List Int)
noncomputable def cR.code:cR->List Int
 |.i n=>[n]
 |.s x=>x.cps.toList.map (λ(c:Nat)=>(c:Int)+1)++[0]
 |.t ns=>ns.flatMap (λn=>[1,n])++[0]
noncomputable def cR.like:cR->cR->Bool
 |.i _,.i _=>true
 |.s _,.s _=>true
 |.t _,.t _=>true
 |_,_=>false
def acA (l:List cR):List Int:=l.flatMap (λd=>1::d.code)++[0]
def acB (l m:List cR):Bool:=(l.zip m).all λp=>p.1.like p.2
theorem Cw (r q:List Int):∀ (a b:List Nat),a≠b->lexLt ((a.map λ(c:Nat)=>(c:Int)+1)++[0]++r) ((b.map λ(c:Nat)=>(c:Int)+1)++[0]++q)=decide (a<b)
 |[],[],h=>absurd rfl h
 | [],y::b,_=>by
   show lexLt (0::_) (((y:Int)+1)::_)=_;rw[fR,if_neg (by omega),decide_eq_true (by omega),decide_eq_true (by simp)]
 | x::a,[],_=>by
   show lexLt (((x:Int)+1)::_) (0::_)=_;rw[fR,if_neg (by omega),decide_eq_false (by omega),decide_eq_false (by simp)]
 | x::a,y::b,h=>by
   show lexLt (((x:Int)+1)::_) (((y:Int)+1)::_)=_;rw[fR];by_cases e:x=y
   ·subst e;rw[if_pos rfl];have ih:=Cw r q a b (λz=>h (by rw[z]));refine ih.trans ?_;by_cases c:a<b
    ·rw[decide_eq_true c,decide_eq_true (by simpa using c)]
    ·rw[decide_eq_false c,decide_eq_false (by simpa using c)]
   ·rw[if_neg (by omega)];by_cases c:x<y
    ·rw[decide_eq_true (by omega),decide_eq_true (List.cons_lt_cons_iff.mpr (.inl c))]
    ·rw[decide_eq_false (by omega),decide_eq_false ?_];intro z;rcases List.cons_lt_cons_iff.mp z with z|z
     ·omega
     ·omega
theorem Cz (r q:List Int):∀ (a b:List Int),a≠b->lexLt (a.flatMap (λn=>[1,n])++[0]++r) (b.flatMap (λn=>[1,n])++[0]++q)=lexLt a b
 |[],[],h=>absurd rfl h
 | [],y::b,_=>by
   show lexLt (0::_) (1::_)=_;rw[fR,if_neg (by omega)];rfl
 | x::a,[],_=>by
   show lexLt (1::_) (0::_)=_;rw[fR,if_neg (by omega)];rfl
 | x::a,y::b,h=>by
   show lexLt (1::x::(a.flatMap (λn=>[1,n])++[0]++r)) (1::y::(b.flatMap (λn=>[1,n])++[0]++q))=_;rw[fR,if_pos rfl,fR,fR];by_cases e:x=y
   ·subst e;rw[if_pos rfl,if_pos rfl];exact Cz r q a b λz=>h (by rw[z])
   ·rw[if_neg e,if_neg e]
def cR.lt:cR->cR->Bool
 |.i n,.i m=>decide (n<m)
 |.s x,.s y=>decide (x.cps.toList<y.cps.toList)
 |.t n,.t m=>lexLt n m
 |_,_=>false
theorem cR.app (r q:List Int):∀ {a b:cR},a.like b=true->a≠b->lexLt (a.code++r) (b.code++q)=a.lt b
 | .i n,.i m,_,h=>by
   show lexLt (n::r) (m::q)=_;rw[fR,if_neg (λz=>h (by rw[z]))];rfl
 |.s x,.s y,_,h=>Cw r q _ _ λz=>h (by
  obtain⟨⟨a⟩⟩:=x;obtain⟨⟨b⟩⟩:=y;have z':a=b:=z;rw[z'])
 |.t n,.t m,_,h=>Cz r q n m λz=>h (by rw[z])
open Classical in
def acC:List cR->List cR->Bool
 |[],m=>!m.isEmpty
 |_::_,[]=>false
 |a::l,b::m=>if a=b then acC l m else a.lt b
noncomputable def uV (h:Heap) (v:Value):cR->Prop
 |.i n=>∃ t,v=.int n t
 |.s x=>∃ t,v=.str x t
 |.t ns=>∃ a vs,v=.ref a /\ IsTup h a vs.toArray /\ IntsAre vs ns
inductive rW (h:Heap):List Value->List cR->Prop
 |nil:rW h [] []
 |cons {v:Value}{d:cR}{vs:List Value}{l:List cR}:uV h v d->rW h vs l->rW h (v::vs) (d::l)
theorem uV.inj {v:Value}:∀ {a b:cR},uV h v a->uV h v b->a=b
 |.i n,.i m,⟨t,e⟩,⟨u,f⟩=>by rw[e]at f;cases f;rfl
 |.s n,.s m,⟨t,e⟩,⟨u,f⟩=>by rw[e]at f;cases f;rfl
 | .t n,.t m,⟨a,vs,e,⟨o,e1,_,k,e2⟩,i1⟩,⟨a',wa,f,⟨o',f1,_,k',f2⟩,i2⟩=>by
   rw[e]at f;cases f;rw[e1]at f1;cases f1;rw[e2]at f2;injection f2 with g _;have:vs=wa:=by simpa using g
   subst this;rw[lh i1 i2]
 |.i n,.s m,⟨t,e⟩,⟨u,f⟩=>by rw[e]at f;cases f
 |.s n,.i m,⟨t,e⟩,⟨u,f⟩=>by rw[e]at f;cases f
 |.i n,.t m,⟨t,e⟩,⟨_,_,f,_⟩=>by rw[e]at f;cases f
 |.s n,.t m,⟨t,e⟩,⟨_,_,f,_⟩=>by rw[e]at f;cases f
 |.t n,.i m,⟨_,_,e,_⟩,⟨u,f⟩=>by rw[e]at f;cases f
 |.t n,.s m,⟨_,_,e,_⟩,⟨u,f⟩=>by rw[e]at f;cases f
theorem rW.inj {h:Heap}{vs:List Value}{l m:List cR}(p:rW h vs l) (q:rW h vs m):l=m:=by
 induction p generalizing m with
 |nil=>cases q;rfl
 |cons a _ ih=>cases q with|cons b q=>rw[a.inj b,ih q]
theorem uV.keep {v:Value}{d:cR}(p:uV h v d) (k:∀ a vs,IsTup h a vs->IsTup h' a vs):uV h' v d:=by
 cases d with
 |i n=>exact p
 |s x=>exact p
 |t ns=>obtain⟨a,vs,e,t,i⟩:=p;exact⟨a,vs,e,k _ _ t,i⟩
theorem rW.keep {h h':Heap}{vs:List Value}{l:List cR}(p:rW h vs l) (k:∀ a vs,IsTup h a vs->IsTup h' a vs):rW h' vs l:=by
 induction p with
 |nil=>exact .nil
 |cons a _ ih=>exact .cons (a.keep k) ih
end HT
namespace L2.DL
open HT (cR acA acB lexLt)
theorem Bh:∀ {l:List D}{ns:List Int},intsOf l=some ns->l=ns.map D.int
 |[],_,e=>by cases e;rfl
 | .int i::l,ns,e=>by
   unfold intsOf at e;cases q:intsOf l with
   |none=>rw[q]at e;cases e
   |some ms=>rw[q]at e;cases e;rw[Bh q];rfl
 |.non::_,_,e=>by cases e
 |.bl _::_,_,e=>by cases e
 |.str _::_,_,e=>by cases e
 |.tup _::_,_,e=>by cases e
 |.lst _::_,_,e=>by cases e
 |.ah _::_,_,e=>by cases e
def nE:List D->Option Res:=yf
theorem DO (hu:X.A.units+100<cLine):eE X (.builtin "sorted") (Ea X.K):=GZ
theorem acD:dW (Ea K) nE:=ab6
end L2.DL
namespace L2
theorem N8 {src:List (Option Nat)}{scope:Scope}{pos' yq:Pos}{wi:TI}{g:TG}{tf:TT}{te:TE}{ii:Nat} 
 (hc:X.calm=true) (S:kQ X N src scope) (hi:PI X tg iter wi)
 (hg:∀ cl s H C fp,PG (X.comp N scope cl s H C fp) tg g) (hf:∀ cl s H C fp,PF (X.comp N scope cl s H C fp) ifs tf) (he:∀ cl s H C fp,PE (X.comp N scope cl s H C fp) elt te)
 (hN:X.N.Nodup) (qS:X.N[ii]?=some x) (hx:Loc X.env.scope x) (KJ:swapsWith (.ListComp elt [⟨tg,iter,ifs,0⟩] scope pos) (some (.Name x pos')) yq.line X.env=pure true)
 (KL:X.fn x=true \/ X.env.scope.names.lookup x=some .local)
 (hs:∀ x,foldedSetIterable iter X.env x=pure x):PS X (.Assign [.Name x pos'] (.ListComp elt [⟨tg,iter,ifs,0⟩] scope pos) yq) (zH (zV src wi g tf te) (ID ii)):=by
 intro pins s σ H Dn I h;rw[exec_Assign_Name_used _ _ _ _ KJ];refine ae (rf (ae ?_))
 change wpAny _ X.A (do let _ <-comprehension (.ListComp elt [⟨tg,iter,ifs,0⟩] scope pos) scope X.env _ (newList []) false (eval iter X.env) (some (assign (.Name x pos') X.env))) _ _ s
 refine ae (cM (Hf (use:=some (assign (.Name x pos') X.env)) (Q:=λ_ s'=>SP X pins Dn .next s') rfl hs (lY (S.cells I.ok)) S.kind S.names (ai (hi pins s σ H _ I h) λxv s1 h1=>ai h1 λvU s2 h2=>?_)) (λ_ s' hq=>ag (ag hq)) λ_ _ q=>q);obtain⟨it,fp,tn,J,H2,e,I2,T,nq,f2,hW⟩:=h2;subst e;refine cT ?_;generalize hD:s2.heap.objs.size=D;have xK:H2 D=none:=I2.ak.fresh (sF hD);have I3:Inv X pins σ (upd H2 D (.lst [])) { s2 with heap:=s2.heap.push { cls:=.type "list",dict:=none,data:=.seq ([]:List Value).toArray } }:=by
  subst hD;exact I2.laid (t':=s2.toks) (λb u e=>aC _ e) (aq _) ⟨cG _,[],0,.nil,aU _ rfl⟩
 obtain⟨W,⟨m0,w0⟩,turn⟩:=hW D xK;have up:∀ b o,s2.heap.get? b=some o->(s2.heap.push { cls:=.type "list",dict:=none,data:=.seq ([]:List Value).toArray }).get? b=some o:=λb u e=>aC _ e;have xM:=T.obj _ _ nq;have pM:tn 0 (s2.heap.push { cls:=.type "list",dict:=none,data:=.seq ([]:List Value).toArray }):=T.keep _ _ _ nq λb _ o e=>up b o e;have sY:∀ b∈fp,b<s2.heap.objs.size:=λb hb=>by obtain⟨o,e,_⟩:=xM b hb;exact aM e
 have f3:∀ b∈fp,dj X pins (upd H2 D (.lst [])) b:=λb hb=>⟨by rw[fG (by rw[<-hD];exact bH (sY b hb))];exact(f2 b hb).1,(f2 b hb).2⟩;generalize xO:({ s2 with heap:=s2.heap.push { cls:=.type "list",dict:=none,data:=.seq ([]:List Value).toArray } }:Shared)=s3 at I3 ⊢;have sZ:s3.heap=s2.heap.push { cls:=.type "list",dict:=none,data:=.seq ([]:List Value).toArray }:=by rw[<-xO]
 rw[<-sZ]at pM;have Kk:∀ b∈fp,b<s3.heap.objs.size:=λb hb=>by rw[sZ,qo];exact k7 (sY b hb)
 generalize abE:upd H2 D (.lst [])=H3 at I3 f3 w0;refine l6 ?_;generalize tj:pushCells (s3.heap.push { cls:=.type "dict",data:=.dict #[] }) scope.names=h₁;have k1:∀ b o,s3.heap.get? b=some o->h₁.get? b=some o:=λb o e=>by rw[<-tj];exact wW _ _ b o (aC _ e)
 have IY:=Ac S I3 (λb hb=>⟨f3 b hb,Kk b hb⟩) (s':={ s3 with heap:=h₁ }) (by rw[tj]);have tm:tn 0 h₁:=T.keep _ _ _ pM λb _ o e=>k1 b o e;generalize uA:cellsFrom (s3.heap.objs.size+1) scope.names (c6 X.env.cells scope.names [])=cl at IY ⊢;generalize hC:s3.heap.objs.size=C at IY ⊢;have qD:∀ {H':Hp},(∀ b∈fp,H' b=none)->∀ b∈fp,dj (X.comp N scope cl s3 H3 C fp) [] H' b:=λhn b hb=>by
  refine⟨hn b hb,?_,?_,.inl hb,?_,λp hp=>absurd (show p∈([]:List (Addr×Obj)) from hp) (by simp)⟩
  ·exact(IY.ok.sM b hb).1
  ·exact IY.ok.ur b hb
  ·intro x c e z;exact(IY.ok.sM b hb).2 x c e z
 have fin:∀ (σ':St) (H':Hp) (s':Shared),Inv (X.comp N scope cl s3 H3 C fp) [] σ' H' s'->∀ h',Heap.SameBut C s'.heap h'->Inv X pins σ H' { s' with heap:=h' }:=λσ' H' s' I' h' nZ=>by
  have qE:H' C=none:=I'.free;have kp:∀ b o,b≠C->s'.heap.get? b=some o->h'.get? b=some o:=λb o hb e=>nZ.extBut b o hb e;have xQ:s3.heap.get? C=none:=by rw[<-hC];exact vH (aq _)
  have hJ:∀ b o,s3.heap.get? b=some o->b≠C:=λb o e z=>by rw[z,xQ]at e;cases e
  have U:=I'.base;refine I3.Iy (s':={ s' with heap:=h' }) (ch:=fp) I'.os ⟨λb o e n hb hx=>kp b o (hJ b o e) (U.keep b o e n hb hx),λb o e n hb hx=>?_,U.free,λb o e hx=>?_,U.pI,U.nU,U.pJ⟩ ?_ I'.bare λb hb=>?_
  ·obtain⟨sl,e1⟩:=U.slot b o e n hb hx;exact⟨sl,kp b _ (hJ b o e) e1⟩
  ·obtain⟨o',e1⟩:=U.there b o e hx;exact⟨o',kp b o' (hJ b o e) e1⟩
  ·intro b ob e;refine(I'.ak b ob e).hG (λc w' bz q=>kp c w' (λz=>?_) q) (λ_ q=>q) λ_ _ q=>q;rcases bz with z1|z1
   ·rw[<-z1,z,qE]at e;cases e
   ·rw[z,qE]at z1;cases z1
  ·exact⟨(f3 b hb).2.2.2.1,(f3 b hb).2.1,λx c e=>(f3 b hb).2.2.2.2.1 x c e,(f3 b hb).2.2.2.2.2⟩
 have loop:∀ s4:Shared,s4={ s3 with heap:=h₁ } ->
  codeAny (model X.prog X.w) X.A (.compLoop (.ListComp elt [⟨tg,iter,ifs,0⟩] scope pos) 0 (.ref it) (.ref D) (compEnvC scope cl C X.env)) (compPost (model X.prog X.w) X.A X.xe (some (assign (.Name x pos') X.env)) (λ_ s'=>SP X pins Dn .next s') (.ref D) C) s4:=by
  rintro s4 rfl;refine mF (λn s'=>∃ i σ' H',Inv (X.comp N scope cl s3 H3 C fp) [] σ' H' s' /\ tn i s'.heap /\ (∀ b∈fp,H' b=none) /\ W i n σ' H') _ (λ_ _ _ q=>q) ?_ m0 ⟨0,_,H3,IY,tm,λb hb=>(f3 b hb).1,w0⟩;rintro n s5 ⟨i,σ5,H5,I5,nW,qv,w5⟩;have cK:∀ {α:Type}{t:Sem α}{Q1:α->Shared->Prop}{E1:Value->Shared->Prop}{ss:Shared},wpAny (model X.prog X.w) X.A t Q1 (λ_ _=>False) ss->wpAny (model X.prog X.w) X.A t Q1 E1 ss:=λhw=>cM hw (λ_ _ q=>q) λ_ _ z=>False.elim z;rcases turn i n σ5 H5 w5 with⟨stop,q5⟩|⟨go,NN,hN,step⟩
  ·refine cK (ai (T.done (X.comp N scope cl s3 H3 C fp) rfl rfl rfl hc i [] s5 σ5 H5 (λ_ _=>False) I5 (qD qv) nW stop) λr s6 ⟨hr,I6⟩=>?_);subst hr;obtain⟨m6,xR,_⟩:=I6.loc;have IX:Inv X pins σ H5 s6:=fin σ5 H5 s6 I6 s6.heap (Heap.SameBut.refl ..)
   change wpAny _ X.A (assign (.Name x pos') X.env (.ref D)) _ _ s6
   refine Vm (A3 (v:=.ref D) IX hN qS hx rfl (λs7 I7 ⟨a,sb,ha⟩=>?_) KL);have acE:C≠a:=λz=>by
    rcases ha with w1|w1
    ·have l1:X.env.locals<s3.heap.objs.size:=I3.lt;rw[<-w1,<-z,<-hC]at l1;exact dE _ l1
    ·obtain⟨v1,o1,w2,_⟩:=I3.cell x a w1;have l1:=aM w2;rw[<-z,<-hC]at l1;exact dE _ l1
   refine⟨m6,xR.sameBut sb acE,λh' nZ=>?_⟩;have qE:H5 C=none:=I6.free;refine⟨σ.set ii (some (.ref D)),H5,?_,q5⟩;have acF:X.env.locals≠C:=λz=>by have l1:=I3.lt;rw[z,<-hC]at l1;exact dE _ l1
   refine I7.turned (t':=s7.toks) (it:=C) (λb o hb e=>nZ.extBut b o hb e) qE (Ne.symm acF) (.inr ?_) (λy c e z=>?_) (λp hp z=>?_)
   ·rw[<-hC];exact I3.sz
   ·obtain⟨v1,o1,w2,_⟩:=I3.cell y c e;have l1:=aM w2;rw[z,<-hC]at l1;exact dE _ l1
   ·have l1:=aM (I3.pin p hp).1;rw[z,<-hC]at l1;exact dE _ l1
  ·refine cK (ai (T.item (X.comp N scope cl s3 H3 C fp) rfl rfl rfl hc i [] s5 σ5 H5 (λ_ _=>False) I5 (qD qv) nW go) λr s6 ⟨u,hr,h6⟩=>?_);subst hr;refine cK (ai h6 λ_ s7 ⟨x,H7,I7,r7,y7,qG,xS⟩=>?_);have xT:=I7.pinned (qD xS) (T.obj _ _ qG);refine cK (ai (hg cl s3 H3 C fp _ s7 σ5 H7 x u _ xT r7 (step x H7 y7)) λ_ s8 ⟨σ8,H8,I8,q8⟩=>?_);refine cK (ai (hf cl s3 H3 C fp _ s8 σ8 H8 _ I8 q8) λb s9 ⟨H9,I9,q9⟩=>?_);have again:∀ {σ9:St}{HA:Hp}{sA:Shared},Inv (X.comp N scope cl s3 H3 C fp) ([]++rF fp s7.heap) σ9 HA sA->NN σ9 HA->∃ m,m<n /\ ∃ i σ' H',Inv (X.comp N scope cl s3 H3 C fp) [] σ' H' sA /\ tn i sA.heap /\ (∀ b∈fp,H' b=none) /\ W i m σ' H':=λ{σ9 HA sA} IA nA=>by
    obtain⟨m',hm,wA⟩:=hN σ9 HA nA;refine⟨m',hm,i+1,σ9,HA,IA.sP,T.keep _ _ _ qG λb hb o e=>(IA.pin (b,o) (bT _ (bT _ (gK hb e)))).1,λb hb=>?_,wA⟩;obtain⟨o,e,d⟩:=T.obj _ _ qG b hb;exact(IA.pin (b,o) (bT _ (bT _ (gK hb e)))).2.1
   cases b with
   | false =>
     rw[if_neg (by decide)]at q9;rw[if_neg (by decide)];exact again I9 q9
   | true =>
     rw[if_pos rfl]at q9;rw[if_pos rfl];refine cK (ai (he cl s3 H3 C fp _ s9 σ8 H9 _ I9 q9) λyv sA ⟨y,HA,IA,rA,ys,Kl,Km,nA⟩=>?_);refine cK (ai (mY _ sA σ8 HA (.ref D) [y] (.ref D) [yv] (λ_ HB=>NN σ8 HB) IA rfl (.cons rA .nil) ⟨D,ys,y,rfl,rfl,Kl,Km,nA⟩) λr sB hB=>?_);obtain⟨_,HB,IB,_,nB⟩:=hB;exact again IB nB
 exact VB (loop _ rfl) (T.self _ 0 _ _ _ tm (loop _ rfl))
end L2
namespace L2.DL
section
variable {src : List (Option Nat)} {scope : Scope} {pos' yq : Pos} {g : DG} 
theorem Lz (i:Nat) (bo:Bool) (hc:X.calm=true) (S:kQ X N src scope) (hi:ny X T Z tg iter mi)
 (hg:∀ T cl s H C fp,dY (X.comp N scope cl s H C fp) T tg g) (hf:∀ T cl s H C fp,PF (X.comp N scope cl s H C fp) ifs (eU T ⟨E0,Z.cl⟩ tf)) (he:∀ T cl s H C fp,PD (X.comp N scope cl s H C fp) T ⟨E0,Z.cl⟩ elt te)
 (hN:X.N.Nodup) (qS:X.N[i]?=some x) (hx:Loc X.env.scope x) (KJ:swapsWith (.ListComp elt [⟨tg,iter,ifs,0⟩] scope pos) (some (.Name x pos')) yq.line X.env=pure true)
 (KL:X.fn x=true \/ X.env.scope.names.lookup x=some .local)
 (hs:∀ x,foldedSetIterable iter X.env x=pure x):dq X T Z (.Assign [.Name x pos'] (.ListComp elt [⟨tg,iter,ifs,0⟩] scope pos) yq) (fH (fA bo src mi g tf te) (fc i)):=by
 refine PS.imp (N8 (src:=src) (g:=xW g) (tf:=xX ⟨E0,Z.cl⟩ tf) (te:=xY ⟨E0,Z.cl⟩ te) hc S hi (λcl s H C fp pins s' σ' H' v u Q I rv ⟨T,q⟩=>hg T cl s H C fp pins s' σ' H' v u Q I rv q)
  (λcl s H C fp pins s' σ' H' Q I ⟨T,q⟩=>hf T cl s H C fp pins s' σ' H' Q I q) (λcl s H C fp pins s' σ' H' Q I ⟨T,q⟩=>he T cl s H C fp pins s' σ' H' Q I q) hN qS hx KJ KL hs) λD σ H ⟨F,r,env,bx,R,h⟩=>?_
 refine Lj (T:=T) (Z:=Z) (bo:=bo) (mi:=mi) (g:=g) (tf:=tf) (te:=te) (Q:=λv H1=>D.nx (σ.set i (some v)) H1) ⟨F,r,env,bx,R,End.bO h λw bx1 F1 r1 v H1 g1 R1 d1 h1=>h1 F1 r1 _ H1 (.refl F1 r1) (R1.set d1 i)⟩
end
noncomputable def aR:Expr->Bool
 |.Starred _ _=>false
 |_=>true
def ki:List Expr->Bool
 |[]=>true
 |e::es=>aR e&&ki es
theorem fk (h:aR e=true) (es:List Expr) (env:Env):starEach (e::es) env=(false,eval e env)::starEach es env:=by
 cases e<;>first|rfl|cases h
theorem gW {env:Env}{pos:Pos}:∀ {es:List Expr},ki es=true->(backTo pos (starEach es env)).any (·.1)=false
 |[],_=>rfl
 | e::es,h=>by
   have h':(aR e&&ki es)=true:=h;rw[aE]at h';rw[fk h'.1];show (false||(backTo pos (starEach es env)).any (·.1))=false;rw[gW h'.2];rfl
theorem gO (h:ki (e::es)=true):aR e=true /\ ki es=true:=by
 have h':(aR e&&ki es)=true:=h
 rwa [aE]at h'
theorem ls (h:aR e=true) (es:List Expr) (env:Env):assignEach (e::es) env=(false,assign e env)::assignEach es env:=by
 cases e<;>first|rfl|cases h
theorem iY {env:Env}:∀ {es:List Expr},ki es=true->(assignEach es env).length=es.length /\ (assignEach es env).findIdx? (·.1)=none
 |[],_=>⟨rfl,rfl⟩
 | e::es,h=>by
   obtain⟨h1,h2⟩:=gO h;obtain⟨a,b⟩:=iY (env:=env) h2;rw[ls h1];exact⟨by rw[a9,a9,a],by rw[List.findIdx?_cons,b];rfl⟩
section
variable {a b : Expr} {mb mc : DE W} {p p1 : Pos} {k k' nn : Nat} {ps : List Str} {m : DE (List W)}
theorem jD (ha:PD X T Z e ma) (hr:bX X T Z es m) (hn:aR e=true):bX X T Z (e::es) (fb ma m):=La ha hr (fk hn es X.env)
theorem T3 {id:String}{g:List D->Option Res}(bo:Bool) (hc:eE X (.builtin id) q) (hk:dW q g) (hg:Gl X x) (hm:X.mg x=none) (hv:bootBuiltins x=some (.builtin id)) (ha:bX X T Z (e::es) m)
 (cc:ki (e::es)=true) (hn:x ≠ "__name__") (cJ:(x==("__debug__":Str))=false):PD X T Z (.Call (.Name x p) (e::es) [] pos) (dN bo g m):=
 Ld bo hc hk hg hm hv ha hn cJ (fk (gO cc).1 es X.env) (gW (gO cc).2)
theorem Su {id:String}{g:List D->Option Res}(bo:Bool) (hc:eE X (.type id) q) (hk:dW q g) (hg:Gl X x) (hm:X.mg x=none) (hv:bootBuiltins x=some (.type id)) (ha:bX X T Z (e::es) m)
 (cc:ki (e::es)=true) (hn:x ≠ "__name__") (cJ:(x==("__debug__":Str))=false):PD X T Z (.Call (.Name x p) (e::es) [] pos) (dN bo g m):=
 GV bo hc hk hg hm hv ha hn cJ (fk (gO cc).1 es X.env) (gW (gO cc).2)
theorem T4 (h:pd X.prog X.w X.K X.mg X.base Z.cl k x ps fn) (hr:cZ k' X.A) (hk:k<=k') (hg:Gl X x) (hx:Passes (nu X.prog X.w) X Z.E) (ha:bX X T Z (e::es) m)
 (cc:ki (e::es)=true) (hn:ps.length=nn) (cJ:(x==("__debug__":Str))=false):PD X T Z (.Call (.Name x p) (e::es) [] pos) (fj fn nn m):=
 Ss h hr hk hg hx ha cJ (fk (gO cc).1 es X.env) (gW (gO cc).2) hn
theorem T5 {n:String}(hT:nz X.K n) (hg:Gl X "isinstance") (hm:X.mg "isinstance"=none) (dr:Gl X x) (eu:X.mg x=none) (hv:bootBuiltins x=some (.type n)) (ha:PD X T Z a ma) (hs:aR a=true)
 (hn:x ≠ "__name__") (cJ:(x==("__debug__":Str))=false):PD X T Z (.Call (.Name "isinstance" p) [a,.Name x p1] [] pos) (iM n ma):=
 NU hT hg hm dr eu hv ha hn cJ (fk hs _ X.env) (fk rfl _ X.env) (gW rfl)
theorem DP {g:DG}{q:h8}(h1:dY X T e g) (h2:qL X T es q) (hn:aR e=true:=by rfl):qL X T (e::es) (fJ g q):=GW h1 h2 (by rw[ls hn];rfl)
theorem T6 {q:h8}(hc:X.calm=true) (h:qL X T es q) (cc:ki es=true) (hn:es.length=nn):dY X T (.Tuple es i pos) (ia nn q):=
 NL hc h ((iY cc).1.trans hn) (iY cc).2
end
open PySem.W
section
variable {a b : Expr} {mb mc : DE W} {p np aX rp ae2 : Pos} {body : List Stmt} {m k : aj} {n : Str} {c : Nat} {R : Addr}
noncomputable def kj:aj:=λ_ _=>.bad
theorem gY:dq X T Z st kj:=λ_ _ _ _ _ _ h=>by
 obtain⟨_,_,_,_,_,h⟩:=h;exact h.elim
end
section
variable {k : Nat} {ps : List Str} {m : aj} {nn kk : Nat}
end
noncomputable def uW (n:Nat):List V:=(List.range n).map λ(i:Nat)=>V.int (i:Int)
theorem A0:∀ {n:Nat}{acc:Array Value},ItemsOf (λi v=>∃ t,v=Value.int (0+(i:Int)*1) t) acc n->Vals (uW n) acc.toList:=by
 intro n acc h;have key:∀ (k:Nat) (l:List Value),(∀ j v,l[j]?=some v->∃ t,v=Value.int ((k+j:Nat):Int) t)->Vals ((List.range' k l.length).map λ(i:Nat)=>V.int (i:Int)) l:=by
  intro k l;induction l generalizing k with
  |nil=>intro _;exact .nil
  | cons v l ih =>
    intro h;obtain⟨t,e⟩:=h 0 v rfl;rw[a9,List.range'_succ,aQ];refine .cons ⟨t,by simpa using e⟩ (ih (k+1) λj u q=>?_);obtain⟨t',e'⟩:=h (j+1) u (by simpa using q);exact⟨t',by rw[e',show k+(j+1)=k+1+j by omega]⟩
 have:=key 0 acc.toList λj v q=>by
  obtain⟨t,e⟩:=h.2 j v (by rw[nR]at q;exact q);exact⟨t,by rw[e];simp⟩
 unfold uW;rw[List.range_eq_range',<-h.1];simpa using this
section
variable {a : Expr} {p p2 dM : Pos} {ta : TA} 
theorem G5:bootBuiltins "list"=some (.type "list"):=by decide +kernel
def acG (ta:TA):TE:=λσ H Q=>ta σ H λvs H1=>∃ j:Int,vs=[.int j] /\ -(2 ^ 62)<=j /\ j<=2 ^ 24 /\ ∀ l,H1 l=none->Q (.ref l) (upd H1 l (.lst (uW j.toNat)))
theorem BG (hc:X.calm=true) (hg:Gl X "list") (hm:X.mg "list"=none) (dr:Gl X "range") (eu:X.mg "range"=none) (ha:PA X [a] ta) (hs:aR a=true):PE X (.Call (.Name "list" p) [.Call (.Name "range" p2) [a] [] dM] [] pos) (acG ta):=by
 intro pins s σ H Q I h;refine kJ (gJ I hg hm G5 ?_ (by decide) (by decide));refine uh ?_ (fk (e:=.Call (.Name "range" p2) [a] [] dM) rfl [] X.env) (gW (es:=[]) rfl);rw[fk (e:=.Call (.Name "range" p2) [a] [] dM) rfl [] X.env];show wpAny _ _ (spliced ((false,eval (.Call (.Name "range" p2) [a] [] dM) X.env)::backTo pos (starEach [] X.env))) _ _ s;refine qp ?_;refine kJ (gJ I dr eu HY ?_ (by decide) (by decide));refine uh (ai (ha dM pins s σ H _ I h) λus s1 ⟨vs,H1,I1,r1,q1⟩=>?_) (fk hs [] X.env) rfl;obtain⟨j,e,b1,b2,q⟩:=q1;subst e;cases r1 with
 | cons r rr =>
   cases rr;obtain⟨t,rfl⟩:=r;refine Vp ?_;refine sJ ?_;have hn:((j.toNat:Nat):Int)=Builtin.Range.rangeSize 0 j 1:=by rw[Vo];split<;>omega
   refine call_list_range (I1.ok.hd hc) (IsRange.new ..) (small_one (by omega) (by omega) b1 (by omega)) hn.symm (by omega) λh' tk Eg c' kp e it=>?_;have rv:=A0 it;have sz:=bp;have hz:(uW j.toNat).length<=sizeLine:=by
    unfold uW;rw[aA,sH];omega
   refine⟨.ref _,_,(I1.kept (λb o z=>aC _ z)).laid (t':=tk) kp (aq _) (show bE X.prog X.w _ h' _ (.lst (uW j.toNat)) from⟨hz,Eg.toList,c',rv,by simpa using e⟩),rfl,q _ (I1.ak.fresh (by simp[Heap.push]))⟩
def uX (bo:Bool) (k:DE (List W)):DE W:=λenv bx=>fm (k env bx) λws bx1=>match ws with
 |[.d (.int j)]=>if -(2 ^ 62)<=j /\ j<=2 ^ 24 then bJ bo (some (.lst ((List.range j.toNat).map λ(i:Nat)=>D.int (i:Int)))) bx1 else .bad
 |_=>.bad
theorem G6 (n:Nat):ao F ((List.range n).map λ(i:Nat)=>D.int (i:Int)) (uW n):=by
 have key:∀ l:List Nat,ao F (l.map λ(i:Nat)=>D.int (i:Int)) (l.map λ(i:Nat)=>V.int (i:Int)):=by
  intro l;induction l with
  |nil=>exact rfl
  |cons i l ih=>exact .cons (show Den F (.int i) (.int i) from rfl) ih
 exact key _
theorem T7 (bo:Bool) (hc:X.calm=true) (hg:Gl X "list") (hm:X.mg "list"=none) (dr:Gl X "range") (eu:X.mg "range"=none) (ha:bX X T Z [a] ks) (hs:aR a=true):PD X T Z (.Call (.Name "list" p) [.Call (.Name "range" p2) [a] [] dM] [] pos) (uX bo ks):=by
 refine PE.imp (BG hc hg hm dr eu ha hs) λσ H Q ⟨F,r,env,bx,R,h⟩=>?_;refine⟨F,r,env,bx,R,End.bind h λws bx1 F1 r1 vs H1 g1 R1 d1 h1=>?_⟩;split at h1
 ·rename_i j;split at h1
  ·rename_i hj;obtain⟨v,t,rfl,q1,q2⟩:=d1;cases (show t=[] from q2);cases (show v=.int j from q1);exact⟨j,rfl,hj.1,hj.2,λl hl=>ig R1 h1 ⟨l,_,rfl,hl,rfl,G6 _⟩⟩
  ·exact h1.elim
 ·exact h1.elim
theorem N9 {b:Expr}{y:Str}{px py pt:Pos}{kt k2 hU}(i j:Nat) (hc:X.calm=true) (hN:X.N.Nodup) (ha:bX X T Z [a,b] ks) (hi:X.N[i]?=some x) (hj:X.N[j]?=some y) (IE:i≠j)
 (hx:X.env.scope.names.lookup x=some .local) (hy:X.env.scope.names.lookup y=some .local)
 (hw:swappedStores [.Tuple [.Name x px,.Name y py] kt pt] (.Tuple [a,b] k2 hU) X.env=pure (some [x,y]))
 (hs:swapsWithSole [.Tuple [.Name x px,.Name y py] kt pt] (.Tuple [a,b] k2 hU) pos.line X.env=pure false) :
 dq X T Z (.Assign [.Tuple [.Name x px,.Name y py] kt pt] (.Tuple [a,b] k2 hU) pos) (kU i j ks):=
 PS.imp (Rk hc hN hi hj IE hx hy ha hw hs) λD σ H h=>TW h
end
noncomputable def wq:D->V
 |.non=>.non
 |.bl b=>.bl b
 |.int i=>.int i
 |.str x=>.str x
 |_=>.ty ""
noncomputable def eJ:D->Bool
 |.non=>true
 |.bl _=>true
 |.int _=>true
 |.str _=>true
 |_=>false
def acH (a b:D):Bool:=rJ (wq a) (wq b)
theorem Aj (f:eJ d=true) (h:Den F d v):v=wq d /\ qz v=true:=by
 cases d with
 |non=>cases (show v=.non from h);exact⟨rfl,rfl⟩
 |bl b=>cases (show v=.bl b from h);exact⟨rfl,rfl⟩
 |int i=>cases (show v=.int i from h);exact⟨rfl,rfl⟩
 |str x=>cases (show v=.str x from h);exact⟨rfl,rfl⟩
 |_=>cases f
theorem m9 {F:Hp}:∀ {l:List D}{vs:List V},l.all eJ=true->ao F l vs->vs=l.map wq /\ vs.all qz=true
 |[],_,_,h=>by cases (show _=[] from h);exact⟨rfl,rfl⟩
 | d::l,_,f,h=>by
   obtain⟨v,r,e,h1,h2⟩:=h;subst e;rw[qj,aE]at f;obtain⟨e1,f1⟩:=Aj f.1 h1;obtain⟨e2,f2⟩:=m9 f.2 h2;subst e1;subst e2;exact⟨rfl,by rw[qj,f1,f2];rfl⟩
def eK (x:D) (l:List D):Bool:=l.any λy=>acH y x
theorem FH (x:D) (l:List D):zR (wq x) (l.map wq)=eK x l:=by
 unfold zR eK;rw[Hz];rfl
def Eh (neg:Bool):D->D->Option Res:=λx y=>match y with
 |.lst l=>if eJ x=true /\ l.all eJ=true then some (.old (.bl (if neg then !eK x l else eK x l))) else none
 |.tup l=>if eJ x=true /\ l.all eJ=true then some (.old (.bl (if neg then !eK x l else eK x l))) else none
 |_=>none
theorem YJ (neg:Bool):bK (zS K neg) (Eh neg):=by
 intro F H x y v w Q s sub hx hy e k;unfold Eh at e;have fx:∀ {d:D},eJ d=true->kR F H d v->Den F d v:=λ{d} f h=>by
  cases d with
  |non=>exact h
  |bl b=>exact h
  |int i=>exact h
  |str z=>exact h
  |_=>cases f
 cases y with
 | lst l =>
   simp only at e;split at e
   ·rename_i f;cases e;obtain⟨a,vs,rfl,h1,h2⟩:=hy;obtain⟨e1,f1⟩:=Aj f.1 (fx f.1 hx);obtain⟨e2,f2⟩:=m9 f.2 h2;subst e1;subst e2;refine⟨a,_,rfl,.inl (aS.of h1),f1,f2,?_⟩;rw[FH];exact k _ _ ⟨rfl,rfl⟩
   ·cases e
 | tup l =>
   simp only at e;split at e
   ·rename_i f;cases e;obtain⟨a,vs,rfl,h1,h2⟩:=hy;obtain⟨e1,f1⟩:=Aj f.1 (fx f.1 hx);obtain⟨e2,f2⟩:=m9 f.2 h2;subst e1;subst e2;refine⟨a,_,rfl,.inr (aV.of (sub _ _ h1)),f1,f2,?_⟩;rw[FH];exact k _ _ ⟨rfl,rfl⟩
   ·cases e
 |_=>cases e
def Ei (neg:Bool):R2:=λx y H Q=>∃ F dx dy,Sub F H /\ kR F H dx x /\ kR F H dy y /\ eI dx=true /\ eI dy=true /\ ∃ l,(dy=.lst l \/ dy=.tup l) /\ Q (.bl (if neg then !(l.any λz=>eqv z dx) else l.any λz=>eqv z dx)) H
theorem jE (dx:D):∀ l:List D,((ke l).any λy=>PyData.eqv y (toPy dx))=l.any λz=>eqv z dx
 |[]=>rfl
 | z::l=>by
   show (PyData.eqv (toPy z) (toPy dx)||_)=_;rw[jE dx l];rfl
theorem Sv (hu:X.A.units+100<cLine):aN X (compareOp .In) (Ei false):=by
 intro pins s σ H x y v u Q I rx ry h;obtain⟨F,dx,dy,sub,hx,hy,ox,oy,l,hl,q⟩:=h;obtain⟨as,ra⟩:=ic I sub hx rx;obtain⟨bs,rb⟩:=ic I sub hy ry;obtain⟨x1,x2⟩:=lg ox;obtain⟨y1,y2⟩:=lg oy;rcases hl with rfl|rfl
 ·exact SeqAt.in_list_reads rb ra y1 x1 (by omega) (by rw[jE];exact⟨.bl _,H,I,rfl,q⟩)
 ·exact SeqAt.in_tuple_reads rb ra y1 x1 (by omega) (by rw[jE];exact⟨.bl _,H,I,rfl,q⟩)
theorem G7 (hu:X.A.units+100<cLine):aN X (compareOp .NotIn) (Ei true):=by
 intro pins s σ H x y v u Q I rx ry h;obtain⟨F,dx,dy,sub,hx,hy,ox,oy,l,hl,q⟩:=h;obtain⟨as,ra⟩:=ic I sub hx rx;obtain⟨bs,rb⟩:=ic I sub hy ry;obtain⟨x1,x2⟩:=lg ox;obtain⟨y1,y2⟩:=lg oy;rcases hl with rfl|rfl
 ·exact SeqAt.notIn_list_reads rb ra y1 x1 (by omega) (by rw[jE];exact⟨.bl _,H,I,rfl,q⟩)
 ·exact SeqAt.notIn_tuple_reads rb ra y1 x1 (by omega) (by rw[jE];exact⟨.bl _,H,I,rfl,q⟩)
def tL (neg:Bool) (x y:D) (l:List D):Option Res:=if eI x&&eI y then some (.old (.bl (if neg then !(l.any λz=>eqv z x) else l.any λz=>eqv z x))) else none
def inD (neg:Bool):D->D->Option Res:=λx y=>match y with
 |.lst l=>if eJ x=true /\ l.all eJ=true then some (.old (.bl (if neg then !eK x l else eK x l))) else tL neg x y l
 |.tup l=>if eJ x=true /\ l.all eJ=true then some (.old (.bl (if neg then !eK x l else eK x l))) else tL neg x y l
 |_=>none
theorem okIn (neg:Bool):bK (λx y H Q=>zS K neg x y H Q \/ Ei neg x y H Q) (inD neg):=by
 intro F H x y v w Q s sub hx hy e k;have g:∀ l,(y=.lst l \/ y=.tup l)->tL neg x y l=some s->Ei neg v w H Q:=λl hl e=>by
  unfold tL at e;split at e
  ·rename_i c;rw[aE]at c;cases e;exact⟨F,x,y,sub,hx,hy,c.1,c.2,l,hl,k _ _ ⟨rfl,rfl⟩⟩
  ·cases e
 unfold inD at e;split at e
 ·rename_i l;split at e
  ·rename_i f;exact .inl (YJ neg F H x (.lst l) v w Q s sub hx hy (by unfold Eh;simp only;rw[if_pos f];exact e) k)
  ·exact .inr (g l (.inl rfl) e)
 ·rename_i l;split at e
  ·rename_i f;exact .inl (YJ neg F H x (.tup l) v w Q s sub hx hy (by unfold Eh;simp only;rw[if_pos f];exact e) k)
  ·exact .inr (g l (.inr rfl) e)
 ·cases e
section
variable {a b o : Expr} {mb mc : DE W} {p : Pos}
def rX (m k:DE W):DE W:=λenv bx=>fm (m env bx) λx bx1=>match x with
 | .b n=>(match bx1[n]? with
   | some (.lst _)=>fm (k env bx1) λy bx2=>(match y,bx2[n]? with
     | .d (.int i),some (.lst l)=>if -(2 ^ 63)<=i /\ i<2 ^ 63 then (match b9 l.length i with
       |some j=>(match l[j]? with|some d=>.val (.d d) (bx2.set n (.lst (l.eraseIdx j)))|none=>.bad)
       |none=>.bad) else .bad
     |_,_=>.bad)
   |_=>.bad)
 |_=>.bad
theorem Oa {Q:VK}(h:tD T Z (rX ma mb) σ H Q):xE X.K "list" XZ (tD T Z ma) (vX (tD T Z mb) xC) σ H Q:=by
 obtain⟨F,r,env,bx,R,h⟩:=h;refine⟨F,r,env,bx,R,End.bind h λx bx1 F1 r1 v H1 g1 R1 d1 h1=>?_⟩;cases x with
 |d _=>exact h1.elim
 |s _=>exact h1.elim
 |x _=>exact h1.elim
 |t _=>exact h1.elim
 |m _=>exact h1.elim
 | b n =>
   simp only at h1;obtain⟨a,rfl,ha⟩:=d1;obtain⟨c,hc,kc⟩:=R1.dH ha;rw[hc]at h1;cases c with
   |ah _=>exact h1.elim
   |dead=>exact h1.elim
   |dT _=>exact h1.elim
   | lst l0 =>
     obtain⟨_,kW,k0,_⟩:=kc;refine⟨.inl ⟨rfl,kW,aS.of k0⟩,F1,r1,env,bx1,R1,End.bind h1 λy bx2 F2 r2 u H2 g2 R2 d2 h2=>?_⟩;obtain⟨t,et⟩:=g2.p;have pV:r2[n]?=some a:=by rw[<-et,cn (List.getElem?_eq_some_iff.mp ha).1];exact ha
     obtain⟨c2,dG,pW⟩:=R2.dH pV;rw[dG]at h2;split at h2
     ·rename_i i l eq;cases eq;obtain⟨hF,vs,k1,k2⟩:=pW;cases (show u=.int i from d2);split at h2
      ·rename_i hi;split at h2
       ·rename_i j hj;split at h2
        ·rename_i d hd;obtain⟨y,hy,dy⟩:=k2.get hd;refine⟨a,vs,i,j,y,rfl,rfl,k1,hi.1,hi.2,?_,hy,?_⟩
         ·rw[<-k2.length];exact(BA hj).1
         ·exact h2 F2 r2 _ _ (.refl F2 r2) (R2.write pV hF ⟨hF,vs.eraseIdx j,fC,k2.eraseIdx j⟩) dy
        ·exact h2.elim
       ·exact h2.elim
      ·exact h2.elim
     ·exact h2.elim
theorem LA (ho:PD X T Z o ma) (ha:PD X T Z e mb) (cc:aR e=true)
 (kE:attributeBase o "pop" X.env (eval o X.env)=eval o X.env)
 (pN:((backTo pos (starEach [e] X.env)).all (λx=>!x.1)&&(backToKw pos (keywordEach [] X.env)).all (λx=>x.1.isSome)
  && decide ([e].length+([]:List Keyword).length+(if ([]:List Keyword).isEmpty then 0 else 1)<30))=true)
 (kF:(apos.endLine==pos.line)=true):PD X T Z (.Call (.Attribute o "pop" apos) [e] [] pos) (rX ma mb):=
 PE.imp (Fv xp PySem.F.slot_list_pop PySem.F.type_list_pop J6 ho (iN ha lX (fk cc [] X.env)) kE pN kF (fk cc [] X.env) (by rfl)) λσ H Q h=>Oa h
noncomputable def pZ:D->Option Key
 |.int i=>some (.inl i)
 |.str x=>some (.inr x)
 |_=>none
theorem mJ {k:Key}(e:pZ d=some k) (h:Den F d v):v=kV k:=by
 cases d with
 |int i=>cases e;exact h
 |str x=>cases e;exact h
 |_=>cases e
noncomputable def br (l:List (Key×D)) (k:Key):Option D:=(l.find? λkv=>decide (kv.1=k)).map (·.2)
noncomputable def nF (l:List (Key×D)) (k:Key) (d:D):List (Key×D):=
 if (l.any λkv=>decide (kv.1=k))=true then l.map (λkv=>if kv.1=k then (kv.1,d) else kv) else l++[(k,d)]
theorem aK.some {F:Hp}{k:Key}{d:D}:∀ {l:List (Key×D)}{vs:List (Key×V)},aK F l vs->br l k=some d->∃ v,cx vs k=some v /\ Den F d v
 |[],_,_,e=>by cases e
 | (k',d')::l,_,⟨v,r,e,h1,h2⟩,q=>by
   subst e;by_cases c:k'=k
   ·simp only[br,pD,c,decide_true,kN]at q;cases q;exact⟨v,lc c,h1⟩
   ·simp only[br,pD,c,decide_false]at q;obtain⟨u,e1,e2⟩:=aK.some h2 q;exact⟨u,(jC c).trans e1,e2⟩
theorem aK.none {F:Hp}{k:Key}:∀ {l:List (Key×D)}{vs:List (Key×V)},aK F l vs->br l k=none->cx vs k=none
 |[],_,h,_=>by cases (show _=[] from h);rfl
 | (k',d')::l,_,⟨v,r,e,h1,h2⟩,q=>by
   subst e;by_cases c:k'=k
   ·simp only[br,pD,c,decide_true,kN]at q;cases q
   ·simp only[br,pD,c,decide_false]at q;exact(jC c).trans (aK.none h2 q)
theorem aK.any {F:Hp}(k:Key):∀ {l:List (Key×D)}{vs:List (Key×V)},aK F l vs->(l.any λkv=>decide (kv.1=k))=(vs.any λkv=>decide (kv.1=k))
 |[],_,h=>by cases (show _=[] from h);rfl
 |(k',d')::l,_,⟨v,r,e,h1,h2⟩=>by subst e;simp only[rn,aK.any k h2]
theorem aK.map {F:Hp}{k:Key}{d:D}{v:V}(hv:Den F d v):∀ {l:List (Key×D)}{vs:List (Key×V)},aK F l vs->aK F (l.map λkv=>if kv.1=k then (kv.1,d) else kv) (vs.map λkv=>if kv.1=k then (kv.1,v) else kv)
 |[],_,h=>by cases (show _=[] from h);exact rfl
 | (k',d')::l,_,⟨u,r,e,h1,h2⟩=>by
   subst e;by_cases c:k'=k
   ·simp only[aQ,c,if_true];exact⟨v,_,rfl,hv,aK.map hv h2⟩
   ·simp only[aQ,c,if_false];exact⟨u,_,rfl,h1,aK.map hv h2⟩
theorem aK.app {F:Hp}{m:List (Key×D)}{us:List (Key×V)}(hm:aK F m us):∀ {l:List (Key×D)}{vs:List (Key×V)},aK F l vs->aK F (l++m) (vs++us)
 |[],_,h=>by cases (show _=[] from h);exact hm
 |(k',d')::l,_,⟨u,r,e,h1,h2⟩=>by subst e;exact⟨u,_,rfl,h1,aK.app hm h2⟩
theorem aK.put {k:Key}{l:List (Key×D)}{vs:List (Key×V)}(h:aK F l vs) (hv:Den F d v):aK F (nF l k d) (putK vs k v):=by
 unfold nF putK;rw[aK.any k h];split
 ·exact aK.map hv h
 ·exact aK.app (show aK F [(k,d)] [(k,v)] from⟨v,[],rfl,hv,rfl⟩) h
theorem LB (R:Rel T F r σ H env bx) {w:W}(d:bB F r w v) {l:List (Key×D)}(e:aJ bx w=some (.ah l)):∃ a af,v=.ref a /\ H a=some (.dK af) /\ aK F l af:=by
 cases w with
 | d x =>
   cases (show some x=some (.ah l) from e);obtain⟨a,vs,rfl,h1,h2⟩:=d;exact⟨a,vs,rfl,R.fh _ _ h1,h2⟩
 | b n =>
   obtain⟨a,rfl,ha⟩:=d;obtain⟨c,hc,kc⟩:=R.dH ha;simp only[aJ,hc]at e;cases c with
   | ah l' =>
     cases e;obtain⟨_,vs,h1,h2⟩:=kc;exact⟨a,vs,rfl,h1,h2⟩
   |lst l'=>cases e
   |dead=>cases e
   |dT _=>cases e
 |s l'=>cases e
 |x i=>cases e
 |t _=>cases e
 |m _=>cases e
def rY (m k:DE W):DE W:=λenv bx=>fm (m env bx) λx bx1=>fm (k env bx1) λy bx2=>match y,aJ bx2 x with
 |.d d,some (.ah l)=>(match (pZ d).bind (br l) with|some u=>.val (.d u) bx2|none=>.bad)
 |_,_=>.bad
theorem Sw {Q:VK}(h:tD T Z (rY ma mb) σ H Q):Yu (tD T Z ma) (tD T Z mb) σ H Q:=by
 obtain⟨F,r,env,bx,R,h⟩:=h;refine⟨F,r,env,bx,R,End.bind h λx bx1 F1 r1 v H1 g1 R1 d1 h1=>⟨F1,r1,env,bx1,R1,End.bind h1 λy bx2 F2 r2 u H2 g2 R2 d2 h2=>?_⟩⟩;split at h2
 ·rename_i d l q;obtain⟨a,af,rfl,k1,k2⟩:=LB R2 (g2.den d1) q;split at h2
  ·rename_i w hw;obtain⟨k,e1,e2⟩:=Option.bind_eq_some_iff.mp hw;cases mJ e1 d2;obtain⟨z,e3,e4⟩:=aK.some k2 e2;exact⟨a,z,rfl,e3▸rR.k k1,h2 F2 r2 _ H2 (.refl F2 r2) R2 e4⟩
  ·exact h2.elim
 ·exact h2.elim
theorem Ob (hu:X.A.units+1<cLine) (ho:PD X T Z o ma) (hi:PD X T Z e mb) (hs:Eb e):PD X T Z (.Subscript o e pos) (rY ma mb):=
 PE.imp (NY hu ho hi hs) λσ H Q h=>Sw h
def qT (neg:Bool) (k m:DE W):DE W:=λenv bx=>fm (k env bx) λy bx1=>fm (m env bx1) λx bx2=>match y,aJ bx2 x with
 |.d d,some (.ah l)=>(match pZ d with|some k=>.val (.d (.bl (if neg then !(br l k).isSome else (br l k).isSome))) bx2|none=>.bad)
 |_,_=>.bad
theorem T8 {l:List (Key×D)}{vs:List (Key×V)}(h:aK F l vs) (k:Key):(cx vs k).isSome=(br l k).isSome:=by
 cases q:br l k with
 |none=>rw[aK.none h q];rfl
 |some d=>obtain⟨v,e,_⟩:=aK.some h q;rw[e];rfl
theorem Px {Q:VK}(h:tD T Z (qT false mb ma) σ H Q):Yv (tD T Z mb) (tD T Z ma) σ H Q:=by
 obtain⟨F,r,env,bx,R,h⟩:=h;refine⟨F,r,env,bx,R,End.bind h λy bx1 F1 r1 u H1 g1 R1 d1 h1=>⟨F1,r1,env,bx1,R1,End.bind h1 λx bx2 F2 r2 v H2 g2 R2 d2 h2=>?_⟩⟩;split at h2
 ·rename_i d l q;obtain⟨a,af,rfl,k1,k2⟩:=LB R2 d2 q;split at h2
  ·rename_i k e1;cases mJ e1 (g2.den (w:=.d d) d1);refine⟨a,_,rfl,rR.k k1,?_⟩;rw[T8 k2];exact h2 F2 r2 _ H2 (.refl F2 r2) R2 rfl
  ·exact h2.elim
 ·exact h2.elim
theorem Sx (hu:X.A.units+1<cLine) (hi:PD X T Z e mb) (ho:PD X T Z o ma) (hm:behindInMarks .In o=false):PD X T Z (.Compare e [.In] [o] pos) (qT false mb ma):=
 PE.imp (Do (Lp hu hi ho) hm) λσ H Q h=>Px h
def tM (m k v:DE W):aj:=λenv bx=>bO (v env bx) λz bx1=>bO (m env bx1) λx bx2=>bO (k env bx2) λy aD=>match x,y,z with
 | .b n,.d d,.d u=>(match aD[n]?,pZ d with
   |some (.ah l),some k=>if l.length<sizeLine then .nx env (aD.set n (.ah (nF l k u))) else .bad
   |_,_=>.bad)
 |_,_,_=>.bad
theorem T9 {D:Ends}(h:tS T Z (tM ma mb mc) D σ H):Yw (tD T Z ma) (tD T Z mb) (tD T Z mc) D σ H:=by
 obtain⟨F,r,env,bx,R,h⟩:=h;refine⟨F,r,env,bx,R,End.bO h λz bx1 F1 r1 t H1 g1 R1 d1 h1=>⟨F1,r1,env,bx1,R1,End.bO h1 λx bx2 F2 r2 v H2 g2 R2 d2 h2=>⟨F2,r2,env,bx2,R2,End.bO h2 λy aD F3 r3 u H3 g3 R3 d3 h3=>?_⟩⟩⟩;split at h3
 ·rename_i n d w;obtain⟨a,rfl,ha⟩:=(g3.den (w:=.b n) d2:bB F3 r3 (.b n) v);obtain⟨c,hc,kc⟩:=R3.dH ha;rw[hc]at h3;split at h3
  ·rename_i l k e1 e2;cases e1;split at h3
   ·rename_i hl;obtain⟨hF,af,k1,k2⟩:=kc;cases mJ e2 d3;have dz:Den F3 w t:=g3.den (w:=.d w) (g2.den (w:=.d w) d1);exact⟨a,_,rfl,.inl ⟨af,k,k1,rfl,by rw[<-aK.length k2];exact hl,rfl⟩,h3 F3 r3 _ _ (.refl F3 r3) (R3.write ha hF ⟨hF,_,fC,aK.put k2 dz⟩)⟩
   ·exact h3.elim
  ·exact h3.elim
 ·exact h3.elim
theorem LC {value:Expr}{pos':Pos}(hu:X.A.units+1<cLine) (ho:PD X T Z o ma) (hi:PD X T Z e mb) (hv:PD X T Z value mc) (hs:swapsWith value (some (.Subscript o e pos')) pos.line X.env=pure false) :
 dq X T Z (.Assign [.Subscript o e pos'] value pos) (tM ma mb mc):=
 PS.imp (NZ hu ho hi hv hs) λD σ H h=>T9 h
def YK (td ty tx:TE):TE:=λσ H Q=>td σ H λx H1=>∃ a,x=.ref a /\ Kx H1 a /\ ty σ H1 λy H2=>tx σ H2 λz H3=>∃ af k,H3 a=some (.dK af) /\ y=kV k /\ af.length<sizeLine /\
 (∀ v,cx af k=some v->Q v H3) /\ (cx af k=none->Q z (upd H3 a (.dK (putK af k z))))
theorem Oc {f:Expr}{td ty tx:TE}{aX:Pos}(ho:PE X o td) (he:PE X e ty) (hf:PE X f tx) (m:M2 X o "setdefault" apos e f aX):PE X (.Call (.Attribute o "setdefault" apos) [e,f] [] aX) (YK td ty tx):=by
 intro pins s σ H Q I h;refine Hi m.base m.few m.line Im zA WY (ai (ho pins s σ H _ I h) λu s1 ⟨x,H1,I1,rx,a,ex,d,q1⟩=>?_);subst ex;obtain rfl:u=Value.ref a:=rx;obtain⟨t1,t2,_⟩:=DD I1 d;refine⟨t1,t2,?_⟩;rw[m.trees];refine xo rfl (Ih (qp (ai (he pins s1 σ H1 _ I1 q1) λiv s2 ⟨y,H2,I2,ry,q2⟩ =>
  qp (ai (hf pins s2 σ H2 _ I2 q2) λfv s3 ⟨z,H3,I3,rz,af,k,ea,ey,el,q3,q4⟩=>sJ ?_))))
 subst ey;obtain⟨zl,hd,vs,rel,dd⟩:=Pw I3.ak ea;refine Hj zA dd.typeIs WZ (W0 _ _ _) (kt_meets_setdefault (eD X.prog X.w) a (Cp ry) hd fv) ⟨vs,dd,by rw[<-rel.length];exact zl,λv hv=>?_,λhn h' rS hs=>?_⟩
 ·cases l:cx af k with
  |none=>have zP:valueAt vs k=none:=e9.none_of (by rw[<-l];exact rel.val k);rw[hv]at zP;cases zP
  | some v' =>
    obtain⟨w',hw,hV⟩:=e9.some_of (v:=v') (o:=valueAt vs k) (by rw[<-l];exact rel.val k);rw[hv]at hw;cases hw;exact⟨v',H3,I3.tok _,hV,q3 v' l⟩
 ·have l:cx af k=none:=by
   cases l:cx af k with
   |none=>rfl
   | some v' =>
     obtain⟨w',hw,hV⟩:=e9.some_of (v:=v') (o:=valueAt vs k) (by rw[<-l];exact rel.val k);rw[hn]at hw;cases hw
  have he:∃ q,h'.get? a=some q:=let ⟨q,_,_,hq,_⟩:=rS;⟨q,hq⟩
  have hl:(putK af k z).length<=sizeLine:=by have:=ji af k z;omega
  exact⟨z,_,oK I3 (by rw[ea];exact True.intro) hs he (Lo hl hd (rel.put k rz) rS),rz,q4 l⟩
def uY (m k v:DE W):DE W:=λenv bx=>fm (m env bx) λx bx1=>match x with
 | .b n=>(match bx1[n]? with
   | some (.ah _)=>fm (k env bx1) λy bx2=>fm (v env bx2) λz aD=>(match y,z,aD[n]? with
     | .d d,.d u,some (.ah l)=>(match pZ d with
       |some k=>if l.length<sizeLine then (match br l k with|some w=>.val (.d w) aD|none=>.val (.d u) (aD.set n (.ah (nF l k u)))) else .bad
       |none=>.bad)
     |_,_,_=>.bad)
   |_=>.bad)
 |_=>.bad
theorem Sy {Q:VK}(h:tD T Z (uY ma mb mc) σ H Q):YK (tD T Z ma) (tD T Z mb) (tD T Z mc) σ H Q:=by
 obtain⟨F,r,env,bx,R,h⟩:=h;refine⟨F,r,env,bx,R,End.bind h λx bx1 F1 r1 v H1 g1 R1 d1 h1=>?_⟩;cases x with
 |d _=>exact h1.elim
 |s _=>exact h1.elim
 |x _=>exact h1.elim
 |t _=>exact h1.elim
 |m _=>exact h1.elim
 | b n =>
   simp only at h1;obtain⟨a,rfl,ha⟩:=d1;obtain⟨c,hc,kc⟩:=R1.dH ha;rw[hc]at h1;cases c with
   |lst _=>exact h1.elim
   |dead=>exact h1.elim
   |dT _=>exact h1.elim
   | ah l0 =>
     obtain⟨_,kW,k0,_⟩:=kc;refine⟨a,rfl,.inl ⟨kW,.inl k0⟩,F1,r1,env,bx1,R1,End.bind h1 λy bx2 F2 r2 u H2 g2 R2 d2 h2=>⟨F2,r2,env,bx2,R2,End.bind h2 λz aD F3 r3 t H3 g3 R3 d3 h3=>?_⟩⟩;obtain⟨t1,KN⟩:=g2.p;obtain⟨t2,acI⟩:=g3.p;have pV:r2[n]?=some a:=by rw[<-KN,cn (List.getElem?_eq_some_iff.mp ha).1];exact ha
     have tN:r3[n]?=some a:=by rw[<-acI,cn (List.getElem?_eq_some_iff.mp pV).1];exact pV
     obtain⟨c2,dG,pW⟩:=R3.dH tN;rw[dG]at h3;split at h3
     ·rename_i d w l eq;cases eq;obtain⟨hF,vs,k1,k2⟩:=pW;split at h3
      ·rename_i k e1;cases mJ e1 (g3.den (w:=.d d) d2);split at h3
       ·rename_i hl;refine⟨vs,k,k1,rfl,by rw[<-aK.length k2];exact hl,λv' uZ=>?_,λhn=>?_⟩
        ·split at h3
         ·rename_i w' p0;obtain⟨v2,e2,e3⟩:=aK.some k2 p0;rw[uZ]at e2;cases e2;exact h3 F3 r3 _ H3 (.refl F3 r3) R3 e3
         ·rename_i p0;rw[aK.none k2 p0]at uZ;cases uZ
        ·split at h3
         ·rename_i w' p0;obtain⟨v2,e2,e3⟩:=aK.some k2 p0;rw[hn]at e2;cases e2
         ·exact h3 F3 r3 _ _ (.refl F3 r3) (R3.write tN hF ⟨hF,_,fC,aK.put k2 d3⟩) d3
       ·exact h3.elim
      ·exact h3.elim
     ·exact h3.elim
theorem Od {f:Expr}(ho:PD X T Z o ma) (ha:PD X T Z e mb) (hf:PD X T Z f mc) (cc:aR e=true) (ae3:aR f=true)
 (kE:attributeBase o "setdefault" X.env (eval o X.env)=eval o X.env)
 (pN:((backTo pos (starEach [e,f] X.env)).all (λx=>!x.1)&&(backToKw pos (keywordEach [] X.env)).all (λx=>x.1.isSome)
  && decide ([e,f].length+([]:List Keyword).length+(if ([]:List Keyword).isEmpty then 0 else 1)<30))=true)
 (kF:(apos.endLine==pos.line)=true) (ht:backTo pos (starEach [e,f] X.env)=[(false,eval e X.env),(false,eval f X.env)]):PD X T Z (.Call (.Attribute o "setdefault" apos) [e,f] [] pos) (uY ma mb mc):=
 PE.imp (Oc ho ha hf ⟨kE,pN,kF,ht⟩) λσ H Q h=>Sy h
end
end L2.DL
namespace L2
def KO (K:PySem.W.Frag) (a:Addr):It :=
 ⟨λi H=>∃ (xs:List V) (x:V),aS K H a xs /\ xs[i]?=some x,
  λi H w H'=>∀ (xs:List V),aS K H a xs->∃ (p:Addr) (x:V),xs[i]?=some x /\ H p=none /\ w=.ref p /\ H'=upd H p (.tup [.int (i:Nat),x]),
  λi H=>∃ (xs:List V),aS K H a xs /\ i=xs.length⟩
theorem G8 {elts:List Expr}{kt:Nat}{tp:Pos}{n:Addr} :
 Turn P w K (.Tuple elts kt tp) (KO K a) [n+1,n] (n+1) (λi h=>(∃ old,IsEnum h (n+1) n (i:Nat) old) /\ h.IsListIter n a i) where
 mem:=by simp
 obj:=λi h st c hc=>by
  obtain⟨⟨old,z1⟩,⟨o4,e4,c4,d4⟩⟩:=st;simp only[aO,eZ,or_false]at hc;rcases hc with rfl|rfl
  ·exact⟨_,z1,λv z=>by cases z⟩
  ·exact⟨o4,e4,λv z=>by rw[d4]at z;cases z⟩
 keep:=λi h h' st k=>by
  obtain⟨⟨old,z1⟩,z4⟩:=st;exact⟨⟨old,k _ (by simp) _ z1⟩,z4.at λo e=>k _ (by simp) o e⟩
 item:=by
  intro X hP hw hK hc i pins s σ H E I hf st hg;subst hP hw hK;obtain⟨xs,x,q1,e1⟩:=hg;obtain⟨⟨old,z1⟩,z4⟩:=st;obtain⟨i1,r1,p1,l1⟩:=I.list q1;have hx:=(List.getElem?_eq_some_iff.mp e1).1;obtain⟨w1,f1,g1⟩:=r1.get e1;have ne1:(n+1:Nat)≠n:=VT n;refine wpAny_pyNext_enum_item z1 z4 p1.isList (x:=w1) (by simpa using f1) ne1 λh' b1 b2 b3 b4 b5=>⟨_,rfl,?_⟩;refine wpAny_letOwnedTupleGo_enum b1 λh2 uU cY=>?_;have rV:(n+1:Nat)<s.heap.objs.size:=aM z1;have KG:h2.get? s.heap.objs.size=some { cls:=.type "tuple",data:=.seq #[.int i s.toks,w1] }:=cY.extBut _ _ (rh rV) b3;have nw:H s.heap.objs.size=none:=I.ak.fresh (aq _);have I2:Inv X pins σ (upd H s.heap.objs.size (.tup [.int (i:Nat),x])) { s with heap:=h2,toks:=s.toks+1 }:=by
   refine I.YE (ch:=[n+1,n]) hf (λc o bz e=>?_) (aq _) ?_
   ·simp only[aO,eZ,or_false,not_or]at bz;exact cY.extBut _ _ bz.1 (b5 c o bz.1 bz.2 e)
   ·exact⟨by show 2<=sizeLine;decide,[.int i s.toks,w1],.cons ⟨_,rfl⟩ (.cons g1 .nil),⟨_,KG,rfl,_,rfl⟩⟩
  refine⟨.ref s.heap.objs.size,_,I2,rfl,λacr y1=>⟨_,x,by rw[I.Xr y1 q1];exact e1,nw,rfl,rfl⟩,⟨⟨_,by have:=uU;push_cast;exact this⟩,?_⟩,λc bz=>?_⟩
  ·exact b2.at λo e=>cY.extBut _ _ (Ne.symm ne1) e
  ·rw[fG]
   ·exact(hf c bz).1
   ·intro z;subst z;simp only[aO,eZ,or_false]at bz;rcases bz with q|q
    ·exact absurd q (rh rV)
    ·exact absurd q (rh (Nat.lt_of_succ_lt rV))
 done:=by
  intro X hP hw hK hc i pins s σ H E I hf st hg;subst hP hw hK;obtain⟨xs,q1,hk⟩:=hg;obtain⟨⟨old,z1⟩,z4⟩:=st;obtain⟨i1,r1,p1,l1⟩:=I.list q1;refine wpAny_pyNext_enum_end (I.ok.hd hc) z1 z4 p1.isList (by simp[<-r1.length,hk]) λh' eb=>⟨rfl,I.YF (t':=s.toks) (ch:=[n+1,n]) hf λc o bz e=>?_⟩;simp only[aO,eZ,or_false,not_or]at bz;exact eb c o bz.2 e
 self:=λ_ _ _ _ _ st h=>VF st.1.choose_spec h
def acJ (K:PySem.W.Frag) (ta:TA):TI:=λσ H R=>ta σ H λvs H2=>∃ (p:Addr) (xs:List V),vs=[.ref p] /\ aS K H2 p xs /\ R (KO K p) H2
theorem Oe {a:Expr}{ta:TA}{p tp:Pos}{elts:List Expr}{kt:Nat}(hg:Gl X "enumerate") (hm:X.mg "enumerate"=none) (ha:PA X [a] ta) (hs:starEach [a] X.env=[(false,eval a X.env)]) :
 PI X (.Tuple elts kt tp) (.Call (.Name "enumerate" p) [a] [] pos) (acJ X.K ta):=by
 intro pins s σ H R I h;refine kJ (gJ I hg hm (by decide +kernel:bootBuiltins "enumerate"=some (.type "enumerate")) ?_);refine uh (ai (ha pos pins s σ H _ I h) λus s1 ⟨vs,H2,I2,r2,q⟩=>?_) hs rfl;obtain⟨x,xs,rfl,hx,q⟩:=q;obtain⟨u,rfl,ru⟩:=r2.one;cases ru;obtain⟨i1,r1,p1,_⟩:=I2.list hx;refine call_enumerate_list p1.isList λh' b1 b2 b3 b4=>?_;refine VF b1 ?_;refine⟨s1.heap.objs.size+1,_,_,_,H2,rfl,I2.kept (t':=s1.toks) b4,G8,⟨⟨_,b1⟩,b2⟩,λc hc=>?_,q⟩;have hle:s1.heap.objs.size<=c:=by
  simp only[aO,eZ,or_false]at hc;rcases hc with z|z<;>(rw[z];first|exact aq _|exact ua _ _)
 exact I2.uv hle (I2.ak.fresh hle)
end L2
namespace L2.DL
section
variable {a : Expr} {p tp : Pos} {elts : List Expr} {kt : Nat} {k : DE (List W)}
noncomputable def p4:Nat->List D->List W
 |_,[]=>[]
 |n,x::l=>.d (.tup [.int (n:Nat),x])::p4 (n+1) l
theorem Bi:∀ (n:Nat) (l:List D),(p4 n l).length=l.length
 |_,[]=>rfl
 |n,_::l=>by simp only[p4,a9,Bi (n+1) l]
theorem Bj:∀ {l:List D}{n i:Nat}{w:W},(p4 n l)[i]?=some w->∃ x,l[i]?=some x /\ w=.d (.tup [.int ((n+i:Nat):Int),x])
 |[],_,_,_,e=>by simp[p4]at e
 |x::l,n,0,w,e=>by simp[p4]at e;exact⟨x,rfl,e.symm⟩
 | x::l,n,i+1,w,e=>by
   obtain⟨y,h1,h2⟩:=Bj (l:=l) (n:=n+1) (i:=i) (w:=w) (by simpa[p4] using e);refine⟨y,by simpa using h1,?_⟩;rw[h2,show n+1+i=n+(i+1) by omega]
def Ej (k:DE (List W)):DE (List W):=λenv bx=>fm (k env bx) λws bx1=>match ws with
 |[.d (.lst l)]=>.val (p4 0 l) bx1
 |_=>.bad
theorem CC {p:Addr}(hp:F p=some (.lst vs)) (dl:ao F l vs):uH F r (p4 0 l) (KO K p):=by
 intro T i F1 r1 σ1 H1 env1 bx1 g R;have s1:aS K H1 p vs:=.of (R.fh _ _ (g.s _ _ hp));have e1:=dl.length;refine⟨λhl=>?_,λw e=>?_⟩
 ·rw[Bi]at hl;exact⟨vs,s1,by omega⟩
 ·obtain⟨x,h1,rfl⟩:=Bj e;rw[qh];obtain⟨v,f1,d1⟩:=dl.get h1;refine⟨⟨vs,v,s1,f1⟩,λw H2 hy=>?_⟩;obtain⟨a,v',g1,ha,rfl,rfl⟩:=hy vs s1;rw[f1]at g1;cases g1;have gr:=R.qI (o:=.tup [.int (i:Nat),v]) ha;exact⟨_,gr,R.uD ha,a,[.int (i:Nat),v],rfl,fC,.cons (show Den _ (.int (i:Nat)) (.int (i:Nat)) from rfl) (.cons (Den.mono (g.trans gr).s x d1) .nil)⟩
theorem LD (hg:Gl X "enumerate") (hm:X.mg "enumerate"=none) (ha:bX X T Z [a] k) (hs:starEach [a] X.env=[(false,eval a X.env)]) :
 ny X T Z (.Tuple elts kt tp) (.Call (.Name "enumerate" p) [a] [] pos) (Ej k):=by
 refine PI.imp (Oe hg hm ha hs) λσ H Q ⟨F,r,env,bx,R,h⟩=>?_;refine⟨F,r,env,bx,R,End.bind h λws bx1 F1 r1 vs H1 g1 R1 d1 h1=>?_⟩;split at h1
 ·rename_i l;obtain⟨v,t,rfl,⟨p,us,rfl,k1,k2⟩,rt⟩:=d1;cases (show t=[] from rt);exact⟨p,us,rfl,.of (R1.fh _ _ k1),h1 F1 r1 _ H1 (.refl F1 r1) R1 (CC k1 k2)⟩
 ·exact h1.elim
theorem LE {a b:Expr}{y:Str}{px py pt:Pos}{kt k2 hU}(i j:Nat) (hc:X.calm=true) (hN:X.N.Nodup) (ha:bX X T Z [a,b] ks) (hi:X.N[i]?=some x) (hj:X.N[j]?=some y)
 (hx:Loc X.env.scope x) (hy:Loc X.env.scope y)
 (acK:X.fn x=true \/ X.env.scope.names.lookup x=some .local) (acL:X.fn y=true \/ X.env.scope.names.lookup y=some .local)
 (hs:swapsWithSole [.Tuple [.Name x px,.Name y py] kt pt] (.Tuple [a,b] k2 hU) pos.line X.env=pure false)
 (hw:swappedStores [.Tuple [.Name x px,.Name y py] kt pt] (.Tuple [a,b] k2 hU) X.env=pure none)
 (h0:(assignEach [.Tuple [.Name x px,.Name y py] kt pt] X.env).map (·.2)=[assign (.Tuple [.Name x px,.Name y py] kt pt) X.env])
 (h1:(assignEach [.Name x px,.Name y py] X.env).map (·.2)=assign (.Name x px) X.env::(assignEach [.Name y py] X.env).map (·.2))
 (h2:(assignEach [.Name y py] X.env).map (·.2)=assign (.Name y py) X.env::(assignEach [] X.env).map (·.2))
 (hn:(assignEach [.Name x px,.Name y py] X.env).length=2) (xw:(assignEach [.Name x px,.Name y py] X.env).findIdx? (·.1)=none) :
 dq X T Z (.Assign [.Tuple [.Name x px,.Name y py] kt pt] (.Tuple [a,b] k2 hU) pos) (kU i j ks):=by
 refine PS.imp (JR (Dw ha) (Dq hc (oY (Bz hN hi hx acK) (oY (Bz hN hj hy acL) Fm h2) h1) hn xw) hs hw h0) λD σ H ⟨F,r,env,bx,R,h⟩=>?_;refine⟨F,r,env,bx,R,End.bO h λws bx1 F1 r1 vs H1 g1 R1 d1 h1=>?_⟩;split at h1
 ·obtain⟨v,t,rfl,q1,u,t2,rfl,q2,q3⟩:=d1;cases (show t2=[] from q3);refine⟨by show 2<=sizeLine;decide,λp hp=>?_⟩;have gr:=R1.qI (o:=.tup [v,u]) hp;exact⟨p,[v,u],rfl,aV.of fC,rfl,v,[u],rfl,u,[],rfl,rfl,h1 _ r1 _ _ gr (((R1.uD hp).set (gr.den q1) i).set (gr.den q2) j)⟩
 ·exact h1.elim
end
def YL (K:PySem.W.Frag) (vs:List V) (H:Hp) (Q:VK):Prop:=∃ (p:Addr) (bs:List Bool),vs=[.ref p] /\ H p=some (.lst (bs.map V.bl)) /\ Q (.bl (bs.any id)) H
theorem G9 (bs:List Bool):((List.range bs.length).any λi=>(bs[i]?).getD false)=bs.any id:=by
 rw[ku,kM,kM];constructor
 ·rintro⟨i,m,h⟩;have hi:=List.mem_range.mp m;rw[bI hi]at h;exact⟨bs[i],ud hi,h⟩
 ·rintro⟨b,m,h⟩;obtain⟨i,hi,e⟩:=List.mem_iff_getElem.mp m;exact⟨i,List.mem_range.mpr hi,by rw[bI hi,e];exact h⟩
theorem Ja (hc:X.calm=true):eE X (.builtin "any") (YL X.K):=by
 intro pins s σ H xs us Q I rv h;obtain⟨p,bs,rfl,hp,q⟩:=h;obtain⟨u,rfl,ru⟩:=Vals.one rv;cases ru;obtain⟨its,r1,p1,z1⟩:=I.list (aS.of (K:=X.K) hp);have hl:=p1.isList;have pS:p<s.heap.objs.size:=by obtain⟨_,e,_⟩:=hl;exact aM e
 have hlen:bs.length=its.length:=by have:=r1.length;simpa using this
 refine call_any_walk (vA hl ?_);refine⟨s.heap.objs.size,[s.heap.objs.size,p],[s.heap.objs.size],its.toArray.size,_,_,λi=>(bs[i]?).getD false,rfl,Walks.list (A:=X.A.in1) (I.ok.hd hc) _ p (bH pS) its.toArray,
  ⟨⟨_,aU _ rfl,rfl,rfl⟩,hl.push _⟩,λi v s' Q' E' hP hQ=>?_,λh' tk hk=>?_⟩
 ·have yd:its[i]?=some v:=by simpa using hP
  have hi:i<bs.length:=by rw[hlen];exact(List.getElem?_eq_some_iff.mp yd).1
  obtain⟨w,e1,e2⟩:=r1.get (i:=i) (x:=V.bl bs[i]) (by simp[hi]);rw[yd]at e1;cases e1;cases e2;simp only[bI hi,zu]at hQ;exact nM hQ
 ·have e:((List.range its.toArray.size).any λi=>(bs[i]?).getD false)=bs.any id:=by
   rw[aT,<-hlen];exact G9 bs
  rw[e];exact⟨.bl _,H,I.kept (t':=tk) (Xe hk),rfl,q⟩
def wu:List D->Option Res
 |[.lst l]=>(nC l).map λbs=>.old (.bl (bs.any id))
 |_=>none
theorem acM:dW (YL K) wu:=by
 intro F H xs vs Q s sub rx e k;unfold wu at e;split at e
 ·rename_i l;obtain⟨v,t,rfl,⟨a,us,rfl,h1,h2⟩,rt⟩:=rx;cases (show t=[] from rt);cases e1:nC l with
  |none=>rw[e1]at e;cases e
  | some bs =>
    rw[e1]at e;cases e;have q1:=h2.Ku e1;subst q1;exact⟨a,bs,rfl,h1,k _ _ ⟨rfl,rfl⟩⟩
 ·cases e
section
variable {a : Expr} 
def qU (neg:Bool) (m:DE W):DE W:=λenv bx=>fm (m env bx) λx bx1=>match x with
 |.d d=>.val (.d (.bl (match d with|.non=>!neg|_=>neg))) bx1
 |_=>.bad
theorem FJ (h:Den F d v):decide (v=.non)=(match d with|.non=>true|_=>false):=by
 cases d with
 |non=>cases (show v=.non from h);rfl
 |bl b=>cases (show v=.bl b from h);rfl
 |int i=>cases (show v=.int i from h);rfl
 |str x=>cases (show v=.str x from h);rfl
 |tup l=>obtain⟨a,vs,rfl,_⟩:=h;rfl
 |lst l=>obtain⟨a,vs,rfl,_⟩:=h;rfl
 |ah l=>obtain⟨a,vs,rfl,_⟩:=h;rfl
theorem Sz {j pos'}(ha:PD X T Z a ma):PD X T Z (.Compare a [.Is] [.Constant .none j pos'] pos) (qU false ma):=by
 refine PE.imp (Do (JO ha)) λσ H Q ⟨F,r,env,bx,R,h⟩=>?_;refine⟨F,r,env,bx,R,End.bind h λx bx1 F1 r1 v H1 g1 R1 d1 h1=>?_⟩;cases x with
 | d d =>
   rw[FJ (show Den F1 d v from d1)];cases d<;>exact h1 F1 r1 _ H1 (.refl F1 r1) R1 rfl
 |_=>exact h1.elim
end
end L2.DL
namespace HT
open PySem.W
abbrev Kp (h h':Heap):Prop:=∀ b o,h.get? b=some o->h'.get? b=some o
section
variable {l I S : Addr} {nm : String} {vs : List Value} 
theorem FK (hl:h.IsList l vs.toArray) (k:Kp h h'):h'.IsList l vs.toArray:=by
 obtain⟨o,ho,r⟩:=hl;exact⟨o,k _ _ ho,r⟩
theorem DQ {h1 h2:Heap}(k:Kp h h1) (hI:h.get? I=none) (hk:∀ b o,b∉[I]->h1.get? b=some o->h2.get? b=some o):Kp h h2:=λb o e=>hk b o (λz=>by rw[a8.mp z,hI]at e;cases e) (k b o e)
theorem FL {h1 h2:Heap}(k:Kp h h1) (hS:h.get? S=none) (hk:Heap.SameBut S h1 h2):Kp h h2:=λb o e=>(hk.2 b (λz=>by rw[z,hS]at e;cases e)).trans (k b o e)
noncomputable def pick (kf:Nat->Int) (j:Nat):Option Nat->Nat
 |none=>j
 |some i=>if kf j<kf i then j else i
theorem oa (kf:Nat->Int) (j i:Nat):pick kf j (some i)=if kf j<kf i then j else i:=rfl
structure yr (s:Shared) (l I S:Addr) (vs:List Value) (kf:Nat->Int) (j:Nat) (h:Heap) (c:Option Nat):Prop where
 kp:Kp s.heap h
 it:h.IsListIter I l j
 box:∃ xs n,h.get? S=some (seqObj "list" xs n) /\ match c with
  |none=>xs=#[]
  |some i=>∃ v t,vs[i]?=some v /\ xs=#[v,.int (kf i) t]
abbrev KR (prog:Program) (w:World) (A:Around) (s:Shared) (nm:String) (vs:List Value) (kf:Nat->Int):Prop :=
 ∀ (i:Nat) (v:Value),vs[i]?=some v->∀ (h:Heap) (tk:Nat),Kp s.heap h ->
  wpAny (model prog w) A.in1 (call (.builtin nm) [v]) (λr s'=>∃ h' kl t,r=.int (kf i) t /\ s'={ s with heap:=h',toks:=kl } /\ Kp h h') (λ_ _=>False) { s with heap:=h,toks:=tk }
section
variable {kf : Nat -> Int} (hh : A.handled = none) (hl : s.heap.IsList l vs.toArray) (yt : l ≠ I) (wx : S ≠ I) (yu : s.heap.get? S = none) (wy : s.heap.get? I = none)
include hh hl yt wx yu wy
theorem LF {tk:Nat}(M:yr s l I S vs kf vs.length h (some i)) (hR:∀ v h' kl,vs[i]?=some v->Kp s.heap h'->R (.ok (.ret v)) { s with heap:=h',toks:=kl }) :
 codeAny (model prog w) A (.builtin "min.loop" ⟨[.ref I,.builtin nm,.ref S],[]⟩) R { s with heap:=h,toks:=tk }:=by
 obtain⟨xs,n,hb,v,t,hv,rfl⟩:=M.box;refine qc W2 ((ui vP (A:=A) ⟨[.ref I,.builtin nm,.ref S],[]⟩).symm▸?_);refine ae (qd hb rfl (ae (yZ ?_)));refine(Walks.list (prog:=prog) (w:=w) (A:=A.in1) hh I l yt vs.toArray).done _ _ _ ⟨by rw[aT];exact M.it,FK hl M.kp⟩ λh1 YM k1=>?_;have b1:=k1 S _ (by rw[a8];exact wx) hb;have hE:Heap.SameBut S h1 (h1.update S (Obj.mapSeq λ_=>(#[]:Array Value))):=Heap.SameBut.update h1 S _;exact ae (w8 b1 rfl (ae (t6 (ag (hR v _ _ hv (FL (DQ M.kp wy k1) yu hE))))))
theorem LG (K:KR prog w A s nm vs kf) (hj:j<vs.length) {c:Option Nat}{tk:Nat}(M:yr s l I S vs kf j h c)
 (next:∀ h' kl,yr s l I S vs kf (j+1) h' (some (pick kf j c))->codeAny (model prog w) A (.builtin "min.loop" ⟨[.ref I,.builtin nm,.ref S],[]⟩) R { s with heap:=h',toks:=kl }) :
 codeAny (model prog w) A (.builtin "min.loop" ⟨[.ref I,.builtin nm,.ref S],[]⟩) R { s with heap:=h,toks:=tk }:=by
 have yw:(toString "min"++toString ".loop":String)="min.loop":=by decide
 obtain⟨xs,n,hb,hc⟩:=M.box;refine qc W2 ((ui vP (A:=A) ⟨[.ref I,.builtin nm,.ref S],[]⟩).symm▸?_);refine ae (qd hb rfl (ae (yZ ?_)));refine(Walks.list (prog:=prog) (w:=w) (A:=A.in1) hh I l yt vs.toArray).item j _ _ _ (by rw[aT];exact hj) ⟨M.it,FK hl M.kp⟩ λv h1 YM hP KS k1=>?_;have hv:vs[j]?=some v:=by simpa using hP
 obtain⟨oi,i1,i2,i3⟩:=id KS.1;have b1:=k1 S _ (by rw[a8];exact wx) hb;refine ae (yZ (cP (cM (K j v hv h1 YM (DQ M.kp wy k1)) (λr s2 ⟨h2,Ek,t2,er,es,k2⟩=>?_) λ_ _ z=>z.elim)));subst er;subst es;have YN:Kp s.heap h2:=λb o e=>k2 b o (DQ M.kp wy k1 b o e);have b2:=k2 _ _ b1;have bu:h2.IsListIter I l (j+1):=⟨oi,k2 _ _ i1,i2,i3⟩;have put:∀ ys:Array Value,Heap.SameBut S h2 (h2.update S (Obj.mapSeq λ_=>ys)) /\ ∃ n',(h2.update S (Obj.mapSeq λ_=>ys)).get? S=some (seqObj "list" ys n'):=λys=>⟨Heap.SameBut.update h2 S _,_,Wy b2 λ_=>ys⟩;have YO:yr s l I S vs kf (j+1) (h2.update S (Obj.mapSeq λ_=>#[v,.int (kf j) t2])) (some j):=by
  obtain⟨p1,n',p2⟩:=put #[v,.int (kf j) t2];exact⟨FL YN yu p1,⟨oi,(p1.2 I wx.symm).trans (k2 _ _ i1),i2,i3⟩,_,n',p2,v,t2,hv,rfl⟩
 cases c with
 | none =>
   cases (show xs=#[] from hc);refine ae (w8 b2 rfl ?_);rw[yw];exact ag ⟨sC vP _,next _ _ YO⟩
 | some i =>
   obtain⟨vb,tb,acN,rfl⟩:=hc;refine ae (yZ (cP (ae (lt_int (ae (cP (nM (ae (t6 (ag ?_))))))))));by_cases q:kf j<kf i
   ·rw[decide_eq_true q,if_pos rfl];refine ae (w8 b2 rfl (ae (t6 ?_)));rw[yw];refine ag ⟨sC vP _,next _ _ ?_⟩;rw[oa,if_pos q];exact YO
   ·rw[decide_eq_false q,if_neg (by decide)];refine ae (t6 ?_);rw[yw];refine ag ⟨sC vP _,next _ _ ?_⟩;rw[oa,if_neg q];exact⟨YN,bu,_,n,b2,vb,tb,acN,rfl⟩
def rZ (kf:Nat->Int):Nat->Nat->Option Nat->Option Nat
 |0,_,c=>c
 |n+1,j,c=>rZ kf n (j+1) (some (pick kf j c))
theorem CD (K:KR prog w A s nm vs kf) (h0:0<vs.length) (hR:∀ i v h' kl,rZ kf vs.length 0 none=some i->vs[i]?=some v->Kp s.heap h'->R (.ok (.ret v)) { s with heap:=h',toks:=kl }) :
 ∀ (n j:Nat) (c:Option Nat) (h:Heap) (tk:Nat),j+n=vs.length->(j=0 \/ c.isSome=true)->rZ kf n j c=rZ kf vs.length 0 none->yr s l I S vs kf j h c ->
  codeAny (model prog w) A (.builtin "min.loop" ⟨[.ref I,.builtin nm,.ref S],[]⟩) R { s with heap:=h,toks:=tk }
 | 0,j,c,h,tk,hn,hc,e,M=>by
   have:j=vs.length:=by omega
   subst this;cases c with
   | none => rcases hc with hc|hc
             ·omega
             ·cases hc
   |some i=>exact LF hh hl yt wx yu wy M λv h' kl hv k=>hR i v h' kl e.symm hv k
 |n+1,j,c,h,tk,hn,hc,e,M=>LG hh hl yt wx yu wy K (by omega) M λh' kl M'=>CD K h0 hR n (j+1) _ h' kl (by omega) (.inr rfl) e M'
end
theorem Of {kf:Nat->Int}(hh:A.handled=none) (hl:s.heap.IsList l vs.toArray) (h0:0<vs.length) (K:KR prog w A s nm vs kf)
 (hQ:∀ i v h' kl,rZ kf vs.length 0 none=some i->vs[i]?=some v->Kp s.heap h'->Q v { s with heap:=h',toks:=kl }) :
 wpAny (model prog w) A (call (.builtin "min") [.ref l] [(Str.ofString "key",.builtin nm)]) Q E s:=by
 have yw:(toString "min"++toString ".loop":String)="min.loop":=by decide
 obtain⟨ol,acO,_⟩:=id hl;have acP:l<s.heap.objs.size:=aM acO;refine kmk_tree PySem.F.kind_min PySem.F.plain_min PySem.F.entry_min (kmk_min_key _ _) ?_;refine ae (tZ (show Builtin.Builtins.bindParams "min" ["key", "default"] 0 ⟨[],[("key",.builtin nm)]⟩=pure [some (.builtin nm),none] from rfl) (ae (ag (ae (vA hl (ae (yT ?_ (cG _))))))));rw[yw];generalize hT:(s.heap.push { cls:=.type "list_iterator",data:=.fields #[.ref l,.int 0 0] }).objs.size=S;have hS:S=s.heap.objs.size+1:=hT.symm.trans (rB ..);refine ag ⟨sC vP _,CD hh hl (bH acP) (by rw[hS];exact VT _) (vH (by rw[hS];exact sD _)) (vH (aq _)) K h0 hQ vs.length 0 none _ _ (by omega) (.inl rfl) rfl ⟨?_,?_,#[],0,?_,rfl⟩⟩
 ·exact λb x e=>aC _ (aC _ e)
 ·exact⟨_,aC _ (aU _ rfl),rfl,rfl⟩
 ·rw[<-hT];exact aU _ rfl
end
end HT
namespace L2
open PySem.W
section
variable {a : Expr} {p q kp : Pos} {t : TA}
def YQ (K:Frag) (vs:List V) (H:Hp) (Q:VK):Prop:=∃ (p:Addr) (xs:List V) (kf:Nat->Nat),vs=[.ref p] /\ aS K H p xs /\ 0<xs.length /\ (∀ i x,xs[i]?=some x->∃ b ys,x=.ref b /\ aV K H b ys /\ ys.length=kf i) /\
 ∀ i x,HT.rZ (λi=>(kf i:Int)) xs.length 0 none=some i->xs[i]?=some x->Q x H
theorem Jb (hc:X.calm=true) (hg:Gl X "min") (hm:X.mg "min"=none) (dr:Gl X "len") (eu:X.mg "len"=none) (ha:PA X [a] t) (hs:starEach [a] X.env=[(false,eval a X.env)]) :
 PE X (.Call (.Name "min" p) [a] [⟨some "key",.Name "len" q,kp⟩] pos) (v7 (YQ X.K) t):=by
 intro pins s σ H Q I h;refine kJ (gJ I hg hm (by decide +kernel:bootBuiltins "min"=some (.builtin "min")) ?_ (by decide) (by decide));refine callWith_kw (ai (ha pos pins s σ H _ I h) λus s1 ⟨vs,H1,I1,r1,q1⟩=>?_) (by rw[hs];rfl) (by rw[hs];rfl) rfl rfl;show wpAny _ _ (evalAll [do let v <-eval (.Name "len" q) X.env;standAt pos;pure v]) _ _ _;refine wpAny_evalAll_cons (ae (gJ I1 dr eu Hg (ae (rf (ag (wpAny_evalAll_nil ?_)))) (by decide) (by decide)));obtain⟨l,xs,kf,rfl,hl,h0,hk,q1⟩:=q1;obtain⟨u,rfl,ru⟩:=Vals.one r1;cases ru;obtain⟨its,r',pl,hz⟩:=I1.list hl;have hlen:=r'.length;have sz:=uw;refine HT.Of (kf:=λi=>(kf i:Int)) (I1.ok.hd hc) pl.isList (by omega) (λi v hv h tk K=>?_) λi v h' kl hb hv K=>?_
 ·have hi:i<xs.length:=by rw[hlen];exact(List.getElem?_eq_some_iff.mp hv).1
  obtain⟨w,e1,e2⟩:=r'.get (i:=i) (x:=xs[i]) (bI hi);rw[hv]at e1;cases e1;obtain⟨b,ys,e3,hy,e4⟩:=hk i xs[i] (bI hi);rw[e3]at e2;cases e2;obtain⟨kP,r2,acQ,uU⟩:=I1.tuple hy;have qC:=r2.length;refine len_tuple (s:={ s1 with heap:=h,toks:=tk }) (items:=kP.toArray) ?_ (by simp only[aT]<;>omega) ⟨h,_,tk+1,?_,rfl,λ_ _ z=>z⟩
  ·obtain⟨o,a1,a2⟩:=acQ;exact⟨o,K _ _ a1,a2⟩
  ·show Value.int _ _=Value.int _ _;rw[aT,<-qC,e4]
 ·have hi:i<xs.length:=by rw[hlen];exact(List.getElem?_eq_some_iff.mp hv).1
  obtain⟨w,e1,e2⟩:=r'.get (i:=i) (x:=xs[i]) (bI hi);rw[hv]at e1;cases e1;exact⟨xs[i],H1,I1.kept K,e2,q1 i xs[i] (by rw[hlen];exact hb) (bI hi)⟩
end
end L2
namespace L2.DL
open PySem.W
noncomputable def pf:D->Option Nat
 |.tup l=>some l.length
 |_=>none
noncomputable def tO (f:D->Nat):D->List D->D
 |b,[]=>b
 |b,x::l=>tO f (if f x<f b then x else b) l
def yx:List D->Option Res
 |[.lst (x::l)]=>if (x::l).all (λd=>(pf d).isSome) then some (.old (tO (λd=>(pf d).getD 0) x l)) else none
 |_=>none
theorem Ak (f:D->Nat) (g:Nat->Nat) (L:List D) (hg:∀ (i:Nat) (d:D),L[i]?=some d->g i=f d):∀ (l:List D) (b:D) (i k:Nat),L.drop k=l->L[i]?=some b ->
 ∃ j,HT.rZ (λi=>(g i:Int)) l.length k (some i)=some j /\ L[j]?=some (tO f b l)
 |[],b,i,k,hl,hb=>⟨i,rfl,hb⟩
 | x::l,b,i,k,hl,hb=>by
   have hx:L[k]?=some x:=by rw[<-List.head?_drop,hl];rfl
   have hd:L.drop (k+1)=l:=by rw[<-List.tail_drop,hl];rfl
   have e:HT.pick (λi=>(g i:Int)) k (some i)=if f x<f b then k else i:=by
    rw[HT.oa,hg k x hx,hg i b hb];by_cases c:f x<f b
    ·rw[if_pos c,if_pos (by omega)]
    ·rw[if_neg c,if_neg (by omega)]
   show ∃ j,HT.rZ _ l.length (k+1) (some (HT.pick (λi=>(g i:Int)) k (some i)))=some j /\ L[j]?=some (tO f (if f x<f b then x else b) l);rw[e];by_cases c:f x<f b
   ·rw[if_pos c,if_pos c];exact Ak f g L hg l x k (k+1) hd hx
   ·rw[if_neg c,if_neg c];exact Ak f g L hg l b i (k+1) hd hb
theorem acR:dW (YQ K) yx:=by
 intro F H xs vs Q s sub rx e k;unfold yx at e;split at e
 ·rename_i x l;split at e
  ·rename_i c;cases e;obtain⟨v,t,rfl,h1,h2⟩:=rx;cases (show t=[] from h2);obtain⟨a,ws,rfl,h3,h4⟩:=h1;have hl:=h4.length;obtain⟨i,e1,e2⟩:=Ak (λd=>(pf d).getD 0) (λi=>((x::l)[i]?.bind pf).getD 0) (x::l) (λi d e=>by simp only[e,ba]) l x 0 1 rfl rfl;refine⟨a,ws,λi=>((x::l)[i]?.bind pf).getD 0,rfl,.of h3,by rw[<-hl];simp,λi y hy=>?_,λj y hp hy=>?_⟩
   ·obtain⟨d,q1,q2⟩:=h4.get' hy;have:=cA.mp c d (xf q1);cases d with
    | tup m =>
      obtain⟨b,us,rfl,q3,q4⟩:=q2;exact⟨b,us,rfl,.of (sub _ _ q3),by dsimp only;rw[q1];exact q4.length.symm⟩
    |_=>cases this
   ·rw[<-hl]at hp;have YR:HT.rZ (λi=>((((x::l)[i]?.bind pf).getD 0:Nat):Int)) l.length 1 (some 0)=some j:=hp;rw[e1]at YR;cases YR;obtain⟨d',q1,q2⟩:=h4.get' hy;rw[e2]at q1;cases q1;exact k _ _ ⟨rfl,q2⟩
  ·cases e
 ·cases e
section
variable {a : Expr} {p q kp : Pos} {m : DE (List W)}
theorem Jc (hc:X.calm=true) (hg:Gl X "min") (hm:X.mg "min"=none) (dr:Gl X "len") (eu:X.mg "len"=none) (ha:bX X T Z [a] m) (hs:starEach [a] X.env=[(false,eval a X.env)]) :
 PD X T Z (.Call (.Name "min" p) [a] [⟨some "key",.Name "len" q,kp⟩] pos) (dN false yx m):=PE.imp (Jb hc hg hm dr eu ha hs) (Cl acR)
end
end L2.DL
namespace HT
open PySem.W
section
variable {t : Addr} {vs : List Value} 
noncomputable abbrev dist (ns:List Int):List Int:=firstMet (λi=>ns.getD i 0) ns.length
end
end HT
namespace L2
open PySem.W
section
variable {a : Expr} {p p2 dM : Pos} {t : TA}
theorem jO:∀ {ns:List Int}{us:List Value},Vals (ns.map V.int) us->IntsAre us ns
 |[],_,.nil=>.nil
 | n::ns,_,.cons r q=>by
   obtain⟨t,rfl⟩:=r;exact .cons n t (jO q)
end
end L2
namespace L2.DL
open PySem.W
section
variable {a : Expr} {p p2 dM : Pos} {m : DE (List W)}
end
end L2.DL
namespace HT
open PySem.W
abbrev p5 (xs:Array Nat):Prop:=xs.toList.Pairwise (·<·)
theorem oM {xs:Array Nat}(h:p5 xs) {x y:Nat}(hi:xs[i]?=some x) (hj:xs[j]?=some y) (l:i<j):x<y:=by
 have qS:xs.toList[i]?=some x:=by rw[nR];exact hi
 have acS:xs.toList[j]?=some y:=by rw[nR];exact hj
 obtain⟨a,rfl⟩:=List.getElem?_eq_some_iff.mp qS;obtain⟨b,rfl⟩:=List.getElem?_eq_some_iff.mp acS;exact List.pairwise_iff_getElem.mp h i j a b l
theorem Al {xs:Array Nat}(h:p5 xs) (j:Nat):∀ (f lo hi:Nat),hi-lo<=f->lo<=hi->hi<=xs.size->(∀ i x,i<lo->xs[i]?=some x->x<j)->(∀ i x,hi<=i->xs[i]?=some x->j<=x) ->
 SetTable.below.go xs j f lo hi<=xs.size /\ (∀ i x,i<SetTable.below.go xs j f lo hi->xs[i]?=some x->x<j) /\ ∀ i x,SetTable.below.go xs j f lo hi<=i->xs[i]?=some x->j<=x
 | 0,lo,hi,hf,hl,hh,h1,h2=>by
   have:lo=hi:=by omega
   subst this;exact⟨hh,h1,h2⟩
 | f+1,lo,hi,hf,hl,hh,h1,h2=>by
   rw[SetTable.below.go];by_cases c:lo<hi
   ·rw[if_pos c];have hm:(lo+hi) / 2<xs.size:=by omega
    have em:xs[(lo+hi) / 2]?=some xs[(lo+hi) / 2]:=by simp[hm]
    have eg:xs.getD ((lo+hi) / 2) j=xs[(lo+hi) / 2]:=by simp[Array.getD,hm]
    show (let mid:=(lo+hi) / 2;if xs.getD mid j<j then SetTable.below.go xs j f (mid+1) hi else SetTable.below.go xs j f lo mid)<=xs.size /\ _;simp only[eg];by_cases q:xs[(lo+hi) / 2]<j
    ·simp only[if_pos q];refine Al h j f _ hi (by omega) (by omega) hh (λi x qS e=>?_) h2;by_cases z:i<(lo+hi) / 2
     ·have:=oM h e em z;omega
     ·have:i=(lo+hi) / 2:=by omega
      subst this;rw[em]at e;cases e;exact q
    ·simp only[if_neg q];refine Al h j f lo _ (by omega) (by omega) (by omega) h1 λi x qS e=>?_;by_cases z:i=(lo+hi) / 2
     ·subst z;rw[em]at e;cases e;omega
     ·have:=oM h em e (by omega);omega
   ·rw[if_neg c];have:lo=hi:=by omega
    subst this;exact⟨hh,h1,h2⟩
theorem l8 {xs:Array Nat}(h:p5 xs) (j:Nat):SetTable.below xs j<=xs.size /\ (∀ i x,i<SetTable.below xs j->xs[i]?=some x->x<j) /\ ∀ i x,SetTable.below xs j<=i->xs[i]?=some x->j<=x :=
 Al h j xs.size 0 xs.size (by omega) (cG _) (aq _) (λi x hi=>absurd hi (ub _)) λi x hi e=>by
  have:=(Array.getElem?_eq_some_iff.mp e).1;omega
theorem Am {xs:Array Nat}(h:p5 xs) {x:Nat}(e:xs[i]?=some x):SetTable.below xs (x+1)=i+1:=by
 obtain⟨b1,b2,b3⟩:=l8 h (x+1);have lt:=(Array.getElem?_eq_some_iff.mp e).1;have h1:¬ SetTable.below xs (x+1)<=i:=λz=>by
  have:=b3 i x z e;omega
 have h2:¬ i+1<SetTable.below xs (x+1):=λz=>by
  have el:xs[i+1]?=some xs[i+1]:=by
   have:i+1<xs.size:=by omega
   simp[this]
  have a:=b2 (i+1) _ z el;have b:=oM h e el (pB i);omega
 omega
theorem An {xs:Array Nat}(h:p5 xs):SetTable.below xs 0=0:=by
 obtain⟨b1,b2,b3⟩:=l8 h 0;apply Classical.byContradiction;intro z;have lt:0<xs.size:=by omega
 have el:xs[0]?=some xs[0]:=by simp[lt]
 have:=b2 0 _ (by omega) el;omega
theorem oH (xs:Array α) (p:Nat) (x:α):(SetTable.insertAt xs p x).toList=xs.toList.take p++x::xs.toList.drop p:=by
 unfold SetTable.insertAt;rw[Array.toList_append,Ie,WK,WK];simp only[List.extract_eq_take_drop,zc,Hy,eC,List.singleton_append];congr 2;exact HC (by simp)
theorem LH {xs:Array Nat}(h:p5 xs) (hn:xs[SetTable.below xs j]?≠some j):p5 (SetTable.insertAt xs (SetTable.below xs j) j):=by
 obtain⟨b1,b2,b3⟩:=l8 h j;unfold p5;rw[oH];have pS:∀ x∈xs.toList.take (SetTable.below xs j),x<j:=λx m=>by
  obtain⟨i,hi,e⟩:=zi m;rw[vF]at hi;refine b2 i x (by omega) ?_;rw[<-nR,<-e,List.getElem_take];exact bI (by omega)
 have YS:∀ x∈xs.toList.drop (SetTable.below xs j),j<x:=λx m=>by
  obtain⟨i,hi,e⟩:=zi m;rw[xg]at hi;have ex:xs[SetTable.below xs j+i]?=some x:=by
   rw[<-nR,<-e,List.getElem_drop];exact bI (by omega)
  have:=b3 _ x (ua _ _) ex;have ne:x≠j:=λz=>by
   subst z;cases i with
   |zero=>exact hn ex
   | succ i =>
     have lt:SetTable.below xs x<xs.size:=by
      have:=(Array.getElem?_eq_some_iff.mp ex).1;omega
     have el:xs[SetTable.below xs x]?=some xs[SetTable.below xs x]:=by simp[lt]
     have a:=b3 _ _ (aq _) el;have b:=oM h el ex (by omega);omega
  omega
 rw[zr];refine⟨h.sublist (V2 _ _),List.pairwise_cons.mpr ⟨YS,h.sublist (List.drop_sublist _ _)⟩,λa ma b mb=>?_⟩;have:=pS a ma;rcases aO.mp mb with rfl|mb
 ·exact this
 ·have:=YS b mb;omega
theorem DR (n:Nat):p5 (Array.range n):=by
 unfold p5;rw[Array.toList_range];exact Wb
def yy (t:SetTable) (j:Nat):Prop:=t.place[SetTable.below t.place j]?≠some j
theorem CF (h:∀ i,t.slot j≠.live i):yy t j:=λe=>by
 refine h (SetTable.below t.place j) ?_;unfold SetTable.slot;simp[e]
theorem Ao {t:SetTable}{ha:Nat->Int}{h:Int}:∀ (f:Nat) (p:SetTable.Probe) {j:Nat}{d:Option Nat},(∀ z,p.dummy=some z->yy t z)->SetTable.probe.go t ha h f p=some (.empty j d)->yy t j /\ ∀ z,d=some z->yy t z
 |0,p,j,d,_,e=>by cases e
 | f+1,p,j,d,hp,e=>by
   rw[SetTable.probe.go]at e;split at e
   ·rename_i q;cases e;exact⟨CF (λi z=>by rw[q]at z;cases z),hp⟩
   ·rename_i q;refine Ao f _ (λz hz=>?_) e;have:(t.advance { p with dummy:=some p.j }).dummy=some p.j:=by
     unfold SetTable.advance;split<;>rfl
    rw[this]at hz;cases hz;exact CF λi z=>by rw[q]at z;cases z
   ·split at e
    ·cases e
    ·refine Ao f _ (λz hz=>?_) e;have:(t.advance p).dummy=p.dummy:=by
      unfold SetTable.advance;split<;>rfl
     rw[this]at hz;exact hp z hz
theorem LI {h:Int}{b:Bool}(e:t.freeSlot h=some (j,b)):yy t j:=by
 unfold SetTable.freeSlot at e;split at e
 ·rename_i j' d q;obtain⟨a,c⟩:=Ao _ _ (by intro z hz;cases hz) q;cases d with
  |none=>cases e;exact a
  |some z=>cases e;exact c z rfl
 ·cases e
structure dO (acT:Bool) (t:SetTable):Prop where
 r:p5 t.place
 l:acT=false->t.led=true
theorem dO.xH {b:Bool}(h:dO b t) (n:Nat):dO b (t.standIn n):=⟨DR n,h.l⟩
theorem dO.lay {b:Bool}(h:dO b t) (es:Array (Int×Value)) (k:Int) (x:Value):dO b (layNew t es k x).2.1:=by
 unfold layNew;cases e:t.freeSlot k with
 |none=>exact h.xH _
 | some p =>
   obtain⟨j,d⟩:=p;have hn:=LI e;show dO b ((t.put j).1.orStandIn _);have hp:dO b (t.put j).1:=⟨LH h.r hn,h.l⟩;unfold SetTable.orStandIn;split
   ·exact hp
   ·exact hp.xH _
theorem dO.plain {b:Bool}{t:SetTable}(h:dO b t) (p:Bool):dO b { t with plain:=p }:=⟨h.r,h.l⟩
theorem Bk (f:Nat->Option Nat):∀ l:List Nat,l.Pairwise (·<·)->(((l.filterMap λj=>(f j).map (j,·)).map (·.1))).Pairwise (·<·)
 |[],_=>.nil
 | j::l,h=>by
   obtain⟨h1,h2⟩:=List.pairwise_cons.mp h;have ih:=Bk f l h2;rw[k9];cases e:f j with
   |none=>exact ih
   | some z =>
     rw[kN];refine List.pairwise_cons.mpr ⟨λa ma=>?_,ih⟩;obtain⟨p,mp,rfl⟩:=a6.mp ma;obtain⟨i,mi,ei⟩:=List.mem_filterMap.mp mp;cases q:f i with
     |none=>rw[q]at ei;cases ei
     | some w =>
       rw[q]at ei;cases ei;exact h1 i mi
theorem dO.acU {b:Bool}(h:dO b t) (es:Array (Int×Value)) (n:Nat):dO b (relayAll t es n).2.1:=by
 unfold relayAll;cases e:t.relaid (es.map (·.1)) n with
 |none=>exact h.xH _
 | some p =>
   obtain⟨t',o⟩:=p;have ht:dO b t':=by
    unfold SetTable.relaid SetTable.laid at e;cases q:SetTable.layClean (SetTable.sizeAbove n-1) (es.map (·.1)) with
    |none=>rw[q]at e;cases e
    | some ow =>
      rw[q]at e;cases e;exact⟨Bk _ _ Wb,h.l⟩
   show dO b (if (coversAll o es.size&&t'.fits (o.filterMap (es[·]?)).size)=true then (o.filterMap (es[·]?),t',false) else (es,t.standIn es.size,true)).2.1;split
   ·exact ht
   ·exact h.xH _
structure dg (prog:Program) (w:World) (b:Bool) (o:Obj) (ns:List Int) (es:Array (Int×Value)) (ep:Nat) (t:SetTable) (ms:List Int):Prop where
 x:o.ExactSet
 d:o.data=.set es ep t
 el:ElemsOf (intKind prog w) es.toList
 bd:es.size<scanBound
 ft:t.fits es.size=true
 ok:dO b t
 vs:IntsAre (es.toList.map (·.2)) ms
 pm:ms.Perm ns
def km (prog:Program) (w:World) (b:Bool) (h:Heap) (a:Addr) (ns:List Int):Prop:=∃ o es ep t ms,h.get? a=some o /\ dg prog w b o ns es ep t ms
theorem oB:∀ {vs:List Value}{ms:List Int},IntsAre vs ms->∀ k:Int,k∈ms ↔ ∃ v∈vs,(intKind prog w).is k v=true
 |_,_,.nil,k=>by simp
 | _,_,.cons n t h,k=>by
   have ih:=oB h k;have e:(intKind prog w).is k (.int n t)=true ↔ k=n:=by
    constructor
    ·intro z;exact(intKind prog w).inj _ k n z (vD prog w n t)
    ·rintro rfl;exact vD prog w k t
   rw[aO,ih];constructor
   ·rintro(z|⟨v,mv,ev⟩)
    ·exact⟨_,bZ ..,e.mpr z⟩
    ·exact⟨v,bS _ mv,ev⟩
   ·rintro⟨v,mv,ev⟩;rcases aO.mp mv with rfl|mv
    ·exact .inl (e.mp ev)
    ·exact .inr ⟨v,mv,ev⟩
theorem dg.mem {b:Bool}{ms:List Int}{es:Array (Int×Value)}(S:dg prog w b o ns es ep t ms) (k:Int):k∈ns ↔ ∃ e∈es.toList,(intKind prog w).is k e.2=true:=by
 rw[<-S.pm.mem_iff,oB (prog:=prog) (w:=w) S.vs k];constructor
 ·rintro⟨v,mv,ev⟩;obtain⟨e,me,rfl⟩:=a6.mp mv;exact⟨e,me,ev⟩
 ·rintro⟨e,me,ev⟩;exact⟨e.2,a6.mpr ⟨e,me,rfl⟩,ev⟩
theorem dg.len {b:Bool}{ms:List Int}{es:Array (Int×Value)}(S:dg prog w b o ns es ep t ms):es.size=ns.length:=by
 rw[<-S.pm.length_eq,<-S.vs.length,aA,kz]
theorem jP:∀ {vs us:List Value},us.Perm vs->∀ {ms:List Int},IntsAre vs ms->∃ ks,IntsAre us ks /\ ks.Perm ms:=by
 intro vs us p;induction p with
 |nil=>intro ms h;exact⟨ms,h,.refl _⟩
 | cons x p ih =>
   intro ms h;cases h with
   | cons n t h =>
     obtain⟨ks,a,c⟩:=ih h;exact⟨n::ks,.cons n t a,c.cons n⟩
 | swap x y l =>
   intro ms h;cases h with
   | cons n t h =>
     cases h with
     |cons m u h=>exact⟨_,.cons m u (.cons n t h),.swap ..⟩
 | trans p q acV acW =>
   intro ms h;obtain⟨ks,a,c⟩:=acW h;obtain⟨js,a',c'⟩:=acV a;exact⟨js,a',c'.trans c⟩
theorem mK:∀ {vs:List Value}{ms:List Int},IntsAre vs ms->∀ (i:Int) (t:Tok),IntsAre (vs++[.int i t]) (ms++[i])
 |_,_,.nil,i,t=>.cons i t .nil
 |_,_,.cons n u h,i,t=>.cons n u (mK h i t)
theorem dg.anew {b:Bool}{ms:List Int}{es:Array (Int×Value)}(S:dg prog w b o ns es ep t ms) {es':Array (Int×Value)}{t':SetTable}(rD:Nat) (p:es'.toList.Perm es.toList) (f:t'.fits es'.size=true) (k:dO b t') :
 ∃ qw,dg prog w b { o with data:=.set es' rD t' } ns es' rD t' qw:=by
 obtain⟨ks,a,c⟩:=jP (p.map (·.2)) S.vs;have z:es'.size=es.size:=by rw[<-kz,p.length_eq,kz]
 exact⟨ks,S.x,rfl,S.el.perm p,by rw[z];exact S.bd,f,k,a,c.trans S.pm⟩
theorem dg.more {b:Bool}{ms:List Int}{es:Array (Int×Value)}(S:dg prog w b o ns es ep t ms) (i:Int) (u:Tok) {es':Array (Int×Value)}{t':SetTable}(rD:Nat) (hb:es.size+1<scanBound)
 (p:es'.toList.Perm (es.toList++[((intKind prog w).hash i,.int i u)])) (f:t'.fits es'.size=true) (k:dO b t'):∃ qw,dg prog w b { o with data:=.set es' rD t' } (ns++[i]) es' rD t' qw:=by
 have q:(es.toList++[((intKind prog w).hash i,Value.int i u)]).map (·.2)=es.toList.map (·.2)++[Value.int i u]:=by simp
 obtain⟨ks,a,c⟩:=jP (us:=es'.toList.map (·.2)) (vs:=es.toList.map (·.2)++[Value.int i u]) (q▸p.map (·.2)) (mK S.vs i u);have z:es'.size=es.size+1:=by rw[<-kz,p.length_eq,bM,kz,Hv]
 exact⟨ks,S.x,rfl,(S.el.push (vD prog w i u) rfl).perm p,by rw[z];exact hb,f,k,a,c.trans (S.pm.append_right _)⟩
theorem stored {es es':Array (Int×Value)}{t':SetTable}(ho:s.heap.get? a=some o) (hd:o.data=.set es ep t):(s.heap.update a (Obj.putSet es' t')).get? a=some { o with data:=.set es' (ep+1) t' }:=by
 have z:=pG (Obj.putSet es' t') ho (by rw[putSet_of es' t' hd];rfl)
 rwa [putSet_of es' t' hd]at z
theorem Bl {b:Bool}{ms:List Int}{es cg:Array (Int×Value)}{t1:SetTable}{wd:Bool}{R:Option Bool->Shared->Prop}{g:Bool->Sem Unit}(hg:∀ (z:Bool) (s1:Shared) (Q:Unit->Shared->Prop),Q () s1->wpAny (model prog w) A (g z) Q E s1)
 (ho:s.heap.get? a=some o) (hd:o.data=.set es ep t) (S:dg prog w b { o with data:=.set cg (ep+1) t1 } ns cg (ep+1) t1 ms)
 (h:∀ h',Heap.SameBut a s.heap h'->km prog w b h' a ns->R (some true) { s with heap:=h' }) :
 wpAny (model prog w) A (do
  storeSet a cg t1
  if (!wd&&t1.tooFull)=true then do
   g (relayAll t1 cg (SetTable.grown cg.size)).2.2
   storeSet a (relayAll t1 cg (SetTable.grown cg.size)).1 (relayAll t1 cg (SetTable.grown cg.size)).2.1
   pure (some true)
  else pure (some true)) R E s:=by
 have g1:=stored (s:=s) (es':=cg) (t':=t1) ho hd;have sb:=Heap.SameBut.update s.heap a (Obj.putSet cg t1);refine ae (VG ho hd ?_ (Hk S.bd));by_cases c:(!wd&&t1.tooFull)=true
 ·rw[if_pos c];have kp:=relayAll_perm t1 cg (SetTable.grown cg.size);have kf:=relayAll_fits t1 cg (SetTable.grown cg.size);have kt:=S.ok.acU cg (SetTable.grown cg.size);obtain⟨acX,S2⟩:=S.anew (ep+1+1) kp kf kt;have z2:(relayAll t1 cg (SetTable.grown cg.size)).1.size=cg.size:=by rw[<-kz,kp.length_eq,kz]
  have g2:=stored (s:={ s with heap:=s.heap.update a (Obj.putSet cg t1) }) (es':=(relayAll t1 cg (SetTable.grown cg.size)).1) (t':=(relayAll t1 cg (SetTable.grown cg.size)).2.1) g1 rfl;exact ae (hg _ _ _ (ae (VG g1 rfl (ag (h _ (sb.trans (Heap.SameBut.update _ a _)) ⟨_,_,_,_,acX,g2,S2⟩)) (Hk (by rw[z2];exact S.bd)))))
 ·rw[if_neg c];exact ag (h _ sb ⟨_,_,_,_,ms,g1,S⟩)
theorem add_int {b:Bool}{i:Int}{u:Tok}{Q:Bool->Shared->Prop}(S:km prog w b s.heap a ns) (hb:ns.length+1<scanBound)
 (h:∀ z h',Heap.SameBut a s.heap h'->km prog w b h' a (cH ns i)->Q z { s with heap:=h' }):wpAny (model prog w) A (setAddHashed a (.int i u) ((intKind prog w).hash i)) Q E s:=by
 have ik:(intKind prog w).is i (.int i u)=true:=vD prog w i u;have sc:(Value.int i u).scannable=true:=rfl;obtain⟨o,es,ep,t,ms,ho,S⟩:=S;have hl:=S.len;unfold setAddHashed;refine cP ?_;unfold setAddHashedIn;refine ae (t7 ho S.d S.ft ?_);show wpAny _ _ (if byScan (.int i u) es=true then _ else _) _ _ _;rw[if_pos (byScan_of sc S.bd S.el)];unfold setAddByScan;refine ae (ae (k6 (ae (wpAny_setScan_of ik ho S.d S.ft S.el ?_))));have gw:∀ (z:Bool) (s1:Shared) (Q1:Unit->Shared->Prop),Q1 () s1->wpAny (model prog w) A (match z with|true=>rule "set.scan.the-table-gave-way"|false=>pure ()) Q1 E s1:=by
  intro z s1 Q1 q;cases z
  ·exact ag q
  ·exact k6 q
 cases fd:List.findIdx? (λe=>(intKind prog w).is i e.2) es.toList with
 | some j =>
   obtain⟨hj,pj,_⟩:=List.findIdx?_eq_some_iff_getElem.mp fd;have mi:i∈ns:=(S.mem i).mpr ⟨_,ud hj,pj⟩;have e1:cH ns i=ns:=by
    unfold cH;rw[if_pos (kM.mpr ⟨i,mi,by simp⟩)]
   refine ag (ag ?_);have:=h false s.heap (Heap.SameBut.refl a s.heap) (by rw[e1];exact⟨o,es,ep,t,ms,ho,S⟩);exact this
 | none =>
   have ni:i∉ns:=λz=>by
    obtain⟨e,me,pe⟩:=(S.mem i).mp z;have:=List.findIdx?_eq_none_iff.mp fd e me;rw[pe]at this;cases this
   have e1:cH ns i=ns++[i]:=by
    unfold cH;rw[if_neg];intro z;obtain⟨k,mk,ek⟩:=kM.mp z;have:k=i:=by simpa using ek
    exact ni (this▸mk)
   have lp:=layNew_perm t es ((intKind prog w).hash i) (.int i u);have lf:=layNew_fits t es ((intKind prog w).hash i) (.int i u);have lk:=S.ok.lay es ((intKind prog w).hash i) (.int i u);rw[Ie]at lp;dsimp only;generalize layNew t es ((intKind prog w).hash i) (.int i u)=L at lp lf lk ⊢;obtain⟨cg,t1,wd,gv⟩:=L;dsimp only at lp lf lk ⊢;have fin:∀ h',Heap.SameBut a s.heap h'->km prog w b h' a (ns++[i])->wpAny (model prog w) A (match (some true:Option Bool) with|some added=>pure added|none=>setAddHashedIn a (.int i u) ((intKind prog w).hash i) 99999) Q E { s with heap:=h' }:=λh' sb si=>ag (h true h' sb (by rw[e1];exact si));refine ae (gw _ _ _ ?_);by_cases cp:t1.plain=true
   ·rw[if_pos cp,hashByValue_scannable 8 sc];refine ae (ag ?_);have tk:dO b (if plainKind (.int i u)=true then t1 else { t1 with plain:=false }):=by
     split
     ·exact lk
     ·exact lk.plain _
    have tf:(if plainKind (.int i u)=true then t1 else { t1 with plain:=false }:SetTable).fits cg.size=true:=by
     split
     ·exact lf
     ·exact aan lf
    obtain⟨acY,S1⟩:=S.more i u (ep+1) (by omega) lp tf tk;exact Bl gw ho S.d S1 λh' sb si=>fin h' sb si
   ·rw[if_neg cp];refine ae (ag ?_);obtain⟨acY,S1⟩:=S.more i u (ep+1) (by omega) lp lf lk;show wpAny _ _ (do
     storeSet a cg t1
     if (!wd&&t1.tooFull)=true then _ else _) _ _ _
    exact Bl gw ho S.d S1 λh' sb si=>fin h' sb si
section
noncomputable abbrev bD (w:World):Bool:=w.params.followText "set-order"
abbrev bW (w:World):Obj:={ cls:=.type "set",dict:=none,data:=.set #[] 0 (.fresh 0 0 (!bD w)) }
theorem FM (e:h.get? a=some (bW w)):km prog w (bD w) h a [] :=
 ⟨_,#[],0,_,[],e,⟨⟨rfl,rfl,rfl⟩,rfl,λe m=>by simp at m,by decide,rfl,⟨.nil,λz=>by rw[z];rfl⟩,.nil,.refl _⟩⟩
theorem km.at {b:Bool}(S:km prog w b h a ns) (k:∀ o,h.get? a=some o->h'.get? a=some o):km prog w b h' a ns:=by
 obtain⟨o,es,ep,t,ms,ho,S⟩:=S;exact⟨o,es,ep,t,ms,k o ho,S⟩
theorem Og (a:Value) (h:Q (.ref s.heap.objs.size) { s with heap:=s.heap.push (bW w) }):codeAny (model prog w) A (.call (.builtin "set.__new__") ⟨[.type "set",a],[]⟩) (wants Q E) s:=by
 refine Hl (show wpAny _ A.in1 (do checkBuiltinCall "set.__new__" ⟨[.type "set",a],[]⟩;again (.builtin "set.__new__" ⟨[.type "set",a],[]⟩)) _ _ s from ae (tZ (F.newCall_set_1 a) (ag ⟨sC W3 _,qc F.entry_set_new ?_⟩)));have ss:=VH;rw[ui W3 _];unfold Builtin.«set.__new__» Builtin.Frozenset.newClass;obtain⟨hp,g,d,tk,os⟩:=s;dsimp only
 wp_walk
 refine qg (ag (by dsimp only;simp only[newObj];exact ae (Vy (ag (ag h)))))
variable {I : Addr} {wr : List Addr} {G : Array GenState -> Array GenState -> Prop} {P : Nat -> Value -> Prop} {St : Nat -> Shared -> Prop} {b : Bool}
theorem Jd (W:WalksS prog w A.in1 I fp wr G n P St) (ha:a∉fp) (val:Nat->Int) (hv:∀ i v,P i v->∃ t,v=.int (val i) t) (hb:n+1<scanBound) :
 ∀ (k i:Nat) (s:Shared),n=i+k->St i s->km prog w b s.heap a (firstMet val i)->(∀ s',Moved (a::wr) G s s'->km prog w b s'.heap a (firstMet val n)->R (.ok (.ret .none)) s') ->
  codeAny (model prog w) A (.builtin "set.update.loop" ⟨[.ref a,.ref I],[]⟩) R s:=by
 have aw:a∉wr:=λz=>ha (W.sub _ z);have su:∀ c∈wr,c∈a::wr:=λc z=>.tail _ z;intro k;induction k with
 | zero =>
   intro i s hk st S fin;obtain rfl:n=i:=hk;refine qc W9 (by
    rw[ui Ip _];exact ae (W.done s _ _ st λs' mv=>ag (fin s' (mv.mono su) (S.at λo e=>mv.heap a o aw e))))
 | succ k ih =>
   intro i s hk st S fin;have il:i<n:=by omega
   have rm:(firstMet val i).length+1<scanBound:=by have:=Ia val i;omega
   refine qc W9 ?_;rw[ui Ip _];refine ae (W.item i s _ _ il st λv s1 pv KS mv=>?_);obtain⟨t,rfl⟩:=hv i v pv;have S1:=S.at (h':=s1.heap) λo e=>mv.heap a o aw e;show wpAny _ A.in1 (holding [Value.int (val i) t] (setAdd a (.int (val i) t)) >>= λ_=>_) _ _ s1;refine ae (cP ?_);unfold setAdd;refine cP (ae ((intKind prog w).pyHash (k:=val i) (vD _ _ _ _) (add_int (s:={ s1 with toks:=s1.toks+1 }) S1 rm λz h' sb S2=>?_)));have S3:km prog w b h' a (firstMet val (i+1)):=by rw[firstMet_succ];exact S2
   have ne:∀ c,c∈fp->c≠a:=λc m z=>ha (z▸m);refine ag ⟨sC Ip _,ih (i+1) _ (by omega) (W.frame _ s1 _ _ KS (sD _) λc hc o e=>(sb.2 c (ne c hc)).trans e) S3 λs2 m2 S4=>fin s2 ?_ S4⟩;refine Moved.trans W.gtrans ((mv.mono su).then_heap (sD _) λc o hc e=>?_) m2;exact(sb.2 c λz=>hc (z▸.head _)).trans e
end
section
variable {t : Addr} {vs : List Value} 
def wz (prog:Program) (w:World) (s:Shared) (ns:List Int) (s':Shared):Prop:=∃ h' tk,s'={ s with heap:=h',toks:=tk } /\ km prog w (bD w) h' s.heap.objs.size (dist ns) /\ Kp s.heap h'
theorem FN {I:Addr}{St:Nat->Shared->Prop}{P:Nat->Value->Prop}{it:Obj}(W:WalksS prog w A.in1 (s.heap.objs.size+1) [s.heap.objs.size+1,t] [s.heap.objs.size+1] (λa b=>b=a) ns.length P St) (lt:t<s.heap.objs.size)
 (hv:∀ i v,P i v->∃ u,v=.int (ns.getD i 0) u) (hb:ns.length+1<scanBound) (st:St 0 { s with heap:=(s.heap.push (bW w)).push it }) (hf:it.isFreed=false)
 {F:Result->Shared->Prop}(h:∀ s',wz prog w s ns s'->F (.ok (.ret .none)) s') :
 codeAny (model prog w) A (.builtin "set.update.loop" ⟨[.ref s.heap.objs.size,.ref (s.heap.objs.size+1)],[]⟩) F { s with heap:=(s.heap.push (bW w)).push it }:=by
 refine Jd (b:=bD w) W (a:=s.heap.objs.size) ?_ (λi=>ns.getD i 0) hv hb ns.length 0 _ (by omega) st (FM (aC _ (aU _ rfl))) λs' mv S=>?_
 ·simp only[aO,eZ,or_false,not_or];exact⟨bH (pB _),rh lt⟩
 ·obtain⟨h',g',d',kl,IP⟩:=s';have e1:g'=s.gens:=mv.gens;have e2:d'=s.drawn:=mv.drawn;have e3:IP=s.os:=mv.os;subst e1 e2 e3;refine h _ ⟨h',kl,rfl,S,λc o e=>mv.heap c o ?_ (aC _ (aC _ e))⟩;have cl:=aM e;simp only[aO,eZ,or_false,not_or];exact⟨bH cl,bH (k7 cl)⟩
theorem LJ (hh:A.handled=none) (ht:s.heap.IsTuple t vs.toArray) (hi:IntsAre vs ns) (hb:ns.length+1<scanBound) {F:Fin->Shared->Prop}(h:∀ s',wz prog w s ns s'->F (.done (.ret .none)) s') :
 wpAny (model prog w) A (Builtin.«set.__init__» ⟨[.ref s.heap.objs.size,.ref t],[]⟩) F E { s with heap:=s.heap.push (bW w) }:=by
 have gS:(s.heap.push (bW w)).get? s.heap.objs.size=some (bW w):=aU _ rfl;have u4:(s.heap.push (bW w)).IsTuple t vs.toArray:=ht.at λo e=>aC _ e;have hn:vs.length=ns.length:=hi.length;obtain⟨ot,uP,_⟩:=id ht;have lt:=aM uP;obtain⟨⟨oc,od,acZ,nL⟩,g1,g2,n,g3⟩:=id u4;simp only at g2 g3;subst g2;subst g3;have y1:=PySem.F.sub_tuple_set;have y2:=PySem.F.sub_tuple_frozenset;have y3:(Value.type "tuple"==Value.type "dict")=false:=by decide
 have sz:(s.heap.push (bW w)).objs.size=s.heap.objs.size+1:=rB ..;unfold Builtin.«set.__init__» noKeywords Builtin.Frozenset.updateFrom;generalize hP:pyIter=P
 wp_walk
 subst hP;refine yY u4 (ae (yS ?_));rw[sz];have gI:((s.heap.push (bW w)).push { cls:=.type "tuple_iterator",data:=.fields #[.ref t,.int 0 0] }).get? (s.heap.objs.size+1)=some { cls:=.type "tuple_iterator",data:=.fields #[.ref t,.int 0 0] }:=by
  rw[<-sz];exact aU _ rfl
 have W:=(Walks.tuple (prog:=prog) (w:=w) (A:=A.in1) hh (s.heap.objs.size+1) t (bH (k7 lt)) vs.toArray).toS;rw[show vs.toArray.size=ns.length by simpa using hn]at W;exact FN (I:=0) W lt (λi v e=>Xg hi i v (by simpa using e)) hb ⟨⟨_,gI,rfl,rfl⟩,ht.at λo e=>aC _ (aC _ e)⟩ rfl λs' e=>ag (ag (h s' e))
theorem LK (hh:A.handled=none) (ht:s.heap.IsList t vs.toArray) (hi:IntsAre vs ns) (hb:ns.length+1<scanBound) {F:Fin->Shared->Prop}(h:∀ s',wz prog w s ns s'->F (.done (.ret .none)) s') :
 wpAny (model prog w) A (Builtin.«set.__init__» ⟨[.ref s.heap.objs.size,.ref t],[]⟩) F E { s with heap:=s.heap.push (bW w) }:=by
 have gS:(s.heap.push (bW w)).get? s.heap.objs.size=some (bW w):=aU _ rfl;have u4:(s.heap.push (bW w)).IsList t vs.toArray:=ht.at λo e=>aC _ e;have hn:vs.length=ns.length:=hi.length;obtain⟨ot,uP,_⟩:=id ht;have lt:=aM uP;obtain⟨⟨oc,od,acZ,nL⟩,g1,g2,n,g3⟩:=id u4;simp only at g2 g3;subst g2;subst g3;have y1:=PySem.F.sub_list_set;have y2:=PySem.F.sub_list_frozenset;have y3:(Value.type "list"==Value.type "dict")=false:=by decide
 have sz:(s.heap.push (bW w)).objs.size=s.heap.objs.size+1:=rB ..;unfold Builtin.«set.__init__» noKeywords Builtin.Frozenset.updateFrom;generalize hP:pyIter=P
 wp_walk
 subst hP;refine vA u4 (ae (yS ?_));rw[sz];have gI:((s.heap.push (bW w)).push { cls:=.type "list_iterator",data:=.fields #[.ref t,.int 0 0] }).get? (s.heap.objs.size+1)=some { cls:=.type "list_iterator",data:=.fields #[.ref t,.int 0 0] }:=by
  rw[<-sz];exact aU _ rfl
 have W:=(Walks.list (prog:=prog) (w:=w) (A:=A.in1) hh (s.heap.objs.size+1) t (bH (k7 lt)) vs.toArray).toS;rw[show vs.toArray.size=ns.length by simpa using hn]at W;exact FN (I:=0) W lt (λi v e=>Xg hi i v (by simpa using e)) hb ⟨⟨_,gI,rfl,rfl⟩,ht.at λo e=>aC _ (aC _ e)⟩ rfl λs' e=>ag (ag (h s' e))
theorem Ap (hh:A.handled=none) (ht:s.heap.IsTuple t vs.toArray \/ s.heap.IsList t vs.toArray) (hi:IntsAre vs ns) (hb:ns.length+1<scanBound) (h:∀ s',wz prog w s ns s'->Q (.ref s.heap.objs.size) s') :
 wpAny (model prog w) A (call (.type "set") [.ref t]) Q E s:=by
 obtain⟨c,tl,f1⟩:=PySem.F.called_set.mro;have f2:=PySem.F.called_set.made;have f3:=PySem.F.called_set.sub;have f4:=PySem.F.called_set.notType;have f5:=PySem.F.called_set.canCreate;have f6:=PySem.F.typeCall_set_1 (.ref t);refine wpAny_call (Hl (ag ⟨Xf _ (by decide +kernel),qc PySem.F.entry_type_call ?_⟩));rw[Around.under_plain (weight_type_call_type "set" [.ref t] []) rfl]
 repeat (any_goals (first|assumption|wp_step))
 refine vB (Og (.ref t) (E:=E) (Q:=λo s1=>o=.ref s.heap.objs.size /\ s1={ s with heap:=s.heap.push (bW w) }) ⟨rfl,rfl⟩) λr s1 hr=>?_;match r,hr with
 |.error e,hr=>exact hr
 | .ok (.ret o),⟨e1,e2⟩ =>
   subst e1;subst e2;have gS:(s.heap.push (bW w)).get? s.heap.objs.size=some (bW w):=aU _ rfl;have ty:Shared.TypeIs { s with heap:=s.heap.push (bW w) } (.ref s.heap.objs.size) "set":=⟨_,gS,rfl⟩;have k1:=PySem.F.called_set.init.lookup;have k2:=PySem.F.called_set.init.bind (.ref s.heap.objs.size)
   repeat (any_goals (first|assumption|wp_step))
   refine vB (codeAny_call_builtin (R:=wants (λr s2=>r=.none /\ wz prog w s ns s2) E) PySem.F.called_set.init.plain PySem.F.entry_set_init (check_set_init_1 ty ?_)) λr2 s2 KU=>?_
   ·rcases ht with ht|ht
    ·exact LJ (by simp[hh]) ht hi hb λs' e=>⟨rfl,e⟩
    ·exact LK (by simp[hh]) ht hi hb λs' e=>⟨rfl,e⟩
   ·match r2,KU with
    |.error e,KU=>exact KU
    | .ok (.ret r),⟨e3,e4⟩ =>
      subst e3
      repeat (any_goals (first|assumption|wp_step))
      exact h _ e4
end
theorem gZ:Slot "set_iterator" "__next__" "set_iterator.__next__":=.of (owner:="set_iterator") (n:="__next__") (by rw[VI,VJ];kernel_rfl) (by decide +kernel) (by decide +kernel) (by decide +kernel) (.inl (by decide +kernel)) (by rw[VL];kernel_rfl)
theorem oN:Slot "set_iterator" "__iter__" "set_iterator.__iter__":=.of (owner:="set_iterator") (n:="__iter__") (by rw[VI,VJ];kernel_rfl) (by decide +kernel) (by decide +kernel) (by decide +kernel) (.inl (by decide +kernel)) (by rw[VL];kernel_rfl)
theorem lM:entryFor table "set_iterator.__next__"=some Builtin.«set_iterator.__next__»:=entryFor_of_tree (by kernel_rfl)
theorem Bm:entryFor table "set_iterator.__iter__"=some Builtin.«dict_keyiterator.__iter__»:=VM (id':="dict_keyiterator.__iter__") (by kernel_rfl) rfl (by decide +kernel) (by kernel_rfl)
theorem DS:entryFor table "set.__iter__"=some Builtin.«frozenset.__iter__»:=VM (id':="frozenset.__iter__") (by kernel_rfl) rfl (by decide +kernel) (by kernel_rfl)
theorem lN (a:Value):argsOk "set_iterator.__next__" ⟨[a],[]⟩:=by
 unfold argsOk;kernel_rfl
theorem Bn (a:Value):argsOk "set_iterator.__iter__" ⟨[a],[]⟩:=by
 unfold argsOk;kernel_rfl
theorem l9 {α:Type}:∀ (l:List α) {i:Nat}(h:i<l.length),(l[i]::l.eraseIdx i).Perm l
 |[],i,h=>absurd h (ub _)
 |x::l,0,h=>.refl _
 | x::l,i+1,h=>by
   rw[List.getElem_cons_succ,List.eraseIdx_cons_succ];exact(List.Perm.swap ..).trans ((l9 l (VU h)).cons x)
theorem FO {α:Type}(nx:Nat->Nat):∀ (f k:Nat) (l:List α) (out:Array α),l.length=f->(pickOrder.go nx f k l out).toList.Perm (out.toList++l)
 | 0,k,l,out,h=>by
   have:l=[]:=zj h;subst this;simp[pickOrder.go]
 | f+1,k,l,out,h=>by
   have lt:nx k % l.length<l.length:=VV _ (by omega);rw[pickOrder.go,bI lt];refine(FO nx f (k+1) _ _ (by rw[HD lt];omega)).trans ?_;rw[Ie,eC];refine aao _ ?_;exact l9 l lt
theorem Bo (nx:Nat->Nat) (xs:Array α):(pickOrder nx xs).toList.Perm xs.toList:=by
 have:=FO nx xs.size 0 xs.toList #[] (by simp);simpa[pickOrder] using this
def dA (w:World) (t:SetTable):Nat->Nat
 |0=>0
 |i+1=>if bD w then 0 else t.place.getD i 0+1
def given (w:World) (a:Addr) (ep:Nat) (es:Array (Int×Value)):List Value:=(if bD w then (pickOrder (w.params.setOrder a ep) es).toList else es.toList).map (·.2)
theorem md (a:Addr) (ep:Nat) (es:Array (Int×Value)):(given w a ep es).Perm (es.toList.map (·.2)):=by
 unfold given;split
 ·exact(Bo _ es).map _
 ·exact .refl _
theorem DT (h:bD w=true) (t:SetTable) (i:Nat):dA w t i=0:=by
 cases i with
 |zero=>rfl
 |succ i=>exact if_pos h
theorem SC {ms:List Int}{es:Array (Int×Value)}(ho:s.heap.get? a=some o) (S:dg prog w (bD w) o ns es ep t ms) (hp:bD w=false->(!t.plain&&decide (es.size>1))=false) {x:Value}(hx:(given w a ep es)[i]?=some x)
 {Q:Option (Value×Nat)->Shared->Prop}(h:Q (some (x,dA w t (i+1))) s):wpAny (model prog w) A (setNext a (dA w t i) i ep) Q E s:=by
 have il:i<es.size:=by
  have:=(List.getElem?_eq_some_iff.mp hx).1;rw[(md a ep es).length_eq,aA,kz]at this;exact this
 unfold setNext;refine ae (t7 ho S.d S.ft ?_);unfold setsByText;refine ae (ae (qg (ag ?_)));cases bt:bD w with
 | true =>
   show wpAny _ _ (if bD w=true then _ else _) _ _ _;rw[if_pos bt];rw[if_neg (by simp)];unfold setWalk setsByText;refine ae (ae (t7 ho S.d S.ft (ae (ae (qg (ag ?_))))));show wpAny _ _ (if bD w=true then _ else _) _ _ _;rw[if_pos bt];refine ae (qg (ag (ag ?_)));unfold given at hx;rw[if_pos bt,dS,nR]at hx;rw[DT bt]at h ⊢;show Q (((pickOrder (w.params.setOrder a ep) es)[i]?).map λe=>(e.2,0)) s;cases q:(pickOrder (w.params.setOrder a ep) es)[i]? with
   |none=>rw[q]at hx;cases hx
   | some e =>
     rw[q]at hx;cases hx;exact h
 | false =>
   show wpAny _ _ (if bD w=true then _ else _) _ _ _;rw[if_neg (by rw[bt];decide)];have led:=S.ok.l bt;unfold given at hx;rw[if_neg (by rw[bt];decide),dS,nR]at hx;have pl:t.place.size=es.size:=by
    have:=S.ft;simp only[SetTable.fits,aE,beq_iff_eq]at this;exact this.1
   have pi:t.place[i]?=some (t.place.getD i 0):=by
    have:i<t.place.size:=by omega
    simp[Array.getD,this]
   have sl:SetTable.below t.place (dA w t i)=i:=by
    cases i with
    |zero=>exact An S.ok.r
    | succ i =>
      have e1:dA w t (i+1)=t.place.getD i 0+1:=if_neg (by rw[bt];decide);rw[e1];refine Am S.ok.r ?_;have:i<t.place.size:=by omega
      simp[Array.getD,this]
   split
   ·rename_i c;exact absurd ((show (!t.plain&&decide (es.size>1))=true from c).symm.trans (hp bt)) (by decide)
   ·refine ae ?_;show wpAny _ _ (if (!t.led&&!es.isEmpty)=true then _ else _) _ _ _;rw[if_neg (by rw[led];simp)];refine ag (ag ?_);rw[sl];cases q:es[i]? with
    |none=>rw[q]at hx;cases hx
    | some e =>
      rw[q]at hx;cases hx;rw[pi];have e1:dA w t (i+1)=t.place.getD i 0+1:=if_neg (by rw[bt];decide);rw[e1]at h;exact h
def sd (h:Heap) (it a:Addr) (k i n ep:Nat):Prop:=∃ o u0 u1 u2 u3,h.get? it=some o /\ o.cls=.type "set_iterator" /\ o.data=.fields #[.int (k:Nat) u0,.int (i:Nat) u1,.ref a,.int (n:Nat) u2,.int (ep:Nat) u3]
theorem sd.typeIs {k:Nat}(h:sd s.heap it a k i n ep):s.TypeIs (.ref it) "set_iterator":=by
 obtain⟨o,_,_,_,_,e,c,_⟩:=h;exact⟨o,e,c⟩
theorem sd.at {k:Nat}(x:sd h it a k i n ep) (e:∀ o,h.get? it=some o->h'.get? it=some o):sd h' it a k i n ep:=by
 obtain⟨o,u0,u1,u2,u3,ho,r⟩:=x;exact⟨o,u0,u1,u2,u3,e o ho,r⟩
theorem Oh {ms:List Int}{es:Array (Int×Value)}{x:Value}{Q:Option Value->Shared->Prop}(kX:a≠it) (hi:sd s.heap it a (dA w t i) i es.size ep) (ho:s.heap.get? a=some o) (S:dg prog w (bD w) o ns es ep t ms)
 (hp:bD w=false->(!t.plain&&decide (es.size>1))=false) (hx:(given w a ep es)[i]?=some x)
 (hQ:∀ h',sd h' it a (dA w t (i+1)) (i+1) es.size ep->Heap.SameBut it s.heap h'->Q (some x) { s with heap:=h' }):wpAny (model prog w) A (pyNext (.ref it)) Q E s:=by
 have ty:=hi.typeIs;obtain⟨oi,u0,u1,u2,u3,kY,hc,hd⟩:=hi;unfold pyNext;refine ae (sy (pz (name:=Str.ofString "__next__") ty gZ (dR gZ ty lM ?_ (lN _))));unfold Builtin.«set_iterator.__next__»;refine ae (ag ?_);refine ae (vE kY hd ?_);show wpAny _ _ (setEntries a >>= λes'=>_) _ _ s;refine ae (w9 ho S.d S.ft ?_);rw[if_neg (by simp)];show wpAny _ _ (setNext a ((dA w t i:Nat):Int).toNat ((i:Nat):Int).toNat ((ep:Nat):Int).toNat >>= λr=>_) _ _ s;rw[cX,cX,cX];refine ae (SC ho S hp hx ?_);show wpAny _ _ (setField (.ref it) 0 (rawInt ((dA w t (i+1):Nat):Int)) >>= λ_=>_) _ _ s;have h1:(s.heap.update it (Obj.mapFields (·.setIfInBounds 0 (rawInt ((dA w t (i+1):Nat):Int))))).get? it=some (Obj.mapFields (·.setIfInBounds 0 (rawInt ((dA w t (i+1):Nat):Int))) oi):=pG _ kY (vN (nS hd _));have d1:(Obj.mapFields (·.setIfInBounds 0 (rawInt ((dA w t (i+1):Nat):Int))) oi).data=.fields #[rawInt ((dA w t (i+1):Nat):Int),.int (i:Nat) u1,.ref a,.int (es.size:Nat) u2,.int (ep:Nat) u3]:=by rw[nS hd];simp
 refine ae (qf kY hd (by simp) ?_);show wpAny _ _ (setField (.ref it) 1 (rawInt (((i:Nat):Int)+1)) >>= λ_=>_) _ _ _;refine ae (qf h1 d1 (by simp) ?_);refine ag ⟨_,rfl,ag (hQ _ ⟨_,0,0,u2,u3,pG _ h1 (vN (nS d1 _)),?_,?_⟩ ((Heap.SameBut.update ..).trans (Heap.SameBut.update ..)))⟩
 ·exact(xn ..).trans ((xn ..).trans hc)
 ·rw[nS d1];simp[rawInt]
theorem SD {ms:List Int}{es:Array (Int×Value)}(ho:s.heap.get? a=some o) (S:dg prog w (bD w) o ns es ep t ms) (hp:bD w=false->(!t.plain&&decide (es.size>1))=false)
 {Q:Option (Value×Nat)->Shared->Prop}(h:Q none s):wpAny (model prog w) A (setNext a (dA w t es.size) es.size ep) Q E s:=by
 unfold setNext;refine ae (t7 ho S.d S.ft ?_);unfold setsByText;refine ae (ae (qg (ag ?_)));cases bt:bD w with
 | true =>
   show wpAny _ _ (if bD w=true then _ else _) _ _ _;rw[if_pos bt,if_neg (by simp)];unfold setWalk setsByText;refine ae (ae (t7 ho S.d S.ft (ae (ae (qg (ag ?_))))));show wpAny _ _ (if bD w=true then _ else _) _ _ _;rw[if_pos bt];refine ae (qg (ag (ag ?_)));have e1:(pickOrder (w.params.setOrder a ep) es)[es.size]?=none:=by
    have:=(Bo (w.params.setOrder a ep) es).length_eq;rw[kz,kz]at this;rw[<-this];simp
   show Q (((pickOrder (w.params.setOrder a ep) es)[es.size]?).map λe=>(e.2,dA w t es.size)) s;rw[e1];exact h
 | false =>
   show wpAny _ _ (if bD w=true then _ else _) _ _ _;rw[if_neg (by rw[bt];decide)];have led:=S.ok.l bt;have pl:t.place.size=es.size:=by
    have:=S.ft;simp only[SetTable.fits,aE,beq_iff_eq]at this;exact this.1
   have sl:SetTable.below t.place (dA w t es.size)=es.size:=by
    cases q:es.size with
    |zero=>exact An S.ok.r
    | succ i =>
      have e1:dA w t (i+1)=t.place.getD i 0+1:=if_neg (by rw[bt];decide);rw[e1];refine Am S.ok.r ?_;have:i<t.place.size:=by omega
      simp[Array.getD,this]
   split
   ·rename_i c;exact absurd ((show (!t.plain&&decide (es.size>1))=true from c).symm.trans (hp bt)) (by decide)
   ·refine ae ?_;show wpAny _ _ (if (!t.led&&!es.isEmpty)=true then _ else _) _ _ _;rw[if_neg (by rw[led];simp)];refine ag (ag ?_);rw[sl];have e2:es[es.size]?=none:=by simp
    rw[e2];exact h
theorem SE {ms:List Int}{es:Array (Int×Value)}{Q:Option Value->Shared->Prop}(hh:A.handled=none) (hi:sd s.heap it a (dA w t es.size) es.size es.size ep) (ho:s.heap.get? a=some o) (S:dg prog w (bD w) o ns es ep t ms)
 (hp:bD w=false->(!t.plain&&decide (es.size>1))=false) (hQ:∀ h',Heap.ExtBut it s.heap h'->Q none { s with heap:=h' }):wpAny (model prog w) A (pyNext (.ref it)) Q E s:=by
 have ty:=hi.typeIs;obtain⟨oi,u0,u1,u2,u3,kY,hc,hd⟩:=hi;unfold pyNext;refine ae (sy (pz (name:=Str.ofString "__next__") ty gZ (dR gZ ty lM ?_ (lN _))));unfold Builtin.«set_iterator.__next__»;refine ae (ag ?_);refine ae (vE kY hd ?_);show wpAny _ _ (setEntries a >>= λes'=>_) _ _ s;refine ae (w9 ho S.d S.ft ?_);rw[if_neg (by simp)];show wpAny _ _ (setNext a ((dA w t es.size:Nat):Int).toNat ((es.size:Nat):Int).toNat ((ep:Nat):Int).toNat >>= λr=>_) _ _ s;rw[cX,cX,cX];refine ae (SD ho S hp ?_);show wpAny _ _ (setField (.ref it) 2 .none >>= λ_=>_) _ _ s;refine ae (qf kY hd (by simp) ?_);show wpAny _ _ (newExc (.type "StopIteration") [] >>= λe=>raiseNew e) _ _ _;refine ae (by
  simp only[newExc,newTuple];refine ae (cT (ae (m:=firstArgMember _ _) (tZ (a:=Value.none) (by first|rfl|(simp only[firstArgMember];rfl)) (cT ?_ (by size_fits)))) (by size_fits));simp only[raiseNew];refine ae (yV ?_);rw[show A.in1.handled=none from hh];refine ae (ag (yW ?_));refine ae (wZ (T:="StopIteration") (b:=true) ⟨_,aU _ rfl,rfl⟩ yX ?_);exact ag (hQ _ (((Heap.SameBut.update ..).extBut.push _).push _)))
theorem LL (hh:A.handled=none) (kX:a≠it) {ms:List Int}{es:Array (Int×Value)}(S:dg prog w (bD w) o ns es ep t ms) (hp:bD w=false->(!t.plain&&decide (es.size>1))=false) :
 Walks prog w A it [it,a] [it] es.size (λi v=>(given w a ep es)[i]?=some v) (λi h=>sd h it a (dA w t i) i es.size ep /\ h.get? a=some o) where
 sub:=λb hb=>by simp at hb;simp[hb]
 frame:=λ_ _ _ st hk=>⟨st.1.at λo e=>hk it (by simp) o e,hk a (by simp) _ st.2⟩
 item:=λi s Q E hi st hQ=>by
  obtain⟨x,hx⟩:∃ x,(given w a ep es)[i]?=some x:=by
   have:i<(given w a ep es).length:=by rw[(md a ep es).length_eq,aA,kz];exact hi
   exact⟨_,bI this⟩
  refine Oh kX st.1 st.2 S hp hx λh' i' sb=>?_;exact hQ x h' s.toks hx ⟨i',(sb.2 a kX).trans st.2⟩ λb o hb e=>(sb.2 b λz=>hb (by simp[z])).trans e
 done:=λs Q E st hQ=>SE hh st.1 st.2 S hp λh' he=>hQ h' s.toks λb o hb e=>he b o (λz=>hb (by simp[z])) e
 self:=λi s Q E st hQ=>by
  have ty:=st.1.typeIs;refine wY ty oN (dR oN ty Bm ?_ (Bn _));show wpAny _ _ (ret (.ref it)) _ _ s;exact ag ⟨_,rfl, "set_iterator",_,ty,gZ.lookup,hQ⟩
theorem LM {src:Source}{Q:Nat->Shared->Prop}(hn:n≠0) (h:∀ i,i<n->Q i { s with drawn:=s.drawn.bump src }):wpAny (model prog w) A (choose src n) Q E s:=λ_ _ _=>⟨hn,h _ (VV _ (Nat.pos_of_ne_zero hn))⟩
theorem CG {α:Type}:∀ (n:Nat) (l:List α) (s:Shared) {Q:List α->Shared->Prop},l.length=n->(∀ l' d,l'.Perm l->Q l' { s with drawn:=d })->wpAny (model prog w) A (drawOrder n l) Q E s
 | 0,l,s,Q,hl,h=>by
   have:l=[]:=zj hl;subst this;exact ag (h [] s.drawn (.refl _))
 |n+1,[],s,Q,hl,h=>by cases hl
 | n+1,x::l,s,Q,hl,h=>by
   unfold drawOrder;refine ae (LM (by simp) λi hi=>?_);rw[bI hi];refine ae (CG n ((x::l).eraseIdx i) _ (by rw[HD hi];omega) λl' d p=>ag (h _ d ?_));exact(p.cons _).trans (l9 (x::l) hi)
def se (h:Heap) (it a q:Addr) (i n ep:Nat):Prop:=∃ o u1 u2 u3,h.get? it=some o /\ o.cls=.type "set_iterator" /\ o.data=.fields #[.ref q,.int (i:Nat) u1,.ref a,.int (n:Nat) u2,.int (ep:Nat) u3]
theorem se.typeIs {q:Addr}(h:se s.heap it a q i n ep):s.TypeIs (.ref it) "set_iterator":=by
 obtain⟨o,_,_,_,e,c,_⟩:=h;exact⟨o,e,c⟩
theorem se.at {q:Addr}(x:se h it a q i n ep) (e:∀ o,h.get? it=some o->h'.get? it=some o):se h' it a q i n ep:=by
 obtain⟨o,u1,u2,u3,ho,r⟩:=x;exact⟨o,u1,u2,u3,e o ho,r⟩
theorem Oi {q:Addr}{oq:Obj}{ms:List Int}{es:Array (Int×Value)}{c:Nat}{ps:List Nat}{e:Int×Value}{Q:Option Value->Shared->Prop}(hi:se s.heap it a q i es.size ep) (ho:s.heap.get? a=some o) (S:dg prog w (bD w) o ns es ep t ms)
 (hq:s.heap.get? q=some oq) (wC:oq.data=.seq (ps.map λ(k:Nat)=>rawInt (k:Int)).toArray c) (hj:ps[i]?=some j) (hx:es[j]?=some e)
 (hQ:∀ h',se h' it a q (i+1) es.size ep->Heap.SameBut it s.heap h'->Q (some e.2) { s with heap:=h' }):wpAny (model prog w) A (pyNext (.ref it)) Q E s:=by
 have ty:=hi.typeIs;obtain⟨oi,u1,u2,u3,kY,hc,hd⟩:=hi;unfold pyNext;refine ae (sy (pz (name:=Str.ofString "__next__") ty gZ (dR gZ ty lM ?_ (lN _))));unfold Builtin.«set_iterator.__next__»;refine ae (ag ?_);refine ae (vE kY hd ?_);show wpAny _ _ (setEntries a >>= λes'=>_) _ _ s;refine ae (w9 ho S.d S.ft ?_);rw[if_neg (by simp)];show wpAny _ _ (seqItems? (.ref q) >>= λr=>_) _ _ s;unfold seqItems?;refine ae (ae (vz hq ?_));rw[wC];refine ag ?_;dsimp only;rw[cX,show (ps.map λ(k:Nat)=>rawInt (k:Int)).toArray[i]?=some (rawInt (j:Int)) by simp[hj]];show wpAny _ _ (setNextDrawn a ((j:Nat):Int).toNat ((ep:Nat):Int).toNat >>= λr=>_) _ _ s;rw[cX,cX];unfold setNextDrawn;refine ae (ae (t7 ho S.d S.ft ?_));dsimp only;rw[if_neg (by simp),hx];refine ag ?_;show wpAny _ _ (setField (.ref it) 1 (rawInt (((i:Nat):Int)+1)) >>= λ_=>_) _ _ _;refine ae (qf kY hd (by simp) ?_);refine ag ⟨_,rfl,ag (hQ _ ⟨_,0,u2,u3,pG _ kY (vN (nS hd _)),(xn ..).trans hc,?_⟩ (Heap.SameBut.update ..))⟩;rw[nS hd];simp[rawInt]
theorem SF {q:Addr}{oq:Obj}{ms:List Int}{es:Array (Int×Value)}{c:Nat}{ps:List Nat}{Q:Option Value->Shared->Prop}(hh:A.handled=none) (hi:se s.heap it a q i es.size ep) (ho:s.heap.get? a=some o) (S:dg prog w (bD w) o ns es ep t ms)
 (hq:s.heap.get? q=some oq) (wC:oq.data=.seq (ps.map λ(k:Nat)=>rawInt (k:Int)).toArray c) (hj:ps[i]?=none)
 (hQ:∀ h',Heap.ExtBut it s.heap h'->Q none { s with heap:=h' }):wpAny (model prog w) A (pyNext (.ref it)) Q E s:=by
 have ty:=hi.typeIs;obtain⟨oi,u1,u2,u3,kY,hc,hd⟩:=hi;unfold pyNext;refine ae (sy (pz (name:=Str.ofString "__next__") ty gZ (dR gZ ty lM ?_ (lN _))));unfold Builtin.«set_iterator.__next__»;refine ae (ag ?_);refine ae (vE kY hd ?_);show wpAny _ _ (setEntries a >>= λes'=>_) _ _ s;refine ae (w9 ho S.d S.ft ?_);rw[if_neg (by simp)];show wpAny _ _ (seqItems? (.ref q) >>= λr=>_) _ _ s;unfold seqItems?;refine ae (ae (vz hq ?_));rw[wC];refine ag ?_;dsimp only;rw[cX,show (ps.map λ(k:Nat)=>rawInt (k:Int)).toArray[i]?=none by simpa using hj];show wpAny _ _ (setField (.ref it) 0 (rawInt 0) >>= λ_=>_) _ _ s;have h1:(s.heap.update it (Obj.mapFields (·.setIfInBounds 0 (rawInt 0)))).get? it=some (Obj.mapFields (·.setIfInBounds 0 (rawInt 0)) oi):=pG _ kY (vN (nS hd _));have d1:(Obj.mapFields (·.setIfInBounds 0 (rawInt 0)) oi).data=.fields #[rawInt 0,.int (i:Nat) u1,.ref a,.int (es.size:Nat) u2,.int (ep:Nat) u3]:=by rw[nS hd];simp
 refine ae (qf kY hd (by simp) ?_);show wpAny _ _ (setField (.ref it) 2 .none >>= λ_=>_) _ _ _;refine ae (qf h1 d1 (by simp) ?_);show wpAny _ _ (newExc (.type "StopIteration") [] >>= λe=>raiseNew e) _ _ _;refine ae (by
  simp only[newExc,newTuple];refine ae (cT (ae (m:=firstArgMember _ _) (tZ (a:=Value.none) (by first|rfl|(simp only[firstArgMember];rfl)) (cT ?_ (by size_fits)))) (by size_fits));simp only[raiseNew];refine ae (yV ?_);rw[show A.in1.handled=none from hh];refine ae (ag (yW ?_));refine ae (wZ (T:="StopIteration") (b:=true) ⟨_,aU _ rfl,rfl⟩ yX ?_);exact ag (hQ _ ((((Heap.SameBut.update ..).trans (Heap.SameBut.update ..)).extBut.push _).push _)))
noncomputable def El (es:Array (Int×Value)) (ps:List Nat):List Value:=ps.map λk=>(es.getD k (0,.none)).2
theorem CH {es:Array (Int×Value)}{ps:List Nat}(p:ps.Perm (List.range es.size)):(El es ps).Perm (es.toList.map (·.2)):=by
 refine(p.map _).trans (aap ?_);apply vG;intro i;by_cases h:i<es.size
 ·simp[Array.getD,h]
 ·simp[h]
theorem Oj (hh:A.handled=none) {q:Addr}(kX:a≠it) (ac0:q≠it) {oq:Obj}{ms:List Int}{es:Array (Int×Value)}{c:Nat}{ps:List Nat}(S:dg prog w (bD w) o ns es ep t ms)
 (wC:oq.data=.seq (ps.map λ(k:Nat)=>rawInt (k:Int)).toArray c) (p:ps.Perm (List.range es.size)) :
 Walks prog w A it [it,a,q] [it] es.size (λi v=>(El es ps)[i]?=some v) (λi h=>se h it a q i es.size ep /\ h.get? a=some o /\ h.get? q=some oq) where
 sub:=λb hb=>by simp at hb;simp[hb]
 frame:=λ_ _ _ st hk=>⟨st.1.at λo e=>hk it (by simp) o e,hk a (by simp) _ st.2.1,hk q (by simp) _ st.2.2⟩
 item:=λi s Q E hi st hQ=>by
  have il:i<ps.length:=by rw[p.length_eq,sH];exact hi
  have ej:ps[i]?=some ps[i]:=bI il;have jl:ps[i]<es.size:=List.mem_range.mp (p.mem_iff.mp (ud il));have ex:es[ps[i]]?=some es[ps[i]]:=by simp[jl]
  refine Oi st.1 st.2.1 S st.2.2 wC ej ex λh' i' sb=>?_;refine hQ _ h' s.toks ?_ ⟨i',(sb.2 a kX).trans st.2.1,(sb.2 q ac0).trans st.2.2⟩ λb o hb e=>(sb.2 b λz=>hb (by simp[z])).trans e;unfold El;rw[dS,ej];simp[Array.getD,jl]
 done:=λs Q E st hQ=>SF hh st.1 st.2.1 S st.2.2 wC (rq (by rw[p.length_eq,sH];exact aq _)) λh' he=>hQ h' s.toks λb o hb e=>he b o (λz=>hb (by simp[z])) e
 self:=λi s Q E st hQ=>by
  have ty:=st.1.typeIs;refine wY ty oN (dR oN ty Bm ?_ (Bn _));show wpAny _ _ (ret (.ref it)) _ _ s;exact ag ⟨_,rfl, "set_iterator",_,ty,gZ.lookup,hQ⟩
def ac1 (prog:Program) (w:World) (A:Around) (s:Shared) (a:Addr) (es:Array (Int×Value)) (it:Addr) (s':Shared):Prop :=
 ∃ (h':Heap) (d:Drawn) (us:List Value) (fp:List Addr) (St:Nat->Heap->Prop),s'={ s with heap:=h',drawn:=d } /\ Kp s.heap h' /\ us.Perm (es.toList.map (·.2)) /\ it∈fp /\ (∀ b∈fp,b<h'.objs.size /\ (b=a \/ s.heap.objs.size<=b)) /\ s.heap.objs.size<=it /\
  Walks prog w A it fp [it] es.size (λi v=>us[i]?=some v) St /\ St 0 h' /\ ∀ i h,St i h->∃ o,h.get? it=some o /\ o.cls=.type "set_iterator"
theorem LN (hh:A.handled=none) {ms:List Int}{es:Array (Int×Value)}(ho:s.heap.get? a=some o) (S:dg prog w (bD w) o ns es ep t ms)
 (h:∀ it s',ac1 prog w A s a es it s'->Q (.ref it) s'):wpAny (model prog w) A (pyIter (.ref a)) Q E s:=by
 have ty:s.TypeIs (.ref a) "set":=⟨o,ho,S.x.1⟩;have al:=aM ho;refine wY ty W4 (dR W4 ty DS ?_ (F.args_set_iter_1 _));unfold Builtin.«frozenset.__iter__»;show wpAny _ _ (Builtin.Frozenset.sizeOf a >>= λn=>_) _ _ s;unfold Builtin.Frozenset.sizeOf;refine ae (ae (w9 ho S.d S.ft (ag ?_)));unfold setDrawn setsByText;refine ae (ae (t7 ho S.d S.ft (ae (ae (qg (ag (ag ?_)))))));dsimp only;split
 ·rename_i c;have c':(!bD w&&(!t.plain&&decide (es.size>1)))=true:=c;refine ae (CG es.size (List.range es.size) s (by simp) λps d p=>?_);unfold newTuple;refine ae (cT ?_ ?_)
  ·have hq:(s.heap.push { cls:=.type "tuple",data:=.seq (ps.map λ(k:Nat)=>rawInt (k:Int)).toArray }).get? s.heap.objs.size=some { cls:=.type "tuple",data:=.seq (ps.map λ(k:Nat)=>rawInt (k:Int)).toArray }:=aU _ rfl;have YT:(s.heap.push { cls:=.type "tuple",data:=.seq (ps.map λ(k:Nat)=>rawInt (k:Int)).toArray }).get? a=some o:=aC _ ho;refine ae (VN YT S.d S.ft ?_);unfold newFields;refine ae (cT (ag ?_) (by size_fits));have sz:(s.heap.push { cls:=.type "tuple",data:=.seq (ps.map λ(k:Nat)=>rawInt (k:Int)).toArray }).objs.size=s.heap.objs.size+1:=rB ..;have gi:=aU (s.heap.push { cls:=.type "tuple",data:=.seq (ps.map λ(k:Nat)=>rawInt (k:Int)).toArray }) (o:={ cls:=.type "set_iterator",data:=.fields [.ref s.heap.objs.size,rawInt 0,.ref a,rawInt (es.size:Nat),rawInt (ep:Nat)].toArray }) rfl
   refine⟨_,rfl, "set_iterator",_,⟨_,gi,rfl⟩,gZ.lookup,h _ _ ⟨_,d,El es ps,[_,a,s.heap.objs.size],_,rfl,λb o e=>aC _ (aC _ e),CH p,.head _,λb hb=>?_,by rw[sz];exact sD _,
    Oj hh (by rw[sz];exact bH (k7 al)) (by rw[sz];exact bH (pB _)) S rfl p,⟨⟨_,_,_,_,gi,rfl,rfl⟩,aC _ YT,aC _ hq⟩,λi h st=>?_⟩⟩
   ·rw[rB,sz];simp only[aO,eZ,or_false]at hb;rcases hb with rfl|rfl|rfl
    ·rw[sz];exact⟨pB _,.inr (sD _)⟩
    ·exact⟨k7 (k7 al),.inl rfl⟩
    ·exact⟨k7 (pB _),.inr (aq _)⟩
   ·obtain⟨⟨oi,_,_,_,e,cl,_⟩,_⟩:=st;exact⟨oi,e,cl⟩
  ·show (ps.map λ(k:Nat)=>rawInt (k:Int)).toArray.size<=sizeLine;have l1:=p.length_eq;have bd:=S.bd;have sb:scanBound=4096:=rfl;have sl:sizeLine=16777216:=bp;rw[sH]at l1;simp;omega
 ·rename_i c;have hp:bD w=false->(!t.plain&&decide (es.size>1))=false:=λz=>by
   have c':¬ ((!bD w&&(!t.plain&&decide (es.size>1)))=true):=c;rw[z]at c';simpa using c'
  refine ae (ag ?_);show wpAny _ _ (setEpoch a >>= λe=>_) _ _ s;refine ae (VN ho S.d S.ft ?_);show wpAny _ _ (newFields "set_iterator" [rawInt 0,rawInt 0,.ref a,rawInt (es.size:Nat),rawInt (ep:Nat)] >>= λv=>ret v) _ _ s;unfold newFields;refine ae (cT (ag ?_) (by size_fits));have gi:(s.heap.push { cls:=.type "set_iterator",data:=.fields [rawInt 0,rawInt 0,.ref a,rawInt (es.size:Nat),rawInt (ep:Nat)].toArray }).get? s.heap.objs.size=some { cls:=.type "set_iterator",data:=.fields [rawInt 0,rawInt 0,.ref a,rawInt (es.size:Nat),rawInt (ep:Nat)].toArray }:=aU _ rfl;refine⟨_,rfl, "set_iterator",_,⟨_,gi,rfl⟩,gZ.lookup,h _ _ ⟨_,s.drawn,given w a ep es,[s.heap.objs.size,a],_,rfl,λb o e=>aC _ e,md a ep es,.head _,λb hb=>?_,aq _,LL hh (bH al) S hp,⟨⟨_,_,_,_,_,gi,rfl,rfl⟩,aC _ ho⟩,λi h st=>?_⟩⟩
  ·rw[rB];simp at hb;rcases hb with rfl|rfl
   ·exact⟨pB _,.inr (aq _)⟩
   ·exact⟨k7 al,.inl rfl⟩
  ·obtain⟨⟨oi,_,_,_,_,e,cl,_⟩,_⟩:=st;exact⟨oi,e,cl⟩
noncomputable abbrev KW:Obj:={ cls:=.type "list",data:=.seq ([]:List Value).toArray }
def ac2 (s:Shared) (s':Shared):Prop:=∃ h' d tk,s'={ s with heap:=h',drawn:=d,toks:=tk } /\ Kp s.heap h' /\ s.heap.objs.size<=h'.objs.size
theorem CI (hh:A.handled=none) {ms:List Int}{es:Array (Int×Value)}{Q:List Value->Shared->Prop}(ho:s.heap.get? a=some o) (S:dg prog w (bD w) o ns es ep t ms)
 (h:∀ us s',us.Perm (es.toList.map (·.2))->ac2 s s'->Q us s'):wpAny (model prog w) A (collect (.ref a)) Q E s:=by
 have al:=aM ho;have nl:s.heap.objs.size≠a:=rh al;have ty:∀ h' d tk,Kp s.heap h'->Shared.TypeIs { s with heap:=h',drawn:=d,toks:=tk } (.ref a) "set":=λh' d tk k=>⟨o,k a o ho,S.x.1⟩;unfold collect;refine ae (yS (qc F.entry_proto_collect (by
  rw[ui F.plain_proto_collect _];refine ae (cT (ag ⟨sC W5 _,qc F.entry_list_iadd ?_⟩) (by size_fits));rw[ui W5 _];show wpAny _ A.in1 (Builtin.List.listExtendWith (.ref s.heap.objs.size) (.ref a) (.ref s.heap.objs.size)) _ _ _;unfold Builtin.List.listExtendWith;have k1:Kp s.heap (s.heap.push KW):=λb ob e=>aC _ e;refine ae (vC (ty _ s.drawn s.toks k1) ?_);rw[if_neg (by simp[Builtin.List.listSameRef,nl])];refine ae (LN (A:=A.in1) (by simp[hh]) (k1 a o ho) S λit s1 bg=>?_);obtain⟨h1,d,us,fp,St,rfl,k2,pu,mi,fl,ge,W,ac3,cl⟩:=bg;have k3:Kp s.heap h1:=λb ob e=>k2 b ob (k1 b ob e);have g0:h1.get? s.heap.objs.size=some KW:=k2 _ _ (aU _ rfl);refine ae (cP ?_);unfold Builtin.List.listLengthHint;refine ae (VC (ty h1 d s.toks k3) F.slot_set_len.lookup ?_);dsimp only;rw[show splitId "set.__len__"=some ("set", "__len__") by decide +kernel];dsimp only;refine ae (wZ (b:=true) (ty h1 d s.toks k3) VH ?_);rw[if_neg (by decide)];rw[if_pos (by decide +kernel)];refine ae (vC (ty h1 d s.toks k3) ?_);refine ag ?_;rw[if_pos (by decide +kernel)];refine ae (k6 (ae ?_));show wpAny _ A.in1 (updateSeq s.heap.objs.size (·.push .none) >>= λ_=>updateSeq s.heap.objs.size (·.pop)) _ _ _;have g1:=pG (Obj.mapSeq (·.push Value.none)) g0 rfl;have g2:=pG (Obj.mapSeq (·.pop)) g1 rfl;have z1:(s.heap.push KW).objs.size=s.heap.objs.size+1:=rB ..;have ac4:s.heap.objs.size+1<=it:=z1▸ge;have nf:s.heap.objs.size∉fp:=λm=>by
   rcases(fl _ m).2 with z|z
   ·exact nl z
   ·exact absurd (z1▸z:s.heap.objs.size+1<=s.heap.objs.size) (Nat.not_succ_le_self _)
  have YU:∀ b ob,b≠s.heap.objs.size->h1.get? b=some ob->((h1.update s.heap.objs.size (Obj.mapSeq (·.push Value.none))).update s.heap.objs.size (Obj.mapSeq (·.pop))).get? b=some ob:=λb ob ne e=>(zt _ _ (Ne.symm ne)).trans ((zt _ _ (Ne.symm ne)).trans e);have sl:es.size<=sizeLine:=Hk S.bd;refine ae (w8 g0 rfl (w8 g1 rfl (ag ⟨sC F.plain_extend_loop _,codeAny_extend_loopS W.toS sl _ nf _ es.size 0 _ _ _ rfl (cG _) (W.frame 0 h1 _ ac3 λb hb ob e=>YU b ob (λz=>nf (z▸hb)) e) g2 (ItemsOf.nil _) λs2 acc c mv gs bu=>?_⟩)));refine ae (vz gs (ag (h _ s2 ?_ ?_)))
  ·have e1:acc.toList=us:=by
    have ul:us.length=es.size:=by rw[pu.length_eq,aA,kz]
    apply vG;intro j;by_cases hj:j<acc.size
    ·have ej:acc[j]?=some acc[j]:=by simp[hj]
     rw[nR,ej];exact(bu.2 j _ ej).symm
    ·have h3:=bu.1;rw[nR,Ig (by omega),rq (by omega)]
   rw[e1];exact pu
  ·obtain⟨h2,gg,dd,tk,os⟩:=s2;have q1:gg=s.gens:=mv.gens;have q2:dd=d:=mv.drawn;have q3:os=s.os:=mv.os;subst q1 q2 q3;refine⟨h2,dd,tk,rfl,λb ob e=>?_,nN (aM gs)⟩;have bl:=aM e;refine mv.heap b ob ?_ (YU b ob (bH bl) (k3 b ob e));simp only[aO,eZ,or_false,not_or];exact⟨bH bl,bH (eB (k7 bl) ac4)⟩)))
theorem Aq (hh:A.handled=none) (S:km prog w (bD w) s.heap a ns) (ka:ns.length<64)
 (h:∀ (l:Addr) (out:Array Value) (ks:List Int) (c:Nat) (h':Heap) (d:Drawn) (tk:Nat),IntsAre out.toList ks->ks.Perm ns->ks.Pairwise (·<=·)->Kp s.heap h'->s.heap.objs.size<=l->h'.get? l=some (seqObj "list" out c)->Q (.ref l) { s with heap:=h',drawn:=d,toks:=tk }) :
 wpAny (model prog w) A (call (.builtin "sorted") [.ref a]) Q E s:=by
 obtain⟨o,es,ep,t,ms,ho,S⟩:=S;refine WR Wz WA WB (WC _) ?_;unfold Builtin.«sorted»;refine ae (m:=checkCount "sorted" 1 1 _) (ag (ae (CI (by simp[hh]) ho S λus s1 pu wk=>?_)));obtain⟨h1,d,tk,rfl,k1,le⟩:=wk;obtain⟨ks,ik,pk⟩:=jP pu S.vs;have ul:us.length<64:=by
  rw[ik.length,pk.length_eq,S.pm.length_eq];exact ka
 refine ae (yT ?_);have gl:(h1.push (seqObj "list" us.toArray 0)).get? h1.objs.size=some (seqObj "list" us.toArray 0):=aU _ rfl;refine ae (cP (dR WD ⟨_,gl,rfl⟩ WE (WG gl ik ul λout js a1 a2 a3=>⟨_,rfl,ag ⟨_,rfl,?_⟩⟩) (WH _)));obtain⟨c,gc⟩:=sortedHeap_at (vs:=us) (out:=out) gl;exact h _ out js c _ d tk a1 ((a2.trans pk).trans S.pm) a3 (λb ob e=>by
  have bl:b<h1.objs.size:=aM (k1 b ob e);rw[sortedHeap_old (bH bl) (by rw[rB];exact k7 bl)];exact aC _ (k1 b ob e)) le gc
end HT
namespace L2
open PySem.W
section
variable {a : Expr} {p p2 dM : Pos} {t : TA}
def YV (K:Frag) (vs:List V) (H:Hp) (Q:VK):Prop:=∃ (p:Addr) (ns:List Int),vs=[.ref p] /\ aV K H p (ns.map V.int) /\ ns.length<4000 /\ Q (.int (HT.dist ns).length) H
theorem Je (hc:X.calm=true) (hg:Gl X "len") (hm:X.mg "len"=none) (dr:Gl X "set") (eu:X.mg "set"=none) (ha:PA X [a] t) (hs:DL.aR a=true) :
 PE X (.Call (.Name "len" p) [.Call (.Name "set" p2) [a] [] dM] [] pos) (v7 (YV X.K) t):=by
 intro pins s σ H Q I h;have st:=DL.fk (e:=.Call (.Name "set" p2) [a] [] dM) rfl [] X.env;refine kJ (gJ I hg hm Hg ?_ (by decide) (by decide));refine callWith_builtin1 ?_ st (DL.gW (es:=[]) rfl);rw[st];show wpAny _ _ (spliced ((false,eval (.Call (.Name "set" p2) [a] [] dM) X.env)::backTo pos (starEach [] X.env))) _ _ s;refine qp (kJ (gJ I dr eu (by decide +kernel:bootBuiltins "set"=some (.type "set")) ?_ (by decide) (by decide)));refine callWith_type1 (ai (ha dM pins s σ H _ I h) λus s1 ⟨vs,H1,I1,r1,q1⟩=>?_) (DL.fk hs [] X.env) rfl;obtain⟨l,ns,rfl,hl,hn,q⟩:=q1;obtain⟨u,rfl,ru⟩:=Vals.one r1;cases ru;have sb:scanBound=4096:=rfl;obtain⟨its,r',⟨o,z1,z2,z3⟩,hz⟩:=I1.tuple hl;refine HT.Ap (vs:=its) (ns:=ns) (I1.ok.hd hc) (.inl ⟨o,z1,z2,z3⟩) (jO r') (by omega) λs' e=>?_;obtain⟨h',tk,rfl,⟨o,es,ep,tb,ms,ho,S⟩,hk⟩:=e;have dl:(HT.dist ns).length<=ns.length:=Ia _ _;have sl:=S.len;exact sJ (call_len_set ho S.x S.d S.ft (by omega) ⟨.int (HT.dist ns).length,H1,I1.kept hk,⟨_,by rw[sl]⟩,q⟩)
def KY (K:Frag) (vs:List V) (H:Hp) (Q:VK):Prop:=∃ (p:Addr) (ns:List Int),vs=[.ref p] /\ (aS K H p (ns.map V.int) \/ aV K H p (ns.map V.int)) /\ ns.length<4000 /\ (HT.dist ns).length<64 /\ ∀ l,H l=none->Q (.ref l) (upd H l (.lst ((DL.sortI (HT.dist ns)).map V.int)))
theorem DU (hc:X.calm=true) (hg:Gl X "sorted") (hm:X.mg "sorted"=none) (dr:Gl X "set") (eu:X.mg "set"=none) (ha:PA X [a] t) (hs:DL.aR a=true) :
 PE X (.Call (.Name "sorted" p) [.Call (.Name "set" p2) [a] [] dM] [] pos) (v7 (KY X.K) t):=by
 intro pins s σ H Q I h;have st:=DL.fk (e:=.Call (.Name "set" p2) [a] [] dM) rfl [] X.env;refine kJ (gJ I hg hm (by decide +kernel:bootBuiltins "sorted"=some (.builtin "sorted")) ?_ (by decide) (by decide));refine callWith_builtin1 ?_ st (DL.gW (es:=[]) rfl);rw[st];show wpAny _ _ (spliced ((false,eval (.Call (.Name "set" p2) [a] [] dM) X.env)::backTo pos (starEach [] X.env))) _ _ s;refine qp (kJ (gJ I dr eu (by decide +kernel:bootBuiltins "set"=some (.type "set")) ?_ (by decide) (by decide)));refine callWith_type1 (ai (ha dM pins s σ H _ I h) λus s1 ⟨vs,H1,I1,r1,q1⟩=>?_) (DL.fk hs [] X.env) rfl;obtain⟨l,ns,rfl,hl,hn,ka,q⟩:=q1;obtain⟨u,rfl,ru⟩:=Vals.one r1;cases ru;have sb:scanBound=4096:=rfl;have hd:=I1.ok.hd hc;have fin:∀ s',HT.wz X.prog X.w s1 ns s'->wpAny (model X.prog X.w) X.A (spliced (backTo pos (starEach [] X.env))) (λws s2=>wpAny (model X.prog X.w) X.A (call (.builtin "sorted") (.ref s1.heap.objs.size::ws)) (EP X pins σ Q) X.xe s2) X.xe s':=λs' e=>by
  obtain⟨h',tk,rfl,S,hk⟩:=e;have lz:s1.heap.objs.size<=h'.objs.size:=by
   obtain⟨o,_,_,_,_,ho,_⟩:=S;exact nN (aM ho)
  refine sJ (HT.Aq hd S ka λL out ks c h2 d Ek a1 a2 a3 k2 le gL=>?_);have e:ks=DL.sortI (HT.dist ns):=DL.jh (a2.trans (DL.gm _).symm) a3 (DL.gE _);subst e;have hf:H1 L=none:=I1.ak.fresh (bR lz le);have ll:((DL.sortI (HT.dist ns)).map V.int).length<=sizeLine:=by
   rw[aA,(DL.gm _).length_eq];exact bR (nN ka) (by decide)
  have I2:=I1.laid (h':=h2) (a:=L) (t':=Ek) (o:=.lst ((DL.sortI (HT.dist ns)).map V.int)) (λb u e=>k2 b u (hk b u e)) (bR lz le) ⟨ll,out.toList,c,DL.lI a1,gL⟩;exact⟨.ref L,_,⟨I2.ok,I2.os,I2.bare,I2.base,I2.loc,I2.cell,I2.free,I2.nV,I2.pin,I2.ak,I2.len⟩,rfl,q L hf⟩
 rcases hl with hl|hl
 ·obtain⟨its,r',pl,hz⟩:=I1.list hl;exact HT.Ap (vs:=its) (ns:=ns) hd (.inr pl.isList) (jO r') (by omega) fin
 ·obtain⟨its,r',pl,hz⟩:=I1.tuple hl;obtain⟨o,z1,z2,z3⟩:=pl;exact HT.Ap (vs:=its) (ns:=ns) hd (.inl ⟨o,z1,z2,z3⟩) (jO r') (by omega) fin
end
end L2
namespace L2.DL
open PySem.W
def u5:List D->Option Res:=λxs=>match xs with
 |[.tup l]=>(intsOf l).bind λns=>if ns.length<4000 then some (.old (.int (HT.dist ns).length)) else none
 |_=>none
theorem ac5:dW (YV K) u5:=by
 intro F H xs vs Q s sub rx e k;unfold u5 at e;split at e
 ·rename_i l;cases e1:intsOf l with
  |none=>rw[e1]at e;cases e
  | some ns =>
    rw[e1]at e;simp only[ba]at e;split at e
    ·rename_i hn;cases e;obtain⟨v,t,rfl,h1,h2⟩:=rx;cases (show t=[] from h2);obtain⟨a,ws,rfl,h3,h4⟩:=h1;have q1:=h4.ints e1;subst q1;exact⟨a,ns,rfl,.of (sub _ _ h3),hn,k _ _ ⟨rfl,rfl⟩⟩
    ·cases e
 ·cases e
def wD:List D->Option Res:=λxs=>match xs with
 |[.lst l]=>(intsOf l).bind λns=>if ns.length<4000 /\ (HT.dist ns).length<64 then some (.lst ((sortI (HT.dist ns)).map D.int)) else none
 |[.tup l]=>(intsOf l).bind λns=>if ns.length<4000 /\ (HT.dist ns).length<64 then some (.lst ((sortI (HT.dist ns)).map D.int)) else none
 |_=>none
theorem ac6:dW (KY K) wD:=by
 intro F H xs vs Q s sub rx e k;have go:∀ (l:List D) (ws:List V) (a:Addr),ao F l ws->(aS K H a ws \/ aV K H a ws)->vs=[.ref a]->((intsOf l).bind λns=>if ns.length<4000 /\ (HT.dist ns).length<64 then some (Res.lst ((sortI (HT.dist ns)).map D.int)) else none)=some s->KY K vs H Q:=λl ws a dl sq ev e=>by
  cases e1:intsOf l with
  |none=>rw[e1]at e;cases e
  | some ns =>
    rw[e1]at e;simp only[ba]at e;split at e
    ·rename_i hn;cases e;have q1:=dl.ints e1;subst q1;exact⟨a,ns,ev,sq,hn.1,hn.2,λp hp=>k _ _ ⟨p,_,rfl,hp,rfl,lb _⟩⟩
    ·cases e
 unfold wD at e;split at e
 ·obtain⟨v,t,rfl,h1,h2⟩:=rx;cases (show t=[] from h2);obtain⟨a,ws,rfl,h3,h4⟩:=h1;exact go _ ws a h4 (.inl (.of h3)) rfl e
 ·obtain⟨v,t,rfl,h1,h2⟩:=rx;cases (show t=[] from h2);obtain⟨a,ws,rfl,h3,h4⟩:=h1;exact go _ ws a h4 (.inr (.of (sub _ _ h3))) rfl e
 ·cases e
section
variable {a : Expr} {p p2 dM : Pos} {m : DE (List W)}
theorem Jf (hc:X.calm=true) (hg:Gl X "len") (hm:X.mg "len"=none) (dr:Gl X "set") (eu:X.mg "set"=none) (ha:bX X T Z [a] m) (hs:aR a=true) :
 PD X T Z (.Call (.Name "len" p) [.Call (.Name "set" p2) [a] [] dM] [] pos) (dN false u5 m):=PE.imp (Je hc hg hm dr eu ha hs) (Cl ac5)
theorem DV (bo:Bool) (hc:X.calm=true) (hg:Gl X "sorted") (hm:X.mg "sorted"=none) (dr:Gl X "set") (eu:X.mg "set"=none) (ha:bX X T Z [a] m) (hs:aR a=true) :
 PD X T Z (.Call (.Name "sorted" p) [.Call (.Name "set" p2) [a] [] dM] [] pos) (dN bo wD m):=PE.imp (DU hc hg hm dr eu ha hs) (Cl ac6)
end
end L2.DL
namespace HT
open PySem.W
def tP (h:Heap) (d:Addr) (vs:List Value) (ep:Nat):Prop:=∃ o es,h.get? d=some o /\ o.data=.dict es ep /\ es.toList.map (·.val)=vs
theorem tP.at {d:Addr}{vs:List Value}(x:tP h d vs ep) (k:∀ o,h.get? d=some o->h'.get? d=some o):tP h' d vs ep:=let ⟨o,es,e,r⟩:=x;⟨o,es,k o e,r⟩
section
variable {v d : Addr} {vs : List Value} 
theorem Ol (hv:s.heap.IsValuesView v d) (hm:tP s.heap d vs ep)
 (q:Q (.ref s.heap.objs.size) { s with heap:=s.heap.push { cls:=.type "dict_valueiterator",data:=.fields #[.ref d,.int 0 0,.int vs.length 0,.int ep 0] } }):wpAny (model prog w) A (pyIter (.ref v)) Q E s:=by
 obtain⟨o1,e1,c1,d1⟩:=id hv;obtain⟨o,es,e2,d2,ev⟩:=id hm;have sz:es.size=vs.length:=by rw[<-ev];simp
 refine wY hv.typeIs W6 (dR W6 hv.typeIs PySem.F.entry_dict_values_iter ?_ (PySem.F.args_dict_values_iter_1 _));unfold Builtin.«dict_values.__iter__»;refine ae (ag (ae ?_));unfold Builtin.Dict_items.dictOf;refine ae (eN e1 d1 (x:=.ref d) rfl (ag (ae ?_)));unfold Builtin.Dict_items.newIterator;refine ae (Hm e2 d2 (ae (VO e2 d2 ?_)));simp only[show Builtin.Dict_items.ownsTuple "dict_valueiterator"=false by decide,vJ,if_false];exact cT (ag ⟨_,rfl, "dict_valueiterator",_,⟨_,aU _ rfl,rfl⟩,Io.lookup,by simpa[rawInt,sz] using q⟩)
theorem FP {Q:Option Value->Shared->Prop}(hit:s.heap.IsValIter it d i vs.length ep) (hm:tP s.heap d vs ep) (hh:A.handled=none)
 (q:∀ x h',vs[i]?=some x->h'.IsValIter it d (i+1) vs.length ep->Heap.SameBut it s.heap h'->Q (some x) { s with heap:=h' })
 (qe:∀ h',vs[i]?=none->Heap.ExtBut it s.heap h'->Q none { s with heap:=h' }):wpAny (model prog w) A (pyNext (.ref it)) Q E s:=by
 obtain⟨o,e1,c1,d1⟩:=id hit;obtain⟨od,es,e2,d2,ev⟩:=id hm;have sz:es.size=vs.length:=by rw[<-ev];simp
 unfold pyNext;refine ae (sy (pz (name:=Str.ofString "__next__") hit.typeIs Io (dR Io hit.typeIs PySem.F.entry_dict_valueiterator_next ?_ (PySem.F.args_dict_valueiterator_next_1 _))));refine ae (ag (ae (ae ?_)));first|refine ae (Hn hit.typeIs (ag (ae (vE e1 d1 ?_))))|refine ae (Ho hit.typeIs (ag (ae (vE e1 d1 ?_))))
 simp only[show Builtin.Dict_items.ownsTuple "dict_valueiterator"=false by decide,vJ,if_false];show wpAny _ _ (if (Value.ref d==Value.none)=true then _ else _) _ _ s;rw[if_neg (show ¬ ((Value.ref d==Value.none)=true) from cq)];refine ae (ag (ae (Hm e2 d2 ?_)));rw[if_neg (by rw[sz];simp)];refine ae (ag (ae (VO e2 d2 ?_)));rw[if_neg (by simp)];refine ag ?_;rcases rj i vs.length with hl|hl
 ·have rM:i<es.size:=by rw[sz];exact hl
  have hv:vs[i]?=some es[i].val:=by rw[<-ev];simp[rM]
  simp only[show ¬ ((i:Int)<0) from by omega,if_false,cX,Array.getElem?_eq_getElem rM];refine ae ?_;first|refine ae (Hn hit.typeIs (ag (ae (za hit.typeIs ?_))))|refine ae (Ho hit.typeIs (ag (ae (za hit.typeIs ?_))))
  show wpAny _ _ (setField (.ref it) 1 (rawInt ((i:Int)+1)) >>= _) _ _ s;refine ae (qf e1 d1 (by simp) ?_);have h2:(s.heap.update it (Obj.mapFields (·.setIfInBounds 1 (rawInt ((i:Int)+1))))).IsValIter it d (i+1) vs.length ep :=
   ⟨_,pG _ e1 (vN (nS d1 _)),(xn ..).trans c1,by rw[nS d1];simp[rawInt]⟩
  refine ae (cP (ae (za (s:={ s with heap:=s.heap.update it (Obj.mapFields (·.setIfInBounds 1 (rawInt ((i:Int)+1)))) }) h2.typeIs (ae (za (s:={ s with heap:=s.heap.update it (Obj.mapFields (·.setIfInBounds 1 (rawInt ((i:Int)+1)))) }) h2.typeIs ?_)))));show wpAny _ _ (pure es[i].val) _ _ _;exact ag (ag ⟨_,rfl,ag (q _ _ hv h2 (Heap.SameBut.update ..))⟩)
 ·have hx:vs[i]?=none:=rq hl;simp only[show ¬ ((i:Int)<0) from by omega,if_false,cX,Ig (show es.size<=i by rw[sz];exact hl)];refine ae ?_;first|refine ae (Hn hit.typeIs (ag ?_))|refine ae (Ho hit.typeIs (ag ?_))
  show wpAny _ _ (setField (.ref it) 0 .none >>= _) _ _ s;refine ae (qf e1 d1 (by simp) ?_);show wpAny _ _ (newExc (.type "StopIteration") [] >>= _) _ _ _;refine ae ?_;simp only[newExc,newTuple];refine ae (cT (ae (m:=firstArgMember _ _) (tZ (a:=Value.none) (by first|rfl|(simp only[firstArgMember];rfl)) (cT ?_ (by size_fits)))) (by size_fits));simp only[raiseNew];refine ae (yV ?_);rw[show A.in1.handled=none from hh];refine ae (ag (yW ?_));refine ae (wZ (T:="StopIteration") (b:=true) ⟨_,aU _ rfl,rfl⟩ yX ?_);exact ag (qe _ hx (((Heap.SameBut.update ..).extBut.push _).push _))
theorem Om (hh:A.handled=none) (kX:d≠it) (vs:List Value) (ep:Nat):Walks prog w A it [it,d] [it] vs.length (λi v=>vs[i]?=some v) (λi h=>h.IsValIter it d i vs.length ep /\ tP h d vs ep) where
 sub:=λb hb=>by simp at hb;simp[hb]
 frame:=λ_ _ _ st hk=>⟨st.1.at λo e=>hk it (by simp) o e,st.2.at λo e=>hk d (by simp) o e⟩
 item:=λi s Q E hi st hQ=>FP st.1 st.2 hh (λx h' hx h2 sb=>hQ x h' s.toks hx ⟨h2,st.2.at λo e=>sb.extBut d o kX e⟩ λb o hb e=>sb.extBut b o (λz=>hb (by simp[z])) e) λh' hx _=>by rw[List.getElem?_eq_none_iff]at hx;omega
 done:=λs Q E st hQ=>FP st.1 st.2 hh (λx h' hx _ _=>by simp at hx) λh' _ he=>hQ h' s.toks λb o hb e=>he b o (λz=>hb (by simp[z])) e
 self:=λ_ _ _ _ st hQ=>wpAny_pyIter_valiter st.1 hQ
theorem SG {r:Addr}(vs:List Value) (ep:Nat):KdlSrc prog w "dict_values" r d vs.length (λi v=>vs[i]?=some v) (λh=>h.IsValuesView r d /\ tP h d vs ep) where
 type:=λ_ hm=>hm.1.typeIs
 there:=λ_ hm=>⟨let ⟨_,ho,_⟩:=hm.1;aM ho,let ⟨_,_,ho,_⟩:=hm.2;aM ho⟩
 keep:=λ_ _ hm hk=>⟨let ⟨o,ho,x⟩:=hm.1;⟨o,hk r (.inl rfl) o ho,x⟩,hm.2.at λo e=>hk d (.inr rfl) o e⟩
 notList:=by decide
 notTuple:=by decide
 hint:=λ_ _ _ _ hm hq=>kdl_hint_values hm.1.typeIs hq
 iter:=λ_ _ hh hm=>⟨_,_,(λ_ _ hq=>Ol hm.1 hm.2 hq),Om hh (bH (let ⟨_,_,ho,_⟩:=hm.2;aM ho)) vs ep,⟨⟨_,aU _ rfl,rfl,rfl⟩,hm.2.at λo e=>aC _ e⟩⟩
end
section
variable {K : Type} [DecidableEq K] {knd : HeapKind prog w K} {d : Addr} {k : K} {xs : List (K × Addr × Value)} {v : Value}
theorem LO (hu:knd.room A) (hk:knd.is s.heap k a) (hm:s.heap.DictOfH knd d xs) (hz:xs.length<=sizeLine)
 (h1:∀ p,atKey xs k=some p->Q p.2 { s with toks:=s.toks+knd.draws k })
 (h2:atKey xs k=none->∀ h',h'.DictOfH knd d (storedH xs k a v)->Heap.SameBut d s.heap h'->Q v { s with heap:=h',toks:=s.toks+knd.draws k }):wpAny (model prog w) A (dictSetDefault d (.ref a) v) Q E s:=by
 obtain⟨o,es,ep,ho,hc,hd,he,hi,hn⟩:=hm;have sz:=size_of_entries he;unfold dictSetDefault;refine cP (ae (knd.pyHash hu hk (ae (wpAny_dictFind_heap (s:={ s with toks:=s.toks+knd.draws k }) hu hk ho hd he hi hn (λno=>?_) λj p hj=>?_))))
 ·have an:=atKey_none_of_get no;refine ae (k6 (ae (wpAny_updateDictKeys (hz:=by omega) (s:={ s with toks:=s.toks+knd.draws k }) ho hd (ag (h2 an _ ⟨_,_,ep+1,pG _ ho (Obj.isFreed_of_dict (WL hd _)),hc.mapDictKeys _,WL hd _,?_,λx hx=>?_,?_⟩ (Heap.SameBut.update ..))))))
  ·rw[Hq an];simp[he,entryOfKey]
  ·rw[Hq an]at hx;rcases bN.mp hx with hx|hx
   ·exact knd.keeps (hi x hx) ho hd (Heap.SameBut.update ..)
   ·cases a8.mp hx;exact knd.keeps hk ho hd (Heap.SameBut.update ..)
  ·rw[Hq an,cV,sI];refine⟨hn,by simp,λx hx y hy=>?_⟩;cases (a8.mp hy:y=k);exact λe=>not_mem_keys_of_get no (e▸hx)
 ·refine ae (Hm (s:={ s with toks:=s.toks+knd.draws k }) ho hd ?_);rw[entry_at he j,hj];exact ae (k6 (ag (h1 p (atKey_of_get hn hj))))
theorem LP (knd:HeapKind prog w K) (d a:Addr) (hd:(d==sysModules)=false) (v:Value) :
 MeetsIn prog w (Builtin.«dict.setdefault» ⟨[.ref d,.ref a,v],[]⟩) (λA R s=>knd.room A.in1 /\ ∃ k xs,knd.is s.heap k a /\ s.heap.DictOfH knd d xs /\ xs.length<=sizeLine /\
  (∀ p,atKey xs k=some p->R (.ok (.ret p.2)) { s with toks:=s.toks+knd.draws k }) /\
  (atKey xs k=none->∀ h',h'.DictOfH knd d (storedH xs k a v)->Heap.SameBut d s.heap h'->R (.ok (.ret v)) { s with heap:=h',toks:=s.toks+knd.draws k })):=
 .of_wp λA R s ⟨hu,k,xs,hk,hm,hz,h1,h2⟩=>by
  unfold Builtin.«dict.setdefault»;refine ae ?_;unfold Builtin.Dict.keyAndDefault;refine ae (VP hm.typeIs ?_);show wpAny _ _ (pure (d,Value.ref a,some v)) _ _ s;refine ag ?_;show wpAny _ _ (if (d==sysModules)=true then _ else (dictSetDefault d (.ref a) v >>= _)) _ _ s;rw[if_neg (by rw[hd];exact cq)];exact ae (LO hu hk hm hz (λp hp=>ag ⟨_,rfl,h1 p hp⟩) λhn h' m' s'=>ag ⟨v,rfl,h2 hn h' m' s'⟩)
theorem DW (d:Addr) (hd:(d==sysModules)=false) :
 MeetsIn prog w (Builtin.«dict.values» ⟨[.ref d],[]⟩) (λ_ R s=>s.TypeIs (.ref d) "dict" /\ R (.ok (.ret (.ref s.heap.objs.size))) { s with heap:=s.heap.push { cls:=.type "dict_values",data:=.fields #[.ref d] } }):=
 .of_wp λA R s ⟨hm,h⟩=>by
  refine ae ?_;unfold Builtin.Dict.noArgs;refine ae (VP hm ?_);show wpAny _ _ (pure d) _ _ s;refine ag ?_;show wpAny _ _ (Builtin.Dict.showsAll d >>= _) _ _ s;unfold Builtin.Dict.showsAll;rw[if_neg (by rw[hd];exact cq)];exact ae (ag (ae (cT (ag ⟨_,rfl,h⟩))))
end
end HT
namespace L2
open PySem.W
section
variable {o f : Expr} {aX p : Pos} {td ty tx : TE}
def YW (td ty tx:TE):TE:=λσ H Q=>td σ H λx H1=>∃ a,x=.ref a /\ Kx H1 a /\ ty σ H1 λy H2=>tx σ H2 λz H3=>∃ af k b,H3 a=some (.dT af) /\ y=.ref b /\ H3 b=some (.tup (k.map kV)) /\ af.length<sizeLine /\
 (∀ v,cx af k=some v->Q v H3) /\ (cx af k=none->Q z (upd H3 a (.dT (putK af k z))))
theorem LQ (hu:X.A.units+1<cLine) (ho:PE X o td) (he:PE X e ty) (hf:PE X f tx) (m:M2 X o "setdefault" apos e f aX):PE X (.Call (.Attribute o "setdefault" apos) [e,f] [] aX) (YW td ty tx):=by
 intro pins s σ H Q I h;refine Hi m.base m.few m.line Im zA WY (ai (ho pins s σ H _ I h) λu s1 ⟨x,H1,I1,rx,a,ex,d,q1⟩=>?_);subst ex;obtain rfl:u=Value.ref a:=rx;obtain⟨t1,t2,_⟩:=DD I1 d;refine⟨t1,t2,?_⟩;rw[m.trees];refine xo rfl (Ih (qp (ai (he pins s1 σ H1 _ I1 q1) λiv s2 ⟨y,H2,I2,ry,q2⟩ =>
  qp (ai (hf pins s2 σ H2 _ I2 q2) λfv s3 ⟨z,H3,I3,rz,af,k,b,ea,ey,eb,el,q3,q4⟩=>sJ ?_))))
 subst ey;cases (show iv=Value.ref b from ry);obtain⟨zl,hd,xs,rel,dd⟩:=Ln I3.ak ea;have lx:xs.length<=sizeLine:=by rw[<-Paired.length rel];exact zl
 refine Hj zA dd.typeIs WZ (W0 _ _ _) (HT.LP (tupleKind (eD X.prog X.w)) a b hd fv) ⟨yU hu,k,xs,Ah I3.ak eb,dd,lx,λp hp=>?_,λhn h' rS hs=>?_⟩
 ·have rv:=rel.val k;rw[hp]at rv;cases l:cx af k with
  |none=>rw[l]at rv;exact rv.elim
  |some v'=>rw[l]at rv;exact⟨v',H3,I3.tok _,rv,q3 v' l⟩
 ·have l:cx af k=none:=by
   have rv:=rel.val k;rw[hn]at rv;cases l:cx af k with
   |none=>rfl
   |some v'=>rw[l]at rv;exact rv.elim
  have hl:(putK af k z).length<=sizeLine:=by have:=ji af k z;omega
  obtain⟨ob,es,ep,hq,h2,h3,h4,_,h5⟩:=rS;refine⟨z,upd H3 a (.dT (putK af k z)),oK I3 (by rw[ea];exact True.intro) hs ⟨ob,hq⟩ ⟨hl,hd,_,(rel.put k eb rz).keeps λc ys ec=>?_,ob,es,ep,hq,h2,h3,h4,h5⟩,rz,q4 l⟩;rw[fG (Pr ec ea (λz=>nomatch z))];exact ec
theorem On (r:KT H af xs):Vals (af.map (·.2)) (xs.map (·.2.2)):=by
 induction r with
 |nil=>exact .nil
 |cons h t ih=>exact .cons h.2.2 ih
def YX (td:TE):TE:=λσ H Q=>td σ H λx H1=>∃ a af,x=.ref a /\ H1 a=some (.dT af) /\ ∀ l,H1 l=none->Q (.ref l) (upd H1 l (.lst (af.map (·.2))))
theorem Oo (hc:X.calm=true) (hg:Gl X "list") (hm:X.mg "list"=none) (ho:PE X o td) (hb:attributeBase o "values" X.env (eval o X.env)=eval o X.env) (hl:(apos.endLine==aX.line)=true) :
 PE X (.Call (.Name "list" p) [.Call (.Attribute o "values" apos) [] [] aX] [] pos) (YX td):=by
 intro pins s σ H Q I h;refine kJ (gJ I hg hm (by decide +kernel:bootBuiltins "list"=some (.type "list")) ?_ (by decide) (by decide));refine callWith_type1 ?_ (DL.fk (e:=.Call (.Attribute o "values" apos) [] [] aX) rfl [] X.env) rfl;rw[DL.fk (e:=.Call (.Attribute o "values" apos) [] [] aX) rfl [] X.env];show wpAny _ _ (spliced ((false,eval (.Call (.Attribute o "values" apos) [] [] aX) X.env)::backTo pos (starEach [] X.env))) _ _ s;refine qp (Hi hb rfl hl Im W7 PySem.F.type_dict_values (ai (ho pins s σ H _ I h) λu s1 ⟨x,H1,I1,rx,a,af,ex,ea,q1⟩=>?_));subst ex;obtain rfl:u=Value.ref a:=rx;obtain⟨t1,t2,_⟩:=DD I1 (.inr ⟨af,.inl ea⟩);refine⟨t1,t2,xo rfl (ZI ?_)⟩;obtain⟨zl,hd,xs,rel,dd⟩:=Ln I1.ak ea;obtain⟨ob,es,ep,hq,h2,h3,h4,_,h5⟩:=id dd;refine Hj W7 dd.typeIs PySem.F.entry_dict_values (PySem.F.args_dict_values_1 _) (HT.DW a hd) ⟨dd.typeIs,?_⟩;have up:∀ b o,s1.heap.get? b=some o->(s1.heap.push { cls:=.type "dict_values",data:=.fields #[.ref a] }).get? b=some o:=λb o e=>aC _ e;have I2:Inv X pins σ H1 { s1 with heap:=s1.heap.push { cls:=.type "dict_values",data:=.fields #[.ref a] } }:=I1.kept (t':=s1.toks) up;have rd:HT.tP (s1.heap.push { cls:=.type "dict_values",data:=.fields #[.ref a] }) a (xs.map (·.2.2)) ep:=⟨ob,es,up a ob hq,h3,by rw[h4,nP];rfl⟩;have lx:(xs.map (·.2.2)).length<=sizeLine:=by rw[aA,<-Paired.length rel];exact zl
 refine sJ (kdl_call (HT.SG (xs.map (·.2.2)) ep) (I1.ok.hd hc) ⟨⟨_,aU _ rfl,rfl,rfl⟩,rd⟩ lx λh' tk acc c hk hD YY=>?_);have ev:acc.toList=xs.map (·.2.2):=by
  apply vG;intro j;by_cases hj:j<acc.size
  ·have ej:acc[j]?=some acc[j]:=by simp[hj]
   rw[nR,ej];exact(YY.2 j _ ej).symm
  ·have h3:=YY.1;rw[nR,Ig (by omega),rq (by omega)]
 have rv:Vals (af.map (·.2)) acc.toList:=by rw[ev];exact On rel
 have I3:=I2.laid (h':=h') (t':=tk) (a:=(s1.heap.push { cls:=.type "dict_values",data:=.fields #[.ref a] }).objs.size) (o:=.lst (af.map (·.2))) (λb u e=>hk b u e) (aq _) ⟨by rw[aA];exact zl,acc.toList,c,rv,by simpa using hD⟩;exact⟨.ref _,_,I3,rfl,q1 _ (I2.ak.fresh (aq _))⟩
end
def u6 (p:Pos) (tg:Expr) (it:Value) (ifs:List Expr) (env:Env) (bk:Sem Fin) (c:Code):Sem Fin:=do
 standAt p
 match <-pyNext it with
 |none=>pure (.done .next)
 | some v =>
   letOwnedTupleGo tg it v
   assign tg env v
   let b <-Ki ifs env
   if b then bk else again c
noncomputable def wF (elt:Expr) (acc:Value) (env:Env):Sem Unit:=do let v <-eval elt env;standAt elt.pos;let _ <-call (.builtin "set.add") [acc,v]
noncomputable def KZ (e:Expr) (bu:Expr) (acc:Value) (env:Env) (c:Code):Sem Fin:=do
 let x <-eval bu env
 standAt bu.pos
 let x <-foldedSetIterable bu env x
 let _ <-runOwn (.compStart e 1 (<-holding [x] (pyIter x)) acc env) env
 again c
section
variable {it cj bu : Expr} {eV : List Expr} {scope : Scope} {i acc : Value} {env : Env}
theorem LR:compTurn (.SetComp elt [⟨tg,it,ifs,0⟩] scope pos) 0 i acc env=u6 it.pos tg i ifs env (wF elt acc env >>= λ_=>again (.compLoop (.SetComp elt [⟨tg,it,ifs,0⟩] scope pos) 0 i acc env)) (.compLoop (.SetComp elt [⟨tg,it,ifs,0⟩] scope pos) 0 i acc env):=by rfl
theorem LS:compTurn (.SetComp elt [⟨tg,it,ifs,0⟩,⟨cj,bu,eV,0⟩] scope pos) 0 i acc env=u6 it.pos tg i ifs env (KZ (.SetComp elt [⟨tg,it,ifs,0⟩,⟨cj,bu,eV,0⟩] scope pos) bu acc env (.compLoop (.SetComp elt [⟨tg,it,ifs,0⟩,⟨cj,bu,eV,0⟩] scope pos) 0 i acc env)) (.compLoop (.SetComp elt [⟨tg,it,ifs,0⟩,⟨cj,bu,eV,0⟩] scope pos) 0 i acc env):=by rfl
theorem Oq:compTurn (.SetComp elt [⟨tg,it,ifs,0⟩,⟨cj,bu,eV,0⟩] scope pos) 1 i acc env=u6 bu.pos cj i eV env (wF elt acc env >>= λ_=>again (.compLoop (.SetComp elt [⟨tg,it,ifs,0⟩,⟨cj,bu,eV,0⟩] scope pos) 1 i acc env)) (.compLoop (.SetComp elt [⟨tg,it,ifs,0⟩,⟨cj,bu,eV,0⟩] scope pos) 1 i acc env):=by rfl
end
theorem CJ {scope:Scope}{d:Nat}{p:Pos}{it acc:Value}{env:Env}{bk:Sem Fin}(ht:compTurn (.SetComp elt gens scope pos) d it acc env=u6 p tg it ifs env bk (.compLoop (.SetComp elt gens scope pos) d it acc env))
 (J:Nat->Shared->Prop) (N:Value->Nat->Shared->Prop)
 (hN:∀ v n z,N v n z->wpAny (model prog w) A (letOwnedTupleGo tg it v) (λ_ z1=>wpAny (model prog w) A (assign tg env v) (λ_ z2=>wpAny (model prog w) A (Ki ifs env) (λb z3 =>
  if b=true then wpAny (model prog w) A bk (λf z5=>f=.again (.compLoop (.SetComp elt gens scope pos) d it acc env) /\ ∃ k,k<n /\ J k z5) (pO prog w A env R) z3 else ∃ k,k<n /\ J k z3)
  (pO prog w A env R) z2) (pO prog w A env R) z1) (pO prog w A env R) z)
 (go:∀ n z,J n z->wpAny (model prog w) A (pyNext it) (λr z1=>match r with|none=>R (.ok .next) z1|some v=>N v n z1) (pO prog w A env R) z)
 (n:Nat) (h:J n s):codeAny (model prog w) A (.compLoop (.SetComp elt gens scope pos) d it acc env) R s:=by
 refine Vz rfl J (λk z hz=>?_) n h;show wpAny _ A (Sem.onRaise (compTurn _ d it acc env) _) _ _ z;refine VA ?_;rw[ht];unfold u6;refine ae (rf (ae (cM (go k z hz) (λr z1 h1=>?_) λ_ _ q=>q)));cases r with
 |none=>exact ag h1
 | some v =>
   refine ae (cM (hN v k z1 h1) (λ_ z2 h2=>ae (cM h2 (λ_ z3 h3=>ae (cM h3 (λb z4 h4=>?_) λ_ _ q=>q)) λ_ _ q=>q)) λ_ _ q=>q);cases b with
   |false=>exact ag ⟨rfl,h4⟩
   | true =>
     refine cM h4 (λf z6 h6=>?_) λ_ _ q=>q;obtain⟨rfl,h6⟩:=h6;exact⟨rfl,h6⟩
theorem mL {scope:Scope}{d:Nat}{g:Comprehension}{it acc:Value}{env:Env}(hg:gens[d]?=some g) (ha:g.is_async=0)
 (h0:codeAny (model prog w) A (.compLoop (.SetComp elt gens scope pos) d it acc env) R s)
 (h:wpAny (model prog w) A (pyIter it) (λu7 s'=>codeAny (model prog w) A (.compLoop (.SetComp elt gens scope pos) d u7 acc env) R s') (λ_ _=>False) s) :
 codeAny (model prog w) A (.compStart (.SetComp elt gens scope pos) d it acc env) R s:=by
 refine Hl (show wpAny _ _ ((compStart (.SetComp elt gens scope pos) d it acc env).onRaise (λx=>do noteFrame x env;standAt theWindowsPlace)) _ _ s from wpAny_notedAt ?_);unfold compStart;have e1:(clausesOf (.SetComp elt gens scope pos))[d]?=some g:=hg;rw[e1];simp only[Option.elim,ha];refine ae (qg (wpAny_ite ?_));split
 ·first
   |exact ae (ag (ag (And.intro rfl h0)))
   |exact ag (And.intro rfl h0)
 ·first
   |exact ae (k6 (ae (rf (ae (cM h (λu7 s' h'=>ag (And.intro rfl h')) λ_ _ x=>x.elim)))))
abbrev TK:=St->Hp->List Int->(St->Hp->List Int->Prop)->Prop
structure eA (X:Cx) (pins:List (Addr×Obj)) (σ:St) (H:Hp) (s:Shared) (D:Addr) (ns:List Int):Prop where
 inv:Inv X pins σ H s
 fp:dj X pins H D
 u9:HT.km X.prog X.w (HT.bD X.w) s.heap D ns
section
variable {D : Addr} 
theorem Jg {b:Bool}(S:HT.km P w b h D ns):∃ o,h.get? D=some o /\ ∀ v,o.data≠.cell v:=by
 obtain⟨o,es,ep,t,ms,ho,S⟩:=S;exact⟨o,ho,λv z=>by rw[S.d]at z;cases z⟩
theorem eA.hold (S:eA X pins σ H s D ns):∃ o,Inv X (pins++[(D,o)]) σ H s /\ ∀ {σ':St}{H':Hp}{s':Shared},Inv X (pins++[(D,o)]) σ' H' s'->eA X pins σ' H' s' D ns:=by
 obtain⟨o,ho,hc⟩:=Jg S.u9;refine⟨o,S.inv.zD λp hp=>?_,λ{σ' H' s'} I=>?_⟩
 ·rcases bN.mp hp with z|z
  ·exact S.inv.pin p (bT _ z)
  ·cases a8.mp z;exact⟨ho,S.fp.1,S.fp.2.1,S.fp.2.2.1,hc⟩
 ·obtain⟨e,n,_⟩:=I.pin (D,o) (bT _ (bT _ (a8.mpr rfl)));exact⟨I.sP,⟨n,S.fp.2⟩,S.u9.at λo' e'=>by rw[ho]at e';cases e';exact e⟩
theorem eA.more (S:eA X pins σ H s D ns) {pl:List (Addr×Obj)}(I:Inv X (pins++pl) σ H s) (h:∀ p∈pl,p.1≠D):eA X (pins++pl) σ H s D ns :=
 ⟨I,⟨S.fp.1,S.fp.2.1,S.fp.2.2.1,S.fp.2.2.2.1,S.fp.2.2.2.2.1,λp hp=>by
  rw[<-eC]at hp;rcases bN.mp hp with z|z
  ·exact S.fp.2.2.2.2.2 p z
  ·exact h p z⟩,S.u9⟩
theorem eA.less {pl:List (Addr×Obj)}(S:eA X (pins++pl) σ H s D ns):eA X pins σ H s D ns :=
 ⟨S.inv.sP,⟨S.fp.1,S.fp.2.1,S.fp.2.2.1,S.fp.2.2.2.1,S.fp.2.2.2.2.1,λp hp=>S.fp.2.2.2.2.2 p (by
  rw[<-eC];exact cU _ hp)⟩,S.u9⟩
end
def yz (X:Cx) (D:Addr) (m:Sem Unit) (t:TK):Prop:=∀ (pins:List (Addr×Obj)) (s:Shared) (σ:St) (H:Hp) (ns:List Int) (Q:St->Hp->List Int->Prop) (E:Value->Shared->Prop),eA X pins σ H s D ns->t σ H ns Q ->
 wpAny (model X.prog X.w) X.A m (λ_ s'=>∃ σ' H' aW,eA X pins σ' H' s' D aW /\ Q σ' H' aW) E s
noncomputable def YZ (te:TE):TK:=λσ H ns Q=>te σ H λy H1=>∃ i,y=.int i /\ ns.length+1<4000 /\ Q σ H1 (cH ns i)
theorem cK {t:Sem α}{Q1:α->Shared->Prop}{E1:Value->Shared->Prop}{ss:Shared}(hw:wpAny (model P w) A t Q1 (λ_ _=>False) ss):wpAny (model P w) A t Q1 E1 ss:=cM hw (λ_ _ q=>q) λ_ _ z=>False.elim z
theorem FQ {D:Addr}{te:TE}(hx:X.xe=λ_ _=>False) (he:PE X elt te):yz X D (wF elt (.ref D) X.env) (YZ te):=by
 intro pins s σ H ns Q E S h;obtain⟨o,I0,back⟩:=S.hold;unfold wF;have Y0:=he _ s σ H _ I0 h;rw[hx]at Y0;refine ae (cK (ai Y0 λu s1 ⟨y,H1,I1,r1,i,ey,hl,q⟩=>ae (rf (ae ?_))));subst ey;obtain⟨t,rfl⟩:=r1;have S1:=back I1;obtain⟨ob,es,ep,tb,ms,ho,Sa⟩:=id S1.u9;have sb:scanBound=4096:=rfl;refine dR PySem.F.slot_set_add ⟨ob,ho,Sa.x.1⟩ PySem.F.entry_set_add ?_ (PySem.F.args_set_add_2 _ _);unfold Builtin.«set.add» Builtin.Frozenset.oneOther;simp only[Wc,bind_assoc];unfold Builtin.Frozenset.addrOf setAdd;refine ae (ag (ae (ag (ae (cP (ae ((intKind X.prog X.w).pyHash (k:=i) (vD _ _ _ _) (HT.add_int (s:={ s1 with toks:=s1.toks+1 }) S1.u9 (by omega) λz h' sm S2=>?_))))))));refine ag ⟨_,rfl,ag ⟨σ,H1,_,⟨?_,S1.fp,S2⟩,q⟩⟩;exact S1.inv.turned (t':=s1.toks+1) (λb o hb e=>(sm.2 b hb).trans e) S1.fp.1 S1.fp.2.1 S1.fp.2.2.2.1 S1.fp.2.2.2.2.1 S1.fp.2.2.2.2.2
def Em (J:It) (g:TG) (tf:TT) (k:TK):TK:=λσ0 H0 ac7 Q=>∃ W:Nat->Nat->St->Hp->List Int->Prop,(∃ m,W 0 m σ0 H0 ac7) /\ ∀ i m σ H ns,W i m σ H ns ->
 (J.stop i H /\ Q σ H ns) \/ (J.go i H /\ ∃ N:St->Hp->List Int->Prop,(∀ σ2 H2 n2,N σ2 H2 n2->∃ m',m'<m /\ W (i+1) m' σ2 H2 n2) /\ ∀ x H2,J.xx i H x H2->g x σ H2 λσ2 H3=>tf σ2 H3 λb H4=>if b=true then k σ2 H4 ns N else N σ2 H4 ns)
theorem FR {D:Addr}{scope:Scope}{d:Nat}{p:Pos}{bk:Sem Fin}{body:Sem Unit}{Q:St->Hp->List Int->Prop} 
 {J:It}{tn:Nat->Heap->Prop}{g:TG}{tf:TT}{k:TK}(hx:X.xe=λ_ _=>False) (hc:X.calm=true)
 (ht:compTurn (.SetComp elt gens scope pos) d (.ref it) (.ref D) X.env=u6 p tg (.ref it) ifs X.env bk (.compLoop (.SetComp elt gens scope pos) d (.ref it) (.ref D) X.env))
 (ac8:bk=(body >>= λ_=>again (.compLoop (.SetComp elt gens scope pos) d (.ref it) (.ref D) X.env)))
 (T:Turn X.prog X.w X.K tg J fp it tn) (hg:PG X tg g) (hf:PF X ifs tf) (hk:yz X D body k)
 (S:eA X pins σ H s D ns) (st:tn 0 s.heap) (fr:∀ b∈fp,dj X pins H b) (nd:D∉fp) (h:Em J g tf k σ H ns Q)
 (fin:∀ s' σ' H' aW,eA X pins σ' H' s' D aW->Q σ' H' aW->R (.ok .next) s') :
 codeAny (model X.prog X.w) X.A (.compLoop (.SetComp elt gens scope pos) d (.ref it) (.ref D) X.env) R s:=by
 obtain⟨W,⟨m0,w0⟩,turn⟩:=h;have stat:∀ {H':Hp},(∀ b∈fp,H' b=none)->∀ b∈fp,dj X pins H' b:=λhn b hb=>⟨hn b hb,(fr b hb).2⟩;have K0:∀ {H':Hp}{o:Obj},(∀ b∈fp,H' b=none)->∀ b∈fp,dj X (pins++[(D,o)]) H' b:=λ{H' o} hn b hb=>by
  obtain⟨f1,f2,f3,f4,f5⟩:=(fr b hb).2;refine⟨hn b hb,f1,f2,f3,f4,λp hp=>?_⟩;rw[<-eC]at hp;rcases bN.mp hp with z|z
  ·exact f5 p z
  ·cases a8.mp z;exact λz=>nd (by cases (show D=b from z);exact hb)
 refine CJ ht (λn s'=>∃ i σ' H' aW,eA X pins σ' H' s' D aW /\ tn i s'.heap /\ (∀ b∈fp,H' b=none) /\ W i n σ' H' aW) _ (λ_ _ _ q=>q) ?_ m0 ⟨0,σ,H,ns,S,st,λb hb=>(fr b hb).1,w0⟩;rintro n s5 ⟨i,σ5,H5,K3,S5,nW,qv,w5⟩;obtain⟨o,I5,back⟩:=S5.hold;rcases turn i n σ5 H5 K3 w5 with⟨stop,q5⟩|⟨go,NN,hN,step⟩
 ·refine cK (ai (T.done X rfl rfl rfl hc i _ s5 σ5 H5 (λ_ _=>False) I5 (K0 qv) nW stop) λr s6 ⟨hr,I6⟩=>?_);subst hr;exact fin s6 _ _ _ (back I6) q5
 ·refine cK (ai (T.item X rfl rfl rfl hc i _ s5 σ5 H5 (λ_ _=>False) I5 (K0 qv) nW go) λr s6 ⟨u,hr,h6⟩=>?_);subst hr;refine cK (ai h6 λ_ s7 ⟨x,H7,I7,r7,y7,qG,xS⟩=>?_);have S7:=back I7;have ob:=T.obj _ _ qG;have xT:=I7.pinned (K0 xS) ob;have lift:∀ {σ':St}{H':Hp}{s':Shared},Inv X ((pins++[(D,o)])++rF fp s7.heap) σ' H' s'->eA X (pins++rF fp s7.heap) σ' H' s' D K3:=λ{σ' H' s'} I=>by
   refine(back I.sP).more (I.zD λp hp=>I.pin p (bT _ ?_)) λp hp=>?_
   ·rcases bN.mp hp with z|z
    ·exact cU _ (cU _ z)
    ·exact bT _ z
   ·exact λz=>nd (z▸(A5 hp).1)
  have tq:=hg _ s7 σ5 H7 x u _ xT r7 (step x H7 y7);rw[hx]at tq;refine cK (ai tq λ_ s8 ⟨σ8,H8,I8,q8⟩=>?_);have Y1:=hf _ s8 σ8 H8 _ I8 q8;rw[hx]at Y1;refine cK (ai Y1 λb s9 ⟨H9,I9,q9⟩=>?_);have again:∀ {σ9:St}{HA:Hp}{sA:Shared}{nA:List Int},eA X (pins++rF fp s7.heap) σ9 HA sA D nA->NN σ9 HA nA->∃ m,m<n /\ ∃ i σ' H' aW,eA X pins σ' H' sA D aW /\ tn i sA.heap /\ (∀ b∈fp,H' b=none) /\ W i m σ' H' aW:=λ{σ9 HA sA nA} SA qA=>by
   obtain⟨m',hm,wA⟩:=hN σ9 HA nA qA;refine⟨m',hm,i+1,σ9,HA,nA,SA.less,T.keep _ _ _ qG λb hb o e=>(SA.inv.pin (b,o) (bT _ (bT _ (gK hb e)))).1,λb hb=>?_,wA⟩;obtain⟨o,e,d⟩:=ob b hb;exact(SA.inv.pin (b,o) (bT _ (bT _ (gK hb e)))).2.1
  cases b with
  | false =>
    rw[if_neg (by decide)]at q9 ⊢;exact again (lift I9) q9
  | true =>
    rw[if_pos rfl]at q9 ⊢;rw[ac8];exact ae (cK (ai (hk _ s9 σ8 H9 K3 _ (λ_ _=>False) (lift I9) q9) λ_ sB ⟨σB,HB,nB,SB,qB⟩=>ag ⟨rfl,again SB qB⟩))
def dF (wi:TI) (g:TG) (tf:TT) (k:TK):TK:=λσ H ns Q=>wi σ H λJ H1=>Em J g tf k σ H1 ns Q
noncomputable def yA (e bu:Expr) (acc:Value) (env:Env):Sem Unit:=eval bu env >>= λx=>standAt bu.pos >>= λ_=>foldedSetIterable bu env x >>= λx=>holding [x] (pyIter x) >>= λi=>runOwn (.compStart e 1 i acc env) env >>= λ_=>pure ()
theorem SH {bu:Expr}{acc:Value}{env:Env}{c:Code}:KZ e bu acc env c=(yA e bu acc env >>= λ_=>again c):=by
 unfold KZ yA;simp only[bind_assoc,pure_bind]
theorem Ua {D:Addr}{it cj bu:Expr}{eV:List Expr}{scope:Scope}{wi:TI}{g:TG}{tf:TT}{k:TK}(hx:X.xe=λ_ _=>False) (hc:X.calm=true)
 (hi:PI X cj bu wi) (hg:PG X cj g) (hf:PF X eV tf) (hk:yz X D (wF elt (.ref D) X.env) k) (hs:∀ x,foldedSetIterable bu X.env x=pure x) :
 yz X D (yA (.SetComp elt [⟨tg,it,ifs,0⟩,⟨cj,bu,eV,0⟩] scope pos) bu (.ref D) X.env) (dF wi g tf k):=by
 intro pins s σ H ns Q E S h;obtain⟨o,I0,back⟩:=S.hold;unfold yA;have qS:=hi _ s σ H _ I0 h;rw[hx]at qS;refine ae (cK (ai qS λx s1 h1=>ae (rf (ae (tZ (hs x) (ae (cP (cK (ai h1 λvU s2 h2=>?_)))))))));obtain⟨i2,fp,tn,J,H2,rfl,I2,T,nq,f2,q⟩:=h2;have S2:=back I2;have nd:D∉fp:=λz=>(f2 D z).2.2.2.2.2 (D,o) (bT _ (bT _ (a8.mpr rfl))) rfl;have ac9:∀ b∈fp,dj X pins H2 b:=λb hb=>by
  obtain⟨f0,f1,f3,f4,f5,f6⟩:=f2 b hb;exact⟨f0,f1,f3,f4,f5,λp hp=>f6 p (by rw[<-eC];exact cU _ hp)⟩
 refine ae (wpAny_runOwn ?_);have loop:codeAny (model X.prog X.w) X.A (.compLoop (.SetComp elt [⟨tg,it,ifs,0⟩,⟨cj,bu,eV,0⟩] scope pos) 1 (.ref i2) (.ref D) X.env) (λr s'=>match r with|.ok f=>wpAny (model X.prog X.w) X.A (pure ()) (λ_ s'=>∃ σ' H' aW,eA X pins σ' H' s' D aW /\ Q σ' H' aW) E s'|.error e=>cameBackBy (model X.prog X.w) X.A X.env E e s') s2 :=
  FR hx hc Oq rfl T hg hf hk S2 nq ac9 nd q λs' σ' H' aW S' q'=>ag ⟨σ',H',aW,S',q'⟩
 exact mL (g:=⟨cj,bu,eV,0⟩) rfl rfl loop (T.self _ 0 _ _ _ nq loop)
theorem Jh {scope:Scope}{env:Env}:eval (.SetComp elt gens scope pos) env=comprehension (.SetComp elt gens scope pos) scope env (firstIterPos gens pos) (newSet (.type "set")) (firstAsync gens) (firstIter gens env):=rfl
theorem DX (h:Q (.ref s.heap.objs.size) { s with heap:=s.heap.push (HT.bW w) }):wpAny (model P w) A (newSet (.type "set")) Q E s:=by
 unfold newSet setsByText;refine ae (ae (qg (ag ?_)));exact cT h (by size_fits)
section
variable {src : List (Option Nat)} {rest : List Comprehension} {scope : Scope} {aX p : Pos} {wi : TI} {g : TG} {tf : TT} {k : TK} {body : Value -> Env -> Sem Unit}
def Y2 (src:List (Option Nat)) (wi:TI) (g:TG) (tf:TT) (k:TK):TE:=λσ H Q=>wi σ H λJ H1=>Em J g tf k (rK src σ) H1 [] λ_ H2 ns=>ns.length<64 /\ ∀ l,H2 l=none->Q (.ref l) (upd H2 l (.lst ((DL.sortI ns).map V.int)))
theorem CK (hc:X.calm=true) (yB:Gl X "sorted") (yC:X.mg "sorted"=none) (S:kQ X N src scope) (hi:PI X tg iter wi)
 (ht:∀ i acc env,∃ bk,compTurn (.SetComp elt (⟨tg,iter,ifs,0⟩::rest) scope aX) 0 i acc env=u6 iter.pos tg i ifs env bk (.compLoop (.SetComp elt (⟨tg,iter,ifs,0⟩::rest) scope aX) 0 i acc env) /\ bk=(body acc env >>= λ_=>again (.compLoop (.SetComp elt (⟨tg,iter,ifs,0⟩::rest) scope aX) 0 i acc env)))
 (hg:∀ cl s H C fp,PG (X.comp N scope cl s H C fp) tg g) (hf:∀ cl s H C fp,PF (X.comp N scope cl s H C fp) ifs tf) (hk:∀ cl s H C fp D,yz (X.comp N scope cl s H C fp) D (body (.ref D) (X.comp N scope cl s H C fp).env) k)
 (hs:∀ x,foldedSetIterable iter X.env x=pure x):PE X (.Call (.Name "sorted" p) [.SetComp elt (⟨tg,iter,ifs,0⟩::rest) scope aX] [] pos) (Y2 src wi g tf k):=by
 intro pins s σ H Q I h;have st:=DL.fk (e:=.SetComp elt (⟨tg,iter,ifs,0⟩::rest) scope aX) rfl [] X.env;refine kJ (gJ I yB yC (by decide +kernel:bootBuiltins "sorted"=some (.builtin "sorted")) ?_ (by decide) (by decide));refine callWith_builtin1 ?_ st (DL.gW (es:=[]) rfl);rw[st];show wpAny _ _ (spliced ((false,eval (.SetComp elt (⟨tg,iter,ifs,0⟩::rest) scope aX) X.env)::backTo pos (starEach [] X.env))) _ _ s;refine qp ?_
 have last:∀ {D:Addr}{H':Hp}{s':Shared}{ns:List Int},Inv X pins σ H' s'->HT.km X.prog X.w (HT.bD X.w) s'.heap D ns->ns.length<64->(∀ l,H' l=none->Q (.ref l) (upd H' l (.lst ((DL.sortI ns).map V.int)))) ->
  wpAny (model X.prog X.w) X.A (spliced (backTo pos (starEach [] X.env))) (λws s2=>wpAny (model X.prog X.w) X.A (call (.builtin "sorted") (.ref D::ws)) (EP X pins σ Q) X.xe s2) X.xe s':=λ{D H' s' ns} I' S' ka q=>by
  refine sJ (HT.Aq (I'.ok.hd hc) S' ka λL out ks c h2 d Ek a1 a2 a3 k2 le gL=>?_);have e:ks=DL.sortI ns:=DL.jh (a2.trans (DL.gm _).symm) a3 (DL.gE _);subst e;have ll:((DL.sortI ns).map V.int).length<=sizeLine:=by
   rw[aA,(DL.gm _).length_eq];exact bR (nN ka) (by decide)
  have I2:=I'.laid (h':=h2) (a:=L) (t':=Ek) (o:=.lst ((DL.sortI ns).map V.int)) (λb u e=>k2 b u e) le ⟨ll,out.toList,c,DL.lI a1,gL⟩;exact⟨.ref L,_,⟨I2.ok,I2.os,I2.bare,I2.base,I2.loc,I2.cell,I2.free,I2.nV,I2.pin,I2.ak,I2.len⟩,rfl,q L (I'.ak.fresh le)⟩
 rw[Jh];refine Hf (use:=none) rfl hs (lY (S.cells I.ok)) S.kind S.names (ai (hi pins s σ H _ I h) λxv s1 h1=>ai h1 λvU s2 h2=>?_);obtain⟨it,fp,tn,J,H2,rfl,I2,T,nq,f2,hW⟩:=h2;refine DX ?_;generalize hD:s2.heap.objs.size=D;have xK:H2 D=none:=I2.ak.fresh (sF hD);have up:∀ b o,s2.heap.get? b=some o->(s2.heap.push (HT.bW X.w)).get? b=some o:=λb u e=>aC _ e;have I3:Inv X pins σ H2 { s2 with heap:=s2.heap.push (HT.bW X.w) }:=I2.kept (t':=s2.toks) up;have gD:(s2.heap.push (HT.bW X.w)).get? D=some (HT.bW X.w):=by subst hD;exact aU _ rfl
 have xM:=T.obj _ _ nq;have sY:∀ b∈fp,b<s2.heap.objs.size:=λb hb=>by obtain⟨o,e,_⟩:=xM b hb;exact aM e
 have nd:D∉fp:=λz=>dE _ (VW (sY D z) hD);have fD:dj X pins H2 D:=I2.uv (sF hD) xK;have pM:tn 0 (s2.heap.push (HT.bW X.w)):=T.keep _ _ _ nq λb _ o e=>up b o e;generalize xO:({ s2 with heap:=s2.heap.push (HT.bW X.w) }:Shared)=s3 at I3 ⊢;have sZ:s3.heap=s2.heap.push (HT.bW X.w):=by rw[<-xO]
 rw[<-sZ]at pM gD;have f3:∀ b∈D::fp,dj X pins H2 b /\ b<s3.heap.objs.size:=λb hb=>by
  rcases aO.mp hb with rfl|hb
  ·exact⟨fD,aM gD⟩
  ·exact⟨f2 b hb,by rw[sZ,qo];exact k7 (sY b hb)⟩
 refine l6 ?_;generalize tj:pushCells (s3.heap.push { cls:=.type "dict",data:=.dict #[] }) scope.names=h₁;have k1:∀ b o,s3.heap.get? b=some o->h₁.get? b=some o:=λb o e=>by rw[<-tj];exact wW _ _ b o (aC _ e)
 have IY:=Ac S I3 (fp:=D::fp) f3 (s':={ s3 with heap:=h₁ }) (by rw[tj]);have tm:tn 0 h₁:=T.keep _ _ _ pM λb _ o e=>k1 b o e;generalize uA:cellsFrom (s3.heap.objs.size+1) scope.names (c6 X.env.cells scope.names [])=cl at IY ⊢;generalize hC:s3.heap.objs.size=C at IY ⊢;have qD:∀ {H':Hp},(∀ b∈D::fp,H' b=none)->∀ b∈D::fp,dj (X.comp N scope cl s3 H2 C (D::fp)) [] H' b:=λhn b hb=>by
  refine⟨hn b hb,(IY.ok.sM b hb).1,IY.ok.ur b hb,.inl hb,λx c e z=>(IY.ok.sM b hb).2 x c e z,λp hp=>absurd (show p∈([]:List (Addr×Obj)) from hp) (by simp)⟩
 have fin:∀ (σ':St) (H':Hp) (s':Shared),Inv (X.comp N scope cl s3 H2 C (D::fp)) [] σ' H' s'->∀ h',Heap.SameBut C s'.heap h'->Inv X pins σ H' { s' with heap:=h' }:=λσ' H' s' I' h' nZ=>by
  have qE:H' C=none:=I'.free;have kp:∀ b o,b≠C->s'.heap.get? b=some o->h'.get? b=some o:=λb o hb e=>nZ.extBut b o hb e;have xQ:s3.heap.get? C=none:=by rw[<-hC];exact vH (aq _)
  have hJ:∀ b o,s3.heap.get? b=some o->b≠C:=λb o e z=>by rw[z,xQ]at e;cases e
  have U:=I'.base;refine I3.Iy (s':={ s' with heap:=h' }) (ch:=D::fp) I'.os ⟨λb o e n hb hx=>kp b o (hJ b o e) (U.keep b o e n hb hx),λb o e n hb hx=>?_,U.free,λb o e hx=>?_,U.pI,U.nU,U.pJ⟩ ?_ I'.bare λb hb=>?_
  ·obtain⟨sl,e1⟩:=U.slot b o e n hb hx;exact⟨sl,kp b _ (hJ b o e) e1⟩
  ·obtain⟨o',e1⟩:=U.there b o e hx;exact⟨o',kp b o' (hJ b o e) e1⟩
  ·intro b ob e;refine(I'.ak b ob e).hG (λc w' bz q=>kp c w' (λz=>?_) q) (λ_ q=>q) λ_ _ q=>q;rcases bz with z1|z1
   ·rw[<-z1,z,qE]at e;cases e
   ·rw[z,qE]at z1;cases z1
  ·obtain⟨f,_⟩:=f3 b hb;exact⟨f.2.2.2.1,f.2.1,λx c e=>f.2.2.2.2.1 x c e,f.2.2.2.2.2⟩
 have Y3:∀ b∈D::fp,H2 b=none:=λb hb=>(f3 b hb).1.1;have S0:eA (X.comp N scope cl s3 H2 C (D::fp)) [] (rK src σ) H2 { s3 with heap:=h₁ } D []:=⟨IY,qD Y3 D (.head _),HT.FM (k1 _ _ gD)⟩;obtain⟨bk,u4,ada⟩:=ht (.ref it) (.ref D) (X.comp N scope cl s3 H2 C (D::fp)).env
 have loop:codeAny (model X.prog X.w) X.A (.compLoop (.SetComp elt (⟨tg,iter,ifs,0⟩::rest) scope aX) 0 (.ref it) (.ref D) (compEnvC scope cl C X.env))
  (compPost (model X.prog X.w) X.A X.xe none (λv s'=>wpAny (model X.prog X.w) X.A (spliced (backTo pos (starEach [] X.env))) (λws s2=>wpAny (model X.prog X.w) X.A (call (.builtin "sorted") (v::ws)) (EP X pins σ Q) X.xe s2) X.xe s') (.ref D) C) { s3 with heap:=h₁ }:=by
  refine FR (X:=X.comp N scope cl s3 H2 C (D::fp)) (body:=body (.ref D) (X.comp N scope cl s3 H2 C (D::fp)).env) rfl hc u4 ada T (hg _ _ _ _ _) (hf _ _ _ _ _) (hk _ _ _ _ _ D) S0 tm (λb hb=>qD Y3 b (.tail _ hb)) nd hW λs' σ' H' aW S' q'=>?_;obtain⟨m6,xR,_⟩:=S'.inv.loc;refine⟨m6,xR,λh' nZ=>last (fin σ' H' s' S'.inv h' nZ) (S'.u9.at λo e=>nZ.extBut D o (λz=>?_) e) q'.1 q'.2⟩;have:=aM gD;exact dE _ (VW this (hC.trans z.symm))
 exact mL (g:=⟨tg,iter,ifs,0⟩) rfl rfl loop (T.self _ 0 _ _ _ tm loop)
end
end L2
namespace L2.DL
noncomputable def yD:List W->Option (List Nat)
 |[]=>some []
 |.b n::l=>(yD l).map λt=>n::t
 |_=>none
theorem cw.bs {F:Hp}{r:List Addr}:∀ {ws:List W}{vs:List V}{ns:List Nat},cw F r ws vs->yD ws=some ns->∃ as,vs=as.map V.ref /\ pP r ns as /\ ns.length=vs.length
 | [],_,_,h,e=>by
   cases e;cases (show _=[] from h);exact⟨[],rfl,rfl,rfl⟩
 | w::l,_,ns,h,e=>by
   obtain⟨v,t,rfl,h1,h2⟩:=h;cases w with
   | b n =>
     unfold yD at e;cases e2:yD l with
     |none=>rw[e2]at e;cases e
     | some ms =>
       rw[e2]at e;cases e;obtain⟨as,rfl,q,z⟩:=h2.bs e2;obtain⟨a,rfl,ha⟩:=h1;exact⟨a::as,rfl,⟨a,as,rfl,ha,q⟩,by simpa using z⟩
   |_=>cases e
theorem pP.length {r:List Addr}:∀ {l:List Nat}{as:List Addr},pP r l as->l.length=as.length
 |[],_,h=>by cases (show _=[] from h);rfl
 | m::l,_,h=>by
   obtain⟨a,t,rfl,h1,h2⟩:=h;simp[h2.length]
section
variable {a : Expr} {p p1 : Pos}
def En (k:DE (List W)):DE W:=λenv bx=>fm (k env bx) λws bx1=>match yD ws with|some ns=>if ns.length<=sizeLine then .val (.t ns) bx1 else .bad|none=>.bad
theorem Os {x1}{k:DE (List W)}(h:bX X T Z es k):PD X T Z (.Tuple es x1 pos) (En k):=by
 refine PE.imp (Dw h) λσ H Q ⟨F,r,env,bx,R,h⟩=>?_;refine⟨F,r,env,bx,R,End.bind h λws bx1 F1 r1 vs H1 g1 R1 d1 h1=>?_⟩;split at h1
 ·rename_i ns e;split at h1
  ·rename_i hl;obtain⟨as,rfl,q,z⟩:=d1.bs e;refine⟨by rw[<-z];exact hl,λc hc=>?_⟩;exact h1 _ r1 _ _ (R1.qI hc) (R1.uD hc) ⟨c,as,rfl,fC,q⟩
  ·exact h1.elim
 ·exact h1.elim
end
def kZ (k:Nat) (g:DG) (tf:DE Bool) (te:DE W):Nat->Nat->aI->List Bx->List D->O (List D)
 |0,_,_,_,_=>.bad
 | f+1,i,env,bx,acc=>match bx[k]? with
   | some (.lst l)=>(match l[i]? with
     |none=>.val acc bx
     | some x=>match g (.d x) env bx with
       |none=>.bad
       | some (env1,bx1)=>bindB (tf env1 bx1) λb bx2=>match b with
         |false=>kZ k g tf te f (i+1) env1 bx2 acc
         | true=>bindB (te env1 bx2) λy aD=>match y with
           |.d d=>if acc.length<sizeLine then kZ k g tf te f (i+1) env1 aD (acc++[d]) else .bad
           |_=>.bad)
   |_=>.bad
noncomputable def vc (bx:List Bx) (k:Nat):Nat:=match bx[k]? with|some (.lst l)=>l.length|_=>0
def kn (bo:Bool) (src:List (Option Nat)) (m:DE W) (g:DG) (tf:DE Bool) (te:DE W):DE W:=λenv bx =>
 fm (m env bx) λw bx1=>match w with
  |.b k=>fm (kZ k g tf te (vc bx1 k+1) 0 (cD src env) bx1 []) λl bx2=>bJ bo (some (.lst l)) bx2
  |_=>.bad
section
variable {src : List (Option Nat)} {scope : Scope} {g : DG} 
theorem Ot {Q:VK}(h:tD T Z (kn bo src m g tf te) σ H Q):zV src (Xy K (tD T Z m)) (xW g) (xX ⟨E0,Z.cl⟩ tf) (xY ⟨E0,Z.cl⟩ te) σ H Q:=by
 obtain⟨F,r,env,bx,R,h⟩:=h;refine⟨F,r,env,bx,R,End.bind h λw bx1 F1 r1 v H1 g1 R1 d1 h1=>?_⟩;split at h1
 case h_2=>exact h1.elim
 rename_i k;obtain⟨a,rfl,ha⟩:=d1;have at_:∀ {F':Hp}{r':List Addr}{σ':St}{H':Hp}{ax:aI}{bx':List Bx}{T':Fr}{l:List D},aL F1 r1 F' r'->Rel T' F' r' σ' H' ax bx'->bx'[k]?=some (.lst l)->∃ vs,H' a=some (.lst vs) /\ ao F' l vs:=λ{F' r' σ' H' ax bx' T' l} g' R' e=>by
  obtain⟨t,et⟩:=g'.p;have Eo:r'[k]?=some a:=by rw[<-et,cn (List.getElem?_eq_some_iff.mp ha).1];exact ha
  obtain⟨_,vs,k1,k2⟩:=R'.box k _ a e Eo;exact⟨vs,k1,k2⟩
 have q0:∃ xs,aS K H1 a xs:=by
  unfold kZ at h1;split at h1
  ·rename_i l e;obtain⟨vs,k1,_⟩:=at_ (.refl F1 r1) R1 e;exact⟨vs,.of k1⟩
  ·exact h1.elim
 refine⟨a,rfl,q0,λDa hD=>?_⟩;have hT:T.H₀ Da=none:=by
  cases q:T.H₀ Da with
  |none=>rfl
  |some u=>rw[R1.keep Da u q (R1.uC hD)]at hD;cases hD
 have o0:Own F1 r1 (upd H1 Da (.lst [])) Da []:=⟨fC,R1.uB hD,R1.uC hD⟩;refine⟨λi n σ' H'=>∃ F' r' ax bx' acc vs,aL F1 r1 F' r' /\ Rel T F' r' σ' H' ax bx' /\ Own F' r' H' Da vs /\ ao F' acc vs /\
  End T Z bB F' r' σ env Q (fm (kZ k g tf te n i ax bx' acc) λl bx2=>bJ bo (some (.lst l)) bx2),
  ⟨_,F1,r1,_,bx1,[],[],.refl F1 r1,(R1.Yh hD).src src,o0,.nil,h1⟩,?_⟩
 rintro i n σ' H' ⟨F',r',ax,bx',acc,vs,g',R',o',da,h'⟩;cases n with
 |zero=>exact h'.elim
 |succ n =>
 unfold kZ at h';split at h'
 case h_2=>exact h'.elim
 rename_i l el;obtain⟨ws,k1,k2⟩:=at_ g' R' el;split at h'
 ·rename_i ei;refine .inl ⟨⟨ws,.of k1,by rw[<-k2.length];exact List.getElem?_eq_none_iff.mp ei⟩,?_⟩;have RO:Rel T F' r' σ H' env bx':=R1.slots g' R';have hd:End T Z bB F' r' σ env Q (.val (.d (.lst acc)) bx')->Q (.ref Da) H':=λh'=>by
   obtain⟨RA,gA⟩:=RO.Yj o' hT;exact h' _ r' _ H' gA RA ⟨Da,vs,rfl,fC,ao.mono gA.s acc da⟩
  cases bo with
  |false=>exact hd h'
  | true =>
    obtain⟨RB,gB,hx⟩:=RO.Yk o' hT da;exact h' F' _ _ H' gB RB ⟨Da,rfl,hx⟩
 ·rename_i x ei;obtain⟨u,e2,du⟩:=k2.get ei;refine .inr ⟨⟨ws,u,.of k1,e2⟩,λσ2 H2=>∃ F2 r2 aP bx2 rO rP,aL F1 r1 F2 r2 /\ Rel T F2 r2 σ2 H2 aP bx2 /\ Own F2 r2 H2 Da rP /\ ao F2 rO rP /\
   End T Z bB F2 r2 σ env Q (fm (kZ k g tf te n (i+1) aP bx2 rO) λl bx2=>bJ bo (some (.lst l)) bx2),
   λσ2 H2 ⟨F2,r2,aP,bx2,rO,rP,g2,R2,o2,d2,h2⟩=>⟨n,pB _,F2,r2,aP,bx2,rO,rP,g2,R2,o2,d2,h2⟩,λy H2 hy=>?_⟩
  obtain⟨rfl,hy⟩:=hy;have e4:ws[i]?=some y:=hy ws (.of k1);rw[e2]at e4;cases e4;refine⟨⟨H2,r'.length,F'⟩,F',r',ax,bx',.d x,R'.again,du,?_⟩;cases eg:g (.d x) ax bx' with
  |none=>simp only[eg]at h';exact h'.elim
  | some o =>
    obtain⟨c7,aD⟩:=o;simp only[eg]at h';intro F3 r3 σ3 H3 g3 R3;have xZ:=R'.inner g3 R3;have o3:=o'.inner g3 R3;refine⟨⟨H3,r3.length,F3⟩,F3,r3,c7,aD,xZ.again,?_⟩;cases ef:tf c7 aD with
    |bad=>simp only[ef,bindB]at h';exact h'.elim
    |exc c bq=>simp only[ef,bindB]at h';exact h'.elim
    | val b bq =>
      simp only[ef,bindB]at h';intro F4 r4 b' H4 g4 R4 eb;subst eb;have uI:=xZ.inner g4 R4;have o4:=o3.inner g4 R4;have tE:aL F' r' F4 r4:=g3.trans g4;have yb:aL F1 r1 F4 r4:=g'.trans tE;cases b with
      | false =>
        rw[if_neg (by decide)];exact⟨F4,r4,c7,bq,acc,vs,yb,uI,o4,ao.mono tE.s acc da,End.weak tE h'⟩
      | true =>
        rw[if_pos rfl];refine⟨⟨H4,r4.length,F4⟩,F4,r4,c7,bq,uI.again,?_⟩;cases ee:te c7 bq with
        |bad=>simp only[ee]at h';exact h'.elim
        |exc c uJ=>simp only[ee]at h';exact h'.elim
        | val y uJ =>
          simp only[ee]at h';intro F5 r5 v H5 g5 R5 d5;have Kr:=uI.inner g5 R5;have o5:=o4.inner g5 R5;have yc:=tE.trans g5;cases y with
          | d d =>
            simp only at h';split at h'
            ·rename_i hz;have Ks:=ao.mono yc.s acc da;refine⟨vs,o5.h,by rw[<-da.length];exact hz,F5,r5,c7,uJ,acc++[d],vs++[v],yb.trans g5,Kr.Yi o5 hT,⟨fC,o5.f,o5.b⟩,Ks.append (.cons d5 .nil),End.weak yc h'⟩
            ·exact h'.elim
          |_=>exact h'.elim
theorem LT (bo:Bool) (hc:X.calm=true) (S:kQ X N src scope) (hi:PD X T Z iter m)
 (hg:∀ T cl s H C fp,dY (X.comp N scope cl s H C fp) T tg g) (hf:∀ T cl s H C fp,PF (X.comp N scope cl s H C fp) ifs (eU T ⟨E0,Z.cl⟩ tf)) (he:∀ T cl s H C fp,PD (X.comp N scope cl s H C fp) T ⟨E0,Z.cl⟩ elt te)
 (hs:∀ x,foldedSetIterable iter X.env x=pure x):PD X T Z (.ListComp elt [⟨tg,iter,ifs,0⟩] scope pos) (kn bo src m g tf te):=
 PE.imp (Fw (src:=src) (g:=xW g) (tf:=xX ⟨E0,Z.cl⟩ tf) (te:=xY ⟨E0,Z.cl⟩ te) hc S (Np hi) (λcl s H C fp pins s' σ' H' v u Q I rv ⟨T,q⟩=>hg T cl s H C fp pins s' σ' H' v u Q I rv q)
  (λcl s H C fp pins s' σ' H' Q I ⟨T,q⟩=>hf T cl s H C fp pins s' σ' H' Q I q) (λcl s H C fp pins s' σ' H' Q I ⟨T,q⟩=>he T cl s H C fp pins s' σ' H' Q I q) hs) λσ H Q h=>Ot h
end
open PySem.W
abbrev DK:=aI->List Bx->List Int->Option (aI×List Bx×List Int)
noncomputable def eW (te:DE W):DK:=λenv bx ns=>match te env bx with
 |.val (.d (.int i)) bx1=>if ns.length+1<4000 then some (env,bx1,cH ns i) else none
 |_=>none
noncomputable def eX (g:DG) (tf:DE Bool) (k:DK):List W->DK
 |[]=>λenv bx ns=>some (env,bx,ns)
 | w::l=>λenv bx ns=>match g w env bx with
   |none=>none
   | some (env1,bx1)=>match tf env1 bx1 with
     |.val b bx2=>if b then (match k env1 bx2 ns with|some (aP,aD,n2)=>eX g tf k l aP aD n2|none=>none) else eX g tf k l env1 bx2 ns
     |_=>none
def vd (mi:DE (List W)) (g:DG) (tf:DE Bool) (k:DK):DK:=λenv bx ns=>match mi env bx with
 |.val ds bx1=>eX g tf k ds env bx1 ns
 |_=>none
def p6 (bo:Bool) (src:List (Option Nat)) (mi:DE (List W)) (g:DG) (tf:DE Bool) (k:DK):DE W:=λenv bx =>
 fm (mi env bx) λds bx1=>match eX g tf k ds (cD src env) bx1 [] with
  |some (_,bx2,ns)=>if ns.length<64 then bJ bo (some (.lst ((sortI ns).map D.int))) bx2 else .bad
  |none=>.bad
noncomputable def qV (T:Fr) (F:Hp) (r:List Addr) (Q:St->Hp->List Int->Prop):Option (aI×List Bx×List Int)->Prop
 |none=>False
 |some (ax,bx',aW)=>∀ F' r' σ' H',aL F r F' r'->Rel T F' r' σ' H' ax bx'->Q σ' H' aW
def wG (T:Fr) (k:DK):TK:=λσ H ns Q=>∃ F r env bx,Rel T F r σ H env bx /\ qV T F r Q (k env bx ns)
section
variable {g : DG} {k : DK}
theorem qV.weak {F':Hp}{r':List Addr}{Q:St->Hp->List Int->Prop}(gr:aL F r F' r'):∀ {o:Option (aI×List Bx×List Int)},qV T F r Q o->qV T F' r' Q o
 |none,h=>h
 |some (_,_,_),h=>λF2 r2 σ2 H2 g2=>h F2 r2 σ2 H2 (gr.trans g2)
theorem LU {Q:St->Hp->List Int->Prop}(h:wG T (eW te) σ H ns Q):YZ (tD T Z te) σ H ns Q:=by
 obtain⟨F,r,env,bx,R,h⟩:=h;refine⟨F,r,env,bx,R,?_⟩;unfold eW at h;split at h
 ·rename_i i bx1 e;rw[e];split at h
  ·rename_i hl;exact λF1 r1 v H1 g1 R1 d1=>⟨i,d1,hl,h F1 r1 σ H1 g1 R1⟩
  ·exact h.elim
 ·exact h.elim
theorem LV {Q:St->Hp->List Int->Prop}{ds:List W}{J:It}(R:Rel T F r σ H env bx) (y:uH F r ds J) (h:qV T F r Q (eX g tf k ds env bx ns)):Em J (tG T g) (eU T Z tf) (wG T k) σ H ns Q:=by
 refine⟨λi n σ' H' aW=>∃ pre l F' r' ax bx',ds=pre++l /\ pre.length=i /\ n=l.length /\ aL F r F' r' /\ Rel T F' r' σ' H' ax bx' /\ qV T F' r' Q (eX g tf k l ax bx' aW),⟨ds.length,[],ds,F,r,env,bx,rfl,rfl,rfl,.refl F r,R,h⟩,?_⟩;rintro i n σ' H' aW ⟨pre,l,F',r',ax,bx',eS,hi,hn,g',R',h'⟩;obtain⟨ys,yg⟩:=y T i F' r' σ' H' ax bx' g' R';cases l with
 |nil=>exact .inl ⟨ys (by rw[eS,ng];omega),h' F' r' σ' H' (.refl F' r') R'⟩
 | cons w l =>
   obtain⟨go,yl⟩:=yg w (by rw[eS,cz (by omega),hi,k8];rfl);refine .inr ⟨go,λσ2 H2 n2=>∃ F2 r2 aP bx2,aL F r F2 r2 /\ Rel T F2 r2 σ2 H2 aP bx2 /\ qV T F2 r2 Q (eX g tf k l aP bx2 n2),λσ2 H2 n2 ⟨F2,r2,aP,bx2,g2,R2,h2⟩=>⟨l.length,by rw[hn];exact pB _,pre++[w],l,F2,r2,aP,bx2,by rw[eS,eC];rfl,by rw[bM,hi];rfl,rfl,g2,R2,h2⟩,λx H2 hy=>?_⟩;obtain⟨F2,g2,R2,d2⟩:=yl x H2 hy;refine⟨F2,r',ax,bx',w,R2,d2,?_⟩;unfold eX at h';cases eg:g w ax bx' with
   |none=>simp only[eg]at h';exact h'.elim
   | some o =>
     obtain⟨c7,aD⟩:=o;simp only[eg]at h';intro F3 r3 σ3 H3 g3 R3;refine⟨F3,r3,c7,aD,R3,?_⟩;cases ef:tf c7 aD with
     |bad=>simp only[ef]at h';exact h'.elim
     |exc c bq=>simp only[ef]at h';exact h'.elim
     | val b bq =>
       simp only[ef]at h';intro F4 r4 b' H4 g4 R4 eb;subst eb;have gg:=((g'.trans g2).trans g3).trans g4;cases b with
       | false =>
         rw[if_neg (by decide)]at h' ⊢;exact⟨F4,r4,c7,bq,gg,R4,qV.weak ((g2.trans g3).trans g4) h'⟩
       | true =>
         rw[if_pos rfl]at h' ⊢;refine⟨F4,r4,c7,bq,R4,?_⟩;cases ek:k c7 bq aW with
         |none=>simp only[ek]at h';exact h'.elim
         | some o =>
           obtain⟨adb,uJ,n5⟩:=o;simp only[ek]at h';exact λF5 r5 σ5 H5 g5 R5=>⟨F5,r5,adb,uJ,gg.trans g5,R5,qV.weak (((g2.trans g3).trans g4).trans g5) h'⟩
theorem UU {Q:St->Hp->List Int->Prop}(h:wG T (vd mi g tf k) σ H ns Q):dF (tI T Z mi) (tG T g) (eU T Z tf) (wG T k) σ H ns Q:=by
 obtain⟨F,r,env,bx,R,h⟩:=h;refine⟨F,r,env,bx,R,?_⟩;unfold vd at h;split at h
 ·rename_i ds bx1 e;rw[e];exact λF1 r1 J H1 g1 R1 y1=>LV R1 y1 (qV.weak g1 h)
 ·exact h.elim
theorem FS {src:List (Option Nat)}{Q:VK}(h:tD T Z (p6 bo src mi g tf k) σ H Q):Y2 src (tI T Z mi) (tG T g) (eU T ⟨E0,Z.cl⟩ tf) (wG T k) σ H Q:=by
 obtain⟨F,r,env,bx,R,h⟩:=h;refine⟨F,r,env,bx,R,End.bind h λds bx1 F1 r1 J H1 g1 R1 y1 h1=>LV (R1.src src) y1 ?_⟩;split at h1
 ·rename_i e2 bx2 ae4 e;rw[e];split at h1
  ·rename_i hl;exact λF2 r2 σ2 H2 g2 R2=>⟨hl,λl hp=>ig (R1.slots g2 R2) (End.weak g2 h1) ⟨l,_,rfl,hp,rfl,lb _⟩⟩
  ·exact h1.elim
 ·exact h1.elim
end
section
variable {src : List (Option Nat)} {cj bu : Expr} {eV : List Expr} {scope : Scope} {aX p : Pos} {Y4 : DE (List W)} {g g2 : DG} {Y5 : DE Bool} 
theorem Ji (bo:Bool) (hc:X.calm=true) (yB:Gl X "sorted") (yC:X.mg "sorted"=none) (S:kQ X N src scope) (hi:ny X T Z tg iter mi)
 (hg:∀ cl s H C fp,dY (X.comp N scope cl s H C fp) T tg g) (hf:∀ cl s H C fp,PF (X.comp N scope cl s H C fp) ifs (eU T ⟨E0,Z.cl⟩ tf)) (he:∀ cl s H C fp,PD (X.comp N scope cl s H C fp) T ⟨E0,Z.cl⟩ elt te)
 (hs:∀ x,foldedSetIterable iter X.env x=pure x):PD X T Z (.Call (.Name "sorted" p) [.SetComp elt [⟨tg,iter,ifs,0⟩] scope aX] [] pos) (p6 bo src mi g tf (eW te)):=
 PE.imp (CK (body:=λacc env=>wF elt acc env) hc yB yC S hi (λi acc env=>⟨_,LR,rfl⟩) hg hf (λcl s H C fp D pins s' σ' H' ns Q E S h=>FQ rfl (he cl s H C fp) pins s' σ' H' ns Q E S (LU h)) hs) λσ H Q h=>FS h
theorem Jj (bo:Bool) (hc:X.calm=true) (yB:Gl X "sorted") (yC:X.mg "sorted"=none) (S:kQ X N src scope) (hi:ny X T Z tg iter mi)
 (hg:∀ cl s H C fp,dY (X.comp N scope cl s H C fp) T tg g) (hf:∀ cl s H C fp,PF (X.comp N scope cl s H C fp) ifs (eU T ⟨E0,Z.cl⟩ tf)) (ade:∀ cl s H C fp,ny (X.comp N scope cl s H C fp) T ⟨E0,Z.cl⟩ cj bu Y4)
 (dr:∀ cl s H C fp,dY (X.comp N scope cl s H C fp) T cj g2) (adf:∀ cl s H C fp,PF (X.comp N scope cl s H C fp) eV (eU T ⟨E0,Z.cl⟩ Y5)) (he:∀ cl s H C fp,PD (X.comp N scope cl s H C fp) T ⟨E0,Z.cl⟩ elt te)
 (hs:∀ x,foldedSetIterable iter X.env x=pure x) (cY:∀ env x,foldedSetIterable bu env x=pure x):PD X T Z (.Call (.Name "sorted" p) [.SetComp elt [⟨tg,iter,ifs,0⟩,⟨cj,bu,eV,0⟩] scope aX] [] pos) (p6 bo src mi g tf (vd Y4 g2 Y5 (eW te))):=
 PE.imp (CK (body:=λacc env=>yA (.SetComp elt [⟨tg,iter,ifs,0⟩,⟨cj,bu,eV,0⟩] scope aX) bu acc env) hc yB yC S hi (λi acc env=>⟨_,LS,SH⟩) hg hf
  (λcl s H C fp D pins s' σ' H' ns Q E S h=>Ua (X:=X.comp N scope cl s H C fp) (k:=wG T (eW te)) rfl hc (ade cl s H C fp) (dr cl s H C fp) (adf cl s H C fp) (λpins z σ2 K ns Q E S h=>FQ rfl (he cl s H C fp) pins z σ2 K ns Q E S (LU h)) (cY _) pins s' σ' H' ns Q E S (UU h)) hs) λσ H Q h=>FS h
end
def ve:List D->Option (List Key)
 |[]=>some []
 |d::l=>(pZ d).bind λk=>(ve l).map λt=>k::t
theorem FT {F:Hp}:∀ {l:List D}{ks:List Key}{vs:List V},ve l=some ks->ao F l vs->vs=ks.map kV
 |[],_,_,e,h=>by cases e;exact h
 | d::l,ks,_,e,h=>by
   obtain⟨v,t,rfl,h1,h2⟩:=h;unfold ve at e;cases e1:pZ d with
   |none=>rw[e1]at e;cases e
   | some k =>
     cases e2:ve l with
     |none=>rw[e1,e2]at e;cases e
     | some t' =>
       rw[e1,e2]at e;cases e;rw[mJ e1 h1,FT e2 h2];rfl
noncomputable def kq (l:List (List Key×D)) (k:List Key):Option D:=(l.find? λx=>decide (x.1=k)).map (·.2)
theorem eT.length {F:Hp}:∀ {l:List (List Key×D)}{r:List (List Key×V)},eT F l r->l.length=r.length
 |[],_,h=>by cases (show _=[] from h);rfl
 | (k,d)::l,_,h=>by
   obtain⟨v,t,rfl,_,h2⟩:=h;simp[h2.length]
theorem eT.vals {F:Hp}:∀ {l:List (List Key×D)}{r:List (List Key×V)},eT F l r->ao F (l.map (·.2)) (r.map (·.2))
 |[],_,h=>by cases (show _=[] from h);rfl
 | (k,d)::l,_,h=>by
   obtain⟨v,t,rfl,h1,h2⟩:=h;exact⟨v,_,rfl,h1,h2.vals⟩
theorem eT.get {F:Hp}{k:List Key}:∀ {l:List (List Key×D)}{r:List (List Key×V)},eT F l r->(∀ d,kq l k=some d->∃ v,cx r k=some v /\ Den F d v) /\ (kq l k=none->cx r k=none)
 |[],_,h=>by cases (show _=[] from h);exact⟨λd e=>by simp[kq]at e,λ_=>rfl⟩
 | (k',d)::l,_,h=>by
   obtain⟨v,t,rfl,h1,h2⟩:=h;by_cases e:k'=k
   ·have g:kq ((k',d)::l) k=some d:=by simp[kq,e]
    rw[g,lc e];exact⟨λd' z=>by cases z;exact⟨v,rfl,h1⟩,λz=>by cases z⟩
   ·have g:kq ((k',d)::l) k=kq l k:=by simp[kq,e]
    rw[g,jC e];exact h2.get
theorem eT.put {k:List Key}(hd:Den F d v) {l:List (List Key×D)}{r:List (List Key×V)}(h:eT F l r) (hn:cx r k=none):eT F (l++[(k,d)]) (putK r k v):=by
 have e:putK r k v=r++[(k,v)]:=by
  unfold putK;rw[if_neg (by rw[Ag,hn];decide)]
 rw[e];clear hn e;induction l generalizing r with
 |nil=>cases (show _=[] from h);exact⟨v,[],rfl,hd,rfl⟩
 | cons a l ih =>
   obtain⟨k',d'⟩:=a;obtain⟨v',t,rfl,h1,h2⟩:=h;exact⟨v',_,rfl,h1,ih h2⟩
section
variable {o f : Expr} {p aX : Pos} {mb mc : DE W}
noncomputable def Ep:DE W:=λ_ bx=>.val (.b bx.length) (bx++[.dT []])
theorem Ou:PD X T Z (.Dict [] [] pos) Ep:=by
 refine PE.imp Lu λσ H Q ⟨F,r,env,bx,R,h⟩=>λq hq=>?_;refine h F (r++[q]) _ _ ⟨Sub.refl F,xi r [q]⟩ (R.Ko hq ⟨R.uB hq,[],fC,rfl⟩) ⟨q,rfl,?_⟩;rw[<-R.len,cz (aq _),k8];rfl
def tQ (m k v:DE W):DE W:=λenv bx=>fm (m env bx) λx bx1=>match x with
 | .b n=>(match bx1[n]? with
   | some (.dT _)=>fm (k env bx1) λy bx2=>fm (v env bx2) λz aD=>(match y,z,aD[n]? with
     | .d (.tup d),.d u,some (.dT l)=>(match ve d with
       |some k=>if l.length<sizeLine then (match kq l k with|some w=>.val (.d w) aD|none=>.val (.d u) (aD.set n (.dT (l++[(k,u)])))) else .bad
       |none=>.bad)
     |_,_,_=>.bad)
   |_=>.bad)
 |_=>.bad
theorem Ov {Q:VK}(h:tD T Z (tQ ma mb mc) σ H Q):YW (tD T Z ma) (tD T Z mb) (tD T Z mc) σ H Q:=by
 obtain⟨F,r,env,bx,R,h⟩:=h;refine⟨F,r,env,bx,R,End.bind h λx bx1 F1 r1 v H1 g1 R1 d1 h1=>?_⟩;split at h1
 case h_2=>exact h1.elim
 rename_i n;obtain⟨a,rfl,ha⟩:=d1;obtain⟨c,hc,kc⟩:=R1.dH ha;rw[hc]at h1;split at h1
 case h_2=>exact h1.elim
 rename_i l0 e0;cases e0;obtain⟨_,kW,k0,_⟩:=kc;refine⟨a,rfl,.inr ⟨kW,.inl k0⟩,F1,r1,env,bx1,R1,End.bind h1 λy bx2 F2 r2 u H2 g2 R2 d2 h2=>⟨F2,r2,env,bx2,R2,End.bind h2 λz aD F3 r3 t H3 g3 R3 d3 h3=>?_⟩⟩;obtain⟨t1,KN⟩:=(g2.trans g3).p;have tN:r3[n]?=some a:=by rw[<-KN,cn (List.getElem?_eq_some_iff.mp ha).1];exact ha
 obtain⟨c2,dG,pW⟩:=R3.dH tN;rw[dG]at h3;split at h3
 ·rename_i d w l eq;cases eq;obtain⟨hF,vs,k1,k2⟩:=pW;split at h3
  ·rename_i k e1;obtain⟨b,us,rfl,f1,f2⟩:=(g3.den (w:=.d (.tup d)) d2:bB F3 r3 (.d (.tup d)) u);cases FT e1 f2;split at h3
   ·rename_i hl;refine⟨vs,k,b,k1,rfl,R3.fh _ _ f1,by rw[<-k2.length];exact hl,λv' uZ=>?_,λhn=>?_⟩
    ·split at h3
     ·rename_i w' p0;obtain⟨v2,e2,e3⟩:=k2.get.1 _ p0;rw[uZ]at e2;cases e2;exact h3 F3 r3 _ H3 (.refl F3 r3) R3 e3
     ·rename_i p0;rw[k2.get.2 p0]at uZ;cases uZ
    ·split at h3
     ·rename_i w' p0;obtain⟨v2,e2,e3⟩:=k2.get.1 _ p0;rw[hn]at e2;cases e2
     ·exact h3 F3 r3 _ _ (.refl F3 r3) (R3.write tN hF ⟨hF,_,fC,k2.put d3 hn⟩) d3
   ·exact h3.elim
  ·exact h3.elim
 ·exact h3.elim
theorem LW (hu:X.A.units+1<cLine) (ho:PD X T Z o ma) (ha:PD X T Z e mb) (hf:PD X T Z f mc) (m:M2 X o "setdefault" apos e f aX):PD X T Z (.Call (.Attribute o "setdefault" apos) [e,f] [] aX) (tQ ma mb mc):=
 PE.imp (LQ hu ho ha hf m) λσ H Q h=>Ov h
def wH (bo:Bool) (m:DE W):DE W:=λenv bx=>fm (m env bx) λx bx1=>match x with
 | .b n=>(match bx1[n]? with
   |some (.dT l)=>bJ bo (some (.lst (l.map (·.2)))) bx1
   |_=>.bad)
 |_=>.bad
theorem SI {Q:VK}(h:tD T Z (wH bo ma) σ H Q):YX (tD T Z ma) σ H Q:=by
 obtain⟨F,r,env,bx,R,h⟩:=h;refine⟨F,r,env,bx,R,End.bind h λx bx1 F1 r1 v H1 g1 R1 d1 h1=>?_⟩;split at h1
 case h_2=>exact h1.elim
 rename_i n;obtain⟨a,rfl,ha⟩:=d1;obtain⟨c,hc,kc⟩:=R1.dH ha;rw[hc]at h1;split at h1
 case h_2=>exact h1.elim
 rename_i l0 e0;cases e0;obtain⟨_,af,k1,k2⟩:=kc;exact⟨a,af,rfl,k1,λl hl=>ig R1 h1 ⟨l,_,rfl,hl,rfl,k2.vals⟩⟩
theorem Ow (bo:Bool) (hc:X.calm=true) (hg:Gl X "list") (hm:X.mg "list"=none) (ho:PD X T Z o ma) (hb:attributeBase o "values" X.env (eval o X.env)=eval o X.env) (hl:(apos.endLine==aX.line)=true) :
 PD X T Z (.Call (.Name "list" p) [.Call (.Attribute o "values" apos) [] [] aX] [] pos) (wH bo ma):=PE.imp (Oo hc hg hm ho hb hl) λσ H Q h=>SI h
end
section
variable {o f : Expr} {mb mc : DE W} {XF : Pos}
theorem aL.at {F':Hp}{r':List Addr}(g:aL F r F' r') (h:r[n]?=some a):r'[n]?=some a:=by
 obtain⟨t,e⟩:=g.p;rw[<-e,cn (List.getElem?_eq_some_iff.mp h).1];exact h
def ph (m:DE W) (k:DE W):DE W:=λenv bx=>fm (m env bx) λx bx1=>match x with
 | .b n=>(match bx1[n]? with
   | some (.lst _)=>fm (k env bx1) λy bx2=>(match y,bx2[n]? with
     |.d (.lst r),some (.lst l)=>if l.length+r.length<=sizeLine then .val (.d .non) (bx2.set n (.lst (l++r))) else .bad
     |_,_=>.bad)
   |_=>.bad)
 |_=>.bad
theorem Ub {Q:VK}(h:tD T Z (ph ma mb) σ H Q):xE X.K "list" XY (tD T Z ma) (vX (tD T Z mb) xC) σ H Q:=by
 obtain⟨F,r,env,bx,R,h⟩:=h;refine⟨F,r,env,bx,R,End.bind h λx bx1 F1 r1 v H1 g1 R1 d1 h1=>?_⟩;cases x with
 | b n =>
   simp only at h1;obtain⟨a,rfl,ha⟩:=d1;obtain⟨c,hc,kc⟩:=R1.dH ha;rw[hc]at h1;cases c with
   | lst l0 =>
     obtain⟨_,kW,k0,_⟩:=kc;refine⟨.inl ⟨rfl,kW,aS.of k0⟩,F1,r1,env,bx1,R1,End.bind h1 λy bx2 F2 r2 u H2 g2 R2 d2 h2=>?_⟩;have pV:=g2.at ha;obtain⟨c2,dG,pW⟩:=R2.dH pV;rw[dG]at h2;split at h2
     ·rename_i q l eq;cases eq;obtain⟨hF,vs,k1,k2⟩:=pW;obtain⟨b,zs,rfl,k3,k4⟩:=d2;split at h2
      ·rename_i hz;exact⟨a,b,vs,zs,rfl,rfl,k1,R2.fh _ _ k3,by rw[<-k2.length,<-k4.length];exact hz,h2 F2 r2 _ _ (.refl F2 r2) (R2.write pV hF ⟨hF,vs++zs,fC,k2.append k4⟩) rfl⟩
      ·exact h2.elim
     ·exact h2.elim
   |_=>exact h1.elim
 |_=>exact h1.elim
theorem Jk (ho:PD X T Z o ma) (ha:PD X T Z e mb)
 (kE:attributeBase o "extend" X.env (eval o X.env)=eval o X.env)
 (pN:((backTo pos (starEach [e] X.env)).all (λx=>!x.1)&&(backToKw pos (keywordEach [] X.env)).all (λx=>x.1.isSome)
  && decide ([e].length+([]:List Keyword).length+(if ([]:List Keyword).isEmpty then 0 else 1)<30))=true)
 (kF:(apos.endLine==pos.line)=true) (hs:starEach [e] X.env=(false,eval e X.env)::starEach [] X.env) :
 PD X T Z (.Call (.Attribute o "extend" apos) [e] [] pos) (ph ma mb):=
 PE.imp (Fv xp PySem.F.slot_list_extend PySem.F.type_list_extend GQ ho (iN ha lX hs) kE pN kF hs (by rfl)) λσ H Q h=>Ub h
end
section
variable {pos' : Pos} 
end
end L2.DL
namespace K1
open L2 L2.DL
def Ar:aj:=(fO (gq (iM "int" (dV 0)) (zY (iM "bool" (dV 0)))))
def jj:List W->List Bx->O W:=aY 1 (aG Ar)
def oC:aj:=(fO (gq (fj K1.jj 1 (fb (dV 0) fe)) (d3 nD nD (dV 1) (dV 0) (dV 2))))
def fX:List W->List Bx->O W:=aY 3 (aG oC)
def As:aj:=(fO (gq (iM "tuple" (dV 0)) (d3 nD nD (dV 1) (dN false az (fb (dV 0) fe)) (dV 2))))
def fU:List W->List Bx->O W:=aY 3 (aG As)
def oD:aj:=(fO (dN false bP (fb (fA false [none,some 0] (qM (fb (dC (.int 1)) (fb (dN false az (fb (dV 0) fe)) fe))) (fc 0) fw (d2 false cL (d2 false av (dV 1) (d2 false en (dV 0) (dC (.int 1)))) (d2 false av (dV 1) (dV 0)))) fe)))
def jQ:List W->List Bx->O W:=aY 1 (aG oD)
def jm:aj:=(fO (gq (fj K1.fU 3 (fb (dV 0) (fb (dC (.int 1)) (fb (dC (.int 5)) fe)))) (dN false bP (fb (fA false [none] (ay (dV 0)) (fc 0) fw (fj K1.fX 3 (fb (dV 0) (fb (dC (.int 0)) (fb (dC (.int 3)) fe))))) fe))))
def iO:List W->List Bx->O W:=aY 1 (aG jm)
def jn:aj:=(fu (bh (kS (cC (dB (fj K1.fU 3 (fb (dV 0) (fb (d2 false fM (dC (.int 3)) (dC (.int 1))) (fb (d2 false fM (dC (.int 3)) (dC (.int 1))) fe)))))) (cC (dB (dN false bP (fb (fA false [none] (ay (dV 0)) (fc 0) fw (fj K1.fX 3 (fb (dV 0) (fb (dC (.int 0)) (fb (dC (.int 9)) fe))))) fe))))) (fO (dC (.bl false))) bf) (fO (dN false bP (fb (fA false [none,none] (tK (fb (dV 0) (fb (dJ false (dV 0) (cQ (dC (.int 1))) c8) fe))) (ia 2 (fJ (fc 0) (fJ (fc 1) gU))) fw (d2 false nD (dV 1) (dV 0))) fe))))
def jR:List W->List Bx->O W:=aY 1 (aG jn)
def lO:aj:=(fO (gq (fj K1.fU 3 (fb (dV 0) (fb (dC (.int 2)) (fb (dC (.int 2)) fe)))) (gq (fj K1.fX 3 (fb (d2 false av (dV 0) (dC (.int 0))) (fb (dC (.int 1)) (fb (dC (.int 999)) fe)))) (fj K1.jR 1 (fb (d2 false av (dV 0) (dC (.int 1))) fe)))))
def mf:List W->List Bx->O W:=aY 1 (aG lO)
def jo:aj:=(fO (gq (fj K1.fU 3 (fb (dV 0) (fb (dC (.int 1)) (fb (dC (.int 4)) fe)))) (dN false bP (fb (fA false [none] (ay (dV 0)) (fc 0) fw (fj K1.mf 1 (fb (dV 0) fe))) fe))))
def iP:List W->List Bx->O W:=aY 1 (aG jo)
def g6:aj:=(fu (bh (cC (dB (fj K1.fU 3 (fb (dV 0) (fb (dC (.int 2)) (fb (dC (.int 2)) fe)))))) (fO (dC (.bl false))) bf) (fO (gq (dN false bP (fb (fA false [none,some 1] (ay (dV 0)) (fc 0) fw (fj K1.fX 3 (fb (dV 0) (fb (dC (.int 0)) (fb (d2 false en (dV 1) (dC (.int 1))) fe))))) fe)) (d2 false cL (d2 false av (dV 0) (dC (.int 0))) (d2 false av (dV 0) (dC (.int 1)))))))
def gQ:List W->List Bx->O W:=aY 2 (aG g6)
def jp:aj:=(fu (bh (cC (dB (iM "tuple" (dV 0)))) (fO (dC (.bl false))) bf) (fO (gq (dN false bP (fb (fA false [none,some 1] (ay (dV 0)) (fc 0) fw (fj K1.gQ 2 (fb (dV 0) (fb (dV 1) fe)))) fe)) (fj K1.jQ 1 (fb (dV 0) fe)))))
def gF:List W->List Bx->O W:=aY 2 (aG jp)
def jS:aj:=(fu (bh (cC (dB (fj K1.fU 3 (fb (dV 0) (fb (dC (.int 4)) (fb (dC (.int 4)) fe)))))) (fO (dC (.bl false))) bf) (fu (fH (dV 0) (ia 4 (fJ (fc 1) (fJ (fc 2) (fJ (fc 3) (fJ (fc 4) gU)))))) (fO (gq (fj K1.iO 1 (fb (dV 1) fe)) (gq (fj K1.iP 1 (fb (dV 2) fe)) (gq (fj K1.gF 2 (fb (dV 3) (fb (dN false az (fb (dV 2) fe)) fe))) (fj K1.fX 3 (fb (dV 4) (fb (dC (.int 1)) (fb (dC (.int 9)) fe))))))))))
def lu:List W->List Bx->O W:=aY 5 (aG jS)
def jy:aj:=(fu (bh (dB (d2 false cL (dV 1) (qQ (dV 0)))) (fO (Ed (dV 0) (dV 1))) bf) (fO (dC (.int 0))))
def gM:List W->List Bx->O W:=aY 2 (aG jy)
def jF:aj:=(fu (bh (dB (d2 false rQ (dV 0) (d2 false uK (dC (.int 10)) (dC (.int 18))))) (fO (f7 true (fb (d2 false en (dV 0) (d2 false uK (dC (.int 10)) (dC (.int 18)))) fe))) bf) (fu (fH (dC (.int 0)) (fc 1)) (fu (iC (bC (fb (dC (.int 64)) fe)) (fc 2) (fu (fH (d2 false eG (d2 false ez (d2 false fM (d2 false fM (d2 false eG (dV 0) (dC (.int 2147483629))) (d2 false ez (dC (.int 7919)) (dV 2))) (dC (.int 1))) (dC (.int 48271))) (dC (.int 2147483647))) (fc 3)) (fu (fH (d2 false eG (d2 false fM (d2 false fM (d2 false ez (dV 3) (dV 3)) (d2 false ez (dC (.int 69621)) (dV 2))) (dC (.int 7))) (dC (.int 2147483587))) (fc 3)) (fH (d2 false fM (d2 false ez (dV 1) (dC (.int 2147483587))) (dV 3)) (fc 1))))) (fO (f7 true (fb (dV 1) fe))))))
def iZ:List W->List Bx->O W:=aY 4 (aG jF)
def At:aj:=(fu (fH (d2 false eG (d2 false av (dV 0) (dC (.int 0))) (dV 1)) (fc 2)) (fu (fH (d2 false z8 (d2 false av (dV 0) (dC (.int 0))) (dV 1)) (rT (dV 0) (dC (.int 0)))) (fO (dV 2))))
def ff:List W->List Bx->O W:=aY 3 (aG At)
end K1
namespace K2
open L2 L2.DL
def Jl:aj:=(fO (fj K1.fX 3 (fb (dV 1) (fb (dC (.int 0)) (fb (d2 false en (dN false az (fb (d2 false av (dV 0) (dC (.int 0))) fe)) (dC (.int 1))) fe)))))
def gn:List W->List Bx->O W:=aY 2 (aG Jl)
end K2
namespace aH
open L2 L2.DL
def lv:aj:=(fu (fH (dN false kH (fb (fA false [none,some 0] (bC (fb (d2 false fM (dC (.int 1)) (fj K1.ff 2 (fb (dV 0) (fb (dC (.int 5)) fe)))) fe)) (fc 0) fw (fj K1.ff 2 (fb (dV 1) (fb (dC (.int 4)) fe)))) fe)) (fc 1)) (fu (fH (f7 true fe) (fc 2)) (fu (iC (bC (fb (d2 false fM (dC (.int 1)) (fj K1.ff 2 (fb (dV 0) (fb (d2 false av (f7 false (fb (dC (.int 1)) (fb (dC (.int 2)) (fb (dC (.int 4)) fe)))) (fj K1.ff 2 (fb (dV 0) (fb (dC (.int 3)) fe)))) fe)))) fe)) (fc 3) (fu (fH (dN false nE (fb (fA false [none,some 0] (bC (fb (dC (.int 4)) fe)) (fc 0) fw (fj K1.ff 2 (fb (dV 1) (fb (d2 false av (f7 false (fb (dC (.int 2)) (fb (dC (.int 4)) (fb (dC (.int 10)) fe)))) (fj K1.ff 2 (fb (dV 1) (fb (dC (.int 3)) fe)))) fe)))) fe)) (fc 4)) (fV (n8 (dV 2) (gC (fb (d2 false av (f7 false (fb (dC (.int 5)) (fb (dC (.int 40)) (fb (dC (.int 300)) (fb (dC (.int 999)) fe))))) (fj K1.ff 2 (fb (dV 0) (fb (dC (.int 4)) fe)))) (fb (dN false kH (fb (uM false (dV 4)) fe)) fe))))))) (fu (fH (f7 true fe) (fc 5)) (fu (iC (bC (fb (dN false az (fb (dV 2) fe)) fe)) (fc 6) (iC (qM (fb (d2 false fM (dV 6) (dC (.int 1))) (fb (dN false az (fb (dV 2) fe)) fe))) (fc 7) (bh (dB (d2 false dt (fj K1.ff 2 (fb (dV 0) (fb (dC (.int 3)) fe))) (dC (.int 0)))) (fV (n8 (dV 5) (gC (fb (dV 6) (fb (dV 7) fe))))) bf))) (fO (gC (fb (dV 1) (fb (dN false kH (fb (dV 2) fe)) (fb (dN false kH (fb (dV 5) fe)) (fb (d2 false fM (dC (.int 1)) (fj K1.ff 2 (fb (dV 0) (fb (d2 false av (f7 false (fb (dC (.int 3)) (fb (dC (.int 9)) fe))) (fj K1.ff 2 (fb (dV 0) (fb (dC (.int 2)) fe)))) fe)))) fe)))))))))))
def im:List W->List Bx->O W:=aY 8 (aG lv)
def iQ:aj:=(bh (cC (dB (fj K1.lu 1 (fb (dV 0) fe)))) kj bf)
def jz:List W->List Bx->O W:=aY 1 (aG iQ)
def og:aj:=(fO (gq (fj K1.fU 3 (fb (dV 1) (fb (dC (.int 2)) (fb (dC (.int 2)) fe)))) (gq (dN false bP (fb (fA false [none,some 0] (ay (dV 1)) (fc 0) fw (fj K2.gn 2 (fb (dV 1) (fb (dV 0) fe)))) fe)) (d2 false c9 (d2 false av (dV 1) (dC (.int 0))) (d2 false av (dV 1) (dC (.int 1)))))))
def ja:List W->List Bx->O W:=aY 2 (aG og)
def lw:aj:=(fO (gq (iM "list" (dV 1)) (gq (d2 false nD (dN false az (fb (dV 1) fe)) (dC (.int 10))) (dN false bP (fb (fA false [none,some 0] (ay (dV 1)) (fc 0) fw (fj aH.ja 2 (fb (dV 1) (fb (dV 0) fe)))) fe)))))
def jT:List W->List Bx->O W:=aY 2 (aG lw)
def iR:aj:=(fu (fV (fj aH.jz 1 (fb (dV 0) fe))) (bh (cC (dB (fj aH.jT 2 (fb (dV 0) (fb (dV 1) fe))))) kj bf))
def gf:List W->List Bx->O W:=aY 2 (aG iR)
def ly:aj:=(fu (fV (fj aH.gf 2 (fb (dV 0) (fb (dV 1) fe)))) (fu (bh (kS (cC (dB (iM "list" (dV 2)))) (cC (dB (dN false bP (fb (fA false [none,some 0] (ay (dV 2)) (fc 0) fw (fj K2.gn 2 (fb (dV 1) (fb (dV 0) fe)))) fe))))) (fO (dC (.bl false))) bf) (fu (kU 3 4 (fb (tH true []) (fb (tH true []) fe))) (fu (iC (Ej (fb (dV 2) fe)) (ia 2 (fJ (fc 5) (fJ (fc 6) gU))) (fu (fV (uY (dV 3) (dV 6) (dV 5))) (tM (dV 4) (dV 6) (dV 5)))) (fO (dN false bP (fb (fA false [none,none,some 3,some 4] (ay (dV 1)) (ia 2 (fJ (fc 0) (fJ (fc 1) gU))) fw (gq (qT false (dV 0) (dV 2)) (gq (qT false (dV 1) (dV 2)) (d2 false cL (rY (dV 2) (dV 0)) (rY (dV 3) (dV 1)))))) fe)))))))
def fT:List W->List Bx->O W:=aY 7 (aG ly)
end aH
namespace ck
open L2 L2.DL
def oh:aj:=(fu (bh (kS (cC (dB (fj K1.fU 3 (fb (dV 2) (fb (dC (.int 2)) (fb (dC (.int 5)) fe)))))) (cC (dB (dN false bP (fb (fA false [none,some 0] (ay (dV 2)) (fc 0) fw (fj K2.gn 2 (fb (dV 1) (fb (dV 0) fe)))) fe))))) (fO (dC (.bl false))) bf) (fO (gq (d2 false dt (dN false u5 (fb (dV 2) fe)) (dN false az (fb (dV 2) fe))) (dN false bP (fb (fA false [none,some 1] (tK (fb (dV 2) (fb (d2 false fM (dJ false (dV 2) (cQ (dC (.int 1))) c8) (dJ false (dV 2) c8 (cQ (dC (.int 1))))) fe))) (fc 0) fw (d2 false (inD false) (dV 0) (dV 1))) fe)))))
def jU:List W->List Bx->O W:=aY 3 (aG oh)
def BH:aj:=(fO (dN false wu (fb (fA false [none,some 1] (ay (dV 0)) (fc 0) fw (d2 false (inD false) (dV 0) (dV 1))) fe)))
def mM:List W->List Bx->O W:=aY 2 (aG BH)
def iE:aj:=(fu (fH (f7 false (fb (gC fe) fe)) (fc 2)) (fu (iC (bC (fb (dN false az (fb (d2 false av (dV 0) (dC (.int 0))) fe)) fe)) (fc 3) (fH (d2 false fM (dV 2) (fA false [none,some 3] (ay (dV 2)) (fc 0) fw (d2 false fM (dV 0) (gC (fb (dV 1) fe))))) (fc 2))) (fu (fH (fA false [none,some 1] (ay (dV 2)) (fc 0) (dB (dN false bP (fb (fA false [none,some 0] (ay (dV 1)) (fc 0) fw (fj ck.mM 2 (fb (dV 1) (fb (dV 0) fe)))) fe))) (dV 0)) (fc 4)) (fO (dN false yx (fb (dV 4) fe))))))
def fS:List W->List Bx->O W:=aY 5 (aG iE)
end ck
namespace cE
open L2 L2.DL
def lU:aj:=(fO (p6 false [none,none] (ay (dV 0)) (fc 0) fw (vd (ay (dV 0)) (fc 1) fw (eW (dV 1)))))
def fY:List W->List Bx->O W:=aY 1 (aG lU)
def jV:aj:=(fu (fH Ep (fc 1)) (fu (fH (fA true [none] (ay (fj cE.fY 1 (fb (dV 0) fe))) (fc 0) fw (gC (fb (dV 0) fe))) (fc 2)) (fu (eF (uG (dV 2)) (fu (fH (f7 true fe) (fc 3)) (fu (iC (ay (kI 2)) (fc 4) (fu (fH (p6 false [none,none,some 4] (ay (dV 0)) (ia 2 (fJ (fc 0) (fJ (fc 1) gU))) (nv (dB (d2 false dt (dV 0) (d2 false av (dV 2) (qP (dC (.int 1)))))) (dB (d2 false rQ (dV 1) (d2 false av (dV 2) (dC (.int 0)))))) (eW (dV 1))) (fc 5)) (fu (bh (dB (d2 false (inD false) (d2 false av (dV 4) (dC (.int 0))) (dV 5))) (fV (tQ (dV 1) (dN false kH (fb (dN false nE (fb (dV 4) fe)) fe)) (dV 4))) bf) (fV (ph (dV 3) (fA false [none,some 4] (ay (dV 5)) (fc 0) (dB (d2 false (inD true) (dV 0) (dV 1))) (d2 false fM (dV 1) (gC (fb (dV 0) fe))))))))) (fH (dV 3) (fc 2)))) 2000) (fO (wH true (dV 1))))))
def jq:List W->List Bx->O W:=aY 6 (aG jV)
def lP:aj:=(fu (fH (f7 true fe) (fc 2)) (fu (eF (dB (d2 false cL (dN false az (fb (dV 2) fe)) (dN false az (fb (dV 0) fe)))) (fu (fH (fA false [none,some 2] (ay (dV 0)) (fc 0) (dB (d2 false (inD true) (dV 0) (dV 1))) (dV 0)) (fc 3)) (fu (fH (fA false [none,none,some 3] (ay (dV 1)) (ia 2 (fJ (fc 0) (fJ (fc 1) gU))) (dB (d2 false (inD false) (dV 0) (dV 2))) (dV 1)) (fc 4)) (fV (ph (dV 2) (fA false [none,some 4] (ay (dV 3)) (fc 0) (dB (d2 false (inD true) (dV 0) (dV 1))) (dV 0)))))) 2000) (fO (kI 2))))
def jb:List W->List Bx->O W:=aY 5 (aG lP)
end cE
namespace L2.DL
section
variable {β : Type}
@[simp] theorem fI {a:α}{k:α->List Bx->O β}:fm (.val a bx) k=k a bx:=rfl
@[simp] theorem Vd {k:α->List Bx->O β}:fm .bad k=.bad:=rfl
@[simp] theorem mh {a:α}{k:α->List Bx->OS}:bO (.val a bx) k=k a bx:=rfl
@[simp] theorem Ve {k:α->List Bx->OS}:bO (.bad:O α) k=.bad:=rfl
@[simp] theorem Au {a:α}{k:α->List Bx->O β}:bindB (.val a bx) k=k a bx:=rfl
end
@[simp] theorem LX:dV i env bx=match env[i]? with|some (some w)=>.val w bx|_=>.bad:=rfl
@[simp] theorem UV:dC d env bx=.val (.d d) bx:=rfl
@[simp] theorem DY:fe env bx=.val [] bx:=rfl
@[simp] theorem oO {k:DE (List W)}:fb m k env bx=fm (m env bx) λw bx1=>fm (k env bx1) λl bx2=>.val (w::l) bx2:=rfl
@[simp] theorem FU {k:DE (List W)}:fj fn n k env bx=fm (k env bx) λws bx1=>if ws.length=n then fn ws bx1 else .bad:=rfl
@[simp] theorem UW:dB m env bx=fm (m env bx) λw bx1=>match w with|.d (.bl k)=>.val k bx1|_=>.bad:=rfl
@[simp] theorem LY {m k:DE Bool}:nv m k env bx=fm (m env bx) λb bx1=>match b with|true=>k env bx1|false=>.val false bx1:=rfl
@[simp] theorem Py {m k:DE Bool}:kS m k env bx=fm (m env bx) λb bx1=>match b with|true=>.val true bx1|false=>k env bx1:=rfl
@[simp] theorem SJ {m:DE Bool}:cC m env bx=fm (m env bx) λb bx1=>.val (!b) bx1:=rfl
@[simp] theorem FV {k:DE W}:gq m k env bx=fm (m env bx) λw bx1=>match w with|.d (.bl true)=>k env bx1|.d (.bl false)=>.val (.d (.bl false)) bx1|_=>.bad:=rfl
@[simp] theorem UO:zY m env bx=fm (m env bx) λw bx1=>match w with|.d (.bl k)=>.val (.d (.bl (!k))) bx1|_=>.bad:=rfl
@[simp] theorem BI:fw env bx=.val true bx:=rfl
@[simp] theorem UP {n:String}:iM n m env bx=fm (m env bx) λw bx1=>match aJ bx1 w with|some d=>.val (.d (.bl (uL (qN d) n))) bx1|none=>.bad:=rfl
@[simp] theorem Jm {b:Bool}{mb:DE W}:d2 b g ma mb env bx=fm (ma env bx) λx bx1=>fm (mb env bx1) λy bx2=>bJ b ((aJ bx2 x).bind λp=>(aJ bx2 y).bind λq=>g p q) bx2:=rfl
@[simp] theorem CL {b:Bool}{g:List D->Option Res}{k:DE (List W)}:dN b g k env bx=fm (k env bx) λws bx1=>bJ b ((dn bx1 ws).bind g) bx1:=rfl
@[simp] theorem Vf {g':D->D->Option Res}{mb mc:DE W}:d3 g g' ma mb mc env bx=fm (ma env bx) λx bx1=>fm (mb env bx1) λy bx2 =>
 fm (bJ false ((aJ bx2 x).bind λp=>(aJ bx2 y).bind λq=>g p q) bx2) λz aD=>match z with
  |.d (.bl true)=>fm (mc env aD) λw bq=>bJ false ((aJ bq y).bind λp=>(aJ bq w).bind λq=>g' p q) bq
  |.d (.bl false)=>.val (.d (.bl false)) aD
  |_=>.bad:=rfl
@[simp] theorem lV:aJ bx (.d d)=some d:=rfl
@[simp] theorem CN:dn bx []=some []:=rfl
@[simp] theorem DZ {l:List W}:dn bx (.d d::l)=(dn bx l).map λt=>d::t:=by
 simp only[dn,lV];cases dn bx l<;>rfl
@[simp] theorem Ty {b:Bool}:bJ b none bx=.bad:=rfl
@[simp] theorem g9 {q:Res}:bJ false (some q) bx=.val (.d q.toD) bx:=by cases q<;>rfl
@[simp] theorem LZ:bJ true (some (.lst l)) bx=.val (.b bx.length) (bx++[.lst l]):=rfl
@[simp] theorem BJ:(Res.old d).toD=d:=rfl
@[simp] theorem Ox:(Res.tup l).toD=.tup l:=rfl
@[simp] theorem oP:(Res.lst l).toD=.lst l:=rfl
@[simp] theorem UQ {l:List (Key×D)}:(Res.ah l).toD=.ah l:=rfl
@[simp] theorem UX:bf env bx=.nx env bx:=rfl
@[simp] theorem D0 {m k:aj}:fu m k env bx=match m env bx with|.nx env1 bx1=>k env1 bx1|o=>o:=rfl
@[simp] theorem Oy:fV m env bx=bO (m env bx) λ_ bx1=>.nx env bx1:=rfl
@[simp] theorem D3:fO m env bx=bO (m env bx) λw bx1=>.rt w bx1:=rfl
@[simp] theorem L0 {t:DE Bool}{m k:aj}:bh t m k env bx=bO (t env bx) λb bx1=>match b with|true=>m env bx1|false=>k env bx1:=rfl
@[simp] theorem L1 {g:DG}:fH m g env bx=bO (m env bx) λw bx1=>match g w env bx1 with|some (env1,bx2)=>.nx env1 bx2|none=>.bad:=rfl
@[simp] theorem SK {m:DE (List W)}{g:DG}{body:aj}:iC m g body env bx=bO (m env bx) λds bx1=>dI g body ds env bx1:=rfl
@[simp] theorem L3 {w:W}:fc i w env bx=some (env.set i (some w),bx):=rfl
@[simp] theorem UR:gU [] env bx=some (env,bx):=rfl
@[simp] theorem Uc {g:DG}{k:h8}{w:W}{l:List W}:fJ g k (w::l) env bx=(g w env bx).bind λ(env1,bx1)=>k l env1 bx1:=rfl
@[simp] theorem US {k:h8}:ia n k (.d (.tup l)) env bx=if l.length=n then k (l.map W.d) env bx else none:=rfl
@[simp] theorem oQ {src:List (Option Nat)}{g:DG}:fA bo src mi g tf te env bx=fm (mi env bx) λds bx1=>fm (bG g tf te ds (cD src env) bx1 []) λl bx2=>bJ bo (some (.lst l)) bx2:=rfl
@[simp] theorem D4:cD [] env=[]:=rfl
@[simp] theorem CO {l:List (Option Nat)}:cD (none::l) env=none::cD l env:=rfl
@[simp] theorem CP {l:List (Option Nat)}:cD (some i::l) env=((env[i]?).bind id)::cD l env:=rfl
@[simp] theorem FW:ay m env bx=fm (m env bx) λw bx1=>match w with|.d (.lst l)=>.val (l.map W.d) bx1|.d (.tup l)=>.val (l.map W.d) bx1|_=>.bad:=rfl
@[simp] theorem SL {k:DE (List W)}:gC k env bx=fm (k env bx) λws bx1=>bJ false ((kT ws).bind λl=>if l.length<=sizeLine then some (.tup l) else none) bx1:=rfl
@[simp] theorem L4 {k:DE (List W)}:f7 bo k env bx=fm (k env bx) λws bx1=>bJ bo ((kT ws).bind λl=>if l.length<=sizeLine then some (.lst l) else none) bx1:=rfl
@[simp] theorem Ud:kT []=some []:=rfl
@[simp] theorem SM {l:List W}:kT (.d d::l)=(kT l).map λt=>d::t:=rfl
@[simp] theorem SN:qP m env bx=fm (m env bx) λw bx1=>match w with|.d (.int i)=>.val (.d (.int (-i))) bx1|_=>.bad:=rfl
@[simp] theorem Pz {l u:DE (Option Int)}:dJ bo m l u env bx=fm (m env bx) λx bx1=>fm (l env bx1) λi bx2=>fm (u env bx2) λj aD=>bJ bo ((aJ aD x).bind λd=>qO d i j) aD:=rfl
@[simp] theorem Vc:c8 env bx=.val none bx:=rfl
@[simp] theorem Oz:cQ m env bx=fm (m env bx) λw bx1=>match w with|.d (.int i)=>.val (some i) bx1|_=>.bad:=rfl
@[simp] theorem UY:uM bo m env bx=fm (m env bx) λx bx1=>bJ bo ((aJ bx1 x).bind λd=>match d with|.lst l=>some (.lst l.reverse)|_=>none) bx1:=rfl
theorem gR {m:aj}{ws:List W}(h:m (ws.map some++List.replicate (n-ws.length) none) bx=.rt (.d d) bx):aY n (aG m) ws bx=.val (.d d) bx:=by
 simp only[aY,aG,DL.envOf,h,dZ,ed,xj]
end L2.DL
namespace K1
open L2 L2.DL
noncomputable def wh:D->Bool
 |.int _=>true
 |_=>false
noncomputable def wi (d:D) (lo hi:Int):Bool:=match d with
 |.int i=>decide (lo<=i)&&decide (i<=hi)
 |_=>false
noncomputable def tl (d:D) (lo hi:Int):Bool:=match d with
 |.tup l=>decide (lo<=(l.length:Int))&&decide ((l.length:Int)<=hi)
 |_=>false
theorem SO (d:D):uL (qN d) "int"=(match d with|.int _=>true|.bl _=>true|_=>false):=by cases d<;>rfl
theorem OA (d:D):uL (qN d) "bool"=(match d with|.bl _=>true|_=>false):=by cases d<;>rfl
theorem D5 (d:D):uL (qN d) "tuple"=(match d with|.tup _=>true|_=>false):=by cases d<;>rfl
theorem CQ (d:D) (bx:List Bx):jj [.d d] bx=.val (.d (.bl (wh d))) bx :=
 gR (by cases d<;>simp[Ar,SO,OA,wh])
theorem iV (d:D) (lo hi:Int) (bx:List Bx):fX [.d d,.d (.int lo),.d (.int hi)] bx=.val (.d (.bl (wi d lo hi))) bx :=
 gR (by
  cases d<;>simp[oC,CQ,wh,wi,nD];rename_i i;by_cases h:lo<=i<;>simp[h])
theorem fP (d:D) (lo hi:Int) (bx:List Bx):fU [.d d,.d (.int lo),.d (.int hi)] bx=.val (.d (.bl (tl d lo hi))) bx :=
 gR (by
  cases d<;>simp[As,D5,tl,nD,az];rename_i l;by_cases h:lo<=(l.length:Int)<;>simp[h])
theorem BK {g:DG}{tf:DE Bool}{te:DE W}(J:aI->Prop) (p:D->Bool) (f:D->D) {bx:List Bx}:∀ (l:List D) (env:aI) (acc:List D),J env ->
 (∀ d∈l,∀ env,J env->∃ ax,g (.d d) env bx=some (ax,bx) /\ J ax /\ tf ax bx=.val (p d) bx /\ (p d=true->te ax bx=.val (.d (f d)) bx))->acc.length+l.length<=sizeLine ->
 bG g tf te (l.map W.d) env bx acc=.val (acc++(l.filter p).map f) bx
 |[],env,acc,_,_,_=>by simp[bG]
 | d::l,env,acc,j,h,n=>by
   obtain⟨ax,e1,j',e2,e3⟩:=h d (bZ ..) env j;have n':acc.length<sizeLine:=by simp only[a9]at n;omega
   simp only[aQ,bG,e1,e2,Au];have h':=λx (m:x∈l)=>h x (bS _ m);cases q:p d with
   | false =>
     simp only[HE,q];exact BK J p f l ax acc j' h' (by simp only[a9]at n;omega)
   | true =>
     simp only[HE,q,e3 q,Au,if_pos n'];rw[BK J p f l ax (acc++[f d]) j' h' (by simp only[bM,a9,nO]at n ⊢;omega)];simp
theorem gX {g:DG}(J:aI->Prop) (f:D->D) (j:J env) (h:∀ d∈l,∀ env,J env->∃ ax,g (.d d) env bx=some (ax,bx) /\ J ax /\ te ax bx=.val (.d (f d)) bx) (n:l.length<=sizeLine) :
 bG g fw te (l.map W.d) env bx []=.val (l.map f) bx:=by
 rw[BK (tf:=fw) J (λ_=>true) f l env [] j (λd m e je=>let ⟨e',a,b,c⟩:=h d m e je;⟨e',a,b,rfl,λ_=>c⟩) (by simpa using n)];rw[List.filter_eq_self.mpr (λ_ _=>rfl)];rfl
theorem L5 (l:List D) (p:D->Bool):nC (l.map λd=>D.bl (p d))=some (l.map p):=by
 induction l with
 |nil=>rfl
 |cons d l ih=>simp[nC,ih]
@[simp] theorem all_map (l:List D) (p:D->Bool):bP [.lst (l.map λd=>D.bl (p d))]=some (.old (.bl (l.all p))):=by
 simp[bP,L5,pE]
def rooms (d:D):Bool:=match d with
 |.tup l=>tl (.tup l) 1 5&&l.all λx=>wi x 0 3
 |_=>false
theorem K4:(5:Nat)<=sizeLine:=by decide
theorem lA {lo hi:Int}(h:tl (.tup l) lo hi=true):lo<=(l.length:Int) /\ (l.length:Int)<=hi:=by simpa[tl] using h
theorem L6 (d:D) (bx:List Bx):iO [.d d] bx=.val (.d (.bl (rooms d))) bx :=
 gR (by
  cases d with
  | tup l =>
    cases h:tl (.tup l) 1 5 with
    |false=>simp[jm,fP,h,rooms]
    | true =>
      have n:=lA h;simp[jm,fP,h,rooms];rw[gX (λe=>∃ w,e=[w]) (λx=>.bl (wi x 0 3)) ⟨none,rfl⟩ (λx _ e ⟨w,je⟩=>⟨[some (.d x)],by simp[je],⟨_,rfl⟩,by simp[iV]⟩) (by have:=K4;omega)];simp
  |_=>simp[jm,fP,tl,rooms])
noncomputable def tR:List D->Bool
 |x::y::l=>(match x,y with|.int i,.int j=>decide (j<=i)|_,_=>false)&&tR (y::l)
 |_=>true
def qW (d:D):Bool:=match d with
 |.tup l=>tl (.tup l) 4 4&&(l.all (λx=>wi x 0 9)&&tR l)
 |_=>false
theorem L7 (d:D) (bx:List Bx):jR [.d d] bx=.val (.d (.bl (qW d))) bx :=
 gR (by
  cases d with
  | tup l =>
    cases h:tl (.tup l) 4 4 with
    |false=>simp[jn,fP,h,qW,fM]
    | true =>
      have n:=lA h;simp[jn,fP,h,qW,fM];rw[gX (λe=>∃ w,e=[w]) (λx=>.bl (wi x 0 9)) ⟨none,rfl⟩ (λx _ e ⟨w,je⟩=>⟨[some (.d x)],by simp[je],⟨_,rfl⟩,by simp[iV]⟩) (by have:=K4;omega)];simp;cases q:l.all λx=>wi x 0 9 with
      |false=>simp
      | true =>
        have l4:l.length=4:=by omega
        obtain⟨a,l,rfl⟩:∃ a t,l=a::t:=ql (by omega);obtain⟨b,l,rfl⟩:∃ a t,l=a::t:=ql (by simp at l4;omega);obtain⟨c,l,rfl⟩:∃ a t,l=a::t:=ql (by simp at l4;omega);obtain⟨e,l,rfl⟩:∃ a t,l=a::t:=ql (by simp at l4;omega);obtain rfl:l=[]:=by simpa using l4
        have Er:∀ x,wi x 0 9=true->∃ i,x=.int i:=λx hx=>by
         cases x<;>simp[wi]at hx;exact⟨_,rfl⟩
        simp at q;obtain⟨a,rfl⟩:=Er a q.1;obtain⟨b,rfl⟩:=Er b q.2.1;obtain⟨c,rfl⟩:=Er c q.2.2.1;obtain⟨e,rfl⟩:=Er e q.2.2.2;simp[tK,qO,DL.cutD,HT.aF,kh,bG,nD,tR,bP,nC,sizeLine]
  |_=>simp[jn,fP,tl,qW,fM])
theorem wI (h:tl (.tup l) 2 2=true):∃ a b,l=[a,b]:=by
 have n:=lA h;obtain⟨a,l,rfl⟩:∃ a t,l=a::t:=ql (by omega);obtain⟨b,l,rfl⟩:∃ a t,l=a::t:=ql (by simp at n;omega);have:l.length=0:=by simp at n;omega
 exact⟨a,b,by rw[zj this]⟩
theorem adg (h:tl (.tup l) 4 4=true):∃ a b c e,l=[a,b,c,e]:=by
 have n:=lA h;obtain⟨a,l,rfl⟩:∃ a t,l=a::t:=ql (by omega);obtain⟨b,l,rfl⟩:∃ a t,l=a::t:=ql (by simp at n;omega);obtain⟨c,l,rfl⟩:∃ a t,l=a::t:=ql (by simp at n;omega);obtain⟨e,l,rfl⟩:∃ a t,l=a::t:=ql (by simp at n;omega);have:l.length=0:=by simp at n;omega
 exact⟨a,b,c,e,by rw[zj this]⟩
theorem mj {x:D}{lo hi:Int}(h:wi x lo hi=true):∃ i,x=.int i /\ lo<=i /\ i<=hi:=by
 cases x<;>simp[wi]at h;exact⟨_,rfl,h⟩
def kind (d:D):Bool:=match d with
 |.tup l=>tl (.tup l) 2 2&&(match l with|[a,b]=>wi a 1 999&&qW b|_=>false)
 |_=>false
theorem OB (d:D) (bx:List Bx):mf [.d d] bx=.val (.d (.bl (kind d))) bx :=
 gR (by
  cases d with
  | tup l =>
    cases h:tl (.tup l) 2 2 with
    |false=>simp[lO,fP,h,kind]
    | true =>
      obtain⟨a,b,rfl⟩:=wI h;simp[lO,fP,h,kind,av,bc,b9,iV];cases q:wi a 1 999<;>simp[L7]
  |_=>simp[lO,fP,tl,kind])
def kinds (d:D):Bool:=match d with
 |.tup l=>tl (.tup l) 1 4&&l.all kind
 |_=>false
theorem L8 (d:D) (bx:List Bx):iP [.d d] bx=.val (.d (.bl (kinds d))) bx :=
 gR (by
  cases d with
  | tup l =>
    cases h:tl (.tup l) 1 4 with
    |false=>simp[jo,fP,h,kinds]
    | true =>
      have n:=lA h;simp[jo,fP,h,kinds];rw[gX (λe=>∃ w,e=[w]) (λx=>.bl (kind x)) ⟨none,rfl⟩ (λx _ e ⟨w,je⟩=>⟨[some (.d x)],by simp[je],⟨_,rfl⟩,by simp[OB]⟩) (by have:=K4;omega)];simp
  |_=>simp[jo,fP,tl,kinds])
def eL (n:Int) (d:D):Bool:=match d with
 |.tup l=>tl (.tup l) 2 2&&(match l with|[.int a,.int b]=>decide (0<=a)&&decide (a<b)&&decide (b<=n-1)|_=>false)
 |_=>false
theorem L9 (d:D) (n:Int) (bx:List Bx):gQ [.d d,.d (.int n)] bx=.val (.d (.bl (eL n d))) bx :=
 gR (by
  cases d with
  | tup l =>
    cases h:tl (.tup l) 2 2 with
    |false=>simp[g6,fP,h,eL]
    | true =>
      obtain⟨a,b,rfl⟩:=wI h;simp[g6,fP,h,eL,av,bc,b9];have c:=gX (g:=fc 0) (te:=fj fX 3 (fb (dV 0) (fb (dC (.int 0)) (fb (d2 false en (dV 1) (dC (.int 1))) fe)))) (bx:=bx) (l:=[a,b]) (λe=>∃ w,e=[w,xN n]) (λx=>.bl (wi x 0 (n-1))) ⟨none,rfl⟩ (λx _ e ⟨w,je⟩=>⟨[some (.d x),xN n],by simp[je],⟨_,rfl⟩,by simp[iV,en]⟩) (show (2:Nat)<=sizeLine by decide);simp only[aQ,uc]at c;rw[c];have e:=all_map [a,b] λx=>wi x 0 (n-1);simp only[aQ,uc]at e;simp[e];cases q1:wi a 0 (n-1) with
      | false =>
        cases a<;>cases b<;>simp[wi]at q1 ⊢;omega
      | true =>
        cases q2:wi b 0 (n-1) with
        | false =>
          obtain⟨i,rfl,i1,i2⟩:=mj q1;cases b<;>simp[wi]at q2 ⊢;omega
        | true =>
          obtain⟨i,rfl,i1,i2⟩:=mj q1;obtain⟨j,rfl,j1,j2⟩:=mj q2;simp[cL,i1,j2]
  |_=>simp[g6,fP,tl,eL])
noncomputable abbrev dP (p:Int×Int):D:=.tup [.int p.1,.int p.2]
abbrev xP (l:List (Int×Int)):Option W:=some (.d (.lst (l.map dP)))
def qX (p q:Int×Int):Bool:=HT.lexLt [p.1,p.2] [q.1,q.2]
theorem Ma {n:Int}(h:eL n d=true):∃ p:Int×Int,d=dP p /\ 0<=p.1 /\ p.1<p.2 /\ p.2<=n-1:=by
 cases d with
 | tup l =>
   simp only[eL,aE]at h;obtain⟨a,b,rfl⟩:=wI h.1;have h2:=h.2;cases a<;>cases b<;>simp at h2;exact⟨(_,_),rfl,h2.1.1,h2.1.2,h2.2⟩
 |_=>simp[eL]at h
theorem CS {n:Int}:∀ {l:List D},l.all (eL n)=true->∃ ps:List (Int×Int),l=ps.map dP /\ ∀ p∈ps,0<=p.1 /\ p.1<p.2 /\ p.2<=n-1
 |[],_=>⟨[],rfl,λp m=>by cases m⟩
 | d::l,h=>by
   simp only[qj,aE]at h;obtain⟨p,rfl,hp⟩:=Ma h.1;obtain⟨ps,rfl,hs⟩:=CS h.2;exact⟨p::ps,rfl,λq m=>by
    rcases aO.mp m with rfl|m
    ·exact hp
    ·exact hs q m⟩
def incr:List (Int×Int)->Bool
 |p::q::r=>qX p q&&incr (q::r)
 |_=>true
theorem Av:∀ ps:List (Int×Int),incr ps=(List.range (ps.length-1)).all λi=>qX (ps.getD i (0,0)) (ps.getD (i+1) (0,0))
 |[]=>rfl
 |[p]=>rfl
 | p::q::r=>by
   rw[incr,Av (q::r)];simp only[a9,VX];rw[List.range_succ_eq_map,qj,pE];rfl
theorem FX (h:i<ps.length):bc (ps.map dP) (i:Int)=some (dP (ps.getD i (0,0))):=by
 unfold bc b9;simp[h,List.getD]
theorem Mb {k:DE (List W)}{i j:Int}(e:k env bx=.val [.d (.int i),.d (.int j)] bx1) (h:(-(2 ^ 62)<=i /\ i<2 ^ 62) /\ -(2 ^ 62)<=j /\ j<2 ^ 62):qM k env bx=.val (fE i (j-i).toNat) bx1:=by
 unfold qM;rw[e,fI];exact if_pos h
theorem iF {k:DE (List W)}{j:Int}(e:k env bx=.val [.d (.int j)] bx1) (h:-(2 ^ 62)<=j /\ j<2 ^ 62):bC k env bx=.val (fE 0 j.toNat) bx1:=by
 unfold bC;rw[e,fI];exact if_pos h
theorem FY (lo:Int) (n:Nat):fE lo n=((List.range n).map λ(i:Nat)=>D.int (lo+(i:Int))).map W.d:=by
 unfold fE;rw[nP];rfl
theorem Jn (ps:List (Int×Int)) (n:ps.length<=sizeLine) (bx:List Bx):jQ [.d (.tup (ps.map dP))] bx=.val (.d (.bl (incr ps))) bx :=
 gR (by
  have s2:sizeLine=16777216:=bp;have r:qM (fb (dC (.int 1)) (fb (dN false az (fb (dV 0) fe)) fe)) [some (.d (.tup (ps.map dP)))] bx=.val (fE 1 (((ps.length:Nat):Int)-1).toNat) bx:=Mb (by simp[az]) (by omega);simp only[oD,D3,CL,oO,oQ,aQ,uc,a9,nO,k8,List.replicate_zero,ng,r,fI,FY,CO,CP,D4,Wd,ba,id];rw[gX (λe=>∃ w,e=[w,some (.d (.tup (ps.map dP)))]) (λx=>.bl (match x with|.int i=>qX (ps.getD (i.toNat-1) (0,0)) (ps.getD i.toNat (0,0))|_=>false)) ⟨none,rfl⟩ ?_ (by rw[aA,sH];omega)]
  ·simp only[fI,DY,g9,oP,DZ,CN,kN,ba];rw[all_map,g9,BJ,mh,pE,show ((ps.length:Int)-1).toNat=ps.length-1 by omega];have z:((λx:D=>match x with|.int i=>qX (ps.getD (i.toNat-1) (0,0)) (ps.getD i.toNat (0,0))|_=>false)∘λ(i:Nat)=>D.int (1+(i:Int)))=λi=>qX (ps.getD i (0,0)) (ps.getD (i+1) (0,0)):=by
    funext i;show qX (ps.getD ((1+(i:Int)).toNat-1) (0,0)) (ps.getD (1+(i:Int)).toNat (0,0))=_;rw[show (1+(i:Int)).toNat=i+1 by omega,VX]
   rw[z,<-Av]
  ·intro x m e ⟨w,je⟩;obtain⟨i,mi,rfl⟩:=a6.mp m;have hi:i<((ps.length:Int)-1).toNat:=List.mem_range.mp mi;refine⟨[xN (1+(i:Int)),some (.d (.tup (ps.map dP)))],by simp[je],⟨_,rfl⟩,?_⟩;have a1:=FX (ps:=ps) (i:=i) (by omega);have a2:=FX (ps:=ps) (i:=i+1) (by omega);rw[show ((i+1:Nat):Int)=1+(i:Int) by omega]at a2;simp only[Jm,LX,UV,Wd,HF,fI,lV,ba,av,en,g9,BJ,show 1+(i:Int)-1=(i:Int) by omega,a1,a2,kN,cL,dP,intsOf];rw[show (1+(i:Int)).toNat=i+1 by omega];rfl)
noncomputable def toP:D->Option (Int×Int)
 |.tup [.int a,.int b]=>some (a,b)
 |_=>none
theorem FZ (ps:List (Int×Int)):(ps.map dP).filterMap toP=ps:=by
 induction ps with
 |nil=>rfl
 |cons p ps ih=>rw[aQ,k9,ih];rfl
def apart (n:Int) (d:D):Bool:=match d with
 |.tup l=>l.all (eL n)&&incr (l.filterMap toP)
 |_=>false
def short (d:D):Prop:=match d with
 |.tup l=>l.length<=sizeLine
 |_=>True
theorem D6 (l:List D) (n:Int) (h':l.length<=sizeLine) (bx:List Bx):bG (fc 0) fw (fj gQ 2 (fb (dV 0) (fb (dV 1) fe))) (l.map W.d) [none,xN n] bx []=.val (l.map λx=>.bl (eL n x)) bx :=
 gX (λe=>∃ w,e=[w,xN n]) (λx=>.bl (eL n x)) ⟨none,rfl⟩ (λx _ e ⟨w,je⟩=>⟨[some (.d x),xN n],by simp[je],⟨_,rfl⟩,by simp[L9]⟩) h'
theorem Jo (d:D) (n:Int) (bx:List Bx) (h:∀ l,d≠.tup l):gF [.d d,.d (.int n)] bx=.val (.d (.bl (apart n d))) bx :=
 gR (by
  cases d with
  |tup l=>exact absurd rfl (h l)
  |_=>simp[jp,D5,apart])
theorem Jp {fp:List W->List Bx->O W}{n:Int}(c:bG (fc 0) fw (fj fp 2 (fb (dV 0) (fb (dV 1) fe))) (l.map W.d) [none,xN n] bx []=.val (l.map λx=>.bl (eL n x)) bx) :
 dN false bP (fb (fA false [none,some 1] (ay (dV 0)) (fc 0) fw (fj fp 2 (fb (dV 0) (fb (dV 1) fe)))) fe) [some (.d (.tup l)),xN n] bx=.val (.d (.bl (l.all (eL n)))) bx:=by
 have i:ay (dV 0) [some (.d (.tup l)),xN n] bx=.val (l.map W.d) bx:=rfl;rw[CL,oO,oQ,i,fI,show cD [none,some 1] [some (W.d (.tup l)),some (W.d (.int n))]=[none,some (W.d (.int n))] from rfl,c,fI,g9,fI,DY,fI,fI,DZ,CN,kN,ba,oP,all_map,g9,BJ]
theorem OC {k:DE W}{b:Bool}(h:m env bx=.val (.d (.bl b)) bx1):gq m k env bx=if b then k env bx1 else .val (.d (.bl false)) bx1:=by
 rw[FV,h];cases b<;>rfl
theorem SQ {t:DE Bool}{m k:aj}(h:t env bx=.val false bx):fu (bh t m bf) k env bx=k env bx:=by
 rw[D0,L0,h];rfl
theorem SR {w:Option W}:cC (dB (iM "tuple" (dV 0))) [some (.d (.tup l)),w] bx=.val false bx:=by
 simp[D5]
theorem Jq (l:List D) (n:Int) (bx:List Bx) (h':l.length<=sizeLine):gF [.d (.tup l),.d (.int n)] bx=.val (.d (.bl (apart n (.tup l)))) bx:=by
 have e1:=Jp (D6 l n h' bx);refine gR ?_;show jp [some (.d (.tup l)),xN n] bx=OS.rt (.d (.bl (l.all (eL n)&&incr (l.filterMap toP)))) bx;unfold jp;rw[SQ SR,D3,OC e1];cases q:l.all (eL n) with
 |false=>rfl
 | true =>
   obtain⟨ps,e,_⟩:=CS q;subst e;have r:=Jn ps (by rw[aA]at h';exact h') bx;rw[if_pos rfl,FU,oO,show dV 0 [some (W.d (.tup (ps.map dP))),some (W.d (.int n))] bx=.val (.d (.tup (ps.map dP))) bx from rfl,fI,DY,fI,fI,if_pos (show [W.d (D.tup (ps.map dP))].length=1 from rfl),r,mh,FZ,xm]
theorem Mc (d:D) (n:Int) (h:short d) (bx:List Bx):gF [.d d,.d (.int n)] bx=.val (.d (.bl (apart n d))) bx:=by
 cases d with
 |tup l=>exact Jq l n bx (by simpa only[short] using h)
 |_=>exact Jo _ n bx (λl e=>by cases e)
noncomputable def lenOf:D->Int
 |.tup l=>l.length
 |_=>0
def house (d:D):Bool:=match d with
 |.tup [r,k,p,h]=>rooms r&&(kinds k&&(apart (lenOf k) p&&wi h 1 9))
 |_=>false
def K5 (d:D):Prop:=match d with
 |.tup [_,_,p,_]=>short p
 |_=>True
theorem Jr {k:D}(h:kinds k=true):∃ l,k=.tup l:=by
 cases k with
 |tup l=>exact⟨l,rfl⟩
 |_=>simp[kinds]at h
theorem Md (d:D) (ok:K5 d) (bx:List Bx):lu [.d d] bx=.val (.d (.bl (house d))) bx :=
 gR (by
  cases d with
  | tup l =>
    cases t:tl (.tup l) 4 4 with
    | false =>
      have e:house (.tup l)=false:=by
       unfold house;split
       ·rename_i q;cases q;simp[tl]at t
       ·rfl
      simp[jS,fP,t,e]
    | true =>
      obtain⟨r,k,p,h,rfl⟩:=adg t;have e1:=fP (.tup [r,k,p,h]) 4 4 bx;have e2:=L6 r bx;have e3:=L8 k bx;have e4:∀ n:Int,gF [.d p,.d (.int n)] bx=.val (.d (.bl (apart n p))) bx:=λn=>Mc p n (by simpa only[K5] using ok) bx;have e5:=iV h 1 9 bx;rw[t]at e1;unfold jS;generalize fU=f1 at e1 ⊢;generalize iO=f2 at e2 ⊢;generalize iP=f3 at e3 ⊢;generalize gF=f4 at e4 ⊢;generalize fX=f5 at e5 ⊢;simp[e1,e2,house];cases q1:rooms r with
      |false=>simp
      | true =>
        simp[e3];cases q2:kinds k with
        |false=>simp
        | true =>
          obtain⟨l,rfl⟩:=Jr q2;simp[az,e4,lenOf];cases q3:apart (l.length:Int) p<;>simp[e5]
  |_=>simp[jS,fP,tl,house])
theorem io:∀ ns:List Int,intsOf (ns.map D.int)=some ns
 |[]=>rfl
 |n::ns=>by rw[aQ,intsOf,io ns];rfl
theorem F6:∀ ns:List Int,tR (ns.map D.int)=true ↔ ns.Pairwise (λa b=>b<=a)
 |[]=>by simp[tR]
 |[x]=>by simp[tR]
 | x::y::l=>by
   have ih:=F6 (y::l);simp only[aQ]at ih ⊢;simp only[tR,aE,decide_eq_true_eq,ih];constructor
   ·intro ⟨h,p⟩;refine List.pairwise_cons.mpr ⟨λz m=>?_,p⟩;rcases aO.mp m with rfl|m
    ·exact h
    ·exact Int.le_trans ((List.pairwise_cons.mp p).1 z m) h
   ·intro p;have q:=List.pairwise_cons.mp p;exact⟨q.1 y (bZ ..),q.2⟩
theorem CT {lo hi:Int}:∀ {l:List D},(l.all λx=>wi x lo hi)=true->∃ ns:List Int,l=ns.map D.int
 |[],_=>⟨[],rfl⟩
 | d::l,h=>by
   simp only[qj,aE]at h;obtain⟨i,rfl,_⟩:=mj h.1;obtain⟨ns,rfl⟩:=CT h.2;exact⟨i::ns,rfl⟩
end K1
namespace L2.DL
noncomputable def adh:Key->Nat
 |.inl _=>1921
 |.inr x=>(reprText x).length
mutual
noncomputable def wt:D->Nat
 |.non=>4
 |.bl _=>5
 |.int _=>1921
 |.str x=>(reprText x).length
 |.tup l=>3+yE l
 |.lst l=>3+yE l
 |.ah l=>3+Y6 l
noncomputable def yE:List D->Nat
 |[]=>0
 |d::l=>wt d+2+yE l
noncomputable def Y6:List (Key×D)->Nat
 |[]=>0
 |(k,d)::l=>adh k+wt d+4+Y6 l
end
mutual
noncomputable def ib (B:Nat):D->Bool
 |.int i=>decide (i.natAbs<=B)
 |.tup l=>yF B l
 |.lst l=>yF B l
 |.ah l=>Y7 B l
 |_=>true
noncomputable def yF (B:Nat):List D->Bool
 |[]=>true
 |d::l=>ib B d&&yF B l
noncomputable def Y7 (B:Nat):List (Key×D)->Bool
 |[]=>true
 |(k,d)::l=>(match k with|.inl i=>decide (i.natAbs<=B)|_=>true)&&ib B d&&Y7 B l
end
structure Sm (B a b:Nat) (d:D):Prop where
 s:ib B d=true
 e:(toPy d).depth<=a
 w:wt d<=b
structure bY (B a b:Nat) (l:List D):Prop where
 s:yF B l=true
 e:PyData.depthAll (ke l)<=a
 w:yE l<=b
theorem Sm.mono {B a b a' b':Nat}(h:Sm B a b d) (ha:a<=a') (hb:b<=b'):Sm B a' b' d:=⟨h.s,bR h.e ha,bR h.w hb⟩
theorem bY.mono {B a b a' b':Nat}(h:bY B a b l) (ha:a<=a') (hb:b<=b'):bY B a' b' l:=⟨h.s,bR h.e ha,bR h.w hb⟩
theorem bY.nil {B a:Nat}:bY B a 0 []:=⟨rfl,by simp[ke,PyData.depthAll],aq _⟩
theorem bY.cons {B a b c:Nat}{d:D}{l:List D}(h:Sm B a b d) (t:bY B a c l):bY B a (b+2+c) (d::l):=
 ⟨by simp[yF,h.s,t.s],by simp only[ke,PyData.depthAll];exact Nat.max_le.mpr ⟨h.e,t.e⟩,by simp only[yE];have:=h.w;have:=t.w;omega⟩
theorem Sm.tup {B a b:Nat}{l:List D}(h:bY B a b l):Sm B (a+1) (3+b) (.tup l):=
 ⟨by simp[ib,h.s],by simp only[toPy,PyData.depth];have:=h.e;omega,by simp only[wt];have:=h.w;omega⟩
theorem Sm.int {B a:Nat}{i:Int}(h:i.natAbs<=B):Sm B a 1921 (.int i):=
 ⟨by simp[ib,h],by simp[toPy,PyData.depth],aq _⟩
theorem bY.of {B a b:Nat}:∀ {l:List D},(∀ d∈l,Sm B a b d)->bY B a (l.length*(b+2)) l
 |[],_=>by simpa using bY.nil
 | d::l,h=>by
   have h1:=h d (bZ ..);have h2:=bY.of λx m=>h x (bS _ m);exact(bY.cons h1 h2).mono (aq _) (by rw[a9,VY];omega)
end L2.DL
namespace K1
open L2 L2.DL
noncomputable def pt (bx:List Bx) (n:Nat) (p:Int):List Bx:=bx.set n (.lst [.int p])
theorem jc {p:Int}:(pt bx n p).length=bx.length:=kL ..
theorem SS {p:Int}(h:n<bx.length):(pt bx n p)[n]?=some (.lst [.int p]):=by simp[pt,h]
theorem Ue {m:aj}{ws:List W}(h:m (ws.map some++List.replicate (n-ws.length) none) bx=.rt (.d d) bx') (l:bx'.length<=bx.length):aY n (aG m) ws bx=.val (.d d) bx':=by
 simp only[aY,aG,DL.envOf,h,dZ,ed,HC l]
theorem OD (h:n<bx.length) (p k:Int) (hk:0<k) (uS:k<1073741824):ff [.b n,.d (.int k)] (pt bx n p)=.val (.d (.int (p % k))) (pt bx n (p / k)):=by
 refine Ue ?_ (by rw[jc,jc];exact aq _);have g:=SS (p:=p) h;have c:vV p k:=⟨hk,uS⟩;simp[At,aJ,g,av,bc,b9,eG,z8,hk,c,rT];rw[pt,pt,HG]
theorem OE {l:List α}{i:Int}(h0:0<=i) (h1:i<l.length):∃ d,bc l i=some d /\ d∈l:=by
 have h2:i.toNat<l.length:=by omega
 refine⟨l[i.toNat],?_,ud h2⟩;simp[bc,b9,h0,h1,h2]
def Dr (o:O W) (bx:List Bx) (n:Nat) (P:D->Prop):Prop:=∃ d p,o=.val (.d d) (pt bx n p) /\ P d
theorem Me (p:Int) {k:Int}(h:0<k):0<=p % k:=Int.emod_nonneg _ (by omega)
theorem Mf (p:Int) {k:Int}(h:0<k):p % k<k:=Int.emod_lt_of_pos _ h
theorem ST (l:List D) (i:Nat) (h:i<=l.length):DL.cutD l none (some (i:Int))=l.take i:=by
 unfold DL.cutD;rw[HT.Fs,HT.Cd,Hy,VZ h,zc]
theorem Mg (l:List D) (i:Nat) (h:i<=l.length):DL.cutD l (some (i:Int)) none=l.drop i:=by
 unfold DL.cutD;rw[HT.Fs,HT.Cd,VZ h];exact HC (by rw[xg];exact aq _)
theorem SU (l:List α) (i:Nat) (h:i<l.length):bc l (i:Int)=some l[i]:=by
 simp[bc,b9,h]
theorem oR {g:DG}{te:DE W}(J:aI->Prop) (P:D->Prop) {bx:List Bx}{n:Nat}:∀ (l:List W) (env:aI) (p:Int) (acc:List D),J env ->
 (∀ w∈l,∀ env p,J env->∃ ax,g w env (pt bx n p)=some (ax,pt bx n p) /\ J ax /\ Dr (te ax (pt bx n p)) bx n P)->acc.length+l.length<=sizeLine ->
 ∃ ds p',bG g fw te l env (pt bx n p) acc=.val (acc++ds) (pt bx n p') /\ ds.length=l.length /\ ∀ d∈ds,P d
 |[],env,p,acc,_,_,_=>⟨[],p,by simp[bG],rfl,λd m=>by cases m⟩
 | w::l,env,p,acc,j,h,z=>by
   obtain⟨ax,e1,j',d,q,e2,hd⟩:=h w (bZ ..) env p j;have z':acc.length<sizeLine:=by simp only[a9]at z;omega
   obtain⟨ds,p',e3,e4,e5⟩:=oR J P l ax q (acc++[d]) j' (λx m=>h x (bS _ m)) (by simp only[bM,a9,nO]at z ⊢;omega);refine⟨d::ds,p',?_,by simp[e4],λx m=>?_⟩
   ·simp only[bG,e1,BI,Au,e2,if_pos z',e3];simp
   ·rcases aO.mp m with rfl|m
    ·exact hd
    ·exact e5 x m
def digit (d:D):Prop:=∃ i:Int,d=.int i /\ 0<=i /\ i<=9
theorem Bp:∀ {l:List D},(∀ d∈l,digit d)->∃ ns:List Int,l=ns.map D.int /\ ∀ i∈ns,0<=i /\ i<=9
 |[],_=>⟨[],rfl,λ_ m=>by cases m⟩
 | d::l,h=>by
   obtain⟨i,rfl,h1⟩:=h d (bZ ..);obtain⟨ns,rfl,h2⟩:=Bp λx m=>h x (bS _ m);exact⟨i::ns,rfl,λx m=>by
    rcases aO.mp m with rfl|m
    ·exact h1
    ·exact h2 x m⟩
theorem Mh (h4:ns.length=4) (h:∀ i∈ns,0<=i /\ i<=9):qW (.tup ((sortI ns).map D.int).reverse)=true:=by
 have l4:(sortI ns).length=4:=by rw[(gm ns).length_eq,h4]
 rw[<-List.map_reverse];have a1:tl (.tup ((sortI ns).reverse.map D.int)) 4 4=true:=by simp[tl,l4]
 have a2:(((sortI ns).reverse.map D.int).all λx=>wi x 0 9)=true:=by
  rw[pE,cA];intro i m;have:=h i ((gm ns).mem_iff.mp (List.mem_reverse.mp m));simp[wi,this.1,this.2]
 have a3:tR ((sortI ns).reverse.map D.int)=true:=(F6 _).mpr (List.pairwise_reverse.mpr (gE ns));simp only[qW,a1,a2,a3,Wm]
end K1
namespace L2.DL
section
variable {env1 aP : aI} {bx2 aD : List Bx} {k : DE W} {w u : W} {l : List W}
theorem fg (h1:m env bx=.val w bx1) (h2:ks env bx1=.val l bx2):fb m ks env bx=.val (w::l) bx2:=by rw[oO,h1,fI,h2,fI]
theorem F7:∀ {ds:List D},dn bx (ds.map W.d)=some ds
 |[]=>rfl
 |d::ds=>by rw[aQ,DZ,F7];rfl
theorem oS:∀ {ds:List D},kT (ds.map W.d)=some ds
 |[]=>rfl
 |d::ds=>by rw[aQ,SM,oS];rfl
theorem iq {g:List D->Option Res}{r:Res}(ds:List D) (h:ks env bx=.val (ds.map W.d) bx1) (hg:g ds=some r):dN false g ks env bx=.val (.d r.toD) bx1:=by rw[CL,h,fI,F7,ba,hg,g9]
theorem iL (ds:List D) (h:ks env bx=.val (ds.map W.d) bx1) (hl:ds.length<=sizeLine):gC ks env bx=.val (.d (.tup ds)) bx1:=by rw[SL,h,fI,oS,ba,if_pos hl,g9,Ox]
theorem Aw (ds:List D) (h:ks env bx=.val (ds.map W.d) bx1) (hl:ds.length<=sizeLine):f7 false ks env bx=.val (.d (.lst ds)) bx1:=by rw[L4,h,fI,oS,ba,if_pos hl,g9,oP]
theorem jW (ds:List D) (h:ks env bx=.val (ds.map W.d) bx1) (hl:ds.length<=sizeLine):f7 true ks env bx=.val (.b bx1.length) (bx1++[.lst ds]):=by rw[L4,h,fI,oS,ba,if_pos hl];rfl
theorem fL {r:Res}{x y:D}(h1:m env bx=.val (.d x) bx1) (h2:k env bx1=.val (.d y) bx2) (hg:g x y=some r):d2 false g m k env bx=.val (.d r.toD) bx2:=by rw[Jm,h1,fI,h2,fI,lV,lV,ba,ba,hg,g9]
theorem fK (h:ks env bx=.val l bx1) (hn:l.length=n) (hf:fn l bx1=.val w bx2):fj fn n ks env bx=.val w bx2:=by rw[FU,h,fI,if_pos hn,hf]
theorem gu {b:Bool}(h:m env bx=.val (.d (.bl b)) bx1):dB m env bx=.val b bx1:=by rw[UW,h,fI]
theorem jA {t:DE Bool}{b:Bool}(h:t env bx=.val b bx1):cC t env bx=.val (!b) bx1:=by rw[SJ,h,fI]
theorem PB {t s:DE Bool}(h:t env bx=.val true bx1):kS t s env bx=.val true bx1:=by rw[Py,h,fI]
theorem oE {t s:DE Bool}{b:Bool}(h:t env bx=.val false bx1) (h2:s env bx1=.val b bx2):kS t s env bx=.val b bx2:=by rw[Py,h,fI,h2]
theorem BL {t s:DE Bool}(h:t env bx=.val false bx1):nv t s env bx=.val false bx1:=by rw[LY,h,fI]
theorem BM {t s:DE Bool}{b:Bool}(h:t env bx=.val true bx1) (h2:s env bx1=.val b bx2):nv t s env bx=.val b bx2:=by rw[LY,h,fI,h2]
theorem F8 {b:Bool}(h:m env bx=.val (.d (.bl b)) bx1):gq m k env bx=if b then k env bx1 else .val (.d (.bl false)) bx1:=by rw[FV,h];cases b<;>rfl
theorem iI {src:List (Option Nat)}{g:DG}{ds:List D}{e2:aI}(h1:mi env bx=.val l bx1) (he:cD src env=e2) (h2:bG g tf te l e2 bx1 []=.val ds bx2):fA false src mi g tf te env bx=.val (.d (.lst ds)) bx2:=by
 subst he;rw[oQ,h1,fI,h2,fI,g9,oP]
theorem OF {src:List (Option Nat)}{g:DG}{ds:List D}{e2:aI}(h1:mi env bx=.val l bx1) (he:cD src env=e2) (h2:bG g tf te l e2 bx1 []=.val ds bx2):fA true src mi g tf te env bx=.val (.b bx2.length) (bx2++[.lst ds]):=by
 subst he;rw[oQ,h1,fI,h2,fI];rfl
theorem PH {x:D}{r:Res}{lo hi:DE (Option Int)}{i j:Option Int}(h1:m env bx=.val (.d x) bx1) (h2:lo env bx1=.val i bx2) (h3:hi env bx2=.val j aD) (hs:qO x i j=some r):dJ false m lo hi env bx=.val (.d r.toD) aD:=by
 rw[Pz,h1,fI,h2,fI,h3,fI,lV,ba,hs,g9]
theorem F9 {i:Int}(h:m env bx=.val (.d (.int i)) bx1):cQ m env bx=.val (some i) bx1:=by rw[Oz,h,fI]
theorem f8 {ds:List D}(h:m env bx=.val (.d (.lst ds)) bx1):ay m env bx=.val (ds.map W.d) bx1:=by rw[FW,h,fI]
theorem oT {ds:List D}(h:m env bx=.val (.d (.tup ds)) bx1):ay m env bx=.val (ds.map W.d) bx1:=by rw[FW,h,fI]
theorem SV {i:Int}(h:m env bx=.val (.d (.int i)) bx1):qP m env bx=.val (.d (.int (-i))) bx1:=by rw[SN,h,fI]
theorem fq {a b:aj}(h:a env bx=.nx env1 bx1):fu a b env bx=b env1 bx1:=by rw[D0,h]
theorem Ax {a b:aj}(h:a env bx=.rt w bx1):fu a b env bx=.rt w bx1:=by rw[D0,h]
theorem fW (h:m env bx=.val w bx1):fH m (fc i) env bx=.nx (env.set i (some w)) bx1:=by rw[L1,h,mh,L3]
theorem gN (h:m env bx=.val w bx1):fO m env bx=.rt w bx1:=by rw[D3,h,mh]
theorem gH (h:m env bx=.val w bx1):fV m env bx=.nx env bx1:=by rw[Oy,h,mh]
theorem BN {t:DE Bool}{a b:aj}(h:t env bx=.val true bx1):bh t a b env bx=a env bx1:=by rw[L0,h,mh]
theorem jX {t:DE Bool}{a b:aj}(h:t env bx=.val false bx1):bh t a b env bx=b env bx1:=by rw[L0,h,mh]
theorem jG {g:DG}{body:aj}(h:mi env bx=.val l bx1):iC mi g body env bx=dI g body l env bx1:=by rw[SK,h,mh]
theorem mw {g:DG}{body:aj}(h1:g w env bx=some (env1,bx1)) (h2:body env1 bx1=.nx aP bx2):dI g body (w::l) env bx=dI g body l aP bx2:=by
 rw[dI,h1];simp only[h2]
theorem jr {g:DG}{body:aj}(I:Nat->aI->List Bx->Prop):∀ (l:List W) (k:Nat) (env:aI) (bx:List Bx),I k env bx ->
 (∀ i w env bx,l[i]?=some w->I (k+i) env bx->∃ env1 bx1 aP bx2,g w env bx=some (env1,bx1) /\ body env1 bx1=.nx aP bx2 /\ I (k+i+1) aP bx2) ->
 ∃ ax bx',dI g body l env bx=.nx ax bx' /\ I (k+l.length) ax bx':=by
 intro l;induction l with
 |nil=>intro k env bx h _;exact⟨env,bx,rfl,h⟩
 | cons w l ih =>
   intro k env bx h st;obtain⟨env1,bx1,aP,bx2,e1,e2,h2⟩:=st 0 w env bx rfl h;obtain⟨ax,bx',e3,h3⟩:=ih (k+1) aP bx2 h2 λi x env bx e hi=>by
    have:=st (i+1) x env bx (by simpa using e) (by rw[show k+(i+1)=k+1+i by omega];exact hi);rw[show k+(i+1)+1=k+1+i+1 by omega]at this;exact this
   exact⟨ax,bx',by rw[mw e1 e2,e3],by rw[a9,show k+(l.length+1)=k+1+l.length by omega];exact h3⟩
end
end L2.DL
namespace K1
open L2 L2.DL
theorem OG {k:Nat}{m:DE (List W)}(e:m env bx=.val [.d (.int (k:Int))] bx) (hk:k<=1000000):bC m env bx=.val (fE 0 k) bx:=by
 rw[iF e (by omega),cX]
theorem Mi {lo hi:Int}{B a:Nat}(h:wi d lo hi=true) (h1:lo.natAbs<=B) (h2:hi.natAbs<=B):Sm B a 1921 d:=by
 obtain⟨i,rfl,a1,a2⟩:=mj h;exact Sm.int (by omega)
theorem Mj (h:qW d=true):Sm 999 1 7695 d:=by
 cases d with
 | tup l =>
   simp only[qW,aE]at h;have n:=lA h.1;have s:=bY.of (B:=999) (a:=0) (b:=1921) (l:=l) λx m=>Mi (cA.mp h.2.1 x m) (by decide) (by decide);have e:l.length=4:=by omega
   rw[e]at s;exact Sm.tup s
 |_=>simp[qW]at h
theorem OH (h:kind d=true):Sm 999 2 9623 d:=by
 cases d with
 | tup l =>
   simp only[kind,aE]at h;obtain⟨a,b,rfl⟩:=wI h.1;simp only[aE]at h;have s1:=Mi (B:=999) (a:=1) h.2.1 (by decide) (by decide);have s2:=Mj h.2.2;exact Sm.tup (bY.cons s1 (bY.cons s2 bY.nil))
 |_=>simp[kind]at h
theorem Uf {p:Int×Int}{k:Nat}(h:0<=p.1 /\ p.1<p.2 /\ p.2<(k:Int)) (hk:k<=4):Sm 999 1 3849 (dP p):=
 Sm.tup (bY.cons (Sm.int (by omega)) (bY.cons (Sm.int (by omega)) bY.nil))
theorem CU {l:List α}{a:α}(h:l[i]?=some a):l.set i a=l:=by
 obtain⟨hi,e⟩:=List.getElem?_eq_some_iff.mp h;rw[<-e];exact List.set_getElem_self hi
theorem Mk {k:DE W}{bx2:List Bx}{l0:List D}(h1:m env bx=.val (.b i) bx1) (adi:bx1[i]?=some (.lst l0)) (h2:k env bx1=.val (.d d) bx2) (hb:bx2[i]?=some (.lst l)) (hl:l.length<sizeLine):n8 m k env bx=.val (.d .non) (bx2.set i (.lst (l++[d]))):=by
 unfold n8;rw[h1,fI];simp only[adi,h2,fI,hb,if_pos hl]
section
variable {hd lim rt : D} {rs ks ps : List D} {fo so fi tw th : Option W} 
end
section
variable {hd lim rt : D} {rs ks ps : List D} {fo so fi tw th : Option W} 
end
theorem BO {m:aj}{ws:List W}(h:m (ws.map some++List.replicate (n-ws.length) none) bx=.rt (.d d) bx'):aY n (aG m) ws bx=.val (.d d) (bx'.take bx.length):=by
 simp only[aY,aG,DL.envOf,h,dZ,ed]
theorem Ug {k:Nat}(h:env[k]?=some (xB i)) (hb:bx[i]?=some (.lst l)):kI k env bx=.val (.d (.lst l)) (bx.set i .dead):=by
 unfold kI;simp only[h,hb]
theorem SW (l:List Int) (k:Nat) (bx:List Bx):∃ c:Int,gM [.s l,.d (.int (k:Int))] bx=.val (.d (.int c)) bx:=by
 by_cases h:k<l.length
 ·have a:bc l (k:Int)=some l[k]:=SU l k h;refine⟨l[k],gR ?_⟩;have h':(k:Int)<(l.length:Int):=by omega
  simp[jy,qQ,cL,h',Ed,a]
 ·refine⟨0,gR ?_⟩;have h':¬ (k:Int)<(l.length:Int):=by omega
  simp[jy,qQ,cL,h']
abbrev K6:aj:=(fu (fH (d2 false eG (d2 false ez (d2 false fM (d2 false fM (d2 false eG (dV 0) (dC (.int 2147483629))) (d2 false ez (dC (.int 7919)) (dV 2))) (dC (.int 1))) (dC (.int 48271))) (dC (.int 2147483647))) (fc 3)) (fu (fH (d2 false eG (d2 false fM (d2 false fM (d2 false ez (dV 3) (dV 3)) (d2 false ez (dC (.int 69621)) (dV 2))) (dC (.int 7))) (dC (.int 2147483587))) (fc 3)) (fH (d2 false fM (d2 false ez (dV 1) (dC (.int 2147483587))) (dV 3)) (fc 1))))
theorem Mm {i j:Int}(h1:-(2 ^ 64)<i) (h2:i<2 ^ 64):ez (.int i) (.int j)=some (.old (.int (i*j))):=if_pos (.inl ⟨h1,h2⟩)
theorem PJ {i j:Int}(h1:-(2 ^ 64)<j) (h2:j<2 ^ 64):ez (.int i) (.int j)=some (.old (.int (i*j))):=if_pos (.inr ⟨h1,h2⟩)
theorem Mo {i j:Int}(h1:0<j):eG (.int i) (.int j)=some (.old (.int (i % j))):=if_pos h1
theorem Uh {i j:Int}(h1:vW i j):uK (.int i) (.int j)=some (.old (.int (i ^ j.toNat))):=if_pos h1
theorem Js (c x j:Int) (w:Option W) (bx:List Bx):∃ x' y,K6 [xN c,xN x,xN j,w] bx=.nx [xN c,xN x',xN j,xN y] bx:=by
 let a:=(c % 2147483629+7919*j+1)*48271 % 2147483647
 let b:=(a*a+69621*j+7) % 2147483587
 have a0:0<=a:=Me _ (by decide);have a1:a<2147483647:=Mf _ (by decide);have e1:fH (d2 false eG (d2 false ez (d2 false fM (d2 false fM (d2 false eG (dV 0) (dC (.int 2147483629))) (d2 false ez (dC (.int 7919)) (dV 2))) (dC (.int 1))) (dC (.int 48271))) (dC (.int 2147483647))) (fc 3) [xN c,xN x,xN j,w] bx=.nx [xN c,xN x,xN j,xN a] bx :=
  fW (fL (r:=.old _) (fL (r:=.old _) (fL (r:=.old _) (fL (r:=.old _) (fL (r:=.old _) rfl rfl (Mo (by decide))) (fL (r:=.old _) rfl rfl (Mm (by decide) (by decide))) rfl) rfl rfl) rfl (PJ (by decide) (by decide))) rfl (Mo (by decide)))
 have e2:fH (d2 false eG (d2 false fM (d2 false fM (d2 false ez (dV 3) (dV 3)) (d2 false ez (dC (.int 69621)) (dV 2))) (dC (.int 7))) (dC (.int 2147483587))) (fc 3) [xN c,xN x,xN j,xN a] bx=.nx [xN c,xN x,xN j,xN b] bx :=
  fW (fL (r:=.old _) (fL (r:=.old _) (fL (r:=.old _) (fL (r:=.old _) rfl rfl (Mm (by omega) (by omega))) (fL (r:=.old _) rfl rfl (Mm (by decide) (by decide))) rfl) rfl rfl) rfl (Mo (by decide)))
 have e3:fH (d2 false fM (d2 false ez (dV 1) (dC (.int 2147483587))) (dV 3)) (fc 1) [xN c,xN x,xN j,xN b] bx=.nx [xN c,xN (x*2147483587+b),xN j,xN b] bx :=
  fW (fL (r:=.old _) (fL (r:=.old _) rfl rfl (PJ (by decide) (by decide))) rfl rfl)
 exact⟨_,_,by unfold K6;rw[fq e1,fq e2,e3]⟩
theorem Mp {m:aj}{ws:List W}(h:m (ws.map some++List.replicate (n-ws.length) none) bx=.rt (.b i) bx'):aY n (aG m) ws bx=.val (.b i) bx':=by
 simp only[aY,aG,DL.envOf,h,dZ,ed]
theorem Ui (c:Int) (bx:List Bx):∃ p:Int,iZ [.d (.int c)] bx=.val (.b bx.length) (bx++[.lst [.int p]]):=by
 have sz:=bp;have Y8:∀ e b,d2 false uK (dC (.int 10)) (dC (.int 18)) e b=.val (.d (.int (10 ^ 18))) b:=λe b=>fL (r:=.old _) rfl rfl (Uh (by decide));have t:dB (d2 false rQ (dV 0) (d2 false uK (dC (.int 10)) (dC (.int 18)))) [xN c,none,none,none] bx=.val (decide (10 ^ 18<=c)) bx:=gu (fL (r:=.old _) rfl (Y8 _ _) rfl);by_cases h:10 ^ 18<=c
 ·rw[decide_eq_true h]at t;refine⟨c-10 ^ 18,Mp ?_⟩;show jF [xN c,none,none,none] bx=_;unfold jF;refine(Ax ((BN t).trans (gN (jW [.int (c-10 ^ 18)] (fg (fL (r:=.old _) rfl (Y8 _ _) rfl) rfl) (show (1:Nat)<=sizeLine by omega))))).trans rfl
 ·rw[decide_eq_false h]at t;have rg:=OG (env:=[xN c,xN 0,none,none]) (bx:=bx) (k:=64) (m:=fb (dC (.int 64)) fe) rfl (by decide);obtain⟨ax,bx',e,x,w2,w3,rfl,rfl⟩:=jr (g:=fc 2) (body:=K6) (λ_ env b=>∃ (x:Int) (w2 w3:Option W),env=[xN c,xN x,w2,w3] /\ b=bx) (fE 0 64) 0 [xN c,xN 0,none,none] bx ⟨0,none,none,rfl,rfl⟩ (by
   rintro i w env b hw ⟨x,w2,w3,rfl,rfl⟩;obtain⟨j,_,rfl⟩:=a6.mp (xf hw);obtain⟨x',y,e⟩:=Js c x (0+(j:Int)) w3 b;exact⟨_,_,_,_,rfl,e,x',_,_,rfl,rfl⟩)
  refine⟨x,Mp ?_⟩;show jF [xN c,none,none,none] bx'=_;unfold jF;refine(fq (jX t)).trans ?_;refine(fq (fW rfl)).trans ?_;refine(fq ((jG rg).trans e)).trans ?_;exact gN (jW [.int x] rfl (show (1:Nat)<=sizeLine by omega))
end K1
namespace K2
open L2 L2.DL K1
section
variable {hs : List D} {c hold hour : Int} {x1 x2 : Option W} 
end
structure K7 (d:D) (rs:List Int) (hold:Int):Prop where
 e:∃ k p,d=.tup [.tup (rs.map D.int),k,p,.int hold]
 r:∀ c∈rs,0<=c /\ c<=3
 n:1<=rs.length /\ rs.length<=5
 h:1<=hold /\ hold<=9
theorem Jt (h:house d=true):∃ rs hold,K7 d rs hold:=by
 unfold house at h;split at h
 ·rename_i r k p hd;simp only[aE]at h;obtain⟨h1,h2,h3,h4⟩:=h;cases r with
  | tup l =>
    simp only[rooms,aE]at h1;have n:=lA h1.1;obtain⟨rs,rfl⟩:=CT h1.2;obtain⟨i,rfl,i1,i2⟩:=mj h4;rw[aA]at n;refine⟨rs,i,⟨k,p,rfl⟩,λc m=>?_,by omega,i1,i2⟩;have:=cA.mp h1.2 (.int c) (zk m);simpa[wi] using this
  |_=>simp[rooms]at h1
 ·simp at h
section
variable {rs : List Int} {hold hour : Int} 
end
end K2
namespace L2.DL
section
variable {env1 : aI} {bx2 : List Bx} {l : List W} {c : Nat}
end
end L2.DL
namespace K2
open L2 L2.DL K1
section
variable {h : D} {rs : List Int} {hold : Int} 
theorem OI (H:K7 h rs hold) {f:List W->List Bx->O W}(hf:∀ d lo hi bx,f [.d d,.d (.int lo),.d (.int hi)] bx=.val (.d (.bl (wi d lo hi))) bx) (r:D) (e1:dV i env bx=.val (.d h) bx) (e2:dV j env bx=.val (.d r) bx) :
 fj f 3 (fb (dV j) (fb (dC (.int 0)) (fb (d2 false en (dN false az (fb (d2 false av (dV i) (dC (.int 0))) fe)) (dC (.int 1))) fe))) env bx=.val (.d (.bl (wi r 0 ((rs.length:Int)-1)))) bx:=by
 obtain⟨⟨k,p,rfl⟩,_⟩:=H;have e0:av (.tup [.tup (rs.map D.int),k,p,.int hold]) (.int 0)=some (.old (.tup (rs.map D.int))):=by simp[av,bc,b9]
 have el:az [.tup (rs.map D.int)]=some (.old (.int rs.length)):=by simp[az]
 exact fK (fg e2 (fg rfl (fg (fL (r:=.old _) (iq [.tup (rs.map D.int)] (fg (fL e1 rfl e0) rfl) el) rfl rfl) rfl))) rfl (hf _ _ _ _)
theorem Ju (H:K7 h rs hold) (r:D):gn [.d h,.d r] bx=.val (.d (.bl (wi r 0 ((rs.length:Int)-1)))) bx :=
 gR (gN (OI H iV r rfl rfl))
end
end K2
namespace K1
open L2 L2.DL
section
variable {p : Int} {x y : Bx} {E : List Bx}
theorem lB (h:n<bx.length):pt bx n p++E=pt (bx++E) n p:=by
 unfold pt;rw[HH _ _ h]
theorem jt (h:n<bx.length):(pt (bx++[x]) n p)[bx.length]?=some x:=by
 rw[<-lB h,<-jc (bx:=bx) (n:=n) (p:=p)];exact HJ
theorem mN (h:n<bx.length):(pt (bx++[x]) n p).set bx.length y=pt (bx++[y]) n p:=by
 rw[<-lB h,<-lB h,<-jc (bx:=bx) (n:=n) (p:=p),ue _ _ (aq _),k8];rfl
theorem CV (h:n<bx.length):(pt (bx++E) n p).take bx.length=pt bx n p:=by
 rw[<-lB h,<-jc (bx:=bx) (n:=n) (p:=p),zm]
end
theorem OJ (h:n<bx.length) (p k:Int) (hk:0<k) (uS:k<1073741824):∃ r q,ff [.b n,.d (.int k)] (pt bx n p)=.val (.d (.int r)) (pt bx n q) /\ 0<=r /\ r<k :=
 ⟨_,_,OD h p k hk uS,Me p hk,Mf p hk⟩
end K1
namespace K2
open L2 L2.DL K1
end K2
namespace aH
open L2 L2.DL K1
theorem jY (h:n<bx.length) {p p1:Int}(he:env[i]?=some (xB n)) {k:Int}(hm:m env (pt bx n p)=.val (.d (.int k)) (pt bx n p1)) (h0:0<k) (h1:k<1073741824) :
 ∃ r q,fj K1.ff 2 (fb (dV i) (fb m fe)) env (pt bx n p)=.val (.d (.int r)) (pt bx n q) /\ 0<=r /\ r<k:=by
 obtain⟨r,q,t,a,b⟩:=OJ h p1 k h0 h1;refine⟨r,q,?_,a,b⟩;have e0:dV i env (pt bx n p)=.val (.b n) (pt bx n p):=by unfold dV;rw[he]
 exact fK (fg e0 (fg hm rfl)) rfl t
theorem vf (h:n<bx.length) (p:Int) (he:env[i]?=some (xB n)) (k:Int) (h0:0<k) (h1:k<1073741824) :
 ∃ r q,fj K1.ff 2 (fb (dV i) (fb (dC (.int k)) fe)) env (pt bx n p)=.val (.d (.int r)) (pt bx n q) /\ 0<=r /\ r<k :=
 jY h he (m:=dC (.int k)) rfl h0 h1
theorem BP (h:n<bx.length) (p:Int) (he:env[i]?=some (xB n)) (l:List Int) (hk:∀ e b,ks e b=.val ((l.map D.int).map W.d) b) {k:Int}(hl:(l.length:Int)=k) (h0:0<k) (h1:k<1000) :
 ∃ v q,d2 false av (f7 false ks) (fj K1.ff 2 (fb (dV i) (fb (dC (.int k)) fe))) env (pt bx n p)=.val (.d (.int v)) (pt bx n q) /\ v∈l:=by
 obtain⟨r,q,t,a,b⟩:=vf h p he k h0 (by omega);obtain⟨d,e,m⟩:=OE (l:=l.map D.int) a (by rw[aA,hl];exact b);obtain⟨v,mv,rfl⟩:=a6.mp m;have sz:=bp;exact⟨v,q,fL (r:=.old (.int v)) (Aw (l.map D.int) (hk _ _) (by rw[aA];omega)) t (by simp only[av,e,kN]),mv⟩
theorem BQ (h:m env bx=.val (.b j) bx1) (g:bx1[j]?=some (.lst l)):dN false az (fb m fe) env bx=.val (.d (.int l.length)) bx1:=by
 rw[CL,fg (w:=.b j) (l:=[]) h rfl,fI];have:dn bx1 [.b j]=some [.lst l]:=by simp only[dn,aJ,g,ba,kN]
 rw[this];rfl
theorem Mq (h:m env bx=.val (.b j) bx1) (g:bx1[j]?=some (.lst l)):dN false kH (fb m fe) env bx=.val (.d (.tup l)) bx1:=by
 rw[CL,fg (w:=.b j) (l:=[]) h rfl,fI];have:dn bx1 [.b j]=some [.lst l]:=by simp only[dn,aJ,g,ba,kN]
 rw[this];rfl
theorem Bq {p:Int}(h:j≠n):(pt bx n p)[j]?=bx[j]?:=by unfold pt;rw[pC (Ne.symm h)]
abbrev adj:DE W:=dN false kH (fb (fA false [none,some 0] (bC (fb (d2 false fM (dC (.int 1)) (fj K1.ff 2 (fb (dV 0) (fb (dC (.int 5)) fe)))) fe)) (fc 0) fw (fj K1.ff 2 (fb (dV 1) (fb (dC (.int 4)) fe)))) fe)
theorem OK (h:n<bx.length) (p:Int) (env:aI):∃ ds q,rooms (.tup ds)=true /\ adj (xB n::env) (pt bx n p)=.val (.d (.tup ds)) (pt bx n q):=by
 have sz:=bp;obtain⟨r,q0,t5,lo,hi⟩:=vf h p (env:=xB n::env) (i:=0) rfl 5 (by decide) (by decide);obtain⟨j,rfl⟩:=vM lo
 obtain⟨ds,q,e1,e2,e3⟩:=oR (g:=fc 0) (te:=fj K1.ff 2 (fb (dV 1) (fb (dC (.int 4)) fe))) (λe=>∃ w,e=[w,xB n]) (λd=>wi d 0 3=true) (bx:=bx) (n:=n) (fE 0 (1+j)) [none,xB n] q0 [] ⟨none,rfl⟩ (by
  intro w _ env p ⟨w0,je⟩;obtain⟨r,q,t,b1,b2⟩:=vf h p (env:=[some w,xB n]) (i:=1) rfl 4 (by decide) (by decide);exact⟨[some w,xB n],by simp[je],⟨_,rfl⟩,.int r,q,t,by simp[wi];omega⟩) (by simp[fE];omega)
 have n5:ds.length=1+j:=by rw[e2];simp[fE]
 refine⟨ds,q,?_,?_⟩
 ·have a1:tl (.tup ds) 1 5=true:=by simp[tl];omega
  have a2:(ds.all λx=>wi x 0 3)=true:=cA.mpr e3;simp[rooms,a1,a2]
 ·have rg:bC (fb (d2 false fM (dC (.int 1)) (fj K1.ff 2 (fb (dV 0) (fb (dC (.int 5)) fe)))) fe) (xB n::env) (pt bx n p)=.val (fE 0 (1+j)) (pt bx n q0):=by
   have a:=fg (ks:=fe) (fL (g:=fM) (r:=.old (.int (1+(j:Int)))) (m:=dC (.int 1)) rfl t5 rfl) rfl;rw[iF a (by omega),show (1+(j:Int)).toNat=1+j by omega]
  rw[uf]at e1;exact iq (r:=.tup ds) [.lst ds] (fg (iI rg rfl e1) rfl) rfl
abbrev K8:aj:=fu (fH (dN false nE (fb (fA false [none,some 0] (bC (fb (dC (.int 4)) fe)) (fc 0) fw (fj K1.ff 2 (fb (dV 1) (fb (d2 false av (f7 false (fb (dC (.int 2)) (fb (dC (.int 4)) (fb (dC (.int 10)) fe)))) (fj K1.ff 2 (fb (dV 1) (fb (dC (.int 3)) fe)))) fe)))) fe)) (fc 4)) (fV (n8 (dV 2) (gC (fb (d2 false av (f7 false (fb (dC (.int 5)) (fb (dC (.int 40)) (fb (dC (.int 300)) (fb (dC (.int 999)) fe))))) (fj K1.ff 2 (fb (dV 0) (fb (dC (.int 4)) fe)))) (fb (dN false kH (fb (uM false (dV 4)) fe)) fe)))))
theorem OL (h:n<bx.length) (p:Int) (ks:List D) (hl:ks.length<=1000) (x1 x3 x4 x5 x6 x7:Option W) :
 ∃ k x q,K8 [xB n,x1,xB bx.length,x3,x4,x5,x6,x7] (pt (bx++[.lst ks]) n p)=.nx [xB n,x1,xB bx.length,x3,x,x5,x6,x7] (pt (bx++[.lst (ks++[k])]) n q) /\ kind k=true:=by
 have sz:=bp;have h1:n<(bx++[Bx.lst ks]).length:=by simp;omega
 obtain⟨ds,q,e1,e2,e3⟩:=oR (g:=fc 0) (te:=fj K1.ff 2 (fb (dV 1) (fb (d2 false av (f7 false (fb (dC (.int 2)) (fb (dC (.int 4)) (fb (dC (.int 10)) fe)))) (fj K1.ff 2 (fb (dV 1) (fb (dC (.int 3)) fe)))) fe))) (λe=>∃ w,e=[w,xB n]) digit (bx:=bx++[Bx.lst ks]) (n:=n) (fE 0 4) [none,xB n] p [] ⟨none,rfl⟩ (by
  intro w _ env p ⟨w0,je⟩;refine⟨[some w,xB n],by simp[je],⟨_,rfl⟩,?_⟩;obtain⟨v,q,t,mv⟩:=BP h1 p (env:=[some w,xB n]) (i:=1) rfl [2,4,10] (λ_ _=>rfl) (k:=3) rfl (by decide) (by decide);have hv:0<v /\ v<=10:=by simp at mv;omega
  obtain⟨r,q2,t2,b1,b2⟩:=jY h1 (env:=[some w,xB n]) (i:=1) rfl t hv.1 (by omega);exact⟨.int r,q2,t2,r,rfl,b1,by omega⟩) (by simp[fE];omega)
 obtain⟨ns,rfl,cc⟩:=Bp e3;have n4:ns.length=4:=by
  rw[aA]at e2;rw[e2];simp[fE]
 have so:nE [.lst (ns.map D.int)]=some (.lst ((sortI ns).map D.int)):=by simp[nE,yf,K1.io,n4]
 have rr:=Mh n4 cc;have rg:∀ env bx,bC (fb (dC (.int 4)) fe) env bx=.val (fE 0 4) bx:=λenv bx=>iF (j:=4) (bx1:=bx) (by simp) (by decide);rw[uf]at e1;generalize hS:(sortI ns).map D.int=S at so rr;obtain⟨v,q2,t4,mv⟩:=BP h1 q (env:=[xB n,x1,xB bx.length,x3,some (.d (.lst S)),x5,x6,x7]) (i:=0) rfl [5,40,300,999] (ks:=fb (dC (.int 5)) (fb (dC (.int 40)) (fb (dC (.int 300)) (fb (dC (.int 999)) fe)))) (λ_ _=>rfl) (k:=4) rfl (by decide) (by decide);have hv:wi (.int v) 1 999=true:=by simp at mv;simp[wi];omega
 refine⟨.tup [.int v,.tup S.reverse],some (.d (.lst S)),q2,?_,by simp[kind,tl,hv,rr]⟩;have b1:=jt (p:=q) (x:=.lst ks) h;have b2:=jt (p:=q2) (x:=.lst ks) h;have s1:fH (dN false nE (fb (fA false [none,some 0] (bC (fb (dC (.int 4)) fe)) (fc 0) fw (fj K1.ff 2 (fb (dV 1) (fb (d2 false av (f7 false (fb (dC (.int 2)) (fb (dC (.int 4)) (fb (dC (.int 10)) fe)))) (fj K1.ff 2 (fb (dV 1) (fb (dC (.int 3)) fe)))) fe)))) fe)) (fc 4) [xB n,x1,xB bx.length,x3,x4,x5,x6,x7] (pt (bx++[.lst ks]) n p)=.nx [xB n,x1,xB bx.length,x3,some (.d (.lst S)),x5,x6,x7] (pt (bx++[.lst ks]) n q):=
  fW (iq (r:=.lst S) [.lst (ns.map D.int)] (fg (iI (rg _ _) rfl e1) rfl) so)
 have tv:gC (fb (d2 false av (f7 false (fb (dC (.int 5)) (fb (dC (.int 40)) (fb (dC (.int 300)) (fb (dC (.int 999)) fe))))) (fj K1.ff 2 (fb (dV 0) (fb (dC (.int 4)) fe)))) (fb (dN false kH (fb (uM false (dV 4)) fe)) fe)) [xB n,x1,xB bx.length,x3,some (.d (.lst S)),x5,x6,x7] (pt (bx++[.lst ks]) n q)=.val (.d (.tup [.int v,.tup S.reverse])) (pt (bx++[.lst ks]) n q2):=by
  generalize pt (bx++[.lst ks]) n q=B at t4 ⊢;generalize pt (bx++[.lst ks]) n q2=B' at t4 ⊢;have r1:uM false (dV 4) [xB n,x1,xB bx.length,x3,some (.d (.lst S)),x5,x6,x7] B'=.val (.d (.lst S.reverse)) B':=rfl;exact iL [.int v,.tup S.reverse] (fg t4 (fg (iq (r:=.tup S.reverse) [.lst S.reverse] (fg r1 rfl) rfl) rfl)) (show (2:Nat)<=sizeLine by omega)
 have ap:=Mk (m:=dV 2) (env:=[xB n,x1,xB bx.length,x3,some (.d (.lst S)),x5,x6,x7]) rfl b1 tv b2 (by omega);rw[mN h]at ap;exact(fq s1).trans (gH ap)
theorem CW:∀ {ps:List (Int×Int)}{x:Int×Int},incr ps=true->(∀ q∈ps,qX q x=true)->incr (ps++[x])=true
 |[],_,_,_=>rfl
 |[p],x,_,h=>by simp[incr,h p (by simp)]
 | p::q::r,x,h,hx=>by
   simp only[incr,aE]at h;have ih:=CW (ps:=q::r) (x:=x) h.2 (λz m=>hx z (bS _ m));show (qX p q&&incr (q::(r++[x])))=true;rw[h.1];exact ih
theorem SX {q x:Int×Int}(h:q.1<x.1 \/ (q.1=x.1 /\ q.2<x.2)):qX q x=true:=by
 unfold qX;simp only[HT.fR,HT.lT];split
 ·split
  ·omega
  ·rw[decide_eq_true_eq];omega
 ·rw[decide_eq_true_eq];omega
structure Up (ps:List (Int×Int)) (k:Nat) (a b:Int):Prop where
 i:incr ps=true
 bd:∀ q∈ps,0<=q.1 /\ q.1<q.2 /\ q.2<(k:Int)
 u:∀ q∈ps,q.1<a \/ (q.1=a /\ q.2<b)
theorem Up.push {k:Nat}{a b:Int}(h:Up ps k a b) (h0:0<=a) (h1:a<b) (h2:b<(k:Int)):Up (ps++[(a,b)]) k a (b+1):=by
 refine⟨CW h.i λq m=>SX (h.u q m),λq m=>?_,λq m=>?_⟩
 ·rcases bN.mp m with m|m
  ·exact h.bd q m
  ·rw[a8.mp m];exact⟨h0,h1,h2⟩
 ·rcases bN.mp m with m|m
  ·have:=h.u q m;omega
  ·rw[a8.mp m];exact .inr ⟨rfl,by show b<b+1;omega⟩
theorem Up.next {k:Nat}{a b:Int}(h:Up ps k a b):Up ps k a (b+1):=⟨h.i,h.bd,λq m=>by have:=h.u q m;omega⟩
theorem Up.row {k:Nat}{a b c:Int}(h:Up ps k a b):Up ps k (a+1) c:=⟨h.i,h.bd,λq m=>by have:=h.u q m;omega⟩
abbrev yG:aj:=bh (dB (d2 false dt (fj K1.ff 2 (fb (dV 0) (fb (dC (.int 3)) fe))) (dC (.int 0)))) (fV (n8 (dV 5) (gC (fb (dV 6) (fb (dV 7) fe))))) bf
theorem CY {a b:Int}:dt (.int a) (.int b)=some (.old (.bl (decide (a=b)))):=by simp[dt]
theorem OM (h:n<bx.length) (p:Int) (ps:List (Int×Int)) (hl:ps.length<=1000) (a b:Int) (x1 x2 x3 x4:Option W) :
 ∃ bF q,yG [xB n,x1,x2,x3,x4,xB bx.length,xN a,xN b] (pt (bx++[.lst (ps.map dP)]) n p)=.nx [xB n,x1,x2,x3,x4,xB bx.length,xN a,xN b] (pt (bx++[.lst (bF.map dP)]) n q) /\ (bF=ps \/ bF=ps++[(a,b)]):=by
 have sz:=bp;have h1:n<(bx++[Bx.lst (ps.map dP)]).length:=by simp;omega
 obtain⟨r,q,t,b1,b2⟩:=vf h1 p (env:=[xB n,x1,x2,x3,x4,xB bx.length,xN a,xN b]) (i:=0) rfl 3 (by decide) (by decide);have bg:=jt (p:=q) (x:=.lst (ps.map dP)) h;by_cases hr:r=0
 ·refine⟨ps++[(a,b)],q,?_,.inr rfl⟩;have c:dB (d2 false dt (fj K1.ff 2 (fb (dV 0) (fb (dC (.int 3)) fe))) (dC (.int 0))) [xB n,x1,x2,x3,x4,xB bx.length,xN a,xN b] (pt (bx++[.lst (ps.map dP)]) n p)=.val true (pt (bx++[.lst (ps.map dP)]) n q):=by
   refine gu (b:=true) (fL (r:=.old (.bl true)) t rfl ?_);rw[CY,hr];rfl
  have ap:=Mk (m:=dV 5) (k:=gC (fb (dV 6) (fb (dV 7) fe))) (env:=[xB n,x1,x2,x3,x4,xB bx.length,xN a,xN b]) (d:=dP (a,b)) rfl bg (iL [.int a,.int b] rfl (show (2:Nat)<=sizeLine by omega)) bg (by rw[aA];omega);rw[mN h,show ps.map dP++[dP (a,b)]=(ps++[(a,b)]).map dP by simp]at ap;exact(BN c).trans (gH ap)
 ·refine⟨ps,q,?_,.inl rfl⟩;have c:dB (d2 false dt (fj K1.ff 2 (fb (dV 0) (fb (dC (.int 3)) fe))) (dC (.int 0))) [xB n,x1,x2,x3,x4,xB bx.length,xN a,xN b] (pt (bx++[.lst (ps.map dP)]) n p)=.val false (pt (bx++[.lst (ps.map dP)]) n q):=by
   refine gu (b:=false) (fL (r:=.old (.bl false)) t rfl ?_);rw[CY,decide_eq_false hr]
  exact jX c
theorem jd {lo:Int}{m:Nat}{w:W}(h:(fE lo m)[j]?=some w):w=.d (.int (lo+j)) /\ j<m:=by
 have hj:=(List.getElem?_eq_some_iff.mp h).1;have hm:j<m:=by simpa[fE] using hj
 simp[fE,hm]at h;exact⟨h.symm,hm⟩
theorem ON (h:n<bx.length) (p:Int) (ps:List (Int×Int)) (k a:Nat) (hk:k<=4) (hl:ps.length<=4*a) (ha:a<k) (U:Up ps k a (a+1)) (x1 x2 x3 x4 w7:Option W) :
 ∃ bF q w',dI (fc 7) yG (fE ((a:Int)+1) (k-(a+1))) [xB n,x1,x2,x3,x4,xB bx.length,xN a,w7] (pt (bx++[.lst (ps.map dP)]) n p)=.nx [xB n,x1,x2,x3,x4,xB bx.length,xN a,w'] (pt (bx++[.lst (bF.map dP)]) n q) /\ bF.length<=4*(a+1) /\ Up bF k ((a+1:Nat):Int) ((a+1:Nat)+1):=by
 obtain⟨ax,bx',e,bF,q,w',rfl,rfl,U',l'⟩:=jr (g:=fc 7) (body:=yG) (λj env bb=>∃ bF q w',env=[xB n,x1,x2,x3,x4,xB bx.length,xN a,w'] /\ bb=pt (bx++[.lst (bF.map dP)]) n q /\ Up bF k a ((a:Int)+1+(j:Nat)) /\ bF.length<=4*a+j) (fE ((a:Int)+1) (k-(a+1))) 0 _ _ ⟨ps,p,w7,rfl,rfl,by simpa using U,by omega⟩ (by
  rintro j w env bb hw ⟨bF,q,w',rfl,rfl,U',l'⟩;rw[qh]at U' l' ⊢;obtain⟨rfl,hj⟩:=jd hw;obtain⟨adk,q2,e2,c⟩:=OM h q bF (by omega) (a:Int) ((a:Int)+1+(j:Nat)) x1 x2 x3 x4;refine⟨_,_,_,_,rfl,e2,adk,q2,_,rfl,rfl,?_,?_⟩
  ·rw[show ((a:Int)+1+((j+1:Nat):Int))=(a:Int)+1+(j:Nat)+1 by omega];rcases c with rfl|rfl
   ·exact U'.next
   ·exact U'.push (by omega) (by omega) (by omega)
  ·rcases c with rfl|rfl
   ·omega
   ·simp;omega)
 have lr:(fE ((a:Int)+1) (k-(a+1))).length=k-(a+1):=by simp[fE]
 rw[lr]at l';refine⟨bF,q,w',e,by omega,?_⟩;have:=U'.row (c:=((a+1:Nat):Int)+1)
 push_cast at this ⊢
 exact this
abbrev adl:aj:=iC (bC (fb (dN false az (fb (dV 2) fe)) fe)) (fc 6) (iC (qM (fb (d2 false fM (dV 6) (dC (.int 1))) (fb (dN false az (fb (dV 2) fe)) fe))) (fc 7) yG)
theorem SY (h:n<bx.length) (p:Int) (ks:List D) (hk:ks.length<=4) (x1 x3 x4:Option W) :
 ∃ ps q w6 w7,adl [xB n,x1,xB bx.length,x3,x4,some (.b (bx++[Bx.lst ks]).length),none,none] (pt (bx++[.lst ks]++[.lst []]) n p)=.nx [xB n,x1,xB bx.length,x3,x4,some (.b (bx++[Bx.lst ks]).length),w6,w7] (pt (bx++[.lst ks]++[.lst (ps.map dP)]) n q) /\ ps.length<=16 /\ incr ps=true /\ ∀ q∈ps,0<=q.1 /\ q.1<q.2 /\ q.2<(ks.length:Int):=by
 have h1:n<(bx++[Bx.lst ks]).length:=by simp;omega
 have gk:∀ (q:Int) (l:List D),(pt (bx++[.lst ks]++[.lst l]) n q)[bx.length]?=some (.lst ks):=λq l=>by
  rw[Bq (by omega)];simp
 have rg:bC (fb (dN false az (fb (dV 2) fe)) fe) [xB n,x1,xB bx.length,x3,x4,some (.b (bx++[Bx.lst ks]).length),none,none] (pt (bx++[.lst ks]++[.lst []]) n p)=.val (fE 0 ks.length) (pt (bx++[.lst ks]++[.lst []]) n p):=by
  have g:=gk p [];generalize pt (bx++[.lst ks]++[.lst []]) n p=B at g ⊢;rw[iF (fg (BQ (m:=dV 2) rfl g) rfl) (by omega),cX]
 obtain⟨ax,bx',e,ps,q,w6,w7,rfl,rfl,l,U⟩:=jr (g:=fc 6) (body:=iC (qM (fb (d2 false fM (dV 6) (dC (.int 1))) (fb (dN false az (fb (dV 2) fe)) fe))) (fc 7) yG) (λa env bb=>∃ ps q w6 w7,env=[xB n,x1,xB bx.length,x3,x4,some (.b (bx++[Bx.lst ks]).length),w6,w7] /\ bb=pt (bx++[.lst ks]++[.lst (ps.map dP)]) n q /\ ps.length<=4*a /\ Up ps ks.length (a:Nat) ((a:Nat)+1)) (fE 0 ks.length) 0 _ _ ⟨[],p,none,none,rfl,rfl,by simp,⟨rfl,by simp,by simp⟩⟩ (by
  rintro a w env bb hw ⟨ps,q,w6,w7,rfl,rfl,l,U⟩;rw[qh]at l U ⊢;obtain⟨rfl,ha⟩:=jd hw;rw[Ib];obtain⟨bF,q',w',e',l',U'⟩:=ON h1 q ps ks.length a hk l ha U x1 (xB bx.length) x3 x4 w7;refine⟨_,_,[xB n,x1,xB bx.length,x3,x4,some (.b (bx++[Bx.lst ks]).length),xN a,w'],pt (bx++[.lst ks]++[.lst (bF.map dP)]) n q',rfl,?_,bF,q',xN a,w',rfl,rfl,l',U'⟩;have g:=gk q (ps.map dP);generalize pt (bx++[.lst ks]++[.lst (bF.map dP)]) n q'=B' at e' ⊢;generalize pt (bx++[.lst ks]++[.lst (ps.map dP)]) n q=B at g e' ⊢;have r2:qM (fb (d2 false fM (dV 6) (dC (.int 1))) (fb (dN false az (fb (dV 2) fe)) fe)) [xB n,x1,xB bx.length,x3,x4,some (.b (bx++[Bx.lst ks]).length),xN a,w7] B=.val (fE ((a:Int)+1) (ks.length-(a+1))) B:=by
   have c1:=fg (env:=[xB n,x1,xB bx.length,x3,x4,some (.b (bx++[Bx.lst ks]).length),xN a,w7]) (fL (g:=fM) (r:=.old (.int ((a:Int)+1))) (m:=dV 6) (k:=dC (.int 1)) rfl rfl rfl) (fg (ks:=fe) (BQ (m:=dV 2) rfl g) rfl);rw[Mb c1 (by omega),show ((ks.length:Int)-((a:Int)+1)).toNat=ks.length-(a+1) by omega]
  exact(jG r2).trans e')
 have lr:(fE 0 ks.length).length=ks.length:=by simp[fE]
 rw[lr,qh]at l U;exact⟨ps,q,w6,w7,(jG rg).trans e,by omega,U.i,U.bd⟩
theorem Mr (h:n<bx.length) (p:Int) (x1:Option W) :
 ∃ ks q x3 x4,iC (bC (fb (d2 false fM (dC (.int 1)) (fj K1.ff 2 (fb (dV 0) (fb (d2 false av (f7 false (fb (dC (.int 1)) (fb (dC (.int 2)) (fb (dC (.int 4)) fe)))) (fj K1.ff 2 (fb (dV 0) (fb (dC (.int 3)) fe)))) fe)))) fe)) (fc 3) K8 [xB n,x1,xB bx.length,none,none,none,none,none] (pt (bx++[.lst []]) n p)=.nx [xB n,x1,xB bx.length,x3,x4,none,none,none] (pt (bx++[.lst ks]) n q) /\ 1<=ks.length /\ ks.length<=4 /\ ∀ k∈ks,kind k=true:=by
 have h1:n<(bx++[Bx.lst []]).length:=by simp;omega
 obtain⟨v,q,t,mv⟩:=BP h1 p (env:=[xB n,x1,xB bx.length,none,none,none,none,none]) (i:=0) rfl [1,2,4] (ks:=fb (dC (.int 1)) (fb (dC (.int 2)) (fb (dC (.int 4)) fe))) (λ_ _=>rfl) (k:=3) rfl (by decide) (by decide);have hv:0<v /\ v<=4:=by simp at mv;omega
 obtain⟨r,q2,t2,b1,b2⟩:=jY h1 (env:=[xB n,x1,xB bx.length,none,none,none,none,none]) (i:=0) rfl t hv.1 (by omega);obtain⟨j,rfl⟩:=vM b1;have rg:bC (fb (d2 false fM (dC (.int 1)) (fj K1.ff 2 (fb (dV 0) (fb (d2 false av (f7 false (fb (dC (.int 1)) (fb (dC (.int 2)) (fb (dC (.int 4)) fe)))) (fj K1.ff 2 (fb (dV 0) (fb (dC (.int 3)) fe)))) fe)))) fe) [xB n,x1,xB bx.length,none,none,none,none,none] (pt (bx++[.lst []]) n p)=.val (fE 0 (1+j)) (pt (bx++[.lst []]) n q2):=by
  have a:=fg (ks:=fe) (fL (g:=fM) (r:=.old (.int (1+(j:Int)))) (m:=dC (.int 1)) rfl t2 rfl) rfl;rw[iF a (by omega),show (1+(j:Int)).toNat=1+j by omega]
 obtain⟨ax,bx',e,ks,q3,x3,x4,rfl,rfl,l,hk⟩:=jr (g:=fc 3) (body:=K8) (λi env bb=>∃ ks q x3 x4,env=[xB n,x1,xB bx.length,x3,x4,none,none,none] /\ bb=pt (bx++[.lst ks]) n q /\ ks.length=i /\ ∀ k∈ks,kind k=true) (fE 0 (1+j)) 0 _ _ ⟨[],q2,none,none,rfl,rfl,rfl,by simp⟩ (by
  rintro i w env bb hw ⟨ks,q,x3,x4,rfl,rfl,l,hk⟩;rw[qh]at l ⊢;obtain⟨rfl,hi⟩:=jd hw;obtain⟨k,x,q',e',zW⟩:=OL h q ks (by omega) x1 (xN (0+(i:Nat))) x4 none none none;refine⟨_,_,[xB n,x1,xB bx.length,xN (0+(i:Nat)),x,none,none,none],_,rfl,e',ks++[k],q',_,x,rfl,rfl,by simp[l],λz m=>?_⟩;rcases bN.mp m with m|m
  ·exact hk z m
  ·rw[a8.mp m];exact zW)
 have lr:(fE 0 (1+j)).length=1+j:=by simp[fE]
 rw[lr,qh]at l;exact⟨ks,q3,x3,x4,(jG rg).trans e,by omega,by omega,hk⟩
theorem SZ (h:n<bx.length) (p:Int) (env:aI):∃ v q,d2 false fM (dC (.int 1)) (fj K1.ff 2 (fb (dV 0) (fb (d2 false av (f7 false (fb (dC (.int 3)) (fb (dC (.int 9)) fe))) (fj K1.ff 2 (fb (dV 0) (fb (dC (.int 2)) fe)))) fe))) (xB n::env) (pt bx n p)=.val (.d (.int v)) (pt bx n q) /\ 1<=v /\ v<=9:=by
 obtain⟨v,q,t,mv⟩:=BP h p (env:=xB n::env) (i:=0) rfl [3,9] (ks:=fb (dC (.int 3)) (fb (dC (.int 9)) fe)) (λ_ _=>rfl) (k:=2) rfl (by decide) (by decide);have hv:0<v /\ v<=9:=by simp at mv;omega
 obtain⟨r,q2,t2,b1,b2⟩:=jY h (env:=xB n::env) (i:=0) rfl t hv.1 (by omega);exact⟨1+r,q2,fL (g:=fM) (r:=.old (.int (1+r))) (m:=dC (.int 1)) rfl t2 rfl,by omega,by omega⟩
structure bQ (d:D) (n:Nat):Prop where
 h:house d=true
 sm:Sm 999 4 111672 d
 ok:K5 d
 rs:∃ rs k a b,d=.tup [.tup rs,k,a,b] /\ rs.length=n
 n0:1<=n
 n5:n<=5
theorem Ms (h:n<bx.length) (p:Int):∃ d k q,im [.b n] (pt bx n p)=.val (.d d) (pt bx n q) /\ bQ d k:=by
 have sz:=bp;obtain⟨rs,q1,hr,e1⟩:=OK h p [none,none,none,none,none,none,none];obtain⟨ks,q2,x3,x4,e2,l1,l4,hk⟩:=Mr h q1 (some (.d (.tup rs)));obtain⟨ps,q3,w6,w7,e3,lp,ip,hb⟩:=SY h q2 ks l4 (some (.d (.tup rs))) x3 x4;have h1:n<(bx++[Bx.lst ks]).length:=by simp;omega
 have h2:n<(bx++[Bx.lst ks]++[Bx.lst (ps.map dP)]).length:=by simp;omega
 obtain⟨v,q4,e4,v1,v9⟩:=SZ h2 q3 [some (.d (.tup rs)),xB bx.length,x3,x4,some (.b (bx++[Bx.lst ks]).length),w6,w7];have rl:1<=(rs.length:Int) /\ (rs.length:Int)<=5:=by
  simp only[rooms,aE]at hr;exact lA hr.1
 have s1:fH (f7 true fe) (fc 2) [xB n,some (.d (.tup rs)),none,none,none,none,none,none] (pt bx n q1)=.nx [xB n,some (.d (.tup rs)),xB bx.length,none,none,none,none,none] (pt (bx++[.lst []]) n q1):=by
  have a:=jW (env:=[xB n,some (.d (.tup rs)),none,none,none,none,none,none]) (ks:=fe) (bx:=pt bx n q1) [] rfl (cG _);rw[lB h,jc]at a;exact fW a
 have s2:fH (f7 true fe) (fc 5) [xB n,some (.d (.tup rs)),xB bx.length,x3,x4,none,none,none] (pt (bx++[.lst ks]) n q2)=.nx [xB n,some (.d (.tup rs)),xB bx.length,x3,x4,some (.b (bx++[Bx.lst ks]).length),none,none] (pt (bx++[.lst ks]++[.lst []]) n q2):=by
  have a:=jW (env:=[xB n,some (.d (.tup rs)),xB bx.length,x3,x4,none,none,none]) (ks:=fe) (bx:=pt (bx++[.lst ks]) n q2) [] rfl (cG _);rw[lB h1,jc]at a;exact fW a
 have gk:∀ q,(pt (bx++[.lst ks]++[.lst (ps.map dP)]) n q)[bx.length]?=some (.lst ks):=λq=>by
  rw[Bq (by omega)];simp
 have gp:=jt (p:=q3) (x:=.lst (ps.map dP)) h1;have Y9:=gk q3;have s3:fO (gC (fb (dV 1) (fb (dN false kH (fb (dV 2) fe)) (fb (dN false kH (fb (dV 5) fe)) (fb (d2 false fM (dC (.int 1)) (fj K1.ff 2 (fb (dV 0) (fb (d2 false av (f7 false (fb (dC (.int 3)) (fb (dC (.int 9)) fe))) (fj K1.ff 2 (fb (dV 0) (fb (dC (.int 2)) fe)))) fe)))) fe))))) [xB n,some (.d (.tup rs)),xB bx.length,x3,x4,some (.b (bx++[Bx.lst ks]).length),w6,w7] (pt (bx++[.lst ks]++[.lst (ps.map dP)]) n q3)=.rt (.d (.tup [.tup rs,.tup ks,.tup (ps.map dP),.int v])) (pt (bx++[.lst ks]++[.lst (ps.map dP)]) n q4):=by
  generalize pt (bx++[.lst ks]++[.lst (ps.map dP)]) n q4=B' at e4 ⊢;generalize pt (bx++[.lst ks]++[.lst (ps.map dP)]) n q3=B at e4 Y9 gp ⊢;exact gN (iL [.tup rs,.tup ks,.tup (ps.map dP),.int v] (fg rfl (fg (Mq (m:=dV 2) rfl Y9) (fg (Mq (m:=dV 5) rfl gp) (fg e4 rfl)))) (show (4:Nat)<=sizeLine by omega))
 have M:lv [xB n,none,none,none,none,none,none,none] (pt bx n p)=.rt (.d (.tup [.tup rs,.tup ks,.tup (ps.map dP),.int v])) (pt (bx++[.lst ks]++[.lst (ps.map dP)]) n q4):=by
  unfold lv;exact(fq (fW e1)).trans ((fq s1).trans ((fq e2).trans ((fq s2).trans ((fq e3).trans s3))))
 refine⟨.tup [.tup rs,.tup ks,.tup (ps.map dP),.int v],rs.length,q4,?_,⟨?_,?_,?_,⟨rs,_,_,_,rfl,rfl⟩,by omega,by omega⟩⟩
 ·refine(BO M).trans ?_;rw[jc,eC,CV h]
 ·have a:apart (ks.length:Int) (.tup (ps.map dP))=true:=by
   have b1:(ps.map dP).all (eL (ks.length:Int))=true:=by
    rw[pE,cA];intro p m;have:=hb p m;simp[eL,tl];omega
   show (((ps.map dP).all (eL (ks.length:Int)))&&incr ((ps.map dP).filterMap toP))=true;rw[FZ,b1,ip];rfl
  have kk:kinds (.tup ks)=true:=by
   have a1:tl (.tup ks) 1 4=true:=by simp[tl];omega
   simp[kinds,a1];exact hk
  have hh:wi (.int v) 1 9=true:=by simp[wi];omega
  simp only[house,lenOf,hr,kk,a,hh,Wm]
 ·have r1:Sm 999 1 9618 (.tup rs):=by
   simp only[rooms,aE]at hr;exact(Sm.tup (bY.of (B:=999) (a:=0) (b:=1921) λx m=>Mi (cA.mp hr.2 x m) (by decide) (by decide))).mono (by decide) (by omega)
  have r2:Sm 999 3 38503 (.tup ks):=
   (Sm.tup (bY.of (B:=999) (a:=2) (b:=9623) λx m=>OH (hk x m))).mono (by decide) (by omega)
  have r3:Sm 999 2 61619 (.tup (ps.map dP)):=by
   have z:=bY.of (B:=999) (a:=1) (b:=3849) (l:=ps.map dP) λx m=>by
    obtain⟨p,mp,rfl⟩:=a6.mp m;exact Uf (hb p mp) l4
   rw[aA]at z;exact(Sm.tup z).mono (by decide) (by omega)
  exact(Sm.tup (bY.cons (r1.mono (by decide) (aq _)) (bY.cons r2 (bY.cons (r3.mono (by decide) (aq _)) (bY.cons (Sm.int (by omega)) bY.nil))))).mono (aq _) (by decide)
 ·show (ps.map dP).length<=sizeLine;rw[aA];omega
section
variable {bx2 : List Bx}
theorem PK {k:DE W}{i:Int}(h:m env bx=.val (.b j) bx1) (hk:k env bx1=.val (.d (.int i)) bx2) (g:bx2[j]?=some (.lst l)) (ha:bc l i=some d):d2 false av m k env bx=.val (.d d) bx2:=by
 rw[Jm,h,fI,hk,fI];have r1:aJ bx2 (.b j)=some (.lst l):=by simp only[aJ,g]
 rw[r1,lV,ba,ba];show bJ false (Option.map Res.old (bc l i)) _=_;rw[ha];rfl
theorem Uj {mo mi:DE W}{k:Int}{w:D}(h1:mo env bx=.val (.b n) bx1) (h2:mi env bx1=.val (.d (.int k)) bx2) (h3:bx2[n]?=some (.lst l)) (h4:b9 l.length k=some j):rT mo mi (.d w) env bx=some (env,bx2.set n (.lst (l.set j w))):=by
 unfold rT;simp only[h1,h2,h3,h4,kN]
theorem PL {g:DG}{w:W}{ax:aI}(h:m env bx=.val w bx1) (hg:g w env bx1=some (ax,bx')):fH m g env bx=.nx ax bx':=by
 rw[L1,h,mh,hg]
theorem Ga {x y:W}{a b:DE W}(h1:a env bx=.val x bx1) (h2:b env bx1=.val y bx2):kU i j (fb a (fb b fe)) env bx=.nx ((env.set i (some x)).set j (some y)) bx2:=by
 unfold kU;rw[fg h1 (fg h2 rfl),mh]
end
theorem CZ {m:Nat}(h:0<m):b9 m (-1)=some (m-1):=by
 unfold b9;simp;omega
theorem adm {l:List (Int×Int)}{z:Int×Int}{t:List (Int×Int)}(h:l=z::t):bc (l.map dP) 0=some (dP z):=by
 subst h;simp[bc,b9]
def Mv (k:Int) (ps:List (Int×Int)):Prop:=∀ q∈ps,0<=q.1 /\ q.1<k /\ 0<=q.2 /\ q.2<k /\ q.1≠q.2
theorem Mt {k a r:Int}(hk:2<=k) (Za:k<=5) (h0:0<=a) (h1:a<k) (h2:0<=r) (h3:r<k-1):0<=(a+1+r) % k /\ (a+1+r) % k<k /\ a≠(a+1+r) % k:=by
 obtain rfl|rfl|rfl|rfl:k=2 \/ k=3 \/ k=4 \/ k=5:=by omega
 all_goals omega
abbrev Zb:aj:=bh (dB (d2 false dt (fj K1.ff 2 (fb (dV 0) (fb (dC (.int 5)) fe))) (dC (.int 0)))) (fH (gC (fb (d2 false av (d2 false av (dV 3) (dC (.int 0))) (dC (.int 1))) (fb (d2 false av (d2 false av (dV 3) (dC (.int 0))) (dC (.int 0))) fe))) (rT (dV 3) (qP (dC (.int 1))))) bf
abbrev Zc:aj:=fu (fH (fj K1.ff 2 (fb (dV 0) (fb (dV 2) fe))) (fc 5)) (fu (fH (d2 false eG (d2 false fM (d2 false fM (dV 5) (dC (.int 1))) (fj K1.ff 2 (fb (dV 0) (fb (d2 false en (dV 2) (dC (.int 1))) fe)))) (dV 2)) (fc 6)) (fu (fV (n8 (dV 3) (gC (fb (dV 5) (fb (dV 6) fe))))) Zb))
theorem S6 (h:n<bx.length) (p k:Int) (ps:List (Int×Int)) (x:Int×Int) (M:Mv k (ps++[x])) (x1 x2 w4 w5 w6:Option W) :
 ∃ y q,Zb [xB n,x1,x2,xB bx.length,w4,w5,w6] (pt (bx++[.lst ((ps++[x]).map dP)]) n p)=.nx [xB n,x1,x2,xB bx.length,w4,w5,w6] (pt (bx++[.lst ((ps++[y]).map dP)]) n q) /\ Mv k (ps++[y]):=by
 have sz:=bp;have h1:n<(bx++[Bx.lst ((ps++[x]).map dP)]).length:=by simp;omega
 obtain⟨r,q,t,b1,b2⟩:=vf h1 p (env:=[xB n,x1,x2,xB bx.length,w4,w5,w6]) (i:=0) rfl 5 (by decide) (by decide);have bg:=jt (p:=q) (x:=.lst ((ps++[x]).map dP)) h;obtain⟨z,tl,hz⟩:∃ z t,ps++[x]=z::t:=by cases ps with|nil=>exact⟨x,[],rfl⟩|cons a l=>exact⟨a,l++[x],rfl⟩
 have mz:z∈ps++[x]:=by rw[hz];exact bZ ..
 by_cases hr:r=0
 ·refine⟨(z.2,z.1),q,?_,λw m=>?_⟩
  ·have c:dB (d2 false dt (fj K1.ff 2 (fb (dV 0) (fb (dC (.int 5)) fe))) (dC (.int 0))) [xB n,x1,x2,xB bx.length,w4,w5,w6] (pt (bx++[.lst ((ps++[x]).map dP)]) n p)=.val true (pt (bx++[.lst ((ps++[x]).map dP)]) n q):=by
    refine gu (b:=true) (fL (r:=.old (.bl true)) t rfl ?_);rw[CY,hr];rfl
   have st:=mN (p:=q) (x:=.lst ((ps++[x]).map dP)) (y:=.lst ((ps++[(z.2,z.1)]).map dP)) h;have a0:=adm hz;have hl:b9 ((ps++[x]).map dP).length (-1)=some ps.length:=by
    rw[CZ (by simp)];simp
   have es:((ps++[x]).map dP).set ps.length (D.tup [.int z.2,.int z.1])=(ps++[(z.2,z.1)]).map dP:=by
    rw[cV,cV,ue _ _ (by simp)];simp
   refine(BN c).trans ?_;generalize pt (bx++[.lst ((ps++[(z.2,z.1)]).map dP)]) n q=B' at st ⊢;generalize pt (bx++[.lst ((ps++[x]).map dP)]) n q=B at bg st ⊢;generalize (ps++[x]).map dP=L at bg a0 hl es;have i0:d2 false av (dV 3) (dC (.int 0)) [xB n,x1,x2,xB bx.length,w4,w5,w6] B=.val (.d (dP z)) B:=PK rfl rfl bg a0;have tv:gC (fb (d2 false av (d2 false av (dV 3) (dC (.int 0))) (dC (.int 1))) (fb (d2 false av (d2 false av (dV 3) (dC (.int 0))) (dC (.int 0))) fe)) [xB n,x1,x2,xB bx.length,w4,w5,w6] B=.val (.d (.tup [.int z.2,.int z.1])) B :=
    iL [.int z.2,.int z.1] (fg (fL (r:=.old (.int z.2)) i0 rfl rfl) (fg (fL (r:=.old (.int z.1)) i0 rfl rfl) rfl)) (show (2:Nat)<=sizeLine by omega)
   have sv:=Uj (env:=[xB n,x1,x2,xB bx.length,w4,w5,w6]) (mo:=dV 3) (mi:=qP (dC (.int 1))) (w:=D.tup [.int z.2,.int z.1]) (bx:=B) (n:=bx.length) rfl (SV rfl) bg hl;rw[es,st]at sv;exact PL tv sv
  ·rcases bN.mp m with m|m
   ·exact M w (bN.mpr (.inl m))
   ·rw[a8.mp m];have:=M z mz;exact⟨this.2.2.1,this.2.2.2.1,this.1,this.2.1,Ne.symm this.2.2.2.2⟩
 ·refine⟨x,q,?_,M⟩;have c:dB (d2 false dt (fj K1.ff 2 (fb (dV 0) (fb (dC (.int 5)) fe))) (dC (.int 0))) [xB n,x1,x2,xB bx.length,w4,w5,w6] (pt (bx++[.lst ((ps++[x]).map dP)]) n p)=.val false (pt (bx++[.lst ((ps++[x]).map dP)]) n q):=by
   refine gu (b:=false) (fL (r:=.old (.bl false)) t rfl ?_);rw[CY,decide_eq_false hr]
  exact jX c
theorem OP (h:n<bx.length) (p k:Int) (hk:2<=k) (Za:k<=5) (ps:List (Int×Int)) (hl:ps.length<=1000) (M:Mv k ps) (x1 w4 w5 w6:Option W) :
 ∃ y q qY kr,Zc [xB n,x1,xN k,xB bx.length,w4,w5,w6] (pt (bx++[.lst (ps.map dP)]) n p)=.nx [xB n,x1,xN k,xB bx.length,w4,qY,kr] (pt (bx++[.lst ((ps++[y]).map dP)]) n q) /\ Mv k (ps++[y]):=by
 have sz:=bp;have h1:n<(bx++[Bx.lst (ps.map dP)]).length:=by simp;omega
 obtain⟨a,q1,t1,a0,a1⟩:=jY h1 (p:=p) (env:=[xB n,x1,xN k,xB bx.length,w4,w5,w6]) (i:=0) (m:=dV 2) (k:=k) rfl rfl (by omega) (by omega);obtain⟨r,q2,t2,b0,b1⟩:=jY h1 (p:=q1) (env:=[xB n,x1,xN k,xB bx.length,w4,xN a,w6]) (i:=0) (m:=d2 false en (dV 2) (dC (.int 1))) (k:=k-1) rfl (fL (r:=.old (.int (k-1))) rfl rfl rfl) (by omega) (by omega);obtain⟨c0,c1,c2⟩:=Mt hk Za a0 a1 b0 b1;have cd:eG (.int (a+1+r)) (.int k)=some (.old (.int ((a+1+r) % k))):=by
  simp[eG];omega
 have bg:=jt (p:=q2) (x:=.lst (ps.map dP)) h;have st:=mN (p:=q2) (x:=.lst (ps.map dP)) (y:=.lst ((ps++[(a,(a+1+r) % k)]).map dP)) h;have M':Mv k (ps++[(a,(a+1+r) % k)]):=λw m=>by
  rcases bN.mp m with m|m
  ·exact M w m
  ·rw[a8.mp m];exact⟨a0,a1,c0,c1,c2⟩
 obtain⟨y,q,e,My⟩:=S6 h q2 k ps _ M' x1 (xN k) w4 (xN a) (xN ((a+1+r) % k));refine⟨y,q,xN a,xN ((a+1+r) % k),?_,My⟩;generalize (a+1+r) % k=b at cd st e ⊢;generalize pt (bx++[.lst ((ps++[y]).map dP)]) n q=B4 at e ⊢;have ap:fV (n8 (dV 3) (gC (fb (dV 5) (fb (dV 6) fe)))) [xB n,x1,xN k,xB bx.length,w4,xN a,xN b] (pt (bx++[.lst (ps.map dP)]) n q2)=.nx [xB n,x1,xN k,xB bx.length,w4,xN a,xN b] (pt (bx++[.lst ((ps++[(a,b)]).map dP)]) n q2):=by
  have ap:=Mk (m:=dV 3) (k:=gC (fb (dV 5) (fb (dV 6) fe))) (env:=[xB n,x1,xN k,xB bx.length,w4,xN a,xN b]) (d:=dP (a,b)) rfl bg (iL [.int a,.int b] rfl (show (2:Nat)<=sizeLine by omega)) bg (by rw[aA];omega);rw[show ps.map dP++[dP (a,b)]=(ps++[(a,b)]).map dP by simp,st]at ap;exact gH ap
 refine Eq.trans ?_ e;generalize pt (bx++[.lst ((ps++[(a,b)]).map dP)]) n q2=B3 at ap ⊢;generalize pt (bx++[.lst (ps.map dP)]) n q2=B2 at t2 ap;generalize pt (bx++[.lst (ps.map dP)]) n q1=B1 at t1 t2;refine(fq (fW t1)).trans ((fq (fW (fL (r:=.old (.int b)) (fL (r:=.old (.int (a+1+r))) (fL (r:=.old (.int (a+1))) rfl rfl rfl) t2 rfl) rfl cd))).trans (fq ap))
end aH
namespace K2
open L2 L2.DL K1
end K2
namespace aH
open L2 L2.DL K1
section
variable {bx2 : List Bx}
theorem Gb {k:DE W}{t:Nat}{i:Int}{l0:List D}(h1:m env bx=.val (.b j) bx1) (g0:bx1[j]?=some (.lst l0)) (h2:k env bx1=.val (.d (.int i)) bx2) (g:bx2[j]?=some (.lst l)) (hi:-(2 ^ 63)<=i /\ i<2 ^ 63) (hx:b9 l.length i=some t) (hd:l[t]?=some d) :
 rX m k env bx=.val (.d d) (bx2.set j (.lst (l.eraseIdx t))):=by
 unfold rX;rw[h1,fI];simp only[g0,h2,fI,g,if_pos hi,hx,hd]
end
theorem BR {m t:Nat}(h:t<m):b9 m (t:Int)=some t:=by
 unfold b9;simp;omega
open K2
theorem jZ {k:DE W}{r:O W}(h:m env bx=.val (.d (.bl true)) bx1) (h2:k env bx1=r):gq m k env bx=r:=by rw[F8 h];exact h2
theorem D7 {k:DE W}(h:m env bx=.val (.d (.bl false)) bx1):gq m k env bx=.val (.d (.bl false)) bx1:=by rw[F8 h];rfl
section
variable {h : D} {k : Nat}
theorem BS (H:bQ h k) (r:D):gn [.d h,.d r] bx=.val (.d (.bl (wi r 0 ((k:Int)-1)))) bx:=by
 obtain⟨rs,hold,HI⟩:=Jt H.h;have e:=Ju (bx:=bx) HI r;obtain⟨ae5,kk,a,b,e1,e2⟩:=H.rs;obtain⟨k',p',e3⟩:=HI.e;rw[e1]at e3;have:rs.length=k:=by
  have:=congrArg (λd=>match d with|D.tup (.tup l::_)=>l.length|_=>0) e3;simp at this;omega
 rw[this]at e;exact e
theorem Jv (H:bQ h k) {q:Int×Int}(hq:0<=q.1 /\ q.1<(k:Int) /\ 0<=q.2 /\ q.2<(k:Int) /\ q.1≠q.2):ja [.d h,.d (dP q)] bx=.val (.d (.bl true)) bx:=by
 have sz:=bp;refine gR ?_;have t:=fP (dP q) 2 2 bx;have tt:tl (dP q) 2 2=true:=by simp[tl]
 rw[tt]at t;have ca:bG (fc 0) fw (fj K2.gn 2 (fb (dV 1) (fb (dV 0) fe))) ([D.int q.1,.int q.2].map W.d) [none,some (.d h)] bx []=.val ([D.int q.1,.int q.2].map λd=>.bl (wi d 0 ((k:Int)-1))) bx :=
  gX (λe=>∃ w,e=[w,some (.d h)]) _ ⟨none,rfl⟩ (by
   rintro d m env ⟨w,rfl⟩;exact⟨[some (.d d),some (.d h)],rfl,⟨_,rfl⟩,fK (fg rfl (fg rfl rfl)) rfl (BS H d)⟩) (show (2:Nat)<=sizeLine by omega)
 have al:([D.int q.1,.int q.2].all λd=>wi d 0 ((k:Int)-1))=true:=by simp[wi];omega
 have a2:dN false bP (fb (fA false [none,some 0] (ay (dV 1)) (fc 0) fw (fj K2.gn 2 (fb (dV 1) (fb (dV 0) fe)))) fe) [some (.d h),some (.d (dP q))] bx=.val (.d (.bl true)) bx :=
  iq (r:=.old (.bl true)) [.lst ([D.int q.1,.int q.2].map λd=>.bl (wi d 0 ((k:Int)-1)))] (fg (iI (oT rfl) rfl ca) rfl) (by rw[all_map,al])
 have a3:d2 false c9 (d2 false av (dV 1) (dC (.int 0))) (d2 false av (dV 1) (dC (.int 1))) [some (.d h),some (.d (dP q))] bx=.val (.d (.bl true)) bx :=
  fL (r:=.old (.bl true)) (fL (r:=.old (.int q.1)) rfl rfl rfl) (fL (r:=.old (.int q.2)) rfl rfl rfl) (by simp[c9,hq.2.2.2.2])
 show og [some (.d h),some (.d (dP q))] bx=_;unfold og;exact gN (jZ (fK (fg rfl (fg rfl (fg rfl rfl))) rfl t) (jZ a2 a3))
theorem C0 (H:bQ h k) (M:Mv k ps) (hl:ps.length<=10):jT [.d h,.d (.lst (ps.map dP))] bx=.val (.d (.bl true)) bx:=by
 have sz:=bp;refine gR ?_;have ca:bG (fc 0) fw (fj aH.ja 2 (fb (dV 1) (fb (dV 0) fe))) ((ps.map dP).map W.d) [none,some (.d h)] bx []=.val ((ps.map dP).map λd=>.bl true) bx :=
  gX (λe=>∃ w,e=[w,some (.d h)]) _ ⟨none,rfl⟩ (by
   rintro d m env ⟨w,rfl⟩;obtain⟨q,mq,rfl⟩:=a6.mp m;exact⟨[some (.d (dP q)),some (.d h)],rfl,⟨_,rfl⟩,fK (fg rfl (fg rfl rfl)) rfl (Jv H (M q mq))⟩) (by rw[aA];omega)
 have a1:iM "list" (dV 1) [some (.d h),xP ps] bx=.val (.d (.bl true)) bx:=rfl;have a2:d2 false nD (dN false az (fb (dV 1) fe)) (dC (.int 10)) [some (.d h),xP ps] bx=.val (.d (.bl true)) bx :=
  fL (r:=.old (.bl true)) (iq (r:=.old (.int ((ps.map dP).length:Nat))) [.lst (ps.map dP)] (fg rfl rfl) rfl) rfl (by simp[nD];omega)
 have a3:dN false bP (fb (fA false [none,some 0] (ay (dV 1)) (fc 0) fw (fj aH.ja 2 (fb (dV 1) (fb (dV 0) fe)))) fe) [some (.d h),xP ps] bx=.val (.d (.bl true)) bx :=
  iq (r:=.old (.bl true)) [.lst ((ps.map dP).map λd=>.bl true)] (fg (iI (f8 rfl) rfl ca) rfl) (by rw[all_map (p:=λ_=>true)];simp)
 show lw [some (.d h),xP ps] bx=_;unfold lw;exact gN (jZ a1 (jZ a2 a3))
theorem BT (H:bQ h k):aH.jz [.d h] bx=.val (.d .non) bx:=by
 have e:=Md h H.ok bx;rw[H.h]at e;have m:aH.iQ [some (.d h)] bx=.nx [some (.d h)] bx:=by
  unfold aH.iQ;exact jX (jA (gu (fK (fg rfl rfl) rfl e)))
 show ed bx.length (dZ (aG aH.iQ [some (.d h)] bx))=_;unfold aG;rw[m];simp[dZ,ed]
theorem j0 (H:bQ h k) (M:Mv k ps) (hl:ps.length<=10):gf [.d h,.d (.lst (ps.map dP))] bx=.val (.d .non) bx:=by
 have e:=BT (bx:=bx) H;have a:=C0 (bx:=bx) H M hl;have m:iR [some (.d h),xP ps] bx=.nx [some (.d h),xP ps] bx:=by
  unfold iR;exact(fq (gH (fK (fg rfl rfl) rfl e))).trans (jX (jA (gu (fK (fg rfl (fg rfl rfl)) rfl a))))
 show ed bx.length (dZ (aG iR [some (.d h),xP ps] bx))=_;unfold aG;rw[m];simp[dZ,ed]
end
noncomputable def rowOne (is:List Int) (q:Int×Int):Bool:=match is.findIdx? (λz=>decide (z=q.1)) with
 |none=>false
 |some i=>(is.drop i).any λz=>decide (z=q.2)
theorem C1 (is:List Int) (b:Int):eK (.int b) (is.map D.int)=is.any λz=>decide (z=b):=by
 unfold eK;rw[Hz];rfl
theorem Br (is:List Int):(is.map D.int).all eJ=true:=by rw[pE];exact cA.mpr λ_ _=>rfl
def vg (ps:List (Int×Int)) (k:Nat) (d:D):Bool:=match d with
 |.lst l=>l.all (λx=>wi x 0 ((k:Int)-1))&&(match intsOf l with|some is=>ps.all (rowOne is)|none=>false)
 |_=>false
theorem BU {lo hi:Int}(h:l.all (λx=>wi x lo hi)=true):∃ is:List Int,l=is.map D.int /\ ∀ i∈is,lo<=i /\ i<=hi:=by
 induction l with
 |nil=>exact⟨[],rfl,λi m=>nomatch m⟩
 | cons x l ih =>
   rw[qj,aE]at h;obtain⟨i,rfl,a,b⟩:=mj h.1;obtain⟨is,rfl,hi⟩:=ih h.2;exact⟨i::is,rfl,λj m=>by
    rcases aO.mp m with rfl|m
    ·exact⟨a,b⟩
    ·exact hi j m⟩
def Ok (d:D):Prop:=match d with|.lst l=>l.length<=1000000|_=>True
end aH
namespace ck
open L2 L2.DL K1 aH
section
variable {enc : α -> D} {r : aI}
theorem Es (p:α->Bool) (f:α->D):∀ (l:List α) (w:Option W) (acc:List D),acc.length+l.length<=sizeLine->(∀ a∈l,tf (some (.d (enc a))::r) bx=.val (p a) bx /\ (p a=true->te (some (.d (enc a))::r) bx=.val (.d (f a)) bx)) ->
 bG (fc 0) tf te ((l.map enc).map W.d) (w::r) bx acc=.val (acc++(l.filter p).map f) bx
 |[],w,acc,_,_=>by simp[bG]
 | a::l,w,acc,n,h=>by
   obtain⟨h1,h2⟩:=h a (bZ ..);rw[a9]at n;have n':acc.length<sizeLine:=by omega
   have e0:fc 0 (W.d (enc a)) (w::r) bx=some (some (W.d (enc a))::r,bx):=rfl;cases c:p a with
   | false =>
     rw[zo (by simp[c]),<-Es p f l (some (W.d (enc a))) acc (by omega) λx m=>h x (bS _ m)];rw[c]at h1;simp only[aQ,bG,e0,h1,Au]
   | true =>
     rw[zp c];have ih:=Es p f l (some (W.d (enc a))) (acc++[f a]) (by simp;omega) λx m=>h x (bS _ m);rw[c]at h1;simp only[aQ,bG,e0,h1,h2 c,Au,if_pos n',ih];simp
theorem wJ {src:List (Option Nat)}{l:List α}(p:α->Bool) (f:α->D) (h1:mi env bx0=.val ((l.map enc).map W.d) bx) (he:cD src env=none::r) (n:l.length<=sizeLine)
 (h:∀ a∈l,tf (some (.d (enc a))::r) bx=.val (p a) bx /\ (p a=true->te (some (.d (enc a))::r) bx=.val (.d (f a)) bx)):fA false src mi (fc 0) tf te env bx0=.val (.d (.lst ((l.filter p).map f))) bx :=
 iI h1 he (by rw[Es p f l none [] (by simpa using n) h];rfl)
theorem wK {src:List (Option Nat)}{l:List α}(f:α->D) (h1:mi env bx0=.val ((l.map enc).map W.d) bx) (he:cD src env=none::r) (n:l.length<=sizeLine)
 (h:∀ a∈l,te (some (.d (enc a))::r) bx=.val (.d (f a)) bx):fA false src mi (fc 0) fw te env bx0=.val (.d (.lst (l.map f))) bx:=by
 have:=wJ (tf:=fw) (λ_=>true) f h1 he n λa m=>⟨rfl,λ_=>h a m⟩
 rwa [List.filter_eq_self.mpr λ_ _=>rfl]at this
theorem Bs (l:List α) (p:α->Bool):nC (l.map λd=>D.bl (p d))=some (l.map p):=by
 induction l with
 |nil=>rfl
 |cons d l ih=>simp[nC,ih]
theorem Et {src:List (Option Nat)}{l:List α}(p:α->Bool) (h1:mi env bx0=.val ((l.map enc).map W.d) bx) (he:cD src env=none::r) (n:l.length<=sizeLine)
 (h:∀ a∈l,te (some (.d (enc a))::r) bx=.val (.d (.bl (p a))) bx):dN false bP (fb (fA false src mi (fc 0) fw te) fe) env bx0=.val (.d (.bl (l.all p))) bx :=
 iq (r:=.old (.bl (l.all p))) [.lst (l.map λa=>.bl (p a))] (fg (wK _ h1 he n h) rfl) (by simp[bP,Bs,pE])
theorem adn {src:List (Option Nat)}{l:List α}(p:α->Bool) (h1:mi env bx0=.val ((l.map enc).map W.d) bx) (he:cD src env=none::r) (n:l.length<=sizeLine)
 (h:∀ a∈l,te (some (.d (enc a))::r) bx=.val (.d (.bl (p a))) bx):dN false wu (fb (fA false src mi (fc 0) fw te) fe) env bx0=.val (.d (.bl (l.any p))) bx :=
 iq (r:=.old (.bl (l.any p))) [.lst (l.map λa=>.bl (p a))] (fg (wK _ h1 he n h) rfl) (by simp[wu,Bs,Hz])
end
noncomputable abbrev tupI (l:List Int):D:=.tup (l.map D.int)
abbrev xU (l:List Int):Option W:=some (.d (tupI l))
theorem Ay:∀ l:List Int,PyData.canLayAll0 (ke (l.map D.int))=true /\ PyData.depthAll (ke (l.map D.int))=0
 |[]=>⟨rfl,rfl⟩
 | i::l=>by
   obtain⟨a,b⟩:=Ay l;simp[ke,toPy,PyData.canLayAll0,PyData.canLay0,PyData.depthAll,PyData.depth,a,b]
theorem C3:∀ l:List (List Int),PyData.canLayAll0 (ke (l.map tupI))=true /\ PyData.depthAll (ke (l.map tupI))<=1
 |[]=>⟨rfl,cG _⟩
 | i::l=>by
   obtain⟨a,b⟩:=C3 l;obtain⟨c,d⟩:=Ay i;simp only[aQ,ke,toPy,PyData.canLayAll0,PyData.canLay0,PyData.depthAll,PyData.depth,a,c,d];exact⟨rfl,by omega⟩
theorem OQ (l:List Int):eI (tupI l)=true:=by
 obtain⟨c,d⟩:=Ay l;simp[eI,toPy,PyData.canLay0,PyData.depth,c,d]
theorem Mu (l:List (List Int)):eI (.lst (l.map tupI))=true:=by
 obtain⟨c,d⟩:=C3 l;unfold eI;simp only[toPy,PyData.canLay0,PyData.depth,c,xm,decide_eq_true_eq];omega
theorem Gc:eI (.lst [])=true:=by decide
theorem D8 (ps:List (Int×Int)):ps.map dP=(ps.map λq=>[q.1,q.2]).map tupI:=by rw[nP];rfl
theorem Mw (a b:Int×Int):eqv (dP a) (dP b)=decide (a=b):=by
 rw[ku];obtain⟨a1,a2⟩:=a;obtain⟨b1,b2⟩:=b;simp[eqv,toPy,ke,PyData.eqv,PyData.eqvAll]
theorem S8 (ps:List (Int×Int)) (q:Int×Int):((ps.map dP).any λz=>eqv z (dP q))=decide (q∈ps):=by
 rw[ku,kM,decide_eq_true_eq];constructor
 ·rintro⟨z,m,e⟩;obtain⟨x,mx,rfl⟩:=a6.mp m;rw[Mw,decide_eq_true_eq]at e;exact e▸mx
 ·intro m;exact⟨dP q,a6.mpr ⟨q,m,rfl⟩,by rw[Mw,decide_eq_true_eq]⟩
theorem Mx (neg:Bool) (q:Int×Int) (ps:List (Int×Int)):inD neg (dP q) (.lst (ps.map dP))=some (.old (.bl (if neg then !decide (q∈ps) else decide (q∈ps)))):=by
 show (if eJ (dP q)=true /\ (ps.map dP).all eJ=true then some (Res.old (.bl (if neg then !eK (dP q) (ps.map dP) else eK (dP q) (ps.map dP)))) else tL neg (dP q) (.lst (ps.map dP)) (ps.map dP))=_;rw[if_neg (λz=>by cases z.1)];unfold tL;rw[show eI (dP q)=true from OQ [q.1,q.2],show eI (.lst (ps.map dP))=true by rw[D8];exact Mu _,S8];rfl
theorem eq_nil (h:eI (.lst l)=true):dt (.lst l) (.lst [])=some (.old (.bl l.isEmpty)):=by
 show uO false (.lst l) (.lst [])=_;unfold uO;rw[h,Gc];cases l<;>simp[eqv,toPy,ke,PyData.eqv,PyData.eqvAll]
theorem Gd (neg:Bool) (is:List Int) (b:Int):inD neg (.int b) (.tup (is.map D.int))=some (.old (.bl (if neg then !decide (b∈is) else decide (b∈is)))):=by
 show (if eJ (.int b)=true /\ (is.map D.int).all eJ=true then some (Res.old (.bl (if neg then !eK (.int b) (is.map D.int) else eK (.int b) (is.map D.int)))) else tL neg _ _ _)=_;rw[if_pos ⟨rfl,Br is⟩,C1];have:(is.any λz=>decide (z=b))=decide (b∈is):=by
  rw[ku];simp
 rw[this]
theorem OR (is:List Int):(HT.dist is).length<=is.length:=Ia _ _
noncomputable def steps (ps:List (Int×Int)) (is:List Int):Bool:=(is.zip (is.drop 1++is.take 1)).all λq=>decide (q∈ps)
def sf (ps:List (Int×Int)) (is:List Int):Bool:=decide ((HT.dist is).length=is.length)&&steps ps is
def sg (ps:List (Int×Int)) (d:D):Bool:=match d with
 |.tup l=>decide (2<=l.length /\ l.length<=5)&&(match intsOf l with|some is=>sf ps is|none=>false)
 |_=>false
theorem ado {P:List α->Prop}(l:List α) (h:2<=l.length /\ l.length<=5) (h2:∀ a b,P [a,b]) (h3:∀ a b c,P [a,b,c]) (h4:∀ a b c d,P [a,b,c,d]) (h5:∀ a b c d e,P [a,b,c,d,e]):P l:=by
 match l,h with
 |[],h=>simp at h
 |[_],h=>simp at h
 |[a,b],_=>exact h2 a b
 |[a,b,c],_=>exact h3 a b c
 |[a,b,c,d],_=>exact h4 a b c d
 |[a,b,c,d,e],_=>exact h5 a b c d e
 |_::_::_::_::_::_::_,h=>simp at h
theorem UZ (is:List Int) (k:Nat) (h:k<is.length):bc (is.map D.int) (k:Int)=some (.int (is.getD k 0)):=by
 simp[bc,b9,h]
theorem Mz (is:List Int) (h:is.length<=5):u5 [.tup (is.map D.int)]=some (.old (.int (HT.dist is).length)):=by
 show ((intsOf (is.map D.int)).bind λns=>if ns.length<4000 then some (Res.old (.int (HT.dist ns).length)) else none)=_;rw[K1.io,ba,if_pos (by omega)]
theorem C4:∀ (a b:List Int),kh (a.map D.int) (b.map D.int)=((a.zip b).map dP).map W.d
 |[],_=>rfl
 |_::_,[]=>rfl
 | x::a,y::b=>by
   show W.d (.tup [.int x,.int y])::kh (a.map D.int) (b.map D.int)=_;rw[C4 a b];rfl
theorem MA {k:Nat}(M:Mv k ps) (h:2<=is.length) (hs:steps ps is=true):∀ i∈is,0<=i /\ i<(k:Int):=by
 intro i mi;have e:(is.zip (is.drop 1++is.take 1)).map Prod.fst=is:=List.map_fst_zip (by simp;omega);rw[<-e]at mi;obtain⟨q,mq,rfl⟩:=a6.mp mi;have:=of_decide_eq_true (cA.mp hs q mq);have:=M q this;omega
theorem MB (l:List D):tl (.tup l) 2 5=decide (2<=l.length /\ l.length<=5):=by
 rw[ku];simp[tl];omega
theorem Jw {h:D}{k:Nat}(H:bQ h k) (M:Mv k ps) (d:D):jU [.d h,.d (.lst (ps.map dP)),.d d] bx=.val (.d (.bl (sg ps d))) bx:=by
 have sz:=bp;refine gR ?_;show oh [some (.d h),xP ps,some (.d d)] bx=_;unfold oh;have t1:cC (dB (fj K1.fU 3 (fb (dV 2) (fb (dC (.int 2)) (fb (dC (.int 5)) fe))))) [some (.d h),xP ps,some (.d d)] bx=.val (!tl d 2 5) bx :=
  jA (gu (fK (fg rfl (fg rfl (fg rfl rfl))) rfl (fP d 2 5 bx)))
 cases c:tl d 2 5 with
 | false =>
   rw[c]at t1;have r0:sg ps d=false:=by
    cases d with
    |tup l=>rw[MB]at c;simp only[sg,c,vI]
    |_=>rfl
   rw[r0];exact Ax ((BN (PB t1)).trans (gN rfl))
 | true =>
   rw[c]at t1;obtain⟨l,rfl⟩:∃ l,d=.tup l:=by
    cases d with
    |tup l=>exact⟨l,rfl⟩
    |_=>cases c
   rw[MB]at c;have hl:=of_decide_eq_true c;have t2:cC (dB (dN false bP (fb (fA false [none,some 0] (ay (dV 2)) (fc 0) fw (fj K2.gn 2 (fb (dV 1) (fb (dV 0) fe)))) fe))) [some (.d h),xP ps,some (.d (.tup l))] bx=.val (!l.all λx=>wi x 0 ((k:Int)-1)) bx :=
    jA (gu (Et (enc:=λd=>d) (r:=[some (.d h)]) _ (by rw[We];exact oT rfl) rfl (by omega) λa _=>fK (fg rfl (fg rfl rfl)) rfl (BS H a)))
   cases c2:l.all λx=>wi x 0 ((k:Int)-1) with
   | false =>
     rw[c2]at t2;have r0:sg ps (.tup l)=false:=by
      simp only[sg,c,xm];cases e:intsOf l with
      |none=>rfl
      | some is =>
        have hb:=Bh e;subst hb;show sf ps is=false;cases cr:sf ps is with
        |false=>rfl
        | true =>
          unfold sf at cr;rw[aE]at cr;have z:=MA M (by simpa using hl.1) cr.2;rw[pE]at c2;have:(is.all ((λx=>wi x 0 ((k:Int)-1))∘D.int))=true:=cA.mpr λi mi=>by
           have:=z i mi;simp[wi];omega
          rw[this]at c2;cases c2
     rw[r0];exact Ax ((BN (oE t1 t2)).trans (gN rfl))
   | true =>
     rw[c2]at t2;obtain⟨is,rfl,hi⟩:=BU c2;rw[aA]at hl;have r0:sg ps (.tup (is.map D.int))=sf ps is:=by simp only[sg,c,xm,K1.io]
     rw[r0];refine(fq ((jX (oE t1 t2)).trans rfl)).trans ?_;have j1:dN false az (fb (dV 2) fe) [some (.d h),xP ps,some (.d (.tup (is.map D.int)))] bx=.val (.d (.int (is.length:Nat))) bx:=iq (r:=.old (.int (is.length:Nat))) [.tup (is.map D.int)] (fg rfl rfl) (by simp[az]);have j2:d2 false dt (dN false u5 (fb (dV 2) fe)) (dN false az (fb (dV 2) fe)) [some (.d h),xP ps,some (.d (.tup (is.map D.int)))] bx=.val (.d (.bl (decide ((HT.dist is).length=is.length)))) bx :=
      fL (r:=.old (.bl (decide ((HT.dist is).length=is.length)))) (iq (r:=.old (.int (HT.dist is).length)) [.tup (is.map D.int)] (fg rfl rfl) (Mz is hl.2)) j1 (by
       show dt (.int (HT.dist is).length) (.int (is.length:Nat))=_;rw[CY];congr 3;rw[ku];simp;omega)
     have cu:∀ is:List Int,2<=is.length /\ is.length<=5->qO (.tup (is.map D.int)) (some 1) none=some (.tup ((is.drop 1).map D.int)) /\ qO (.tup (is.map D.int)) none (some 1)=some (.tup ((is.take 1).map D.int)):=λis hl =>
      ado (P:=λis=>qO (.tup (is.map D.int)) (some 1) none=some (.tup ((is.drop 1).map D.int)) /\ qO (.tup (is.map D.int)) none (some 1)=some (.tup ((is.take 1).map D.int))) is hl (λ_ _=>⟨rfl,rfl⟩) (λ_ _ _=>⟨rfl,rfl⟩) (λ_ _ _ _=>⟨rfl,rfl⟩) (λ_ _ _ _ _=>⟨rfl,rfl⟩)
     obtain⟨adp,adq⟩:=cu is hl;have ad:fM (.tup ((is.drop 1).map D.int)) (.tup ((is.take 1).map D.int))=some (.tup ((is.drop 1++is.take 1).map D.int)):=by
      rw[cV];exact if_pos (by simp;omega)
     have zz:tK (fb (dV 2) (fb (d2 false fM (dJ false (dV 2) (cQ (dC (.int 1))) c8) (dJ false (dV 2) c8 (cQ (dC (.int 1))))) fe)) [some (.d h),xP ps,some (.d (.tup (is.map D.int)))] bx=.val (((is.zip (is.drop 1++is.take 1)).map dP).map W.d) bx:=by
      have a:=fg (m:=dV 2) (env:=[some (.d h),xP ps,some (.d (.tup (is.map D.int)))]) (bx:=bx) rfl (fg (ks:=fe) (fL (PH (m:=dV 2) (lo:=cQ (dC (.int 1))) (hi:=c8) rfl rfl rfl adp) (PH (m:=dV 2) (lo:=c8) (hi:=cQ (dC (.int 1))) rfl rfl rfl adq) ad) rfl);unfold tK;rw[a,fI,<-C4];rfl
     have j3:dN false bP (fb (fA false [none,some 1] (tK (fb (dV 2) (fb (d2 false fM (dJ false (dV 2) (cQ (dC (.int 1))) c8) (dJ false (dV 2) c8 (cQ (dC (.int 1))))) fe))) (fc 0) fw (d2 false (inD false) (dV 0) (dV 1))) fe) [some (.d h),xP ps,some (.d (.tup (is.map D.int)))] bx=.val (.d (.bl (steps ps is))) bx :=
      Et (enc:=dP) (r:=[xP ps]) (λq=>decide (q∈ps)) zz rfl (by simp;omega) λq _=>fL (r:=.old (.bl (decide (q∈ps)))) rfl rfl (Mx false q ps)
     unfold sf;cases c3:decide ((HT.dist is).length=is.length) with
     |false=>rw[c3]at j2;exact gN (D7 j2)
     |true=>rw[c3]at j2;exact gN (jZ j2 j3)
noncomputable def subs:Nat->List (List Int)
 |0=>[[]]
 |k+1=>subs k++(subs k).map λs=>s++[(k:Int)]
theorem C5:∀ k,(subs k).length=2 ^ k
 |0=>rfl
 |k+1=>by simp[subs,C5 k,Hr];omega
theorem Az {k:Nat}(h:k<=5):(subs k).length<=32:=by
 rw[C5];exact bR (Hs (by decide) h) (by decide)
theorem C6:∀ k,((List.range k).map λ(i:Nat)=>(i:Int))∈subs k
 |0=>by simp[subs]
 | k+1=>by
   rw[List.range_succ,cV,subs];exact bN.mpr (.inr (a6.mpr ⟨_,C6 k,rfl⟩))
theorem oU {k:Nat}(h:k<=5) {s:List Int}(m:s∈subs k):s.length<=k:=by
 clear h;induction k generalizing s with
 |zero=>simp[subs]at m;simp[m]
 | succ k ih =>
   rw[subs]at m;rcases bN.mp m with m|m
   ·have:=ih m;omega
   ·obtain⟨t,mt,rfl⟩:=a6.mp m;have:=ih mt;simp;omega
abbrev Zd (i j:Nat):DE W:=d2 false fM (dV i) (fA false [none,some j] (ay (dV i)) (fc 0) fw (d2 false fM (dV 0) (gC (fb (dV 1) fe))))
theorem OT {k:Nat}(hk:k<5) (h1:env[i]?=some (some (.d (.lst ((subs k).map tupI))))) (h2:env[j]?=some (xN (k:Nat))):Zd i j env bx=.val (.d (.lst ((subs (k+1)).map tupI))) bx:=by
 have sz:=bp;have sl:=Az (k:=k) (by omega);have v1:dV i env bx=.val (.d (.lst ((subs k).map tupI))) bx:=by rw[LX,h1]
 have c:fA false [none,some j] (ay (dV i)) (fc 0) fw (d2 false fM (dV 0) (gC (fb (dV 1) fe))) env bx=.val (.d (.lst ((subs k).map λs=>tupI (s++[(k:Int)])))) bx :=
  wK (enc:=tupI) (r:=[xN (k:Nat)]) _ (f8 v1) (by simp[cD,h2]) (by omega) λs ms=>by
   have:=oU (by omega) ms;exact fL (r:=.tup ((s++[(k:Int)]).map D.int)) (x:=tupI s) (y:=.tup [.int (k:Nat)]) rfl (iL [.int (k:Nat)] rfl (show (1:Nat)<=sizeLine by omega)) (by rw[cV];exact if_pos (by simp;omega))
 refine fL (r:=.lst ((subs (k+1)).map tupI)) v1 c ?_;rw[subs,cV,nP];exact if_pos (by simp;omega)
end ck
namespace K2
open L2 L2.DL K1
section
variable {h : D} {rs : List Int} {hold : Int} {x0 x1 x2 x4 x5 x6 x7 x8 x9 x10 x11 x12 x13 x14 : Option W}
end
section
variable {h : D} {rs : List Int} {hold : Int} {x0 x1 x4 x5 x6 x7 x8 x12 x13 x14 : Option W}
end
end K2
namespace K1
open L2 L2.DL
end K1
namespace K2
open L2 L2.DL K1
theorem Uk (h:ks env bx=.val [.d (.int (j:Int))] bx1) (hj:j<=1000):uX false ks env bx=.val (.d (.lst ((List.range j).map λ(i:Nat)=>D.int (i:Int)))) bx1:=by
 unfold uX;rw[h,fI];show (if -(2 ^ 62)<=(j:Int) /\ (j:Int)<=2 ^ 24 then _ else _)=_;rw[if_pos (by omega),cX];rfl
end K2
namespace ck
open L2 L2.DL K1 aH
theorem OU:f7 false (fb (gC fe) fe) env bx=.val (.d (.lst ((subs 0).map tupI))) bx:=by
 have sz:=bp;exact Aw [.tup []] (fg (iL [] rfl (cG _)) rfl) (show (1:Nat)<=sizeLine by omega)
theorem OV {k:Nat}{w:W}(h:(fE 0 k)[i]?=some w):w=.d (.int (i:Nat)) /\ i<k:=by
 obtain⟨a,b⟩:=jd h;rw[Ib]at a;exact⟨a,b⟩
noncomputable def nG (rs:List (List Int)) (s:List Int):Bool:=rs.all λr=>s.any λx=>decide (x∈r)
theorem Ze {h:D}{k:Nat}(H:bQ h k) (he:env[0]?=some (some (.d h))):dN false az (fb (d2 false av (dV 0) (dC (.int 0))) fe) env bx=.val (.d (.int (k:Nat))) bx:=by
 obtain⟨rs,kk,aa,bb,eH,ads⟩:=H.rs;have e0:av h (.int 0)=some (.old (.tup rs)):=by rw[eH];simp[av,bc,b9]
 exact iq (r:=.old (.int (k:Nat))) [.tup rs] (fg (fL (m:=dV 0) (by rw[LX,he]) rfl e0) rfl) (by simp[az,ads])
def Good (k:Nat) (rs:List (List Int)):Prop:=∀ r∈rs,r≠[] /\ ∀ i∈r,0<=i /\ i<(k:Int)
theorem Jx {k:Nat}(G:Good k rs):nG rs ((List.range k).map λ(i:Nat)=>(i:Int))=true:=by
 unfold nG;rw[cA];intro r mr;obtain⟨ne,hi⟩:=G r mr;rw[kM];cases r with
 |nil=>exact absurd rfl ne
 | cons i r =>
   have:=hi i (bZ ..);exact⟨i,a6.mpr ⟨i.toNat,List.mem_range.mpr (by omega),by omega⟩,by simp⟩
def p7 (k:Nat) (rs:List (List Int)) (m:List Int):Prop:=m∈subs k /\ nG rs m=true /\ ∀ s∈subs k,nG rs s=true->m.length<=s.length
theorem p7.eq {k:Nat}{a b:List Int}(h:p7 k rs a) (q:p7 k rs b):a.length=b.length:=xc (h.2.2 b q.1 q.2.1) (q.2.2 a h.1 h.2.1)
theorem OW (s r:List Int) (hs:s.length<=100):mM [.d (tupI s),.d (tupI r)] bx=.val (.d (.bl (s.any λx=>decide (x∈r)))) bx:=by
 have sz:=bp;refine gR ?_;show BH [xU s,xU r] bx=_;unfold BH;exact gN (adn (enc:=D.int) (r:=[xU r]) _ (oT rfl) rfl (by omega) λx _=>fL (r:=.old (.bl (decide (x∈r)))) rfl rfl (Gd false r x))
noncomputable def tU:List Int->List (List Int)->List Int
 |b,[]=>b
 |b,x::l=>tU (if x.length<b.length then x else b) l
theorem D9 (s:List Int):pf (tupI s)=some s.length:=by simp[pf]
theorem Ge:∀ (l:List (List Int)) (b:List Int),tO (λd=>(pf d).getD 0) (tupI b) (l.map tupI)=tupI (tU b l)
 |[],b=>rfl
 | x::l,b=>by
   rw[aQ,tO,D9,D9];show tO _ (if x.length<b.length then tupI x else tupI b) _=_;rw[<-apply_ite tupI,Ge l];rfl
theorem AA:∀ (l:List (List Int)) (b:List Int),tU b l∈b::l
 |[],b=>bZ ..
 | x::l,b=>by
   have:=AA l (if x.length<b.length then x else b);rw[tU];rcases aO.mp this with e|m
   ·rw[e];split<;>simp
   ·exact bS _ (bS _ m)
theorem Gf:∀ (l:List (List Int)) (b:List Int),∀ s∈b::l,(tU b l).length<=s.length
 |[],b,s,m=>by rw[a8.mp m];exact aq _
 | x::l,b,s,m=>by
   have ih:=Gf l (if x.length<b.length then x else b);have i0:=ih _ (bZ ..);rw[tU];rcases aO.mp m with rfl|m
   ·refine bR i0 ?_;split<;>omega
   ·rcases aO.mp m with rfl|m
    ·refine bR i0 ?_;split<;>omega
    ·exact ih s (bS _ m)
theorem C7 {h:D}{k:Nat}(H:bQ h k) (hr:rs.length<=100) (G:Good k rs):∃ m,p7 k rs m /\ fS [.d h,.d (.lst (rs.map tupI))] bx=.val (.d (tupI m)) bx:=by
 have sz:=bp;have n5:=H.n5;have sl:=Az n5;have ne:(subs k).filter (nG rs)≠[]:=by
  intro z;rw[List.filter_eq_nil_iff]at z;exact z _ (C6 k) (Jx G)
 obtain⟨x,l,Zf⟩:=qm ne;have mm:∀ s,s∈x::l ↔ s∈subs k /\ nG rs s=true:=λs=>by rw[<-Zf,cW]
 refine⟨tU x l,⟨((mm _).mp (AA l x)).1,((mm _).mp (AA l x)).2,λs ms hs=>Gf l x s ((mm s).mpr ⟨ms,hs⟩)⟩,gR ?_⟩;show iE [some (.d h),some (.d (.lst (rs.map tupI))),none,none,none] bx=_;unfold iE;obtain⟨ax,bx',e,hb,w,he⟩:=jr (g:=fc 3) (body:=fH (Zd 2 3) (fc 2)) (λi env b=>b=bx /\ ∃ w,env=[some (.d h),some (.d (.lst (rs.map tupI))),some (.d (.lst ((subs i).map tupI))),w,none]) (fE 0 k) 0 [some (.d h),some (.d (.lst (rs.map tupI))),some (.d (.lst ((subs 0).map tupI))),none,none] bx ⟨rfl,none,rfl⟩ (by
  rintro i w env b hw ⟨rfl,w0,rfl⟩;obtain⟨rfl,hi⟩:=OV hw;rw[qh];exact⟨[some (.d h),some (.d (.lst (rs.map tupI))),some (.d (.lst ((subs i).map tupI))),xN (i:Nat),none],b,[some (.d h),some (.d (.lst (rs.map tupI))),some (.d (.lst ((subs (i+1)).map tupI))),xN (i:Nat),none],b,rfl,fW (OT (by omega) rfl rfl),rfl,_,rfl⟩)
 rw[show 0+(fE 0 k).length=k by simp[fE]]at he;rw[hb,he]at e;have rg:bC (fb (dN false az (fb (d2 false av (dV 0) (dC (.int 0))) fe)) fe) [some (.d h),some (.d (.lst (rs.map tupI))),some (.d (.lst ((subs 0).map tupI))),none,none] bx=.val (fE 0 k) bx:=iF (fg (ks:=fe) (Ze H rfl) rfl) (by omega);refine(fq (fW OU)).trans ((fq ((jG rg).trans e)).trans ?_);have c:fA false [none,some 1] (ay (dV 2)) (fc 0) (dB (dN false bP (fb (fA false [none,some 0] (ay (dV 1)) (fc 0) fw (fj ck.mM 2 (fb (dV 1) (fb (dV 0) fe)))) fe))) (dV 0) [some (.d h),some (.d (.lst (rs.map tupI))),some (.d (.lst ((subs k).map tupI))),w,none] bx=.val (.d (.lst ((x::l).map tupI))) bx:=by
  rw[<-Zf];refine wJ (enc:=tupI) (r:=[some (.d (.lst (rs.map tupI)))]) (nG rs) tupI (f8 rfl) rfl (by omega) λs ms=>⟨?_,λ_=>rfl⟩;have:=oU n5 ms;exact gu (Et (enc:=tupI) (r:=[xU s]) _ (f8 rfl) rfl (by omega) λr _=>fK (fg rfl (fg rfl rfl)) rfl (OW s r (by omega)))
 refine(fq (fW c)).trans (gN (iq (r:=.old (tupI (tU x l))) [.lst ((x::l).map tupI)] (fg rfl rfl) ?_));show (if ((x::l).map tupI).all (λd=>(pf d).isSome)=true then some (Res.old (tO (λd=>(pf d).getD 0) (tupI x) (l.map tupI))) else none)=_;rw[if_pos (by rw[pE,cA];intro s _;show (pf (tupI s)).isSome=true;rw[D9];rfl),Ge]
section
variable {h : D} {k : Nat} 
theorem S9 (l:List D) (many:Int) (m:D):dB (d2 false h9 (dN false az (fb (dV 3) fe)) (dC (.int 30))) [some (.d h),some (.d m),xN many,some (.d (.lst l))] bx=.val (!decide (l.length<=30)) bx :=
 gu (fL (r:=.old (.bl (!decide (l.length<=30)))) (iq (r:=.old (.int (l.length:Nat))) [.lst l] (fg rfl rfl) rfl) rfl (by
  show some (Res.old (.bl (decide ((30:Int)<(l.length:Nat)))))=_;congr 3;rw[ku];simp;omega))
theorem OX (H:bQ h k) (M:Mv k ps) (l:List D) (hl:l.length<=30) (many:Int):dN false bP (fb (fA false [none,some 0,some 1] (ay (dV 3)) (fc 0) fw (fj ck.jU 3 (fb (dV 1) (fb (dV 2) (fb (dV 0) fe))))) fe) [some (.d h),xP ps,xN many,some (.d (.lst l))] bx=.val (.d (.bl (l.all (sg ps)))) bx:=by
 have sz:=bp;exact Et (enc:=λd=>d) (r:=[some (.d h),xP ps]) _ (by rw[We];exact f8 rfl) rfl (by omega) λa _=>fK (fg rfl (fg rfl (fg rfl rfl))) rfl (Jw H M a)
end
end ck
namespace aH
open L2 L2.DL K1 K2
theorem iW (a:Key) (d:D) (l:List (Key×D)) (k:Key):br ((a,d)::l) k=if a=k then some d else br l k:=by
 unfold br;by_cases h:a=k<;>simp[pD,h]
theorem AB (k:Key):∀ l:List (Key×D),(l.any λkv=>decide (kv.1=k))=(br l k).isSome
 |[]=>rfl
 | (a,d)::l=>by
   rw[iW,rn,AB k l];by_cases h:a=k<;>simp[h]
theorem C8 (k k':Key) (d:D):∀ l:List (Key×D),br (l.map λkv=>if kv.1=k then (kv.1,d) else kv) k'=if k'=k then (br l k).map (λ_=>d) else br l k'
 |[]=>by simp[br]
 | (a,x)::l=>by
   have ih:=C8 k k' d l;rw[aQ];by_cases h:a=k
   ·simp only[h,if_true,iW,ih];by_cases h2:k'=k
    ·simp[h2]
    ·simp[h2,Ne.symm h2]
   ·simp only[h,if_false,iW,ih];by_cases h2:k'=k
    ·subst h2;simp[h]
    ·simp[h2]
theorem C9 (k k':Key) (d:D):∀ l:List (Key×D),br (l++[(k,d)]) k'=(br l k').or (if k=k' then some d else none)
 |[]=>by simp[iW,br]
 | (a,x)::l=>by
   rw[V5,iW,iW,C9 k k' d l];split<;>simp
theorem Db (l:List (Key×D)) (k k':Key) (d:D):br (nF l k d) k'=if k'=k then some d else br l k':=by
 unfold nF;split
 ·rename_i h;rw[AB]at h;rw[C8];by_cases h2:k'=k
  ·rw[if_pos h2,if_pos h2];cases q:br l k with
   |none=>rw[q]at h;cases h
   |some x=>rfl
  ·rw[if_neg h2,if_neg h2]
 ·rename_i h;rw[AB]at h;rw[C9];by_cases h2:k'=k
  ·subst h2;cases q:br l k' with
   |none=>simp
   |some x=>rw[q]at h;exact absurd rfl h
  ·rw[if_neg h2,if_neg (Ne.symm h2)];simp
theorem Bt (l:List (Key×D)) (k:Key) (d:D):(nF l k d).length<=l.length+1:=by
 unfold nF;split<;>simp
section
variable {bx2 aD : List Bx}
theorem MC {y:D}{kx:DE W}{l:List (Key×D)}{key:Key}(h1:kx env bx=.val (.d y) bx1) (h2:m env bx1=.val (.b j) bx2) (g:bx2[j]?=some (.ah l)) (hk:pZ y=some key):qT false kx m env bx=.val (.d (.bl (br l key).isSome)) bx2:=by
 unfold qT;rw[h1,fI,h2,fI];have r1:aJ bx2 (.b j)=some (.ah l):=by simp only[aJ,g]
 simp only[r1,hk];rfl
theorem Gg {y u:D}{kx:DE W}{l:List (Key×D)}{key:Key}(h1:m env bx=.val (.b j) bx1) (h2:kx env bx1=.val (.d y) bx2) (g:bx2[j]?=some (.ah l)) (hk:pZ y=some key) (hv:br l key=some u):rY m kx env bx=.val (.d u) bx2:=by
 unfold rY;rw[h1,fI,h2,fI];have r1:aJ bx2 (.b j)=some (.ah l):=by simp only[aJ,g]
 simp only[r1,hk,ba,hv]
theorem OY {y z:D}{kx v:DE W}{l0 l:List (Key×D)}{key:Key}(h1:m env bx=.val (.b j) bx1) (g0:bx1[j]?=some (.ah l0)) (h2:kx env bx1=.val (.d y) bx2) (h3:v env bx2=.val (.d z) aD) (g:aD[j]?=some (.ah l)) (hk:pZ y=some key) (hl:l.length<sizeLine) :
 ∃ u,uY m kx v env bx=.val (.d u) (match br l key with|some _=>aD|none=>aD.set j (.ah (nF l key z))):=by
 unfold uY;rw[h1,fI];simp only[g0,h2,fI,h3,g,hk,if_pos hl];cases br l key with
 |none=>exact⟨z,rfl⟩
 |some w=>exact⟨w,rfl⟩
theorem Ta {y z:D}{kx v:DE W}{l:List (Key×D)}{key:Key}(h0:v env bx=.val (.d z) bx1) (h1:m env bx1=.val (.b j) bx2) (h2:kx env bx2=.val (.d y) aD) (g:aD[j]?=some (.ah l)) (hk:pZ y=some key) (hl:l.length<sizeLine) :
 tM m kx v env bx=.nx env (aD.set j (.ah (nF l key z))):=by
 unfold tM;rw[h0,mh,h1,mh,h2,mh];simp only[g,hk,if_pos hl]
end
def p8 (is:List Int) (d:List (Key×D)):Prop:=∀ k:Int,(br d (.inl k)=none /\ ∀ m:Nat,is[m]?≠some k) \/ ∃ i:Nat,br d (.inl k)=some (.int i) /\ is[i]?=some k /\ ∀ m:Nat,m<i->is[m]?≠some k
def tV (is:List Int) (d:List (Key×D)):Prop:=∀ k:Int,(br d (.inl k)=none /\ ∀ m:Nat,is[m]?≠some k) \/ ∃ i:Nat,br d (.inl k)=some (.int i) /\ is[i]?=some k /\ ∀ m:Nat,i<m->is[m]?≠some k
theorem j5 {x k:Int}{m:Nat}(h:(is++[x])[m]?=some k):is[m]?=some k \/ (m=is.length /\ x=k):=by
 by_cases hm:m<is.length
 ·rw[cn hm]at h;exact .inl h
 ·rw[cz (by omega)]at h;have:m-is.length=0:=by
   have:=(List.getElem?_eq_some_iff.mp h).1;simp at this;omega
  rw[this]at h;simp at h;exact .inr ⟨by omega,h⟩
theorem MD {x k:Int}{m:Nat}(h:is[m]?=some k):(is++[x])[m]?=some k:=by
 rw[cn (List.getElem?_eq_some_iff.mp h).1];exact h
theorem p8.keep {d:List (Key×D)}{x:Int}(h:p8 is d) {w:D}(hx:br d (.inl x)=some w):p8 (is++[x]) d:=by
 intro k;rcases h k with⟨a,b⟩|⟨i,a,b,c⟩
 ·refine .inl ⟨a,λm hm=>?_⟩;rcases j5 hm with z|⟨_,z⟩
  ·exact b m z
  ·subst z;rw[hx]at a;cases a
 ·refine .inr ⟨i,a,MD b,λm hm z=>?_⟩;have hi:=(List.getElem?_eq_some_iff.mp b).1;rcases j5 z with z|⟨z,_⟩
  ·exact c m hm z
  ·omega
theorem p8.put {d:List (Key×D)}{x:Int}(h:p8 is d) (hx:br d (.inl x)=none):p8 (is++[x]) (nF d (.inl x) (.int is.length)):=by
 intro k;rw[Db];by_cases hk:k=x
 ·subst hk;rw[if_pos rfl];refine .inr ⟨is.length,rfl,by simp,λm hm z=>?_⟩;rcases h k with⟨_,b⟩|⟨i,a,_,_⟩
  ·rcases j5 z with z|⟨z,_⟩
   ·exact b m z
   ·omega
  ·rw[hx]at a;cases a
 ·rw[if_neg (λz=>hk (by injection z))];rcases h k with⟨a,b⟩|⟨i,a,b,c⟩
  ·refine .inl ⟨a,λm hm=>?_⟩;rcases j5 hm with z|⟨_,z⟩
   ·exact b m z
   ·exact hk z.symm
  ·refine .inr ⟨i,a,MD b,λm hm z=>?_⟩;rcases j5 z with z|⟨_,z⟩
   ·exact c m hm z
   ·exact hk z.symm
theorem tV.put {d:List (Key×D)}{x:Int}(h:tV is d):tV (is++[x]) (nF d (.inl x) (.int is.length)):=by
 intro k;rw[Db];by_cases hk:k=x
 ·subst hk;rw[if_pos rfl];refine .inr ⟨is.length,rfl,by simp,λm hm z=>?_⟩;have:=(List.getElem?_eq_some_iff.mp z).1;simp at this;omega
 ·rw[if_neg (λz=>hk (by injection z))];rcases h k with⟨a,b⟩|⟨i,a,b,c⟩
  ·refine .inl ⟨a,λm hm=>?_⟩;rcases j5 hm with z|⟨_,z⟩
   ·exact b m z
   ·exact hk z.symm
  ·refine .inr ⟨i,a,MD b,λm hm z=>?_⟩;rcases j5 z with z|⟨_,z⟩
   ·exact c m hm z
   ·exact hk z.symm
theorem ME {q:Int×Int}(h:∀ m:Nat,is[m]?≠some q.1):rowOne is q=false:=by
 have:is.findIdx? (λz=>decide (z=q.1))=none:=by
  rw[List.findIdx?_eq_none_iff];intro x m;obtain⟨i,hi,e⟩:=List.mem_iff_getElem.mp m;rw[decide_eq_false_iff_not];intro z;exact h i (by rw[bI hi,e,z])
 unfold rowOne;rw[this]
theorem Dc {q:Int×Int}(h:is[i]?=some q.1) (h2:∀ m:Nat,m<i->is[m]?≠some q.1):rowOne is q=(is.drop i).any λz=>decide (z=q.2):=by
 obtain⟨hi,e⟩:=List.getElem?_eq_some_iff.mp h;have:is.findIdx? (λz=>decide (z=q.1))=some i:=by
  rw[List.findIdx?_eq_some_iff_getElem];refine⟨hi,by simp[e],λj hj=>?_⟩;simp only[decide_eq_true_eq];intro z;exact h2 j hj (by rw[bI (by omega),z])
 unfold rowOne;rw[this]
theorem mO {e:Int}:((is.drop i).any λz=>decide (z=e))=true ↔ ∃ m:Nat,i<=m /\ is[m]?=some e:=by
 rw[kM];constructor
 ·rintro⟨x,mx,hx⟩;obtain⟨j,hj,ej⟩:=List.mem_iff_getElem?.mp mx |>.elim λj hj=>(⟨j,(List.getElem?_eq_some_iff.mp hj).1,hj⟩:∃ j,∃ _:j<(is.drop i).length,(is.drop i)[j]?=some x);rw[HK]at ej;rw[decide_eq_true_eq]at hx;exact⟨i+j,by omega,by rw[ej,hx]⟩
 ·rintro⟨m,hm,e'⟩;refine⟨e,?_,by simp⟩;rw[List.mem_iff_getElem?];exact⟨m-i,by rw[HK,show i+(m-i)=m by omega];exact e'⟩
theorem Tb {q:Int×Int}(hq:q.1≠q.2) (h:is[i]?=some q.1) (h2:∀ m:Nat,m<i->is[m]?≠some q.1) (h3:is[j]?=some q.2) (h4:∀ m:Nat,j<m->is[m]?≠some q.2):rowOne is q=decide ((i:Int)<(j:Int)):=by
 rw[Dc h h2,ku,mO,decide_eq_true_eq];constructor
 ·rintro⟨m,hm,e⟩;have h5:¬ j<m:=λz=>h4 m z e;have h6:i≠j:=λz=>hq (by subst z;rw[h]at h3;injection h3);omega
 ·intro z;exact⟨j,by omega,h3⟩
abbrev Zg:aj:=fu (fV (uY (dV 3) (dV 6) (dV 5))) (tM (dV 4) (dV 6) (dV 5))
theorem yH (x y:Bx):(bx++[x,y])[bx.length]?=some x:=by simp
theorem Zh (x y:Bx):(bx++[x,y])[bx.length+1]?=some y:=by simp
theorem bW (x y z:Bx):(bx++[x,y]).set bx.length z=bx++[z,y]:=by
 rw[ue _ _ (aq _),k8];rfl
theorem adt (x y z:Bx):(bx++[x,y]).set (bx.length+1) z=bx++[x,z]:=by
 rw[ue _ _ (by omega),show bx.length+1-bx.length=1 by omega];rfl
theorem OZ (is:List Int) (x:Int) (d1 d2:List (Key×D)) (h1:p8 is d1) (h2:tV is d2) (l1:d1.length<=is.length) (l2:d2.length<=is.length) (hl:is.length<=1000000) (x0 x1 x2:Option W) :
 ∃ n6 uF,Zg [x0,x1,x2,xB bx.length,xB (bx.length+1),xN (is.length:Nat),xN x] (bx++[.ah d1,.ah d2])=.nx [x0,x1,x2,xB bx.length,xB (bx.length+1),xN (is.length:Nat),xN x] (bx++[.ah n6,.ah uF]) /\ p8 (is++[x]) n6 /\ tV (is++[x]) uF /\ n6.length<=is.length+1 /\ uF.length<=is.length+1:=by
 have sz:=bp;obtain⟨u,e1⟩:=OY (env:=[x0,x1,x2,xB bx.length,xB (bx.length+1),xN (is.length:Nat),xN x]) (m:=dV 3) (kx:=dV 6) (v:=dV 5) (y:=.int x) (z:=.int (is.length:Nat)) (key:=.inl x) rfl (yH (bx:=bx) (.ah d1) (.ah d2)) rfl rfl (yH (bx:=bx) (.ah d1) (.ah d2)) rfl (by omega);have P:∀ n6,tM (dV 4) (dV 6) (dV 5) [x0,x1,x2,xB bx.length,xB (bx.length+1),xN (is.length:Nat),xN x] (bx++[.ah n6,.ah d2])=.nx [x0,x1,x2,xB bx.length,xB (bx.length+1),xN (is.length:Nat),xN x] (bx++[.ah n6,.ah (nF d2 (.inl x) (.int (is.length:Nat)))]):=λn6=>by
  have:=Ta (env:=[x0,x1,x2,xB bx.length,xB (bx.length+1),xN (is.length:Nat),xN x]) (m:=dV 4) (kx:=dV 6) (v:=dV 5) (y:=.int x) (z:=.int (is.length:Nat)) (key:=.inl x) rfl rfl rfl (Zh (bx:=bx) (.ah n6) (.ah d2)) rfl (by omega);rw[adt]at this;exact this
 have q2:=Bt d2 (.inl x) (.int (is.length:Nat));cases c:br d1 (.inl x) with
 | some w =>
   rw[c]at e1;exact⟨d1,_,(fq (gH e1)).trans (P d1),h1.keep c,h2.put,by omega,by omega⟩
 | none =>
   rw[c]at e1;simp only at e1;rw[bW]at e1;have q1:=Bt d1 (.inl x) (.int (is.length:Nat));exact⟨_,_,(fq (gH e1)).trans (P _),h1.put c,h2.put,by omega,by omega⟩
theorem Gh (x0 x1 x2:Option W):∀ (rest is:List Int) (d1 d2:List (Key×D)) (w5 w6:Option W),p8 is d1->tV is d2->d1.length<=is.length->d2.length<=is.length->is.length+rest.length<=1000000 ->
 ∃ D1 D2 qY kr,dI (ia 2 (fJ (fc 5) (fJ (fc 6) gU))) Zg (p4 is.length (rest.map D.int)) [x0,x1,x2,xB bx.length,xB (bx.length+1),w5,w6] (bx++[.ah d1,.ah d2])=.nx [x0,x1,x2,xB bx.length,xB (bx.length+1),qY,kr] (bx++[.ah D1,.ah D2]) /\ p8 (is++rest) D1 /\ tV (is++rest) D2
 |[],is,d1,d2,w5,w6,h1,h2,_,_,_=>⟨d1,d2,w5,w6,rfl,by rw[ng];exact h1,by rw[ng];exact h2⟩
 | x::rest,is,d1,d2,w5,w6,h1,h2,l1,l2,hl=>by
   obtain⟨n6,uF,e,a1,a2,a3,a4⟩:=OZ (bx:=bx) is x d1 d2 h1 h2 l1 l2 (by omega) x0 x1 x2;obtain⟨D1,D2,qY,kr,e',b1,b2⟩:=Gh x0 x1 x2 rest (is++[x]) n6 uF (xN (is.length:Nat)) (xN x) a1 a2 (by simp;omega) (by simp;omega) (by simp at hl ⊢;omega);refine⟨D1,D2,qY,kr,?_,by simpa using b1,by simpa using b2⟩;have g:ia 2 (fJ (fc 5) (fJ (fc 6) gU)) (.d (.tup [.int (is.length:Nat),.int x])) [x0,x1,x2,xB bx.length,xB (bx.length+1),w5,w6] (bx++[.ah d1,.ah d2])=some ([x0,x1,x2,xB bx.length,xB (bx.length+1),xN (is.length:Nat),xN x],bx++[.ah d1,.ah d2]):=rfl;rw[bM,Hv]at e';exact(mw g e).trans e'
abbrev K9:DE W:=gq (qT false (dV 0) (dV 2)) (gq (qT false (dV 1) (dV 2)) (d2 false cL (rY (dV 2) (dV 0)) (rY (dV 3) (dV 1))))
theorem Ul {D1 D2:List (Key×D)}(h1:p8 is D1) (h2:tV is D2) (q:Int×Int) (hq:q.1≠q.2):K9 [xN q.1,xN q.2,xB bx.length,xB (bx.length+1)] (bx++[.ah D1,.ah D2])=.val (.d (.bl (rowOne is q))) (bx++[.ah D1,.ah D2]):=by
 have i1:=MC (env:=[xN q.1,xN q.2,xB bx.length,xB (bx.length+1)]) (kx:=dV 0) (m:=dV 2) (y:=.int q.1) (key:=.inl q.1) rfl rfl (yH (bx:=bx) (.ah D1) (.ah D2)) rfl;have i2:=MC (env:=[xN q.1,xN q.2,xB bx.length,xB (bx.length+1)]) (kx:=dV 1) (m:=dV 2) (y:=.int q.2) (key:=.inl q.2) rfl rfl (yH (bx:=bx) (.ah D1) (.ah D2)) rfl;rcases h1 q.1 with⟨a,b⟩|⟨i,a,b,c⟩
 ·rw[a]at i1;rw[ME b];exact D7 i1
 ·rw[a]at i1;rcases h1 q.2 with⟨a',b'⟩|⟨i',a',b',c'⟩
  ·rw[a']at i2;have:rowOne is q=false:=by
    rw[Dc b c,Wn];intro z;obtain⟨m,_,e⟩:=mO.mp z;exact b' m e
   rw[this];exact jZ i1 (D7 i2)
  ·rw[a']at i2;rcases h2 q.2 with⟨a2,b2⟩|⟨j,a2,b2,c2⟩
   ·exact absurd b' (b2 i')
   ·have g1:=Gg (env:=[xN q.1,xN q.2,xB bx.length,xB (bx.length+1)]) (kx:=dV 0) (m:=dV 2) (y:=.int q.1) (key:=.inl q.1) rfl rfl (yH (bx:=bx) (.ah D1) (.ah D2)) rfl a;have g2:=Gg (env:=[xN q.1,xN q.2,xB bx.length,xB (bx.length+1)]) (kx:=dV 1) (m:=dV 3) (y:=.int q.2) (key:=.inl q.2) rfl rfl (Zh (bx:=bx) (.ah D1) (.ah D2)) rfl a2;rw[Tb hq b c b2 c2];exact jZ i1 (jZ i2 (fL (r:=.old (.bl (decide ((i:Int)<(j:Int))))) g1 g2 rfl))
theorem AC {h:D}{k:Nat}(H:bQ h k) (M:Mv k ps) (hl:ps.length<=10) (d:D) (ok:Ok d):fT [.d h,.d (.lst (ps.map dP)),.d d] bx=.val (.d (.bl (vg ps k d))) bx:=by
 have sz:=bp;have nm:=j0 (bx:=bx) H M hl;have go:∀ {b:Bool}{bx':List Bx},ly [some (.d h),xP ps,some (.d d),none,none,none,none] bx=.rt (.d (.bl b)) bx'->bx'.take bx.length=bx->fT [.d h,.d (.lst (ps.map dP)),.d d] bx=.val (.d (.bl b)) bx:=λ{b bx'} m tk=>by
  refine(BO m).trans ?_;rw[tk]
 have n1:∀ (r:aj),fu (fV (fj aH.gf 2 (fb (dV 0) (fb (dV 1) fe)))) r [some (.d h),xP ps,some (.d d),none,none,none,none] bx=r [some (.d h),xP ps,some (.d d),none,none,none,none] bx:=λr=>fq (gH (fK (fg rfl (fg rfl rfl)) rfl nm));by_cases hd:∃ l,d=.lst l
 ·obtain⟨l,rfl⟩:=hd;have i1:cC (dB (iM "list" (dV 2))) [some (.d h),xP ps,some (.d (.lst l)),none,none,none,none] bx=.val false bx:=jA (b:=true) (gu (b:=true) rfl);have ca:bG (fc 0) fw (fj K2.gn 2 (fb (dV 1) (fb (dV 0) fe))) (l.map W.d) [none,some (.d h)] bx []=.val (l.map λd=>.bl (wi d 0 ((k:Int)-1))) bx :=
   gX (λe=>∃ w,e=[w,some (.d h)]) _ ⟨none,rfl⟩ (by
    rintro d m env ⟨w,rfl⟩;exact⟨[some (.d d),some (.d h)],rfl,⟨_,rfl⟩,fK (fg rfl (fg rfl rfl)) rfl (BS H d)⟩) (by have:l.length<=1000000:=ok;omega)
  have i2:cC (dB (dN false bP (fb (fA false [none,some 0] (ay (dV 2)) (fc 0) fw (fj K2.gn 2 (fb (dV 1) (fb (dV 0) fe)))) fe))) [some (.d h),xP ps,some (.d (.lst l)),none,none,none,none] bx=.val (!(l.all λd=>wi d 0 ((k:Int)-1))) bx :=
   jA (gu (iq (r:=.old (.bl (l.all λd=>wi d 0 ((k:Int)-1)))) [.lst (l.map λd=>.bl (wi d 0 ((k:Int)-1)))] (fg (iI (f8 rfl) rfl ca) rfl) (all_map _ _)))
  cases c:l.all (λx=>wi x 0 ((k:Int)-1)) with
  | false =>
    rw[c]at i2;have r0:vg ps k (.lst l)=false:=by simp only[vg,c,vI]
    rw[r0];refine go (bx':=bx) ?_ (xj ..);unfold ly;exact(n1 _).trans (Ax ((BN (oE i1 i2)).trans (gN rfl)))
  | true =>
    rw[c]at i2;obtain⟨is,rfl,hi⟩:=BU c;have r0:vg ps k (.lst (is.map D.int))=ps.all (rowOne is):=by simp only[vg,c,xm,K1.io]
    rw[r0];have il:is.length<=1000000:=by have:(is.map D.int).length<=1000000:=ok;simpa using this
    obtain⟨D1,D2,w5,w6,e,f1,f2⟩:=Gh (bx:=bx) (some (.d h)) (xP ps) (xJ is) is [] [] [] none none (λk=>.inl ⟨rfl,λm=>by simp⟩) (λk=>.inl ⟨rfl,λm=>by simp⟩) (aq _) (aq _) (by simpa using il);rw[uf]at f1 f2;have s2:kU 3 4 (fb (tH true []) (fb (tH true []) fe)) [some (.d h),xP ps,xJ is,none,none,none,none] bx=.nx [some (.d h),xP ps,xJ is,xB bx.length,xB (bx.length+1),none,none] (bx++[.ah [],.ah []]):=by
     have p1:tH true [] [some (.d h),xP ps,xJ is,none,none,none,none] bx=.val (.b bx.length) (bx++[.ah []]):=rfl;have p2:tH true [] [some (.d h),xP ps,xJ is,none,none,none,none] (bx++[.ah []])=.val (.b (bx.length+1)) (bx++[.ah [],.ah []]):=by
      show O.val (W.b (bx++[Bx.ah []]).length) ((bx++[Bx.ah []])++[Bx.ah []])=_;rw[bM,eC];rfl
     exact Ga p1 p2
    have s3:Ej (fb (dV 2) fe) [some (.d h),xP ps,xJ is,xB bx.length,xB (bx.length+1),none,none] (bx++[.ah [],.ah []])=.val (p4 0 (is.map D.int)) (bx++[.ah [],.ah []]):=rfl;have cb:bG (ia 2 (fJ (fc 0) (fJ (fc 1) gU))) fw K9 ((ps.map dP).map W.d) [none,none,xB bx.length,xB (bx.length+1)] (bx++[.ah D1,.ah D2]) []=.val ((ps.map dP).map λd=>.bl (match toP d with|some q=>rowOne is q|none=>false)) (bx++[.ah D1,.ah D2]):=
     gX (λe=>∃ u w,e=[u,w,xB bx.length,xB (bx.length+1)]) _ ⟨none,none,rfl⟩ (by
      rintro d m env ⟨u,w,rfl⟩;obtain⟨q,mq,rfl⟩:=a6.mp m;exact⟨[xN q.1,xN q.2,xB bx.length,xB (bx.length+1)],rfl,⟨_,_,rfl⟩,Ul f1 f2 q (M q mq).2.2.2.2⟩) (by rw[aA];omega)
    have al:((ps.map dP).all λd=>match toP d with|some q=>rowOne is q|none=>false)=ps.all (rowOne is):=by
     rw[pE];rfl
    have s4:fO (dN false bP (fb (fA false [none,none,some 3,some 4] (ay (dV 1)) (ia 2 (fJ (fc 0) (fJ (fc 1) gU))) fw K9) fe)) [some (.d h),xP ps,xJ is,xB bx.length,xB (bx.length+1),w5,w6] (bx++[.ah D1,.ah D2])=.rt (.d (.bl (ps.all (rowOne is)))) (bx++[.ah D1,.ah D2]):=
     gN (iq (r:=.old (.bl (ps.all (rowOne is)))) [.lst ((ps.map dP).map λd=>.bl (match toP d with|some q=>rowOne is q|none=>false))] (fg (iI (f8 rfl) rfl cb) rfl) (by rw[all_map,al]))
    refine go (bx':=bx++[.ah D1,.ah D2]) ?_ (zm ..);unfold ly;exact(n1 _).trans ((fq ((jX (oE i1 i2)).trans rfl)).trans ((fq s2).trans ((fq ((jG s3).trans e)).trans s4)))
 ·have i1:cC (dB (iM "list" (dV 2))) [some (.d h),xP ps,some (.d d),none,none,none,none] bx=.val true bx:=by
   refine jA (b:=false) (gu (b:=false) ?_);cases d with
   |lst l=>exact absurd ⟨l,rfl⟩ hd
   |_=>rfl
  have r0:vg ps k d=false:=by cases d with|lst l=>exact absurd ⟨l,rfl⟩ hd|_=>rfl
  rw[r0];refine go (bx':=bx) ?_ (xj ..);unfold ly;exact(n1 _).trans (Ax ((BN (PB i1)).trans (gN rfl)))
section
variable {x0 x1 x2 x5 x7 x8 x9 x10 : Option W}
end
section
variable {bx2 : List Bx}
end
section
variable {x0 x1 x3 x5 x6 x7 x11 x12 x13 : Option W}
end
section
variable {x0 x1 x5 : Option W}
end
end aH
namespace ck
open L2 L2.DL K1 aH
section
variable {r : aI}
abbrev gP:DG:=ia 2 (fJ (fc 0) (fJ (fc 1) gU))
theorem Qa (p:Int×Int->Bool) (f:Int×Int->D):∀ (l:List (Int×Int)) (w v:Option W) (acc:List D),acc.length+l.length<=sizeLine->(∀ a∈l,tf (xN a.1::xN a.2::r) bx=.val (p a) bx /\ (p a=true->te (xN a.1::xN a.2::r) bx=.val (.d (f a)) bx)) ->
 bG gP tf te ((l.map dP).map W.d) (w::v::r) bx acc=.val (acc++(l.filter p).map f) bx
 |[],w,v,acc,_,_=>by simp[bG]
 | a::l,w,v,acc,n,h=>by
   obtain⟨h1,h2⟩:=h a (bZ ..);rw[a9]at n;have n':acc.length<sizeLine:=by omega
   have e0:gP (W.d (dP a)) (w::v::r) bx=some (some (W.d (.int a.1))::some (W.d (.int a.2))::r,bx):=rfl;cases c:p a with
   | false =>
     rw[zo (by simp[c]),<-Qa p f l (some (W.d (.int a.1))) (some (W.d (.int a.2))) acc (by omega) λx m=>h x (bS _ m)];rw[c]at h1;simp only[aQ,bG,e0,h1,Au]
   | true =>
     rw[zp c];have ih:=Qa p f l (some (W.d (.int a.1))) (some (W.d (.int a.2))) (acc++[f a]) (by simp;omega) λx m=>h x (bS _ m);rw[c]at h1;simp only[aQ,bG,e0,h1,h2 c,Au,if_pos n',ih];simp
end
section
variable {bx2 : List Bx}
theorem Um {op:D->D->Option Res}{r:Res}{k:DE W}{x:D}(h1:m env bx=.val (.d x) bx1) (h2:k env bx1=.val (.b j) bx2) (g:bx2[j]?=some (.lst l)) (hg:op x (.lst l)=some r):d2 false op m k env bx=.val (.d r.toD) bx2:=by
 rw[Jm,h1,fI,h2,fI,lV];have r1:aJ bx2 (.b j)=some (.lst l):=by simp only[aJ,g]
 rw[r1,ba,ba,hg,g9]
theorem PM {aD:List Bx}{lo hi:DE (Option Int)}{a b:Option Int}(h1:m env bx=.val (.b j) bx1) (h2:lo env bx1=.val a bx2) (h3:hi env bx2=.val b aD) (g:aD[j]?=some (.lst l)):dJ false m lo hi env bx=.val (.d (.lst (DL.cutD l a b))) aD:=by
 have r1:aJ aD (.b j)=some (.lst l):=by simp only[aJ,g]
 rw[Pz,h1,fI,h2,fI,h3,fI,r1];rfl
end
theorem lC (neg:Bool) (is:List Int) (b:Int):inD neg (.int b) (.lst (is.map D.int))=some (.old (.bl (if neg then !decide (b∈is) else decide (b∈is)))):=by
 show (if eJ (.int b)=true /\ (is.map D.int).all eJ=true then some (Res.old (.bl (if neg then !eK (.int b) (is.map D.int) else eK (.int b) (is.map D.int)))) else tL neg _ _ _)=_;rw[if_pos ⟨rfl,Br is⟩,C1];have:(is.any λz=>decide (z=b))=decide (b∈is):=by
  rw[ku];simp
 rw[this]
section
variable {k : Nat} 
end
section
variable {k : Nat} 
end
section
variable {k : Nat} {h : D} {x0 x1 x4 x11 : Option W}
end
end ck
namespace cE
open L2 L2.DL aH ck
noncomputable def dd (l:List Int):List Int:=l.foldl cH []
theorem MF (a:List Int) (i x:Int):x∈cH a i ↔ x∈a \/ x=i:=by
 unfold cH;split
 ·rename_i h;obtain⟨y,m,e⟩:=kM.mp h;have e':y=i:=by simpa using e
  subst e';exact⟨.inl,λz=>z.elim id λz=>z▸m⟩
 ·simp
theorem Fa {a:List Int}(h:a.Nodup) (i:Int):(cH a i).Nodup:=by
 unfold cH;split
 ·exact h
 ·rename_i q;rw[sI];refine⟨h,by simp,λx hx y hy e=>q ?_⟩;cases a8.mp hy;subst e;exact kM.mpr ⟨x,hx,by simp⟩
theorem AD (a:List Int) (i:Int):(cH a i).length<=a.length+1:=by
 unfold cH;split<;>simp
theorem Dd (x:Int):∀ (l a:List Int),x∈l.foldl cH a ↔ x∈a \/ x∈l
 |[],a=>by simp
 |i::l,a=>by rw[List.foldl_cons,Dd x l,MF,aO];exact or_assoc
theorem AE:∀ (l:List Int) {a:List Int},a.Nodup->(l.foldl cH a).Nodup
 |[],_,h=>h
 |i::l,_,h=>AE l (Fa h i)
theorem AF {x:Int}{l:List Int}:x∈dd l ↔ x∈l:=by rw[dd,Dd];simp
theorem mP (l:List Int):(dd l).Nodup:=AE l V7
theorem Bu (l:List Int):HT.dist l=dd l:=by
 unfold HT.dist firstMet dd;congr 1;apply vG;intro j;by_cases h:j<l.length
 ·simp[h]
 ·simp[h]
theorem oF {a b:List Int}(ha:a.Nodup) (hb:b.Nodup) (sa:a.Pairwise (·<=·)) (sb:b.Pairwise (·<=·)) (h:∀ x,x∈a ↔ x∈b):a=b:=jh ((List.perm_ext_iff_of_nodup ha hb).mpr h) sa sb
theorem iX {x:Int}{l:List Int}:x∈sortI l ↔ x∈l:=(gm l).mem_iff
theorem ju {l:List Int}(h:l.Nodup):(sortI l).Nodup:=(gm l).nodup_iff.mpr h
theorem oj (l:List Int):(sortI l).length=l.length:=(gm l).length_eq
theorem iS {l:List Int}(p:Int->Bool) (h:l.Nodup):(l.filter p).Nodup:=List.filter_sublist.nodup h
def nm (ps:List (Int×Int)):List Int:=sortI (dd (ps.flatMap λq=>[q.1,q.2]))
theorem lD {x:Int}:x∈nm ps ↔ ∃ q∈ps,x=q.1 \/ x=q.2:=by
 rw[nm,iX,AF,List.mem_flatMap];simp
theorem jH (ps:List (Int×Int)):(nm ps).Nodup:=ju (mP _)
theorem om (ps:List (Int×Int)):(nm ps).Pairwise (·<=·):=gE _
section
variable {k : Nat} 
theorem AG (M:Mv k ps) {x:Int}(h:x∈nm ps):0<=x /\ x<(k:Int):=by
 obtain⟨q,m,e⟩:=lD.mp h;obtain⟨a,b,c,d,_⟩:=M q m;rcases e with rfl|rfl
 ·exact⟨a,b⟩
 ·exact⟨c,d⟩
noncomputable abbrev rg (k:Nat):List Int:=(List.range k).map λ(i:Nat)=>(i:Int)
theorem Fb {x:Int}:x∈rg k ↔ 0<=x /\ x<(k:Int):=by
 simp only[rg,a6,List.mem_range];constructor
 ·rintro⟨a,h,rfl⟩;omega
 ·rintro⟨h1,h2⟩;exact⟨x.toNat,by omega,by omega⟩
theorem oo:(rg k).length=k:=by simp
theorem Fc {l:List Int}(h:l.Nodup) (hb:∀ x∈l,0<=x /\ x<(k:Int)):l.length<=k:=by
 have:=h.length_le_of_subset (l₂:=rg k) λx m=>Fb.mpr (hb x m)
 rwa [oo]at this
theorem AH (M:Mv k ps):(nm ps).length<=k:=Fc (jH ps) λ_ h=>AG M h
end
noncomputable def Ch (ps:List (Int×Int)):List Int->Prop
 |[]=>True
 |[_]=>True
 |a::b::l=>(a,b)∈ps /\ Ch ps (b::l)
noncomputable def la (p:List Int):Int:=p.getLastD 0
noncomputable def fi (p:List Int):Int:=p.headD 0
theorem Gi (p:List Int) (x:Int):la (p++[x])=x:=by simp[la]
theorem BV (a b:Int) (l:List Int):la (a::b::l)=la (b::l):=by simp[la]
theorem MG (u:List Int) (a:Int) (v:List Int):la (u++a::v)=la (a::v):=by
 induction u with
 |nil=>rfl
 | cons b u ih =>
   cases u with
   |nil=>rfl
   |cons c u=>exact ih
theorem MH:∀ {p:List Int},p≠[]->la p∈p
 |[],h=>absurd rfl h
 |[a],_=>by simp[la]
 |a::b::l,_=>by rw[BV];exact .tail _ (MH (by simp))
theorem Ch.app:∀ {u:List Int}{a:Int}{v:List Int},Ch ps (u++a::v) ↔ Ch ps (u++[a]) /\ Ch ps (a::v)
 |[],a,v=>by simp[Ch]
 |[b],a,v=>by simp[Ch]
 | b::c::u,a,v=>by
   have ih:=Ch.app (u:=c::u) (a:=a) (v:=v);show ((b,c)∈ps /\ Ch ps (c::u++a::v)) ↔ ((b,c)∈ps /\ Ch ps (c::u++[a])) /\ Ch ps (a::v);rw[ih];exact and_assoc.symm
theorem Ch.snoc:∀ {p:List Int}{x:Int},p≠[]->(Ch ps (p++[x]) ↔ Ch ps p /\ (la p,x)∈ps)
 |[],_,h=>absurd rfl h
 |[a],x,_=>by simp[Ch,la]
 | a::b::l,x,_=>by
   have ih:=Ch.snoc (p:=b::l) (x:=x) (by simp);show ((a,b)∈ps /\ Ch ps (b::l++[x])) ↔ ((a,b)∈ps /\ Ch ps (b::l)) /\ (la (a::b::l),x)∈ps;rw[ih,BV];exact and_assoc.symm
structure Cy (ps:List (Int×Int)) (c:List Int):Prop where
 n:c≠[]
 ch:Ch ps c
 cl:(la c,fi c)∈ps
theorem Cy.turn {u v:List Int}(h:Cy ps (u++v)) (hu:u≠[]) (hv:v≠[]):Cy ps (v++u):=by
 obtain⟨a,u,rfl⟩:=qm hu;obtain⟨b,v,rfl⟩:=qm hv;obtain⟨h1,h2⟩:=Ch.app.mp h.ch;obtain⟨h3,h4⟩:=(Ch.snoc (by simp)).mp h1;have c:=h.cl;rw[MG]at c;refine⟨by simp,Ch.app.mpr ⟨(Ch.snoc (by simp)).mpr ⟨h2,c⟩,h3⟩,?_⟩;rw[MG];exact h4
theorem Ch.pre:∀ {c:List Int},Ch ps c->∀ x∈c,x=fi c \/ ∃ y∈c,(y,x)∈ps
 |[],_,x,m=>nomatch m
 |[a],_,x,m=>.inl (a8.mp m)
 | a::b::l,h,x,m=>by
   rcases aO.mp m with rfl|m
   ·exact .inl rfl
   ·rcases Ch.pre h.2 x m with e|⟨y,my,q⟩
    ·exact .inr ⟨a,.head _,by rw[e];exact h.1⟩
    ·exact .inr ⟨y,.tail _ my,q⟩
theorem Cy.pre {c:List Int}(h:Cy ps c) {x:Int}(m:x∈c):∃ y∈c,(y,x)∈ps:=by
 rcases h.ch.pre x m with rfl|q
 ·exact⟨la c,MH h.n,h.cl⟩
 ·exact q
def Core (ps:List (Int×Int)) (S:List Int):Prop:=S≠[] /\ ∀ x∈S,∃ y∈S,(y,x)∈ps
theorem Cy.core {c:List Int}(h:Cy ps c):Core ps c:=⟨h.n,λ_ m=>h.pre m⟩
theorem MI {S:List Int}(C:∀ x∈S,∃ y∈S,(y,x)∈ps):∀ (n:Nat) (c:List Int),S.length-c.length<=n->c≠[]->c.Nodup->Ch ps c->(∀ x∈c,x∈S)->∃ d,Cy ps d /\ d.Nodup /\ ∀ x∈d,x∈S:=by
 intro n;induction n with
 | zero =>
   intro c hn h0 hd hc hs;obtain⟨a,l,rfl⟩:=qm h0;obtain⟨y,my,e⟩:=C a (hs a (.head _));by_cases hy:y∈a::l
   ·obtain⟨u,v,q⟩:=zq hy;rw[q]at hc hd hs;have hf:fi (u++[y])=a:=by cases u with|nil=>cases q;rfl|cons b u=>cases q;rfl
    refine⟨u++[y],⟨by simp,(Ch.app.mp hc).1,by rw[Gi,hf];exact e⟩,?_,λx m=>hs x ?_⟩
    ·refine List.Sublist.nodup ?_ hd;exact List.Sublist.append (List.Sublist.refl _) (List.Sublist.cons₂ _ (Wf _))
    ·rcases bN.mp m with m|m
     ·exact cU _ m
     ·exact bT _ (by cases a8.mp m;exact .head _)
   ·have:=(pF.mpr ⟨hy,hd⟩).length_le_of_subset (l₂:=S) λx m=>by
     rcases aO.mp m with rfl|m
     ·exact my
     ·exact hs x m
    simp at this hn;omega
 | succ n ih =>
   intro c hn h0 hd hc hs;obtain⟨a,l,rfl⟩:=qm h0;obtain⟨y,my,e⟩:=C a (hs a (.head _));by_cases hy:y∈a::l
   ·obtain⟨u,v,q⟩:=zq hy;rw[q]at hc hd hs;have hf:fi (u++[y])=a:=by cases u with|nil=>cases q;rfl|cons b u=>cases q;rfl
    refine⟨u++[y],⟨by simp,(Ch.app.mp hc).1,by rw[Gi,hf];exact e⟩,?_,λx m=>hs x ?_⟩
    ·refine List.Sublist.nodup ?_ hd;exact List.Sublist.append (List.Sublist.refl _) (List.Sublist.cons₂ _ (Wf _))
    ·rcases bN.mp m with m|m
     ·exact cU _ m
     ·exact bT _ (by cases a8.mp m;exact .head _)
   ·refine ih (y::a::l) (by simp at hn ⊢;omega) (by simp) (pF.mpr ⟨hy,hd⟩) ⟨e,hc⟩ λx m=>?_;rcases aO.mp m with rfl|m
    ·exact my
    ·exact hs x m
theorem Bv:∀ {l:List Int},l≠[]->∃ u m v,l=u++m::v /\ ∀ x∈l,m<=x
 |[],h=>absurd rfl h
 |[a],_=>⟨[],a,[],rfl,λx m=>by cases a8.mp m;omega⟩
 | a::b::l,_=>by
   obtain⟨u,m,v,e,h⟩:=Bv (l:=b::l) (by simp);by_cases q:a<=m
   ·refine⟨[],a,b::l,rfl,λx mx=>?_⟩;rcases aO.mp mx with rfl|mx
    ·omega
    ·have:=h x mx;omega
   ·refine⟨a::u,m,v,by rw[e];rfl,λx mx=>?_⟩;rcases aO.mp mx with rfl|mx
    ·omega
    ·exact h x mx
theorem O0 {S:List Int}(C:Core ps S):∃ d,Cy ps d /\ d.Nodup /\ (∀ x∈d,x∈S) /\ ∀ x∈d,fi d<=x:=by
 obtain⟨h0,h1⟩:=C;obtain⟨a,l,rfl⟩:=qm h0;obtain⟨d,c1,c2,c3⟩:=MI h1 _ [a] (aq _) (by simp) (by simp) trivial (λx m=>by cases a8.mp m;exact .head _);obtain⟨u,m,v,e,hm⟩:=Bv c1.n;subst e;cases u with
 |nil=>exact⟨_,c1,c2,c3,λx mx=>hm x mx⟩
 | cons b u =>
   have pm:(m::v++b::u).Perm (b::u++m::v):=List.perm_append_comm;exact⟨m::v++b::u,c1.turn (by simp) (by simp),pm.nodup_iff.mpr c2,λx mx=>c3 x (pm.mem_iff.mp mx),λx mx=>hm x (pm.mem_iff.mp mx)⟩
theorem Cy.named {c:List Int}(h:Cy ps c) {x:Int}(m:x∈c):x∈nm ps:=by
 obtain⟨y,_,e⟩:=h.pre m;exact lD.mpr ⟨_,e,.inr rfl⟩
section
variable {k : Nat} 
def nH (ps:List (Int×Int)) (p:List Int):List Int:=sortI (dd ((ps.filter λq=>decide (q.1=la p)&&decide (fi p<=q.2)).map λq=>q.2))
theorem oV {x:Int}:x∈nH ps p ↔ (la p,x)∈ps /\ fi p<=x:=by
 rw[nH,iX,AF,a6];constructor
 ·rintro⟨⟨a,b⟩,m,rfl⟩;rw[cW]at m;obtain⟨m,h⟩:=m;simp only[aE,decide_eq_true_eq]at h;obtain⟨h1,h2⟩:=h;exact⟨h1▸m,h2⟩
 ·rintro⟨m,h⟩;exact⟨(la p,x),cW.mpr ⟨m,by simp[h]⟩,rfl⟩
theorem Jy (p:List Int):(nH ps p).Nodup:=ju (mP _)
theorem BW (M:Mv k ps) (p:List Int):(nH ps p).length<=k:=Fc (Jy p) λx m=>AG M (lD.mpr ⟨_,(oV.mp m).1,.inr rfl⟩)
def sh (ps:List (Int×Int)) (p:List Int):List (List Int):=((nH ps p).filter λr=>!decide (r∈p)).map λr=>p++[r]
def lvl (ps:List (Int×Int)):Nat->List (List Int)
 |0=>(nm ps).map λr=>[r]
 |j+1=>(lvl ps j).flatMap (sh ps)
structure nI (ps:List (Int×Int)) (p:List Int):Prop where
 ne:p≠[]
 nd:p.Nodup
 ch:Ch ps p
 ge:∀ x∈p,fi p<=x
 nm:∀ x∈p,x∈nm ps
theorem BX (h:p≠[]) (x:Int):fi (p++[x])=fi p:=by
 obtain⟨a,l,rfl⟩:=qm h;rfl
theorem lQ:∀ {j:Nat}{p:List Int},p∈lvl ps j->nI ps p /\ p.length=j+1
 | 0,p,h=>by
   obtain⟨r,m,rfl⟩:=a6.mp h;exact⟨⟨by simp,by simp,trivial,λx mx=>by cases a8.mp mx;exact Ic _,λx mx=>by cases a8.mp mx;exact m⟩,rfl⟩
 | j+1,p,h=>by
   obtain⟨q,mq,h⟩:=List.mem_flatMap.mp h;obtain⟨P,l⟩:=lQ mq;obtain⟨r,mr,rfl⟩:=a6.mp h;rw[cW]at mr;obtain⟨m1,m2⟩:=mr;have nr:r∉q:=by simpa using m2
   obtain⟨e,g⟩:=oV.mp m1;refine⟨⟨by simp,?_,(Ch.snoc P.ne).mpr ⟨P.ch,e⟩,λx mx=>?_,λx mx=>?_⟩,by simp[l]⟩
   ·rw[sI];exact⟨P.nd,by simp,λx hx y hy z=>nr (by cases a8.mp hy;exact z▸hx)⟩
   ·rw[BX P.ne];rcases bN.mp mx with mx|mx
    ·exact P.ge x mx
    ·cases a8.mp mx;exact g
   ·rcases bN.mp mx with mx|mx
    ·exact P.nm x mx
    ·cases a8.mp mx;exact lD.mpr ⟨_,e,.inr rfl⟩
theorem O1 (h:p.length=n+2):∃ q x,p=q++[x] /\ q.length=n+1 /\ q≠[]:=by
 have h0:p≠[]:=by intro z;subst z;simp at h
 refine⟨p.dropLast,p.getLast h0,(List.dropLast_concat_getLast h0).symm,by simp[h],λz=>?_⟩;have:p.dropLast.length=n+1:=by simp[h]
 rw[z]at this;simp at this
theorem De:∀ {j:Nat}{p:List Int},nI ps p->p.length=j+1->p∈lvl ps j
 | 0,p,P,l=>by
   match p,l with
   |[a],_=>exact a6.mpr ⟨a,P.nm a (.head _),rfl⟩
 | j+1,p,P,l=>by
   obtain⟨q,x,rfl,lq,hq⟩:=O1 l;obtain⟨c1,c2⟩:=(Ch.snoc hq).mp P.ch;have nd:=sI.mp P.nd;have PQ:nI ps q:=⟨hq,nd.1,c1,λy m=>by have:=P.ge y (cU _ m);rwa [BX hq]at this,λy m=>P.nm y (cU _ m)⟩;refine List.mem_flatMap.mpr ⟨q,De PQ lq,a6.mpr ⟨x,cW.mpr ⟨oV.mpr ⟨c2,?_⟩,?_⟩,rfl⟩⟩
   ·have:=P.ge x (bT _ (a8.mpr rfl));rwa [BX hq]at this
   ·simp only[vK,decide_eq_false_iff_not];exact λm=>nd.2.2 x m x (a8.mpr rfl) rfl
theorem nI.len (M:Mv k ps) (P:nI ps p):p.length<=k:=Fc P.nd λx m=>AG M (P.nm x m)
theorem Gj (M:Mv k ps) (h:k<=j):lvl ps j=[]:=by
 cases e:lvl ps j with
 |nil=>rfl
 | cons p l =>
   obtain⟨P,q⟩:=lQ (ps:=ps) (j:=j) (p:=p) (by rw[e];exact .head _);have:=P.len M;omega
theorem MJ:∀ {l:List Nat}{n:Nat},(∀ x∈l,x<=n)->l.sum<=l.length*n
 |[],_,_=>by simp
 | a::l,n,h=>by
   have h1:=h a (.head _);have h2:=MJ (l:=l) (n:=n) λx m=>h x (.tail _ m);rw[ug,a9,VY];omega
theorem BY (M:Mv k ps) (p:List Int):(sh ps p).length<=k:=by
 rw[sh,aA];exact bR (xl _ _) (BW M p)
theorem Gk (M:Mv k ps) (k5:k<=5):∀ j,(lvl ps j).length<=5 ^ (j+1)
 |0=>by rw[lvl,aA];have:=AH M;omega
 | j+1=>by
   have h:=Gk M k5 j;have h2:=MJ (l:=(lvl ps j).map λa=>(sh ps a).length) (n:=5) λx m=>by
    obtain⟨a,_,rfl⟩:=a6.mp m;exact bR (BY M a) k5
   rw[lvl,List.length_flatMap];rw[aA]at h2;rw[Hr];omega
def qZ (ps:List (Int×Int)) (p:List Int):Bool:=decide (fi p∈nH ps p)
noncomputable def has (d:List (List Int×List Int)) (q:List Int):Bool:=d.any λx=>decide (x.1=q)
def ins (ps:List (Int×Int)) (d:List (List Int×List Int)) (p:List Int):List (List Int×List Int):=if qZ ps p then (if has d (sortI p) then d else d++[(sortI p,p)]) else d
def bV (ps:List (Int×Int)):Nat->List (List Int×List Int)
 |0=>[]
 |j+1=>(lvl ps j).foldl (ins ps) (bV ps j)
structure yI (ps:List (Int×Int)) (d:List (List Int×List Int)):Prop where
 a:∀ x∈d,x.1=sortI x.2 /\ nI ps x.2 /\ qZ ps x.2=true
 n:(d.map (·.1)).Nodup
theorem Gm {d:List (List Int×List Int)}{q:List Int}:has d q=true ↔ q∈d.map (·.1):=by
 unfold has;rw[kM,a6];constructor
 ·rintro⟨x,m,e⟩;exact⟨x,m,of_decide_eq_true e⟩
 ·rintro⟨x,m,e⟩;exact⟨x,m,decide_eq_true e⟩
theorem Tc {d:List (List Int×List Int)}(h:yI ps d) (P:nI ps p):yI ps (ins ps d p):=by
 unfold ins;split
 ·rename_i c;split
  ·exact h
  ·rename_i q;refine⟨λx m=>?_,?_⟩
   ·rcases bN.mp m with m|m
    ·exact h.a x m
    ·cases a8.mp m;exact⟨rfl,P,c⟩
   ·rw[cV,sI];exact⟨h.n,by simp,λx hx y hy e=>q (Gm.mpr (by cases a8.mp hy;have e':x=sortI p:=e;exact e'▸hx))⟩
 ·exact h
theorem MK {d:List (List Int×List Int)}{q:List Int}(h:q∈d.map (·.1)):q∈(ins ps d p).map (·.1):=by
 unfold ins;split
 ·split
  ·exact h
  ·rw[cV];exact cU _ h
 ·exact h
theorem O2 {d:List (List Int×List Int)}(c:qZ ps p=true):sortI p∈(ins ps d p).map (·.1):=by
 unfold ins;rw[if_pos c];split
 ·rename_i q;exact Gm.mp q
 ·simp
theorem Gn:∀ {l:List (List Int)}{d:List (List Int×List Int)},yI ps d->(∀ p∈l,nI ps p)->yI ps (l.foldl (ins ps) d) /\ (∀ q∈d.map (·.1),q∈(l.foldl (ins ps) d).map (·.1)) /\ ∀ p∈l,qZ ps p=true->sortI p∈(l.foldl (ins ps) d).map (·.1)
 |[],d,h,_=>⟨h,λq m=>m,λp m=>nomatch m⟩
 | a::l,d,h,P=>by
   obtain⟨h1,h2,h3⟩:=Gn (l:=l) (Tc h (P a (.head _))) λp m=>P p (.tail _ m);refine⟨h1,λq m=>h2 q (MK m),λp m c=>?_⟩;rcases aO.mp m with rfl|m
   ·exact h2 _ (O2 c)
   ·exact h3 p m c
theorem Fd:∀ j,yI ps (bV ps j) /\ ∀ i<j,∀ p∈lvl ps i,qZ ps p=true->sortI p∈(bV ps j).map (·.1)
 |0=>⟨⟨(λx m=>nomatch m),.nil⟩,λi h=>absurd h (ub _)⟩
 | j+1=>by
   obtain⟨h1,h2⟩:=Fd j;obtain⟨f1,f2,f3⟩:=Gn (l:=lvl ps j) h1 λp m=>(lQ m).1;refine⟨f1,λi hi p m c=>?_⟩;rcases rj i j with q|q
   ·exact f2 _ (h2 i q p m c)
   ·have:i=j:=by omega
    subst this;exact f3 p m c
theorem Fe (P:nI ps p):qZ ps p=true ↔ Cy ps p:=by
 rw[qZ,decide_eq_true_eq,oV];exact⟨λh=>⟨P.ne,P.ch,h.1⟩,λh=>⟨h.cl,Ic _⟩⟩
structure qa (k:Nat) (ps:List (Int×Int)) (rs:List (List Int)):Prop where
 p:∀ r∈rs,nI ps r /\ Cy ps r
 l:rs.length<=26
 f:∀ S,Core ps S->∃ r∈rs,∀ x∈r,x∈S
end
theorem O3 {l:List Int}{x:Int}(h:(l++[x]).Pairwise (·<·)):l.Pairwise (·<·) /\ ∀ y∈l,y<x:=by
 rw[zr]at h;exact⟨h.1,λy m=>h.2.2 y m x (a8.mpr rfl)⟩
theorem mQ:∀ {k:Nat}{s:List Int},s.Pairwise (·<·)->(∀ x∈s,0<=x /\ x<(k:Int))->s∈subs k
 | 0,s,_,hb=>by
   cases s with
   |nil=>simp[subs]
   |cons a l=>have:=hb a (.head _);omega
 | k+1,s,h,hb=>by
   by_cases m:(k:Int)∈s
   ·obtain⟨u,v,e⟩:=zq m;subst e;have hv:v=[]:=by
     cases v with
     |nil=>rfl
     | cons b v =>
       have h1:=(zr.mp h).2.1;have h2:=(List.pairwise_cons.mp h1).1 b (.head _);have h3:=hb b (by simp);omega
    subst hv;obtain⟨h1,h2⟩:=O3 h;have:=mQ (k:=k) h1 λx mx=>⟨(hb x (cU _ mx)).1,h2 x mx⟩;simp only[subs,bN,a6];exact .inr ⟨u,this,rfl⟩
   ·have:=mQ (k:=k) h λx mx=>by
     have h1:=hb x mx;have:x≠(k:Int):=λz=>m (z▸mx);omega
    simp only[subs,bN];exact .inl this
theorem Df {l:List Int}(h:l.Pairwise (·<=·)) (n:l.Nodup):l.Pairwise (·<·):=by
 induction l with
 |nil=>exact .nil
 | cons a l ih =>
   rw[List.pairwise_cons]at h ⊢;rw[pF]at n;exact⟨λx m=>by have:=h.1 x m;have:a≠x:=λz=>n.1 (z▸m);omega,ih h.2 n.2⟩
section
variable {k : Nat} 
theorem ML (M:Mv k ps) (k5:k<=5) (j:Nat):(bV ps j).length<=26:=by
 obtain⟨h1,_⟩:=Fd (ps:=ps) j;rw[<-aA (f:=λx:List Int×List Int=>x.1)];have sub:∀ q∈(bV ps j).map (·.1),q∈(subs 5).filter λs=>decide (2<=s.length):=λq m=>by
  obtain⟨x,mx,rfl⟩:=a6.mp m;obtain⟨e1,P,c⟩:=h1.a x mx;have cy:=(Fe P).mp c;refine cW.mpr ⟨mQ (Df (by rw[e1];exact gE _) (by rw[e1];exact ju P.nd)) λy my=>?_,?_⟩
  ·have my:y∈sortI x.2:=e1▸my;have:=AG M (P.nm y (iX.mp my));omega
  ·rw[decide_eq_true_eq,e1,oj];match hx:x.2,P.ne with
   | [a],_ =>
     have:=cy.cl;rw[hx]at this;exact absurd rfl (M _ this).2.2.2.2
   |a::b::l,_=>simp
 have:=h1.n.length_le_of_subset (l₂:=(subs 5).filter λs=>decide (2<=s.length)) λq m=>sub q m;exact bR this (by decide)
theorem Td (M:Mv k ps) (k5:k<=5) (e:lvl ps j=[]):qa k ps ((bV ps j).map (·.2)):=by
 obtain⟨h1,h2⟩:=Fd (ps:=ps) j;have all:∀ i,j<=i->lvl ps i=[]:=λi hi=>by
  induction hi with
  |refl=>exact e
  |step _ ih=>rw[lvl,ih];rfl
 refine⟨λr m=>?_,?_,λS C=>?_⟩
 ·obtain⟨x,mx,rfl⟩:=a6.mp m;obtain⟨_,P,c⟩:=h1.a x mx;exact⟨P,(Fe P).mp c⟩
 ·rw[aA];exact ML M k5 j
 ·obtain⟨d,c1,c2,c3,c4⟩:=O0 C;have P:nI ps d:=⟨c1.n,c2,c1.ch,c4,λx m=>c1.named m⟩;obtain⟨i,hi⟩:∃ i,d.length=i+1:=by
   obtain⟨a,l,rfl⟩:=qm c1.n;exact⟨l.length,rfl⟩
  have mi:=De P hi;have ij:i<j:=by
   rcases rj i j with q|q
   ·exact q
   ·rw[all i q]at mi;cases mi
  obtain⟨x,mx,ex⟩:=a6.mp (h2 i ij d mi ((Fe P).mpr c1));obtain⟨e1,_,_⟩:=h1.a x mx;refine⟨x.2,a6.mpr ⟨x,mx,rfl⟩,λy my=>c3 y ?_⟩;have:y∈sortI d:=by rw[<-ex,e1];exact iX.mpr my
  exact iX.mp this
end
section
variable {k : Nat} 
def rest (ps:List (Int×Int)) (T:List Int):List Int:=(nm ps).filter λx=>!decide (x∈T)
theorem iu {T:List Int}{x:Int}:x∈rest ps T ↔ x∈nm ps /\ x∉T:=by simp[rest]
def vh (ps:List (Int×Int)) (L:List Int):Prop:=∀ S,Core ps S->¬ ∀ x∈S,x∈L
theorem Jz (R:qa k ps rs) {T:List Int}(h:nG rs T=true):vh ps (rest ps T):=λS C hS=>by
 obtain⟨r,mr,hr⟩:=R.f S C;unfold nG at h;obtain⟨x,mx,hx⟩:=kM.mp (cA.mp h r mr);exact(iu.mp (hS x (hr x (of_decide_eq_true hx)))).2 mx
theorem JA (R:qa k ps rs) {T:List Int}(h:vh ps (rest ps T)):nG rs T=true:=by
 unfold nG;rw[cA];intro r mr;obtain⟨P,C⟩:=R.p r mr;rw[kM];cases e:r.find? λx=>decide (x∈T) with
 |some x=>exact⟨x,of_decide_eq_true (HL (p:=λx=>decide (x∈T)) e),decide_eq_true (HM e)⟩
 | none =>
   rw[HU]at e;exact absurd (λx mx=>iu.mpr ⟨P.nm x mx,by simpa using e x mx⟩) (h r C.core)
theorem mR:∀ {k:Nat}{s:List Int},s∈subs k->s.Pairwise (·<·) /\ ∀ x∈s,0<=x /\ x<(k:Int)
 | 0,s,h=>by
   cases (a8.mp h:s=[]);exact⟨.nil,λx m=>nomatch m⟩
 | k+1,s,h=>by
   rw[subs]at h;rcases bN.mp h with h|h
   ·obtain⟨a,b⟩:=mR h;exact⟨a,λx m=>by have:=b x m;omega⟩
   ·obtain⟨t,mt,rfl⟩:=a6.mp h;obtain⟨a,b⟩:=mR mt;refine⟨zr.mpr ⟨a,by simp,λx mx y my=>by cases a8.mp my;exact(b x mx).2⟩,λx m=>?_⟩;rcases bN.mp m with m|m
    ·have:=b x m;omega
    ·cases a8.mp m;omega
theorem MM {l:List Int}(h:l.Pairwise (·<·)):l.Nodup:=h.imp λz e=>by omega
theorem Uo {l:List Int}(h:l.Pairwise (·<·)):l.Pairwise (·<=·):=h.imp λz=>by omega
theorem Dg (R:qa k ps rs) {m:List Int}(L:p7 k rs m):∀ x∈m,x∈nm ps:=by
 obtain⟨l1,l2,l3⟩:=L;obtain⟨a,b⟩:=mR l1;have h1:(m.filter λx=>decide (x∈nm ps))∈subs k:=mQ (a.filter _) λx mx=>b x ((cW.mp mx).1);have h2:nG rs (m.filter λx=>decide (x∈nm ps))=true:=by
  unfold nG at l2 ⊢;rw[cA]at l2 ⊢;intro r mr;obtain⟨x,mx,hx⟩:=kM.mp (l2 r mr);exact kM.mpr ⟨x,cW.mpr ⟨mx,decide_eq_true ((R.p r mr).1.nm x (of_decide_eq_true hx))⟩,hx⟩
 have h3:=l3 _ h1 h2;have h4:=xl (λx=>decide (x∈nm ps)) m;exact λx mx=>of_decide_eq_true (List.length_filter_eq_length_iff.mp (xc h4 h3) x mx)
theorem BZ (R:qa k ps rs) {m:List Int}(L:p7 k rs m):m=(nm ps).filter λx=>decide (x∈m):=by
 obtain⟨a,b⟩:=mR L.1;refine oF (MM a) (iS _ (jH ps)) (Uo a) ((om ps).filter _) λx=>?_;rw[cW,decide_eq_true_eq];exact⟨λh=>⟨Dg R L x h,h⟩,λh=>h.2⟩
theorem JB (l:List Int) (p:Int->Bool):l.length=(l.filter p).length+(l.filter λx=>!p x).length:=by
 induction l with
 |nil=>rfl
 | cons a l ih =>
   cases h:p a<;>simp[h,ih]<;>omega
theorem MN (R:qa k ps rs) {m:List Int}(L:p7 k rs m):(nm ps).length=m.length+(rest ps m).length:=by
 have h:=JB (nm ps) λx=>decide (x∈m);rw[<-BZ R L]at h;exact h
def aZ (rooms told:List Int):List Int:=rooms.filter λx=>!decide (x∈told)
noncomputable def cS (ps:List (Int×Int)) (w:List Int):List Int:=(ps.filter λq=>decide (q.1∈w)).map λq=>q.2
def vi (ps:List (Int×Int)) (rooms told:List Int):List Int:=told++(aZ rooms told).filter λx=>!decide (x∈cS ps (aZ rooms told))
theorem Go {w:List Int}{x:Int}:x∈cS ps w ↔ ∃ a∈w,(a,x)∈ps:=by
 unfold cS;rw[a6];constructor
 ·rintro⟨⟨a,b⟩,m,rfl⟩;rw[cW]at m;exact⟨a,of_decide_eq_true m.2,m.1⟩
 ·rintro⟨a,ma,m⟩;exact⟨(a,x),cW.mpr ⟨m,decide_eq_true ma⟩,rfl⟩
structure Told (ps:List (Int×Int)) (rooms told:List Int):Prop where
 nd:told.Nodup
 sub:∀ x∈told,x∈rooms
 ord:∀ u b v,told=u++b::v->∀ a∈rooms,(a,b)∈ps->a∈u
theorem JC {rooms told:List Int}(T:Told ps rooms told) (hr:rooms.Nodup):Told ps rooms (vi ps rooms told):=by
 have hw:∀ x∈(aZ rooms told).filter λx=>!decide (x∈cS ps (aZ rooms told)),x∈rooms /\ x∉told /\ ∀ a∈rooms,(a,x)∈ps->a∈told:=λx mx=>by
  rw[cW]at mx;obtain⟨m1,m2⟩:=mx;rw[aZ,cW]at m1;have nb:x∉cS ps (aZ rooms told):=by simpa using m2
  refine⟨m1.1,by simpa using m1.2,λa ma e=>?_⟩;by_cases ht:a∈told
  ·exact ht
  ·exact absurd (Go.mpr ⟨a,cW.mpr ⟨ma,by simpa using ht⟩,e⟩) nb
 refine⟨?_,λx mx=>?_,λu b v e a ma ab=>?_⟩
 ·unfold vi;rw[sI];exact⟨T.nd,iS _ (iS _ hr),λx mx y my z=>(hw y my).2.1 (z▸mx)⟩
 ·rcases bN.mp mx with mx|mx
  ·exact T.sub x mx
  ·exact(hw x mx).1
 ·unfold vi at e;rcases List.append_eq_append_iff.mp e with⟨c,h1,h2⟩|⟨c,h1,h2⟩
  ·have mb:b∈(aZ rooms told).filter λx=>!decide (x∈cS ps (aZ rooms told)):=by rw[h2];simp
   rw[h1];exact cU _ ((hw b mb).2.2 a ma ab)
  ·cases c with
   | nil =>
     rw[ng]at h1;have mb:b∈(aZ rooms told).filter λx=>!decide (x∈cS ps (aZ rooms told)):=by rw[<-uf (List.filter _ _),<-h2];simp
     rw[<-h1];exact(hw b mb).2.2 a ma ab
   | cons b' c =>
     cases h2;exact T.ord u b c h1 a ma ab
theorem MO {rooms told:List Int}(T:Told ps rooms told) (h:rooms.length<=told.length):∀ x∈rooms,x∈told:=λx mx=>by
 by_cases ht:x∈told
 ·exact ht
 ·have:=(pF.mpr ⟨ht,T.nd⟩).length_le_of_subset (l₂:=rooms) λy my=>by
   rcases aO.mp my with rfl|my
   ·exact mx
   ·exact T.sub y my
  simp at this;omega
theorem JD {rooms told:List Int}(hr:rooms.Nodup) (F:vh ps rooms) (h:told.length<rooms.length):told.length<(vi ps rooms told).length:=by
 have hw:aZ rooms told≠[]:=λz=>by
  have:=hr.length_le_of_subset (l₂:=told) λx mx=>by
   by_cases ht:x∈told
   ·exact ht
   ·have:x∈aZ rooms told:=cW.mpr ⟨mx,by simpa using ht⟩;rw[z]at this;cases this
  omega
 have:∃ x∈aZ rooms told,x∉cS ps (aZ rooms told):=by
  cases e:(aZ rooms told).find? λx=>!decide (x∈cS ps (aZ rooms told)) with
  |some x=>exact⟨x,HM e,by have:=HL e;simpa using this⟩
  | none =>
    rw[HU]at e;exact absurd (λx mx=>(cW.mp mx).1) (F (aZ rooms told) ⟨hw,λx mx=>by
     have:x∈cS ps (aZ rooms told):=by simpa using e x mx
     exact Go.mp this⟩)
 obtain⟨x,mx,hx⟩:=this;unfold vi;rw[bM];have:0<((aZ rooms told).filter λx=>!decide (x∈cS ps (aZ rooms told))).length:=List.length_pos_of_mem (a:=x) (cW.mpr ⟨mx,by simpa using hx⟩);omega
end
open K1
section
theorem mS {g:DG}{k:DK}{w:W}{l:List W}{env1 aP:aI}{bx2 aD:List Bx}{n2:List Int}(h1:g w env bx=some (env1,bx1)) (h2:tf env1 bx1=.val true bx2) (h3:k env1 bx2 ns=some (aP,aD,n2)):eX g tf k (w::l) env bx ns=eX g tf k l aP aD n2:=by
 simp only[eX,h1,h2,h3,if_true]
theorem MP {g:DG}{k:DK}{w:W}{l:List W}{env1:aI}{bx2:List Bx}(h1:g w env bx=some (env1,bx1)) (h2:tf env1 bx1=.val false bx2):eX g tf k (w::l) env bx ns=eX g tf k l env1 bx2 ns:=by
 simp only[eX,h1,h2,vJ,if_false]
theorem AI {i:Int}(h:te env bx=.val (.d (.int i)) bx1) (hl:ns.length+1<4000):eW te env bx ns=some (env,bx1,cH ns i):=by
 unfold eW;rw[h];exact if_pos hl
theorem Gp:∀ (l:List (Int×Int)) (x0 x1:Option W) (ns:List Int),ns.length+2*l.length<3000 ->
 ∃ y0 y1,eX (fc 0) fw (vd (ay (dV 0)) (fc 1) fw (eW (dV 1))) ((l.map dP).map W.d) [x0,x1] bx ns=some ([y0,y1],bx,(l.flatMap λq=>[q.1,q.2]).foldl cH ns)
 |[],x0,x1,ns,_=>⟨x0,x1,rfl⟩
 | q::l,x0,x1,ns,h=>by
   rw[a9]at h;have s1:=AD ns q.1;have s2:=AD (cH ns q.1) q.2;obtain⟨y0,y1,e⟩:=Gp l (some (.d (dP q))) (xN q.2) (cH (cH ns q.1) q.2) (by omega);refine⟨y0,y1,?_⟩;have i1:vd (ay (dV 0)) (fc 1) fw (eW (dV 1)) [some (.d (dP q)),x1] bx ns=some ([some (.d (dP q)),xN q.2],bx,cH (cH ns q.1) q.2):=by
    show eX (fc 1) fw (eW (dV 1)) [.d (.int q.1),.d (.int q.2)] [some (.d (dP q)),x1] bx ns=_;rw[mS (env1:=[some (.d (dP q)),xN q.1]) (bx1:=bx) (bx2:=bx) rfl rfl (AI (i:=q.1) rfl (by omega)),mS (env1:=[some (.d (dP q)),xN q.2]) (bx1:=bx) (bx2:=bx) rfl rfl (AI (i:=q.2) rfl (by omega))];rfl
   rw[aQ,aQ,mS (env1:=[some (.d (dP q)),x1]) (bx1:=bx) (bx2:=bx) rfl rfl i1,e];rfl
theorem lW {k:Nat}(M:Mv k ps) (k5:k<=5) (hl:ps.length<=10):fY [.d (.lst (ps.map dP))] bx=.val (.d (.lst ((nm ps).map D.int))) bx:=by
 refine gR ?_;obtain⟨y0,y1,e⟩:=Gp (bx:=bx) ps none none [] (by simp;omega);have l1:(dd (ps.flatMap λq=>[q.1,q.2])).length<64:=by
  have:=AH M;rw[nm,oj]at this;omega
 show lU [xP ps] bx=_;refine gN ?_;unfold p6;rw[show ay (dV 0) [xP ps] bx=.val ((ps.map dP).map W.d) bx from rfl,fI];rw[show cD [none,none] [some (W.d (.lst (ps.map dP)))]=[none,none] from rfl,e];exact if_pos l1
abbrev Eu:DE Bool:=nv (dB (d2 false dt (dV 0) (d2 false av (dV 2) (qP (dC (.int 1)))))) (dB (d2 false rQ (dV 1) (d2 false av (dV 2) (dC (.int 0)))))
theorem Uq (h:p≠[]):bc (p.map D.int) (-1)=some (.int (la p)):=by
 have l:0<p.length:=List.length_pos_iff.mpr h;unfold bc;rw[aA,CZ l];have e:p.getLast h=la p:=by
  unfold la;rw[List.getLastD_eq_getLast?,List.getLast?_eq_some_getLast h];rfl
 rw[ba,dS,<-e,List.getLast_eq_getElem];simp[l]
theorem PN (h:p≠[]):bc (p.map D.int) 0=some (.int (fi p)):=by
 obtain⟨a,l,rfl⟩:=qm h;unfold bc b9;rw[if_pos (Ic 0),if_pos (by simp)];rfl
theorem Te (h:p≠[]) (a b:Int):Eu [xN a,xN b,xU p] bx=.val (decide (a=la p)&&decide (fi p<=b)) bx:=by
 have e1:dB (d2 false dt (dV 0) (d2 false av (dV 2) (qP (dC (.int 1))))) [xN a,xN b,xU p] bx=.val (decide (a=la p)) bx :=
  gu (fL (r:=.old (.bl (decide (a=la p)))) (x:=.int a) (y:=.int (la p)) rfl (fL (r:=.old (.int (la p))) (x:=tupI p) (y:=.int (-1)) rfl rfl (by show (bc (p.map D.int) (-1)).map Res.old=_;rw[Uq h];rfl)) rfl)
 have e2:dB (d2 false rQ (dV 1) (d2 false av (dV 2) (dC (.int 0)))) [xN a,xN b,xU p] bx=.val (decide (fi p<=b)) bx :=
  gu (fL (r:=.old (.bl (decide (fi p<=b)))) (x:=.int b) (y:=.int (fi p)) rfl (fL (r:=.old (.int (fi p))) (x:=tupI p) (y:=.int 0) rfl rfl (by show (bc (p.map D.int) 0).map Res.old=_;rw[PN h];rfl)) rfl)
 cases q:decide (a=la p) with
 |false=>rw[q]at e1;exact BL e1
 |true=>rw[q]at e1;exact BM e1 e2
theorem AJ {p:List Int}(hp:p≠[]):∀ (l:List (Int×Int)) (x0 x1:Option W) (ns:List Int),ns.length+l.length<3000 ->
 ∃ y0 y1,eX gP Eu (eW (dV 1)) ((l.map dP).map W.d) [x0,x1,xU p] bx ns=some ([y0,y1,xU p],bx,((l.filter λq=>decide (q.1=la p)&&decide (fi p<=q.2)).map λq=>q.2).foldl cH ns)
 |[],x0,x1,ns,_=>⟨x0,x1,rfl⟩
 | q::l,x0,x1,ns,h=>by
   rw[a9]at h;have s1:=AD ns q.2;have e0:gP (W.d (dP q)) [x0,x1,xU p] bx=some ([some (W.d (.int q.1)),some (W.d (.int q.2)),xU p],bx):=rfl;have t:=Te (bx:=bx) hp q.1 q.2;cases c:decide (q.1=la p)&&decide (fi p<=q.2) with
   | false =>
     obtain⟨y0,y1,e⟩:=AJ hp l (xN q.1) (xN q.2) ns (by omega);rw[c]at t;exact⟨y0,y1,by rw[aQ,aQ,MP e0 t,e,zo (by rw[c];decide)]⟩
   | true =>
     obtain⟨y0,y1,e⟩:=AJ hp l (xN q.1) (xN q.2) (cH ns q.2) (by omega);rw[c]at t;refine⟨y0,y1,?_⟩;rw[aQ,aQ,mS e0 t (AI (i:=q.2) rfl (by omega)),e,zp (p:=λ(q:Int×Int)=>decide (q.1=la p)&&decide (fi p<=q.2)) c];rfl
theorem Ur {k:Nat}(M:Mv k ps) (k5:k<=5) (hl:ps.length<=10) (hp:p≠[]) (h0:env[0]?=some (xP ps)) (h4:env[4]?=some (xU p)) :
 p6 false [none,none,some 4] (ay (dV 0)) gP Eu (eW (dV 1)) env bx=.val (.d (.lst ((nH ps p).map D.int))) bx:=by
 obtain⟨y0,y1,e⟩:=AJ (bx:=bx) hp ps none none [] (by simp;omega);have l1:(dd ((ps.filter λq=>decide (q.1=la p)&&decide (fi p<=q.2)).map λq=>q.2)).length<64:=by
  have:=BW M p;rw[nH,oj]at this;omega
 unfold p6;rw[show ay (dV 0) env bx=.val ((ps.map dP).map W.d) bx from f8 (by rw[LX,h0]),fI];rw[show cD [none,none,some 4] env=[none,none,xU p] by simp[cD,h4],e];exact if_pos l1
variable {enc : α -> D} {r : aI}
theorem Qb {k:Nat}{l:List α}(hb:bx[k]?=some (.lst (l.map enc))) (p:α->Bool) (f:α->D):∀ (dQ pre:List α) (w:Option W) (acc:List D) (n:Nat),l=pre++dQ->dQ.length<n->acc.length+dQ.length<=sizeLine ->
 (∀ a∈dQ,tf (some (.d (enc a))::r) bx=.val (p a) bx /\ (p a=true->te (some (.d (enc a))::r) bx=.val (.d (f a)) bx)) ->
 kZ k (fc 0) tf te n pre.length (w::r) bx acc=.val (acc++(dQ.filter p).map f) bx
 |[],pre,w,acc,0,_,h,_,_=>absurd h (ub _)
 | [],pre,w,acc,n+1,e,_,_,_=>by
   have z:(l.map enc)[pre.length]?=none:=by rw[e];simp
   unfold kZ;rw[hb];simp only[z];simp
 |a::dQ,pre,w,acc,0,_,h,_,_=>absurd h (ub _)
 | a::dQ,pre,w,acc,n+1,e,hn,hz,h=>by
   obtain⟨h1,h2⟩:=h a (bZ ..);rw[a9]at hn hz;have n':acc.length<sizeLine:=by omega
   have z:(l.map enc)[pre.length]?=some (enc a):=by rw[e];simp
   have e0:fc 0 (W.d (enc a)) (w::r) bx=some (some (W.d (enc a))::r,bx):=rfl;have e':l=(pre++[a])++dQ:=by rw[e];simp
   cases c:p a with
   | false =>
     have ih:=Qb hb p f dQ (pre++[a]) (some (W.d (enc a))) acc n e' (by omega) (by omega) λx m=>h x (bS _ m);rw[bM]at ih;rw[c]at h1;rw[zo (by simp[c]),<-ih];rw[kZ,hb];simp only[z,e0,h1,Au];rfl
   | true =>
     have ih:=Qb hb p f dQ (pre++[a]) (some (W.d (enc a))) (acc++[f a]) n e' (by omega) (by simp;omega) λx m=>h x (bS _ m);rw[bM]at ih;rw[c]at h1;rw[zp c];rw[kZ,hb];simp only[z,e0,h1,h2 c,Au,if_pos n'];rw[show pre.length+1=pre.length+[a].length from rfl,ih];simp
theorem Zi {src:List (Option Nat)}{l:List α}{k:Nat}(p:α->Bool) (f:α->D) (h1:m env bx0=.val (.b k) bx) (hb:bx[k]?=some (.lst (l.map enc))) (he:cD src env=none::r) (n:l.length<=sizeLine)
 (h:∀ a∈l,tf (some (.d (enc a))::r) bx=.val (p a) bx /\ (p a=true->te (some (.d (enc a))::r) bx=.val (.d (f a)) bx)):kn false src m (fc 0) tf te env bx0=.val (.d (.lst ((l.filter p).map f))) bx:=by
 unfold kn;rw[h1,fI];simp only[he];have e:vc bx k=l.length:=by simp[vc,hb]
 have:=Qb hb p f l [] none [] (vc bx k+1) rfl (by rw[e];omega) (by simpa using n) h;rw[show ([]:List α).length=0 from rfl]at this;rw[this,fI,g9];rfl
end
section
variable {env1 : aI} {bx2 : List Bx} {t : DE Bool} {body : aj} 
theorem O4 (h:t env bx=.val false bx1):eF t body (n+1) env bx=.nx env bx1:=by rw[eF,h,mh]
theorem Us (h:t env bx=.val true bx1) (hb:body env bx1=.nx env1 bx2):eF t body (n+1) env bx=eF t body n env1 bx2:=by
 rw[eF,h,mh];simp only[hb]
end
noncomputable def Xb (B0:List Bx) (dl:List (List Key×D)) (G:List Bx) (acc:List D):List Bx:=(B0++.dT dl::G)++[.lst acc]
section
variable {B0 G : List Bx} {dl Zj : List (List Key × D)} {acc Eg : List D}
theorem adu:(Xb B0 dl G acc)[B0.length]?=some (.dT dl):=by simp[Xb]
theorem adv:(Xb B0 dl G acc).set B0.length (.dT Zj)=Xb B0 Zj G acc:=by simp[Xb]
theorem adw:(Xb B0 dl G acc)[B0.length+1+G.length]?=some (.lst acc):=by
 rw[Xb,cz (by simp;omega),show B0.length+1+G.length-(B0++.dT dl::G).length=0 by simp;omega];rfl
theorem adx:(Xb B0 dl G acc).set (B0.length+1+G.length) (.lst Eg)=Xb B0 dl G Eg:=by
 rw[Xb,ue _ _ (by simp;omega)];have:B0.length+1+G.length-(B0++.dT dl::G).length=0:=by simp;omega
 rw[this];rfl
end
def ek (x:List Int×List Int):List Key×D:=(x.1.map Sum.inl,tupI x.2)
theorem Gq:∀ {a b:List Int},a.map (Sum.inl:Int->Key)=b.map Sum.inl->a=b
 |[],[],_=>rfl
 |[],_::_,e=>by simp at e
 |_::_,[],e=>by simp at e
 | x::a,y::b,e=>by
   rw[aQ,aQ]at e;injection e with e1 e2;injection e1 with e1;rw[e1,Gq e2]
theorem Bw:∀ l:List Int,ve (l.map D.int)=some (l.map Sum.inl)
 |[]=>rfl
 |x::l=>by rw[aQ,ve,Bw l];rfl
theorem Gr (q:List Int):∀ d:List (List Int×List Int),(kq (d.map ek) (q.map Sum.inl)).isSome=has d q
 |[]=>rfl
 | x::d=>by
   have ih:=Gr q d;by_cases e:x.1=q
   ·have:kq ((x::d).map ek) (q.map Sum.inl)=some (tupI x.2):=by simp[kq,ek,e]
    rw[this];simp[has,e]
   ·have h:kq ((x::d).map ek) (q.map Sum.inl)=kq (d.map ek) (q.map Sum.inl):=by
     have:¬ x.1.map (Sum.inl:Int->Key)=q.map Sum.inl:=λz=>e (Gq z);simp[kq,ek,this]
    rw[h,ih];simp[has,e]
section
variable {k : Nat} {B0 : List Bx}
abbrev fB:aj:=(fu (fH (p6 false [none,none,some 4] (ay (dV 0)) gP Eu (eW (dV 1))) (fc 5)) (fu (bh (dB (d2 false (inD false) (d2 false av (dV 4) (dC (.int 0))) (dV 5))) (fV (tQ (dV 1) (dN false kH (fb (dN false nE (fb (dV 4) fe)) fe)) (dV 4))) bf) (fV (ph (dV 3) (fA false [none,some 4] (ay (dV 5)) (fc 0) (dB (d2 false (inD true) (dV 0) (dV 1))) (d2 false fM (dV 1) (gC (fb (dV 0) fe))))))))
theorem MQ:jV=(fu (fH Ep (fc 1)) (fu (fH (fA true [none] (ay (fj cE.fY 1 (fb (dV 0) fe))) (fc 0) fw (gC (fb (dV 0) fe))) (fc 2)) (fu (eF (uG (dV 2)) (fu (fH (f7 true fe) (fc 3)) (fu (iC (ay (kI 2)) (fc 4) fB) (fH (dV 3) (fc 2)))) 2000) (fO (wH true (dV 1)))))):=rfl
theorem O5 {q v:DE W}{d:List (List Int×List Int)}{key:List Int}(h1:m env bx=.val (.b n) bx) (g:bx[n]?=some (.dT (d.map ek))) (h2:q env bx=.val (.d (tupI key)) bx) (h3:v env bx=.val (.d (tupI p)) bx) (hl:d.length<sizeLine) :
 ∃ w,tQ m q v env bx=.val w (if has d key then bx else bx.set n (.dT ((d++[(key,p)]).map ek))):=by
 unfold tQ;simp only[h1,fI,g,h2,h3,Bw,aA,if_pos hl];have e:=Gr key d;cases c:kq (d.map ek) (key.map Sum.inl) with
 | some w =>
   rw[c]at e;exact⟨.d w,by rw[<-e];rfl⟩
 | none =>
   rw[c]at e;refine⟨.d (tupI p),?_⟩;rw[<-e,cV];rfl
theorem U0 (M:Mv k ps) (k5:k<=5) (hl:ps.length<=10) (P:nI ps p) {d:List (List Int×List Int)}{G:List Bx}{acc:List D}(hd:d.length<=4000) (ha:acc.length<=20000) (w2 w5:Option W) :
 ∃ y5,fB [xP ps,xB B0.length,w2,xB (B0.length+1+G.length),xU p,w5] (Xb B0 (d.map ek) G acc) =
  .nx [xP ps,xB B0.length,w2,xB (B0.length+1+G.length),xU p,y5] (Xb B0 ((ins ps d p).map ek) G (acc++(sh ps p).map tupI)):=by
 have sz:=bp;have pl:=P.len M;have e1:=Ur (bx:=Xb B0 (d.map ek) G acc) M k5 hl P.ne (env:=[xP ps,xB B0.length,w2,xB (B0.length+1+G.length),xU p,w5]) rfl rfl;refine⟨xJ (nH ps p),?_⟩;unfold fB;rw[fq (fW e1)];generalize hE:(List.set [xP ps,xB B0.length,w2,xB (B0.length+1+G.length),xU p,w5] 5 (xJ (nH ps p):Option W))=E;have vj:E=[xP ps,xB B0.length,w2,xB (B0.length+1+G.length),xU p,xJ (nH ps p)]:=by rw[<-hE];rfl
 have v4:∀ bx,dV 4 E bx=.val (.d (tupI p)) bx:=λbx=>by rw[vj];rfl
 have v5:∀ bx,dV 5 E bx=.val (.d (.lst ((nH ps p).map D.int))) bx:=λbx=>by rw[vj];rfl
 have v1:∀ bx,dV 1 E bx=.val (.b B0.length) bx:=λbx=>by rw[vj];rfl
 have v3:∀ bx,dV 3 E bx=.val (.b (B0.length+1+G.length)) bx:=λbx=>by rw[vj];rfl
 have s4:cD [none,some 4] E=[none,xU p]:=by rw[vj];rfl
 rw[<-vj];clear hE vj;have t:dB (d2 false (inD false) (d2 false av (dV 4) (dC (.int 0))) (dV 5)) E (Xb B0 (d.map ek) G acc)=.val (qZ ps p) (Xb B0 (d.map ek) G acc):=
  gu (fL (r:=.old (.bl (qZ ps p))) (fL (r:=.old (.int (fi p))) (v4 _) (y:=.int 0) rfl (by show (bc (p.map D.int) 0).map Res.old=_;rw[PN P.ne];rfl)) (v5 _) (by show inD false (.int (fi p)) _=_;rw[lC];rfl))
 have so:∀ bx,dN false kH (fb (dN false nE (fb (dV 4) fe)) fe) E bx=.val (.d (tupI (sortI p))) bx:=λbx=>by
  have s1:nE [.tup (p.map D.int)]=some (.lst ((sortI p).map D.int)):=by
   have:p.length<64:=by omega
   simp[nE,yf,K1.io,this]
  exact iq (r:=.tup ((sortI p).map D.int)) [.lst ((sortI p).map D.int)] (fg (iq (r:=.lst ((sortI p).map D.int)) [tupI p] (fg (v4 bx) rfl) s1) rfl) rfl
 have ady:bh (dB (d2 false (inD false) (d2 false av (dV 4) (dC (.int 0))) (dV 5))) (fV (tQ (dV 1) (dN false kH (fb (dN false nE (fb (dV 4) fe)) fe)) (dV 4))) bf E (Xb B0 (d.map ek) G acc)=.nx E (Xb B0 ((ins ps d p).map ek) G acc):=by
  unfold ins;cases c:qZ ps p with
  | false =>
    rw[c]at t;rw[jX t];rfl
  | true =>
    rw[c]at t;rw[BN t,if_pos rfl];obtain⟨w,e⟩:=O5 (d:=d) (v1 _) adu (so _) (v4 _) (by omega);rw[gH e];cases z:has d (sortI p) with
    |true=>rfl
    |false=>rw[if_neg (by decide),if_neg (by decide),adv]
 rw[fq ady];have fl:=BW M p;have c:fA false [none,some 4] (ay (dV 5)) (fc 0) (dB (d2 false (inD true) (dV 0) (dV 1))) (d2 false fM (dV 1) (gC (fb (dV 0) fe))) E (Xb B0 ((ins ps d p).map ek) G acc)=.val (.d (.lst ((sh ps p).map tupI))) (Xb B0 ((ins ps d p).map ek) G acc):=by
  have:=wJ (enc:=D.int) (r:=[xU p]) (l:=nH ps p) (bx:=Xb B0 ((ins ps d p).map ek) G acc) (bx0:=Xb B0 ((ins ps d p).map ek) G acc) (env:=E) (src:=[none,some 4]) (mi:=ay (dV 5)) (tf:=dB (d2 false (inD true) (dV 0) (dV 1))) (te:=d2 false fM (dV 1) (gC (fb (dV 0) fe))) (λr=>!decide (r∈p)) (λr=>tupI (p++[r])) (f8 (v5 _)) s4 (by omega) λr mr=>⟨gu (fL (r:=.old (.bl (!decide (r∈p)))) (x:=.int r) (y:=tupI p) rfl rfl (Gd true p r)),λ_=>fL (r:=.tup ((p++[r]).map D.int)) (x:=tupI p) (y:=.tup [.int r]) rfl (iL [.int r] rfl (show (1:Nat)<=sizeLine by omega)) (by rw[cV];exact if_pos (by simp;omega))⟩;rw[this,sh,nP];rfl
 refine gH (w:=.d .non) ?_;unfold ph;have nl:=BY M p;simp only[v3,fI,adw,c,aA];rw[if_pos (by omega),adx]
theorem Ut (M:Mv k ps) (k5:k<=5) (hl:ps.length<=10) {G:List Bx}(w2:Option W):∀ (l:List (List Int)) (d:List (List Int×List Int)) (acc:List D) (w4 w5:Option W),(∀ p∈l,nI ps p)->d.length+l.length<=4000->acc.length+5*l.length<=20000 ->
 ∃ y4 y5,dI (fc 4) fB ((l.map tupI).map W.d) [xP ps,xB B0.length,w2,xB (B0.length+1+G.length),w4,w5] (Xb B0 (d.map ek) G acc) =
  .nx [xP ps,xB B0.length,w2,xB (B0.length+1+G.length),y4,y5] (Xb B0 ((l.foldl (ins ps) d).map ek) G (acc++(l.flatMap (sh ps)).map tupI))
 |[],d,acc,w4,w5,_,_,_=>⟨w4,w5,by simp[dI]⟩
 | p::l,d,acc,w4,w5,P,hd,ha=>by
   rw[a9]at hd ha;obtain⟨y5,e⟩:=U0 (B0:=B0) M k5 hl (P p (.head _)) (d:=d) (G:=G) (acc:=acc) (by omega) (by omega) w2 w5;have il:(ins ps d p).length<=d.length+1:=by
    unfold ins;split
    ·split<;>simp
    ·simp
   have nl:=BY M p;obtain⟨z4,z5,e2⟩:=Ut M k5 hl (G:=G) w2 l (ins ps d p) (acc++(sh ps p).map tupI) (xU p) y5 (λq m=>P q (.tail _ m)) (by omega) (by simp;omega);refine⟨z4,z5,?_⟩;rw[aQ,aQ,mw (env1:=[xP ps,xB B0.length,w2,xB (B0.length+1+G.length),xU p,w5]) (bx1:=Xb B0 (d.map ek) G acc) rfl e,e2];simp
theorem Uu {ds:List D}{g:Nat}{G:List Bx}(hg:G[g]?=some (.lst ds)) (dl:List (List Key×D)) (x0 x1 x3 x4 x5:Option W):ay (kI 2) [x0,x1,xB (B0.length+1+g),x3,x4,x5] (Xb B0 dl G [])=.val (ds.map W.d) (Xb B0 dl (G.set g .dead) []):=by
 have gl:=(List.getElem?_eq_some_iff.mp hg).1;have e:(Xb B0 dl G [])[B0.length+1+g]?=some (.lst ds):=by
  rw[Xb,cn (by simp;omega),cz (by omega),show B0.length+1+g-B0.length=g+1 by omega,HF];exact hg
 have s:(Xb B0 dl G []).set (B0.length+1+g) .dead=Xb B0 dl (G.set g .dead) []:=by
  rw[Xb,HH _ _ (by simp;omega),ue _ _ (by omega),show B0.length+1+g-B0.length=g+1 by omega,List.set_cons_succ];rfl
 have f:kI 2 [x0,x1,xB (B0.length+1+g),x3,x4,x5] (Xb B0 dl G [])=.val (.d (.lst ds)) (Xb B0 dl (G.set g .dead) []):=by
  show (match (Xb B0 dl G [])[B0.length+1+g]? with|some (.lst l)=>O.val (W.d (.lst l)) ((Xb B0 dl G []).set (B0.length+1+g) .dead)|some (.ah l)=>.val (W.d (.ah l)) ((Xb B0 dl G []).set (B0.length+1+g) .dead)|_=>.bad)=_;rw[e];simp only[s]
 exact f8 f
abbrev wB:aj:=(fu (fH (f7 true fe) (fc 3)) (fu (iC (ay (kI 2)) (fc 4) fB) (fH (dV 3) (fc 2))))
theorem Uv {ds:List D}{g:Nat}{G:List Bx}(hg:G[g]?=some (.lst ds)) (dl:List (List Key×D)) (x0 x1 x3 x4 x5:Option W):uG (dV 2) [x0,x1,xB (B0.length+1+g),x3,x4,x5] (B0++.dT dl::G)=.val (!ds.isEmpty) (B0++.dT dl::G):=by
 have e:(B0++.dT dl::G)[B0.length+1+g]?=some (.lst ds):=by
  rw[cz (by omega),show B0.length+1+g-B0.length=g+1 by omega,HF];exact hg
 unfold uG;rw[show dV 2 [x0,x1,some (W.b (B0.length+1+g)),x3,x4,x5] (B0++.dT dl::G)=.val (.b (B0.length+1+g)) (B0++.dT dl::G) from rfl,fI];have r1:aJ (B0++.dT dl::G) (.b (B0.length+1+g))=some (.lst ds):=by simp only[aJ,e]
 rw[r1];rfl
theorem adz (M:Mv k ps) (k5:k<=5) (hl:ps.length<=10):∀ (m j:Nat) (g:Nat) (G:List Bx) (x3 x4 x5:Option W) (c:Nat),k<=j+m->G[g]?=some (.lst ((lvl ps j).map tupI)) ->
 ∃ j' y2 y3 y4 y5 G',eF (uG (dV 2)) wB (m+1+c) [xP ps,xB B0.length,xB (B0.length+1+g),x3,x4,x5] (B0++.dT ((bV ps j).map ek)::G) =
  .nx [xP ps,xB B0.length,y2,y3,y4,y5] (B0++.dT ((bV ps j').map ek)::G') /\ lvl ps j'=[]:=by
 intro m;induction m with
 | zero =>
   intro j g G x3 x4 x5 c hk hg;have e:=Gj M (show k<=j by omega);have t:=Uv (B0:=B0) hg ((bV ps j).map ek) (xP ps) (xB B0.length) x3 x4 x5;rw[e]at t;exact⟨j,_,_,_,_,G,by rw[show 0+1+c=c+1 by omega,O4 t],e⟩
 | succ m ih =>
   intro j g G x3 x4 x5 c hk hg;have t:=Uv (B0:=B0) hg ((bV ps j).map ek) (xP ps) (xB B0.length) x3 x4 x5;rw[show m+1+1+c=(m+1+c)+1 by omega];by_cases e:lvl ps j=[]
   ·rw[e]at t;exact⟨j,_,_,_,_,G,by rw[O4 t],e⟩
   ·have t':(!((lvl ps j).map tupI).isEmpty)=true:=by
     cases q:lvl ps j with
     |nil=>exact absurd q e
     |cons a l=>rfl
    rw[t']at t;have jk:j<k:=by
     rcases rj j k with q|q
     ·exact q
     ·exact absurd (Gj M q) e
    have l0:(lvl ps j).length<=3125:=bR (Gk M k5 j) (Hs (by decide) (show j+1<=5 by omega));have d0:=ML M k5 (ps:=ps) j;have s1:fH (f7 true fe) (fc 3) [xP ps,xB B0.length,xB (B0.length+1+g),x3,x4,x5] (B0++.dT ((bV ps j).map ek)::G)=.nx [xP ps,xB B0.length,xB (B0.length+1+g),xB (B0.length+1+G.length),x4,x5] (Xb B0 ((bV ps j).map ek) G []):=by
     rw[fW (jW [] rfl (cG _))];rw[show (B0++.dT ((bV ps j).map ek)::G).length=B0.length+1+G.length by simp;omega];rfl
    have s2:=Uu (B0:=B0) hg ((bV ps j).map ek) (xP ps) (xB B0.length) (xB (B0.length+1+G.length)) x4 x5;obtain⟨y4,y5,s3⟩:=Ut (B0:=B0) M k5 hl (G:=G.set g .dead) (xB (B0.length+1+g)) (lvl ps j) (bV ps j) [] x4 x5 (λp m=>(lQ m).1) (by omega) (by simp;omega);rw[kL]at s3;have b:wB [xP ps,xB B0.length,xB (B0.length+1+g),x3,x4,x5] (B0++.dT ((bV ps j).map ek)::G)=.nx [xP ps,xB B0.length,xB (B0.length+1+G.length),xB (B0.length+1+G.length),y4,y5] (B0++.dT ((bV ps (j+1)).map ek)::(G.set g .dead++[.lst ((lvl ps (j+1)).map tupI)])):=by
     unfold wB;rw[fq s1,fq ((jG s2).trans s3)];rw[fW (w:=.b (B0.length+1+G.length)) rfl];simp[Xb,bV,lvl]
    obtain⟨j',a2,a3,a4,a5,G',e',z'⟩:=ih (j+1) G.length (G.set g .dead++[.lst ((lvl ps (j+1)).map tupI)]) (xB (B0.length+1+G.length)) y4 y5 c (by omega) (by rw[cz (by simp),kL,k8];rfl);exact⟨j',a2,a3,a4,a5,G',by rw[Us t b,e'],z'⟩
theorem Ff (M:Mv k ps) (k5:k<=5) (hl:ps.length<=10):∃ rs g j,jq [.d (.lst (ps.map dP))] B0=.val (.b j) (B0++g) /\ (B0++g)[j]?=some (.lst (rs.map tupI)) /\ B0.length<=j /\ qa k ps rs:=by
 have sz:=bp;have nl:=AH M;obtain⟨j',x2,x3,x4,x5,G',e,z⟩:=adz (B0:=B0) M k5 hl 5 0 0 [.lst ((lvl ps 0).map tupI)] none none none 1994 (by omega) rfl;refine⟨(bV ps j').map (·.2),.dT ((bV ps j').map ek)::G'++[.lst (((bV ps j').map (·.2)).map tupI)],B0.length+1+G'.length,?_,?_,by omega,Td M k5 z⟩
 ·have c:fA true [none] (ay (fj cE.fY 1 (fb (dV 0) fe))) (fc 0) fw (gC (fb (dV 0) fe)) [xP ps,xB B0.length,none,none,none,none] (B0++[.dT []])=.val (.b (B0.length+1)) (B0++[.dT []]++[.lst ((lvl ps 0).map tupI)]):=by
   have e1:=Es (enc:=D.int) (tf:=fw) (te:=gC (fb (dV 0) fe)) (bx:=B0++[.dT []]) (r:=[]) (λ_=>true) (λr=>tupI [r]) (nm ps) none [] (by simp;omega) λa m=>⟨rfl,λ_=>iL [.int a] rfl (show (1:Nat)<=sizeLine by omega)⟩;rw[List.filter_eq_self.mpr λ_ _=>rfl]at e1;have:=OF (bx:=B0++[.dT []]) (env:=[xP ps,xB B0.length,none,none,none,none]) (src:=[none]) (mi:=ay (fj cE.fY 1 (fb (dV 0) fe))) (f8 (fK (l:=[.d (.lst (ps.map dP))]) rfl rfl (lW M k5 hl))) (e2:=[none]) rfl e1;rw[this];simp[lvl]
  have b:jV [xP ps,none,none,none,none,none] B0=.rt (.b (B0.length+1+G'.length)) (B0++(.dT ((bV ps j').map ek)::G'++[.lst (((bV ps j').map (·.2)).map tupI)])):=by
   rw[MQ,fq (env1:=[xP ps,xB B0.length,none,none,none,none]) (bx1:=B0++[.dT []]) (fW (w:=.b B0.length) (bx1:=B0++[.dT []]) rfl),fq (env1:=[xP ps,xB B0.length,xB (B0.length+1),none,none,none]) (bx1:=B0++[.dT []]++[.lst ((lvl ps 0).map tupI)]) (fW c)];rw[fq (env1:=[xP ps,xB B0.length,x2,x3,x4,x5]) (bx1:=B0++.dT ((bV ps j').map ek)::G') (by rw[<-e];simp[bV])];refine gN ?_;unfold wH;rw[show dV 1 [some (W.d (.lst (ps.map dP))),xB B0.length,x2,x3,x4,x5] (B0++.dT ((bV ps j').map ek)::G')=.val (.b B0.length) (B0++.dT ((bV ps j').map ek)::G') from rfl,fI];have g0:(B0++.dT ((bV ps j').map ek)::G')[B0.length]?=some (.dT ((bV ps j').map ek)):=by simp
   simp only[g0,LZ];rw[show (B0++.dT ((bV ps j').map ek)::G').length=B0.length+1+G'.length by simp;omega];simp[ek]
  show ed B0.length (dZ (aG jV [xP ps,none,none,none,none,none] B0))=_;unfold aG;rw[b];rfl
 ·rw[cz (by omega),show B0.length+1+G'.length-B0.length=(.dT ((bV ps j').map ek)::G':List Bx).length by simp;omega,cz (aq _),k8];rfl
end
section
variable {k : Nat} {h : D} 
theorem qa.good (M:Mv k ps) (R:qa k ps rs):Good k rs:=λr m=>⟨(R.p r m).1.ne,λi mi=>AG M ((R.p r m).1.nm i mi)⟩
abbrev tB:aj:=(fu (fH (fA false [none,some 2] (ay (dV 0)) (fc 0) (dB (d2 false (inD true) (dV 0) (dV 1))) (dV 0)) (fc 3)) (fu (fH (fA false [none,none,some 3] (ay (dV 1)) gP (dB (d2 false (inD false) (dV 0) (dV 2))) (dV 1)) (fc 4)) (fV (ph (dV 2) (fA false [none,some 4] (ay (dV 3)) (fc 0) (dB (d2 false (inD true) (dV 0) (dV 1))) (dV 0))))))
abbrev tT:DE Bool:=dB (d2 false cL (dN false az (fb (dV 2) fe)) (dN false az (fb (dV 0) fe)))
theorem O6:lP=(fu (fH (f7 true fe) (fc 2)) (fu (eF tT tB 2000) (fO (kI 2)))):=rfl
noncomputable def Tx (bx:List Bx) (told:List Int):List Bx:=bx++[.lst (told.map D.int)]
theorem O7 {told:List Int}:(Tx bx told)[bx.length]?=some (.lst (told.map D.int)):=by simp[Tx]
theorem U1 {told t2:List Int}:(Tx bx told).set bx.length (.lst (t2.map D.int))=Tx bx t2:=by simp[Tx]
theorem Uw (rooms told:List Int) (x1 x3 x4:Option W):tT [xJ rooms,x1,xB bx.length,x3,x4] (Tx bx told)=.val (decide (told.length<rooms.length)) (Tx bx told):=by
 have r1:aJ (Tx bx told) (.b bx.length)=some (.lst (told.map D.int)):=by simp only[aJ,O7]
 have a:dN false az (fb (dV 2) fe) [xJ rooms,x1,xB bx.length,x3,x4] (Tx bx told)=.val (.d (.int (told.length:Nat))) (Tx bx told):=by
  rw[CL,show fb (dV 2) fe [some (W.d (.lst (rooms.map D.int))),x1,xB bx.length,x3,x4] (Tx bx told)=.val [.b bx.length] (Tx bx told) from rfl,fI];have:dn (Tx bx told) [.b bx.length]=some [.lst (told.map D.int)]:=by simp only[dn,r1];rfl
  rw[this];simp[az]
 have b:dN false az (fb (dV 0) fe) [xJ rooms,x1,xB bx.length,x3,x4] (Tx bx told)=.val (.d (.int (rooms.length:Nat))) (Tx bx told):=iq (r:=.old (.int (rooms.length:Nat))) [.lst (rooms.map D.int)] (fg rfl rfl) (by simp[az]);refine gu (fL (r:=.old (.bl (decide (told.length<rooms.length)))) a b ?_);show some (Res.old (.bl (decide ((told.length:Int)<(rooms.length:Int)))))=_;congr 3;rw[ku,decide_eq_true_eq,decide_eq_true_eq];omega
theorem U2 {rooms told:List Int}(hr:rooms.length<=100) (ht:told.length<=200) (hl:ps.length<=10) (x3 x4:Option W) :
 ∃ y3 y4,tB [xJ rooms,xP ps,xB bx.length,x3,x4] (Tx bx told)=.nx [xJ rooms,xP ps,xB bx.length,y3,y4] (Tx bx (vi ps rooms told)):=by
 have sz:=bp;have c1:fA false [none,some 2] (ay (dV 0)) (fc 0) (dB (d2 false (inD true) (dV 0) (dV 1))) (dV 0) [xJ rooms,xP ps,xB bx.length,x3,x4] (Tx bx told)=.val (.d (.lst ((aZ rooms told).map D.int))) (Tx bx told):=
  wJ (enc:=D.int) (r:=[xB bx.length]) (λx=>!decide (x∈told)) D.int (f8 rfl) rfl (by omega) λx _=>⟨gu (Um (r:=.old (.bl (!decide (x∈told)))) (x:=.int x) rfl rfl O7 (lC true told x)),λ_=>rfl⟩
 have wl:(aZ rooms told).length<=rooms.length:=xl _ _;have c2:fA false [none,none,some 3] (ay (dV 1)) gP (dB (d2 false (inD false) (dV 0) (dV 2))) (dV 1) [xJ rooms,xP ps,xB bx.length,xJ (aZ rooms told),x4] (Tx bx told)=.val (.d (.lst ((cS ps (aZ rooms told)).map D.int))) (Tx bx told):=by
  refine iI (f8 (ds:=ps.map dP) rfl) (e2:=[none,none,xJ (aZ rooms told)]) rfl ?_;rw[Qa (λq=>decide (q.1∈aZ rooms told)) (λq=>.int q.2) ps none none [] (by simp;omega) λq _=>⟨gu (fL (r:=.old (.bl (decide (q.1∈aZ rooms told)))) (x:=.int q.1) (y:=.lst ((aZ rooms told).map D.int)) rfl rfl (lC false _ _)),λ_=>rfl⟩];simp[cS]
 have c3:fA false [none,some 4] (ay (dV 3)) (fc 0) (dB (d2 false (inD true) (dV 0) (dV 1))) (dV 0) [xJ rooms,xP ps,xB bx.length,xJ (aZ rooms told),xJ (cS ps (aZ rooms told))] (Tx bx told)=.val (.d (.lst (((aZ rooms told).filter λx=>!decide (x∈cS ps (aZ rooms told))).map D.int))) (Tx bx told):=
  wJ (enc:=D.int) (r:=[xJ (cS ps (aZ rooms told))]) (λx=>!decide (x∈cS ps (aZ rooms told))) D.int (f8 rfl) rfl (by omega) λx _=>⟨gu (fL (r:=.old (.bl (!decide (x∈cS ps (aZ rooms told))))) (x:=.int x) (y:=.lst ((cS ps (aZ rooms told)).map D.int)) rfl rfl (lC true _ _)),λ_=>rfl⟩
 have fl:((aZ rooms told).filter λx=>!decide (x∈cS ps (aZ rooms told))).length<=(aZ rooms told).length:=xl _ _;refine⟨xJ (aZ rooms told),xJ (cS ps (aZ rooms told)),?_⟩;unfold tB;rw[fq (env1:=[xJ rooms,xP ps,xB bx.length,xJ (aZ rooms told),x4]) (bx1:=Tx bx told) (fW c1)];rw[fq (env1:=[xJ rooms,xP ps,xB bx.length,xJ (aZ rooms told),xJ (cS ps (aZ rooms told))]) (bx1:=Tx bx told) (fW c2)];refine gH (w:=.d .non) ?_;unfold ph;rw[show dV 2 [some (W.d (.lst (rooms.map D.int))),xP ps,xB bx.length,xJ (aZ rooms told),xJ (cS ps (aZ rooms told))] (Tx bx told)=.val (.b bx.length) (Tx bx told) from rfl,fI];simp only[O7,c3,fI,aA];rw[if_pos (by omega),<-cV,U1];rfl
theorem JE {rooms:List Int}(hr:rooms.Nodup) (F:vh ps rooms) (r5:rooms.length<=100) (hl:ps.length<=10):∀ (m:Nat) (told:List Int) (x3 x4:Option W) (c:Nat),Told ps rooms told->rooms.length-told.length<=m ->
 ∃ t2 y3 y4,eF tT tB (m+1+c) [xJ rooms,xP ps,xB bx.length,x3,x4] (Tx bx told)=.nx [xJ rooms,xP ps,xB bx.length,y3,y4] (Tx bx t2) /\ Told ps rooms t2 /\ rooms.length<=t2.length:=by
 intro m;induction m with
 | zero =>
   intro told x3 x4 c T hm;have t:=Uw (bx:=bx) rooms told (xP ps) x3 x4;rw[decide_eq_false (by omega)]at t;exact⟨told,x3,x4,by rw[show 0+1+c=c+1 by omega,O4 t],T,by omega⟩
 | succ m ih =>
   intro told x3 x4 c T hm;have t:=Uw (bx:=bx) rooms told (xP ps) x3 x4;rw[show m+1+1+c=(m+1+c)+1 by omega];by_cases q:told.length<rooms.length
   ·rw[decide_eq_true q]at t;obtain⟨y3,y4,b⟩:=U2 (bx:=bx) (ps:=ps) (rooms:=rooms) (told:=told) r5 (by omega) hl x3 x4;have mo:=JD hr F q;obtain⟨t2,z3,z4,e,T2,l2⟩:=ih (vi ps rooms told) y3 y4 c (JC T hr) (by omega);exact⟨t2,z3,z4,by rw[Us t b,e],T2,l2⟩
   ·rw[decide_eq_false q]at t;exact⟨told,x3,x4,by rw[O4 t],T,by omega⟩
theorem JF {rooms:List Int}(hr:rooms.Nodup) (F:vh ps rooms) (r5:rooms.length<=100) (hl:ps.length<=10):∃ told,jb [.d (.lst (rooms.map D.int)),.d (.lst (ps.map dP))] bx=.val (.d (.lst (told.map D.int))) bx /\ Told ps rooms told /\ rooms.length<=told.length:=by
 obtain⟨t2,y3,y4,e,T,l⟩:=JE (bx:=bx) hr F r5 hl 100 [] none none 1899 ⟨.nil,(λx m=>nomatch m),λu b v q=>by simp at q⟩ (by simp;omega);refine⟨t2,?_,T,l⟩;show ed bx.length (dZ (aG lP [xJ rooms,xP ps,none,none,none] bx))=_;have b:lP [xJ rooms,xP ps,none,none,none] bx=.rt (.d (.lst (t2.map D.int))) (bx++[.dead]):=by
  rw[O6,fq (env1:=[xJ rooms,xP ps,xB bx.length,none,none]) (bx1:=Tx bx []) (fW (jW [] rfl (cG _))),fq e];refine gN ?_;have s:(Tx bx t2).set bx.length .dead=bx++[.dead]:=by simp[Tx]
  show (match (Tx bx t2)[bx.length]? with|some (.lst l)=>O.val (W.d (.lst l)) ((Tx bx t2).set bx.length .dead)|some (.ah l)=>.val (W.d (.ah l)) ((Tx bx t2).set bx.length .dead)|_=>.bad)=_;rw[O7];simp only[s]
 unfold aG;rw[b];simp[dZ,ed]
end
structure Op (k:Nat) (ps:List (Int×Int)) (row:List Int) (rs:List (List Int)):Prop where
 R:qa k ps rs
 m:∃ m told,p7 k rs m /\ Told ps (rest ps m) told /\ (rest ps m).length<=told.length /\ row=m++told++m
section
variable {k : Nat} {h : D}
variable {row : List Int} 
theorem Op.len (O:Op k ps row rs):∃ m,p7 k rs m /\ row.length=(nm ps).length+m.length:=by
 obtain⟨m,told,L,T,tl,rfl⟩:=O.m;have wI:=T.nd.length_le_of_subset (l₂:=rest ps m) λx mx=>T.sub x mx;have:=MN O.R L;exact⟨m,L,by simp;omega⟩
theorem Op.adA (M:Mv k ps) (O:Op k ps row rs):∀ x∈row,0<=x /\ x<(k:Int):=by
 obtain⟨m,told,L,T,tl,rfl⟩:=O.m;have hm:=(mR L.1).2;intro x mx;rcases bN.mp mx with mx|mx
 ·rcases bN.mp mx with mx|mx
  ·exact hm x mx
  ·exact AG M (iu.mp (T.sub x mx)).1
 ·exact hm x mx
theorem Op.does (O:Op k ps row rs):∀ q∈ps,∃ A B,row=A++B /\ q.1∈A /\ q.2∈B:=by
 obtain⟨m,told,L,T,tl,rfl⟩:=O.m;have all:=MO T tl;rintro⟨a,b⟩ mq;have na:a∈nm ps:=lD.mpr ⟨_,mq,.inl rfl⟩;have nb:b∈nm ps:=lD.mpr ⟨_,mq,.inr rfl⟩;by_cases hb:b∈m
 ·refine⟨m++told,m,rfl,?_,hb⟩;by_cases ha:a∈m
  ·exact cU _ ha
  ·exact bT _ (all a (iu.mpr ⟨na,ha⟩))
 ·have tb:=all b (iu.mpr ⟨nb,hb⟩);by_cases ha:a∈m
  ·exact⟨m,told++m,by simp,ha,cU _ tb⟩
  ·obtain⟨u,v,e⟩:=zq tb;have au:=T.ord u b v e a (iu.mpr ⟨na,ha⟩) mq;exact⟨m++u,b::v++m,by rw[e];simp,bT _ au,by simp⟩
theorem AK:∀ {c:List Int},Ch ps c->∀ z,(la c,z)∈ps->c≠[]->(c.zip (c.drop 1++[z])).all (λq=>decide (q∈ps))=true
 |[],_,_,_,h=>absurd rfl h
 |[a],_,z,e,_=>by simp;exact e
 | a::b::l,h,z,e,_=>by
   have ih:=AK h.2 z (by rw[BV]at e;exact e) (by simp);show ((a,b)::((b::l).zip (l++[z]))).all _=true;rw[qj,aE];exact⟨decide_eq_true h.1,ih⟩
theorem Op.ring (M:Mv k ps) (k5:k<=5) (O:Op k ps row rs):∀ r∈rs,sg ps (tupI r)=true:=λr mr=>by
 obtain⟨P,C⟩:=O.R.p r mr;have l5:=P.len M;have l2:2<=r.length:=by
  cases r with
  |nil=>exact absurd rfl P.ne
  | cons a l =>
    cases l with
    |nil=>exact absurd rfl (M _ C.cl).2.2.2.2
    |cons b l=>simp
 have e:r.take 1=[fi r]:=by
  obtain⟨a,l,rfl⟩:=qm P.ne;rfl
 have s:steps ps r=true:=by
  unfold steps;rw[e];exact AK C.ch _ C.cl P.ne
 have d:(HT.dist r).length=r.length:=by
  rw[Bu];have h1:=(mP r).length_le_of_subset (l₂:=r) λx m=>AF.mp m;have h2:=P.nd.length_le_of_subset (l₂:=dd r) λx m=>AF.mpr m;omega
 show (decide (2<=(r.map D.int).length /\ (r.map D.int).length<=5)&&(match intsOf (r.map D.int) with|some is=>sf ps is|none=>false))=true;rw[K1.io,aA,decide_eq_true ⟨l2,by omega⟩];show sf ps r=true;unfold sf;rw[s,decide_eq_true d];rfl
end
end cE
namespace K55
open L2 L2.DL K1 aH ck cE
def pw (ps:List (Int×Int)) (is:List Int):Prop:=∀ q∈ps,∃ A B,is=A++B /\ q.1∈A /\ q.2∈B
structure Mn (ps:List (Int×Int)) (n:Nat):Prop where
 ex:∃ row,pw ps row /\ row.length=n
 lo:∀ is,pw ps is->n<=is.length
section
variable {bF : List (Int × Int)} {n' k : Nat} {m row : List Int}
theorem Mn.le (h:Mn ps n) (h':Mn bF n') (f:∀ r,pw ps r->∃ r',pw bF r' /\ r'.length=r.length):n'<=n:=by
 obtain⟨r,d,e⟩:=h.ex;obtain⟨r',d',e'⟩:=f r d;have:=h'.lo r' d';omega
theorem pw.map (d:pw ps is) (f g:Int->Int) (h:∀ q∈bF,∃ p∈ps,q=(f p.1,f p.2)):pw bF (is.map f):=λq mq=>by
 obtain⟨p,mp,rfl⟩:=h q mq;obtain⟨A,B,rfl,a,b⟩:=d p mp;exact⟨A.map f,B.map f,cV,zk a,zk b⟩
theorem pw.rev (d:pw ps is) (h:∀ q∈bF,(q.2,q.1)∈ps):pw bF is.reverse:=λq mq=>by
 obtain⟨A,B,rfl,a,b⟩:=d _ (h q mq);exact⟨B.reverse,A.reverse,List.reverse_append,List.mem_reverse.mpr b,List.mem_reverse.mpr a⟩
theorem Mn.same (h:Mn ps n) (h':Mn bF n') (f g:Int->Int) (h1:∀ q∈bF,∃ p∈ps,q=(f p.1,f p.2)) (h2:∀ q∈ps,∃ p∈bF,q=(g p.1,g p.2)):n'=n :=
 xc (h.le h' λr d=>⟨r.map f,d.map f g h1,by simp⟩) (h'.le h λr d=>⟨r.map g,d.map g f h2,by simp⟩)
theorem Mn.turn (h:Mn ps n) (h':Mn bF n') (h1:∀ q∈bF,(q.2,q.1)∈ps) (h2:∀ q∈ps,(q.2,q.1)∈bF):n'=n :=
 xc (h.le h' λr d=>⟨r.reverse,d.rev h1,by simp⟩) (h'.le h λr d=>⟨r.reverse,d.rev h2,by simp⟩)
theorem Mn.sub (h:Mn ps n) (h':Mn bF n') (f:∀ q∈bF,q∈ps):n'<=n:=h.le h' λr d=>⟨r,λq mq=>d q (f q mq),rfl⟩
theorem Mn.eq (h:Mn ps n) (h':Mn ps n'):n'=n:=xc (h.sub h' λ_ m=>m) (h'.sub h λ_ m=>m)
theorem Qc:∀ l:List Int,(l.map λ_=>0).sum=0
 |[]=>rfl
 |a::l=>by rw[aQ,ug,Qc l]
theorem MR:∀ {l:List Int}(a:Int),l.Nodup->(l.map λx=>if a==x then 1 else 0).sum<=1
 |[],_,_=>by simp
 | b::l,a,h=>by
   rw[pF]at h;have ih:=MR a h.2;rw[aQ,ug];by_cases e:a=b
   ·subst e;have z:(l.map λx=>if a==x then 1 else 0)=l.map λ_=>0:=Hx λx mx=>by
     have:a≠x:=λq=>h.1 (q▸mx);simp[this]
    rw[z,Qc];simp
   ·have:(a==b)=false:=by simpa using e
    rw[this];simpa using ih
theorem MS {l:List Int}(h:l.Nodup):∀ is:List Int,(l.map λx=>is.count x).sum<=is.length
 |[]=>by simp[Qc]
 | a::is=>by
   have ih:=MS h is;have o:=MR a h;have e:∀ l:List Int,(l.map λx=>(a::is).count x).sum=(l.map λx=>is.count x).sum+(l.map λx=>if a==x then 1 else 0).sum:=λl=>by
    induction l with
    |nil=>rfl
    | cons b l ih =>
      rw[aQ,aQ,aQ,ug,ug,ug,ih,List.count_cons];omega
   rw[e,a9];omega
theorem MT:∀ (l:List Int),(∀ x∈l,1<=is.count x)->l.length+(l.filter λx=>decide (2<=is.count x)).length<=(l.map λx=>is.count x).sum
 |[],_=>by simp
 | a::l,h=>by
   have ih:=MT l λx mx=>h x (bS _ mx);have h1:=h a bZ;rw[HE,aQ,ug,a9];split
   ·rename_i z;have:=of_decide_eq_true z;rw[a9];omega
   ·omega
theorem Dh:∀ {is C:List Int},(∃ x∈is,x∈C)->∃ u x v,is=u++x::v /\ x∈C /\ ∀ z∈u,z∉C
 |[],_,⟨x,m,_⟩=>nomatch m
 | a::is,C,h=>by
   by_cases ha:a∈C
   ·exact⟨[],a,is,rfl,ha,λz m=>nomatch m⟩
   ·obtain⟨x,mx,mc⟩:=h;rcases aO.mp mx with rfl|mx
    ·exact absurd mc ha
    ·obtain⟨u,y,v,rfl,my,hu⟩:=Dh ⟨x,mx,mc⟩;refine⟨a::u,y,v,rfl,my,λz mz=>?_⟩;rcases aO.mp mz with rfl|mz
     ·exact ha
     ·exact hu z mz
theorem low (R:qa k ps rs) (L:p7 k rs m) (M:Mv k ps) (d:pw ps is):(nm ps).length+m.length<=is.length:=by
 have Zk:∀ x∈nm ps,x∈is:=λx mx=>by
  obtain⟨q,mq,e⟩:=lD.mp mx;obtain⟨A,B,rfl,a,b⟩:=d q mq;rcases e with rfl|rfl
  ·exact cU _ a
  ·exact bT _ b
 have pos:∀ x∈nm ps,1<=is.count x:=λx mx=>List.count_pos_iff.mpr (Zk x mx);have fr:vh ps (rest ps ((nm ps).filter λx=>decide (2<=is.count x))):=λS C hS=>by
  obtain⟨x0,m0⟩:=List.exists_mem_of_ne_nil S C.1;obtain⟨u,x,v,e,mx,hu⟩:=Dh (is:=is) (C:=S) ⟨x0,Zk _ (iu.mp (hS x0 m0)).1,m0⟩;obtain⟨y,my,pq⟩:=C.2 x mx;obtain⟨A,B,e2,a,b⟩:=d _ pq;have c1:¬ 2<=is.count x:=λz=>(iu.mp (hS x mx)).2 (cW.mpr ⟨(iu.mp (hS x mx)).1,decide_eq_true z⟩);have xb:1<=B.count x:=List.count_pos_iff.mpr b;have xa:1<=A.count x:=by
   refine List.count_pos_iff.mpr ?_;rw[e]at e2;rcases List.append_eq_append_iff.mp e2 with⟨w,ew,_⟩|⟨w,ew,eb⟩
   ·rw[ew]at a;cases w with
    | nil =>
      rw[ng]at a ew;exact absurd my (hu y a)
    | cons z w =>
      have:x=z:=by
       have q:=e2;rw[ew,eC]at q;have:=List.append_cancel_left q;simpa using (List.cons.inj this).1
      subst this;rw[ew];simp
   ·have ya:y∈u:=by rw[ew];exact cU _ a
    exact absurd my (hu y ya)
  rw[e2,List.count_append]at c1;omega
 have hit:=JA R fr;have adB:((nm ps).filter λx=>decide (2<=is.count x)).Pairwise (·<·):=(Df (om ps) (jH ps)).sublist List.filter_sublist;have sb:=mQ (k:=k) adB λx mx=>AG M (cW.mp mx).1;have l1:=L.2.2 _ sb hit;have l2:=MT (is:=is) (nm ps) pos;have l3:=MS (jH ps) is;omega
theorem Op.mn (M:Mv k ps) (O:Op k ps row rs):Mn ps row.length:=by
 refine⟨⟨row,O.does,rfl⟩,λis d=>?_⟩;obtain⟨m,L,e⟩:=O.len;have:=low O.R L M d;omega
theorem AL (M:Mv k ps):(ps.all (rowOne is))=true ↔ pw ps is:=by
 rw[cA];refine⟨λh q mq=>?_,λh q mq=>?_⟩
 ·have:=h q mq;unfold rowOne at this;split at this
  ·cases this
  ·rename_i i hi;obtain⟨hl,h1,h2⟩:=List.findIdx?_eq_some_iff_getElem.mp hi;obtain⟨j,hj,e⟩:=mO.mp this;have e1:is[i]=q.1:=of_decide_eq_true h1;have ne:i≠j:=λz=>by
    subst z;rw[bI hl,e1]at e;exact(M q mq).2.2.2.2 (Option.some.inj e)
   refine⟨is.take (i+1),is.drop (i+1),(Wg _ _).symm,?_,?_⟩
   ·rw[<-e1];exact List.mem_take_iff_getElem.mpr ⟨i,by omega,rfl⟩
   ·refine xf (i:=j-(i+1)) ?_;rw[HK,show i+1+(j-(i+1))=j by omega];exact e
 ·obtain⟨A,B,rfl,a,b⟩:=h q mq;unfold rowOne;split
  ·rename_i hn;have:=List.findIdx?_eq_none_iff.mp hn q.1 (cU _ a);simp at this
  ·rename_i i hi;obtain⟨hl,h1,h2⟩:=List.findIdx?_eq_some_iff_getElem.mp hi;have il:i<A.length:=by
    rcases rj i A.length with z|z
    ·exact z
    ·obtain⟨t,ht,e⟩:=zi a;have:=h2 t (by omega);rw[List.getElem_append_left ht,e]at this;simp at this
   obtain⟨t,ht,e⟩:=zi b;refine mO.mpr ⟨A.length+t,by omega,?_⟩;rw[cz (by omega),zd,bI ht,e]
end
end K55
namespace L2.DL
mutual
noncomputable def sj:D->Bool
 |.tup l=>eM l
 |.lst _=>false
 |.ah _=>false
 |_=>true
noncomputable def eM:List D->Bool
 |[]=>true
 |d::l=>sj d&&eM l
end
noncomputable def qb (F:Hp) (a:Addr):Hp:=λb=>if b=a then none else F b
theorem oW {b:Addr}(h:b≠a):qb F a b=F b:=if_neg h
mutual
theorem Den.cut {F:Hp}{a:Addr}{zs:List V}(h:F a=some (.lst zs)):∀ (d:D) {v:V},sj d=true->Den F d v->Den (qb F a) d v
 |.non,_,_,q=>q
 |.bl _,_,_,q=>q
 |.int _,_,_,q=>q
 |.str _,_,_,q=>q
 | .tup l,_,n,q=>by
   obtain⟨b,vs,e,h1,h2⟩:=q;refine⟨b,vs,e,?_,ao.cut h l n h2⟩;rw[oW (λz=>by rw[z,h]at h1;cases h1)];exact h1
 |.lst _,_,n,_=>by cases n
 |.ah _,_,n,_=>by cases n
theorem ao.cut {F:Hp}{a:Addr}{zs:List V}(h:F a=some (.lst zs)):∀ (l:List D) {vs:List V},eM l=true->ao F l vs->ao (qb F a) l vs
 |[],_,_,q=>q
 | d::l,_,n,q=>by
   obtain⟨v,r,e,h1,h2⟩:=q;have n':(sj d&&eM l)=true:=n;rw[aE]at n';exact⟨v,r,e,Den.cut h d n'.1 h1,ao.cut h l n'.2 h2⟩
end
def eY:Bx->Bx
 |.lst l=>if eM l then .lst l else .dead
 |_=>.dead
def yJ (n:Nat) (l:List D) (bx:List Bx):List Bx:=(bx.map eY).set n (.lst l)
def dh (fn:List W->List Bx->O W) (n j:Nat) (k:DE (List W)):DE W:=λenv bx=>fm (k env bx) λws bx1=>match ws[j]? with
 | some (.b i)=>(match bx1[i]? with
   | some (.lst l)=>if ws.length=n then (match fn (ws.set j (.d (.lst l))) (bx1.set i .dead) with
     |.val (.d d) bx2=>if sj d then .val (.d d) (yJ i l bx2) else .bad
     |_=>.bad) else .bad
   |_=>.bad)
 |_=>.bad
theorem cw.Zl {F F':Hp}{r:List Addr}{w':W}{v:V}(g:aL F r F' r) (hw:bB F' r w' v):∀ {ws:List W}{vs:List V}(j:Nat),cw F r ws vs->vs[j]?=some v->cw F' r (ws.set j w') vs
 |[],_,_,q,_=>q
 | w::ws,_,0,q,e=>by
   obtain⟨u,t,rfl,h1,h2⟩:=q;cases e;exact⟨_,t,rfl,hw,h2.mono g⟩
 | w::ws,_,j+1,q,e=>by
   obtain⟨u,t,rfl,h1,h2⟩:=q;exact⟨u,t,rfl,g.den h1,cw.Zl g hw j h2 e⟩
theorem cw.at {F:Hp}{r:List Addr}:∀ {ws:List W}{vs:List V}{j:Nat}{w:W},cw F r ws vs->ws[j]?=some w->∃ v,vs[j]?=some v /\ bB F r w v
 |[],_,_,_,_,e=>by simp at e
 | w::ws,_,0,_,q,e=>by
   obtain⟨u,t,rfl,h1,h2⟩:=q;cases e;exact⟨u,rfl,h1⟩
 | w::ws,_,j+1,_,q,e=>by
   obtain⟨u,t,rfl,h1,h2⟩:=q;exact h2.at (by simpa using e)
theorem Rel.rest (R:Rel T F r σ H env bx) (hb:bx[i]?=some (.lst l)) (ha:r[i]?=some a) (k1:H a=some (.lst vs)) :
 Rel ⟨H,r.length,upd F a (.lst vs)⟩ (upd F a (.lst vs)) r [] H [] (bx.set i .dead):=by
 have R0:=R.enter;refine⟨λb u e=>?_,λi w e=>by simp at e,by rw[kL];exact R.len,R.nd,λn c b e1 e2=>?_,R0.keep,R0.new,aq _,aq _,λb u e=>.inl e⟩
 ·by_cases z:b=a
  ·subst z;rw[fC]at e;rw[k1,e]
  ·rw[fG z]at e;exact R.fh b u e
 ·by_cases z:n=i
  ·subst z;rw[qi (List.getElem?_eq_some_iff.mp hb).1]at e1;cases e1;rw[ha]at e2;cases e2;exact⟨_,k1⟩
  ·rw[pC (λq=>z q.symm)]at e1;have q:=R.box n c b e1 e2;have nb:b≠a:=λq=>by
    subst q;exact z (Hw (List.getElem?_eq_some_iff.mp e2).1 R.nd |>.mp (e2.trans ha.symm))
   have s:Sub F (upd F a (.lst vs)):=λd u e=>by
    by_cases y:d=a
    ·subst y;obtain⟨q1,_⟩:=R.box i _ d hb ha;rw[q1]at e;cases e
    ·rw[fG y];exact e
   have un:upd F a (.lst vs) b=F b:=fG nb;cases c with
   |lst _=>obtain⟨q1,ws,q2,q3⟩:=q;exact⟨un.trans q1,ws,q2,ao.mono s _ q3⟩
   |ah _=>obtain⟨q1,ws,q2,q3⟩:=q;exact⟨un.trans q1,ws,q2,aK.mono s _ q3⟩
   |dT _=>obtain⟨q1,ws,q2,q3⟩:=q;exact⟨un.trans q1,ws,q2,eT.mono s _ q3⟩
   |dead=>exact q
theorem Rel.yJ {F' H':Hp}{r':List Addr}{bx':List Bx}(R:Rel T F r σ H env bx) (hb:bx[i]?=some (.lst l)) (ha:r[i]?=some a) (k0:F a=none) (k2:ao F l vs) (g:aL (upd F a (.lst vs)) r F' r')
 (R':Rel ⟨H,r.length,upd F a (.lst vs)⟩ F' r' [] H' [] bx'):aL F r (qb F' a) r' /\ Rel T (qb F' a) r' σ H' env (yJ i l bx'):=by
 have fa:F' a=some (.lst vs):=g.s a _ fC;have s:Sub F (qb F' a):=λb u e=>by
  have nb:b≠a:=λq=>by subst q;rw[k0]at e;cases e
  rw[oW nb];exact g.s b u (by rw[fG nb];exact e)
 have g':aL F r (qb F' a) r':=⟨s,g.p⟩;have Eo:r'[i]?=some a:=by
  obtain⟨t,et⟩:=g.p;rw[<-et,cn (List.getElem?_eq_some_iff.mp ha).1];exact ha
 refine⟨g',R.after g' ⟨λb u e=>?_,λi w e=>by simp at e,?_,R'.nd,λn c b e1 e2=>?_,R'.keep,R'.new,R'.n0,R'.sl,λb u e=>?_⟩⟩
 ·by_cases z:b=a
  ·subst z;unfold qb at e;rw[if_pos rfl]at e;cases e
  ·rw[oW z]at e;exact R'.fh b u e
 ·show r'.length=((bx'.map eY).set i (.lst l)).length;rw[kL,aA];exact R'.len
 ·have kG:((bx'.map eY).set i (.lst l))[n]?=some c:=e1;by_cases z:n=i
  ·subst z;have hl:n<(bx'.map eY).length:=by
    rw[aA,<-R'.len];exact(List.getElem?_eq_some_iff.mp Eo).1
   rw[qi hl]at kG;cases kG;rw[Eo]at e2;cases e2;exact⟨if_pos rfl,vs,R'.fh _ _ fa,ao.mono s _ k2⟩
  ·rw[pC (λq=>z q.symm),dS]at kG;cases e3:bx'[n]? with
   |none=>rw[e3]at kG;cases kG
   | some c0 =>
     rw[e3]at kG;cases kG;have q:=R'.box n c0 b e3 e2;cases c0 with
     | lst m =>
       obtain⟨q1,ws,q2,q3⟩:=q;show qH (qb F' a) H' b (if eM m then .lst m else .dead);split
       ·rename_i hm;refine⟨?_,ws,q2,ao.cut fa m hm q3⟩;unfold qb;split
        ·rfl
        ·exact q1
       ·exact⟨_,q2⟩
     |ah _=>obtain⟨q1,ws,q2,q3⟩:=q;exact⟨_,q2⟩
     |dT _=>obtain⟨q1,ws,q2,q3⟩:=q;exact⟨_,q2⟩
     |dead=>exact q
 ·by_cases z:b=a
  ·subst z;unfold qb at e;rw[if_pos rfl]at e;cases e
  ·rw[oW z]at e;rcases R'.fs b u e with q|q
   ·exact .inl ((fG z).symm.trans q)
   ·exact .inr q
theorem O8 {k:DE (List W)}{Q:VK}(h:tD T Z (dh fn n j k) σ H Q):IQ (qK Z.cl n fn) [] Z.E (xV T Z k) σ H Q:=by
 obtain⟨F,r,env,bx,R,h⟩:=h;refine⟨F,r,env,bx,R,End.bind h λws bx1 F1 r1 us H1 g1 R1 d1 h1=>?_⟩;split at h1
 case h_2=>exact h1.elim
 rename_i i ew;split at h1
 case h_2=>exact h1.elim
 rename_i l eb;split at h1
 case isFalse=>exact h1.elim
 rename_i hl;obtain⟨v,ev,a,rfl,ha⟩:=d1.at ew;obtain⟨k0,vs,k1,k2⟩:=R1.box i _ a eb ha;have s:Sub F1 (upd F1 a (.lst vs)):=λb u e=>by
  by_cases y:b=a
  ·subst y;rw[k0]at e;cases e
  ·rw[fG y];exact e
 have gS:aL F1 r1 (upd F1 a (.lst vs)) r1:=⟨s,qk _⟩;refine⟨upd F1 a (.lst vs),r1,ws.set j (.d (.lst l)),bx1.set i .dead,R1.rest eb ha k1,?_,by rw[kL];exact hl,?_⟩
 ·rw[ng];exact cw.Zl (w':=.d (.lst l)) gS (show Den _ (.lst l) _ from⟨a,vs,rfl,fC,ao.mono s _ k2⟩) j d1 ev
 ·split at h1
  case h_2=>exact h1.elim
  rename_i d bx2 ef;split at h1
  case isFalse=>exact h1.elim
  rename_i nd;rw[ef];intro F' r' v H' g R' dv;obtain⟨gT,RT⟩:=R1.yJ eb ha k0 k2 g R';exact h1 _ r' v H' gT RT (Den.cut (g.s a _ fC) d nd dv)
end L2.DL
namespace L2
def Zm:V->List V->Hp->VK->Prop:=λx vs H Q=>∃ l xs i y,x=.ref l /\ vs=[.int i,y] /\ H l=some (.lst xs) /\ 0<=i /\ i<=xs.length /\ xs.length<sizeLine /\ Q .non (upd H l (.lst (xs.take i.toNat++y::xs.drop i.toNat)))
theorem JG:xF X "list.insert" Zm:=by
 intro pins s σ H x vs v us Q I rx rv h;obtain⟨l,xs,i,y,rfl,rfl,hH,h0,h1,hz,q⟩:=h;cases rx;obtain⟨v0,u,rfl,r0,ru⟩:=rv.two;obtain⟨t,rfl⟩:=r0;obtain⟨z,its,n,r,hl,e⟩:=I.sX hH;have sz:=bp;have fit:Builtin.List.listFitsIndex i=true:=Vx (by omega) (by omega);refine wV W8 ⟨_,e,rfl⟩ PySem.F.entry_list_insert (PySem.F.args_list_insert_3 _ _ _) (aak l its.toArray n i t u (by rw[fit];decide) (by rw[aT];omega)) ⟨e,?_⟩;refine⟨.non,_,I.xG (its':=its.take i.toNat++u::its.drop i.toNat) hH e ?_ ((r.take _).append (.cons ru (r.drop _))) ?_,rfl,q⟩
 ·show (its.toArray.extract 0 (if i<0 then (i+(its.toArray.size:Int)).toNat else min i.toNat its.toArray.size)).push u++its.toArray.extract (if i<0 then (i+(its.toArray.size:Int)).toNat else min i.toNat its.toArray.size)=_;have k:(if i<0 then (i+(its.toArray.size:Int)).toNat else min i.toNat its.toArray.size)=i.toNat:=by
   rw[aT,if_neg (by omega)];omega
  rw[k];exact PySem.W.kl_ins_eq its i.toNat u
 ·rw[bM,a9,vF,xg];omega
end L2
namespace L2.DL
section
variable {a b f o : Expr} {mb mc : DE W} {p : Pos} {k k' nn : Nat} {ps : List Str} {m : DE (List W)}
theorem Tf (h:pd X.prog X.w X.K X.mg X.base Z.cl k x ps fn) (hr:cZ k' X.A) (hk:k<=k') (hg:Gl X x) (hx:Passes (nu X.prog X.w) X Z.E) (ha:bX X T Z (e::es) m)
 (cc:ki (e::es)=true) (hn:ps.length=nn) (cJ:(x==("__debug__":Str))=false):PD X T Z (.Call (.Name x p) (e::es) [] pos) (dh fn nn j m):=by
 subst hn;obtain⟨f,fd,G,hm,KI,hb,_⟩:=h;exact PE.imp (Fq G (hr.mono hk) hg hm KI hb .nil hx ha cJ (fk (gO cc).1 es X.env) (gW (gO cc).2)) λσ H Q h=>O8 h
def tW (m k q:DE W):DE W:=λenv bx=>fm (m env bx) λx bx1=>match x with
 | .b n=>(match bx1[n]? with
   | some (.lst _)=>fm (k env bx1) λy bx2=>fm (q env bx2) λz aD=>(match y,z,aD[n]? with
     |.d (.int i),.d d,some (.lst l)=>if 0<=i /\ i<=l.length /\ l.length<sizeLine then .val (.d .non) (aD.set n (.lst (l.take i.toNat++d::l.drop i.toNat))) else .bad
     |_,_,_=>.bad)
   |_=>.bad)
 |_=>.bad
theorem Ux {Q:VK}(h:tD T Z (tW ma mb mc) σ H Q):xE X.K "list" Zm (tD T Z ma) (vX (tD T Z mb) (vX (tD T Z mc) xC)) σ H Q:=by
 obtain⟨F,r,env,bx,R,h⟩:=h;refine⟨F,r,env,bx,R,End.bind h λx bx1 F1 r1 v H1 g1 R1 d1 h1=>?_⟩;cases x with
 | b n =>
   simp only at h1;obtain⟨a,rfl,ha⟩:=d1;obtain⟨c,hc,kc⟩:=R1.dH ha;rw[hc]at h1;cases c with
   | lst l0 =>
     obtain⟨_,kW,k0,_⟩:=kc;refine⟨.inl ⟨rfl,kW,aS.of k0⟩,F1,r1,env,bx1,R1,End.bind h1 λy bx2 F2 r2 u H2 g2 R2 d2 h2=>⟨F2,r2,env,bx2,R2,End.bind h2 λz aD F3 r3 w H3 g3 R3 d3 h3=>?_⟩⟩;have tN:=g3.at (g2.at ha);obtain⟨c3,adC,adD⟩:=R3.dH tN;rw[adC]at h3;split at h3
     ·rename_i i d l eq;cases eq;obtain⟨hF,vs,k1,k2⟩:=adD;cases (show u=.int i from d2);split at h3
      ·rename_i hz;exact⟨a,vs,i,w,rfl,rfl,k1,hz.1,by rw[<-k2.length];exact hz.2.1,by rw[<-k2.length];exact hz.2.2,h3 F3 r3 _ _ (.refl F3 r3) (R3.write tN hF ⟨hF,_,fC,(k2.take _).append (.cons d3 (k2.drop _))⟩) rfl⟩
      ·exact h3.elim
     ·exact h3.elim
   |_=>exact h1.elim
 |_=>exact h1.elim
theorem Tg (ho:PD X T Z o ma) (ha:PD X T Z e mb) (hf:PD X T Z f mc)
 (kE:attributeBase o "insert" X.env (eval o X.env)=eval o X.env)
 (pN:((backTo pos (starEach [e,f] X.env)).all (λx=>!x.1)&&(backToKw pos (keywordEach [] X.env)).all (λx=>x.1.isSome)
  && decide ([e,f].length+([]:List Keyword).length+(if ([]:List Keyword).isEmpty then 0 else 1)<30))=true)
 (kF:(apos.endLine==pos.line)=true) (n1:aR e=true) (n2:aR f=true) :
 PD X T Z (.Call (.Attribute o "insert" apos) [e,f] [] pos) (tW ma mb mc):=
 PE.imp (Fv xp W8 PySem.F.type_list_insert JG ho (iN ha (iN hf lX (fk n2 [] X.env)) (fk n1 [f] X.env)) kE pN kF (fk n1 [f] X.env) (by rw[fk n2];rfl)) λσ H Q h=>Ux h
def wL (m:DE W):DE W:=λenv bx=>fm (m env bx) λx bx1=>match x with
 | .b n=>(match bx1[n]? with
   |some (.lst _)=>.val (.d .non) (bx1.set n (.lst []))
   |_=>.bad)
 |_=>.bad
theorem Uy {Q:VK}(h:tD T Z (wL ma) σ H Q):XW X.K "list" X0 (tD T Z ma) σ H Q:=by
 obtain⟨F,r,env,bx,R,h⟩:=h;refine⟨F,r,env,bx,R,End.bind h λx bx1 F1 r1 v H1 g1 R1 d1 h1=>?_⟩;cases x with
 | b n =>
   simp only at h1;obtain⟨a,rfl,ha⟩:=d1;obtain⟨c,hc,kc⟩:=R1.dH ha;rw[hc]at h1;cases c with
   | lst l0 =>
     obtain⟨hF,kW,k0,_⟩:=kc;exact⟨.inl ⟨rfl,kW,aS.of k0⟩,a,kW,rfl,rfl,k0,h1 F1 r1 _ _ (.refl F1 r1) (R1.write ha hF ⟨hF,_,fC,.nil⟩) rfl⟩
   |_=>exact h1.elim
 |_=>exact h1.elim
theorem Th (ho:PD X T Z o ma) (kE:attributeBase o "clear" X.env (eval o X.env)=eval o X.env) (kF:(apos.endLine==pos.line)=true) :
 PD X T Z (.Call (.Attribute o "clear" apos) [] [] pos) (wL ma):=
 PE.imp (RE xp PySem.F.slot_list_clear PySem.F.type_list_clear J7 ho kE kF) λσ H Q h=>Uy h
def sk (m:DE W):DE W:=λenv bx=>fm (m env bx) λx bx1=>match x with
 |.d (.bl b)=>.val (.d (.bl (!b))) bx1
 |_=>.bad
def Zn (ta:TE):TE:=λσ H Q=>ta σ H λx H1=>∃ b,x=.bl b /\ Q (.bl (!b)) H1
theorem Gs {j pos'}{ta:TE}(ha:PE X a ta):PC X .IsNot a (.Constant (.bool true) j pos') (Zn ta):=by
 intro pins s σ H Q I h;refine ai (ha pins s σ H _ I h) λv s1 ⟨x,H1,I1,r1,b,e,q1⟩=>?_;subst e;cases r1;exact Constant_bool (isnot_bool ⟨.bl _,H1,I1,by cases b<;>rfl,q1⟩)
theorem MU {Q:VK}(h:tD T Z (sk ma) σ H Q):Zn (tD T Z ma) σ H Q:=by
 obtain⟨F,r,env,bx,R,h⟩:=h;refine⟨F,r,env,bx,R,End.bind h λx bx1 F1 r1 v H1 g1 R1 d1 h1=>?_⟩;split at h1
 ·rename_i b;exact⟨b,d1,h1 F1 r1 _ H1 (.refl F1 r1) R1 rfl⟩
 ·exact h1.elim
noncomputable def yK (n:Nat) (k:h8):DG:=λw env bx=>match w with|.t l=>if l.length=n then k (l.map W.b) env bx else none|_=>none
theorem pP.ws {F:Hp}{r:List Addr}:∀ {l:List Nat}{as:List Addr},pP r l as->cw F r (l.map W.b) (as.map V.ref)
 |[],_,h=>by cases (show _=[] from h);exact rfl
 | n::l,_,h=>by
   obtain⟨a,t,rfl,h1,h2⟩:=h;exact⟨_,_,rfl,⟨a,rfl,h1⟩,h2.ws⟩
theorem MV {q:h8}(hc:X.calm=true) (h:qL X T es q) (cc:ki es=true) (hn:es.length=nn):dY X T (.Tuple es i pos) (yK nn q):=by
 refine PG.imp (Dq hc h ((iY cc).1.trans hn) (iY cc).2) λv σ H Q ⟨F,r,env,bx,w,R,d,h⟩=>?_;unfold yK at h;split at h
 ·rename_i l;split at h
  ·rename_i hl;obtain⟨p,as,rfl,h1,h2⟩:=d;exact⟨p,_,rfl,.of (R.fh _ _ h1),by rw[aA,<-h2.length];exact hl,F,r,env,bx,_,R,h2.ws,h⟩
  ·exact h.elim
 ·exact h.elim
end
end L2.DL
namespace K55
open L2 L2.DL
def jv:aj:=(fu (kU 2 3 (fb (dN false az (fb (d2 false av (dV 1) (dC (.int 0))) fe)) (fb (f7 true fe) fe))) (fu (iC (bC (fb (tu (dB (d2 false h9 (dV 2) (dC (.int 1)))) (fj K1.ff 2 (fb (dV 0) (fb (dC (.int 11)) fe))) (dC (.int 0))) fe)) (fc 4) (fu (fH (fj K1.ff 2 (fb (dV 0) (fb (dV 2) fe))) (fc 5)) (fu (fH (d2 false eG (d2 false fM (d2 false fM (dV 5) (dC (.int 1))) (fj K1.ff 2 (fb (dV 0) (fb (d2 false en (dV 2) (dC (.int 1))) fe)))) (dV 2)) (fc 6)) (fu (fV (n8 (dV 3) (gC (fb (dV 5) (fb (dV 6) fe))))) (bh (dB (d2 false dt (fj K1.ff 2 (fb (dV 0) (fb (dC (.int 5)) fe))) (dC (.int 0)))) (fH (gC (fb (d2 false av (d2 false av (dV 3) (dC (.int 0))) (dC (.int 1))) (fb (d2 false av (d2 false av (dV 3) (dC (.int 0))) (dC (.int 0))) fe))) (rT (dV 3) (qP (dC (.int 1))))) bf))))) (fO (dV 3))))
def iy:List W->List Bx->O W:=aY 7 (aG jv)
def lE:aj:=(fu (fH (dN true tF (fb (dV 1) fe)) (fc 2)) (fO (fA false [none,some 0,some 2] (ay (dV 1)) (fc 0) fw (rX (dV 2) (fj K1.ff 2 (fb (dV 1) (fb (dN false az (fb (dV 2) fe)) fe)))))))
def iT:List W->List Bx->O W:=aY 3 (aG lE)
def j6:aj:=(fu (fV (fj aH.gf 2 (fb (dV 0) (fb (dV 1) fe)))) (fu (fH (fj cE.jq 1 (fb (dV 1) fe)) (fc 2)) (fu (fH (dN false tF (fb (dh ck.fS 2 1 (fb (dV 0) (fb (dV 2) fe))) fe)) (fc 3)) (fu (fH (fA false [none,some 3] (ay (fj cE.fY 1 (fb (dV 1) fe))) (fc 0) (dB (d2 false (inD true) (dV 0) (dV 1))) (dV 0)) (fc 4)) (fO (En (fb (d2 true fM (d2 false fM (dV 3) (fj cE.jb 2 (fb (dV 4) (fb (dV 1) fe)))) (dV 3)) (fb (dV 2) fe))))))))
def jw:List W->List Bx->O W:=aY 5 (aG j6)
def iJ:aj:=(bh (cC (dB (fj K1.jj 1 (fb (dV 0) fe)))) kj bf)
def iz:List W->List Bx->O W:=aY 1 (aG iJ)
def lG:aj:=(fu (fV (fj aH.gf 2 (fb (dV 0) (fb (dV 1) fe)))) (fu (fV (fj K55.iz 1 (fb (dV 2) fe))) (fu (bh (kS (cC (dB (iM "list" (dV 3)))) (dB (d2 false h9 (dN false az (fb (dV 3) fe)) (dC (.int 30))))) (fO (dC (.bl false))) bf) (fO (gq (dN false bP (fb (fA false [none,some 0,some 1] (ay (dV 3)) (fc 0) fw (fj ck.jU 3 (fb (dV 1) (fb (dV 2) (fb (dV 0) fe))))) fe)) (d2 false rQ (dN false az (fb (fj ck.fS 2 (fb (dV 0) (fb (dV 3) fe))) fe)) (dV 2)))))))
def iU:List W->List Bx->O W:=aY 4 (aG lG)
def j7:aj:=(fu (fH (fj K55.jw 2 (fb (dV 0) (fb (dV 1) fe))) (yK 2 (fJ (fc 2) (fJ (fc 3) gU)))) (fu (fH (dN false wD (fb (d2 false fM (fA false [none] (ay (dV 1)) (fc 0) fw (d2 false av (dV 0) (dC (.int 0)))) (fA false [none] (ay (dV 1)) (fc 0) fw (d2 false av (dV 0) (dC (.int 1))))) fe)) (fc 4)) (fu (bh (kS (dB (sk (dh aH.fT 3 2 (fb (dV 0) (fb (dV 1) (fb (dV 2) fe)))))) (dB (sk (dh K55.iU 4 3 (fb (dV 0) (fb (dV 1) (fb (d2 false en (dN false az (fb (dV 2) fe)) (dN false az (fb (dV 4) fe))) (fb (dV 3) fe)))))))) (fO (dC .non)) bf) (fu (fH (dN false az (fb (dV 2) fe)) (fc 5)) (fu (fV (tW (dV 2) (dC (.int 0)) (dC (.int 0)))) (fu (fV (wL (dV 3))) (fO (dV 5))))))))
def fZ:List W->List Bx->O W:=aY 6 (aG j7)
def gG:aj:=(fu (fH (f7 true (fb (f7 false fe) fe)) (fc 3)) (fu (iC (bC (fb (d2 false en (dV 2) (dC (.int 1))) fe)) (fc 4) (fu (bh (dB (d2 false c9 (kn false [none,some 0,some 1] (dV 3) (fc 0) (dB (fj aH.fT 3 (fb (dV 1) (fb (dV 2) (fb (dV 0) fe))))) (dV 0)) (f7 false fe))) (fO (dC (.bl false))) bf) (fu (fH (f7 true fe) (fc 5)) (fu (iC (ay (kI 3)) (fc 6) (fV (ph (dV 5) (fA false [none,some 6] (bC (fb (dN false az (fb (d2 false av (dV 0) (dC (.int 0))) fe)) fe)) (fc 0) fw (d2 false fM (dV 1) (f7 false (fb (dV 0) fe))))))) (fH (dV 5) (fc 3)))))) (fO (d2 false dt (kn false [none,some 0,some 1,some 2] (dV 3) (fc 0) (nv (dB (d2 false cL (dN false az (fb (dV 0) fe)) (dV 3))) (dB (fj aH.fT 3 (fb (dV 1) (fb (dV 2) (fb (dV 0) fe)))))) (dV 0)) (f7 false fe)))))
def gz:List W->List Bx->O W:=aY 7 (aG gG)
def MW:aj:=(fu (iC (bC (fb (dN false maxD (fb (dC (.int 1)) (fb (dN false minD (fb (qQ (dV 0)) (fb (dC (.int 3)) fe))) fe))) fe)) (fc 1) (fu (fH (fj K1.iZ 1 (fb (fj K1.gM 2 (fb (dV 0) (fb (dV 1) fe))) fe)) (fc 2)) (fu (fH (fj aH.im 1 (fb (dV 2) fe)) (fc 3)) (fu (fH (fj K55.iy 2 (fb (dV 2) (fb (dV 3) fe))) (fc 4)) (fu (kU 5 6 (fb (dh K55.fZ 2 1 (fb (dV 3) (fb (dV 4) fe))) (fb (dN false az (fb (d2 false av (dV 3) (dC (.int 0))) fe)) fe))) (fu (bh (kS (dB (qU false (dV 5))) (nv (dB (d2 false cL (dV 6) (dC (.int 4)))) (cC (dB (dh K55.gz 3 1 (fb (dV 3) (fb (dV 4) (fb (dV 5) fe)))))))) (fO (dC (.bl false))) bf) (fu (fH (fj K55.iT 2 (fb (dV 2) (fb (uX false (fb (dV 6) fe)) fe))) (fc 7)) (fu (iC (ay (gC (fb (kn false [none,none,some 7] (dV 4) (ia 2 (fJ (fc 0) (fJ (fc 1) gU))) fw (gC (fb (d2 false av (dV 2) (dV 0)) (fb (d2 false av (dV 2) (dV 1)) fe)))) (fb (kn false [none,none] (dV 4) (ia 2 (fJ (fc 0) (fJ (fc 1) gU))) fw (gC (fb (dV 1) (fb (dV 0) fe)))) fe)))) (fc 8) (bh (dB (d2 false c9 (fj K55.fZ 2 (fb (dV 3) (fb (dV 8) fe))) (dV 5))) (fO (dC (.bl false))) bf)) (fu (iC (bC (fb (dC (.int 8)) fe)) (fc 9) (fu (fH (fA false [none,some 2,some 6] (bC (fb (fj K1.ff 2 (fb (dV 2) (fb (dC (.int 10)) fe))) fe)) (fc 0) fw (fj K1.ff 2 (fb (dV 1) (fb (dV 2) fe)))) (fc 10)) (bh (nv (dB (dh aH.fT 3 1 (fb (dV 3) (fb (dV 4) (fb (dV 10) fe))))) (dB (d2 false cL (dN false az (fb (dV 10) fe)) (dV 5)))) (fO (dC (.bl false))) bf))) (bh (dB (d2 false c9 (dV 4) (f7 false fe))) (fu (fH (fj K1.ff 2 (fb (dV 2) (fb (dN false az (fb (dV 4) fe)) fe))) (fc 11)) (fu (kU 12 13 (fb (d2 false fM (dJ false (dV 4) c8 (cQ (dV 11))) (dJ false (dV 4) (cQ (d2 false fM (dV 11) (dC (.int 1)))) c8)) (fb (d2 false av (dV 4) (dV 11)) fe))) (fu (fH (fj K55.fZ 2 (fb (dV 3) (fb (dV 12) fe))) (fc 14)) (fu (bh (kS (dB (qU false (dV 14))) (dB (d2 false h9 (dV 14) (dV 5)))) (fO (dC (.bl false))) bf) (fu (fV (rX (dV 4) (dV 11))) (fu (bh (dB (d2 false c9 (dh K55.fZ 2 1 (fb (dV 3) (fb (dV 4) fe))) (dV 14))) (fO (dC (.bl false))) bf) (fu (fV (tW (dV 4) (dV 11) (dV 13))) (bh (dB (d2 false c9 (dh K55.fZ 2 1 (fb (dV 3) (fb (dV 4) fe))) (dV 5))) (fO (dC (.bl false))) bf)))))))) bf)))))))))) (fO (dC (.bl true))))
def B5:List W->List Bx->O W:=aY 15 (aG MW)
end K55
namespace cE
open L2 L2.DL K1 aH ck
section
variable {k : Nat} {h : D} 
open Classical in
def qF (ps:List (Int×Int)) (T:List Int):Bool:=decide (vh ps (rest ps T))
end
section
variable {k : Nat} {h : D} {row : List Int}
abbrev adE (i:Nat):DE W:=dN false wD (fb (d2 false fM (fA false [none] (ay (dV i)) (fc 0) fw (d2 false av (dV 0) (dC (.int 0)))) (fA false [none] (ay (dV i)) (fc 0) fw (d2 false av (dV 0) (dC (.int 1))))) fe)
theorem Ti (ps:List (Int×Int)):sortI (HT.dist ((ps.map λq=>q.1)++ps.map λq=>q.2))=nm ps:=by
 rw[Bu];refine oF (ju (mP _)) (jH ps) (gE _) (om ps) λx=>?_;rw[iX,AF,lD,bN,a6,a6];constructor
 ·rintro(⟨q,m,rfl⟩|⟨q,m,rfl⟩)
  ·exact⟨q,m,.inl rfl⟩
  ·exact⟨q,m,.inr rfl⟩
 ·rintro⟨q,m,rfl|rfl⟩
  ·exact .inl ⟨q,m,rfl⟩
  ·exact .inr ⟨q,m,rfl⟩
theorem Uz (M:Mv k ps) (k5:k<=5) (hl:ps.length<=10) (h0:env[i]?=some (xP ps)):adE i env bx=.val (.d (.lst ((nm ps).map D.int))) bx:=by
 have sz:=bp;have v:dV i env bx=.val (.d (.lst (ps.map dP))) bx:=by rw[LX,h0]
 have c1:fA false [none] (ay (dV i)) (fc 0) fw (d2 false av (dV 0) (dC (.int 0))) env bx=.val (.d (.lst (ps.map λq=>D.int q.1))) bx:=wK (enc:=dP) (r:=[]) (λq=>.int q.1) (f8 v) rfl (by omega) λq _=>fL (r:=.old (.int q.1)) (x:=dP q) (y:=.int 0) rfl rfl rfl;have c2:fA false [none] (ay (dV i)) (fc 0) fw (d2 false av (dV 0) (dC (.int 1))) env bx=.val (.d (.lst (ps.map λq=>D.int q.2))) bx:=wK (enc:=dP) (r:=[]) (λq=>.int q.2) (f8 v) rfl (by omega) λq _=>fL (r:=.old (.int q.2)) (x:=dP q) (y:=.int 1) rfl rfl rfl;have a:d2 false fM (fA false [none] (ay (dV i)) (fc 0) fw (d2 false av (dV 0) (dC (.int 0)))) (fA false [none] (ay (dV i)) (fc 0) fw (d2 false av (dV 0) (dC (.int 1)))) env bx=.val (.d (.lst (((ps.map λq=>q.1)++ps.map λq=>q.2).map D.int))) bx:=by
  refine fL (r:=.lst (((ps.map λq=>q.1)++ps.map λq=>q.2).map D.int)) c1 c2 ?_;rw[cV,nP,nP];exact if_pos (by simp;omega)
 refine iq (r:=.lst ((nm ps).map D.int)) [.lst (((ps.map λq=>q.1)++ps.map λq=>q.2).map D.int)] (fg a rfl) ?_;have l1:=OR ((ps.map λq=>q.1)++ps.map λq=>q.2);have l2:((ps.map λq=>q.1)++ps.map λq=>q.2).length<=20:=by simp;omega
 show ((intsOf (((ps.map λq=>q.1)++ps.map λq=>q.2).map D.int)).bind λns=>if ns.length<4000 /\ (HT.dist ns).length<64 then some (Res.lst ((sortI (HT.dist ns)).map D.int)) else none)=_;rw[K1.io,ba,if_pos ⟨by omega,by omega⟩,Ti]
theorem adF (h1:m env bx=.val (.b j) bx) (hb:bx[j]?=some (.lst l)):dN false az (fb m fe) env bx=.val (.d (.int (l.length:Nat))) bx:=by
 have r1:aJ bx (.b j)=some (.lst l):=by simp only[aJ,hb]
 rw[CL,fg h1 rfl,fI];have:dn bx [.b j]=some [.lst l]:=by simp only[dn,r1];rfl
 rw[this];simp[az]
end
end cE
namespace K55
open L2 L2.DL K1 aH ck cE
def bj (bx:List Bx):Prop:=bx.map eY=bx
theorem B6 (l:List D):eY (.lst l)=if eM l=true then .lst l else .dead:=rfl
theorem ou (h:eM l=true):eY (.lst l)=.lst l:=by rw[B6,if_pos h]
theorem JH (b:Bx):eY (eY b)=eY b:=by
 cases b with
 | lst l =>
   by_cases h:eM l=true
   ·rw[ou h,ou h]
   ·rw[B6,if_neg h];rfl
 |_=>rfl
theorem MX (b:List Bx):bj (b.map eY):=by
 unfold bj;rw[nP];exact Hx λx _=>JH x
theorem bj.app {a b:List Bx}(h:bj a) (q:bj b):bj (a++b):=by unfold bj at *;rw[cV,h,q]
theorem bj.get (h:bj bx) (e:bx[i]?=some (.lst l)):eM l=true:=by
 have q:(bx.map eY)[i]?=some (.lst l):=by rw[h];exact e
 rw[dS,e]at q;have q':eY (.lst l)=.lst l:=Option.some.inj q;rw[B6]at q';split at q'
 ·assumption
 ·cases q'
theorem B7 (h:eM l=true):bj [.lst l]:=by
 show [eY (.lst l)]=_;rw[ou h]
theorem mT {α:Type}{f:α->D}(h:∀ a,sj (f a)=true):∀ l:List α,eM (l.map f)=true
 |[]=>rfl
 | a::l=>by
   show (sj (f a)&&eM (l.map f))=true;rw[h,mT h l];rfl
theorem Di (l:List Int):eM (l.map D.int)=true:=mT (λ_=>rfl) l
theorem Gu (l:List Int):sj (tupI l)=true:=Di l
theorem Dj (l:List (List Int)):eM (l.map tupI)=true:=mT Gu l
theorem Gv (l:List (Int×Int)):eM (l.map dP)=true:=mT (λ_=>rfl) l
theorem bj.set {bx:List Bx}(h:bj bx) (i:Nat) {l:List D}(n:eM l=true):bj (bx.set i (.lst l)):=by
 have e:=ou n;unfold bj at *;rw[HN,h,e]
section
variable {k : DE (List W)} {ws : List W} 
theorem Gw (h:k env bx=.val ws bx1) (hj:ws[j]?=xB i) (hb:bx1[i]?=some (.lst l)) (hn:ws.length=n) (nl:eM l=true)
 (e:fn (ws.set j (.d (.lst l))) (bx1.set i .dead)=.val (.d d) (bx1.set i .dead)) (nd:sj d=true):dh fn n j k env bx=.val (.d d) (bx1.map eY):=by
 unfold dh;rw[h,fI];simp only[hj,hb,if_pos hn,e,if_pos nd];congr 1;unfold yJ;have il:=(List.getElem?_eq_some_iff.mp hb).1;have ek:=ou nl;rw[HN,HG];apply vG;intro t;by_cases z:t=i
 ·subst z;rw[qi (by rw[aA];exact il),dS,hb,kN,ek]
 ·rw[pC (λq=>z q.symm)]
theorem mU (h:k env bx=.val ws bx1) (hj:ws[j]?=xB i) (hb:bx1[i]?=some (.lst l)) (hn:ws.length=n) (C:bj bx1)
 (e:fn (ws.set j (.d (.lst l))) (bx1.set i .dead)=.val (.d d) (bx1.set i .dead)) (nd:sj d=true):dh fn n j k env bx=.val (.d d) bx1:=by
 have q:=Gw h hj hb hn (C.get hb) e nd;rw[C]at q;exact q
end
section
variable {h : D} {k : Nat} {row : List Int} 
theorem Fg (H:bQ h k) (M:Mv k ps) (hl:ps.length<=10) (C:bj bx):∃ row rs g i j,jw [.d h,.d (.lst (ps.map dP))] bx=.val (.t [i,j]) (bx++g) /\ (bx++g)[i]?=some (.lst (row.map D.int)) /\ (bx++g)[j]?=some (.lst (rs.map tupI)) /\ bx.length<=i /\ bx.length<=j /\ i≠j /\ Op k ps row rs /\ bj (bx++g):=by
 have sz:=bp;have n5:=H.n5;obtain⟨rs,g0,j,e1,Qd,e3,R⟩:=Ff (B0:=bx) M n5 hl;have adG:=(List.getElem?_eq_some_iff.mp Qd).1;obtain⟨m,L,e4⟩:=ck.C7 (bx:=(bx++g0).set j .dead) H (rs:=rs) (by have:=R.l;omega) (R.good M);obtain⟨g,eg⟩:∃ g,g=g0.map eY:=⟨_,rfl⟩;have kg:(bx++g0).map eY=bx++g:=by rw[cV,C,eg]
 have jl:j<(bx++g).length:=by rw[<-kg,aA];exact adG
 have e2:(bx++g)[j]?=some (.lst (rs.map tupI)):=by
  rw[<-kg,dS,Qd,kN,ou (Dj rs)]
 have Cg:bj (bx++g):=C.app (by rw[eg];exact MX g0);have nl:=AH M;have rl:(rest ps m).length<=(nm ps).length:=xl _ _;have ml:=oU n5 L.1;obtain⟨told,e5,T,tl⟩:=JF (bx:=bx++g) (ps:=ps) (rooms:=rest ps m) (iS _ (jH ps)) (Jz R L.2.1) (by omega) hl;have wI:=T.nd.length_le_of_subset (l₂:=rest ps m) λx mx=>T.sub x mx;refine⟨m++told++m,rs,g++[.lst ((m++told++m).map D.int)],(bx++g).length,j,?_,?_,?_,by simp,e3,by omega,⟨R,m,told,L,T,tl,rfl⟩,?_⟩
 ·have b:j6 [some (.d h),xP ps,none,none,none] bx=.rt (.t [(bx++g).length,j]) ((bx++g)++[.lst ((m++told++m).map D.int)]):=by
   unfold j6;have n1:fV (fj aH.gf 2 (fb (dV 0) (fb (dV 1) fe))) [some (.d h),xP ps,none,none,none] bx=.nx [some (.d h),xP ps,none,none,none] bx:=gH (fK (l:=[.d h,.d (.lst (ps.map dP))]) rfl rfl (aH.j0 H M hl));have n2:fH (fj cE.jq 1 (fb (dV 1) fe)) (fc 2) [some (.d h),xP ps,none,none,none] bx=.nx [some (.d h),xP ps,xB j,none,none] (bx++g0):=fW (fK (l:=[.d (.lst (ps.map dP))]) rfl rfl e1);have f:dh ck.fS 2 1 (fb (dV 0) (fb (dV 2) fe)) [some (.d h),xP ps,xB j,none,none] (bx++g0)=.val (.d (tupI m)) (bx++g):=by
    have q:=Gw (fn:=ck.fS) (n:=2) (j:=1) (k:=fb (dV 0) (fb (dV 2) fe)) (env:=[some (.d h),xP ps,xB j,none,none]) (ws:=[.d h,.b j]) rfl rfl Qd rfl (Dj rs) e4 (Gu m);rw[kg]at q;exact q
   have n3:fH (dN false tF (fb (dh ck.fS 2 1 (fb (dV 0) (fb (dV 2) fe))) fe)) (fc 3) [some (.d h),xP ps,xB j,none,none] (bx++g0)=.nx [some (.d h),xP ps,xB j,xJ m,none] (bx++g):=fW (iq (r:=.lst (m.map D.int)) [tupI m] (fg f rfl) rfl);rw[fq n1,fq n2,fq n3];have c:fA false [none,some 3] (ay (fj cE.fY 1 (fb (dV 1) fe))) (fc 0) (dB (d2 false (inD true) (dV 0) (dV 1))) (dV 0) [some (.d h),xP ps,xB j,xJ m,none] (bx++g)=.val (.d (.lst ((rest ps m).map D.int))) (bx++g):=
    wJ (enc:=D.int) (r:=[xJ m]) (λx=>!decide (x∈m)) D.int (f8 (fK (l:=[.d (.lst (ps.map dP))]) rfl rfl (lW M n5 hl))) rfl (by omega) λx _=>⟨gu (fL (r:=.old (.bl (!decide (x∈m)))) (x:=.int x) (y:=.lst (m.map D.int)) rfl rfl (lC true m x)),λ_=>rfl⟩
   rw[fq (env1:=[some (.d h),xP ps,xB j,xJ m,xJ (rest ps m)]) (bx1:=bx++g) (fW c)];refine gN ?_;have a1:d2 false fM (dV 3) (fj cE.jb 2 (fb (dV 4) (fb (dV 1) fe))) [some (.d h),xP ps,xB j,xJ m,xJ (rest ps m)] (bx++g)=.val (.d (.lst ((m++told).map D.int))) (bx++g):=
    fL (r:=.lst ((m++told).map D.int)) (x:=.lst (m.map D.int)) (y:=.lst (told.map D.int)) rfl (fK (l:=[.d (.lst ((rest ps m).map D.int)),.d (.lst (ps.map dP))]) rfl rfl e5) (by rw[cV];exact if_pos (by simp;omega))
   have a2:d2 true fM (d2 false fM (dV 3) (fj cE.jb 2 (fb (dV 4) (fb (dV 1) fe)))) (dV 3) [some (.d h),xP ps,xB j,xJ m,xJ (rest ps m)] (bx++g)=.val (.b (bx++g).length) ((bx++g)++[.lst ((m++told++m).map D.int)]):=by
    rw[Jm,a1,fI,show dV 3 [some (W.d h),xP ps,xB j,xJ m,xJ (rest ps m)] (bx++g)=.val (.d (.lst (m.map D.int))) (bx++g) from rfl,fI,lV,lV,ba,ba];have:fM (.lst ((m++told).map D.int)) (.lst (m.map D.int))=some (.lst ((m++told++m).map D.int)):=by rw[cV (l₁:=m++told)];exact if_pos (by simp;omega)
    rw[this,LZ]
   unfold En;rw[fg a2 (l:=[.b j]) (bx2:=(bx++g)++[.lst ((m++told++m).map D.int)]) rfl,fI];exact if_pos (show (2:Nat)<=sizeLine by omega)
  show ed bx.length (dZ (aG j6 [some (.d h),xP ps,none,none,none] bx))=_;unfold aG;rw[b,<-eC];rfl
 ·rw[<-eC,cz (aq _),k8];rfl
 ·rw[<-eC,cn jl];exact e2
 ·rw[<-eC];exact Cg.app (B7 (Di _))
theorem MY (i:Int):iz [.d (.int i)] bx=.val (.d .non) bx:=by
 have m:iJ [xN i] bx=.nx [xN i] bx:=by
  unfold iJ;exact jX (jA (gu (fK (fg rfl rfl) rfl (CQ (.int i) bx))))
 show ed bx.length (dZ (aG iJ [xN i] bx))=_;unfold aG;rw[m];simp[dZ,ed]
theorem MZ (H:bQ h k) (M:Mv k ps) (hl:ps.length<=10) (O:Op k ps row rs) {m:List Int}(L:p7 k rs m):iU [.d h,.d (.lst (ps.map dP)),.d (.int (m.length:Nat)),.d (.lst (rs.map tupI))] bx=.val (.d (.bl true)) bx:=by
 have Zo:rs.length<=30:=by have:=O.R.l;omega
 obtain⟨m',L',e'⟩:=ck.C7 (bx:=bx) H (rs:=rs) (by omega) (O.R.good M);have lm:m'.length=m.length:=L'.eq L;refine gR ?_;show lG [some (.d h),xP ps,xN (m.length:Nat),some (.d (.lst (rs.map tupI)))] bx=_;unfold lG;have s1:fV (fj aH.gf 2 (fb (dV 0) (fb (dV 1) fe))) [some (.d h),xP ps,xN (m.length:Nat),some (.d (.lst (rs.map tupI)))] bx=.nx [some (.d h),xP ps,xN (m.length:Nat),some (.d (.lst (rs.map tupI)))] bx:=gH (fK (l:=[.d h,.d (.lst (ps.map dP))]) rfl rfl (aH.j0 H M hl));have s2:fV (fj K55.iz 1 (fb (dV 2) fe)) [some (.d h),xP ps,xN (m.length:Nat),some (.d (.lst (rs.map tupI)))] bx=.nx [some (.d h),xP ps,xN (m.length:Nat),some (.d (.lst (rs.map tupI)))] bx:=gH (fK (l:=[.d (.int (m.length:Nat))]) rfl rfl (MY _));have i1:cC (dB (iM "list" (dV 3))) [some (.d h),xP ps,xN (m.length:Nat),some (.d (.lst (rs.map tupI)))] bx=.val false bx:=jA (b:=true) (gu (b:=true) rfl);have i2:=S9 (bx:=bx) (h:=h) (rs.map tupI) (m.length:Nat) (.lst (ps.map dP));rw[aA,decide_eq_true Zo]at i2;have a:=OX (bx:=bx) H M (rs.map tupI) (by rw[aA];exact Zo) (m.length:Nat);rw[cA.mpr λx mx=>by
  obtain⟨r,mr,rfl⟩:=a6.mp mx;exact O.ring M H.n5 r mr]at a
 refine(fq s1).trans ((fq s2).trans ((fq ((jX (oE i1 i2)).trans rfl)).trans (gN (jZ a ?_))));exact fL (r:=.old (.bl true)) (iq (r:=.old (.int (m.length:Nat))) [tupI m'] (fg (fK (fg rfl (fg rfl rfl)) rfl e') rfl) (by simp[az,lm])) rfl (by simp[rQ])
end
section
variable {h : D} {k : Nat} {row : List Int} 
theorem Fh (h1:∀ x∈is,0<=x /\ x<(k:Int)):vg ps k (.lst (is.map D.int))=ps.all (rowOne is):=by
 show ((is.map D.int).all (λx=>wi x 0 ((k:Int)-1))&&(match intsOf (is.map D.int) with|some is=>ps.all (rowOne is)|none=>false))=_;rw[K1.io,pE,cA.mpr λx mx=>by
  have:=h1 x mx;show wi (.int x) 0 ((k:Int)-1)=true;simp[wi];omega]
 rfl
theorem M0 (e:m env bx=.val (.d (.bl true)) bx1):dB (sk m) env bx=.val false bx1:=by
 refine gu (b:=false) ?_;unfold sk;rw[e,fI];rfl
theorem PP {a b:DE W}(h1:m env bx=.val (.b j) bx) (h2:a env bx=.val (.d (.int (i:Nat))) bx) (h3:b env bx=.val (.d d) bx) (g:bx[j]?=some (.lst l)) (hi:i<=l.length) (hl:l.length<=1000) :
 tW m a b env bx=.val (.d .non) (bx.set j (.lst (l.take i++d::l.drop i))):=by
 have sz:=bp;unfold tW;rw[h1,fI];simp only[g,h2,fI,h3];rw[if_pos ⟨by omega,by omega,by omega⟩,cX]
theorem UA (h1:m env bx=.val (.b j) bx) (g:bx[j]?=some (.lst l)):wL m env bx=.val (.d .non) (bx.set j (.lst [])):=by
 unfold wL;rw[h1,fI];simp only[g]
theorem AM (H:bQ h k) (M:Mv k ps) (hl:ps.length<=10) (C:bj bx):∃ n:Nat,fZ [.d h,.d (.lst (ps.map dP))] bx=.val (.d (.int (n:Nat))) bx /\ Mn ps n /\ n<=10:=by
 have sz:=bp;obtain⟨row,rs,g,i,j,e1,gi,gj,li,lj,ne,O,Cg⟩:=Fg (bx:=bx) H M hl C;obtain⟨m,L,rl⟩:=O.len;have n5:=H.n5;have nl:=AH M;have ml:=oU n5 L.1;refine⟨row.length,?_,K55.Op.mn M O,by omega⟩;have ir:∀ bx,fT [.d h,.d (.lst (ps.map dP)),.d (.lst (row.map D.int))] bx=.val (.d (.bl true)) bx:=λbx=>by
  rw[aH.AC H M hl _ (show Ok (.lst (row.map D.int)) from show (row.map D.int).length<=1000000 by rw[aA];omega),Fh (O.adA M),(AL M).mpr O.does]
 have s1:fH (fj K55.jw 2 (fb (dV 0) (fb (dV 1) fe))) (yK 2 (fJ (fc 2) (fJ (fc 3) gU))) [some (.d h),xP ps,none,none,none,none] bx=.nx [some (.d h),xP ps,xB i,xB j,none,none] (bx++g):=
  PL (fK (l:=[.d h,.d (.lst (ps.map dP))]) rfl rfl e1) rfl
 have b:j7 [some (.d h),xP ps,none,none,none,none] bx=.rt (.d (.int (row.length:Nat))) (((bx++g).set i (.lst ([].map D.int++D.int 0::row.map D.int))).set j (.lst [])):=by
  unfold j7;generalize bx++g=B at *;rw[fq s1];rw[fq (env1:=[some (.d h),xP ps,xB i,xB j,xJ (nm ps),none]) (bx1:=B) (fW (Uz M n5 hl (i:=1) rfl))];have t1:dB (sk (dh aH.fT 3 2 (fb (dV 0) (fb (dV 1) (fb (dV 2) fe))))) [some (.d h),xP ps,xB i,xB j,xJ (nm ps),none] B=.val false B :=
   M0 (mU (ws:=[.d h,.d (.lst (ps.map dP)),.b i]) rfl rfl gi rfl Cg (ir _) rfl)
  have ln:dN false az (fb (dV 2) fe) [some (.d h),xP ps,xB i,xB j,xJ (nm ps),none] B=.val (.d (.int (row.length:Nat))) B:=by
   have:=adF (m:=dV 2) (env:=[some (.d h),xP ps,xB i,xB j,xJ (nm ps),none]) rfl gi;rw[aA]at this;exact this
  have df:d2 false en (dN false az (fb (dV 2) fe)) (dN false az (fb (dV 4) fe)) [some (.d h),xP ps,xB i,xB j,xJ (nm ps),none] B=.val (.d (.int (m.length:Nat))) B :=
   fL (r:=.old (.int (m.length:Nat))) ln (iq (r:=.old (.int ((nm ps).length:Nat))) [.lst ((nm ps).map D.int)] (fg rfl rfl) (by simp[az])) (by simp[en];omega)
  have t2:dB (sk (dh K55.iU 4 3 (fb (dV 0) (fb (dV 1) (fb (d2 false en (dN false az (fb (dV 2) fe)) (dN false az (fb (dV 4) fe))) (fb (dV 3) fe)))))) [some (.d h),xP ps,xB i,xB j,xJ (nm ps),none] B=.val false B :=
   M0 (mU (ws:=[.d h,.d (.lst (ps.map dP)),.d (.int (m.length:Nat)),.b j]) (fg rfl (fg rfl (fg df rfl))) rfl gj rfl Cg (MZ H M hl O L) rfl)
  refine(fq ((jX (oE t1 t2)).trans rfl)).trans ?_;rw[fq (env1:=[some (.d h),xP ps,xB i,xB j,xJ (nm ps),xN (row.length:Nat)]) (bx1:=B) (fW ln)];have iv:=PP (m:=dV 2) (a:=dC (.int 0)) (b:=dC (.int 0)) (env:=[some (.d h),xP ps,xB i,xB j,xJ (nm ps),xN (row.length:Nat)]) (i:=0) rfl rfl rfl gi (cG _) (by rw[aA];omega);rw[fq (gH iv)];have adH:(B.set i (.lst ((row.map D.int).take 0++D.int 0::(row.map D.int).drop 0)))[j]?=some (.lst (rs.map tupI)):=by
   rw[pC ne];exact gj
  have cv:=UA (m:=dV 3) (env:=[some (.d h),xP ps,xB i,xB j,xJ (nm ps),xN (row.length:Nat)]) rfl adH;rw[fq (gH cv)];rfl
 show ed bx.length (dZ (aG j7 [some (.d h),xP ps,none,none,none,none] bx))=_;unfold aG;rw[b];show L2.DL.O.val _ (List.take bx.length _)=_;rw[Wh lj,Wh li,zm]
end
theorem O9 (h:n<bx.length) (p:Int) {k:Nat}(H:bQ d k):∃ ps q,iy [.b n,.d d] (pt bx n p)=.val (.b bx.length) (pt (bx++[.lst (ps.map dP)]) n q) /\ Mv k ps /\ ps.length<=10:=by
 have sz:=bp;obtain⟨rs,kk,aa,bb,rfl,hn⟩:=H.rs;have n0:=H.n0;have n5:=H.n5;have h1:n<(bx++[Bx.lst []]).length:=by simp;omega
 have s1:kU 2 3 (fb (dN false az (fb (d2 false av (dV 1) (dC (.int 0))) fe)) (fb (f7 true fe) fe)) [xB n,some (.d (.tup [.tup rs,kk,aa,bb])),none,none,none,none,none] (pt bx n p)=.nx [xB n,some (.d (.tup [.tup rs,kk,aa,bb])),xN (k:Nat),xB bx.length,none,none,none] (pt (bx++[.lst []]) n p):=by
  have a:=jW (env:=[xB n,some (.d (.tup [.tup rs,kk,aa,bb])),none,none,none,none,none]) (ks:=fe) (bx:=pt bx n p) [] rfl (cG _);rw[lB h,jc]at a;have b:dN false az (fb (d2 false av (dV 1) (dC (.int 0))) fe) [xB n,some (.d (.tup [.tup rs,kk,aa,bb])),none,none,none,none,none] (pt bx n p)=.val (.d (.int (k:Nat))) (pt bx n p):=
   iq (r:=.old (.int (k:Nat))) [.tup rs] (fg (fL (r:=.old (.tup rs)) rfl rfl rfl) rfl) (by simp[az,hn])
  exact Ga b a
 obtain⟨c,q1,rg,hc,ym⟩:∃ (c:Nat) (q1:Int),bC (fb (tu (dB (d2 false h9 (dV 2) (dC (.int 1)))) (fj K1.ff 2 (fb (dV 0) (fb (dC (.int 11)) fe))) (dC (.int 0))) fe) [xB n,some (.d (.tup [.tup rs,kk,aa,bb])),xN (k:Nat),xB bx.length,none,none,none] (pt (bx++[.lst []]) n p)=.val (fE 0 c) (pt (bx++[.lst []]) n q1) /\ c<=10 /\ (1<=c->2<=k):=by
  by_cases hk:2<=k
  ·obtain⟨r,q1,t,r0,r1⟩:=vf h1 p (env:=[xB n,some (.d (.tup [.tup rs,kk,aa,bb])),xN (k:Nat),xB bx.length,none,none,none]) (i:=0) rfl 11 (by decide) (by decide);obtain⟨c,rfl⟩:=vM r0;refine⟨c,q1,?_,by omega,λ_=>hk⟩;generalize pt (bx++[.lst []]) n p=B at t ⊢;have ct:dB (d2 false h9 (dV 2) (dC (.int 1))) [xB n,some (.d (.tup [.tup rs,kk,aa,bb])),xN (k:Nat),xB bx.length,none,none,none] B=.val true B:=by
    refine gu (b:=true) (fL (r:=.old (.bl true)) rfl rfl ?_);simp[h9];omega
   have di:tu (dB (d2 false h9 (dV 2) (dC (.int 1)))) (fj K1.ff 2 (fb (dV 0) (fb (dC (.int 11)) fe))) (dC (.int 0)) [xB n,some (.d (.tup [.tup rs,kk,aa,bb])),xN (k:Nat),xB bx.length,none,none,none] B=.val (.d (.int (c:Nat))) (pt (bx++[.lst []]) n q1):=by
    unfold tu;rw[ct,fI];exact t
   rw[iF (fg di rfl) (by omega),cX]
  ·refine⟨0,p,?_,by omega,λz=>by omega⟩;generalize pt (bx++[.lst []]) n p=B;have ct:dB (d2 false h9 (dV 2) (dC (.int 1))) [xB n,some (.d (.tup [.tup rs,kk,aa,bb])),xN (k:Nat),xB bx.length,none,none,none] B=.val false B:=by
    refine gu (b:=false) (fL (r:=.old (.bl false)) rfl rfl ?_);simp[h9];omega
   have di:tu (dB (d2 false h9 (dV 2) (dC (.int 1)))) (fj K1.ff 2 (fb (dV 0) (fb (dC (.int 11)) fe))) (dC (.int 0)) [xB n,some (.d (.tup [.tup rs,kk,aa,bb])),xN (k:Nat),xB bx.length,none,none,none] B=.val (.d (.int 0)) B:=by
    unfold tu;rw[ct,fI];rfl
   exact iF (fg di rfl) (by decide)
 obtain⟨ax,bx',e,ps,q,w4,w5,w6,rfl,rfl,l,M⟩:=jr (g:=fc 4) (body:=Zc) (λi env Zp=>∃ ps q w4 w5 w6,env=[xB n,some (.d (.tup [.tup rs,kk,aa,bb])),xN (k:Nat),xB bx.length,w4,w5,w6] /\ Zp=pt (bx++[.lst (ps.map dP)]) n q /\ ps.length=i /\ Mv k ps) (fE 0 c) 0 _ _ ⟨[],q1,none,none,none,rfl,rfl,rfl,λ_ m=>nomatch m⟩ (by
  rintro i w env Zp hw ⟨ps,q,w4,w5,w6,rfl,rfl,l,M⟩;rw[qh]at l ⊢;obtain⟨rfl,hi⟩:=jd hw;obtain⟨y,q',qY,kr,e',M'⟩:=OP h q (k:Nat) (by have:=ym (by omega);omega) (by omega) ps (by omega) M (some (.d (.tup [.tup rs,kk,aa,bb]))) (xN (0+(i:Nat))) w5 w6;exact⟨_,_,[xB n,some (.d (.tup [.tup rs,kk,aa,bb])),xN (k:Nat),xB bx.length,xN (0+(i:Nat)),qY,kr],_,rfl,e',ps++[y],q',_,qY,kr,rfl,rfl,by simp[l],M'⟩)
 have lr:(fE 0 c).length=c:=by simp[fE]
 rw[lr,qh]at l;refine⟨ps,q,?_,M,by omega⟩;have M2:jv [xB n,some (.d (.tup [.tup rs,kk,aa,bb])),none,none,none,none,none] (pt bx n p)=.rt (.b bx.length) (pt (bx++[.lst (ps.map dP)]) n q):=by
  unfold jv;exact(fq s1).trans ((fq ((jG rg).trans e)).trans rfl)
 show ed (pt bx n p).length (dZ (aG jv [xB n,some (.d (.tup [.tup rs,kk,aa,bb])),none,none,none,none,none] (pt bx n p)))=_;unfold aG;rw[M2];rfl
theorem AN {α:Type}:∀ {l:List α}{c:Nat}(h:c<l.length),(l[c]::l.eraseIdx c).Perm l
 |a::l,0,_=>.refl _
 | a::l,c+1,h=>by
   have h':c<l.length:=VU h;show (l[c]::a::l.eraseIdx c).Perm (a::l);exact(List.Perm.swap _ _ _).trans ((AN h').cons a)
abbrev adI:DE W:=rX (dV 2) (fj K1.ff 2 (fb (dV 1) (fb (dN false az (fb (dV 2) fe)) fe)))
theorem AO {bx:List Bx}{n:Nat}(h:n<bx.length):∀ (l:List W) (left:List D) (w:Option W) (p:Int) (acc:List D),left.length=l.length->left.length<=1000->acc.length+l.length<=sizeLine ->
 ∃ ds q,bG (fc 0) fw adI l [w,xB n,xB bx.length] (pt (bx++[.lst left]) n p) acc=.val (acc++ds) (pt (bx++[.lst []]) n q) /\ ds.Perm left
 | [],left,w,p,acc,hl,_,_=>by
   cases left with
   |nil=>exact⟨[],p,by simp[bG],.refl _⟩
   |cons a b=>simp at hl
 | u::l,left,w,p,acc,hl,ae6,z=>by
   have h1:n<(bx++[Bx.lst left]).length:=by simp;omega
   have b0:=jt (p:=p) (x:=.lst left) h;have ln:dN false az (fb (dV 2) fe) [some u,xB n,xB bx.length] (pt (bx++[.lst left]) n p)=.val (.d (.int left.length)) (pt (bx++[.lst left]) n p):=BQ rfl b0;have lp:0<left.length:=by rw[hl];simp
   obtain⟨r,q,t,r0,r1⟩:=jY h1 (env:=[some u,xB n,xB bx.length]) (i:=1) rfl ln (by omega) (by omega);obtain⟨c,rfl⟩:=vM r0;have hc:c<left.length:=by omega
   have b1:=jt (p:=q) (x:=.lst left) h;have pv:=Gb (m:=dV 2) rfl b0 t b1 ⟨by omega,by omega⟩ (BR hc) (bI hc);rw[mN h]at pv;have z':acc.length<sizeLine:=by simp only[a9]at z;omega
   have el:(left.eraseIdx c).length=l.length:=by rw[HD hc,hl];simp
   obtain⟨ds,q',e3,e4⟩:=AO h l (left.eraseIdx c) (some u) q (acc++[left[c]]) el (by rw[el];simp at hl;omega) (by simp only[bM,a9,nO]at z ⊢;omega);refine⟨left[c]::ds,q',?_,?_⟩
   ·have g0:fc 0 u [w,xB n,xB bx.length] (pt (bx++[.lst left]) n p)=some ([some u,xB n,xB bx.length],pt (bx++[.lst left]) n p):=rfl;simp only[bG,g0,BI,Au,pv,if_pos z',e3];simp
   ·exact(e4.cons _).trans (AN hc)
theorem Pa (h:n<bx.length) (p:Int) (l:List D) (hl:l.length<=1000):∃ ds q,iT [.b n,.d (.lst l)] (pt bx n p)=.val (.d (.lst ds)) (pt bx n q) /\ ds.Perm l:=by
 have sz:=bp;obtain⟨ds,q,e1,e2⟩:=AO h (l.map W.d) l none p [] (by simp) hl (by simp;omega);rw[uf]at e1;have s1:fH (dN true tF (fb (dV 1) fe)) (fc 2) [xB n,some (.d (.lst l)),none] (pt bx n p)=.nx [xB n,some (.d (.lst l)),xB bx.length] (pt (bx++[.lst l]) n p):=by
  have a:dN true tF (fb (dV 1) fe) [xB n,some (.d (.lst l)),none] (pt bx n p)=.val (.b bx.length) (pt (bx++[.lst l]) n p):=by
   rw[CL,fg (w:=.d (.lst l)) (l:=[]) rfl rfl,fI,<-lB h];have:=jc (bx:=bx) (n:=n) (p:=p);show O.val (W.b (pt bx n p).length) _=_;rw[this]
  exact fW a
 have M:lE [xB n,some (.d (.lst l)),none] (pt bx n p)=.rt (.d (.lst ds)) (pt (bx++[.lst []]) n q):=by
  unfold lE;exact(fq s1).trans (gN (iI (f8 rfl) rfl e1))
 refine⟨ds,q,(BO M).trans ?_,e2⟩;rw[jc,CV h]
noncomputable abbrev dL (r:List Int):D:=.lst (r.map D.int)
def gr (k:Nat) (r:List Int):List (List Int):=(rg k).map λx=>r++[x]
def rows (k:Nat):Nat->List (List Int)
 |0=>[[]]
 |t+1=>(rows k t).flatMap (gr k)
theorem jI {k:Nat}:∀ {t:Nat}{r:List Int},r∈rows k t->r.length=t /\ ∀ x∈r,0<=x /\ x<(k:Int)
 | 0,r,m=>by
   cases a8.mp m;exact⟨rfl,λx m=>nomatch m⟩
 | t+1,r,m=>by
   obtain⟨q,mq,m⟩:=List.mem_flatMap.mp m;obtain⟨x,mx,rfl⟩:=a6.mp m;obtain⟨l,b⟩:=jI mq;refine⟨by rw[bM,l];rfl,λy my=>?_⟩;rcases bN.mp my with my|my
   ·exact b y my
   ·rw[a8.mp my];exact Fb.mp mx
theorem PR (l:List α):(l.filter λ_=>false)=[]:=List.filter_eq_nil_iff.mpr λ_ _=>by simp
theorem M3 (k:Nat) (r:List Int):(gr k r).length=k:=by unfold gr;rw[aA,oo]
theorem Gx (k:Nat):∀ l:List (List Int),(l.flatMap (gr k)).length=l.length*k
 |[]=>by simp
 |a::l=>by rw[List.flatMap_cons,bM,M3,Gx k l,a9,Nat.add_mul];omega
theorem AQ {k:Nat}(h:k<=3):∀ t,t<=9->(rows k t).length<=3 ^ t
 |0,_=>aq _
 | t+1,ht=>by
   have ih:=AQ h t (by omega);rw[rows,Gx,Hr];exact Nat.mul_le_mul ih h
theorem p9 {t:Nat}(h:t<=9):3 ^ t<=19683:=Hs (by decide) h
section
variable {h : D} {k : Nat} {B : List Bx} 
abbrev gB:aj:=fV (ph (dV 5) (fA false [none,some 6] (bC (fb (dN false az (fb (d2 false av (dV 0) (dC (.int 0))) fe)) fe)) (fc 0) fw (d2 false fM (dV 1) (f7 false (fb (dV 0) fe)))))
theorem ends {x:Bx}:(B++[x])[B.length]?=some x:=by simp
theorem M4 {x y:Bx}:(B++[x]).set B.length y=B++[y]:=by simp
theorem U3 (H:bQ h k) (r:List Int) (hr:r.length<=100) (acc:List D) (ha:acc.length<=100000) (x1 x2 x3 x4:Option W) :
 gB [some (.d h),x1,x2,x3,x4,xB B.length,some (.d (dL r))] (B++[.lst acc])=.nx [some (.d h),x1,x2,x3,x4,xB B.length,some (.d (dL r))] (B++[.lst (acc++(gr k r).map dL)]):=by
 have sz:=bp;have n5:=H.n5;refine gH (w:=.d .non) ?_;have c:fA false [none,some 6] (bC (fb (dN false az (fb (d2 false av (dV 0) (dC (.int 0))) fe)) fe)) (fc 0) fw (d2 false fM (dV 1) (f7 false (fb (dV 0) fe))) [some (.d h),x1,x2,x3,x4,xB B.length,some (.d (dL r))] (B++[.lst acc])=.val (.d (.lst ((rg k).map λx=>dL (r++[x])))) (B++[.lst acc]):=by
  refine wK (enc:=D.int) (r:=[some (.d (dL r))]) (l:=rg k) _ ?_ rfl (by rw[oo];omega) λx _=>?_
  ·rw[iF (fg (Ze H rfl) rfl) (by omega),cX,FY];simp[rg]
  ·refine fL (r:=.lst ((r++[x]).map D.int)) (x:=dL r) (y:=.lst [.int x]) rfl (Aw [.int x] rfl (show (1:Nat)<=sizeLine by omega)) ?_;rw[cV];exact if_pos (by simp;omega)
 unfold ph;rw[show dV 5 [some (W.d h),x1,x2,x3,x4,xB B.length,some (.d (dL r))] (B++[.lst acc])=.val (.b B.length) (B++[.lst acc]) from rfl,fI];simp only[ends,c,fI,aA,sH];rw[if_pos (by omega),M4];simp[gr]
theorem UB (H:bQ h k) (k3:k<=3) (x1 x2 x3 x4:Option W):∀ (l:List (List Int)) (acc:List D) (w:Option W),(∀ r∈l,r.length<=100)->acc.length+3*l.length<=100000 ->
 ∃ w',dI (fc 6) gB ((l.map dL).map W.d) [some (.d h),x1,x2,x3,x4,xB B.length,w] (B++[.lst acc])=.nx [some (.d h),x1,x2,x3,x4,xB B.length,w'] (B++[.lst (acc++(l.flatMap (gr k)).map dL)])
 |[],acc,w,_,_=>⟨w,by simp[dI]⟩
 | r::l,acc,w,hr,ha=>by
   rw[a9]at ha;have e:=U3 (B:=B) H r (hr r (.head _)) acc (by omega) x1 x2 x3 x4;obtain⟨w',e2⟩:=UB H k3 x1 x2 x3 x4 l (acc++(gr k r).map dL) (some (.d (dL r))) (λq m=>hr q (.tail _ m)) (by simp[M3];omega);refine⟨w',?_⟩;rw[aQ,aQ,mw (env1:=[some (.d h),x1,x2,x3,x4,xB B.length,some (.d (dL r))]) (bx1:=B++[.lst acc]) rfl e,e2];simp
theorem Gy (H:bQ h k) (M:Mv k ps) (hl:ps.length<=10) {r:List Int}(hr:r.length<=100) (hb:∀ x∈r,0<=x /\ x<(k:Int)) (N:Mn ps n) (hn:r.length<n):fT [.d h,.d (.lst (ps.map dP)),.d (dL r)] bx=.val (.d (.bl false)) bx:=by
 rw[aH.AC H M hl _ (show Ok (dL r) from show (r.map D.int).length<=1000000 by rw[aA];omega),Fh hb];have:ps.all (rowOne r)=false:=by
  rw[Wn];intro z;have:=N.lo r ((AL M).mp z);omega
 rw[this]
abbrev nT:DE Bool:=dB (d2 false c9 (kn false [none,some 0,some 1] (dV 3) (fc 0) (dB (fj aH.fT 3 (fb (dV 1) (fb (dV 2) (fb (dV 0) fe))))) (dV 0)) (f7 false fe))
abbrev nB:aj:=(fu (bh nT (fO (dC (.bl false))) bf) (fu (fH (f7 true fe) (fc 5)) (fu (iC (ay (kI 3)) (fc 6) gB) (fH (dV 5) (fc 3)))))
theorem adJ:c9 (.lst []) (.lst [])=some (.old (.bl false)):=rfl
theorem U4 (H:bQ h k) (k3:k<=3) (M:Mv k ps) (hl:ps.length<=10) (N:Mn ps n) {t g:Nat}{G:List Bx}(ht:t<n) (t9:t<=9) (hb:G[g]?=some (.lst ((rows k t).map dL))) (x2 x4 w5 w6:Option W) :
 ∃ kr,nB [some (.d h),xP ps,x2,xB (bx.length+g),x4,w5,w6] (bx++G)=.nx [some (.d h),xP ps,x2,xB (bx.length+G.length),x4,xB (bx.length+G.length),kr] (bx++(G.set g .dead++[.lst ((rows k (t+1)).map dL)])):=by
 have sz:=bp;have rl:=AQ k3 t t9;have p:=p9 t9;have gl:=(List.getElem?_eq_some_iff.mp hb).1;have hB:(bx++G)[bx.length+g]?=some (.lst ((rows k t).map dL)):=by
  rw[cz (by omega),zd];exact hb
 have c:nT [some (.d h),xP ps,x2,xB (bx.length+g),x4,w5,w6] (bx++G)=.val false (bx++G):=by
  have c0:kn false [none,some 0,some 1] (dV 3) (fc 0) (dB (fj aH.fT 3 (fb (dV 1) (fb (dV 2) (fb (dV 0) fe))))) (dV 0) [some (.d h),xP ps,x2,xB (bx.length+g),x4,w5,w6] (bx++G)=.val (.d (.lst (((rows k t).filter λ_=>false).map dL))) (bx++G):=
   Zi (enc:=dL) (r:=[some (.d h),xP ps]) (λ_=>false) dL rfl hB rfl (by omega) λr mr=>⟨gu (fK (l:=[.d h,.d (.lst (ps.map dP)),.d (dL r)]) rfl rfl (Gy H M hl (by have:=(jI mr).1;omega) (jI mr).2 N (by have:=(jI mr).1;omega))),λz=>by cases z⟩
  rw[PR]at c0;exact gu (fL (r:=.old (.bl false)) c0 rfl adJ)
 have gx:(bx++G).length=bx.length+G.length:=bM;have s2:fH (f7 true fe) (fc 5) [some (.d h),xP ps,x2,xB (bx.length+g),x4,w5,w6] (bx++G)=.nx [some (.d h),xP ps,x2,xB (bx.length+g),x4,xB (bx.length+G.length),w6] ((bx++G)++[.lst []]):=by
  rw[<-gx];exact fW (jW [] rfl (cG _))
 have st:((bx++G)++[Bx.lst []]).set (bx.length+g) .dead=(bx++G.set g .dead)++[.lst []]:=by
  rw[HH _ _ (by omega),ue _ _ (by omega),zd]
 have fr:ay (kI 3) [some (.d h),xP ps,x2,xB (bx.length+g),x4,xB (bx.length+G.length),w6] ((bx++G)++[.lst []])=.val (((rows k t).map dL).map W.d) ((bx++G.set g .dead)++[.lst []]):=by
  refine f8 ?_;rw[<-st];exact Ug rfl (by rw[cn (by omega)];exact hB)
 have ln:(bx++G.set g .dead).length=bx.length+G.length:=by rw[bM,kL]
 obtain⟨kr,f⟩:=UB (B:=bx++G.set g .dead) H k3 (xP ps) x2 (xB (bx.length+g)) x4 (rows k t) [] w6 (λr mr=>by have:=(jI mr).1;omega) (by simp;omega);rw[ln]at f;refine⟨kr,?_⟩;refine(fq ((jX c).trans rfl)).trans ((fq s2).trans ((fq ((jG fr).trans f)).trans ?_));rw[<-eC];exact fW rfl
theorem UC (H:bQ h k) (k3:k<=3) (M:Mv k ps) (hl:ps.length<=10) (N:Mn ps n) (vk:n<=10) (x2:Option W):∀ (c t g:Nat) (G:List Bx) (x4 w5 w6:Option W) (l:List W),t+c<n->l.length=c->G[g]?=some (.lst ((rows k t).map dL)) ->
 ∃ g' G' adK qY kr,dI (fc 4) nB l [some (.d h),xP ps,x2,xB (bx.length+g),x4,w5,w6] (bx++G)=.nx [some (.d h),xP ps,x2,xB (bx.length+g'),adK,qY,kr] (bx++G') /\ G'[g']?=some (.lst ((rows k (t+c)).map dL))
 | 0,t,g,G,x4,w5,w6,l,_,e,hb=>by
   cases List.length_eq_zero_iff.mp e;exact⟨g,G,x4,w5,w6,rfl,hb⟩
 | c+1,t,g,G,x4,w5,w6,l,ht,e,hb=>by
   cases l with
   |nil=>cases e
   |cons w l =>
   obtain⟨kr,e1⟩:=U4 (bx:=bx) H k3 M hl N (t:=t) (by omega) (by omega) hb x2 (some w) w5 w6;obtain⟨g',G',y4,y5,y6,e2,uy⟩:=UC H k3 M hl N vk x2 c (t+1) G.length (G.set g .dead++[.lst ((rows k (t+1)).map dL)]) (some w) (xB (bx.length+G.length)) kr l (by omega) (by simpa using e) (by
    have:G.length=(G.set g .dead).length:=by rw[kL]
    rw[this];exact ends)
   refine⟨g',G',y4,y5,y6,?_,by rw[show t+(c+1)=t+1+c by omega];exact uy⟩;rw[mw (env1:=[some (.d h),xP ps,x2,xB (bx.length+g),some w,w5,w6]) (bx1:=bx++G) rfl e1];exact e2
theorem Tj (H:bQ h k) (k3:k<=3) (M:Mv k ps) (hl:ps.length<=10) (N:Mn ps n) (vk:n<=10):gz [.d h,.d (.lst (ps.map dP)),.d (.int (n:Nat))] bx=.val (.d (.bl true)) bx:=by
 have sz:=bp;have s1:fH (f7 true (fb (f7 false fe) fe)) (fc 3) [some (.d h),xP ps,xN (n:Nat),none,none,none,none] bx=.nx [some (.d h),xP ps,xN (n:Nat),xB (bx.length+0),none,none,none] (bx++[.lst ((rows k 0).map dL)]):=
  fW (jW [.lst []] (fg (Aw [] rfl (cG _)) rfl) (show (1:Nat)<=sizeLine by omega))
 have rg:bC (fb (d2 false en (dV 2) (dC (.int 1))) fe) [some (.d h),xP ps,xN (n:Nat),xB (bx.length+0),none,none,none] (bx++[.lst ((rows k 0).map dL)])=.val (fE 0 (n-1)) (bx++[.lst ((rows k 0).map dL)]):=by
  rw[iF (fg (fL (r:=.old (.int ((n:Nat)-1))) rfl rfl rfl) rfl) ⟨by omega,by omega⟩];congr 2;omega
 obtain⟨g,G,y4,y5,y6,e,hb⟩:∃ g G y4 y5 y6,dI (fc 4) nB (fE 0 (n-1)) [some (.d h),xP ps,xN (n:Nat),xB (bx.length+0),none,none,none] (bx++[.lst ((rows k 0).map dL)])=.nx [some (.d h),xP ps,xN (n:Nat),xB (bx.length+g),y4,y5,y6] (bx++G) /\ G[g]?=some (.lst ((rows k (n-1)).map dL)):=by
  by_cases z:n=0
  ·subst z;exact⟨0,[.lst ((rows k 0).map dL)],none,none,none,rfl,rfl⟩
  ·have:=UC (bx:=bx) H k3 M hl N vk (xN (n:Nat)) (n-1) 0 0 [.lst ((rows k 0).map dL)] none none none (fE 0 (n-1)) (by omega) (by simp[fE]) rfl;rw[qh]at this;exact this
 have rl:=AQ k3 (n-1) (by omega);have p:=p9 (t:=n-1) (by omega);have hB:(bx++G)[bx.length+g]?=some (.lst ((rows k (n-1)).map dL)):=by
  rw[cz (by omega),zd];exact hb
 have c:kn false [none,some 0,some 1,some 2] (dV 3) (fc 0) (nv (dB (d2 false cL (dN false az (fb (dV 0) fe)) (dV 3))) (dB (fj aH.fT 3 (fb (dV 1) (fb (dV 2) (fb (dV 0) fe)))))) (dV 0) [some (.d h),xP ps,xN (n:Nat),xB (bx.length+g),y4,y5,y6] (bx++G)=.val (.d (.lst (((rows k (n-1)).filter λ_=>false).map dL))) (bx++G):=by
  refine Zi (enc:=dL) (r:=[some (.d h),xP ps,xN (n:Nat)]) (λ_=>false) dL rfl hB rfl (by omega) λr mr=>⟨?_,λz=>by cases z⟩;obtain⟨l1,l2⟩:=jI mr;have t:dB (d2 false cL (dN false az (fb (dV 0) fe)) (dV 3)) [some (.d (dL r)),some (.d h),xP ps,xN (n:Nat)] (bx++G)=.val (decide (r.length<n)) (bx++G):=
   gu (fL (r:=.old (.bl (decide (r.length<n)))) (iq (r:=.old (.int (r.length:Nat))) [dL r] (fg rfl rfl) (by simp[az])) rfl (by simp[cL]))
  by_cases z:r.length<n
  ·rw[decide_eq_true z]at t;exact BM t (gu (fK (l:=[.d h,.d (.lst (ps.map dP)),.d (dL r)]) rfl rfl (Gy H M hl (by omega) l2 N z)))
  ·rw[decide_eq_false z]at t;exact BL t
 rw[PR]at c;have b:gG [some (.d h),xP ps,xN (n:Nat),none,none,none,none] bx=.rt (.d (.bl true)) (bx++G):=by
  unfold gG;exact(fq s1).trans ((fq ((jG rg).trans e)).trans (gN (fL (r:=.old (.bl true)) c rfl (eq_nil (l:=[]) Gc))))
 show ed bx.length (dZ (aG gG [some (.d h),xP ps,xN (n:Nat),none,none,none,none] bx))=_;unfold aG;rw[b];show L2.DL.O.val _ (List.take bx.length _)=_;rw[zm]
end
end K55
namespace cE
open L2 L2.DL K1 aH ck
section
variable {k : Nat} {h : D} {row : List Int}
end
section
variable {k : Nat} {h : D}
theorem U5 (j:Nat) (hj:j<=100) (env:aI) (b:List Bx):bC (fb (dC (.int (j:Nat))) fe) env b=.val (fE 0 j) b:=iF (j:=j) (bx1:=b) (by simp) (by omega)
end
end cE
namespace K55
open L2 L2.DL K1 aH ck cE
section
variable {h : D} {k : Nat} {bF : List (Int × Int)} {B : List Bx} 
theorem bj.dead (h:bj bx) (i:Nat):bj (bx.set i .dead):=by
 unfold bj at *;rw[HN,h];rfl
theorem Fi (H:bQ h k) (M:Mv k ps) (hl:ps.length<=10) (C:bj B) (N:Mn ps n):fZ [.d h,.d (.lst (ps.map dP))] B=.val (.d (.int (n:Nat))) B:=by
 obtain⟨n',e,N',_⟩:=AM (bx:=B) H M hl C;rw[e,N.eq N']
abbrev lF:DE W:=dh K55.fZ 2 1 (fb (dV 3) (fb (dV 4) fe))
theorem Tk (H:bQ h k) (M:Mv k ps) (hl:ps.length<=10) (C:bj B) (N:Mn ps n) (hb:B[j]?=some (.lst (ps.map dP))) (v3:dV 3 env B=.val (.d h) B) (v4:dV 4 env B=.val (.b j) B):lF env B=.val (.d (.int (n:Nat))) B :=
 mU (ws:=[.d h,.b j]) (fg v3 (fg v4 rfl)) rfl hb rfl C (Fi H M hl (C.dead j) N) rfl
theorem M5 (a:Int):c9 (.int a) (.int a)=some (.old (.bl false)):=by simp[c9]
theorem Zq {te:DE W}{r:aI}{l:List (Int×Int)}(hb:bx[j]?=some (.lst (l.map dP))) (f:Int×Int->D):∀ (dQ pre:List (Int×Int)) (w v:Option W) (acc:List D) (n:Nat),l=pre++dQ->dQ.length<n->acc.length+dQ.length<=sizeLine ->
 (∀ a∈dQ,te (xN a.1::xN a.2::r) bx=.val (.d (f a)) bx) ->
 kZ j gP fw te n pre.length (w::v::r) bx acc=.val (acc++dQ.map f) bx
 |[],pre,w,v,acc,0,_,h,_,_=>absurd h (ub _)
 | [],pre,w,v,acc,n+1,e,_,_,_=>by
   have z:(l.map dP)[pre.length]?=none:=by rw[e];simp
   unfold kZ;rw[hb];simp only[z];simp
 |a::dQ,pre,w,v,acc,0,_,h,_,_=>absurd h (ub _)
 | a::dQ,pre,w,v,acc,n+1,e,hn,hz,h=>by
   have h2:=h a (bZ ..);rw[a9]at hn hz;have n':acc.length<sizeLine:=by omega
   have z:(l.map dP)[pre.length]?=some (dP a):=by rw[e];simp
   have e0:gP (W.d (dP a)) (w::v::r) bx=some (some (W.d (.int a.1))::some (W.d (.int a.2))::r,bx):=rfl;have e':l=(pre++[a])++dQ:=by rw[e];simp
   have ih:=Zq hb f dQ (pre++[a]) (some (W.d (.int a.1))) (some (W.d (.int a.2))) (acc++[f a]) n e' (by omega) (by simp;omega) λx m=>h x (bS _ m);rw[bM]at ih;rw[kZ,hb];simp only[z,e0,BI,h2,Au,if_pos n'];rw[show pre.length+1=pre.length+[a].length from rfl,ih];simp
theorem Zr {src:List (Option Nat)}{r:aI}{l:List (Int×Int)}(f:Int×Int->D) (h1:m env bx=.val (.b j) bx) (hb:bx[j]?=some (.lst (l.map dP))) (he:cD src env=none::none::r) (n:l.length<=sizeLine)
 (h:∀ a∈l,te (xN a.1::xN a.2::r) bx=.val (.d (f a)) bx):kn false src m gP fw te env bx=.val (.d (.lst (l.map f))) bx:=by
 unfold kn;rw[h1,fI];simp only[he];have e:vc bx j=l.length:=by simp[vc,hb]
 have:=Zq hb f l [] none none [] (vc bx j+1) rfl (by rw[e];omega) (by simpa using n) h;rw[show ([]:List (Int×Int)).length=0 from rfl]at this;rw[this,fI,g9];rfl
theorem UD {op:D->D->Option Res}{r:Res}{k:DE W}{y:D}(h1:m env bx=.val (.b j) bx1) (h2:k env bx1=.val (.d y) bx1) (g:bx1[j]?=some (.lst l)) (hg:op (.lst l) y=some r):d2 false op m k env bx=.val (.d r.toD) bx1:=by
 rw[Jm,h1,fI,h2,fI];have r1:aJ bx1 (.b j)=some (.lst l):=by simp only[aJ,g]
 rw[r1,lV,ba,ba,hg,g9]
theorem JI {k:Nat}:∀ {ds:List D},ds.Perm ((rg k).map D.int)->∃ ts:List Int,ds=ts.map D.int /\ ts.Perm (rg k):=by
 intro ds p;obtain⟨ts,rfl⟩:∃ ts:List Int,ds=ts.map D.int:=by
  have:∀ l:List D,(∀ d∈l,d∈(rg k).map D.int)->∃ ts:List Int,l=ts.map D.int:=λl=>by
   induction l with
   |nil=>exact λ_=>⟨[],rfl⟩
   | cons d l ih =>
     intro h;obtain⟨x,_,rfl⟩:=a6.mp (h d (.head _));obtain⟨ts,rfl⟩:=ih λe m=>h e (.tail _ m);exact⟨x::ts,rfl⟩
  exact this ds λd m=>p.mem_iff.mp m
 refine⟨ts,rfl,?_⟩;have:=p.map λd=>match d with|D.int i=>i|_=>0
 simpa[nP,aaq] using this
theorem turned {k:Nat}{ts:List Int}(p:ts.Perm (rg k)) (M:Mv k ps):Mv k (ps.map λq=>(ts.getD q.1.toNat 0,ts.getD q.2.toNat 0)) /\
 ∀ n n',Mn ps n->Mn (ps.map λq=>(ts.getD q.1.toNat 0,ts.getD q.2.toNat 0)) n'->n'=n:=by
 have l:ts.length=k:=by rw[p.length_eq,oo]
 have nd:ts.Nodup:=p.nodup_iff.mpr (by
  rw[List.nodup_iff_pairwise_ne,List.pairwise_map];exact List.nodup_range.imp λh e=>h (by omega))
 have at_:∀ x:Int,0<=x->x<(k:Int)->∃ h:x.toNat<ts.length,ts.getD x.toNat 0=ts[x.toNat]:=λx h0 h1=>⟨by omega,by rw[HP,bI (by omega)];rfl⟩;have bd:∀ x:Int,0<=x->x<(k:Int)->0<=ts.getD x.toNat 0 /\ ts.getD x.toNat 0<(k:Int):=λx h0 h1=>by
  obtain⟨hx,e⟩:=at_ x h0 h1;rw[e];exact Fb.mp (p.mem_iff.mp (ud hx))
 have inv:∀ x:Int,0<=x->x<(k:Int)->(((List.range k).find? λi=>decide (ts.getD i 0=ts.getD x.toNat 0)).getD 0:Nat)=x:=λx h0 h1=>by
  cases e:(List.range k).find? λi=>decide (ts.getD i 0=ts.getD x.toNat 0) with
  | none =>
    have:=HU.mp e x.toNat (List.mem_range.mpr (by omega));simp at this
  | some i =>
    have h2:ts.getD i 0=ts.getD x.toNat 0:=by have:=HL e;simpa using this
    have h3:=List.mem_range.mp (HM e);rw[HP,HP,bI (by omega:i<ts.length),bI (by omega:x.toNat<ts.length)]at h2;have h4:ts[i]?=ts[x.toNat]?:=by rw[bI (by omega:i<ts.length),bI (by omega:x.toNat<ts.length)];exact congrArg some h2
    have:=(Hw (by omega) nd).mp h4;show (i:Int)=x;omega
 refine⟨λz mz=>?_,λn n' N N'=>?_⟩
 ·obtain⟨q,mq,rfl⟩:=a6.mp mz;obtain⟨a,b,c,d,e⟩:=M q mq;refine⟨(bd _ a b).1,(bd _ a b).2,(bd _ c d).1,(bd _ c d).2,λw=>e ?_⟩;have w':ts.getD q.1.toNat 0=ts.getD q.2.toNat 0:=w;rw[<-inv _ a b,w',inv _ c d]
 ·refine N.same N' (λx=>ts.getD x.toNat 0) (λy=>(((List.range k).find? λi=>decide (ts.getD i 0=y)).getD 0:Nat)) (λq mq=>?_) λq mq=>?_
  ·obtain⟨p,mp,rfl⟩:=a6.mp mq;exact⟨p,mp,rfl⟩
  ·obtain⟨a,b,c,d,e⟩:=M q mq;exact⟨_,zk mq,by rw[inv _ a b,inv _ c d]⟩
theorem back (M:Mv k ps):Mv k (ps.map λq=>(q.2,q.1)) /\ ∀ n n',Mn ps n->Mn (ps.map λq=>(q.2,q.1)) n'->n'=n:=by
 refine⟨λz mz=>?_,λn n' N N'=>N.turn N' (λq mq=>?_) λq mq=>a6.mpr ⟨q,mq,rfl⟩⟩
 ·obtain⟨y,my,rfl⟩:=a6.mp mz;obtain⟨a,b,c,d,e⟩:=M y my;exact⟨c,d,a,b,Ne.symm e⟩
 ·obtain⟨y,my,rfl⟩:=a6.mp mq;exact my
end
noncomputable abbrev ev (x0 x1:Option W) (p:Nat) (h:D) (j:Nat) (x5 x6 x7 x8 x9 x10 x11 x12 x13 x14:Option W):aI:=[x0,x1,some (.b p),some (.d h),some (.b j),x5,x6,x7,x8,x9,x10,x11,x12,x13,x14]
section
variable {h : D} {k p : Nat} {B A : List Bx} {x0 x1 x5 x6 x7 x8 x9 x10 x11 x12 x13 x14 : Option W}
theorem adL (H:bQ h k) (v:dV i env bx=.val (.d h) bx):dN false az (fb (d2 false av (dV i) (dC (.int 0))) fe) env bx=.val (.d (.int (k:Nat))) bx:=by
 obtain⟨rs,kk,aa,bb,rfl,hn⟩:=H.rs;exact iq (r:=.old (.int (k:Nat))) [.tup rs] (fg (fL (r:=.old (.tup rs)) v rfl rfl) rfl) (by simp[az,hn])
abbrev P1:aj:=kU 5 6 (fb lF (fb (dN false az (fb (d2 false av (dV 3) (dC (.int 0))) fe)) fe))
theorem U6 (H:bQ h k) (M:Mv k ps) (hl:ps.length<=10) (C:bj B) (N:Mn ps n) (hb:B[j]?=some (.lst (ps.map dP))):P1 (ev x0 x1 p h j x5 x6 x7 x8 x9 x10 x11 x12 x13 x14) B=.nx (ev x0 x1 p h j (xN (n:Nat)) (xN (k:Nat)) x7 x8 x9 x10 x11 x12 x13 x14) B :=
 Ga (Tk H M hl C N hb rfl rfl) (adL H rfl)
abbrev P2:aj:=bh (kS (dB (qU false (dV 5))) (nv (dB (d2 false cL (dV 6) (dC (.int 4)))) (cC (dB (dh K55.gz 3 1 (fb (dV 3) (fb (dV 4) (fb (dV 5) fe)))))))) (fO (dC (.bl false))) bf
theorem U7 (H:bQ h k) (M:Mv k ps) (hl:ps.length<=10) (C:bj B) (N:Mn ps n) (vk:n<=10) (hb:B[j]?=some (.lst (ps.map dP))):P2 (ev x0 x1 p h j (xN (n:Nat)) (xN (k:Nat)) x7 x8 x9 x10 x11 x12 x13 x14) B=.nx (ev x0 x1 p h j (xN (n:Nat)) (xN (k:Nat)) x7 x8 x9 x10 x11 x12 x13 x14) B:=by
 have t1:dB (qU false (dV 5)) (ev x0 x1 p h j (xN (n:Nat)) (xN (k:Nat)) x7 x8 x9 x10 x11 x12 x13 x14) B=.val false B:=gu (b:=false) rfl;have t2:dB (d2 false cL (dV 6) (dC (.int 4))) (ev x0 x1 p h j (xN (n:Nat)) (xN (k:Nat)) x7 x8 x9 x10 x11 x12 x13 x14) B=.val (decide (k<4)) B:=gu (fL (r:=.old (.bl (decide (k<4)))) rfl rfl (by
  show some (Res.old (.bl (decide ((k:Int)<4))))=_;congr 3;rw[ku,decide_eq_true_eq,decide_eq_true_eq];omega))
 refine(jX (oE t1 ?_)).trans rfl;by_cases z:k<4
 ·rw[decide_eq_true z]at t2;exact BM t2 (jA (b:=true) (gu (mU (ws:=[.d h,.b j,.d (.int (n:Nat))]) rfl rfl hb rfl C (Tj H (by omega) M hl N vk) rfl)))
 ·rw[decide_eq_false z]at t2;exact BL t2
abbrev Zs:aj:=bh (dB (d2 false c9 (fj K55.fZ 2 (fb (dV 3) (fb (dV 8) fe))) (dV 5))) (fO (dC (.bl false))) bf
theorem PU (H:bQ h k) {qs:List (Int×Int)}(M:Mv k qs) (hl:qs.length<=10) (C:bj B) (N:Mn qs n):Zs (ev x0 x1 p h j (xN (n:Nat)) x6 x7 (xP qs) x9 x10 x11 x12 x13 x14) B=.nx (ev x0 x1 p h j (xN (n:Nat)) x6 x7 (xP qs) x9 x10 x11 x12 x13 x14) B :=
 (jX (gu (b:=false) (fL (r:=.old (.bl false)) (fK (l:=[.d h,.d (.lst (qs.map dP))]) rfl rfl (Fi H M hl C N)) rfl (M5 _)))).trans rfl
abbrev P4:aj:=iC (ay (gC (fb (kn false [none,none,some 7] (dV 4) (ia 2 (fJ (fc 0) (fJ (fc 1) gU))) fw (gC (fb (d2 false av (dV 2) (dV 0)) (fb (d2 false av (dV 2) (dV 1)) fe)))) (fb (kn false [none,none] (dV 4) (ia 2 (fJ (fc 0) (fJ (fc 1) gU))) fw (gC (fb (dV 1) (fb (dV 0) fe)))) fe)))) (fc 8) Zs
theorem U8 (H:bQ h k) (M:Mv k ps) (hl:ps.length<=10) (C:bj B) (N:Mn ps n) (hb:B[j]?=some (.lst (ps.map dP))) {ts:List Int}(pt:ts.Perm (rg k)) :
 ∃ y8,P4 (ev x0 x1 p h j (xN (n:Nat)) x6 (xJ ts) x8 x9 x10 x11 x12 x13 x14) B=.nx (ev x0 x1 p h j (xN (n:Nat)) x6 (xJ ts) y8 x9 x10 x11 x12 x13 x14) B:=by
 have sz:=bp;obtain⟨M1,e1⟩:=turned pt M;obtain⟨M2,e2⟩:=back M;have l:ts.length=k:=by rw[pt.length_eq,oo]
 have at_:∀ x:Int,0<=x->x<(k:Int)->av (.lst (ts.map D.int)) (.int x)=some (.old (.int (ts.getD x.toNat 0))):=λx h0 h1=>by
  have:=UZ ts x.toNat (by omega);rw[show ((x.toNat:Nat):Int)=x by omega]at this;show Option.map Res.old (bc (ts.map D.int) x)=_;rw[this];rfl
 have c1:=Zr (env:=ev x0 x1 p h j (xN (n:Nat)) x6 (xJ ts) x8 x9 x10 x11 x12 x13 x14) (bx:=B) (src:=[none,none,some 7]) (m:=dV 4) (te:=gC (fb (d2 false av (dV 2) (dV 0)) (fb (d2 false av (dV 2) (dV 1)) fe))) (r:=[xJ ts]) (l:=ps) (λq=>dP (ts.getD q.1.toNat 0,ts.getD q.2.toNat 0)) rfl hb rfl (by omega) λq mq=>by
  obtain⟨a,b,c,d,_⟩:=M q mq;exact iL [.int (ts.getD q.1.toNat 0),.int (ts.getD q.2.toNat 0)] (fg (fL (r:=.old (.int (ts.getD q.1.toNat 0))) rfl rfl (at_ _ a b)) (fg (fL (r:=.old (.int (ts.getD q.2.toNat 0))) rfl rfl (at_ _ c d)) rfl)) (show (2:Nat)<=sizeLine by omega)
 have c2:=Zr (env:=ev x0 x1 p h j (xN (n:Nat)) x6 (xJ ts) x8 x9 x10 x11 x12 x13 x14) (bx:=B) (src:=[none,none]) (m:=dV 4) (te:=gC (fb (dV 1) (fb (dV 0) fe))) (r:=[]) (l:=ps) (λq=>dP (q.2,q.1)) rfl hb rfl (by omega) λq mq=>iL [.int q.2,.int q.1] rfl (show (2:Nat)<=sizeLine by omega);have it:=oT (iL [.lst (ps.map λq=>dP (ts.getD q.1.toNat 0,ts.getD q.2.toNat 0)),.lst (ps.map λq=>dP (q.2,q.1))] (fg c1 (fg (ks:=fe) (l:=[]) (bx2:=B) c2 rfl)) (show (2:Nat)<=sizeLine by omega));rw[show (ps.map λq=>dP (ts.getD q.1.toNat 0,ts.getD q.2.toNat 0))=(ps.map λq=>(ts.getD q.1.toNat 0,ts.getD q.2.toNat 0)).map dP by rw[nP];rfl,show (ps.map λq=>dP (q.2,q.1))=(ps.map λq=>(q.2,q.1)).map dP by rw[nP];rfl]at it;obtain⟨n1,_,N1,_⟩:=AM (bx:=B) H M1 (by rw[aA];exact hl) C;obtain⟨n2,_,N2,_⟩:=AM (bx:=B) H M2 (by rw[aA];exact hl) C;rw[e1 n n1 N N1]at N1;rw[e2 n n2 N N2]at N2;refine⟨xP (ps.map λq=>(q.2,q.1)),(jG it).trans ?_⟩;rw[aQ,mw (env1:=ev x0 x1 p h j (xN (n:Nat)) x6 (xJ ts) (xP (ps.map λq=>(ts.getD q.1.toNat 0,ts.getD q.2.toNat 0))) x9 x10 x11 x12 x13 x14) (bx1:=B) rfl (PU H M1 (by rw[aA];exact hl) C N1)];rw[aQ,mw (env1:=ev x0 x1 p h j (xN (n:Nat)) x6 (xJ ts) (xP (ps.map λq=>(q.2,q.1))) x9 x10 x11 x12 x13 x14) (bx1:=B) rfl (PU H M2 (by rw[aA];exact hl) C N2)];rfl
abbrev Qe:aj:=(fu (fH (fA false [none,some 2,some 6] (bC (fb (fj K1.ff 2 (fb (dV 2) (fb (dC (.int 10)) fe))) fe)) (fc 0) fw (fj K1.ff 2 (fb (dV 1) (fb (dV 2) fe)))) (fc 10)) (bh (nv (dB (dh aH.fT 3 1 (fb (dV 3) (fb (dV 4) (fb (dV 10) fe))))) (dB (d2 false cL (dN false az (fb (dV 10) fe)) (dV 5)))) (fO (dC (.bl false))) bf))
theorem UE (H:bQ h k) (M:Mv k ps) (hl:ps.length<=10) (C:bj A) (N:Mn ps n) (hp:p<A.length) (hj:j≠p) (hb:A[j]?=some (.lst (ps.map dP))) (q:Int) :
 ∃ q' nJ,Qe (ev x0 x1 p h j (xN (n:Nat)) (xN (k:Nat)) x7 x8 x9 x10 x11 x12 x13 x14) (K1.pt A p q)=.nx (ev x0 x1 p h j (xN (n:Nat)) (xN (k:Nat)) x7 x8 x9 nJ x11 x12 x13 x14) (K1.pt A p q'):=by
 have sz:=bp;have n0:=H.n0;have n5:=H.n5;obtain⟨c,q1,t1,c0,c1⟩:=vf hp q (env:=ev x0 x1 p h j (xN (n:Nat)) (xN (k:Nat)) x7 x8 x9 x10 x11 x12 x13 x14) (i:=2) rfl 10 (by decide) (by decide);obtain⟨c,rfl⟩:=vM c0;obtain⟨ds,q2,e1,e2,e3⟩:=oR (g:=fc 0) (te:=fj K1.ff 2 (fb (dV 1) (fb (dV 2) fe))) (λe=>∃ w,e=[w,xB p,xN (k:Nat)]) (λd=>wi d 0 ((k:Int)-1)=true) (bx:=A) (n:=p) (fE 0 c) [none,xB p,xN (k:Nat)] q1 [] ⟨none,rfl⟩ (by
  rintro w _ env q ⟨w',rfl⟩;obtain⟨r,q',t,r0,r1⟩:=jY hp (p:=q) (env:=[some w,xB p,xN (k:Nat)]) (i:=1) (m:=dV 2) (k:=(k:Nat)) rfl rfl (by omega) (by omega);exact⟨_,rfl,⟨some w,rfl⟩,.int r,q',t,by simp[wi];omega⟩) (by simp[fE];omega)
 rw[uf]at e1;have dl:ds.length=c:=by rw[e2];simp[fE]
 obtain⟨is,rfl,ib⟩:=BU (l:=ds) (lo:=0) (hi:=(k:Int)-1) (cA.mpr e3);rw[aA]at dl;have cv:fA false [none,some 2,some 6] (bC (fb (fj K1.ff 2 (fb (dV 2) (fb (dC (.int 10)) fe))) fe)) (fc 0) fw (fj K1.ff 2 (fb (dV 1) (fb (dV 2) fe))) (ev x0 x1 p h j (xN (n:Nat)) (xN (k:Nat)) x7 x8 x9 x10 x11 x12 x13 x14) (K1.pt A p q)=.val (.d (.lst (is.map D.int))) (K1.pt A p q2):=by
  refine iI ?_ (e2:=[none,xB p,xN (k:Nat)]) rfl e1;rw[iF (fg t1 rfl) ⟨by omega,by omega⟩,cX]
 have CB:bj (K1.pt A p q2):=C.set p rfl;have uy:(K1.pt A p q2)[j]?=some (.lst (ps.map dP)):=by rw[aH.Bq hj];exact hb
 refine⟨q2,xJ is,?_⟩;refine(fq (env1:=ev x0 x1 p h j (xN (n:Nat)) (xN (k:Nat)) x7 x8 x9 (xJ is) x11 x12 x13 x14) (fW cv)).trans ((jX ?_).trans rfl);have ir:dB (dh aH.fT 3 1 (fb (dV 3) (fb (dV 4) (fb (dV 10) fe)))) (ev x0 x1 p h j (xN (n:Nat)) (xN (k:Nat)) x7 x8 x9 (xJ is) x11 x12 x13 x14) (K1.pt A p q2)=.val (ps.all (rowOne is)) (K1.pt A p q2):=by
  refine gu (mU (ws:=[.d h,.b j,.d (.lst (is.map D.int))]) rfl rfl uy rfl CB ?_ rfl);show fT [.d h,.d (.lst (ps.map dP)),.d (.lst (is.map D.int))] _=_;rw[aH.AC H M hl _ (show Ok (.lst (is.map D.int)) from show (is.map D.int).length<=1000000 by rw[aA];omega),Fh λx mx=>by have:=ib x mx;omega]
 have lt:dB (d2 false cL (dN false az (fb (dV 10) fe)) (dV 5)) (ev x0 x1 p h j (xN (n:Nat)) (xN (k:Nat)) x7 x8 x9 (xJ is) x11 x12 x13 x14) (K1.pt A p q2)=.val (decide (is.length<n)) (K1.pt A p q2):=
  gu (fL (r:=.old (.bl (decide (is.length<n)))) (iq (r:=.old (.int (is.length:Nat))) [.lst (is.map D.int)] (fg rfl rfl) (by simp[az])) rfl (by simp[cL]))
 by_cases z:ps.all (rowOne is)=true
 ·rw[z]at ir;have:=N.lo is ((AL M).mp z);rw[decide_eq_false (by omega)]at lt;exact BM ir lt
 ·rw[Bool.not_eq_true]at z;rw[z]at ir;exact BL ir
abbrev P5:aj:=iC (bC (fb (dC (.int 8)) fe)) (fc 9) Qe
theorem U9 (H:bQ h k) (M:Mv k ps) (hl:ps.length<=10) (C:bj A) (N:Mn ps n) (hp:p<A.length) (hj:j≠p) (hb:A[j]?=some (.lst (ps.map dP))) (q:Int) :
 ∃ q' y9 nJ,P5 (ev x0 x1 p h j (xN (n:Nat)) (xN (k:Nat)) x7 x8 x9 x10 x11 x12 x13 x14) (K1.pt A p q)=.nx (ev x0 x1 p h j (xN (n:Nat)) (xN (k:Nat)) x7 x8 y9 nJ x11 x12 x13 x14) (K1.pt A p q'):=by
 obtain⟨ax,bx',e,q',y9,nJ,rfl,rfl⟩:=jr (g:=fc 9) (body:=Qe) (λ_ env b=>∃ q y9 nJ,env=ev x0 x1 p h j (xN (n:Nat)) (xN (k:Nat)) x7 x8 y9 nJ x11 x12 x13 x14 /\ b=K1.pt A p q) (fE 0 8) 0 (ev x0 x1 p h j (xN (n:Nat)) (xN (k:Nat)) x7 x8 x9 x10 x11 x12 x13 x14) (K1.pt A p q) ⟨q,x9,x10,rfl,rfl⟩ (by
  rintro i w env b hw ⟨q,y9,nJ,rfl,rfl⟩;obtain⟨q',adM,e⟩:=UE (x0:=x0) (x1:=x1) (x7:=x7) (x8:=x8) (x9:=some w) (x10:=nJ) (x11:=x11) (x12:=x12) (x13:=x13) (x14:=x14) H M hl C N hp hj hb q;exact⟨ev x0 x1 p h j (xN (n:Nat)) (xN (k:Nat)) x7 x8 (some w) nJ x11 x12 x13 x14,K1.pt A p q,_,_,rfl,e,q',some w,adM,rfl,rfl⟩)
 exact⟨q',y9,nJ,(jG (U5 8 (by decide) _ _)).trans e⟩
end
section
variable {h : D} {k p : Nat} {B A : List Bx} {x0 x1 x5 x6 x7 x8 x9 x10 x11 x12 x13 x14 : Option W}
abbrev P3:aj:=fH (fj K55.iT 2 (fb (dV 2) (fb (uX false (fb (dV 6) fe)) fe))) (fc 7)
theorem Va (k5:k<=5) (hp:p<A.length) (q:Int):∃ (ts:List Int) (q':Int),ts.Perm (rg k) /\ P3 (ev x0 x1 p h j x5 (xN (k:Nat)) x7 x8 x9 x10 x11 x12 x13 x14) (K1.pt A p q)=.nx (ev x0 x1 p h j x5 (xN (k:Nat)) (xJ ts) x8 x9 x10 x11 x12 x13 x14) (K1.pt A p q'):=by
 obtain⟨ds,q',e,pm⟩:=Pa hp q ((rg k).map D.int) (by rw[aA,oo];omega);obtain⟨ts,rfl,pt⟩:=JI pm;have lr:uX false (fb (dV 6) fe) (ev x0 x1 p h j x5 (xN (k:Nat)) x7 x8 x9 x10 x11 x12 x13 x14) (K1.pt A p q)=.val (.d (.lst ((rg k).map D.int))) (K1.pt A p q):=by
  have:=K2.Uk (ks:=fb (dV 6) fe) (env:=ev x0 x1 p h j x5 (xN (k:Nat)) x7 x8 x9 x10 x11 x12 x13 x14) (bx:=K1.pt A p q) (bx1:=K1.pt A p q) (j:=k) rfl (by omega);rw[this,nP];rfl
 exact⟨ts,q',pt,fW (fK (l:=[.b p,.d (.lst ((rg k).map D.int))]) (fg rfl (fg lr rfl)) rfl e)⟩
abbrev Zt:aj:=(fu (fH (fj K1.ff 2 (fb (dV 2) (fb (dN false az (fb (dV 4) fe)) fe))) (fc 11)) (fu (kU 12 13 (fb (d2 false fM (dJ false (dV 4) c8 (cQ (dV 11))) (dJ false (dV 4) (cQ (d2 false fM (dV 11) (dC (.int 1)))) c8)) (fb (d2 false av (dV 4) (dV 11)) fe))) (fu (fH (fj K55.fZ 2 (fb (dV 3) (fb (dV 12) fe))) (fc 14)) (fu (bh (kS (dB (qU false (dV 14))) (dB (d2 false h9 (dV 14) (dV 5)))) (fO (dC (.bl false))) bf) (fu (fV (rX (dV 4) (dV 11))) (fu (bh (dB (d2 false c9 lF (dV 14))) (fO (dC (.bl false))) bf) (fu (fV (tW (dV 4) (dV 11) (dV 13))) (bh (dB (d2 false c9 lF (dV 5))) (fO (dC (.bl false))) bf))))))))
theorem UF (H:bQ h k) (M:Mv k ps) (hl:ps.length<=10) (C:bj A) (N:Mn ps n) (hp:p<A.length) (hj:j≠p) (hb:A[j]?=some (.lst (ps.map dP))) (h0:ps≠[]) (q:Int) :
 ∃ q' vm vn vo vp,Zt (ev x0 x1 p h j (xN (n:Nat)) x6 x7 x8 x9 x10 x11 x12 x13 x14) (K1.pt A p q)=.nx (ev x0 x1 p h j (xN (n:Nat)) x6 x7 x8 x9 x10 vm vn vo vp) (K1.pt A p q'):=by
 have sz:=bp;have l0:0<ps.length:=List.length_pos_iff.mpr h0;have gb:∀ q:Int,(K1.pt A p q)[j]?=some (.lst (ps.map dP)):=λq=>by rw[aH.Bq hj];exact hb
 have ln:dN false az (fb (dV 4) fe) (ev x0 x1 p h j (xN (n:Nat)) x6 x7 x8 x9 x10 x11 x12 x13 x14) (K1.pt A p q)=.val (.d (.int (ps.length:Nat))) (K1.pt A p q):=by
  have:=BQ (m:=dV 4) (env:=ev x0 x1 p h j (xN (n:Nat)) x6 x7 x8 x9 x10 x11 x12 x13 x14) (bx:=K1.pt A p q) (bx1:=K1.pt A p q) rfl (gb q);rw[aA]at this;exact this
 obtain⟨c,q',t,c0,c1⟩:=jY hp (env:=ev x0 x1 p h j (xN (n:Nat)) x6 x7 x8 x9 x10 x11 x12 x13 x14) (i:=2) rfl ln (by omega) (by omega);obtain⟨c,rfl⟩:=vM c0;have hc:c<ps.length:=by omega
 have g:=gb q';have CB:bj (K1.pt A p q'):=C.set p rfl;have jl:j<(K1.pt A p q').length:=(List.getElem?_eq_some_iff.mp g).1;have Ml:Mv k (ps.take c++ps.drop (c+1)):=λz mz=>M z ((bN.mp mz).elim Wi Wj);have ll:(ps.take c++ps.drop (c+1)).length<=10:=by simp;omega
 obtain⟨m,_,Nm,_⟩:=AM (bx:=K1.pt A p q') H Ml ll CB;have mn:m<=n:=N.sub Nm λz mz=>(bN.mp mz).elim Wi Wj;refine⟨q',xN (c:Nat),xP (ps.take c++ps.drop (c+1)),some (.d (dP ps[c])),xN (m:Nat),?_⟩;generalize K1.pt A p q'=B at t g CB jl ⊢;refine(fq (fW t)).trans ?_;have s1:dJ false (dV 4) c8 (cQ (dV 11)) (ev x0 x1 p h j (xN (n:Nat)) x6 x7 x8 x9 x10 (xN (c:Nat)) x12 x13 x14) B=.val (.d (.lst ((ps.take c).map dP))) B:=by
  have:=PM (m:=dV 4) (lo:=c8) (hi:=cQ (dV 11)) (env:=ev x0 x1 p h j (xN (n:Nat)) x6 x7 x8 x9 x10 (xN (c:Nat)) x12 x13 x14) (bx:=B) rfl rfl (F9 rfl) g;rw[ST _ c (by rw[aA];omega),<-HQ]at this;exact this
 have s2:dJ false (dV 4) (cQ (d2 false fM (dV 11) (dC (.int 1)))) c8 (ev x0 x1 p h j (xN (n:Nat)) x6 x7 x8 x9 x10 (xN (c:Nat)) x12 x13 x14) B=.val (.d (.lst ((ps.drop (c+1)).map dP))) B:=by
  have:=PM (m:=dV 4) (lo:=cQ (d2 false fM (dV 11) (dC (.int 1)))) (hi:=c8) (env:=ev x0 x1 p h j (xN (n:Nat)) x6 x7 x8 x9 x10 (xN (c:Nat)) x12 x13 x14) (bx:=B) (a:=some ((c+1:Nat):Int)) rfl (F9 (fL (r:=.old (.int ((c+1:Nat):Int))) rfl rfl rfl)) rfl g;rw[Mg _ (c+1) (by rw[aA];omega),<-HR]at this;exact this
 have a2:d2 false fM (dJ false (dV 4) c8 (cQ (dV 11))) (dJ false (dV 4) (cQ (d2 false fM (dV 11) (dC (.int 1)))) c8) (ev x0 x1 p h j (xN (n:Nat)) x6 x7 x8 x9 x10 (xN (c:Nat)) x12 x13 x14) B=.val (.d (.lst ((ps.take c++ps.drop (c+1)).map dP))) B:=by
  refine fL (r:=.lst ((ps.take c++ps.drop (c+1)).map dP)) s1 s2 ?_;rw[cV];exact if_pos (by simp;omega)
 have a3:d2 false av (dV 4) (dV 11) (ev x0 x1 p h j (xN (n:Nat)) x6 x7 x8 x9 x10 (xN (c:Nat)) x12 x13 x14) B=.val (.d (dP ps[c])) B:=by
  refine PK rfl rfl g ?_;unfold bc;rw[BR (by rw[aA];exact hc),ba,dS,bI hc];rfl
 refine(fq (Ga a2 a3)).trans ?_;refine(fq (fW (fK (l:=[.d h,.d (.lst ((ps.take c++ps.drop (c+1)).map dP))]) rfl rfl (Fi H Ml ll CB Nm)))).trans ?_;show fu _ _ (ev x0 x1 p h j (xN (n:Nat)) x6 x7 x8 x9 x10 (xN (c:Nat)) (xP (ps.take c++ps.drop (c+1))) (some (.d (dP ps[c]))) (xN (m:Nat))) B=_;have t1:dB (qU false (dV 14)) (ev x0 x1 p h j (xN (n:Nat)) x6 x7 x8 x9 x10 (xN (c:Nat)) (xP (ps.take c++ps.drop (c+1))) (some (.d (dP ps[c]))) (xN (m:Nat))) B=.val false B:=gu (b:=false) rfl;have t2:dB (d2 false h9 (dV 14) (dV 5)) (ev x0 x1 p h j (xN (n:Nat)) x6 x7 x8 x9 x10 (xN (c:Nat)) (xP (ps.take c++ps.drop (c+1))) (some (.d (dP ps[c]))) (xN (m:Nat))) B=.val false B :=
  gu (b:=false) (fL (r:=.old (.bl false)) rfl rfl (by simp[h9];omega))
 refine(fq ((jX (oE t1 t2)).trans rfl)).trans ?_;have er:(ps.map dP).eraseIdx c=(ps.take c++ps.drop (c+1)).map dP:=by rw[List.eraseIdx_eq_take_drop_succ,cV,HQ,HR]
 have pv:=Gb (m:=dV 4) (k:=dV 11) (env:=ev x0 x1 p h j (xN (n:Nat)) x6 x7 x8 x9 x10 (xN (c:Nat)) (xP (ps.take c++ps.drop (c+1))) (some (.d (dP ps[c]))) (xN (m:Nat))) (bx:=B) rfl g rfl g ⟨by omega,by omega⟩ (BR (by rw[aA];exact hc)) (by rw[dS,bI hc];rfl);rw[er]at pv;refine(fq (gH pv)).trans ?_;have C2:bj (B.set j (.lst ((ps.take c++ps.drop (c+1)).map dP))):=CB.set j (Gv _);have g2:(B.set j (.lst ((ps.take c++ps.drop (c+1)).map dP)))[j]?=some (.lst ((ps.take c++ps.drop (c+1)).map dP)):=qi jl;have u1:dB (d2 false c9 lF (dV 14)) (ev x0 x1 p h j (xN (n:Nat)) x6 x7 x8 x9 x10 (xN (c:Nat)) (xP (ps.take c++ps.drop (c+1))) (some (.d (dP ps[c]))) (xN (m:Nat))) (B.set j (.lst ((ps.take c++ps.drop (c+1)).map dP)))=.val false (B.set j (.lst ((ps.take c++ps.drop (c+1)).map dP))):=
  gu (b:=false) (fL (r:=.old (.bl false)) (Tk H Ml ll C2 Nm g2 rfl rfl) rfl (M5 _))
 refine(fq ((jX u1).trans rfl)).trans ?_;have iv:=PP (m:=dV 4) (a:=dV 11) (b:=dV 13) (env:=ev x0 x1 p h j (xN (n:Nat)) x6 x7 x8 x9 x10 (xN (c:Nat)) (xP (ps.take c++ps.drop (c+1))) (some (.d (dP ps[c]))) (xN (m:Nat))) (bx:=B.set j (.lst ((ps.take c++ps.drop (c+1)).map dP))) (i:=c) (d:=dP ps[c]) rfl rfl rfl g2 (by simp;omega) (by rw[aA];omega);have bk:((ps.take c++ps.drop (c+1)).map dP).take c++dP ps[c]::((ps.take c++ps.drop (c+1)).map dP).drop c=ps.map dP:=by
  rw[<-HQ,<-HR,<-aQ,<-cV,List.take_left' (by simp;omega),List.drop_left' (by simp;omega),<-List.drop_eq_getElem_cons hc,Wg]
 rw[bk,HG,CU g]at iv;refine(fq (gH iv)).trans ?_;exact(jX (gu (b:=false) (fL (r:=.old (.bl false)) (Tk H M hl CB N g rfl rfl) rfl (M5 _)))).trans rfl
abbrev P6:aj:=bh (dB (d2 false c9 (dV 4) (f7 false fe))) Zt bf
theorem Vb (H:bQ h k) (M:Mv k ps) (hl:ps.length<=10) (C:bj A) (N:Mn ps n) (hp:p<A.length) (hj:j≠p) (hb:A[j]?=some (.lst (ps.map dP))) (q:Int) :
 ∃ q' vm vn vo vp,P6 (ev x0 x1 p h j (xN (n:Nat)) x6 x7 x8 x9 x10 x11 x12 x13 x14) (K1.pt A p q)=.nx (ev x0 x1 p h j (xN (n:Nat)) x6 x7 x8 x9 x10 vm vn vo vp) (K1.pt A p q'):=by
 have g:(K1.pt A p q)[j]?=some (.lst (ps.map dP)):=by rw[aH.Bq hj];exact hb
 have t:dB (d2 false c9 (dV 4) (f7 false fe)) (ev x0 x1 p h j (xN (n:Nat)) x6 x7 x8 x9 x10 x11 x12 x13 x14) (K1.pt A p q)=.val (!(ps.map dP).isEmpty) (K1.pt A p q):=gu (UD (r:=.old (.bl (!(ps.map dP).isEmpty))) (y:=.lst []) rfl (Aw [] rfl (cG _)) g rfl);cases ps with
 |nil=>exact⟨q,x11,x12,x13,x14,(jX t).trans rfl⟩
 | cons a l =>
   obtain⟨q',vm,vn,vo,vp,e⟩:=UF (x0:=x0) (x1:=x1) (x6:=x6) (x7:=x7) (x8:=x8) (x9:=x9) (x10:=x10) (x11:=x11) (x12:=x12) (x13:=x13) (x14:=x14) H M hl C N hp hj hb (by simp) q;exact⟨q',vm,vn,vo,vp,(BN t).trans e⟩
end
abbrev Zu:aj:=(fu (fH (fj K1.iZ 1 (fb (fj K1.gM 2 (fb (dV 0) (fb (dV 1) fe))) fe)) (fc 2)) (fu (fH (fj aH.im 1 (fb (dV 2) fe)) (fc 3)) (fu (fH (fj K55.iy 2 (fb (dV 2) (fb (dV 3) fe))) (fc 4)) (fu P1 (fu P2 (fu P3 (fu P4 (fu P5 P6))))))))
theorem UG (l:List Int) (k:Nat) (bx:List Bx) (C:bj bx) (x2 x3 x4 x5 x6 x7 x8 x9 x10 x11 x12 x13 x14:Option W):∃ (ys:aI) (bx':List Bx),ys.length=14 /\ bj bx' /\ Zu [some (.s l),xN (k:Int),x2,x3,x4,x5,x6,x7,x8,x9,x10,x11,x12,x13,x14] bx=.nx (some (.s l)::ys) bx':=by
 obtain⟨c,ec⟩:=SW l k bx;obtain⟨p,ep⟩:=Ui c bx;obtain⟨A,hn,CA,pA⟩:∃ A:List Bx,bx.length<A.length /\ bj A /\ bx++[Bx.lst [D.int p]]=K1.pt A bx.length p :=
  ⟨bx++[.lst [.int p]],by simp,C.app (B7 rfl),by unfold K1.pt;exact(CU HJ).symm⟩
 rw[pA]at ep;obtain⟨h,m,q,eh,H⟩:=aH.Ms hn p;obtain⟨ps,q1,em,M,hl⟩:=O9 hn q H;have hA:bx.length<(A++[Bx.lst (ps.map dP)]).length:=by simp;omega
 have CM:bj (A++[Bx.lst (ps.map dP)]):=CA.app (B7 (Gv ps));have hj:A.length≠bx.length:=by omega
 have hb:(A++[Bx.lst (ps.map dP)])[A.length]?=some (.lst (ps.map dP)):=HJ;generalize A++[Bx.lst (ps.map dP)]=A1 at em hA CM hb;have cp:∀ q:Int,bj (K1.pt A1 bx.length q):=λq=>CM.set bx.length rfl;have gb:∀ q:Int,(K1.pt A1 bx.length q)[A.length]?=some (.lst (ps.map dP)):=λq=>by rw[aH.Bq hj];exact hb
 obtain⟨n,_,N,vk⟩:=AM (bx:=K1.pt A1 bx.length q1) H M hl (cp q1);obtain⟨ts,q2,pt,e3⟩:=Va (h:=h) (j:=A.length) (x0:=some (.s l)) (x1:=xN (k:Int)) (x5:=xN (n:Nat)) (x7:=x7) (x8:=x8) (x9:=x9) (x10:=x10) (x11:=x11) (x12:=x12) (x13:=x13) (x14:=x14) H.n5 hA q1;obtain⟨y8,e4⟩:=U8 (x0:=some (.s l)) (x1:=xN (k:Int)) (p:=bx.length) (x6:=xN (m:Nat)) (x8:=x8) (x9:=x9) (x10:=x10) (x11:=x11) (x12:=x12) (x13:=x13) (x14:=x14) H M hl (cp q2) N (gb q2) pt;obtain⟨q3,y9,nJ,e5⟩:=U9 (x0:=some (.s l)) (x1:=xN (k:Int)) (x7:=xJ ts) (x8:=y8) (x9:=x9) (x10:=x10) (x11:=x11) (x12:=x12) (x13:=x13) (x14:=x14) H M hl CM N hA hj hb q2;obtain⟨q4,vm,vn,vo,vp,e6⟩:=Vb (x0:=some (.s l)) (x1:=xN (k:Int)) (x6:=xN (m:Nat)) (x7:=xJ ts) (x8:=y8) (x9:=y9) (x10:=nJ) (x11:=x11) (x12:=x12) (x13:=x13) (x14:=x14) H M hl CM N hA hj hb q3;refine⟨[xN (k:Int),xB bx.length,some (.d h),xB A.length,xN (n:Nat),xN (m:Nat),xJ ts,y8,y9,nJ,vm,vn,vo,vp],K1.pt A1 bx.length q4,rfl,cp q4,?_⟩;have s1:fH (fj K1.iZ 1 (fb (fj K1.gM 2 (fb (dV 0) (fb (dV 1) fe))) fe)) (fc 2) [some (.s l),xN (k:Int),x2,x3,x4,x5,x6,x7,x8,x9,x10,x11,x12,x13,x14] bx=.nx [some (.s l),xN (k:Int),xB bx.length,x3,x4,x5,x6,x7,x8,x9,x10,x11,x12,x13,x14] (K1.pt A bx.length p):=fW (fK (fg (fK (fg rfl (fg rfl rfl)) rfl ec) rfl) rfl ep);have s2:fH (fj aH.im 1 (fb (dV 2) fe)) (fc 3) [some (.s l),xN (k:Int),xB bx.length,x3,x4,x5,x6,x7,x8,x9,x10,x11,x12,x13,x14] (K1.pt A bx.length p)=.nx [some (.s l),xN (k:Int),xB bx.length,some (.d h),x4,x5,x6,x7,x8,x9,x10,x11,x12,x13,x14] (K1.pt A bx.length q):=fW (fK (fg rfl rfl) rfl eh);have s3:fH (fj K55.iy 2 (fb (dV 2) (fb (dV 3) fe))) (fc 4) [some (.s l),xN (k:Int),xB bx.length,some (.d h),x4,x5,x6,x7,x8,x9,x10,x11,x12,x13,x14] (K1.pt A bx.length q)=.nx (ev (some (.s l)) (xN (k:Int)) bx.length h A.length x5 x6 x7 x8 x9 x10 x11 x12 x13 x14) (K1.pt A1 bx.length q1):=fW (fK (l:=[.b bx.length,.d h]) rfl rfl em);refine(fq s1).trans ((fq s2).trans ((fq s3).trans ?_));refine(fq (U6 H M hl (cp q1) N (gb q1))).trans ?_;refine(fq (U7 H M hl (cp q1) N vk (gb q1))).trans ?_;exact(fq e3).trans ((fq e4).trans ((fq e5).trans e6))
theorem UH (l:List Int) (hl:l.length<=1000) (bx:List Bx) (xs:aI):∃ c:Nat,bC (fb (dN false maxD (fb (dC (.int 1)) (fb (dN false minD (fb (qQ (dV 0)) (fb (dC (.int 3)) fe))) fe))) fe) (some (.s l)::xs) bx=.val (fE 0 c) bx:=by
 have e1:qQ (dV 0) (some (.s l)::xs) bx=.val (.d (.int l.length)) bx:=rfl;have e2:dN false minD (fb (qQ (dV 0)) (fb (dC (.int 3)) fe)) (some (.s l)::xs) bx=.val (.d (.int (if (3:Int)<l.length then 3 else l.length))) bx:=iq (r:=.old _) [.int l.length,.int 3] (fg e1 (fg rfl rfl)) rfl;have e3:dN false maxD (fb (dC (.int 1)) (fb (dN false minD (fb (qQ (dV 0)) (fb (dC (.int 3)) fe))) fe)) (some (.s l)::xs) bx=.val (.d (.int (if (if (3:Int)<l.length then (3:Int) else l.length)>1 then (if (3:Int)<l.length then 3 else l.length) else 1))) bx:=iq (r:=.old _) [.int 1,.int (if (3:Int)<l.length then 3 else l.length)] (fg rfl (fg e2 rfl)) rfl;have e4:=fg (ks:=fe) e3 rfl;refine⟨_,iF e4 ?_⟩;split<;>split<;>omega
theorem law_true (l:List Int) (hl:l.length<=1000):∃ bx',B5 [.s l] []=.val (.d (.bl true)) bx':=by
 obtain⟨c,ec⟩:=K55.UH l hl [] [none,none,none,none,none,none,none,none,none,none,none,none,none,none];obtain⟨ax,bx',e,ys,rfl,hy,_⟩:=jr (g:=fc 1) (body:=K55.Zu) (λ_ env b=>∃ ys:aI,env=some (.s l)::ys /\ ys.length=14 /\ bj b) (fE 0 c) 0 [some (.s l),none,none,none,none,none,none,none,none,none,none,none,none,none,none] [] ⟨_,rfl,rfl,rfl⟩ (by
  rintro i w env b hw ⟨ys,rfl,hy,C⟩;obtain⟨k,_,rfl⟩:=a6.mp (xf hw);match ys,hy with
  | [x1,x2,x3,x4,x5,x6,x7,x8,x9,x10,x11,x12,x13,x14],_ =>
    obtain⟨zs,bx',hz,C',e⟩:=K55.UG l k b C x2 x3 x4 x5 x6 x7 x8 x9 x10 x11 x12 x13 x14;refine⟨[some (.s l),xN (k:Int),x2,x3,x4,x5,x6,x7,x8,x9,x10,x11,x12,x13,x14],b,_,_,by rw[Ib];rfl,e,zs,rfl,hz,C'⟩)
 refine⟨_,BO (bx':=bx') ?_⟩;show MW [some (.s l),none,none,none,none,none,none,none,none,none,none,none,none,none,none] []=_;unfold MW;refine(fq ((jG ec).trans e)).trans ?_;exact gN rfl
end K55
namespace L2.DL
open PySem.W
structure Cf where
 N:List Str
 nm:List (Str×NameKind)
 f:Bool
 bx:List Str
 dc:List Str
 wk:List (Str×Nat)   -- 1: a tuple of ae7,2: a box that is walked,3: a dict with tuple keys
 Ew:Str
 fs:List (Str×(Nat×(List W->List Bx->O W)))
 gl:List (Str×Int)
 bl:List Str
 rb:Bool
 ow:List Str
structure bL (c:Cf) (k:Nat) (X:Cx) (Z:Xs):Prop where
 N:X.N=c.N
 nm:X.env.scope.names=c.nm
 kd:X.env.scope.kind=.function
 calm:X.calm=true
 fn:c.f=true->∀ x,X.fn x=true
 ow:∀ x,x∈c.ow->X.fn x=true
 nd:c.N.Nodup
 room:cZ k X.A
 fs:∀ x n fn,c.fs.lookup x=some (n,fn)->∃ kk ps,pd X.prog X.w X.K X.mg X.base Z.cl kk x ps fn /\ ps.length=n /\ kk<=k
 gl:∀ x v,c.gl.lookup x=some v->∃ t,X.mg x=some (.int v t)
 bl:∀ x,x∈c.bl->X.mg x=none
 Zv:Passes (nu X.prog X.w) X Z.E
 ti:nz X.K "int"
 tb:nz X.K "bool"
 tt:nz X.K "tuple"
 tl:nz X.K "list"
 own:PassesOwn (model X.prog X.w) X.A X.env X.xe
noncomputable def aB:DE α:=λ_ _=>.bad
section
variable {o : Option Expr}
theorem fF:PD X T Z e aB:=λ_ _ _ _ _ _ h=>by
 obtain⟨_,_,_,_,_,h⟩:=h;exact h.elim
theorem jx:dk X T Z e aB:=λ_ _ _ _ _ _ h=>by
 obtain⟨_,_,_,_,_,h⟩:=h;exact h.elim
theorem Gz:qJ X T Z e aB:=λ_ _ _ _ _ _ _ h=>by
 obtain⟨_,_,_,_,_,h⟩:=h;exact h.elim
theorem Pb:bX X T Z es aB:=λ_ _ _ _ _ _ _ h=>by
 obtain⟨_,_,_,_,_,h⟩:=h;exact h.elim
theorem mV:ny X T Z tg e aB:=λ_ _ _ _ _ _ h=>by
 obtain⟨_,_,_,_,_,h⟩:=h;exact h.elim
noncomputable def vq:DG:=λ_ _ _=>none
noncomputable def Zw:h8:=λ_ _ _=>none
theorem lR:dY X T e vq:=λ_ _ _ _ _ _ _ _ _ h=>by
 obtain⟨_,_,_,_,_,_,_,h⟩:=h;exact h.elim
theorem M6:qL X T es Zw:=λ_ _ _ _ _ _ _ _ _ h=>by
 obtain⟨_,_,_,_,_,_,_,h⟩:=h;exact h.elim
end
noncomputable def Cf.kd (c:Cf) (x:Str) (n:Nat):Bool:=match c.wk.lookup x with|some k=>k==n|none=>false
def Ex (c:Cf) (n:Nat):Expr->Bool
 |.Name x _=>c.kd x n
 |_=>false
def adN (c:Cf) (es:List Expr):Option Nat:=es.findIdx? (Ex c 4)
noncomputable def Cf.ix (c:Cf) (x:Str):Option Nat:=c.N.findIdx? λy=>decide (y=x)
theorem Cf.Qf {c:Cf}(h:c.ix x=some i):c.N[i]?=some x:=by
 obtain⟨h1,h2,_⟩:=List.findIdx?_eq_some_iff_getElem.mp h;rw[bI h1,of_decide_eq_true h2]
def Cf.Qg (c:Cf) (x:Str):Bool:=(decide (c.nm.lookup x=some .local)||decide (c.nm.lookup x=some .cell)||decide (c.nm.lookup x=some .free))&&!(x==("__debug__":Str))&&!(x==("__classdict__":Str))
def Cf.yL (c:Cf) (x:Str):Bool:=decide (c.nm.lookup x=some .globalImplicit)&&!(x==("__debug__":Str))&&decide (x≠("__name__":Str))
def Cf.wM (c:Cf) (x:Str):Bool:=(decide (c.nm.lookup x=some .local)||decide (c.nm.lookup x=some .cell))&&(c.f||decide (x∈c.ow)||decide (c.nm.lookup x=some .local))
def Cf.dD (c:Cf) (x:Str):Bool:=c.yL x&&decide (x∈c.bl)
section
variable {c : Cf} {k : Nat} 
theorem bL.adO (O:bL c k X Z) (h:c.Qg x=true):vR X.env.scope x /\ (x==("__debug__":Str))=false /\ (x==("__classdict__":Str))=false:=by
 simp only[Cf.Qg,aE,HV,decide_eq_true_eq,vK]at h;unfold vR;rw[O.nm];exact⟨or_assoc.mp h.1.1,h.1.2,h.2⟩
theorem bL.gb (O:bL c k X Z) (h:c.yL x=true):Gl X x /\ (x==("__debug__":Str))=false /\ x≠("__name__":Str):=by
 simp only[Cf.yL,aE,decide_eq_true_eq,vK]at h;unfold Gl Env.kindOf;rw[O.nm];exact⟨h.1.1,h.1.2,h.2⟩
theorem bL.lo (O:bL c k X Z) (h:c.wM x=true):Loc X.env.scope x /\ (X.fn x=true \/ X.env.scope.names.lookup x=some .local):=by
 simp only[Cf.wM,aE,HV,decide_eq_true_eq]at h;unfold Loc;rw[O.nm];exact⟨h.1,h.2.imp (λz=>z.elim (λz=>O.fn z x) (O.ow x)) id⟩
theorem bL.blt (O:bL c k X Z) (h:c.dD x=true):Gl X x /\ (x==("__debug__":Str))=false /\ x≠("__name__":Str) /\ X.mg x=none:=by
 simp only[Cf.dD,aE,decide_eq_true_eq]at h;obtain⟨a,b,d⟩:=O.gb h.1;exact⟨a,b,d,O.bl x h.2⟩
theorem bL.at (O:bL c k X Z) (h:c.ix x=some i):X.N[i]?=some x:=by rw[O.N];exact c.Qf h
theorem bL.wN (O:bL c k X Z):X.N.Nodup:=by rw[O.N];exact O.nd
theorem bL.u0 (O:bL c k X Z):X.A.units+100<cLine:=by have:=O.room.un;omega
theorem bL.u1 (O:bL c k X Z):X.A.units+1<cLine:=by have:=O.room.un;omega
def Ey (c:Cf) (fz:Bool) (x:Str):DE W:=match c.ix x with
 |some i=>if c.Qg x then (if fz&&c.bx.contains x then kI i else dV i) else aB
 | none=>match c.gl.lookup x with
   |some v=>if c.yL x then dC (.int v) else aB
   |none=>aB
theorem Dk (O:bL c k X Z) (fz:Bool):PD X T Z (.Name x pos) (Ey c fz x):=by
 unfold Ey;split
 ·rename_i i e;split
  ·rename_i h;obtain⟨a,b,d⟩:=O.adO h;split
   ·exact Sk i (O.at e) a b d
   ·exact RI i (O.at e) a b d
  ·exact fF
 ·split
  ·rename_i v e;split
   ·rename_i h;obtain⟨a,b,_⟩:=O.gb h;exact N7 a (O.gl x v e) b
   ·exact fF
  ·exact fF
end
section
variable {c : Cf} {k : Nat} {f : Expr -> DE W} {t : Expr -> DE Bool} {g : Expr -> DG}
def sr (f:Expr->DE W):List Expr->DE (List W)
 |[]=>fe
 |e::es=>if aR e then fb (f e) (sr f es) else aB
theorem lH (h:∀ e,PD X T Z e (f e)):∀ es,bX X T Z es (sr f es)
 |[]=>iH
 | e::es=>by
   unfold sr;split
   ·rename_i n;exact jD (h e) (lH h es) n
   ·exact Pb
def Qh (f:Expr->DE W):List Expr->DE W
 |[]=>aB
 |[a]=>f a
 |a::r=>gq (f a) (Qh f r)
theorem GA (h:∀ e,PD X T Z e (f e)):∀ es,PD X T Z (.BoolOp .And es pos) (Qh f es)
 |[]=>fF
 |[a]=>RR (h a)
 |a::b::r=>RS (h a) (GA h (b::r))
def Qi (f:Expr->DE Bool):List Expr->DE Bool
 |[]=>aB
 |[a]=>f a
 |a::r=>nv (f a) (Qi f r)
theorem Dl (h:∀ e,dk X T Z e (t e)):∀ es,qJ X T Z (.BoolOp .And es pos) (Qi t es)
 |[]=>Gz
 |[a]=>Lc (h a)
 |a::b::r=>NF (h a) (Dl h (b::r))
def Qj (f:Expr->DE Bool):List Expr->DE Bool
 |[]=>aB
 |[a]=>f a
 |a::r=>kS (f a) (Qj f r)
theorem GB (h:∀ e,dk X T Z e (t e)):∀ es,qJ X T Z (.BoolOp .Or es pos) (Qj t es)
 |[]=>Gz
 |[a]=>NE (h a)
 |a::b::r=>RQ (h a) (GB h (b::r))
def Ez (g:Expr->DG):List Expr->h8
 |[]=>gU
 |e::es=>if aR e then fJ (g e) (Ez g es) else Zw
theorem M7 (h:∀ e,dY X T e (g e)):∀ es,qL X T es (Ez g es)
 |[]=>Cn
 | e::es=>by
   unfold Ez;split
   ·rename_i n;exact DP (h e) (M7 h es) n
   ·exact M6
end
def Zx:Operator->Option (D->D->Option Res)
 |.Add=>some fM|.Sub=>some en|.Mult=>some ez|.FloorDiv=>some z8|.Mod=>some eG|.Pow=>some uK
 |_=>none
def vt:CmpOp->Option (D->D->Option Res)
 |.Eq=>some dt|.NotEq=>some c9|.Lt=>some cL|.LtE=>some nD|.Gt=>some h9|.GtE=>some rQ|.In=>some (inD false)|.NotIn=>some (inD true)
 |_=>none
theorem Pc {op:Operator}(h:Zx op=some g):∃ q,aN X (binaryOp op) q /\ bK q g:=by
 cases op<;>cases h
 ·exact⟨_,NT,abL⟩
 ·exact⟨_,Ro,abM⟩
 ·exact⟨_,N0,acd⟩
 ·exact⟨_,Rq,abO⟩
 ·exact⟨_,Rr,abP⟩
 ·exact⟨_,Nq,abN⟩
theorem lS (hu:X.A.units+100<cLine) (h:vt op=some g):∃ q,aN X (compareOp op) q /\ bK q g:=by
 cases op<;>cases h
 ·exact⟨_,Sh hu,aca⟩
 ·exact⟨_,Si hu,acb⟩
 ·exact⟨_,R6 (by omega),abQ⟩
 ·exact⟨_,Sj (by omega),ace⟩
 ·exact⟨_,TM,abR⟩
 ·exact⟨_,TN,abS⟩
 ·exact⟨_,GP.or (Sv hu),okIn false⟩
 ·exact⟨_,BD.or (G7 hu),okIn true⟩
def Qk:List (Str×(Bool×(String×(List D->Option Res)))):=
 [("len",false, "len",az),("all",false, "all",bP),("any",false, "any",wu),("sorted",false, "sorted",nE),("max",false, "max",maxD),("min",false, "min",minD),
  ("tuple",true, "tuple",kH),("list",true, "list",tF)]
def Zy (X:Cx) (x:Str) (p:Bool×(String×(List D->Option Res))):Prop :=
 match p with
 |(false,id,g)=>bootBuiltins x=some (.builtin id) /\ ∃ q,eE X (.builtin id) q /\ dW q g
 |(true,id,g)=>bootBuiltins x=some (.type id) /\ ∃ q,eE X (.type id) q /\ dW q g
theorem jf {α:Type}{P:Str->α->Prop}:∀ {l:List (Str×α)}{x:Str}{a:α},(∀ p∈l,P p.1 p.2)->l.lookup x=some a->P x a
 |[],_,_,_,e=>by cases e
 | (y,b)::r,x,a,h,e=>by
   rw[eO]at e;cases hx:x==y with
   | true =>
     rw[hx]at e;cases e;have:x=y:=by simpa using hx
     subst this;exact h _ (bZ ..)
   | false =>
     rw[hx]at e;exact jf (λp m=>h p (bS _ m)) e
theorem Pd (hc:X.calm=true) (hu:X.A.units+100<cLine) {p:Bool×(String×(List D->Option Res))}(h:Qk.lookup x=some p):Zy X x p:=by
 refine jf (P:=Zy X) (λp m=>?_) h;simp only[Qk,aO,eZ,or_false]at m;rcases m with rfl|rfl|rfl|rfl|rfl|rfl|rfl|rfl
 ·exact⟨by decide +kernel,_,mE,abU⟩
 ·exact⟨by decide +kernel,_,GY hc,abX⟩
 ·exact⟨by decide +kernel,_,Ja hc,acM⟩
 ·exact⟨by decide +kernel,_,DO hu,acD⟩
 ·exact⟨by decide +kernel,_,GJ hc,ab0⟩
 ·exact⟨by decide +kernel,_,GK hc,ab1⟩
 ·exact⟨by decide +kernel,_,AW,abY⟩
 ·exact⟨by decide +kernel,_,BE,abZ⟩
noncomputable def Ql:List (Str×String):=[("int", "int"),("bool", "bool"),("tuple", "tuple"),("list", "list")]
theorem M8 {c:Cf}{k:Nat}(O:bL c k X Z) {n:String}(h:Ql.lookup x=some n):nz X.K n /\ bootBuiltins x=some (.type n):=by
 refine jf (P:=λx n=>nz X.K n /\ bootBuiltins x=some (.type n)) (λp m=>?_) h;simp only[Ql,aO,eZ,or_false]at m;rcases m with rfl|rfl|rfl|rfl
 ·exact⟨O.ti,by decide +kernel⟩
 ·exact⟨O.tb,by decide +kernel⟩
 ·exact⟨O.tt,by decide +kernel⟩
 ·exact⟨O.tl,by decide +kernel⟩
noncomputable def yM:Expr->Bool
 |.Call ..=>false
 |_=>true
theorem iA {o:Expr}{a:Str}{env:Env}{whole:Sem Value}(h:yM o=true):attributeBase o a env whole=whole:=by
 cases o<;>first|rfl|cases h
noncomputable def plainT:Expr->Bool
 |.BoolOp ..|.UnaryOp ..|.IfExp ..|.Compare ..=>false
 |_=>true
theorem By {env:Env}(h:plainT e=true) (whole:Sem Value):PySem.isTrue e env whole=(do let v <-whole;standAt e.pos;holding [v] (truthy v)):=by
 cases e<;>first|rfl|cases h
noncomputable def tX:Expr->Bool
 |.Set ..=>false
 |_=>true
theorem iK {env:Env}(h:tX e=true) (x:Value):foldedSetIterable e env x=pure x:=by
 cases e<;>first|rfl|cases h
noncomputable def wO:Expr->Bool
 |.ListComp ..|.SetComp ..|.DictComp ..=>true
 |_=>false
theorem mW {t:Option Expr}{l:Nat}{env:Env}(h:wO e=false):swapsWith e t l env=pure false:=by
 cases e<;>first|rfl|cases h
noncomputable def EA:Expr->Bool
 |.Slice ..=>false
 |_=>true
section
variable {a b o : Expr} {mb mc : DE W} {p : Pos}
theorem AR (h:EA b=true):zQ b:=λ_ _=>by
 cases b<;>first|rfl|cases h
theorem Pe (h:EA b=true):Eb b:=λ_ _=>by
 cases b<;>first|rfl|cases h
theorem Qm {env:Env}(h:aR e=true):((backTo pos (starEach [e] env)).all (λx=>!x.1)&&(backToKw pos (keywordEach [] env)).all (λx=>x.1.isSome)&&decide ([e].length+([]:List Keyword).length+(if ([]:List Keyword).isEmpty then 0 else 1)<30))=true:=by
 rw[fk h];rfl
theorem Qn {env:Env}{f:Expr}(h:aR e=true) (hf:aR f=true):((backTo pos (starEach [e,f] env)).all (λx=>!x.1)&&(backToKw pos (keywordEach [] env)).all (λx=>x.1.isSome)&&decide ([e,f].length+([]:List Keyword).length+(if ([]:List Keyword).isEmpty then 0 else 1)<30))=true:=by
 rw[fk h,fk hf];rfl
theorem UI {Q:VK}(h:tD T Z (qU false ma) σ H Q):Xq (tD T Z ma) σ H Q:=by
 obtain⟨F,r,env,bx,R,h⟩:=h;refine⟨F,r,env,bx,R,End.bind h λx bx1 F1 r1 v H1 g1 R1 d1 h1=>?_⟩;cases x with
 | d d =>
   rw[FJ (show Den F1 d v from d1)];cases d<;>exact h1 F1 r1 _ H1 (.refl F1 r1) R1 rfl
 |_=>exact h1.elim
theorem Pf (hu:X.A.units+1<cLine) (hi:PD X T Z e mb) (ho:PD X T Z o ma) (hm:behindInMarks .In o=false):dk X T Z (.Compare e [.In] [o] pos) (dB (qT false mb ma)):=
 PT.imp (Dp (Lp hu hi ho) hm) λσ H Q h=>Px (NA h)
end
section
variable {c : Cf} {k : Nat} {p : Pos} {f : Expr -> DE W} {o : Expr}
def wQ (c:Cf) (f:Expr->DE W) (bo:Bool) (x:Str) (es:List Expr):DE W :=
 match c.fs.lookup x with
 | some (n,fn)=>(match es with
   |[]=>aB
   |e::es=>if c.yL x&&ki (e::es) then (match adN c (e::es) with|some j=>dh fn n j (sr f (e::es))|none=>fj fn n (sr f (e::es))) else aB)
 | none=>match Qk.lookup x with
   | some (_,_,g)=>(match es with
     |[]=>aB
     |e::es=>if c.dD x&&ki (e::es) then dN bo g (sr f (e::es)) else aB)
   |none=>aB
theorem oX (O:bL c k X Z) (h:∀ e,PD X T Z e (f e)) (bo:Bool) (es:List Expr):PD X T Z (.Call (.Name x p) es [] pos) (wQ c f bo x es):=by
 unfold wQ;split
 ·rename_i n fn e;split
  ·exact fF
  ·split
   ·rename_i a as q;rw[aE]at q;obtain⟨g1,g2,_⟩:=O.gb q.1;obtain⟨kk,ps,hh,hn,hk⟩:=O.fs x n fn e;split
    ·exact Tf hh O.room hk g1 O.Zv (lH h _) q.2 hn g2
    ·exact T4 hh O.room hk g1 O.Zv (lH h _) q.2 hn g2
   ·exact fF
 ·split
  ·rename_i ty id g e;split
   ·exact fF
   ·split
    ·rename_i a as q;rw[aE]at q;obtain⟨g1,g2,g3,g4⟩:=O.blt q.1;have b:=Pd O.calm O.u0 e;cases ty with
     | false =>
       obtain⟨b1,qq,b2,b3⟩:=b;exact T3 bo b2 b3 g1 g4 b1 (lH h _) q.2 g3 g2
     | true =>
       obtain⟨b1,qq,b2,b3⟩:=b;exact Su bo b2 b3 g1 g4 b1 (lH h _) q.2 g3 g2
    ·exact fF
  ·exact fF
noncomputable def Zz (c:Cf):Expr->Bool
 |.Name x _=>decide (x=c.Ew)
 |_=>false
def Qo (c:Cf) (f:Expr->DE W) (bo:Bool) (x:Str) (es:List Expr):DE W :=
 if x="isinstance" then (match es with
  | [a,.Name t _]=>(match Ql.lookup t with
    |some n=>if c.dD "isinstance"&&c.dD t&&aR a then iM n (f a) else aB
    |none=>aB)
  |_=>aB)
 else if x="repr" then aB
 else match es with
  | [.Call (.Name y _) [a] [] _]=>if x="list" /\ y="range" then (if c.dD "list"&&c.dD "range"&&aR a then uX bo (fb (f a) fe) else aB)
    else if x="len" /\ y="set" then (if c.dD "len"&&c.dD "set"&&aR a then dN false u5 (fb (f a) fe) else aB)
    else if x="sorted" /\ y="set" then (if c.dD "sorted"&&c.dD "set"&&aR a then dN bo wD (fb (f a) fe) else aB) else wQ c f bo x es
  |[.Call (.Attribute o n ap) [] [] cp]=>if x="list" /\ n="values" then (if c.dD "list"&&yM o&&(ap.endLine==cp.line) then wH bo (f o) else aB) else wQ c f bo x es
  |[a]=>if x="len" /\ Zz c a=true then (if c.dD "len"&&aR a then qQ (f a) else aB) else wQ c f bo x es
  |_=>wQ c f bo x es
theorem M9 (O:bL c k X Z) (h:∀ e,PD X T Z e (f e)) (bo:Bool) (es:List Expr):PD X T Z (.Call (.Name x p) es [] pos) (Qo c f bo x es):=by
 unfold Qo;split
 ·rename_i hx;subst hx;split
  ·rename_i a t tp;split
   ·rename_i n e;split
    ·rename_i q;simp only[aE]at q;obtain⟨g1,g2,g3,g4⟩:=O.blt q.1.1;obtain⟨j1,j2,j3,j4⟩:=O.blt q.1.2;obtain⟨y1,y2⟩:=M8 O e;exact T5 y1 g1 g4 j1 j4 y2 (h a) q.2 j3 j2
    ·exact fF
   ·exact fF
  ·exact fF
 ·split
  ·exact fF
  ·split
   ·rename_i y q1 a q2;split
    ·rename_i hx;obtain⟨rfl,rfl⟩:=hx;split
     ·rename_i q;simp only[aE]at q;obtain⟨g1,g2,g3,g4⟩:=O.blt q.1.1;obtain⟨j1,j2,j3,j4⟩:=O.blt q.1.2;exact T7 bo O.calm g1 g4 j1 j4 (jD (h a) iH q.2) q.2
     ·exact fF
    ·split
     ·rename_i hx;obtain⟨rfl,rfl⟩:=hx;split
      ·rename_i q;simp only[aE]at q;obtain⟨g1,g2,g3,g4⟩:=O.blt q.1.1;obtain⟨j1,j2,j3,j4⟩:=O.blt q.1.2;exact Jf O.calm g1 g4 j1 j4 (jD (h a) iH q.2) q.2
      ·exact fF
     ·split
      ·rename_i hx;obtain⟨rfl,rfl⟩:=hx;split
       ·rename_i q;simp only[aE]at q;obtain⟨g1,g2,g3,g4⟩:=O.blt q.1.1;obtain⟨j1,j2,j3,j4⟩:=O.blt q.1.2;exact DV bo O.calm g1 g4 j1 j4 (jD (h a) iH q.2) q.2
       ·exact fF
      ·exact oX O h bo _
   ·rename_i o n ap cp;split
    ·rename_i hx;obtain⟨rfl,rfl⟩:=hx;split
     ·rename_i q;simp only[aE]at q;obtain⟨g1,g2,g3,g4⟩:=O.blt q.1.1;exact Ow bo O.calm g1 g4 (h o) (iA q.1.2) q.2
     ·exact fF
    ·exact oX O h bo _
   ·rename_i a _ _;split
    ·rename_i hx;obtain⟨rfl,_⟩:=hx;split
     ·rename_i q;rw[aE]at q;obtain⟨g1,g2,g3,g4⟩:=O.blt q.1;exact N4 g1 g4 (h a) (fk q.2 _ _)
     ·exact fF
    ·exact oX O h bo _
   ·exact oX O h bo _
def Qp (c:Cf) (f:Expr->DE W) (x k g:Str) (a:Expr):DE W :=
 if x="min" /\ k="key" /\ g="len" then (if c.dD "min"&&c.dD "len"&&aR a then dN false yx (fb (f a) fe) else aB) else aB
theorem Pg (O:bL c k X Z) (h:∀ e,PD X T Z e (f e)) {n g:Str}(a:Expr) {q kp:Pos}:PD X T Z (.Call (.Name x p) [a] [⟨some n,.Name g q,kp⟩] pos) (Qp c f x n g a):=by
 unfold Qp;split
 ·rename_i hx;obtain⟨rfl,rfl,rfl⟩:=hx;split
  ·rename_i q;simp only[aE]at q;obtain⟨g1,g2,g3,g4⟩:=O.blt q.1.1;obtain⟨j1,j2,j3,j4⟩:=O.blt q.1.2;exact Jc O.calm g1 g4 j1 j4 (jD (h a) iH q.2) (fk q.2 _ _)
  ·exact fF
 ·exact fF
def Qq (dd:Bool) (f:Expr->DE W) (o:Expr) (m:Str) (es:List Expr):DE W:=match es with
 |[e]=>if aR e then (if dd then aB else if m="extend" then ph (f o) (f e) else if m="append" then n8 (f o) (f e) else if m="pop" then rX (f o) (f e) else aB) else aB
 |[e,g]=>if aR e&&aR g then (if m="setdefault" then uY (f o) (f e) (f g) else if m="insert" then tW (f o) (f e) (f g) else aB) else aB
 |[]=>if m="clear" then wL (f o) else aB
 |_=>aB
theorem Ph (hu:X.A.units+1<cLine) (dd:Bool) (h:∀ e,PD X T Z e (f e)) {m:Str}(es:List Expr) (hb:yM o=true) (hl:(apos.endLine==pos.line)=true):PD X T Z (.Call (.Attribute o m apos) es [] pos) (Qq dd f o m es):=by
 unfold Qq;split
 ·rename_i e;split
  ·rename_i n;split
   ·exact fF
   ·split
    ·rename_i z;subst z;exact Jk (h o) (h e) (iA hb) (Qm n) hl (fk n _ _)
    ·split
     ·rename_i z;subst z;exact G2 (h o) (h e) (iA hb) (Qm n) hl (fk n _ _)
     ·split
      ·rename_i z;subst z;exact LA (h o) (h e) n (iA hb) (Qm n) hl
      ·exact fF
  ·exact fF
 ·rename_i e g;split
  ·rename_i q;rw[aE]at q;obtain⟨n1,n2⟩:=q;split
   ·rename_i z;subst z;exact Od (h o) (h e) (h g) n1 n2 (iA hb) (Qn n1 n2) hl (by rw[fk n1,fk n2];rfl)
   ·split
    ·rename_i z;subst z;exact Tg (h o) (h e) (h g) (iA hb) (Qn n1 n2) hl n1 n2
    ·exact fF
  ·exact fF
 ·split
  ·rename_i z;subst z;exact Th (h o) (iA hb) hl
  ·exact fF
 ·exact fF
end
noncomputable def Qr (on names:List (Str×NameKind)):List (Str×NameKind):=names.map λ(n,k)=>if k==NameKind.free&&on.lookup n==some .cell then (n,NameKind.cell) else (n,k)
noncomputable def EB:Nat->Expr->List Str
 |_,.Name x _=>[x]
 |n+1,.Tuple es _ _=>es.flatMap (EB n)
 |_,_=>[]
def Cf.cN (c:Cf) (tg:Expr) (sc:Scope):List Str:=EB 4 tg++c.N.filter λx=>decide (sc.names.lookup x=some .free)
def Cf.src (c:Cf) (tg:Expr) (sc:Scope):List (Option Nat):=(EB 4 tg).map (λ_=>none)++(c.N.filter λx=>decide (sc.names.lookup x=some .free)).map c.ix
def Cf.inner (c:Cf) (tg:Expr) (sc:Scope):Cf:={ c with N:=c.cN tg sc,nm:=Qr c.nm sc.names,f:=false,bx:=[],ow:=(EB 4 tg).filter λx=>decide (sc.names.lookup x=some .cell) }
def Cf.vv (c:Cf) (tg:Expr) (sc:Scope):Bool:=KH c.N { kind:=.function,names:=c.nm,isGenerator:=false,isCoroutine:=false } sc (c.cN tg sc) (c.src tg sc)&&decide (c.cN tg sc).Nodup
section
variable {c : Cf} {k : Nat} {sc : Scope}
theorem bL.inner (O:bL c k X Z) (h:c.vv tg sc=true):kQ X (c.cN tg sc) (c.src tg sc) sc /\ ∀ cl s H C fp,bL (c.inner tg sc) k (X.comp (c.cN tg sc) sc cl s H C fp) ⟨E0,Z.cl⟩:=by
 unfold Cf.vv at h;rw[aE,decide_eq_true_eq]at h;have S:kQ X (c.cN tg sc) (c.src tg sc) sc:=DN (XN:=c.N) (sc:={ kind:=.function,names:=c.nm,isGenerator:=false,isCoroutine:=false }) (λx=>by unfold Env.kindOf;rw[O.nm]) O.N h.1;refine⟨S,λcl s H C fp=>⟨rfl,?_,S.kind,O.calm,λz=>(by cases z),λx m=>(cW.mp m).2,h.2,O.room,O.fs,O.gl,O.bl,FA,O.ti,O.tb,O.tt,O.tl,PassesOwn.never⟩⟩;show (relabel sc X.env).names=Qr c.nm sc.names;unfold relabel Qr Env.kindOf;rw[O.kd,O.nm];simp
end
structure Cm where
 e:Cf->Bool->Bool->Expr->DE W
 t:Cf->Expr->DE Bool
 g:Cf->Expr->DG
 s:Cf->Stmt->aj
structure Good (m:Cm):Prop where
 e:∀ {c:Cf}{k:Nat}{X:Cx}{Z:Xs},bL c k X Z->∀ {T:Fr}(bo fz:Bool) (e:Expr),PD X T Z e (m.e c bo fz e)
 t:∀ {c:Cf}{k:Nat}{X:Cx}{Z:Xs},bL c k X Z->∀ {T:Fr}(e:Expr),dk X T Z e (m.t c e)
 g:∀ {c:Cf}{k:Nat}{X:Cx}{Z:Xs},bL c k X Z->∀ {T:Fr}(e:Expr),dY X T e (m.g c e)
 s:∀ {c:Cf}{k:Nat}{X:Cx}{Z:Xs},bL c k X Z->∀ {T:Fr}(st:Stmt),dq X T Z st (m.s c st)
section
variable (m : Cm) (c : Cf)
def cI (tg it:Expr):DE (List W):=match it with
 | .Call (.Name x _) [a] [] _ =>
   if x="range" then (if c.dD "range"&&aR a then bC (fb (m.e c false false a) fe) else aB)
   else if x="enumerate" then (match tg with
    |.Tuple ..=>if c.dD "enumerate"&&aR a then Ej (fb (m.e c false false a) fe) else aB
    |_=>aB)
   else ay (m.e c false true it)
 | .Call (.Name x _) [a,b] [] _ =>
   if x="range" then (if c.dD "range"&&aR a&&aR b then qM (fb (m.e c false false a) (fb (m.e c false false b) fe)) else aB)
   else if x="zip" then (if c.dD "zip"&&aR a&&aR b then tK (fb (m.e c false false a) (fb (m.e c false false b) fe)) else aB)
   else ay (m.e c false true it)
 |_=>ay (m.e c false true it)
def cF (ifs:List Expr):DE Bool:=match ifs with
 |[]=>fw
 |[t]=>m.t c t
 |_=>aB
def yN (bo:Bool) (elt tg it:Expr) (ifs:List Expr) (sc:Scope):DE W :=
 if c.vv tg sc&&tX it then fA bo (c.src tg sc) (cI m c tg it) (m.g (c.inner tg sc) tg) (cF m (c.inner tg sc) ifs) (m.e (c.inner tg sc) false false elt) else aB
def Qs (bo:Bool) (elt tg it:Expr) (ifs:List Expr) (sc:Scope):DE W :=
 if c.vv tg sc&&tX it then kn bo (c.src tg sc) (m.e c false false it) (m.g (c.inner tg sc) tg) (cF m (c.inner tg sc) ifs) (m.e (c.inner tg sc) false false elt) else aB
noncomputable def cj (a b:Expr):Expr:=.Tuple [a,b] 0 ⟨0,0,0,0⟩
def Qt (bo:Bool) (elt:Expr) (gs:List Comprehension) (sc:Scope):DE W:=match gs with
 |[⟨tg,it,ifs,0⟩]=>if c.dD "sorted"&&c.vv tg sc&&tX it then p6 bo (c.src tg sc) (cI m c tg it) (m.g (c.inner tg sc) tg) (cF m (c.inner tg sc) ifs) (eW (m.e (c.inner tg sc) false false elt)) else aB
 | [⟨tg,it,ifs,0⟩,⟨nK,u7,Qu,0⟩]=>if c.dD "sorted"&&c.vv (cj tg nK) sc&&tX it&&tX u7 then p6 bo (c.src (cj tg nK) sc) (cI m c tg it) (m.g (c.inner (cj tg nK) sc) tg) (cF m (c.inner (cj tg nK) sc) ifs)
     (vd (cI m (c.inner (cj tg nK) sc) nK u7) (m.g (c.inner (cj tg nK) sc) nK) (cF m (c.inner (cj tg nK) sc) Qu) (eW (m.e (c.inner (cj tg nK) sc) false false elt))) else aB
 |_=>aB
noncomputable def yO:Expr->Bool
 |.Name x _=>c.dc.contains x
 |_=>false
def cO (o:Option Expr):DE (Option Int):=match o with
 |none=>c8
 |some e=>cQ (m.e c false false e)
def yP (a:Expr) (op:CmpOp) (b:Expr):DE W :=
 if yO c b then (match op with
  |.In=>if behindInMarks .In b=false then qT false (m.e c false false a) (m.e c false false b) else aB
  |_=>aB)
 else match op,b with
  |.Is,.Constant .none _ _=>qU false (m.e c false false a)
  |.IsNot,.Constant (.bool true) _ _=>sk (m.e c false false a)
  | _,_=>match vt op with
    |some g=>if behindInMarks op b=false then d2 false g (m.e c false false a) (m.e c false false b) else aB
    |none=>aB
def Qv (a:Expr) (op cB:CmpOp) (b d:Expr):DE W:=match vt op,vt cB with
 |some g,some g'=>if lastMarks [op,cB] [b,d]=false then d3 g g' (m.e c false false a) (m.e c false false b) (m.e c false false d) else aB
 |_,_=>aB
def Qw (bo:Bool) (a b:Expr):DE W:=match b with
 |.Slice lo hi none _=>dJ bo (m.e c false false a) (cO m c lo) (cO m c hi)
 |.Slice none none (some (.UnaryOp .USub (.Constant (.int i) _ _) _)) _=>if i=1 then uM bo (m.e c false false a) else aB
 |b=>if EA b then (if Zz c a then Ed (m.e c false false a) (m.e c false false b) else if yO c a then rY (m.e c false false a) (m.e c false false b) else d2 false av (m.e c false false a) (m.e c false false b)) else aB
def Qx (v:Const):DE W:=match v with
 |.int i=>dC (.int i)
 |.bool b=>dC (.bl b)
 |.none=>dC .non
 |.str x=>dC (.str x)
 |_=>aB
def Qy (op:UnaryOp) (a:Expr):DE W:=match op with
 |.USub=>qP (m.e c false false a)
 |.Not=>zY (m.e c false false a)
 |_=>aB
def Qz (op:BoolOp) (es:List Expr):DE W:=match op with
 |.And=>Qh (m.e c false false) es
 |.Or=>aB
def QA (a:Expr) (ops:List CmpOp) (bs:List Expr):DE W:=match ops,bs with
 |[op],[b]=>yP m c a op b
 |[op,cB],[b,d]=>Qv m c a op cB b d
 |_,_=>aB
def QB (x:Str) (es:List Expr) (ks:List Keyword):DE W:=match es,ks with
 |[a],[⟨some n,.Name g _,_⟩]=>Qp c (m.e c false false) x n g a
 |_,_=>aB
def QC (bo:Bool) (f:Expr) (es:List Expr) (ks:List Keyword) (pos:Pos):DE W:=match f with
 | .Name x _=>(match ks with
   | []=>(match es with
     |[.SetComp elt gs sc _]=>if x="sorted" then Qt m c bo elt gs sc else aB
     |es=>Qo c (m.e c false false) bo x es)
   |k::ks=>QB m c x es (k::ks))
 | .Attribute o n apos=>(match ks with
   | []=>if Ex c 3 o then (match es with
     |[e,g]=>if yM o&&(apos.endLine==pos.line)&&aR e&&aR g&&decide (n="setdefault") then tQ (m.e c false false o) (m.e c false false e) (m.e c false false g) else aB
     |_=>aB)
     else if yM o&&(apos.endLine==pos.line) then Qq (yO c o) (m.e c false false) o n es else aB
   |_::_=>aB)
 |_=>aB
def QD (bo:Bool) (elt:Expr) (gs:List Comprehension) (sc:Scope):DE W:=match gs with
 |[⟨tg,it,ifs,0⟩]=>if Ex c 2 it||Ex c 4 it then Qs m c bo elt tg it ifs sc else yN m c bo elt tg it ifs sc
 |_=>aB
def sE (bo fz:Bool) (e:Expr):DE W:=match e with
 |.Constant v _ _=>Qx v
 |.Name x _=>Ey c fz x
 |.Tuple es _ _=>if bo then En (sr (m.e c true false) es) else gC (sr (m.e c false false) es)
 |.List es _=>f7 bo (sr (m.e c false false) es)
 |.Dict [] [] _=>tH bo []
 | .BinOp a op b _=>(match Zx op with
   |some g=>d2 bo g (m.e c false false a) (m.e c false false b)
   |none=>aB)
 |.UnaryOp op a _=>Qy m c op a
 |.BoolOp op es _=>Qz m c op es
 |.Compare a ops bs _=>QA m c a ops bs
 |.IfExp t a b _=>tu (m.t c t) (m.e c false false a) (m.e c false false b)
 |.Subscript a b _=>Qw m c bo a b
 |.Call f es ks pos=>QC m c bo f es ks pos
 |.ListComp elt gs sc _=>QD m c bo elt gs sc
 |_=>aB
def sT (e:Expr):DE Bool:=match e with
 |.BoolOp .And es _=>Qi (m.t c) es
 |.BoolOp .Or es _=>Qj (m.t c) es
 |.UnaryOp .Not a _=>cC (m.t c a)
 | .Compare a [op] [b] _=>if yO c b then dB (yP m c a op b) else (match op,b with
   |.Is,.Constant .none _ _=>dB (qU false (m.e c false false a))
   |.IsNot,.Constant (.bool true) _ _=>dB (sk (m.e c false false a))
   | _,_=>match vt op with
     |some g=>if behindInMarks op b=false then dB (d2 false g (m.e c false false a) (m.e c false false b)) else aB
     |none=>aB)
 | .Compare a [op,cB] [b,d] _=>(match vt op,vt cB with
   |some g,some g'=>if lastMarks [op,cB] [b,d]=false then dB (d3 g g' (m.e c false false a) (m.e c false false b) (m.e c false false d)) else aB
   |_,_=>aB)
 |.Name x _=>uG (Ey c false x)
 |e=>if plainT e then dB (m.e c false false e) else aB
def sG (tg:Expr):DG:=match tg with
 | .Name x _=>(match c.ix x with
   |some i=>if c.wM x then fc i else vq
   |none=>vq)
 |.Tuple es _ _=>if ki es then ia es.length (Ez (m.g c) es) else vq
 |.Subscript o i _=>if EA i then rT (m.e c false false o) (m.e c false false i) else vq
 |_=>vq
end
section
variable {m : Cm} {c : Cf} {k : Nat} (G : Good m) (O : bL c k X Z)
include G O
theorem AS (tg it:Expr):ny X T Z tg it (cI m c tg it):=by
 unfold cI;split
 ·rename_i x p a pos;split
  ·rename_i z;subst z;split
   ·rename_i q;rw[aE]at q;obtain⟨g1,g2,g3,g4⟩:=O.blt q.1;exact DB g1 g4 (jD (G.e O _ _ a) iH q.2) (fk q.2 _ _)
   ·exact mV
  ·split
   ·rename_i z;subst z;split
    ·split
     ·rename_i q;rw[aE]at q;obtain⟨g1,g2,g3,g4⟩:=O.blt q.1;exact LD g1 g4 (jD (G.e O _ _ a) iH q.2) (fk q.2 _ _)
     ·exact mV
    ·exact mV
   ·exact BF (G.e O _ _ _)
 ·rename_i x p a b pos;split
  ·rename_i z;subst z;split
   ·rename_i q;simp only[aE]at q;obtain⟨⟨q,n1⟩,n2⟩:=q;obtain⟨g1,g2,g3,g4⟩:=O.blt q;exact DC g1 g4 (jD (G.e O _ _ a) (jD (G.e O _ _ b) iH n2) n1) (by rw[fk n1,fk n2];rfl) (fk n2 _ _)
   ·exact mV
  ·split
   ·rename_i z;subst z;split
    ·rename_i q;simp only[aE]at q;obtain⟨⟨q,n1⟩,n2⟩:=q;obtain⟨g1,g2,g3,g4⟩:=O.blt q;exact N6 g1 g4 (jD (G.e O _ _ a) (jD (G.e O _ _ b) iH n2) n1) (by rw[fk n1,fk n2];rfl) (fk n2 _ _)
    ·exact mV
   ·exact BF (G.e O _ _ _)
 ·exact BF (G.e O _ _ _)
theorem AT (ifs:List Expr):PF X ifs (eU T Z (cF m c ifs)):=by
 unfold cF;split
 ·exact NR
 ·exact NS (G.t O _)
 ·exact λ_ _ _ _ _ _ h=>by obtain⟨_,_,_,_,_,h⟩:=h;exact h.elim
theorem Na (bo:Bool) (elt tg it:Expr) (ifs:List Expr) (sc:Scope) (pos:Pos):PD X T Z (.ListComp elt [⟨tg,it,ifs,0⟩] sc pos) (yN m c bo elt tg it ifs sc):=by
 unfold yN;split
 ·rename_i q;rw[aE]at q;obtain⟨S,OO⟩:=O.inner q.1;exact FB bo O.calm S (AS G O tg it) (λ_ _ _ _ _ _=>G.g (OO _ _ _ _ _) tg) (λ_ _ _ _ _ _=>AT G (OO _ _ _ _ _) ifs) (λ_ _ _ _ _ _=>G.e (OO _ _ _ _ _) _ _ elt) (λx=>iK q.2 x)
 ·exact fF
theorem JJ (bo:Bool) (elt tg it:Expr) (ifs:List Expr) (sc:Scope) (pos:Pos):PD X T Z (.ListComp elt [⟨tg,it,ifs,0⟩] sc pos) (Qs m c bo elt tg it ifs sc):=by
 unfold Qs;split
 ·rename_i q;rw[aE]at q;obtain⟨S,OO⟩:=O.inner q.1;exact LT bo O.calm S (G.e O _ _ it) (λ_ _ _ _ _ _=>G.g (OO _ _ _ _ _) tg) (λ_ _ _ _ _ _=>AT G (OO _ _ _ _ _) ifs) (λ_ _ _ _ _ _=>G.e (OO _ _ _ _ _) _ _ elt) (λx=>iK q.2 x)
 ·exact fF
theorem Tl (bo:Bool) (elt:Expr) (gs:List Comprehension) (sc:Scope) (p aX pos:Pos):PD X T Z (.Call (.Name "sorted" p) [.SetComp elt gs sc aX] [] pos) (Qt m c bo elt gs sc):=by
 unfold Qt;split
 ·rename_i tg it ifs;split
  ·rename_i q;simp only[aE]at q;obtain⟨g1,g2,g3,g4⟩:=O.blt q.1.1;obtain⟨S,OO⟩:=O.inner q.1.2;exact Ji bo O.calm g1 g4 S (AS G O tg it) (λ_ _ _ _ _=>G.g (OO _ _ _ _ _) tg) (λ_ _ _ _ _=>AT G (OO _ _ _ _ _) ifs) (λ_ _ _ _ _=>G.e (OO _ _ _ _ _) _ _ elt) (λx=>iK q.2 x)
  ·exact fF
 ·rename_i tg it ifs nK u7 Qu;split
  ·rename_i q;simp only[aE]at q;obtain⟨g1,g2,g3,g4⟩:=O.blt q.1.1.1;obtain⟨S,OO⟩:=O.inner q.1.1.2;exact Jj bo O.calm g1 g4 S (AS G O tg it) (λ_ _ _ _ _=>G.g (OO _ _ _ _ _) tg) (λ_ _ _ _ _=>AT G (OO _ _ _ _ _) ifs) (λ_ _ _ _ _=>AS G (OO _ _ _ _ _) nK u7) (λ_ _ _ _ _=>G.g (OO _ _ _ _ _) nK) (λ_ _ _ _ _=>AT G (OO _ _ _ _ _) Qu) (λ_ _ _ _ _=>G.e (OO _ _ _ _ _) _ _ elt) (λx=>iK q.1.2 x) (λ_ x=>iK q.2 x)
  ·exact fF
 ·exact fF
theorem Nb (a:Expr) (op:CmpOp) (b:Expr) (pos:Pos):PD X T Z (.Compare a [op] [b] pos) (yP m c a op b):=by
 unfold yP;split
 ·split
  ·split
   ·rename_i q;exact Sx O.u1 (G.e O _ _ a) (G.e O _ _ b) q
   ·exact fF
  ·exact fF
 ·split
  ·exact Sz (G.e O _ _ a)
  ·exact PE.imp (Do (Gs (G.e O _ _ a)) rfl) λσ H Q h=>MU h
  ·split
   ·rename_i g e;obtain⟨q,h1,h2⟩:=lS O.u0 e;split
    ·rename_i z;exact RN h1 h2 (G.e O _ _ a) (G.e O _ _ b) z
    ·exact fF
   ·exact fF
theorem Nc (a:Expr) (op cB:CmpOp) (b d:Expr) (pos:Pos):PD X T Z (.Compare a [op,cB] [b,d] pos) (Qv m c a op cB b d):=by
 unfold Qv;split
 ·rename_i g g' e e';obtain⟨q,h1,h2⟩:=lS O.u0 e;obtain⟨q',QE,QF⟩:=lS O.u0 e';split
  ·rename_i z;exact Lb h1 QE h2 QF (G.e O _ _ a) (G.e O _ _ b) (G.e O _ _ d) z
  ·exact fF
 ·exact fF
theorem PV (o:Option Expr):ye X T Z o (cO m c o):=by
 unfold cO;split
 ·exact R9
 ·exact Ll (G.e O _ _ _)
theorem Pi (bo:Bool) (a b:Expr) (pos:Pos):PD X T Z (.Subscript a b pos) (Qw m c bo a b):=by
 unfold Qw;split
 ·exact Lm bo (G.e O _ _ a) (PV G O _) (PV G O _)
 ·split
  ·rename_i z;subst z;exact Sc bo (G.e O _ _ a)
  ·exact fF
 ·split
  ·rename_i n;split
   ·exact Sl (G.e O _ _ a) (G.e O _ _ _) (AR n)
   ·split
    ·exact Ob O.u1 (G.e O _ _ a) (G.e O _ _ _) (Pe n)
    ·exact TU RC abT (G.e O _ _ a) (G.e O _ _ _) (AR n)
  ·exact fF
omit G O in
theorem Pj (v:Const) (k:Nat) (pos:Pos):PD X T Z (.Constant v k pos) (Qx v):=by
 unfold Qx;split
 ·exact RJ
 ·exact TR
 ·exact RK
 ·exact RL
 ·exact fF
theorem Tm (op:UnaryOp) (a:Expr) (pos:Pos):PD X T Z (.UnaryOp op a pos) (Qy m c op a):=by
 unfold Qy;split
 ·exact Sd (G.e O _ _ _)
 ·exact RU (G.e O _ _ _)
 ·exact fF
theorem Tn (op:BoolOp) (es:List Expr) (pos:Pos):PD X T Z (.BoolOp op es pos) (Qz m c op es):=by
 unfold Qz;split
 ·exact GA (G.e O _ _) _
 ·exact fF
theorem To (a:Expr) (ops:List CmpOp) (bs:List Expr) (pos:Pos):PD X T Z (.Compare a ops bs pos) (QA m c a ops bs):=by
 unfold QA;split
 ·exact Nb G O _ _ _ _
 ·exact Nc G O _ _ _ _ _ _
 ·exact fF
theorem Tp (x:Str) (p:Pos) (es:List Expr) (ks:List Keyword) (pos:Pos):PD X T Z (.Call (.Name x p) es ks pos) (QB m c x es ks):=by
 unfold QB;split
 ·exact Pg O (G.e O _ _) _
 ·exact fF
theorem Tq (bo:Bool) (f:Expr) (es:List Expr) (ks:List Keyword) (pos:Pos):PD X T Z (.Call f es ks pos) (QC m c bo f es ks pos):=by
 unfold QC;split
 ·split
  ·split
   ·split
    ·rename_i z;subst z;exact Tl G O bo _ _ _ _ _ _
    ·exact fF
   ·exact M9 O (G.e O _ _) bo _
  ·exact Tp G O _ _ _ _ _
 ·split
  ·split
   ·split
    ·split
     ·rename_i q;simp only[aE,decide_eq_true_eq]at q;obtain⟨⟨⟨⟨q1,q2⟩,n1⟩,n2⟩,rfl⟩:=q;exact LW O.u1 (G.e O _ _ _) (G.e O _ _ _) (G.e O _ _ _) ⟨iA q1,Qn n1 n2,q2,by rw[fk n1,fk n2];rfl⟩
     ·exact fF
    ·exact fF
   split
   ·rename_i q;rw[aE]at q;exact Ph O.u1 _ (G.e O _ _) _ q.1 q.2
   ·exact fF
  ·exact fF
 ·exact fF
theorem Tr (bo:Bool) (elt:Expr) (gs:List Comprehension) (sc:Scope) (pos:Pos):PD X T Z (.ListComp elt gs sc pos) (QD m c bo elt gs sc):=by
 unfold QD;split
 ·split
  ·exact JJ G O bo _ _ _ _ _ _
  ·exact Na G O bo _ _ _ _ _ _
 ·exact fF
theorem UJ (bo fz:Bool) (e:Expr):PD X T Z e (sE m c bo fz e):=by
 unfold sE;split
 ·exact Pj _ _ _
 ·exact Dk O fz
 ·split
  ·exact Os (lH (G.e O _ _) _)
  ·exact RW (lH (G.e O _ _) _)
 ·exact RX bo (lH (G.e O _ _) _)
 ·exact N5 bo
 ·split
  ·rename_i g e;obtain⟨q,h1,h2⟩:=Pc (X:=X) e;exact RM bo h1 h2 (G.e O _ _ _) (G.e O _ _ _)
  ·exact fF
 ·exact Tm G O _ _ _
 ·exact Tn G O _ _ _
 ·exact To G O _ _ _ _
 ·exact RV (G.t O _) (G.e O _ _ _) (G.e O _ _ _)
 ·exact Pi G O bo _ _ _
 ·exact Tq G O bo _ _ _ _
 ·exact Tr G O bo _ _ _ _
 ·exact fF
theorem UK (e:Expr):dk X T Z e (sT m c e):=by
 unfold sT;split
 ·exact Pu (Dl (G.t O) _)
 ·exact Pu (GB (G.t O) _)
 ·exact NG (G.t O _)
 ·split
  ·rename_i a op b pos h;unfold yP;rw[if_pos h];split
   ·split
    ·rename_i q;exact Pf O.u1 (G.e O _ _ a) (G.e O _ _ b) q
    ·exact jx
   ·exact jx
  ·split
   ·exact PT.imp (Dp (JO (G.e O _ _ _)) rfl) λσ H Q h=>UI (NA h)
   ·exact PT.imp (Dp (Gs (G.e O _ _ _)) rfl) λσ H Q h=>MU (NA h)
   ·split
    ·rename_i g e;obtain⟨q,h1,h2⟩:=lS O.u0 e;split
     ·rename_i z;exact NC h1 h2 (G.e O _ _ _) (G.e O _ _ _) z
     ·exact jx
    ·exact jx
 ·split
  ·rename_i g g' e e';obtain⟨q,h1,h2⟩:=lS O.u0 e;obtain⟨q',QE,QF⟩:=lS O.u0 e';split
   ·rename_i z;exact GU h1 QE h2 QF (G.e O _ _ _) (G.e O _ _ _) (G.e O _ _ _) z
   ·exact jx
  ·exact jx
 ·exact ND (Dk O false) (λw=>By rfl w)
 ·split
  ·rename_i h;exact NB (G.e O _ _ _) (λw=>By h w)
  ·exact jx
theorem UL (tg:Expr):dY X T tg (sG m c tg):=by
 unfold sG;split
 ·split
  ·rename_i i e;split
   ·rename_i h;obtain⟨a,b⟩:=O.lo h;exact Lh i O.wN (O.at e) a b
   ·exact lR
  ·exact lR
 ·split
  ·rename_i h;exact T6 O.calm (M7 (G.g O) _) h rfl
  ·exact lR
 ·split
  ·rename_i o i pos h;exact N3 (Z:=Z) (G.e O _ _ o) (G.e O _ _ i) (λv=>by cases i<;>first|rfl|cases h)
  ·exact lR
 ·exact lR
end
end L2.DL
namespace L2
end L2
namespace L2.DL
open PySem.W
section
variable {env : Env} {y : Str} {px py pt hU : Pos} {kt k2 : Nat} {a b : Expr}
theorem Pk (hk:env.blockKind=.function) (hx:env.kindOf x=some .local) (hy:env.kindOf y=some .local) (hl:(px.line==py.line)=true) (kX:x≠y) (na:aR a=true) (nb:aR b=true)
 (nf:([a,b].all (foldedForSure 8))=false) (nc:([a,b].all (constantsAlone 8))=false) :
 swappedStores [.Tuple [.Name x px,.Name y py] kt pt] (.Tuple [a,b] k2 hU) env=pure (some [x,y]):=by
 have rM:px.line=py.line:=by simpa using hl
 have hd:([x,y]:List Str).eraseDups.length=2:=by
  have:(y==x)=false:=by simpa using Ne.symm kX
  simp[List.eraseDups_cons,this]
 unfold swappedStores;simp only[hk,hx,hy,rM,rn,Wk,k9,HS,a9,nO,Wl,kN,zu,Expr.pos,nf,nc];simp[rM,hd,k9,hx,hy,nf,nc];rintro(h|h)
 ·cases a<;>first|(cases h;done)|cases na
 ·cases b<;>first|(cases h;done)|cases nb
theorem Pl (hk:env.blockKind=.function) (na:aR a=true) (nb:aR b=true) (h:(env.kindOf x==some .local&&env.kindOf y==some .local)=false) :
 swappedStores [.Tuple [.Name x px,.Name y py] kt pt] (.Tuple [a,b] k2 hU) env=pure none:=by
 unfold swappedStores;simp only[hk,rn,Wk,a9,nO,Wl,kN,zu,Expr.pos];rw[Bool.and_eq_false_iff]at h;rcases h with h|h
 ·simp only[k9,HS,h,vI];by_cases q:(env.kindOf y==some .local&&py.line==px.line)=true
  ·simp[q]
  ·simp[q]
 ·simp only[k9,HS,h,vI];by_cases z:env.kindOf x=some .local<;>simp[z]
end
def vw (f:Stmt->aj):List Stmt->aj
 |[]=>bf
 |[s]=>f s
 |s::r=>fu (f s) (vw f r)
theorem oz {X:Cx}{Z:Xs}{T:Fr}{f:Stmt->aj}(h:∀ s,dq X T Z s (f s)):∀ b,pR X T Z b (vw f b)
 |[]=>NI
 |[s]=>NJ (h s)
 |s::a::r=>Le (h s) (oz h (a::r))
noncomputable def ZA:Expr->Expr->Bool
 |.Tuple ..,.Tuple ..|.List ..,.Tuple ..=>false
 |_,_=>true
theorem GC {env:Env}(h:ZA tg e=true):swappedStores [tg] e env=pure none:=by
 cases tg with
 |Tuple es n p=>cases e<;>first|rfl|cases h
 |List es p=>cases e<;>first|rfl|cases h
 |_=>rfl
def QG (c:Cf) (x:Str) (tp cp:Pos) (sc:Scope):Bool:=c.nm.lookup x==some .local&&tp.line==cp.line&&!(sc.names.any λ(n,k)=>n==x&&(k==.local||k==.cell))
section
variable {c : Cf} {k : Nat} 
theorem bL.block (O:bL c k X Z):X.env.blockKind=.function:=by unfold Env.blockKind;rw[O.kd];rfl
theorem Pm (O:bL c k X Z) {gs:List Comprehension}{sc:Scope}{cp tp:Pos}{l:Nat}:swapsWith (.ListComp elt gs sc cp) (some (.Name x tp)) l X.env=pure (QG c x tp cp sc):=by
 have h:swapsWith (.ListComp elt gs sc cp) (some (.Name x tp)) l X.env=pure (X.env.blockKind==.function&&X.env.kindOf x==some .local&&tp.line==cp.line&&!(sc.names.any λ(n,k)=>n==x&&(k==.local||k==.cell))):=rfl;rw[h,O.block];unfold Env.kindOf QG;rw[O.nm];rfl
end
theorem iG {t:Expr}{l:Nat}{env:Env}(h:wO e=false):swapsWithSole [t] e l env=pure false:=mW (t:=some t) h
section
variable (m : Cm) (c : Cf)
noncomputable def QH:Expr->Bool
 |.Dict [] [] _=>true
 |_=>false
def QI (x:Str) (e:Expr):aj:=match c.ix x with
 | some i=>if c.wM x then (match e with
   |.ListComp elt [⟨tg,it,ifs,0⟩] sc _=>if c.vv tg sc&&tX it then fH (yN m c (c.bx.contains x) elt tg it ifs sc) (fc i) else kj
   |e=>if wO e then kj else fH (if c.kd x 3&&QH e then Ep else m.e c (c.bx.contains x) false e) (fc i)) else kj
 |none=>kj
def ZC (c:Cf) (x y:Str) (px py:Pos) (a b:Expr):Bool:=aR a&&aR b&&decide (x≠y)&&c.wM x&&c.wM y&&(if c.nm.lookup x==some .local&&c.nm.lookup y==some .local then px.line==py.line&&!([a,b].all (foldedForSure 8))&&!([a,b].all (constantsAlone 8)) else true)
def QJ (x y:Str) (px py:Pos) (a b:Expr):aj:=match c.ix x,c.ix y with
 |some i,some j=>if ZC c x y px py a b then kU i j (fb (m.e c (c.bx.contains x) false a) (fb (m.e c (c.bx.contains y) false b) fe)) else kj
 |_,_=>kj
def QK (tg e:Expr):aj:=match tg,e with
 |.Name x _,e=>QI m c x e
 |.Tuple [.Name x px,.Name y py] _ _,.Tuple [a,b] _ _=>QJ m c x y px py a b
 |.Tuple [.Name x px,.Name y py] k p,.Call f es ks cp=>if c.kd x 4 then fH (m.e c false false (.Call f es ks cp)) (yK 2 (fJ (m.g c (.Name x px)) (fJ (m.g c (.Name y py)) gU))) else fH (m.e c false false (.Call f es ks cp)) (m.g c (.Tuple [.Name x px,.Name y py] k p))
 |.Subscript o i p,e=>if wO e then kj else if yO c o then tM (m.e c false false o) (m.e c false false i) (m.e c false false e) else fH (m.e c false false e) (m.g c (.Subscript o i p))
 |tg,e=>if !wO e&&aR tg&&ZA tg e then fH (m.e c false false e) (m.g c tg) else kj
def sS (st:Stmt):aj:=match st with
 |.Assign [tg] e _=>QK m c tg e
 |.Return (some e) _=>fO (m.e c c.rb (!c.rb) e)
 |.Expr e _=>if wO e then kj else fV (m.e c false false e)
 |.If t a b _=>bh (m.t c t) (vw (m.s c) a) (vw (m.s c) b)
 |.For tg it body [] _=>if tX it then iC (cI m c tg it) (m.g c tg) (vw (m.s c) body) else kj
 |.While t body [] _=>eF (m.t c t) (vw (m.s c) body) 2000
 |.Pass _=>bf
 |_=>kj
end
section
variable {m : Cm} {c : Cf} {k : Nat} (G : Good m) (O : bL c k X Z)
include G O
theorem Pn (x:Str) (e:Expr) (tp pos:Pos):dq X T Z (.Assign [.Name x tp] e pos) (QI m c x e):=by
 unfold QI;split
 ·rename_i i hi;split
  ·rename_i hl;obtain⟨l1,l2⟩:=O.lo hl;split
   ·rename_i elt tg it ifs sc cp;split
    ·rename_i q;unfold yN;rw[if_pos q];rw[aE]at q;obtain⟨S,OO⟩:=O.inner q.1;have sw:=Pm O (elt:=elt) (gs:=[⟨tg,it,ifs,0⟩]) (sc:=sc) (cp:=cp) (tp:=tp) (x:=x) (l:=pos.line);cases hb:QG c x tp cp sc with
     | true =>
       rw[hb]at sw;exact Lz i _ O.calm S (AS G O tg it) (λ_ _ _ _ _ _=>G.g (OO _ _ _ _ _) tg) (λ_ _ _ _ _ _=>AT G (OO _ _ _ _ _) ifs) (λ_ _ _ _ _ _=>G.e (OO _ _ _ _ _) _ _ elt) O.wN (O.at hi) l1 sw l2 (λx=>iK q.2 x)
     | false =>
       rw[hb]at sw;exact Fz i (FB _ O.calm S (AS G O tg it) (λ_ _ _ _ _ _=>G.g (OO _ _ _ _ _) tg) (λ_ _ _ _ _ _=>AT G (OO _ _ _ _ _) ifs) (λ_ _ _ _ _ _=>G.e (OO _ _ _ _ _) _ _ elt) (λx=>iK q.2 x)) O.wN (O.at hi) l1 sw l2
    ·exact gY
   ·split
    ·exact gY
    ·rename_i h;refine Fz i ?_ O.wN (O.at hi) l1 (mW (by simpa using h)) l2;split
     ·rename_i q;rw[aE]at q;revert q;cases e with
      |Dict ks vs p=>cases ks<;>cases vs<;>first|(intro _;exact Ou)|(intro q;exact absurd q.2 (by simp[QH]))
      |_=>intro q;exact absurd q.2 (by simp[QH])
     ·exact G.e O _ _ _
  ·exact gY
 ·exact gY
theorem Po (x y:Str) (a b:Expr) (px py pt hU pos:Pos) (kt k2:Nat):dq X T Z (.Assign [.Tuple [.Name x px,.Name y py] kt pt] (.Tuple [a,b] k2 hU) pos) (QJ m c x y px py a b):=by
 unfold QJ;split
 ·rename_i i j hi hj;split
  ·rename_i q;unfold ZC at q;rw[aE,aE,aE,aE,aE,decide_eq_true_eq]at q;obtain⟨⟨⟨⟨⟨na,nb⟩,kX⟩,hx⟩,hy⟩,q⟩:=q;have ps:bX X T Z [a,b] (fb (m.e c (c.bx.contains x) false a) (fb (m.e c (c.bx.contains y) false b) fe)):=jD (G.e O _ _ a) (jD (G.e O _ _ b) iH nb) na;have kx:X.env.kindOf x=c.nm.lookup x:=by unfold Env.kindOf;rw[O.nm]
   have ky:X.env.kindOf y=c.nm.lookup y:=by unfold Env.kindOf;rw[O.nm]
   by_cases h:(c.nm.lookup x==some NameKind.local&&c.nm.lookup y==some NameKind.local)=true
   ·rw[if_pos h]at q;simp only[aE,vK]at q;rw[aE]at h;have h1:c.nm.lookup x=some .local:=by simpa using h.1
    have h2:c.nm.lookup y=some .local:=by simpa using h.2
    refine N9 i j O.calm O.wN ps (O.at hi) (O.at hj) (λz=>?_) (by rw[O.nm];exact h1) (by rw[O.nm];exact h2) (Pk O.block (kx.trans h1) (ky.trans h2) q.1.1 kX na nb q.1.2 q.2) (iG rfl);subst z;have:=(c.Qf hi).symm.trans (c.Qf hj);exact kX (Option.some.inj this)
   ·obtain⟨l1,l2⟩:=O.lo hx;obtain⟨l3,l4⟩:=O.lo hy;refine LE i j O.calm O.wN ps (O.at hi) (O.at hj) l1 l3 l2 l4 (iG rfl) (Pl O.block na nb ?_) rfl rfl rfl rfl rfl;rw[kx,ky];simpa using h
  ·exact gY
 ·exact gY
theorem Pp (tg e:Expr) (pos:Pos):dq X T Z (.Assign [tg] e pos) (QK m c tg e):=by
 unfold QK;split
 ·exact Pn G O _ _ _ _
 ·exact Po G O _ _ _ _ _ _ _ _ _ _ _
 ·split
  ·exact oJ (G.e O _ _ _) (MV O.calm (DP (G.g O _) (DP (G.g O _) Cn)) rfl rfl) (iG rfl) (GC rfl) rfl
  ·exact oJ (G.e O _ _ _) (G.g O _) (iG rfl) (GC rfl) rfl
 ·split
  ·exact gY
  ·rename_i h;split
   ·exact LC O.u1 (G.e O _ _ _) (G.e O _ _ _) (G.e O _ _ _) (mW (by simpa using h))
   ·exact oJ (G.e O _ _ _) (G.g O _) (iG (by simpa using h)) (GC rfl) rfl
 ·split
  ·rename_i q;simp only[aE,vK]at q;exact oJ (G.e O _ _ _) (G.g O _) (iG q.1.1) (GC q.2) (by rw[ls q.1.2];rfl)
  ·exact gY
theorem UM (st:Stmt):dq X T Z st (sS m c st):=by
 unfold sS;split
 ·exact Pp G O _ _ _
 ·exact NK (G.e O _ _ _)
 ·split
  ·exact gY
  ·rename_i h;exact Lg (G.e O _ _ _) (mW (by simpa using h))
 ·exact RZ (G.t O _) (oz (G.s O) _) (oz (G.s O) _)
 ·split
  ·rename_i h;exact NM O.own O.calm (AS G O _ _) (G.g O _) (oz (G.s O) _) (λx=>iK h x)
  ·exact gY
 ·exact GX 2000 O.own (G.t O _) (oz (G.s O) _)
 ·exact Lf
 ·exact gY
end
def adP (m:Cm):Cm:=⟨λc bo fz e=>sE m c bo fz e,λc e=>sT m c e,λc e=>sG m c e,λc st=>sS m c st⟩
def cm:Nat->Cm
 |0=>⟨λ_ _ _ _=>aB,λ_ _=>aB,λ_ _=>vq,λ_ _=>kj⟩
 |n+1=>adP (cm n)
theorem mX:∀ n,Good (cm n)
 |0=>⟨λ_ _ _ _ _=>fF,λ_ _ _=>jx,λ_ _ _=>lR,λ_ _ _=>gY⟩
 |n+1=>⟨λO _ bo fz e=>UJ (mX n) O bo fz e,λO _ e=>UK (mX n) O e,λO _ e=>UL (mX n) O e,λO _ st=>UM (mX n) O st⟩
structure FI where
 x:Str
 ps:List Str
 N:List Str
 bx:List Str
 dc:List Str
 wk:List (Str×Nat)
 fl:Nat   -- 1: its list is a box as it is returned,2: may raise,4: has a try,8: calls itself
 st:Stmt
 fn:List W->List Bx->O W
structure Tx where
 Ew:Str
 gl:List (Str×Int)
 bl:List Str
noncomputable def FI.b (f:FI) (i:Nat):Bool:=f.fl / i % 2==1
noncomputable def bw (r:List FI):List (Str×(Nat×(List W->List Bx->O W))):=r.map λg=>(g.x,(g.ps.length,g.fn))
def FI.cf (t:Tx) (fs:List (Str×(Nat×(List W->List Bx->O W)))) (f:FI):Cf :=
 { N:=f.N,nm:=(fN f.st).names,f:=true,bx:=f.bx,dc:=f.dc,wk:=f.wk,Ew:=t.Ew,fs:=fs,gl:=t.gl,bl:=t.bl,rb:=f.b 1,ow:=[] }
def FI.body (t:Tx) (fs:List (Str×(Nat×(List W->List Bx->O W)))) (f:FI):List W->List Bx->O W :=
 let m:=vw ((cm 40).s (f.cf t fs)) (ie f.st)
 aY f.N.length (aG m)
def FI.ok (f:FI):Bool:=decide ((fN f.st).kind=.function)&&!(fN f.st).isCoroutine&&!(fN f.st).isGenerator&&decide f.N.Nodup&&decide (f.N.take f.ps.length=f.ps) &&
 f.ps.all (λx=>decide ((fN f.st).names.lookup x=some .local)||decide ((fN f.st).names.lookup x=some .cell))&&(fN f.st).names.all λy=>decide (y.2≠.free)
theorem FI.scope {f:FI}(h:f.ok=true):vY f.N f.ps (fN f.st):=by
 simp only[FI.ok,aE,decide_eq_true_eq,cA,HV,vK]at h;obtain⟨⟨⟨⟨⟨⟨h1,h2⟩,h3⟩,h4⟩,h5⟩,h6⟩,h7⟩:=h;exact⟨h1,h2,h3,h4,h5,h6,λy m=>h7 y m⟩
def FI.Is (t:Tx) (r:List FI) (f:FI):Prop:=f.fn=f.body t (bw r)
noncomputable def QL (t:Tx):List FI->Prop
 |[]=>True
 |f::r=>f.Is t r /\ QL t r
noncomputable def yQ:List FI->Nat
 |[]=>0
 |_::r=>yQ r+1
structure QM (K:PySem.W.Frag) (mg:Str->Option Value) (t:Tx):Prop where
 gl:∀ x v,t.gl.lookup x=some v->∃ u,mg x=some (.int v u)
 bl:∀ x,x∈t.bl->mg x=none
 ti:nz K "int"
 tb:nz K "bool"
 tt:nz K "tuple"
 tl:nz K "list"
theorem Nd {t:Tx}(B:QM K mg t) {f:FI}(d:Def K mg f.x f.st f.ps) (ho:f.ok=true) {k:Nat}
 {fs:List (Str×(Nat×(List W->List Bx->O W)))}(F:∀ x n fn,fs.lookup x=some (n,fn)->∃ kk ps,pd P w K mg base cl kk x ps fn /\ ps.length=n /\ kk<=k):pd P w K mg base cl (k+1) f.x f.ps (f.body t fs):=by
 have S:=FI.scope ho;unfold FI.body;refine Sr (k:=k) d S (λfa a7 A outer s H E n F0 hr=>oz ((mX 40).s (k:=k) ?_) _);exact⟨rfl,rfl,S.kind,rfl,λ_ _=>rfl,(λx m=>nomatch m),S.nd,hr,F,B.gl,B.bl,FA,B.ti,B.tb,B.tt,B.tl,PassesOwn.never⟩
def EC:List FI->Bool
 |[]=>true
 |f::r=>f.ok&&EC r
theorem GD {t:Tx}(B:QM K mg t):∀ (l:List FI),QL t l->EC l=true->(∀ f∈l,Def K mg f.x f.st f.ps)->∀ f∈l,∃ kk,pd P w K mg base cl kk f.x f.ps f.fn /\ kk<=yQ l
 |[],_,_,_=>λf m=>nomatch m
 | f::r,A,C,D=>by
   obtain⟨A1,A2⟩:=A;have C':(f.ok&&EC r)=true:=C;rw[aE]at C';have ih:=GD B r A2 C'.2 λg m=>D g (bS _ m);have F:∀ x n fn,(bw r).lookup x=some (n,fn)->∃ kk ps,pd P w K mg base cl kk x ps fn /\ ps.length=n /\ kk<=yQ r:=λx n fn e=>by
    refine jf (P:=λx (p:Nat×(List W->List Bx->O W))=>∃ kk ps,pd P w K mg base cl kk x ps p.2 /\ ps.length=p.1 /\ kk<=yQ r) (l:=bw r) (λp m=>?_) e;obtain⟨g,adQ,rfl⟩:=a6.mp m;obtain⟨kk,h1,h2⟩:=ih g adQ;exact⟨kk,g.ps,h1,rfl,h2⟩
   intro g m;rcases aO.mp m with rfl|m
   ·rw[A1];exact⟨yQ r+1,Nd B (D g (bZ ..)) C'.1 F,aq _⟩
   ·obtain⟨kk,h1,h2⟩:=ih g m;exact⟨kk,h1,Nat.le_succ_of_le h2⟩
noncomputable def ZD (o:Obj):Bool:=match o.cls with|.type n=>n == "list"|_=>false
def ED (K:PySem.W.Frag):Bool:=K.all λp=>!ZD p.2
theorem JK (h:ED K=true) (e:K.lookup a=some o):o.cls≠.type "list":=by
 intro c;unfold ED at h;rw[cA]at h;have m:(a,o)∈K:=by
  clear h;induction K with
  |nil=>cases e
  | cons p K ih =>
    rw[eO]at e;cases q:a==p.1 with
    | true =>
      rw[q]at e;cases e;have:a=p.1:=by simpa using q
      subst this;exact bZ ..
    | false =>
      rw[q]at e;exact bS _ (ih e)
 have:=h _ m;simp[ZD,c]at this
theorem X5 (nl:ED K=true) (hO:Kh H) (hS:aS K H a (ns.map V.int)) (hf:∃ bx',fn [.s ns] []=.val (.d (.bl true)) bx') :
 qK cl 1 fn [.ref a] H (λv _=>v=.bl true) λ_ _ _=>False:=by
 rcases hS with hS|⟨o,its,n,e1,e2,_⟩
 ·rcases hS with hS|⟨o,hS⟩
  ·rcases hO a with z|⟨o,xs,z⟩
   ·rw[hS]at z;cases z
   ·rw[hS]at z;cases z
  ·obtain⟨bx',hf⟩:=hf;refine⟨H,[],[.s ns],[],⟨Sub.refl H,λi w e=>by simp at e,rfl,.nil,λn c a e=>by simp at e,λa u e _=>e,λn a _ e=>by simp at e,aq _,aq _,λa u e=>.inl e⟩,⟨.ref a,[],rfl,⟨a,o,rfl,hS⟩,rfl⟩,rfl,?_⟩;rw[hf];intro F' r' v H' _ _ d;exact d
 ·exact absurd e2 (JK nl e1)
noncomputable def tys:List String:=["NoneType", "bool", "int", "str", "tuple", "list", "dict"]
def EE (K:PySem.W.Frag):Bool:=tys.all λS=>["int", "bool", "tuple", "list"].all λT=>PySem.W.kitOne K (.type S) (.type T)==some (uL S T)
theorem B8 (h:EE K=true) {T:String}(m:T∈["int", "bool", "tuple", "list"]):nz K T:=by
 intro d;unfold EE at h;rw[cA]at h;have m1:qN d∈tys:=by cases d<;>simp[qN,tys]
 have z:=h _ m1;rw[cA]at z;exact beq_iff_eq.mp (z _ m)
theorem Ts {ps:List Str}{f:Addr}{oc:Value}{od an:Option Addr}{kV doc pm a7 ct:Value}(X:K.In h) (G:h.Ns mainGlobals mg)
 (a:PySem.W.nsIn K mainGlobals x=some (some (.ref f))) (l:K.lookup f=some ⟨oc,od,.func (PySem.W.fnOf x x (jg st) (ie st) (fN st) .none kV doc pm an a7 ct),nL⟩)
 (c:PySem.W.codeIn K a7 x=true) (k:PySem.W.keepIn K (.ref f)=true) (hb:∀ fd,nY K x x st f fd->Binds K fd ps []):Def K mg x st ps :=
 ⟨f,_,J9 l c k,WQ X G a,hb _ (J9 l c k)⟩
theorem Tt {l:PySem.W.OpenLaw}{fa:Addr}{k:Nat}(cl:Nat->Addr) (wR:mg "law"=some (.ref fa)) (D:Def K mg "law" st ["_law_script"])
 (hB:∀ (fd:FuncData) (f:Addr),nY K "law" "law" st f fd->∀ (s:Shared) (u:Value),BindsTo s fd ⟨[u],[]⟩ [("_law_script",u)])
 (H:∀ base:Heap,K.In base->base.Ns mainGlobals mg->pd l.prog w K mg base cl k "law" ["_law_script"] fn) :
 ∃ (cl:Nat->Addr) (fd:FuncData),(∀ (s:Shared) (u:Value),BindsTo s fd ⟨[u],[]⟩ [("_law_script",u)]) /\ ∀ base:Heap,K.In base->base.Ns mainGlobals mg->eR l.prog w K mg base (nu l.prog w) k fa fd ["_law_script"] (qK cl 1 fn):=by
 obtain⟨f,fd,F,hm,_⟩:=D;rw[wR]at hm;cases hm;refine⟨cl,fd,hB fd fa F,λbase hK hN=>?_⟩;obtain⟨f',ae8,ok,ZE,_,_,o,hl,hd⟩:=H base hK hN;rw[wR]at ZE;cases ZE;obtain⟨o2,qC,hd2⟩:=F.obj;rw[hl]at qC;cases qC;rw[hd]at hd2;cases hd2;exact ok
theorem walk_d {l:PySem.W.OpenLaw}{q:Program}{loose:List Str}{XP:(Str->Option Value)->Heap->Prop}{YP:World->Heap->Prop}{d:DefRec}{K:Params->PySem.W.Frag}{k:Nat}{fn:List W->List Bx->O W}(hk:cZ k callerA) (hn:l.most=some 63) (Kf:d.params.defaults=[])
 (hY:∀ (w:World) (h:Heap),YP w h->(K w.params).In h) (nl:∀ w:World,ED (K w.params)=true) (hf:∀ ns:List Int,ns.length<=63->∃ bx',fn [.s ns] []=.val (.d (.bl true)) bx')
 (F:∀ (w:World) (mg:Str->Option Value) (fa:Addr) (h:Heap),(K w.params).In h->h.Ns mainGlobals mg->mg d.name=some (.ref fa) ->
  ∃ (cl:Nat->Addr) (fd:FuncData),(∀ (s:Shared) (u:Value),BindsTo s fd ⟨[u],[]⟩ [("_law_script",u)]) /\ ∀ base:Heap,(K w.params).In base->base.Ns mainGlobals mg->eR l.prog w (K w.params) mg base (nu l.prog w) k fa fd ["_law_script"] (qK cl 1 fn)) :
 PySem.W.WalkO q loose XP YP l.row.toRowW d [] (λf vs=>PySem.call f vs):=by
 refine X2.abo hn Kf λw s0 s1 mg mb fa o pm cd doc a vs ns G Y ho hd nj hmg Kg hints hlen hg=>?_;have KX:=hY w _ Y;obtain⟨cl,fd,hb,hF⟩:=F w mg fa _ KX G.T.g hmg;exact J8 KX G.T.g G.T.b G.T.builtins G.T.nolimit hg Kg hints (bR hlen (by decide)) hk hF hb (λH hO hS=>X5 (nl w) hO hS (hf ns hlen)) λH e s' z=>by
  obtain⟨_,_,_,_,_,_,_,_,_,_,_,_,_,z⟩:=z;exact z
noncomputable def EF (K:Frag) (bl:List Str):Bool:=bl.all λx=>match nsIn K mainGlobals x with|some none=>true|_=>false
noncomputable def EG (K:Frag) (gl:List (Str×Int)):Bool:=gl.all λp=>match nsIn K mainGlobals p.1 with|some (some (.int v _))=>v==p.2|_=>false
theorem Fj {bl:List Str}(X:K.In h) (G:h.Ns mainGlobals mg) (c:EF K bl=true):∀ x,x∈bl->mg x=none:=λx m=>by
 unfold EF at c;rw[cA]at c;have z:=c x m;split at z
 ·next e=>exact mg_none_of X G e
 ·cases z
theorem Nf {gl:List (Str×Int)}(X:K.In h) (G:h.Ns mainGlobals mg) (c:EG K gl=true):∀ x v,gl.lookup x=some v->∃ u,mg x=some (.int v u):=λx v e=>by
 unfold EG at c;rw[cA]at c;refine jf (P:=λx (v:Int)=>∃ u,mg x=some (.int v u)) (l:=gl) (λp m=>?_) e;have z:=c p m;split at z
 ·next v u e =>
  have:v=p.2:=by simpa using z
  subst this;exact⟨u,mg_of X G e⟩
 ·cases z
theorem UN {t:Tx}(X:K.In h) (G:h.Ns mainGlobals mg) (z:EF K t.bl=true) (g:EG K t.gl=true) (y:EE K=true):QM K mg t :=
 ⟨Nf X G g,Fj X G z,B8 y (by simp),B8 y (by simp),B8 y (by simp),B8 y (by simp)⟩
theorem Pq {l:PySem.W.OpenLaw}{fa:Addr}{k:Nat}(cl:Nat->Addr) (wR:mg "law"=some (.ref fa)) (D:Def K mg "law" st ["_law_script"])
 (hB:∀ (fd:FuncData) (f:Addr),nY K "law" "law" st f fd->∀ (s:Shared) (u:Value),BindsTo s fd ⟨[u],[]⟩ [("_law_script",u)])
 (H:∀ base:Heap,K.In base->base.Ns mainGlobals mg->∃ kk,pd l.prog w K mg base cl kk "law" ["_law_script"] fn /\ kk<=k) :
 ∃ (cl:Nat->Addr) (fd:FuncData),(∀ (s:Shared) (u:Value),BindsTo s fd ⟨[u],[]⟩ [("_law_script",u)]) /\ ∀ base:Heap,K.In base->base.Ns mainGlobals mg->eR l.prog w K mg base (nu l.prog w) k fa fd ["_law_script"] (qK cl 1 fn):=
 Tt cl wR D hB λbase a b=>by
  obtain⟨kk,⟨f,fd,ok,r⟩,le⟩:=H base a b;exact⟨f,fd,ok.mono le,r⟩
def bA (K:Frag) (x:Str) (st:Stmt):Prop:=∃ (f:Addr) (oc:Value) (od:Option Addr) (kV dc pm:Value) (an:Option Addr) (cd ct:Value) (sl:Array (Option Value)),nsIn K mainGlobals x=some (some (.ref f)) /\
 K.lookup f=some ⟨oc,od,.func (fnOf x x (jg st) (ie st) (fN st) .none kV dc pm an cd ct),sl⟩ /\ codeIn K cd x=true /\ keepIn K (.ref f)=true
theorem dIn_mk {K:Frag}{x:Str}{st:Stmt}{f:Addr}{oc:Value}{od:Option Addr}{kV dc pm:Value}{an:Option Addr}{cd ct:Value}{sl:Array (Option Value)}(a:nsIn K mainGlobals x=some (some (.ref f)))
 (l:K.lookup f=some ⟨oc,od,.func (fnOf x x (jg st) (ie st) (fN st) .none kV dc pm an cd ct),sl⟩) (c:codeIn K cd x=true) (k:keepIn K (.ref f)=true):bA K x st:=⟨f,oc,od,kV,dc,pm,an,cd,ct,sl,a,l,c,k⟩
noncomputable def QN (a:Arguments) (ps:List Str):Bool:=a.posonlyargs.isEmpty&&a.vararg.isNone&&a.kwonlyargs.isEmpty&&a.kwarg.isNone&&decide (a.args.map (·.arg)=ps)&&decide ps.Nodup
theorem j9 {β:Type}{f g:Str->Option β}:∀ {l:List Str},(∀ n∈l,f n=g n)->l.filterMap f=l.filterMap g
 |[],_=>rfl
 |n::l,h=>by rw[k9,k9,h n (bZ ..),j9 λm q=>h m (bS _ q)]
theorem Dm:∀ {ps:List Str}{us:List Value},us.length=ps.length->ps.Nodup->(∀ n∈ps,((ps.zip us).lookup n).isNone=false) /\ ps.filterMap (λn=>((ps.zip us).lookup n).map (n,·))=ps.zip us
 |[],_,_,_=>⟨(λ_ h=>nomatch h),rfl⟩
 |p::ps,[],h,_=>by cases h
 | p::ps,u::us,h,nd=>by
   obtain⟨n1,n2⟩:=pF.mp nd;obtain⟨a,b⟩:=Dm (ps:=ps) (us:=us) (by simpa using h) n2;have ne:∀ n∈ps,(n==p)=false:=λn m=>beq_eq_false_iff_ne.mpr λz=>n1 (z▸m);refine⟨λn m=>?_,?_⟩
   ·rw[ze,eO];cases q:n==p with
    |true=>rfl
    | false =>
      rcases aO.mp m with z|z
      ·rw[z]at q;simp at q
      ·exact a n z
   ·rw[ze,List.filterMap_cons_some (b:=(p,u)) (by simp[eO])];congr 1;refine Eq.trans ?_ b;exact j9 λn m=>by rw[eO,ne n m]
theorem Fk {a:Arguments}{b:List Stmt}{sc:Scope}{ps:List Str}(h:QN a ps=true) (kV doc pm:Value) (an:Option Addr) (a7 ct:Value) (us:List Value) (hl:us.length=ps.length) :
 bindArgs (fnOf x x a b sc .none kV doc pm an a7 ct) ⟨us,[]⟩=pure (ps.zip us):=by
 obtain⟨po,ar,va,ko,kd,kw,df⟩:=a;simp only[QN,aE,decide_eq_true_eq,List.isEmpty_iff,Option.isNone_iff_eq_none]at h;obtain⟨⟨⟨⟨⟨rfl,rfl⟩,rfl⟩,rfl⟩,rfl⟩,nd⟩:=h;obtain⟨z1,z2⟩:=Dm hl nd;simp only[bindArgs,fnOf];have m0:∀ l:List Str,(∀ n∈l,n∈ar.map (·.arg))->l.filter (λn=>(((ar.map (·.arg)).zip us).lookup n).isNone)=[]:=λl h=>List.filter_eq_nil_iff.mpr λn m=>by rw[z1 n (h n m)];decide
 have n0:(do notAStandIn Value.none;pure (none:Option (Array Value)))=pure none:=rfl;simp only[uc,uf,ng,xk,pure_bind,seqItems?,n0,hl,gt_iff_lt,dE,decide_false,vI,vJ,if_false,HW,List.drop_nil,nO,zc,xj,List.drop_length,V3,m0 _ λ_ h=>h,Wc,Bool.not_true,z2]
noncomputable def AllIn (K:Frag):List FI->Prop
 |[]=>True
 |f::r=>bA K f.x f.st /\ AllIn K r
theorem ZF {K:Frag}{h:Heap}{mg:Str->Option Value}(X:K.In h) (G:h.Ns mainGlobals mg):∀ {l:List FI},AllIn K l->(l.all λf=>QN (jg f.st) f.ps)=true->∀ f∈l,Def K mg f.x f.st f.ps
 |[],_,_=>λ_ m=>nomatch m
 | g::r,d,q=>λf m=>by
   rw[qj,aE]at q;rcases aO.mp m with rfl|m
   ·obtain⟨f,oc,od,kV,dc,pm,an,cd,ct,sl,a,l,c,k⟩:=d.1;exact Ts X G a l c k λfd F=>F.binds (Fk q.1)
   ·exact ZF X G d.2 q.2 f m
end L2.DL
namespace K55
open L2 L2.DL
def top (i:Nat):Stmt:=PySem.Challenge.pw_rimehold_k55_whole_no_row_is_shorter.main.body.getD i (.Pass ⟨0,0,0,0⟩)
noncomputable def tx:L2.DL.Tx:=⟨"_law_script",[("COLDEST",3),("MOST_MOVES",10),("MOST_RINGS",30)],["all", "any", "bool", "enumerate", "int", "isinstance", "len", "list", "max", "min", "range", "set", "sorted", "tuple", "zip"]⟩
def i0:FI:=⟨"_law_pot",["_law_cell"],["_law_cell", "_law_number", "_law_j", "_law_more"],[],[],[],1,top 39,K1.iZ⟩
def i1:FI:=⟨"_law_take",["_law_pot_here", "_law_far"],["_law_pot_here", "_law_far", "_law_found"],[],[],[],0,top 40,K1.ff⟩
def i2:FI:=⟨"_law_house",["_law_pot_here"],["_law_pot_here", "_law_rooms", "_law_kinds", "_law_turn", "_law_rates", "_law_apart", "_law_one", "_law_other"],["_law_apart", "_law_kinds"],[],[],0,top 42,aH.im⟩
def i3:FI:=⟨"_law_moves",["_law_pot_here", "_law_house_here"],["_law_pot_here", "_law_house_here", "_law_rooms", "_law_found", "_law_turn", "_law_one", "_law_other"],["_law_found"],[],[],1,top 43,K55.iy⟩
def i4:FI:=⟨"_law_mixed",["_law_pot_here", "_law_some"],["_law_pot_here", "_law_some", "_law_left"],["_law_left"],[],[],0,top 41,K55.iT⟩
def i5:FI:=⟨"_law_cell_at",["_law_script", "_law_k"],["_law_script", "_law_k"],[],[],[],0,top 38,K1.gM⟩
def i6:FI:=⟨"is_tuple",["thing", "fewest", "most"],["thing", "fewest", "most"],[],[],[],0,top 8,K1.fU⟩
def i7:FI:=⟨"is_whole",["thing"],["thing"],[],[],[],0,top 6,K1.jj⟩
def i8:FI:=⟨"is_within",["thing", "least", "greatest"],["thing", "least", "greatest"],[],[],[],0,top 7,K1.fX⟩
def i9:FI:=⟨"are_rooms",["thing"],["thing"],[],[],[],0,top 14,K1.iO⟩
def EH:FI:=⟨"are_rates",["thing"],["thing"],[],[],[],0,top 17,K1.jR⟩
def EI:FI:=⟨"is_kind",["thing"],["thing"],[],[],[],0,top 16,K1.mf⟩
def i12:FI:=⟨"are_kinds",["thing"],["thing"],[],[],[],0,top 15,K1.iP⟩
def EJ:FI:=⟨"is_rising",["things"],["things"],[],[],[],0,top 9,K1.jQ⟩
def EK:FI:=⟨"is_pair_apart",["thing", "many"],["thing", "many"],[],[],[],0,top 19,K1.gQ⟩
def EL:FI:=⟨"are_apart",["thing", "many"],["thing", "many"],[],[],[],0,top 18,K1.gF⟩
def EM:FI:=⟨"is_house",["thing"],["thing", "rooms", "kinds", "apart", "hold"],[],[],[],0,top 13,K1.lu⟩
def EN:FI:=⟨"need_house",["thing"],["thing"],[],[],[],0,top 20,aH.jz⟩
def EO:FI:=⟨"is_room",["house", "thing"],["house", "thing"],[],[],[],0,top 21,K2.gn⟩
def ER:FI:=⟨"is_move",["house", "thing"],["house", "thing"],[],[],[],0,top 30,aH.ja⟩
def ES:FI:=⟨"are_moves",["house", "thing"],["house", "thing"],[],[],[],0,top 29,aH.jT⟩
def ET:FI:=⟨"need_moves",["house", "thing"],["house", "thing"],[],[],[],0,top 28,aH.gf⟩
def EU:FI:=⟨"rooms_named",["moves"],["moves"],[],[],[],0,top 32,cE.fY⟩
def EV:FI:=⟨"rings_of",["moves"],["moves", "rings", "paths", "longer", "path", "following"],["longer", "paths", "rings"],[],[("rings",3)],1,top 33,cE.jq⟩
def EW:FI:=⟨"meets",["rooms", "ring"],["rooms", "ring"],[],[],[],0,top 35,ck.mM⟩
def EX:FI:=⟨"fewest_of_each",["house", "rings"],["house", "rings", "sets", "room", "meeting"],[],[],[],0,top 34,ck.fS⟩
def EY:FI:=⟨"in_turn",["rooms", "moves"],["rooms", "moves", "told", "waiting", "blocked"],["told"],[],[],0,top 36,cE.jb⟩
def EZ:FI:=⟨"openings",["house", "moves"],["house", "moves", "rings", "twice", "once"],[],[],[("rings",4)],1,top 25,K55.jw⟩
def E2:FI:=⟨"is_row",["house", "moves", "thing"],["house", "moves", "thing", "first", "last", "place", "room"],["first", "last"],["first", "last"],[],0,top 26,aH.fT⟩
def E3:FI:=⟨"need_number",["thing"],["thing"],[],[],[],0,top 10,K55.iz⟩
def E4:FI:=⟨"is_ring",["house", "moves", "thing"],["house", "moves", "thing"],[],[],[],0,top 31,ck.jU⟩
def E5:FI:=⟨"are_rings",["house", "moves", "many", "thing"],["house", "moves", "many", "thing"],[],[],[],0,top 27,K55.iU⟩
def E6:FI:=⟨"_law_long",["_law_house_here", "_law_moves_here"],["_law_house_here", "_law_moves_here", "_law_row", "_law_rings", "_law_names", "_law_long_here"],["_law_rings", "_law_row"],[],[("_law_rings",4),("_law_row",4)],0,top 44,K55.fZ⟩
def E7:FI:=⟨"_law_none_shorter",["_law_house_here", "_law_moves_here", "_law_long_here"],["_law_house_here", "_law_moves_here", "_law_long_here", "_law_rows", "_law_turn", "_law_longer", "_law_row"],["_law_longer", "_law_rows"],[],[("_law_rows",2)],0,top 45,K55.gz⟩
def wU:FI:=⟨"law",["_law_script"],["_law_script", "_law_k", "_law_pot_here", "_law_house_here", "_law_moves_here", "_law_long_here", "_law_rooms", "_law_turned", "_law_some", "_law_turn", "_law_row", "_law_at", "_law_less", "_law_kept", "_law_short"],["_law_moves_here"],[],[("_law_moves_here",4)],0,top 46,K55.B5⟩
noncomputable def r0:List FI:=[]
def r1:List FI:=i0::r0
def r2:List FI:=i1::r1
def r3:List FI:=i2::r2
def r4:List FI:=i3::r3
def r5:List FI:=i4::r4
def r6:List FI:=i5::r5
def r7:List FI:=i6::r6
def r8:List FI:=i7::r7
def r9:List FI:=i8::r8
def yi:List FI:=i9::r9
def QO:List FI:=EH::yi
def QP:List FI:=EI::QO
def QQ:List FI:=i12::QP
def QR:List FI:=EJ::QQ
def QS:List FI:=EK::QR
def QT:List FI:=EL::QS
def QU:List FI:=EM::QT
def QV:List FI:=EN::QU
def QW:List FI:=EO::QV
def QX:List FI:=ER::QW
def QY:List FI:=ES::QX
def QZ:List FI:=ET::QY
def Q0:List FI:=EU::QZ
def Q2:List FI:=EV::Q0
def Q3:List FI:=EW::Q2
def Q4:List FI:=EX::Q3
def Q5:List FI:=EY::Q4
def Q6:List FI:=EZ::Q5
def Q7:List FI:=E2::Q6
def Q8:List FI:=E3::Q7
def Q9:List FI:=E4::Q8
def Vg:List FI:=E5::Q9
def Vh:List FI:=E6::Vg
def Vi:List FI:=E7::Vh
def E8:List FI:=wU::Vi
theorem q0:i0.Is tx r0:=(by kernel_rfl:i0.fn=i0.body tx (bw r0))
theorem q1:i1.Is tx r1:=(by kernel_rfl:i1.fn=i1.body tx (bw r1))
theorem q2:i2.Is tx r2:=(by kernel_rfl:i2.fn=i2.body tx (bw r2))
theorem q3:i3.Is tx r3:=(by kernel_rfl:i3.fn=i3.body tx (bw r3))
theorem q4:i4.Is tx r4:=(by kernel_rfl:i4.fn=i4.body tx (bw r4))
theorem q5:i5.Is tx r5:=(by kernel_rfl:i5.fn=i5.body tx (bw r5))
theorem q6:i6.Is tx r6:=(by kernel_rfl:i6.fn=i6.body tx (bw r6))
theorem q7:i7.Is tx r7:=(by kernel_rfl:i7.fn=i7.body tx (bw r7))
theorem q8:i8.Is tx r8:=(by kernel_rfl:i8.fn=i8.body tx (bw r8))
theorem q9:i9.Is tx r9:=(by kernel_rfl:i9.fn=i9.body tx (bw r9))
theorem adR:EH.Is tx yi:=(by kernel_rfl:EH.fn=EH.body tx (bw yi))
theorem adS:EI.Is tx QO:=(by kernel_rfl:EI.fn=EI.body tx (bw QO))
theorem adT:i12.Is tx QP:=(by kernel_rfl:i12.fn=i12.body tx (bw QP))
theorem adU:EJ.Is tx QQ:=(by kernel_rfl:EJ.fn=EJ.body tx (bw QQ))
theorem adV:EK.Is tx QR:=(by kernel_rfl:EK.fn=EK.body tx (bw QR))
theorem adW:EL.Is tx QS:=(by kernel_rfl:EL.fn=EL.body tx (bw QS))
theorem adX:EM.Is tx QT:=(by kernel_rfl:EM.fn=EM.body tx (bw QT))
theorem adY:EN.Is tx QU:=(by kernel_rfl:EN.fn=EN.body tx (bw QU))
theorem adZ:EO.Is tx QV:=(by kernel_rfl:EO.fn=EO.body tx (bw QV))
theorem ad0:ER.Is tx QW:=(by kernel_rfl:ER.fn=ER.body tx (bw QW))
theorem ad1:ES.Is tx QX:=(by kernel_rfl:ES.fn=ES.body tx (bw QX))
theorem ad2:ET.Is tx QY:=(by kernel_rfl:ET.fn=ET.body tx (bw QY))
theorem ad3:EU.Is tx QZ:=(by kernel_rfl:EU.fn=EU.body tx (bw QZ))
theorem ad4:EV.Is tx Q0:=(by kernel_rfl:EV.fn=EV.body tx (bw Q0))
theorem ad5:EW.Is tx Q2:=(by kernel_rfl:EW.fn=EW.body tx (bw Q2))
theorem ad6:EX.Is tx Q3:=(by kernel_rfl:EX.fn=EX.body tx (bw Q3))
theorem ad7:EY.Is tx Q4:=(by kernel_rfl:EY.fn=EY.body tx (bw Q4))
theorem ad8:EZ.Is tx Q5:=(by kernel_rfl:EZ.fn=EZ.body tx (bw Q5))
theorem ad9:E2.Is tx Q6:=(by kernel_rfl:E2.fn=E2.body tx (bw Q6))
theorem aea:E3.Is tx Q7:=(by kernel_rfl:E3.fn=E3.body tx (bw Q7))
theorem aeb:E4.Is tx Q8:=(by kernel_rfl:E4.fn=E4.body tx (bw Q8))
theorem aec:E5.Is tx Q9:=(by kernel_rfl:E5.fn=E5.body tx (bw Q9))
theorem aed:E6.Is tx Vg:=(by kernel_rfl:E6.fn=E6.body tx (bw Vg))
theorem aee:E7.Is tx Vh:=(by kernel_rfl:E7.fn=E7.body tx (bw Vh))
theorem aef:wU.Is tx Vi:=(by kernel_rfl:wU.fn=wU.body tx (bw Vi))
theorem Tu:QL tx E8:=⟨aef,⟨aee,⟨aed,⟨aec,⟨aeb,⟨aea,⟨ad9,⟨ad8,⟨ad7,⟨ad6,⟨ad5,⟨ad4,⟨ad3,⟨ad2,⟨ad1,⟨ad0,⟨adZ,⟨adY,⟨adX,⟨adW,⟨adV,⟨adU,⟨adT,⟨adS,⟨adR,⟨q9,⟨q8,⟨q7,⟨q6,⟨q5,⟨q4,⟨q3,⟨q2,⟨q1,⟨q0,trivial⟩⟩⟩⟩⟩⟩⟩⟩⟩⟩⟩⟩⟩⟩⟩⟩⟩⟩⟩⟩⟩⟩⟩⟩⟩⟩⟩⟩⟩⟩⟩⟩⟩⟩⟩
theorem Tv:EC E8=true:=by kernel_rfl
open PySem.W
theorem Tw {l:PySem.W.OpenLaw}{w:World}{K:Frag}{h:Heap}{mg:Str->Option Value}{fa:Addr}(X:K.In h) (G:h.Ns mainGlobals mg) (wR:mg "law"=some (.ref fa))
 (z0:EF K tx.bl=true) (g0:EG K tx.gl=true) (y1:EE K=true)
 (d0:bA K "_law_pot" (top 39))
 (d1:bA K "_law_take" (top 40))
 (d2:bA K "_law_house" (top 42))
 (d3:bA K "_law_moves" (top 43))
 (d4:bA K "_law_mixed" (top 41))
 (d5:bA K "_law_cell_at" (top 38))
 (d6:bA K "is_tuple" (top 8))
 (d7:bA K "is_whole" (top 6))
 (d8:bA K "is_within" (top 7))
 (d9:bA K "are_rooms" (top 14))
 (aeg:bA K "are_rates" (top 17))
 (aeh:bA K "is_kind" (top 16))
 (aei:bA K "are_kinds" (top 15))
 (aej:bA K "is_rising" (top 9))
 (aek:bA K "is_pair_apart" (top 19))
 (ael:bA K "are_apart" (top 18))
 (aem:bA K "is_house" (top 13))
 (aen:bA K "need_house" (top 20))
 (aeo:bA K "is_room" (top 21))
 (aep:bA K "is_move" (top 30))
 (aeq:bA K "are_moves" (top 29))
 (aer:bA K "need_moves" (top 28))
 (aes:bA K "rooms_named" (top 32))
 (aet:bA K "rings_of" (top 33))
 (aeu:bA K "meets" (top 35))
 (aev:bA K "fewest_of_each" (top 34))
 (aew:bA K "in_turn" (top 36))
 (aex:bA K "openings" (top 25))
 (aey:bA K "is_row" (top 26))
 (aez:bA K "need_number" (top 10))
 (aeA:bA K "is_ring" (top 31))
 (aeB:bA K "are_rings" (top 27))
 (aeC:bA K "_law_long" (top 44))
 (aeD:bA K "_law_none_shorter" (top 45))
 (aeE:bA K "law" (top 46)) :
 ∃ (cl:Nat->Addr) (fd:FuncData),(∀ (s:Shared) (u:Value),BindsTo s fd ⟨[u],[]⟩ [("_law_script",u)]) /\ ∀ base:Heap,K.In base->base.Ns mainGlobals mg->eR l.prog w K mg base (nu l.prog w) 35 fa fd ["_law_script"] (qK cl 1 K55.B5):=by
 have DF:=ZF X G (l:=E8) ⟨aeE,aeD,aeC,aeB,aeA,aez,aey,aex,aew,aev,aeu,aet,aes,aer,aeq,aep,aeo,aen,aem,ael,aek,aej,aei,aeh,aeg,d9,d8,d7,d6,d5,d4,d3,d2,d1,d0,trivial⟩ (by kernel_rfl);refine Pq (λ_=>0) wR (DF wU (bZ ..)) (λfd f F s u=>?_) λbase _ _=>?_
 ·obtain⟨⟨oc,od,kV,doc,pm,an,a7,ct,nL,rfl,_,_⟩,_⟩:=F;exact .of_eq rfl
 ·exact GD (UN X G z0 g0 y1) E8 Tu Tv DF wU (bZ ..)
end K55
end
inductive PySem.W.Fast|tw12400058361541906242|tw12309452995873147328|tw943008798035906023|tw16411789200297878388|tw7453324908216431699|tw1553147897211566366|tw7866096102113570021|tw6946891909827766274|tw5458554938077013527|tw912040246932984203|tw5750566397390023987|tw12645126359000862089|tw9340932464710134054|tw13616845563517443713|tw15351010889474719726|tw5541413619348271091|tw850209855885556578|tw6178581823944611059|tw8774156859310053274|tw6537961015873774046|tw3811983581432451460|tw15353873156286454149|tw135532412317800151|tw2423156678034297093|tw1212027830577362652|tw16232816195074743919|tw1796610481615709291|tw4352780206107932834|tw8850025047532268486|tw4767869144328666324|tw17152145513505075032|tw5446095525651212669|tw6672319939811477463|tw14589677337380001309|tw12209364939611718060|tw6818127929241433065|tw17226134342853056223|tw17541675515071449815|tw2806939789509312058|tw10684923220017427652|tw16066778673159782784|tw14060504076558786735|tw17975856774420189559|tw8568273847275596177|tw8975222662572266232|tw13519772337920858526|tw6563151804914389877|tw4888049728298289874|tw13182312909058402309|tw18401079926336000352|tw6125216229279664328|tw7973277841826330577|tw2048992230275559634|tw7147709777835191360|tw6213976765971099782|tw5381420889251185752|tw6103416064331119340|tw2358936347494517749|tw13105838852491738287|tw16995249436947898351|tw8314777108745997178|tw16233628458758433265|tw4984073937088534183|tw11034699557810811499|tw12841106525599802098|tw17878621367394686252|tw18128173293341806705|tw9005985892403909532|tw3842090149267869751|tw6400101475877999832|tw16821096216431830656|tw2785986248781265305|tw8956402876796016838|tw3544233273335914607|tw14148814991808624498|tw751600058101097260|tw6611842013059426145|tw17131027645321499221|tw11900768212187664983|tw7638872053739533025|tw6740798297681431039|tw11993127143308500520|tw6507041132606520669|tw12854610738700944594|tw14142999053720928619|tw3948892225954306466|tw16646901364579733073|tw16496902841395929616|tw12250415653697408942|tw15837080785743082390|tw6023982366764885591|tw2686690909625565293|tw10669995794022518767|tw13985507769987589142|tw2758955809025858450|tw2901005983847794868|tw11088858759037472858|tw1583702798973905271|tw7332961448497386606|tw6400049151752175921|tw2811795335926882033|tw8614374914350726147|tw12325872131877319539|tw11657284927647487406|tw4169836643640528775|tw3053419278882445019|tw17208609235321479794|tw13950800011303268929|tw15179080575505423915|tw9202291303457890649|tw7894779899001803854|tw15319199163923244623|tw10003929565290950720|tw8752447339613174231|tw15306864631114438566|tw9139629915252767464|tw17099892670281534980|tw17554370351080465271|tw11428007594102923118|tw6798321931180597002|tw8182414299766308775|tw11450892862394112573|tw8738760188883071031|tw7577444060433821966|tw15690678272257491062|tw11563734872404759804|tw9733943930566658559|tw7797245377215238863|tw13343523245426581430|tw14046011331620241233|tw2018191150235536548|tw1752328879998512836|tw1432642592177552900|tw9179801463281976314|tw8769703682370184624|tw4889117881906260555|tw13519715127391951120|tw12128660167254817074|tw7635524363419342209|tw10495463871659935771|tw978338180283154064|tw6719158111450147172|tw5421217402623763980|tw12721415881370683898|tw17124531742087408590|tw15589276632887542421|tw8162782630199639415|tw4414317190138704575|tw2310325516399875733|tw17413191044803865206|tw11519352051012003621|tw13746319550520083255|tw11749436922620545561|tw6725841029218712850|tw7640267494770216154|tw3967199854632701066|tw17837621619263428394|tw6765933205270794744|tw8728688741787289520|tw1801859068931522569|tw10394620746367738647|tw10223111146394781087|tw8114979525244300076|tw5919182175722620065|tw17622584899764089090|tw9387115437228579774|tw12458468643231935810|tw9464534076012388408|tw6229957802377928924|tw17120933732197945086|tw1215826899709921100|tw1035428723786066860|tw10614315752707217444|tw98927441833056566|tw17602977902810369860|tw15799883540603303484|tw12674047938261611783|tw3569435728394404744|tw13966626057285141943|tw10777777314437872182|tw10020814122211761858|tw11672017478521760250|tw17229233647431411297|tw17152696983945779382|tw12706598392941031967|tw8517700127191704080|tw4249640171468344124|tw3408278967544004492|tw16766457351633251454|tw9727424557171131355|tw9606003874998612733|tw9480440062381117470|tw8870823690932012777|tw8519354471580046891|tw8388164335658475532|tw825339339804299340|tw7673385492419227861|tw7641413135681021440|tw7596499879998838689|tw7288254413955961319|tw6503403108422408401|tw6465914830444947519|tw6456379823131948825|tw5930347311230812174|tw5533087619360047688
open_top hdk55 for PySem.Challenge.rw_rimehold_k55_whole_no_row_is_shorter

set_option maxRecDepth 100000 in
set_option maxHeartbeats 0 in
theorem PySem.Challenge.cw_rimehold_k55_whole_no_row_is_shorter_holds : PySem.Challenge.rw_rimehold_k55_whole_no_row_is_shorter.Holds :=
 hdk55 (by
 k_fill
 refine L2.DL.walk_d (l:=PySem.Challenge.rw_rimehold_k55_whole_no_row_is_shorter) (k:=35) (fn:=K55.B5) ⟨rfl,by decide,by decide,rfl⟩ rfl rfl (λw h Y=>PySem.W.kIn_of Y) ?kq_nl (λns h=>K55.law_true ns (by omega)) ?kq_F
 case kq_nl =>
  intro w;kernel_rfl
 case kq_F =>
  intro w mg fa h KX G hmg
  refine' K55.Tw KX G hmg ?kq_z0 ?kq_g0 ?kq_y1 ?_ ?_ ?_ ?_ ?_ ?_ ?_ ?_ ?_ ?_ ?_ ?_ ?_ ?_ ?_ ?_ ?_ ?_ ?_ ?_ ?_ ?_ ?_ ?_ ?_ ?_ ?_ ?_ ?_ ?_ ?_ ?_ ?_ ?_ ?_
  any_goals exact L2.DL.dIn_mk (by k_is) (by k_is) (by k_is) (by k_is)
  (case kq_z0=>kernel_rfl)
  (case kq_g0=>kernel_rfl)
  (case kq_y1=>kernel_rfl)
 )
