import PyProof.Rows.All
import Wide.All
import OpenK.AllK
import Wide.FinOn
import Lean
import PyProof.EqAt
import PyProof.EqKinds
import PyProof.TupleCall
import PyProof.LongRange
import PyProof.Walks
import PyProof.ListMulRoad
import PyProof.ReprRoads
import PyProof.NeData
import PyProof.P3In
import PyProof.ZipIter
import PyProof.Draws
import PyProof.TupleIter
import PyProof.Rows.StrRules
import PyProof.CompUse
import PyProof.ListRange
import KE.KDictLaws
import PyProof.EnumFor
import PyProof.EnumMake
import PyProof.EnumStmt
import PyProof.ConsumeWalk
import KE.KMinKey
import PyProof.ListNew
import PyProof.Rows.SetFrom
import PyProof.WalksMore
import KE.KDictList
import KE.KDictSum
import KE.KItemsList
import PyProof.DictWalks
import KE.KDictOf
import PyProof.AttrMissSeq
import PySem.Challenge.RW_rimehold_k13_what_are_no_pages
set_option Elab.async false
set_option linter.all false
set_option maxRecDepth 100000
set_option maxHeartbeats 4000000
set_option exponentiation.threshold 3000
set_option hygiene false
set_option compiler.extract_closed false
set_option genSizeOf false
local macro_rules|`(za)=>`(rfl)
local macro_rules|`(zb)=>`(Prop)
open Lean Parser.Tactic in
def zP:Nat->Syntax->MacroM (TSyntax `rcasesPat)
|0,_=>Macro.throwUnsupported
|n+1,s=>match s with
|`(#[$xs,*])=>do
  let ys<-xs.getElems.mapM fun x=>do`(rcasesPatLo|$(<-zP n x):rcasesPat)
  `(rcasesPat|⟨$ys,*⟩)
|`(_)=>`(rcasesPat|_)
|`($i:ident)=>if i.getId==`rfl then`(rcasesPat|rfl)else`(rcasesPat|$i:ident)
|_=>Macro.throwUnsupported
local macro_rules|`(tactic|let#[$xs,*]:=$e)=>do let p<-zP 9 (<-`(#[$xs,*]));`(tactic|obtain $p:rcasesPat:=$e)
local macro_rules|`(#[$x,$xs,*])=>`(⟨$x,$xs,*⟩)
local macro_rules|`(tactic|erw[$[$r:term],*]$[$l:location]?)=>`(tactic|simp only[$[$r:term],*]$[$l]?)
local macro_rules|`(tactic|ext $[$r:ident]*)=>`(tactic|rename_i $[$r:ident]*)
set_option hygiene true
noncomputable section
local macro_rules|`(tactic|show $a:term)=>`(tactic|exact $a)
open PySem renaming wpAny_bind->ak,wpAny_pure->ax,sizeLine_eq->bB,wpAny_holding->eV,wpAny_mono->kq,wpAny_field->kJ,mem_of_lookup->nT,strLen_append->pC,wpAny_truthy_bool->qb,wpAny_call_entry->qc,wpAny_newObj_type->qy,wpAny_Call_Name_kw->rG,wpAny_seqItems->rH,wpAny_rule->sR,codeAny_mono->ue,wpAny_of_eq->uf,wpAny_setField_rec->ug,wpAny_callSpecial?_slot->u9,codeAny_builtin->vb,wpAny_typeOf->wu,call_meets->wx,tupleKind_room_in1->wz,not_mem_of_deeper->wB,wpAny_passesOwn->yz,wpAny_attempt->yB,wpAny_newList->yC,wpAny_onRaise->yD,wpAny_setState_of->yE,wpAny_execs_nil->HI,wpAny_standAt->HJ,wpAny_load->HK,wpAny_call->HL,typeIs_str->HM,call_meetsIn->HN,wpAny_setField->HP,wpAny_forIn_list->HQ,wpAny_Name->Qk,concat_meets->Ql,noFill_tuple_add->Qm,seq_tuple_add->Qn,seqIndex_of->Qo,pushCells_keeps->Qp,codeAny_call_builtin->Qq,wpAny_pyIter_list->Qr,call_repr_slot->Qs,wpAny_updateSeq_pair->Qt,wpAny_letGo->Qu,wpAny_newTuple->Qv,wpAny_pyIter_tuple->Qw,wpAny_typeNameOfWhole_keyiter->Qx,wpAny_typeNameOf_keyiter->Qy,wpAny_isOneOf_keyiter->Qz,piled_cons->QA,wpAny_eqBool_int->WX,wpAny_Compare1->WY,wpAny_isTrue_Compare1->WZ,wpAny_execs_cons->W0,wpAny_assign_Name->W2,wpAny_bindName->W3,wpAny_pyIter_range->W4,rangeSize_one->W5,intBits_le_64->W6,wpAny_loadPart->W7,name_of_addr->W8,codeAny_call_function->W9,wpAny_newFunctionEnv_cells->Xa,codeAny_func->Xb,wpAny_sequenceKey->Xc,wpAny_Slice->Xd,wpAny_alloc->Xe,wpAny_getItem_list_slice->Xf,wpAny_runValue->Xg,wpAny_specialOf->Xh,wpAny_Dict_empty->Xi,wpAny_Call_method->Xj,tupleText_mem_le->Xk,listText_mem_le->Xl,listText_nil->Xm,dictText_mem_le->Xn,wpAny_handled->Xo,wpAny_throw->Xp,wpAny_pyIter_slot->Xq,wpAny_isInstance->Xr,isSubtype_stop->Xt,wpAny_eqIsQuiet_tuple->Xu,wpAny_storeSet_of->Xv,codeAny_of_tree->Xw,plainId_quiet->Xx,boot_len->Xy,wpAny_pyIter_keyiter->Xz,wpAny_dictEntries->XA,wpAny_dictEpoch->XB,wpAny_fieldsOf->XC,call_list_seq->XD
open Nat renaming le_refl->aB,ne_of_lt->bS,le_trans->cu,zero_le->dA,lt_of_lt_of_le->dM,lt_irrefl->eW,le_of_lt->kK,sub_self->k6,lt_succ_self->qd,le_add_right->rJ,le_succ->sU,le_of_not_lt->vc,lt_of_le_of_lt->vd,lt_trans->ve,not_lt_zero->vf,le_of_eq->wC,lt_succ_of_lt->wD,lt_or_ge->wF,succ_pos->wG,zero_add->wH,min_eq_left->wI,ne_of_gt->yF,sub_zero->HR,le_of_lt_succ->QB,mod_lt->QC,add_sub_cancel_left->QD,max_eq_right->XF,add_right_comm->XG,div_le_self->XH,add_sub_cancel->XI,log2_lt->XJ,le_add_left->XM,le_succ_of_le->XO
open Bool renaming and_eq_true->aH,false_ne_true->dO,not_eq_true'->kL,false_and->pD,eq_iff_iff->qf,or_eq_true->sV,and_false->vg,false_eq_true->wJ,true_and->HS,and_self->HU,or_eq_false_iff->HV,and_true->QE,or_false->XQ,or_true->XR,not_eq_true->XS,and_eq_false_iff->XT
open List renaming map_cons->aQ,length_map->aV,length_cons->a6,mem_cons_of_mem->bC,length_append->bG,mem_cons_self->bM,size_toArray->bY,map_map->cw,getElem?_append_left->cR,getElem?_eq_getElem->cW,getElem?_append_right->dD,all_eq_true->cb,mem_cons->a9,mem_of_getElem?->eD,prefix_refl->eF,lookup_cons->eX,all_cons->nE,mem_append_left->nU,getElem?_map->nV,length_nil->nW,getElem?_set_self->pE,length_take->pF,length_drop->pG,prefix_append->pI,not_mem_nil->pJ,filterMap_cons->qg,mem_append_right->qh,zip_cons_cons->qi,length_set->qz,getElem?_set_ne->rK,append_nil->rL,getElem?_eq_none->rM,take_length->rN,mem_singleton->eY,mem_append->dZ,any_cons->vh,append_assoc->vi,cons_append->vj,map_congr_left->vm,take_append_drop->vn,nil_append->vo,forIn_cons->wK,nodup_append->sW,pairwise_map->uh,getElem_of_mem->wL,mem_map_of_mem->wM,filter_cons_of_neg->wN,filter_cons_of_pos->wO,exists_cons_of_length_pos->wQ,all_map->wR,length_singleton->yG,getElem_mem->yH,forIn_nil->yI,find?_cons->yJ,of_mem_zip->HW,reverse_cons->HX,length_range->HY,filter_cons->HZ,eq_nil_of_length_eq_zero->Ia,map_append->Ib,zip_nil_right->Ic,any_eq_false->QF,length_replicate->QG,nodup_cons->rO,ext_getElem?->QH,length_filter_le->QI,zipIdx_cons->QJ,map_snd_zip->QK,any_map->QL,take_of_length_le->QM,zip_append->QN,mem_map->bc,map_nil->QO,drop_eq_getElem_cons->QP,set_append_right->QQ,all_nil->QR,length_zip->QS,getElem?_replicate->XU,getElem?_take_of_lt->XX,take_sublist->XY,filterMap_map->XZ,countP_cons->X0,drop_zero->X1,mergeSort_perm->X2,pairwise_mergeSort->X3,zipIdx_nil->X4,forIn_toArray->X5,mapM_toArray->X6,nodup_range->X7,mem_of_mem_take->X8,mem_of_mem_drop->X9,getElem?_zip_eq_some->QT,zip_nil_left->Ya,getElem?_cons_zero->Yb,set_set->Yc,map_id->Yd,getElem?_concat_length->Ye,take_left->Yf,mem_of_find?_eq_some->Yg,find?_some->Yh,map_id'->Yi,head?_cons->Yj,filterMap_nil->Yk
open PySem.Heap renaming get?_push_of_some->aR,lt_size->bb,get?_push_size->bD,size_push->rQ,get?_update_self->Ie,get?_none_of_le->Yl,get?_update_other->Ym,size_update->Yn
open Option renaming bind_some->bI,map_some->vp,isSome_map->wU,getD_none->QU
open PyProof.Rows renaming wpS_bind->cx,wpS_pure->dQ,boot_isinstance->ku,listItems_at->wV,wpS_get->wW,wpS_forRange->wX,callWith_type1->Ig,slot_tuple_getitem->wY,listUpdate_at->Ih,size_push'->Ii,mirror_perm->Ij,wpS_reverse->Ik,wpS_mono->Il,assignInOrder_cons->QV,tail_any->QW,kind_sorted->QX,plain_sorted->QY,entry_sorted->QZ,args_sorted1->Q0,slot_list_sort->Q2,entry_list_sort->Q3,args_list_sort->Q4,wpS_lift->Q5,wpS_modify->Q6,mem_zip_self->Q7,seqEpoch_at->Q8,pairsOf_size->Q9,assignInOrder_nil->Yo,slicePart_none->Yp,entry_tuple_getitem->Yq,args_tuple_getitem->Yr,tupleItemsOf_->Ys,subscriptTail_builtinR->Yt,get?_update_seq->Yu,sortedAll_at->Yv,sortedAll_old->Yw,lt_int->Yx,pairsOf_toList->Yy,sortedHeap_old->Yz,callWith_builtin1->abA,evalArgs_empty->abB
open Array renaming getElem?_toList->k7,length_toList->nF,getElem_toList->YA,toList_extract->YB,forIn_toList->YC,getElem?_eq_none->YD
open PySem.W renaming kia_one->qj,callWith_K->Im,plainGet_of->UB,cellsFrom_some->UC,looks_findIn->UD,looks_mroIn->UE,mg_none_of->UG,kitx_list->YE,kitx_dict->YF,methodCall_KW->YG,codeRec_of->YH
open Int renaming toNat_natCast->vq,eq_ofNat_of_zero_le->Io,mul_one->YI,zero_add->YJ
open PyProof.Rows.KeyOrd renaming kle_refl->wZ,kle_trans->Ip,kle_of_klt->Iq,kle_antisymm->YK
open PySem.Calls renaming spliced_nil->yL,spliced_cons->yM,callWith_builtin->UH,evalArgs_plain->UI,call_function_entry->UJ
open PySem.F renaming plainAttrs_list->yO,slot_tuple_iterator_next->Ir,slot_zip_next->yP,slot_tuple_add->UK,entry_tuple_add->UL,args_tuple_add_2->UM,slot_dict_get->UN,slot_dict_delitem->YL,entry_dict_get->YM,args_dict_get_2->YN,plainAttrs_dict->YO,sub_str_dict->YQ,slot_dict_eq->YR,slot_str_eq_refl->YS,entry_tuple_iterator_next->YT,args_tuple_iterator_next_1->YU,slot_zip_iter->YV,entry_zip_next->YW,args_zip_next_1->YX,slot_dict_items->YY,slot_dict_iter->YZ,slot_dict_keyiterator_next->UO,slot_list_append->Y0,type_list_append->Y1
open PySem.Obj renaming data_mapFields->Iu,isFreed_of_fields->Y2,cls_mapFields->Y3
open PySem.SeqAt.EqAt renaming int_int->UQ,str_str->UR,int_str->Y4,str_int->Y5,none_bool->abC,none_int->abD,none_str->abE,bool_none->abF,bool_bool->abG,bool_int->abH,bool_str->abI,int_none->abJ,int_bool->abK,str_none->abL,str_bool->abM
open PySem.Code renaming quiet_builtin->US
open PySem.PyData renaming shownKv_eq->UT
open PyProof.Rows.F renaming plain_set_update_loop->UU,entry_set_update_loop->Y6
open PySem.Around renaming frames_deeper->Y7,under_plainId->Y8
open PySem.ReprEntriesK renaming of_two->Y9
open List.Pairwise renaming imp_of_mem->Za
open PySem.SeqAt renaming eqv_refl->Zb
open PySem.EqNone renaming eq_none_none->abN,eq_none_bool->abO,eq_none_int->abP,eq_none_str->abQ,eq_bool_none->abR,eq_int_none->abS,eq_str_none->abT,ne_none_none->abU,ne_none_bool->abV,ne_none_int->abW,ne_none_str->abX,ne_bool_none->abY,ne_int_none->abZ,ne_str_none->ab0
open PySem.EqMixed renaming eq_bool_str->ab1,eq_int_str->ab2,eq_str_bool->ab3,eq_str_int->ab4,ne_bool_str->ab5,ne_int_str->ab6,ne_str_bool->ab7,ne_str_int->ab8
open PySem.Heap.Ns1 renaming of_empty->ab9
open PySem.MeetsSeq renaming list_pop_at->aca
open PySem.SeqAt.RcNeAt renaming lists_lengths->acb
open PySem.SeqAt.RcAt renaming none_str->acd,bool_str->ace,int_str->acf,tuple_str->acg,list_str->ach
open PySem.AutoSeq1 renaming sub_tuple_tuple->aci
open Option renaming some->ae,none->ah
open Bool renaming true->ag,false->af
open PySem renaming Value->au,Shared->aI,Heap->aK,Addr->ai,Expr->aD,Around->di,Stmt->bJ,Program->cS,World->cg,Scope->eZ
open PySem PySem.Spec PyProof.Rows
namespace L2
noncomputable abbrev Key:=Sum Int Str
noncomputable def vt:Key->au->Bool
 |.inl k,v=>Value.isInt k v
 |.inr x,v=>Value.isStrOf x v
noncomputable def acj (w:cg):Key->Int
 |.inl k=>hashInt k
 |.inr x=>hashStr w x
theorem f7:∀ {k}{v},vt k v=ag->(∃ i t,k=Sum.inl i /\ v=Value.int i t) \/ (∃ x t,k=Sum.inr x /\ v=Value.str x t)
 | .inl i,v,h=>by
   let#[t,e]:=Value.isInt_shape h;show .inl #[i,t,rfl,e]
 | .inr x,v,h=>by
   let#[t,e]:=Value.isStrOf_shape h;show .inr #[x,t,rfl,e]
theorem Gk (i) (t):vt (.inl i) (.int i t)=ag:=by simp[vt,Value.isInt]
theorem Gm (x) (t):vt (.inr x) (.str x t)=ag:=by simp[vt,Value.isStrOf]
theorem PM (a b):decide ((Sum.inl a:Key)=Sum.inl b)=(a==b):=by
 by_cases e:a=b
 .subst e;simp
 .rw[decide_eq_false λq=>e<|Sum.inl.inj q];show(beq_eq_false_iff_ne.mpr e).symm
theorem PN (a b):decide ((Sum.inr a:Key)=Sum.inr b)=decide (a=b):=by
 by_cases e:a=b
 .simp
 .rw[decide_eq_false λq=>e<|Sum.inr.inj q,decide_eq_false e]
theorem PP (a:Int) (b:Str):decide ((Sum.inl a)=Sum.inr b)=af:=decide_eq_false λq=>nomatch q
theorem PQ (a:Str) (b:Int):decide ((Sum.inr a)=Sum.inl b)=af:=decide_eq_false λq=>nomatch q
def dR (prog) (w):PySem.KeyKind prog w Key where
 is:=vt
 hash:=acj w
 inj:=λv a b ha hb=>by
  rcases f7 ha with⟨i,t,rfl,rfl⟩|⟨x,t,rfl,rfl⟩
  .rcases f7 hb with⟨j,u,rfl,e⟩|⟨y,u,rfl,e⟩
   .injection e with e1 _;rw[e1]
   .show nomatch e
  .rcases f7 hb with⟨j,u,rfl,e⟩|⟨y,u,rfl,e⟩
   .show nomatch e
   .injection e with e1 _;rw[e1]
 byValue:=λk v h=>by
  rcases f7 h with⟨i,t,rfl,rfl⟩|⟨x,t,rfl,rfl⟩<;>rfl
 pyHash:=λhv h=>by
  rcases f7 hv with⟨i,t,rfl,rfl⟩|⟨x,t,rfl,rfl⟩
  .show wpAny_pyHash_int h
  .show wpAny_pyHash_str h
 eqBool:=λhu hv h=>by
  rcases f7 hu with⟨i,t,rfl,rfl⟩|⟨x,t,rfl,rfl⟩
  .rcases f7 hv with⟨j,u,rfl,rfl⟩|⟨y,u,rfl,rfl⟩
   .rw[PM]at h;show WX h
   .rw[PP]at h;show Y4 i t y u _ _ _ _ h
  .rcases f7 hv with⟨j,u,rfl,rfl⟩|⟨y,u,rfl,rfl⟩
   .rw[PQ]at h;show Y5 x t j u _ _ _ _ h
   .rw[PN]at h;show wpAny_eqBool_str h
 «strs»:=λk x t v h=>by
  rcases f7 h with⟨i,u,rfl,e⟩|⟨y,u,rfl,e⟩
  .show nomatch e
  .injection e with e1 _;subst e1;cases v<;>rfl
inductive V where
 |non|bl (b:Bool)|int (i:Int)|str (x:Str)|nG (b:Array UInt8)|rR (b:UInt64)|ref (a:ai)|ty (n:String)
 deriving DecidableEq
noncomputable def RelV:V->au->zb
 |.non,u=>u=Value.none
 |.bl b,u=>u=Value.bool b
 |.int i,u=>∃ t,u=Value.int i t
 |.str x,u=>∃ t,u=Value.str x t
 |.nG b,u=>∃ t,u=Value.bytes b t
 |.rR b,u=>∃ t,u=Value.float b t
 |.ref a,u=>u=Value.ref a
 |.ty n,u=>u=Value.type n
abbrev Vals:List V->List au->zb:=Paired RelV
theorem Vals.length (r:Vals xs us):xs.length=us.length:=Paired.length r
theorem Vals.get:∀ {xs}{us}{i:Nat}{x},Vals xs us->xs[i]?=ae x->∃ u,us[i]?=ae u /\ RelV x u
 |_,_,_,_,.nil,e=>by simp at e
 |_,_,0,_,.cons r _,e=>by simp at e;subst e;show#[_,rfl,r]
 | _,_,i+1,x,.cons _ t,e=>by
   let#[u,h1,h2]:=Vals.get t (by simpa using e);show#[u,by simpa using h1,h2]
theorem Vals.set (r:RelV x u):∀ {xs}{us} (i),Vals xs us->Vals (xs.set i x) (us.set i u)
 |_,_,_,.nil=>.nil
 |_,_,0,.cons _ t=>.cons r t
 |_,_,i+1,.cons q t=>.cons q<|Vals.set r i t
theorem Vals.append:∀ {xs ys}{us ws},Vals xs us->Vals ys ws->Vals (xs++ys) (us++ws)
 |_,_,_,_,.nil,s=>s
 |_,_,_,_,.cons r t,s=>.cons r<|Vals.append t s
theorem Vals.take:∀ {xs}{us} (n),Vals xs us->Vals (xs.take n) (us.take n)
 |_,_,0,_=>.nil
 |_,_,_+1,.nil=>.nil
 |_,_,n+1,.cons r t=>.cons r<|Vals.take n t
theorem Vals.drop:∀ {xs}{us} (n),Vals xs us->Vals (xs.drop n) (us.drop n)
 |_,_,0,r=>r
 |_,_,_+1,.nil=>.nil
 |_,_,n+1,.cons _ t=>Vals.drop n t
def kM:Option V->Option au->zb
 |some v,ae u=>RelV v u
 |none,ah=>True
 |_,_=>False
def KV {κ}:List (κ×V)->List (κ×au)->zb:=Paired λ(p) (q)=>p.1=q.1 /\ RelV p.2 q.2
noncomputable def kV:Key->V
 |.inl i=>.int i
 |.inr x=>.str x
inductive HO where
 /-- a list -/
 |lst (xs:List V)
 /-- a tuple (never changes) -/
 |tup (xs:List V)
 /-- a dict whose keys are ints and texts;one whose keys are tuples of ints and texts (the empty one is both) -/
 |dK (ao:List<|Key×V)|dT (ao:List<|List Key×V)
 /-- a set of ints: its members,its size -/
 |set (S:Int->Bool) (n:Nat)
 /-- an instance of the class at C,its dict at dx,its attributes -/
 |ins (C dx:ai) (fs:List<|Str×V)
 /-- the dict of the instance at x -/
 |own (x:ai)
 /-- the dict of an exception -/
 |xd (fs:List<|Str×V)
 /-- a bound method,f of x -/
 |met (f x:ai)
 /-- a range object lo,lo+1,.. below hi -/
 |w8 (lo hi:Int)
 /-- a thing that is known to the object (the ag1;a dict while a loop walks it): read,never written while it is so -/
 |bA (o:Obj) (u:HO)
 /-- a code object's table -/
 |qA (ps:Array au)
 /-- any other thing,by what is ag of its one object (a def of ack own: ag2 a S n:=HO.ext λh=>..) -/
 |ext (φ:aK->zb)
noncomputable abbrev Hp:=ai->Option HO
noncomputable def upd (H:Hp) (a:ai) (o:HO):Hp:=λb=>if b=a then ae o else H b
theorem fu:upd H a o a=ae o:=by unfold upd;rw[if_pos rfl]
theorem fv (h:b≠a):upd H a o b=H b:=by unfold upd;rw[if_neg h]
theorem Bn:upd (upd H a o) a u=upd H a u:=by
 funext b;unfold upd;split<;>rfl
theorem SX {H:Hp}(h:H a=ae o) (h':H b=ae u) (d:o≠u):a≠b:=by
 intro e;subst e;rw[h]at h';show d<|Option.some.inj h'
theorem fI {H:Hp}(h:H a=ae o) (h':H b=ah):a≠b:=by
 intro e;subst e;rw[h]at h';cases h'
section
variable (P:cS) (w:cg)
noncomputable def cj (H:Hp) (h:aK) (a:ai):HO->zb
 |.lst xs=>xs.length<=sizeLine /\ ∃ (its:List au) (n:Nat),Vals xs its /\ h.get? a=ae { cls:=.type "list",data:=.seq its.toArray n }
 |.tup xs=>xs.length<=sizeLine /\ ∃ its,Vals xs its /\ IsTup h a its.toArray
 |.dK ao=>ao.length<=sizeLine /\ (a==sysModules)=af /\ ∃ vs,KV ao vs /\ h.DictOf (dR P w) a vs
 |.dT ao=>ao.length<=sizeLine /\ (a==sysModules)=af /\ ∃ xs,
  Paired (λ(p) (q)=>p.1=q.1 /\ H q.2.1=ae (.tup<|p.1.map kV) /\ RelV p.2 q.2.2) ao xs /\
  ∃ o es ep,h.get? a=ae o /\ o.ExactDict /\ o.data=.dict es ep /\ es.toList=xs.map (entryOfKey<|tupleKind<|dR P w) /\ (xs.map (·.1)).Nodup
 |.set S n=>h.SetOf (intKind P w) a S n
 |.ins C dx fs=>H dx=ae (.own a) /\ fs.length<=1000 /\ dx≠a /\ h.get? a=ae (PySem.W.instObj C dx) /\
  ∃ mA,h.Ns1 dx mA /\ (∀ f,kM (fs.lookup f)<|mA f) /\ PySem.Within mA (fs.map (·.1))
 |.own _=>∃ o,h.get? a=ae o
 |.xd fs=>∃ mA,h.Ns1 a mA /\ ∀ f,kM (fs.lookup f) (mA f)
 |.w8 lo hi=>∃ t u v,h.get? a=ae { cls:=.type "range",data:=.fields (List.toArray [.int lo t,.int hi u,.int 1 v]) }
 |.bA o u=>h.get? a=ae o /\ cj H h a u
 |.qA ps=>h.get? a=ae { cls:=.none,data:=.fields ps }
 |.met f x=>h.get? a=ae (PySem.W.methodObj (.ref f)<|.ref x)
 |.ext φ=>φ h /\ (∃ o,h.get? a=ae o) /\ ∀ h1 h2,φ h1->(∀ o,h1.get? a=ae o->h2.get? a=ae o)->φ h2
def cq (H:Hp) (h:aK):zb:=∀ a o,H a=ae o->cj P w H h a o
end

theorem cj.lt (x:cj P w H h a o):a<h.objs.size:=by
 cases o with
 |lst xs=>let#[_,_,_,_,e]:=x;show bb e
 |tup xs=>let#[_,_,_,p]:=x;show p.lt
 |dK ao=>let#[_,_,_,_,o,_,_,e,_]:=x;show bb e
 |dT ao=>let#[_,_,_,_,o,_,_,e,_]:=x;show bb e
 |set S n=>let#[o,_,_,_,e,_]:=x;show bb e
 |ins C dx fs=>let#[_,_,_,e,_]:=x;show bb e
 |own y=>let#[_,e]:=x;show bb e
 |xd fs=>let#[_,#[_,_,_,e,_],_]:=x;show bb e
 |w8 lo hi=>let#[_,_,_,e]:=x;show bb e
 |bA ob u=>let#[e,_]:=x;show bb e
 |qA ps=>show bb<|x
 |met f y=>show bb<|x
 |ext φ=>let#[_,#[_,e],_]:=x;show bb e
theorem Paired.UW:∀ {l₁}{l₂},Paired F l₁ l₂->(∀ a b,F a b->G a b)->Paired G l₁ l₂
 |_,_,.nil,_=>.nil
 |_,_,.cons r t,f=>.cons (f _ _ r)<|Paired.UW t f
theorem cj.hG (x:cj P w H h a o) (k:∀ b u,(b=a \/ H b=ae (.own a))->h.get? b=ae u->h'.get? b=ae u)
 (ho:∀ b,H b=ae (.own a)->H' b=ae (.own a)) (ht:∀ b xs,H b=ae (.tup xs)->H' b=ae (.tup xs)):cj P w H' h' a o:=by
 induction o with
 |lst xs=>let#[z,its,n,r,e]:=x;show#[z,its,n,r,k _ _ (.inl za) e]
 |tup xs=>let#[z,its,r,ob,e,c]:=x;show#[z,its,r,ob,k _ _ (.inl za) e,c]
 |dK ao=>let#[z,y,vs,r,ob,es,ep,e,c]:=x;show#[z,y,vs,r,ob,es,ep,k _ _ (.inl za) e,c]
 |dT ao=>
   let#[z,y,xs,r,ob,es,ep,e,c]:=x;show#[z,y,xs,Paired.UW r λp q z=>#[z.1,ht _ _ z.2.1,z.2.2],ob,es,ep,k _ _ (.inl za) e,c]
 |set S n=>let#[ob,es,ep,t,e,c]:=x;show#[ob,es,ep,t,k _ _ (.inl za) e,c]
 |ins C dx fs=>
   let#[d,z,ne,e,mA,#[od,es,ep,e2,c],r]:=x;show#[ho _ d,z,ne,k _ _ (.inl za) e,mA,#[od,es,ep,k _ _ (.inr d) e2,c],r]
 |own y=>let#[ob,e]:=x;show#[ob,k _ _ (.inl za) e]
 |xd fs=>let#[mA,#[od,es,ep,e,c],r]:=x;show#[mA,#[od,es,ep,k _ _ (.inl za) e,c],r]
 |w8 lo hi=>let#[t,u,v,e]:=x;show#[t,u,v,k _ _ (.inl za) e]
 |bA ob u ih=>let#[e,q]:=x;show#[k _ _ (.inl za) e,ih q]
 |qA ps=>
   show k a _ (.inl za) x
 |met f y=>
   show k a _ (.inl za) x
 |ext φ=>let#[p,#[o,e],st]:=x;show#[st _ _ p λo q=>k _ _ (.inl za) q,#[o,k _ _ (.inl za) e],st]
theorem cq.lt (x:cq P w H h) (e:H a=ae o):a<h.objs.size:=(x a o e).lt
theorem cq.fresh (x:cq P w H h) (e:h.objs.size<=a):H a=ah:=by
 cases q:H a with
 |none=>rfl
 |some u=>show absurd (dM (x.lt q) e)<|eW _
theorem cq.kept (x:cq P w H h) (k:∀ b u,h.get? b=ae u->h'.get? b=ae u):cq P w H h':=λa o e=>
 (x a o e).hG (λb u _ q=>k b u q) (λ_ q=>q) λ_ _ q=>q
theorem cq.laid (x:cq P w H h) (k:∀ b u,h.get? b=ae u->h'.get? b=ae u) (hp:h.objs.size<=a) (new:cj P w (upd H a o) h' a o):cq P w (upd H a o) h':=λb u e=>by
 have hn:=x.fresh hp;by_cases hb:b=a
 .subst hb;rw[fu]at e;cases e;show new
 .rw[fv hb]at e;show(x b u e).hG (λc v _ q=>k c v q) (λc q=>by rw[fv<|fI q hn];show q) λc xs q=>by rw[fv<|fI q hn];show q
def Rd (H:Hp) (a:ai) (u:HO):zb:=H a=ae u \/ ∃ o,H a=ae (.bA o u)
theorem Rd.ok (r:Rd H a u) (x:cq P w H h):cj P w H h a u:=by
 rcases r with r|⟨o,r⟩
 .show x a u r
 .let#[_,q]:=x a _ r;show q
noncomputable def yQ:Option HO->zb
 |some (.lst _)=>True
 |some (.dK _)=>True
 |some (.dT _)=>True
 |some (.set _ _)=>True
 |some (.ins _ _ _)=>True
 |some (.ext _)=>True
 |_=>False

theorem cq.write (ok:cq P w H h) (mu:yQ<|H x) (he:e=x \/ H e=ae (.own x)) (k:∀ b u,b≠e->h.get? b=ae u->h'.get? b=ae u) (w9:∃ u,h'.get? e=ae u)
 (new:cj P w (upd H x o') h' x o'):cq P w (upd H x o') h':=λb u q=>by
 have Zc:∀ c y,H c=ae (.own y)->c≠x:=λc y r z=>by subst z;rw[r]at mu;show mu
 by_cases hb:b=x
 .subst hb;rw[fu]at q;cases q;show new
 .rw[fv hb]at q;by_cases vv:b=e
  .have q':H b=ae (.own x):=by
    rcases he with z|z
    .show absurd (vv.trans z) hb
    .rw[vv];show z
   rw[q]at q';cases q';let#[v,hv]:=w9;show#[v,by rw[vv];show hv]
  .refine(ok b u q).hG (λc v hc r=>k c v ?_ r) (λc r=>by rw[fv<|Zc c b r];show r) λc xs r=>by rw[fv<|(λc xs r z=>by subst z;rw[r]at mu;show mu) c xs r];show r
   rcases hc with rfl|hc
   .show vv
   .rintro rfl;rcases he with z|z
    .show Zc c b hc z
    .rw[hc]at z;cases z;show hb za
structure Un (fs ex:List ai) (H H':Hp) (h h':aK):zb where
 keep:∀ b o,h.get? b=ae o->H b=ah->b∉fs->b∉ex->h'.get? b=ae o
 slot:∀ b o,h.get? b=ae o->H b=ah->b∈fs->b∉ex->∃ sl,h'.get? b=ae { o with slots:=sl }
 free:∀ b o,h.get? b=ae o->H b=ah->b∉ex->H' b=ah
 there:∀ b o,h.get? b=ae o->b∉ex->∃ o',h'.get? b=ae o'
 kN:∀ b xs,H b=ae (.tup xs)->H' b=ae (.tup xs)
 k8:∀ b o u,H b=ae (.bA o u)->H' b=ae (.bA o u)
 nX:∀ b ps,H b=ae (.qA ps)->∃ more,H' b=ae (.qA<|ps++more)

theorem Un.any (u:Un fs ex H H1 h h1) (q:h.get? b=ae ob) (n:H b=ah) (hx:b∉ex):∃ sl,h1.get? b=ae { ob with slots:=sl }:=by
 by_cases hb:b∈fs
 .show u.slot b ob q n hb hx
 .show#[ob.slots,u.keep b ob q n hb hx]
theorem Un.kept (k:∀ b u,h.get? b=ae u->h'.get? b=ae u):Un fs ex H H h h' :=
 #[λb ob q _ _ _=>k b ob q,λb ob q _ _ _=>#[ob.slots,k b ob q],λ_ _ _ n _=>n,λb ob q _=>#[ob,k b ob q],λ_ _ q=>q,λ_ _ _ q=>q,λ_ ps q=>#[#[],by rw[q];simp]]
theorem Un.refl:Un fs ex H H h h:=Un.kept λ_ _ q=>q
theorem Un.laid (k:∀ b u,h.get? b=ae u->h'.get? b=ae u) (hp:h.objs.size<=a) (hn:H a=ah):Un fs ex H (upd H a o) h h' where
 keep:=λb u q _ _ _=>k b u q
 slot:=λb u q _ _ _=>#[u.slots,k b u q]
 free:=λb u q n _=>by rw[fv<|bS<|dM (bb q) hp];show n
 there:=λb u q _=>#[u,k b u q]
 kN:=λb xs q=>by rw[fv<|fI q hn];show q
 k8:=λb u xs q=>by rw[fv<|fI q hn];show q
 nX:=λb ps q=>#[#[],by rw[fv<|fI q hn,q];simp]
theorem Un.write (mu:yQ<|H x) (he:e=x \/ H e=ae (.own x)) (k:∀ b u,b≠e->h.get? b=ae u->h'.get? b=ae u) (w9:∃ u,h'.get? e=ae u):Un fs ex H (upd H x o) h h':=by
 have hx:∀ b,H b=ah->b≠x:=λb n z=>by subst z;rw[n]at mu;show mu
 have hb:∀ b,H b=ah->b≠e:=λb n z=>by
  subst z;rcases he with r|r
  .show hx b n r
  .rw[n]at r;cases r
 have hm:∀ b u,H b=ae u->¬ yQ (ae u)->b≠x:=λb u q nm z=>by subst z;rw[q]at mu;show nm mu
 refine#[λb u q n _ _=>k b u (hb b n) q,λb u q n _ _=>#[u.slots,k b u (hb b n) q],λb u q n _=>by rw[fv<|hx b n];show n,λb u q _=>?_,
  λb xs q=>by rw[fv<|hm b _ q λz=>z];show q,λb u xs q=>by rw[fv<|hm b _ q λz=>z];show q,λb ps q=>#[#[],by rw[fv<|hm b _ q λz=>z,q];simp]]
 by_cases vv:b=e
 .subst vv;show w9
 .show#[u,k b u vv q]
noncomputable def acm (h:aK) (H:Hp):List ai:=(List.range h.objs.size).filter λa=>(H a).isSome
def xa (h:aK) (H:Hp):aK:=PySem.W.hideAll h<|acm h H
theorem MT (e:(xa h H).get? b=ae o):h.get? b=ae o /\ H b=ah:=by
 have e':=PySem.W.of_hideAll _ e;refine#[e',?_];cases q:H b with
 |none=>rfl
 |some x=>
   have z:(xa h H).get? b=ah:=PySem.W.hideAll_none _ (List.mem_filter.mpr #[List.mem_range.mpr<|bb e',by simp[q]]);rw[z]at e;cases e
structure Mod (K:PySem.W.Frag) (mg:Str->Option au) (base:aK):zb where
 ui:K.In base
 glob:base.Ns mainGlobals mg
 blt:∃ mb,base.Ns builtinsNs mb /\ ∀ x:Str,x ≠ "__name__"->mb x=bootBuiltins x
 nolimit:base.NoLimit
structure Cx where
 prog:cS
 w:cg
 K:PySem.W.Frag
 mg:Str->Option au
 base:aK
 A:di
 N:List Str
 s₀:aI
 H₀:Hp
 env:Env
 outer:List Env
 stack:List Env
 ex:List ai
 fn:Str->Bool
 calm:Bool
 pn:List (ai×Obj)
 xe:au->aI->zb
noncomputable def hV (l:List Env):List ai:=l.filterMap (·.frame)
abbrev Cx.fs (X:Cx):List ai:=hV X.outer
def qB (sc:eZ) (x:Str):zb:=sc.names.lookup x=ae .local \/ sc.names.lookup x=ae .cell \/ sc.names.lookup x=ae .free
def Loc (sc:eZ) (x:Str):zb:=sc.names.lookup x=ae .local \/ sc.names.lookup x=ae .cell
def Look (env:Env) (h:aK) (m:Str->Option au) (x:Str) (u:au):zb:=
 (env.kindOf x=ae .local /\ m x=ae u) \/ ((env.kindOf x=ae .cell \/ env.kindOf x=ae .free) /\ ∃ c,env.cells.lookup x=ae c /\ h.IsCell c (ae u))
structure Cx.Ok (X:Cx):zb where
 mod:Mod X.K X.mg X.base
 kind:X.env.scope.kind=.function
 glob:X.env.globals=mainGlobals
 blt:X.env.builtins=builtinsNs
 above:X.s₀.heap.objs.size<=X.env.locals
 inj:∀ x y c,X.env.cells.lookup x=ae c->X.env.cells.lookup y=ae c->x=y
 has:∀ x,(X.env.kindOf x=ae .cell \/ X.env.kindOf x=ae .free)->∃ c,X.env.cells.lookup x=ae c
 xb:∀ x c,X.fn x=ag->X.env.cells.lookup x=ae c->X.s₀.heap.objs.size<=c
 hd:X.calm=ag->X.A.handled=ah
 frames:X.A.frames=ae X.stack
 yR:X.stack=X.outer \/ (X.stack=X.env::X.outer /\ X.env.frame=ae X.env.locals)
 yS:∀ b∈X.ex,b≠X.env.locals /\ ∀ x c,X.env.cells.lookup x=ae c->c≠b
 bs:∀ b o,X.base.get? b=ae o->X.s₀.heap.get? b=ae o /\ X.H₀ b=ah
 rS:X.base.objs.size<=X.s₀.heap.objs.size
 xc:∀ b o,X.base.get? b=ae o->b∉X.ex
 xf:∀ b∈X.ex,b∉X.fs
 kO:X.s₀.heap.FunFrames X.base X.outer
 qC:∀ b∈X.fs,X.H₀ b=ah
structure Inv (X:Cx) (pins:List<|ai×Obj) (σ:List<|Option V) (H:Hp) (s:aI):zb where
 ok:X.Ok
 os:s.os=X.s₀.os
 bare:AllBare s.gens
 base:Un X.fs X.ex X.H₀ H X.s₀.heap s.heap
 loc:∃ m,s.heap.Ns X.env.locals m /\ ∀ (i:Nat) (x:Str) (v:V),X.N[i]?=ae x->σ[i]?=ae (ae v)->qB X.env.scope x->∃ u,RelV v u /\ Look X.env s.heap m x u
 cell:∀ x c,X.env.cells.lookup x=ae c->∃ v,s.heap.IsCell c v
 free:H X.env.locals=ah
 nH:∀ x c,X.env.cells.lookup x=ae c->H c=ah
 pin:∀ p∈X.pn++pins,s.heap.get? p.1=ae p.2 /\ H p.1=ah /\ p.1≠X.env.locals /\ p.1∉X.fs /\ ∀ v,p.2.data≠.cell v
 ay:cq X.prog X.w H s.heap
 len:σ.length=X.N.length
section
variable {X:Cx}
theorem Cx.Ok.acn (ok:X.Ok) (e:X.base.get? b=ae o):b∉X.fs:=λhb=>by
 have:=(ok.kO.mem hb).1;rw[e]at this;cases this
theorem Inv.bs (I:Inv X pins σ H s):∀ b o,X.base.get? b=ae o->s.heap.get? b=ae o /\ H b=ah:=λb o e=>
 #[I.base.keep b o (I.ok.bs b o e).1 (I.ok.bs b o e).2 (I.ok.acn e)<|I.ok.xc b o e,I.base.free b o (I.ok.bs b o e).1 (I.ok.bs b o e).2<|I.ok.xc b o e]
theorem Inv.bk (I:Inv X pins σ H s):∀ b o,X.base.get? b=ae o->s.heap.get? b=ae o:=λb o e=>(I.bs b o e).1
theorem Inv.mod (I:Inv X pins σ H s):Mod X.K X.mg X.base:=I.ok.mod
theorem Inv.cH (I:Inv X pins σ H s):X.K.In s.heap:=I.ok.mod.ui.keeps I.bk
theorem Inv.lt (I:Inv X pins σ H s):X.env.locals<s.heap.objs.size:=let ⟨_,hn,_⟩:=I.loc;hn.lt
theorem Inv.sz (I:Inv X pins σ H s):X.s₀.heap.objs.size<=s.heap.objs.size:=cu I.ok.above<|kK I.lt
theorem Inv.aco (I:Inv X pins σ H s) (h:s.heap.objs.size<=a):a∉X.fs:=λhb=>by
 let#[_,o,ho,_]:=I.ok.kO.mem hb;show absurd (dM (bb ho)<|cu I.sz h)<|eW _
theorem Inv.sX (I:Inv X pins σ H s):∀ x c,X.env.cells.lookup x=ae c->c≠X.env.locals:=λx c e z=>by
 let#[v,o,ho,hd]:=I.cell x c e;let#[m,#[o',es,ep,d6,rT,_],_]:=I.loc;rw[z,d6]at ho;cases ho;rw[rT]at hd;cases hd
theorem Inv.kO (I:Inv X pins σ H s):s.heap.FunFrames X.base X.outer:=by
 have all:∀ (l),(∀ b∈hV l,b∈X.fs)->X.s₀.heap.FunFrames X.base l->s.heap.FunFrames X.base l:=by
  intro l;induction l with
  |nil=>intro _ _;trivial
  |cons env r ih=>
    intro hs hl;let#[hk,#[L,o,hf,hn,ho,hd],hr]:=hl;have hL:=hs L (by unfold hV;rw[qg,hf];show bM);let#[sl,e]:=I.base.slot L o ho (I.ok.qC L hL) hL λz=>I.ok.xf L z hL;show#[hk,#[L,_,hf,hn,e,hd],ih (λb hb=>hs b (by unfold hV;rw[qg,hf];show bC _ hb)) hr]
 show all X.outer (λ_ hb=>hb) I.ok.kO
theorem Inv.stack (I:Inv X pins σ H s):s.heap.FunFrames X.base X.stack:=by
 rcases I.ok.yR with e|⟨e,hf⟩
 .rw[e];show I.kO
 .rw[e];let#[m,hn,_]:=I.loc;show .cons (by rw[I.ok.kind];decide) hf hn (Yl<|cu I.ok.rS I.ok.above) I.kO
theorem Inv.xg (I:Inv X pins σ H s):∀ b∈hV X.stack,b∈X.env.locals::X.fs:=λb hb=>by
 rcases I.ok.yR with e|⟨e,hf⟩
 .rw[e]at hb;show bC _ hb
 .rw[e]at hb;unfold hV at hb;rw[qg,hf]at hb;show hb
theorem Inv.UX (I:Inv X pins σ H s):∀ b∈hV X.stack,H b=ah:=λb hb=>by
 rcases a9.mp (I.xg b hb) with e|hb
 .rw[e];show I.free
 .let#[_,o,ho,_]:=I.ok.kO.mem hb;show I.base.free b o ho (I.ok.qC b hb) λz=>I.ok.xf b z hb
theorem Inv.step {ch:List ai}(I:Inv X pins σ H s)
 (rV:∀ b∈ch,(b∈X.ex \/ X.s₀.heap.objs.size<=b) /\ b≠X.env.locals /\ (∀ x c,X.env.cells.lookup x=ae c->c≠b) /\ ∀ p∈X.pn++pins,p.1≠b)
 (keep:∀ b o,b≠X.env.locals->b∉X.fs->b∉ch->s.heap.get? b=ae o->H b=ah->h'.get? b=ae o)
 (slot:∀ b o,b≠X.env.locals->b∈X.fs->b∉ch->s.heap.get? b=ae o->H b=ah->∃ sl,h'.get? b=ae { o with slots:=sl }) (free:∀ b o,b∉ch->s.heap.get? b=ae o->H b=ah->H' b=ah)
 (there:∀ b o,b∉ch->s.heap.get? b=ae o->∃ o',h'.get? b=ae o')
 (kN:∀ b xs,H b=ae (.tup xs)->H' b=ae (.tup xs)) (k8:∀ b o u,H b=ae (.bA o u)->H' b=ae (.bA o u)) (nX:∀ b ps,H b=ae (.qA ps)->∃ more,H' b=ae (.qA<|ps++more))
 (ns:∀ m,s.heap.Ns X.env.locals m->h'.Ns X.env.locals m) (ay:cq X.prog X.w H' h') (hg:AllBare g') :
 Inv X pins σ H' { s with heap:=h',gens:=g',drawn:=d',toks:=t' }:=by
 have Zd:∀ b o,X.s₀.heap.get? b=ae o->b≠X.env.locals:=λb o e=>bS<|dM (bb e) I.ok.above;have uj:∀ b o,X.s₀.heap.get? b=ae o->b∉X.ex->b∉ch:=λb o e hx hb=>by
  rcases(rV b hb).1 with z|z
  .show hx z
  .show absurd (dM (bb e) z)<|eW _
 have cellK:∀ x c,X.env.cells.lookup x=ae c->∀ v,s.heap.IsCell c v->h'.IsCell c v:=λx c e v ⟨o,ho,hd⟩=>by
  have qD:=λz=>(rV c z).2.2.1 x c e za;by_cases hc:c∈X.fs
  .let#[sl,q]:=slot c o (I.sX x c e) hc qD ho<|I.nH x c e;show#[_,q,hd]
  .show#[o,keep c o (I.sX x c e) hc qD ho<|I.nH x c e,hd]
 refine#[I.ok,I.os,hg,#[λb o e n hb hx=>(keep b o (Zd b o e) hb (uj b o e hx) (I.base.keep b o e n hb hx)<|I.base.free b o e n hx),λb o e n hb hx=>?_,λb o e n hx=>?_,λb o e hx=>?_,λb xs e=>kN b xs<|I.base.kN b xs e,λb o xs e=>k8 b o xs<|I.base.k8 b o xs e,λb ps e=>?_],?_,λx c e=>?_,?_,λx c e=>?_,λp hp=>?_,ay,I.len]
 .let#[sl,e1]:=I.base.slot b o e n hb hx;let#[k9,e2]:=slot b _ (Zd b o e) hb (uj b o e hx) e1<|I.base.free b o e n hx;show#[k9,e2]
 .let#[o',e1]:=I.base.there b o e hx;show free b o' (uj b o e hx) e1<|I.base.free b o e n hx
 .let#[o',e1]:=I.base.there b o e hx;show there b o' (uj b o e hx) e1
 .let#[m1,e1]:=I.base.nX b ps e;let#[m2,e2]:=nX b _ e1;show#[m1++m2,by rw[e2,Array.append_assoc]]
 .let#[m,hn,hl]:=I.loc;refine#[m,ns m hn,λi x v e1 e2 e3=>?_];let#[u,r,l]:=hl i x v e1 e2 e3;refine#[u,r,?_];rcases l with l|⟨k,c,e,z⟩
  .show .inl l
  .show .inr #[k,c,e,cellK x c e _ z]
 .let#[v,z]:=I.cell x c e;show#[v,cellK x c e v z]
 .let#[m,#[o,_,_,ho,_],_]:=I.loc;show free _ o (λz=>(rV _ z).2.1 za) ho I.free
 .let#[v,o,ho,hd]:=I.cell x c e;show free c o (λz=>(rV c z).2.2.1 x c e za) ho<|I.nH x c e
 .let#[e,n,ne,nf,d]:=I.pin p hp;have qD:=λz=>(rV p.1 z).2.2.2 p hp za;show#[keep p.1 p.2 ne nf qD e n,free p.1 p.2 qD e n,ne,nf,d]
theorem Inv.un (I:Inv X pins σ H s) (u:Un X.fs [] H H' s.heap h') (ay:cq X.prog X.w H' h'):Inv X pins σ H' { s with heap:=h',toks:=t' }:=by
 let#[m,#[o,es,ep,ho,r],_]:=id I.loc;let#[sl,hL]:=u.any ho I.free (by simp);show I.step (ch:=[]) (λ_ z=>nomatch z) (λb o _ hb _ e n=>u.keep b o e n hb (by simp)) (λb o _ hb _ e n=>u.slot b o e n hb (by simp)) (λb o _ e n=>u.free b o e n (by simp)) (λb o _ e=>u.there b o e (by simp)) u.kN u.k8 u.nX (λm' hm=>by
  let#[o',es',Iv,d6,r']:=hm;rw[ho]at d6;cases d6;show#[_,es',Iv,hL,r']) ay I.bare
theorem Inv.call (I:Inv X pins σ H s) (u:Un (hV X.stack) ch H H' s.heap h') (ay:cq X.prog X.w H' h') (hg:AllBare g')
 (rV:∀ b∈ch,(b∈X.ex \/ X.s₀.heap.objs.size<=b) /\ b≠X.env.locals /\ (∀ x c,X.env.cells.lookup x=ae c->c≠b) /\ ∀ p∈X.pn++pins,p.1≠b) :
 Inv X pins σ H' { s with heap:=h',gens:=g',drawn:=d',toks:=t' }:=by
 let#[m,#[o,es,ep,ho,r],_]:=id I.loc;let#[sl,hL]:=u.any ho I.free λz=>(rV _ z).2.1 za;show I.step rV (λb o hL hb hc e n=>u.keep b o e n (λz=>(a9.mp<|I.xg b z).elim hL hb) hc) (λb o _ _ hc e n=>u.any e n hc) (λb o hc e n=>u.free b o e n hc) (λb o hc e=>u.there b o e hc) u.kN u.k8 u.nX (λm' hm=>by
  let#[o',es',Iv,d6,r']:=hm;rw[ho]at d6;cases d6;show#[_,es',Iv,hL,r']) ay hg
theorem Inv.turned (I:Inv X pins σ H s) (k:∀ b o,b≠it->s.heap.get? b=ae o->h'.get? b=ae o) (hn:H it=ah) (hL:it≠X.env.locals)
 (h1:it∈X.ex \/ X.s₀.heap.objs.size<=it) (h2:∀ x c,X.env.cells.lookup x=ae c->c≠it) (h3:∀ p∈X.pn++pins,p.1≠it):Inv X pins σ H { s with heap:=h',toks:=t' }:=by
 have Ze:∀ b u,H b=ae u->b≠it:=λb u e z=>by rw[z,hn]at e;cases e
 refine I.step (ch:=[it]) (λb hb=>?_) (λb o _ _ hc e _=>k b o (λz=>hc (by simp[z])) e) (λb o _ _ hc e _=>#[o.slots,k b o (λz=>hc (by simp[z])) e]) (λ_ _ _ _ n=>n)
  (λb o hc e=>#[o,k b o (λz=>hc (by simp[z])) e]) (λ_ _ e=>e) (λ_ _ _ e=>e) (λb ps e=>#[#[],by rw[e];simp]) (λm hm=>?_) (λb u e=>?_) I.bare
 .have e:b=it:=by simpa using hb
  subst e;show#[h1,hL,h2,h3]
 .let#[o,es,ep,ho,r]:=hm;show#[o,es,ep,k _ o (Ne.symm hL) ho,r]
 .refine(I.ay b u e).hG (λc v hc q=>k c v ?_ q) (λ_ q=>q) λ_ _ q=>q;rcases hc with z|z
  .rw[z];show Ze b u e
  .show Ze c _ z
theorem Inv.tok (I:Inv X pins σ H s) (t):Inv X pins σ H { s with toks:=t }:=I.un Un.refl I.ay
theorem Inv.kept (I:Inv X pins σ H s) (k:∀ b u,s.heap.get? b=ae u->h'.get? b=ae u):Inv X pins σ H { s with heap:=h',toks:=t' }:=I.un (Un.kept k)<|I.ay.kept k
theorem Inv.laid (I:Inv X pins σ H s) (k:∀ b u,s.heap.get? b=ae u->h'.get? b=ae u) (hp:s.heap.objs.size<=a) (new:cj X.prog X.w (upd H a o) h' a o) :
 Inv X pins σ (upd H a o) { s with heap:=h',toks:=t' }:=I.un (Un.laid k hp<|I.ay.fresh hp)<|I.ay.laid k hp new
theorem Inv.write (I:Inv X pins σ H s) (mu:yQ<|H x) (he:e=x \/ H e=ae (.own x)) (k:∀ b u,b≠e->s.heap.get? b=ae u->h'.get? b=ae u) (w9:∃ u,h'.get? e=ae u)
 (new:cj X.prog X.w (upd H x o) h' x o):Inv X pins σ (upd H x o) { s with heap:=h',toks:=t' }:=I.un (Un.write mu he k w9)<|I.ay.write mu he k w9 new
theorem Inv.UY (I:Inv X pins σ H s) (h:∀ p∈yT,s.heap.get? p.1=ae p.2 /\ H p.1=ah /\ p.1≠X.env.locals /\ p.1∉X.fs /\ ∀ v,p.2.data≠.cell v):Inv X yT σ H s:=
 #[I.ok,I.os,I.bare,I.base,I.loc,I.cell,I.free,I.nH,λp hp=>(dZ.mp hp).elim (λz=>I.pin p<|nU _ z)<|h p,I.ay,I.len]
theorem oT {N:List Str}(hN:N.Nodup) {j:Nat}(a:N[i]?=ae x) (b:N[j]?=ae x):i=j:=by
 let#[h1,e1]:=List.getElem?_eq_some_iff.mp a;let#[h2,e2]:=List.getElem?_eq_some_iff.mp b;show(List.getElem_inj hN).mp (e1.trans e2.symm)
theorem AS (I:Inv X pins σ H s) (hN:X.N.Nodup) (hi:X.N[i]?=ae x) (hx:Loc X.env.scope x) (r:RelV v u)
 (h:∀ s',Inv X pins (σ.set i<|ae v) H s'->(∃ a,Heap.SameBut a s.heap s'.heap /\ (a=X.env.locals \/ X.env.cells.lookup x=ae a))->Q () s') (hf:X.fn x=ag \/ X.env.scope.names.lookup x=ae .local:=by first|show .inl za|show .inr za|assumption):wpAny M A (storeName X.env x u) Q E s:=by
 let#[m,hn,hl]:=id I.loc;have acp:(X.env.scope.kind==.class||(X.env.scope.kind==.module&&X.env.locals != X.env.globals))=af:=by rw[I.ok.kind];rfl
 have Zf:i<σ.length:=by rw[I.len];show(List.getElem?_eq_some_iff.mp hi).1
 have sX:=I.sX;have tracked:∀ {a}{h'},(∃ o,s.heap.get? a=ae o /\ H a=ah)->Heap.SameBut a s.heap h'->cq X.prog X.w H h':=λ{a h'} ha hs b ob e=>by
  let#[_,_,Zg]:=ha;refine(I.ay b ob e).hG (λc w' hc q=>(hs.2 c ?_).trans q) (λ_ q=>q) λ_ _ q=>q;rintro rfl;rcases hc with rfl|hc
  .rw[Zg]at e;cases e
  .rw[Zg]at hc;cases hc
 rcases hx with hk|hk
 .refine wpAny_storeName_local hk hn (λh' sY hs=>?_) acp;let#[oL,_,_,uk,_]:=id hn;refine h _ #[I.ok,I.os,I.bare,#[λb o e n hb hx=>?_,λb o e n hb hx=>?_,I.base.free,λb o e hx=>?_,I.base.kN,I.base.k8,I.base.nX],#[_,sY,λj y v' e1 e2 e3=>?_],λy c e=>?_,I.free,I.nH,λp hp=>?_,tracked #[oL,uk,I.free] hs,by simpa using I.len] #[_,hs,.inl za]
  .show(hs.2 b<|bS<|dM (bb e) I.ok.above).trans (I.base.keep b o e n hb hx)
  .let#[sl,e1]:=I.base.slot b o e n hb hx;show#[sl,(hs.2 b<|bS<|dM (bb e) I.ok.above).trans e1]
  .let#[o',e1]:=I.base.there b o e hx;show#[o',(hs.2 b<|bS<|dM (bb e) I.ok.above).trans e1]
  .by_cases hj:j=i
   .subst hj;rw[hi]at e1;cases e1;rw[pE Zf]at e2;cases e2;show#[u,r,.inl #[hk,by simp]]
   .rw[rK<|Ne.symm hj]at e2;let#[u',r',q]:=hl j y v' e1 e2 e3;refine#[u',r',?_];rcases q with⟨k,e⟩|⟨k,c,e,z⟩
    .refine .inl #[k,?_];have:y≠x:=λe=>hj<|oT hN e1<|e▸hi;simp[this,e]
    .show .inr #[k,c,e,z.sameBut hs<|sX y c e]
  .let#[w',z]:=I.cell y c e;show#[w',z.sameBut hs<|sX y c e]
  .let#[e,n,ne,nf,d]:=I.pin p hp;show#[(hs.2 p.1 ne).trans e,n,ne,nf,d]
 .have UZ:X.fn x=ag:=by
   rcases hf with z|z
   .show z
   .rw[z]at hk;cases hk
  let#[c,hc]:=I.ok.has x<|.inl hk;let#[w',z]:=I.cell x c hc;refine wpAny_storeName_cell I.ok.kind hk hc z λh' yU hs=>?_;let#[oc,Iw,acq]:=id z;refine h { s with heap:=h' } #[I.ok,I.os,I.bare,#[λb o e n hb hx=>?_,λb o e n hb hx=>?_,I.base.free,λb o e hx=>?_,I.base.kN,I.base.k8,I.base.nX],#[m,hn.sameBut hs<|Ne.symm<|sX x c hc,λj y v' e1 e2 e3=>?_],λy c' e=>?_,I.free,I.nH,λp hp=>?_,tracked #[oc,Iw,I.nH x c hc] hs,by simpa using I.len] #[c,hs,.inr hc]
  .show(hs.2 b<|bS<|dM (bb e)<|I.ok.xb x c UZ hc).trans (I.base.keep b o e n hb hx)
  .let#[sl,e1]:=I.base.slot b o e n hb hx;show#[sl,(hs.2 b<|bS<|dM (bb e)<|I.ok.xb x c UZ hc).trans e1]
  .let#[o',e1]:=I.base.there b o e hx;show#[o',(hs.2 b<|bS<|dM (bb e)<|I.ok.xb x c UZ hc).trans e1]
  .by_cases hj:j=i
   .subst hj;rw[hi]at e1;cases e1;rw[pE Zf]at e2;cases e2;show#[u,r,.inr #[.inl hk,c,hc,yU]]
   .rw[rK<|Ne.symm hj]at e2;let#[u',r',q]:=hl j y v' e1 e2 e3;refine#[u',r',?_];rcases q with q|⟨k,c',e,z'⟩
    .show .inl q
    .refine .inr #[k,c',e,z'.sameBut hs ?_];rintro rfl;show hj<|oT hN e1<|I.ok.inj _ _ _ e hc▸hi
  .by_cases d7:c'=c
   .subst d7;show#[_,yU]
   .let#[w2,z2]:=I.cell y c' e;show#[w2,z2.sameBut hs d7]
  .let#[e,n,ne,nf,d]:=I.pin p hp;refine#[(hs.2 p.1 ?_).trans e,n,ne,nf,d];intro q;rw[q,Iw]at e;have q':=Option.some.inj e;show d w' (by rw[<-q'];show acq)
theorem jP (I:Inv X pins σ H s) (hN:X.N.Nodup) (hi:X.N[i]?=ae x) (hx:Loc X.env.scope x) (r:RelV v u)
 (h:∀ s',Inv X pins (σ.set i<|ae v) H s'->Q () s') (hf:X.fn x=ag \/ X.env.scope.names.lookup x=ae .local:=by first|show .inl za|show .inr za|assumption):wpAny M A (storeName X.env x u) Q E s:=
 AS I hN hi hx r (λs' I' _=>h s' I') hf
theorem Inv.Zh (I:Inv X pins σ H s) (ho:s'.os=s.os) (u:Un (hV X.stack) ch H H' s.heap s'.heap) (ay:cq X.prog X.w H' s'.heap) (hg:AllBare s'.gens)
 (rV:∀ b∈ch,(b∈X.ex \/ X.s₀.heap.objs.size<=b) /\ b≠X.env.locals /\ (∀ x c,X.env.cells.lookup x=ae c->c≠b) /\ ∀ p∈X.pn++pins,p.1≠b):Inv X pins σ H' s':=by
 let#[h',g',d',t',o']:=s';subst ho;show I.call u ay hg rV
end
abbrev XK:=au->Option ai->Hp->zb
noncomputable abbrev St:=List<|Option V
abbrev VK:=V->Hp->zb
abbrev TE:=St->Hp->VK->zb
abbrev TT:=St->Hp->(Bool->Hp->zb)->zb
abbrev TA:=St->Hp->(List V->Hp->zb)->zb
structure Ends where
 nx:St->Hp->zb
 rt:VK
 bk:St->Hp->zb:=λ_ _=>False
 ct:St->Hp->zb:=λ_ _=>False
abbrev TS:=Ends->St->Hp->zb
def EP (X:Cx) (pins:List<|ai×Obj) (σ:St) (Q:VK) (u:au) (s':aI):zb:=∃ v H',Inv X pins σ H' s' /\ RelV v u /\ Q v H'
def TP (X:Cx) (pins:List<|ai×Obj) (σ:St) (Q:Bool->Hp->zb) (b:Bool) (s':aI):zb:=∃ H',Inv X pins σ H' s' /\ Q b H'
def AP (X:Cx) (pins:List<|ai×Obj) (σ:St) (Q:List V->Hp->zb) (us:List au) (s':aI):zb:=∃ vs H',Inv X pins σ H' s' /\ Vals vs us /\ Q vs H'
def SP (X:Cx) (pins:List<|ai×Obj) (D:Ends) (f:Flow) (s':aI):zb:=
 match f with
 |.next=>∃ σ' H',Inv X pins σ' H' s' /\ D.nx σ' H'
 |.brk=>∃ σ' H',Inv X pins σ' H' s' /\ D.bk σ' H'
 |.cont=>∃ σ' H',Inv X pins σ' H' s' /\ D.ct σ' H'
 |.ret u=>∃ v σ' H',Inv X pins σ' H' s' /\ RelV v u /\ D.rt v H'
def PE (X:Cx) (e:aD) (t:TE):zb:=
 ∀ (pins) (s) (σ:St) (H) (Q),Inv X pins σ H s->t σ H Q->wpAny (model X.prog X.w) X.A (eval e X.env) (EP X pins σ Q) X.xe s
def PT (X:Cx) (e:aD) (t:TT):zb:=
 ∀ (pins) (s) (σ:St) (H) (Q),Inv X pins σ H s->t σ H Q->wpAny (model X.prog X.w) X.A (isTrue e X.env<|eval e X.env) (TP X pins σ Q) X.xe s
def PW (X:Cx) (e:aD) (t:TT):zb:=
 ∀ (whole) (pins) (s) (σ:St) (H) (Q),Inv X pins σ H s->t σ H Q->wpAny (model X.prog X.w) X.A (isTrue e X.env whole) (TP X pins σ Q) X.xe s
theorem PW.pt (h:PW X e t):PT X e t:=h _
def PA (X:Cx) (es:List aD) (t:TA):zb:=
 ∀ (pos) (pins) (s) (σ:St) (H) (Q),Inv X pins σ H s->t σ H Q->wpAny (model X.prog X.w) X.A (spliced<|backTo pos<|starEach es X.env) (AP X pins σ Q) X.xe s
def PS (X:Cx) (st:bJ) (t:TS):zb:=
 ∀ (pins) (s) (σ:St) (H) (D),Inv X pins σ H s->t D σ H->wpAny (model X.prog X.w) X.A (exec st X.env) (SP X pins D) X.xe s
def cX (X:Cx) (st:List bJ) (t:TS):zb:=
 ∀ (pins) (s) (σ:St) (H) (D),Inv X pins σ H s->t D σ H->wpAny (model X.prog X.w) X.A (execs st X.env) (SP X pins D) X.xe s
theorem cJ (h:wpAny M A t Q E s) (hQ:∀ a s,Q a s->Q' a s):wpAny M A t Q' E s:=kq h hQ λ_ _ x=>x
theorem aX {X:Cx}{pins:List (ai×Obj)}{σ:St}{Q:VK}{t:Sem au}{Q':au->aI->zb}{M:Model}{A:di}{E:au->aI->zb}{s:aI}(h:wpAny M A t (EP X pins σ Q) E s) (k:∀ v s x H,Inv X pins σ H s->RelV x v->Q x H->Q' v s):wpAny M A t Q' E s:=cJ h λv s ⟨x,H,I,r,q⟩=>k v s x H I r q
theorem nq {X:Cx}{pins:List (ai×Obj)}{σ:St}{Q:List V->Hp->zb}{t:Sem (List au)}{Q':List au->aI->zb}{M:Model}{A:di}{E:au->aI->zb}{s:aI}(h:wpAny M A t (AP X pins σ Q) E s) (k:∀ v s x H,Inv X pins σ H s->Vals x v->Q x H->Q' v s):wpAny M A t Q' E s:=cJ h λv s ⟨x,H,I,r,q⟩=>k v s x H I r q
theorem Iy {α β:Type}{X:Cx}{pins:List (ai×Obj)}{σ:St}{Q:β->Hp->zb}{R:β->α->zb}{t:Sem α}{Q':α->aI->zb}{M:Model}{A:di}{E:au->aI->zb}{s:aI}(h:wpAny M A t (λv s=>∃ x H,Inv X pins σ H s /\ R x v /\ Q x H) E s) (k:∀ v s x H,Inv X pins σ H s->R x v->Q x H->Q' v s):wpAny M A t Q' E s:=cJ h λv s ⟨x,H,I,r,q⟩=>k v s x H I r q
theorem yV {X:Cx}{pins:List (ai×Obj)}{σ:St}{Q:Bool->Hp->zb}{t:Sem Bool}{Q':Bool->aI->zb}{M:Model}{A:di}{E:au->aI->zb}{s:aI}(h:wpAny M A t (TP X pins σ Q) E s) (k:∀ v s H,Inv X pins σ H s->Q v H->Q' v s):wpAny M A t Q' E s:=cJ h λv s ⟨H,I,q⟩=>k v s H I q

def Zi (i:Nat):TE:=λσ H Q=>∃ v,σ[i]?=ae (ae v) /\ Q v H
def tC (v:V):TE:=λ_ H Q=>Q v H
theorem mD (hN:X.N[i]?=ae x) (hv:qB X.env.scope x) (hd:(x==("__debug__"))=af:=by decide) (dj:(x==("__classdict__"))=af:=by decide):PE X (.Name x pos) (Zi i):=by
 intro pins s σ H Q I h;let#[v,e,h]:=h;let#[m,hn,hl]:=I.loc;let#[u,r,l]:=hl i x v hN e hv;have fin:EP X pins σ Q u s:=#[v,H,I,r,h];rcases l with⟨hk,hm⟩|⟨hk,c,hc,Iz⟩
 .show Qk (wpAny_loadName_local I.ok.kind hk hn hm fin) hd
 .rcases hk with hk|hk
  .show Qk (wpAny_loadName_cell I.ok.kind hk hc Iz fin) hd
  .show Qk (wpAny_loadName_free I.ok.kind hk hc Iz fin dj) hd
theorem jo:PE X (.Constant (.int i) j pos) (tC<|.int i):=λ_ _ _ H _ I h=>wpAny_Constant_int #[.int i,H,I.tok _,#[_,rfl],h]
theorem Jh:PE X (.Constant (.bool b) j pos) (tC<|.bl b):=λ_ _ _ H _ I h=>Constant_bool #[.bl b,H,I,rfl,h]
theorem PR:PE X (.Constant .none j pos) (tC .non):=λ_ _ _ H _ I h=>Constant_none #[.non,H,I,rfl,h]
theorem mE:PE X (.Constant (.str x) j pos) (tC<|.str x):=λ_ _ _ H _ I h=>Calls.Constant_str #[.str x,H,I.tok _,#[_,rfl],h]
def Gl (X:Cx) (x:Str):zb:=X.env.kindOf x=ae .globalImplicit
theorem lQ (I:Inv X pins σ H s) (hg:Gl X x) (hm:X.mg x=ae u) (h:Q u s)
 (hd:(x==("__debug__"))=af:=by decide):wpAny (model X.prog X.w) X.A (eval (.Name x pos) X.env) Q E s:=
 Calls.Name_function_global I.ok.kind hg (Calls.loadGlobal_global (by rw[I.ok.glob];show I.mod.glob.keeps I.bk) hm h) hd
theorem ja (I:Inv X pins σ H s) (hg:Gl X x) (hm:X.mg x=ah) (hv:bootBuiltins x=ae u) (h:Q u s)
 (hn:x ≠ "__name__":=by decide) (hd:(x==("__debug__"))=af:=by decide):wpAny (model X.prog X.w) X.A (eval (.Name x pos) X.env) Q E s:=by
 let#[mb,h1,h2]:=I.mod.blt;show Calls.Name_function_global I.ok.kind hg (Calls.loadGlobal_builtin (by rw[I.ok.glob];show I.mod.glob.keeps I.bk) hm (by rw[I.ok.blt];show h1.keeps I.bk) ((h2 x hn).trans hv) h) hd
theorem gq (hg:Gl X x) (hm:X.mg x=ae u) (r:RelV v u) (hd:(x==("__debug__"))=af:=by decide):PE X (.Name x pos) (tC v):=
 λ_ _ _ H _ I h=>lQ I hg hm #[v,H,I,r,h] hd
theorem D0 (hg:Gl X x) (hm:X.mg x=ah) (hv:bootBuiltins x=ae u) (r:RelV v u) (hn:x ≠ "__name__":=by decide) (hd:(x==("__debug__"))=af:=by decide):PE X (.Name x pos) (tC v):=
 λ_ _ _ H _ I h=>ja I hg hm hv #[v,H,I,r,h] hn hd

def PC (X:Cx) (op:CmpOp) (a b:aD) (t:TE):zb:=
 ∀ (pins) (s) (σ:St) (H) (Q),Inv X pins σ H s->t σ H Q ->
  wpAny (model X.prog X.w) X.A (eval a X.env) (λv s₁=>wpAny (model X.prog X.w) X.A (eval b X.env) (λu s₂=>wpAny (model X.prog X.w) X.A (compareOp op v u) (EP X pins σ Q) X.xe s₂) X.xe s₁) X.xe s
theorem Zj (b) (h:op≠.In) (h2:op≠.NotIn):behindInMarks op b=af:=by
 have e1:(op==CmpOp.In)=af:=by cases op<;>first|rfl|show absurd za h
 have e2:(op==CmpOp.NotIn)=af:=by cases op<;>first|rfl|show absurd za h2
 cases b<;>simp[behindInMarks,e1,e2]
def acr (ta:TE):TE:=λσ H Q=>ta σ H λx H1=>Q (.bl<|decide (x=.non)) H1
theorem RelV.acs (r:RelV x v):(v==Value.none)=decide (x=.non):=by
 cases x with
 |int _=>let#[t,rfl]:=r;rfl
 |str _=>let#[t,rfl]:=r;rfl
 |nG _=>let#[t,rfl]:=r;rfl
 |rR _=>let#[t,rfl]:=r;rfl
 |_=>cases r;rfl
theorem Ji (ha:PE X a ta):PC X .Is a (.Constant .none j pos') (acr ta):=by
 intro pins s σ H Q I h;show aX (ha pins s σ H _ I h) λv s1 x H1 I1 r1 q1=>(Constant_none (is_none_gen #[.bl _,H1,I1,by rw[r1.acs];rfl,q1]))
noncomputable def tB (t:TE):TT:=λσ H Q=>t σ H λx H1=>∃ c,x=.bl c /\ Q c H1
theorem C8 (h:PC X op a b t) (h1:behindInMarks op b=af:=by first|show Zj _ (by decide) (by decide)|rfl):PE X (.Compare a [op] [b] pos) t:=λpins s σ H Q I hw=>WY (h pins s σ H Q I hw) h1
theorem C9 (h:PC X op a b t) (h1:behindInMarks op b=af:=by first|show Zj _ (by decide) (by decide)|rfl):PT X (.Compare a [op] [b] pos) (tB t):=by
 intro pins s σ H Q I hw;refine WZ (cJ (h pins s σ H _ I hw) λv s1 h1=>cJ h1 λu s2 h2=>aX h2 λc s3 x H1 I1 r1 q1=>?_) h1;let#[d,rfl,q]:=q1;cases r1;show qb #[H1,I1,q]
theorem Jj (h:PE X e t) (he:∀ whole,isTrue e X.env whole=(do let v <-whole;standAt e.pos;holding [v] (truthy v)):=by intro _;rfl):PT X e (tB t):=by
 intro pins s σ H Q I hw;refine isTrue_plain (aX (h pins s σ H _ I hw) λv s1 x H1 I1 r1 q1=>?_)<|he _;let#[d,rfl,q]:=q1;cases r1;show qb #[H1,I1,q]

noncomputable def acu (t u:TT):TT:=λσ H Q=>t σ H λc H1=>if c=ag then u σ H1 Q else Q af H1
noncomputable def acv (t u:TT):TT:=λσ H Q=>t σ H λc H1=>if c=ag then Q ag H1 else u σ H1 Q
noncomputable def acw (t:TT):TT:=λσ H Q=>t σ H λc H1=>Q (!c) H1
theorem MU (ha:PT X a tA):PW X (.BoolOp .And [a] pos) tA:=by
 intro wh pins s σ H Q I h;refine isTrue_and<|cJ (ha pins s σ H Q I h) λc s1 e=>?_;cases c with
 |true=>show isTrue_and_nil e
 |false=>show e
theorem Jk (ha:PT X a tA):PW X (.BoolOp .Or [a] pos) tA:=by
 intro wh pins s σ H Q I h;refine isTrue_or<|cJ (ha pins s σ H Q I h) λc s1 e=>?_;cases c with
 |false=>show isTrue_or_nil e
 |true=>show e
theorem PU (ha:PT X a tA) (hb:PW X (.BoolOp .And (b::rest) pos) U0):PW X (.BoolOp .And (a::b::rest) pos) (acu tA U0):=by
 intro wh pins s σ H Q I h;refine isTrue_and<|yV (ha pins s σ H _ I h) λc s1 H1 I1 q1=>?_;cases c with
 |true=>show hb wh pins s1 σ H1 Q I1 q1
 |false=>show#[H1,I1,q1]
theorem O5 (ha:PT X a tA) (hb:PW X (.BoolOp .Or (b::rest) pos) U0):PW X (.BoolOp .Or (a::b::rest) pos) (acv tA U0):=by
 intro wh pins s σ H Q I h;refine isTrue_or<|yV (ha pins s σ H _ I h) λc s1 H1 I1 q1=>?_;cases c with
 |true=>show#[H1,I1,q1]
 |false=>show hb wh pins s1 σ H1 Q I1 q1
theorem Jl (ha:PT X a tA):PT X (.UnaryOp .Not a pos) (acw tA):=by
 intro pins s σ H Q I h;show isTrue_not<|ha pins s σ H _ I h
def acx (ta tb:TE):TE:=λσ H Q=>ta σ H λx H1=>∃ c,x=.bl c /\ if c=ag then tb σ H1 Q else Q (.bl af) H1
def acy (ta tb:TE):TE:=λσ H Q=>ta σ H λx H1=>∃ c,x=.bl c /\ if c=ag then Q (.bl ag) H1 else tb σ H1 Q
def acz (ta:TE):TE:=λσ H Q=>ta σ H λx H1=>∃ c,x=.bl c /\ Q (.bl<|!c) H1
theorem PV (h:PE X a t):PE X (.BoolOp op [a] pos) t:=λpins s σ H Q I hw=>BoolOp_one<|h pins s σ H Q I hw
theorem PY (ha:PE X a ta) (hb:PE X (.BoolOp .And (b::rest) pos) tb):PE X (.BoolOp .And (a::b::rest) pos) (acx ta tb):=by
 intro pins s σ H Q I h;refine BoolOp_and<|aX (ha pins s σ H _ I h) λv s1 x H1 I1 r1 q1=>?_;let#[c,rfl,q1]:=q1;cases r1;refine qb ?_;cases c with
 |true=>show hb pins s1 σ H1 Q I1 q1
 |false=>show#[.bl af,H1,I1,rfl,q1]
theorem SY (ha:PE X a ta) (hb:PE X (.BoolOp .Or (b::rest) pos) tb):PE X (.BoolOp .Or (a::b::rest) pos) (acy ta tb):=by
 intro pins s σ H Q I h;refine BoolOp_or<|aX (ha pins s σ H _ I h) λv s1 x H1 I1 r1 q1=>?_;let#[c,rfl,q1]:=q1;cases r1;refine qb ?_;cases c with
 |false=>show hb pins s1 σ H1 Q I1 q1
 |true=>show#[.bl ag,H1,I1,rfl,q1]
theorem PZ (ha:PE X a ta):PE X (.UnaryOp .Not a pos) (acz ta):=by
 intro pins s σ H Q I h;refine UnaryOp_<|aX (ha pins s σ H _ I h) λv s1 x H1 I1 r1 q1=>?_;let#[c,rfl,q1]:=q1;cases r1;show not_of<|qb #[.bl<|!c,H1,I1,rfl,q1]
def acA (t:TT) (ta tb:TE):TE:=λσ H Q=>t σ H λc H1=>if c=ag then ta σ H1 Q else tb σ H1 Q
theorem Jm (hc:PT X c tA) (ha:PE X a ta) (hb:PE X b tb):PE X (.IfExp c a b pos) (acA tA ta tb):=by
 intro pins s σ H Q I h;refine wpAny_IfExp<|yV (hc pins s σ H _ I h) λd s1 H1 I1 q1=>?_;cases d with
 |true=>show ha pins s1 σ H1 Q I1 q1
 |false=>show hb pins s1 σ H1 Q I1 q1
def bN (K:PySem.W.Frag) (H:Hp) (a:ai) (xs:List V):zb:=
 Rd H a (.lst xs) \/
  ∃ (o:Obj) (its:Array au) (n:Nat),K.lookup a=ae o /\ o.cls=.type "list" /\ o.dict=ah /\ o.data=.seq its n /\ its.size<=sizeLine /\ Vals xs its.toList
def cK (K:PySem.W.Frag) (H:Hp) (a:ai) (xs:List V):zb:=
 Rd H a (.tup xs) \/
  ∃ (o:Obj) (its:Array au) (n:Nat),K.lookup a=ae o /\ o.cls=.type "tuple" /\ o.data=.seq its n /\ its.size<=sizeLine /\ Vals xs its.toList
noncomputable def acB:au->Option V
 |.none=>ae .non
 |.bool b=>ae<|.bl b
 |.int i _=>ae<|.int i
 |.str x _=>ae<|.str x
 |.bytes b _=>ae<|.nG b
 |.float b _=>ae<|.rR b
 |.ref a=>ae<|.ref a
 |.type n=>ae<|.ty n
 |_=>ah
theorem RelV.abs (r:RelV x u):acB u=ae x:=by
 cases x with
 |int _=>let#[t,rfl]:=r;rfl
 |str _=>let#[t,rfl]:=r;rfl
 |nG _=>let#[t,rfl]:=r;rfl
 |rR _=>let#[t,rfl]:=r;rfl
 |_=>cases r;rfl
theorem RelV.inj (r:RelV x u) (q:RelV y u):x=y:=Option.some.inj<|r.abs.symm.trans q.abs
theorem Vals.inj:∀ {xs ys}{us},Vals xs us->Vals ys us->xs=ys
 |_,_,_,.nil,.nil=>rfl
 |_,_,_,.cons r t,.cons r' t'=>by rw[r.inj r',Vals.inj t t']

theorem bN.of {K}(h:H a=ae (.lst xs)):bN K H a xs:=.inl<|.inl h
theorem cK.of {K}(h:H a=ae (.tup xs)):cK K H a xs:=.inl<|.inl h
theorem Inv.list (I:Inv X pins σ H s) (h:bN X.K H a xs):∃ its,Vals xs its /\ PlainL s.heap a its.toArray /\ xs.length<=sizeLine:=by
 rcases h with h|⟨o,its,n,hk,hc,hd,hs,hz,r⟩
 .let#[z,its,n,r,e]:=h.ok I.ay;show#[its,r,#[_,n,e,rfl,rfl,rfl],z]
 .refine#[its.toList,r,#[o,n,I.cH a o hk,hc,hd,by simpa using hs],?_];have e:=r.length;simp[nF]at e
  lia
theorem Inv.tuple (I:Inv X pins σ H s) (h:cK X.K H a xs):∃ its,Vals xs its /\ IsTup s.heap a its.toArray /\ xs.length<=sizeLine:=by
 rcases h with h|⟨o,its,n,hk,hc,hs,hz,r⟩
 .let#[z,its,r,p]:=h.ok I.ay;show#[its,r,p,z]
 .refine#[its.toList,r,#[o,I.cH a o hk,hc,n,by simpa using hs],?_];have e:=r.length;simp[nF]at e
  lia
theorem Inv.Zk (I:Inv X pins σ H s) (h:bN X.K H a xs) (h':bN X.K H a ys):xs=ys:=by
 let#[its,r,#[o,n,e,_,_,d],_]:=I.list h;let#[rW,r',#[o',n',e',_,_,d'],_]:=I.list h';rw[e]at e';cases e';rw[d]at d';injection d' with d1 _;have:its=rW:=by simpa using congrArg Array.toList d1
 subst this;show r.inj r'
theorem Inv.Zl (I:Inv X pins σ H s) (h:cK X.K H a xs) (h':cK X.K H a ys):xs=ys:=by
 let#[its,r,#[o,e,_,n,d],_]:=I.tuple h;let#[rW,r',#[o',e',_,n',d'],_]:=I.tuple h';rw[e]at e';cases e';rw[d]at d';injection d' with d1 _;have:its=rW:=by simpa using congrArg Array.toList d1
 subst this;show r.inj r'
noncomputable abbrev Cx.rX (X:Cx) (E:au->aI->zb):Cx:={ X with xe:=E }
abbrev Cx.sZ (X:Cx):Cx:=X.rX λ_ _=>False
theorem Cx.Ok.rX {X:Cx}(ok:X.Ok) (E):(X.rX E).Ok:=
 #[ok.mod,ok.kind,ok.glob,ok.blt,ok.above,ok.inj,ok.has,ok.xb,ok.hd,ok.frames,ok.yR,ok.yS,ok.bs,ok.rS,ok.xc,ok.xf,ok.kO,ok.qC]
theorem Cx.Ok.uo {X:Cx}(ok:(X.rX E).Ok):X.Ok:=
 #[ok.mod,ok.kind,ok.glob,ok.blt,ok.above,ok.inj,ok.has,ok.xb,ok.hd,ok.frames,ok.yR,ok.yS,ok.bs,ok.rS,ok.xc,ok.xf,ok.kO,ok.qC]

theorem Inv.rX (I:Inv X pins σ H s) (E):Inv (X.rX E) pins σ H s:=#[I.ok.rX E,I.os,I.bare,I.base,I.loc,I.cell,I.free,I.nH,I.pin,I.ay,I.len]
theorem Inv.uo (I:Inv (X.rX E) pins σ H s):Inv X pins σ H s:=#[I.ok.uo,I.os,I.bare,I.base,I.loc,I.cell,I.free,I.nH,I.pin,I.ay,I.len]
theorem SP.uo (h:SP (X.rX E) pins D f s'):SP X pins D f s':=by
 cases f with
 |ret u=>let#[v,σ',H',I,r,q]:=h;show#[v,σ',H',I.uo,r,q]
 |_=>let#[σ',H',I,q]:=h;show#[σ',H',I.uo,q]
theorem cX.sZ {st}(h:cX X.sZ st t):cX X st t:=λpins s σ H D I hw=>
 kq (h pins s σ H D (I.rX _) hw) (λ_ _ q=>q.uo) λ_ _ z=>False.elim z
section
variable {st:bJ}
def acC:TS:=λD σ H=>D.nx σ H
def acD (t u:TS):TS:=λD σ H=>t { D with nx:=u D } σ H
theorem D3:cX X [] acC:=λ_ _ σ H _ I h=>HI #[σ,H,I,h]
theorem gV (h1:PS X st t) (h2:cX X rest u):cX X (st::rest) (acD t u):=by
 intro pins s σ H D I h;refine W0<|cJ (h1 pins s σ H { D with nx:=u D } I h) λf s1 q=>?_;cases f with
 |next=>
   let#[σ',H',I',q]:=q;show h2 pins s1 σ' H' D I' q
 |ret v=>show q
 |_=>show q
theorem lR (h1:PS X st t):cX X [st] t:=by
 intro pins s σ H D I h;refine W0<|cJ (h1 pins s σ H D I h) λf s1 q=>?_;cases f with
 |next=>show HI q
 |ret v=>show q
 |_=>show q
def acE:TS:=λD σ H=>D.bk σ H
def acF:TS:=λD σ H=>D.ct σ H
theorem Jn:PS X (.Break pos) acE:=λ_ _ σ H _ I h=>wpAny_Break #[σ,H,I,h]
theorem Ca:PS X (.Continue pos) acF:=λ_ _ σ H _ I h=>wpAny_Continue #[σ,H,I,h]
theorem Inv.quiet (I:Inv X pins σ H s):interactive X.env=af:=by simp[interactive,I.ok.kind]
def acG (te:TE):TS:=λD σ H=>te σ H λ_ H1=>D.nx σ H1
theorem D4 (he:PE X e te) (hs:swapsWith e ah pos.line X.env=pure af:=by rfl):PS X (.Expr e pos) (acG te):=by
 intro pins s σ H D I h;show wpAny_Expr_any (aX (he pins s σ H _ I h) λv s1 x H1 I1 r1 q1=>#[σ,H1,I1,q1]) I.quiet hs
def acH (te:TE):TS:=λD σ H=>te σ H D.rt
theorem Bo (he:PE X e te):PS X (.Return (ae e) pos) (acH te):=by
 intro pins s σ H D I h;show wpAny_Return_some<|aX (he pins s σ H _ I h) λv s1 x H1 I1 r1 q1=>#[x,σ,H1,I1,r1,q1]
def acI (c:TT) (t u:TS):TS:=λD σ H=>c σ H λb H1=>if b=ag then t D σ H1 else u D σ H1
theorem O6 (hc:PT X c tc) (ha:cX X a t) (hb:cX X b u):PS X (.If c a b pos) (acI tc t u):=by
 intro pins s σ H D I h;refine wpAny_If<|yV (hc pins s σ H _ I h) λd s1 H1 I1 q1=>?_;cases d with
 |true=>show ha pins s1 σ H1 D I1 q1
 |false=>show hb pins s1 σ H1 D I1 q1
end
abbrev TG:=V->St->Hp->(St->Hp->zb)->zb
abbrev xh:=List V->St->Hp->(St->Hp->zb)->zb
def PG (X:Cx) (target:aD) (t:TG):zb:=
 ∀ (pins) (s) (σ:St) (H) (v) (u) (Q),Inv X pins σ H s->RelV v u->t v σ H Q ->
  wpAny (model X.prog X.w) X.A (assign target X.env u) (λ_ s'=>∃ σ' H',Inv X pins σ' H' s' /\ Q σ' H') X.xe s
def rY (X:Cx) (ts:List aD) (t:xh):zb:=
 ∀ (pins) (s) (σ:St) (H) (vs) (us) (Q),Inv X pins σ H s->Vals vs us->t vs σ H Q ->
  wpAny (model X.prog X.w) X.A (assignInOrder ((assignEach ts X.env).map (·.2)) us) (λ_ s'=>∃ σ' H',Inv X pins σ' H' s' /\ Q σ' H') X.xe s
abbrev Zm:=V->V->V->Hp->(Hp->zb)->zb
def Zn (X:Cx) (t:Zm):zb:=
 ∀ (pins) (s) (σ:St) (H) (o i v) (ov iv u) (Q),Inv X pins σ H s->RelV o ov->RelV i iv->RelV v u->t o i v H Q ->
  wpAny (model X.prog X.w) X.A (setItem ov iv u) (λ_ s'=>∃ H',Inv X pins σ H' s' /\ Q H') X.xe s

def U1 (i:Nat):TG:=λv σ H Q=>Q (σ.set i<|ae v) H
theorem Bp (hN:X.N.Nodup) (hi:X.N[i]?=ae x) (hx:Loc X.env.scope x) (hf:X.fn x=ag \/ X.env.scope.names.lookup x=ae .local:=by first|show .inl za|show .inr za|assumption):PG X (.Name x pos) (U1 i):=by
 intro pins s σ H v u Q I r h;show W2<|jP I hN hi hx r (λs' I'=>#[_,H,I',h]) hf
noncomputable def acJ:xh:=λvs σ H Q=>vs=[] /\ Q σ H
noncomputable def acK (t:TG) (u:xh):xh:=λvs σ H Q=>∃ v r,vs=v::r /\ t v σ H λσ' H'=>u r σ' H' Q
theorem D5:rY X [] acJ:=by
 intro pins s σ H vs us Q I r h;let#[e,h]:=h;subst e;cases r;show Yo #[σ,H,I,h]
theorem oU (h1:PG X e t) (h2:rY X es u)
 (hs:(assignEach (e::es) X.env).map (·.2)=assign e X.env::(assignEach es X.env).map (·.2):=by rfl):rY X (e::es) (acK t u):=by
 intro pins s σ H vs us Q I r h;let#[v,vr,e1,h]:=h;subst e1;cases r with
 |cons r rr=>
   rw[hs];show QV<|cJ (h1 pins s σ H _ _ _ I r h) λ_ s1 ⟨σ1,H1,I1,q1⟩=>(h2 pins s1 σ1 H1 _ _ Q I1 rr q1)
def acL (K:PySem.W.Frag) (n:Nat) (t:xh):TG:=λv σ H Q=>∃ a xs,v=.ref a /\ cK K H a xs /\ xs.length=n /\ t xs σ H Q
theorem Jo (hc:X.calm=ag) (h:rY X es t)
 (hn:(assignEach es X.env).length=n:=by rfl) (nY:(assignEach es X.env).findIdx? (·.1)=ah:=by rfl):PG X (.Tuple es k pos) (acL X.K n t):=by
 intro pins s σ H v u Q I r hw;let#[a,xs,e1,hq,hl,hw]:=hw;subst e1;cases r;let#[its,rv,ht,hz]:=I.tuple hq;refine assign_Tuple_tuple (I.ok.hd hc) ht (by simp[hn,<-hl,rv.length]) nY λh' hx=>?_;show h pins _ σ H xs _ Q (I.kept λb o e=>hx b o (bS<|bb e) e) (by simpa using rv) hw
def acM (to ti:TE) (t:Zm):TG:=λv σ H Q=>to σ H λo H1=>ti σ H1 λi H2=>t o i v H2 λH3=>Q σ H3
theorem P0 (ho:PE X o to) (hi:PE X i ti) (hs:Zn X t)
 (ha:∀ v,assign (.Subscript o i pos) X.env v=(do
  let ov <-holding [v] (eval o X.env)
  let iv <-holding [v,ov] (eval i X.env)
  standAt pos
  holding [v,ov,iv] (setItem ov iv v)
  release [v,ov,iv] []):=by intro _;rfl):PG X (.Subscript o i pos) (acM to ti t):=by
 intro pins s σ H v u Q I r h;refine ak<|eV<|aX (ho pins s σ H _ I h) λov s1 x H1 I1 r1 q1=>?_;refine ak<|eV<|aX (hi pins s1 σ H1 _ I1 q1) λiv s2 y H2 I2 r2 q2=>?_;show ak<|HJ<|ak<|eV<|cJ (hs pins s2 σ H2 x y v ov iv u _ I2 r1 r2 r q2) λ_ s3 ⟨H3,I3,q3⟩=>(wpAny_release #[σ,H3,I3,q3])
def U2 (te:TE) (g:TG):TS:=λD σ H=>te σ H λx H1=>g x σ H1 D.nx
theorem Jp (he:PE X e te) (hg:PG X tg g) (hs:swapsWithSole [tg] e pos.line X.env=pure af:=by rfl) (hw:swappedStores [tg] e X.env=pure ah:=by rfl)
 (h1:(assignEach [tg] X.env).map (·.2)=[assign tg X.env]:=by rfl):PS X (.Assign [tg] e pos) (U2 te g):=by
 intro pins s σ H D I h;refine wpAny_Assign_stores (aX (he pins s σ H _ I h) λv s1 x H1 I1 r1 q1=>?_) hs hw;rw[h1];show cJ (hg pins s1 σ H1 x v _ I1 r1 q1) λ_ s2 q=>q
theorem mF (hN:X.N.Nodup) (hi:X.N[i]?=ae x) (hx:Loc X.env.scope x) (he:PE X e te) (hs:swapsWith e (ae<|.Name x pos') pos.line X.env=pure af:=by rfl) (hf:X.fn x=ag \/ X.env.scope.names.lookup x=ae .local:=by first|show .inl za|show .inr za|assumption) :
 PS X (.Assign [.Name x pos'] e pos) (U2 te<|U1 i):=by
 intro pins s σ H D I h;show wpAny_Assign_Name (aX (he pins s σ H _ I h) λv s1 y H1 I1 r1 q1=>(jP I1 hN hi hx r1 (λs2 I2=>#[_,H1,I2,q1]) hf)) hs
def Zo (i j:Nat) (ta:TA):TS:=λD σ H=>ta σ H λvs H1=>∃ v w,vs=[v,w] /\ D.nx ((σ.set i<|ae v).set j<|ae w) H1
theorem P3 (hc:X.calm=ag) (hN:X.N.Nodup) (hi:X.N[i]?=ae x) (hj:X.N[j]?=ae y) (yW:i≠j)
 (hx:X.env.scope.names.lookup x=ae .local) (hy:X.env.scope.names.lookup y=ae .local) (ha:PA X [a,b] ta)
 (hw:swappedStores [.Tuple [.Name x px,.Name y py] kt pt] (.Tuple [a,b] k2 uq) X.env=pure (ae [x,y]))
 (hs:swapsWithSole [.Tuple [.Name x px,.Name y py] kt pt] (.Tuple [a,b] k2 uq) pos.line X.env=pure af:=by rfl) :
 PS X (.Assign [.Tuple [.Name x px,.Name y py] kt pt] (.Tuple [a,b] k2 uq) pos) (Zo i j ta):=by
 intro pins s σ H D I h;refine ak<|HJ ?_;refine ak<|ax ?_;refine ak<|Tuple_<|nq (ha _ pins s σ H _ I h) λus s1 vs H1 I1 r1 q1=>?_;let#[v,w,e1,q1]:=q1;subst e1;obtain⟨u1,u2,rfl,rv,nI⟩:∃ u1 u2,us=[u1,u2] /\ RelV v u1 /\ RelV w u2:=by
  cases r1 with
  |cons p q=>
    cases q with
    |cons p' q'=>
      cases q';show#[_,_,rfl,p,p']
 refine qy ?_ (by change 2<=sizeLine;decide);have I2:Inv X pins σ H1 { s1 with heap:=s1.heap.push { cls:=.type "tuple",data:=.seq [u1,u2].toArray } }:=I1.kept λb o e=>aR _ e;rw[hw];refine ak<|ax ?_;refine ak<|sR<|ak<|unpackItems_tuple (items:=(List.toArray [u1,u2])) (I.ok.hd hc) (IsTup.new s1.heap _) λh' acN=>?_;have I3:=I2.kept (t':=s1.toks) λb o e=>acN b o (bS<|bb e) e;change wpAny _ _ (assignInOrder [λv=>bindName X.env y v,λv=>bindName X.env x v] [u2,u1] >>= λ_=>pure Flow.next) _ _ _;refine ak<|QV<|W3<|jP I3 hN hj (.inl hy) nI (λs2 I4=>?_)<|.inr hy;refine QV<|W3<|jP I4 hN hi (.inl hx) rv (λs3 I5=>Yo<|ax ?_)<|.inr hx;rw[List.set_comm _ _<|Ne.symm yW]at I5;show#[_,H1,I5,q1]
structure It where
 go:Nat->Hp->zb
 IC:Nat->Hp->V->Hp->zb
 stop:Nat->Hp->zb
def qk (X:Cx) (pins:List<|ai×Obj) (H:Hp) (b:ai):zb:=
 H b=ah /\ b≠X.env.locals /\ b∉X.fs /\ (b∈X.ex \/ X.s₀.heap.objs.size<=b) /\ (∀ x c,X.env.cells.lookup x=ae c->c≠b) /\ ∀ p∈X.pn++pins,p.1≠b
theorem Inv.xi (I:Inv X pins σ H s) (hb:s.heap.objs.size<=b) (hn:H' b=ah):qk X pins H' b:=by
 refine#[hn,yF<|dM I.lt hb,I.aco hb,.inr<|cu I.sz hb,λx c e z=>?_,λp hp z=>(absurd (dM (bb (I.pin p hp).1) (by rw[z];show hb))<|eW _)]
 .let#[v,q]:=I.cell x c e;show absurd (dM q.lt (by rw[z];show hb))<|eW _
structure Turn (P:cS) (w:cg) (K:PySem.W.Frag) (tg:aD) (J:It) (fp:List ai) (it:ai) (tn:Nat->aK->zb):zb where
 mem:it∈fp
 obj:∀ i h,tn i h->∀ b∈fp,∃ o,h.get? b=ae o /\ ∀ v,o.data≠.cell v
 keep:∀ i h h',tn i h->(∀ b∈fp,∀ o,h.get? b=ae o->h'.get? b=ae o)->tn i h'
 item:∀ (X:Cx),X.prog=P->X.w=w->X.K=K->X.calm=ag->∀ (i:Nat) (pins:List<|ai×Obj) (s:aI) (σ:St) (H:Hp) (E:au->aI->zb),Inv X pins σ H s->(∀ b∈fp,qk X pins H b)->tn i s.heap->J.go i H ->
  wpAny (model P w) X.A (pyNext<|.ref it) (λr s1=>∃ u,r=ae u /\
   wpAny (model P w) X.A (letOwnedTupleGo tg (.ref it) u) (λ_ s2=>∃ x H',Inv X pins σ H' s2 /\ RelV x u /\ J.IC i H x H' /\ tn (i+1) s2.heap /\ ∀ b∈fp,H' b=ah) E s1) E s
 done:∀ (X:Cx),X.prog=P->X.w=w->X.K=K->X.calm=ag->∀ (i:Nat) (pins:List<|ai×Obj) (s:aI) (σ:St) (H:Hp) (E:au->aI->zb),Inv X pins σ H s->(∀ b∈fp,qk X pins H b)->tn i s.heap->J.stop i H ->
  wpAny (model P w) X.A (pyNext<|.ref it) (λr s1=>r=ah /\ Inv X pins σ H s1) E s
 self:∀ (A:di) (i:Nat) (s:aI) (Q:au->aI->zb) (E:au->aI->zb),tn i s.heap->Q (.ref it) s->wpAny (model P w) A (pyIter<|.ref it) Q E s
abbrev TI:=St->Hp->(It->Hp->zb)->zb
def U3 (X:Cx) (pins:List<|ai×Obj) (σ:St) (tg:aD) (R:It->Hp->zb) (U4:au) (s2:aI):zb:=
 ∃ (it:ai) (fp:List ai) (tn:Nat->aK->zb) (J:It) (H':Hp),U4=.ref it /\ Inv X pins σ H' s2 /\ Turn X.prog X.w X.K tg J fp it tn /\ tn 0 s2.heap /\ (∀ b∈fp,qk X pins H' b) /\ R J H'
def PI (X:Cx) (tg iter:aD) (wi:TI):zb:=
 ∀ (pins) (s) (σ:St) (H) (R),Inv X pins σ H s->wi σ H R ->
  wpAny (model X.prog X.w) X.A (eval iter X.env) (λv s1=>wpAny (model X.prog X.w) X.A (pyIter v) (U3 X pins σ tg R) X.xe s1) X.xe s
theorem Cb (ho:s.heap.get? it=ae o) (hc:o.cls=.type n) (hd:o.data=.fields vs)
 (hn:["enumerate","zip","dict_itemiterator","dict_reverseitemiterator","odict_iterator","itertools.zip_longest","itertools.pairwise"].contains n=af) (hQ:Q () s):wpAny M A (letOwnedTupleGo tg (.ref it) u) Q E s:=by
 cases tg<;>first
  |show ax hQ
  |(cases u<;>first
   |show ax hQ
   | (refine ak (HK ho ?_)
      rw[hc,hd];change wpAny M A (if (["enumerate","zip","dict_itemiterator","dict_reverseitemiterator","odict_iterator","itertools.zip_longest","itertools.pairwise"].contains n&&vs[0]?==ae _)=ag then _ else _) Q E s;rw[if_neg (by intro h;rw[hn,pD]at h;cases h)];show ax hQ))
noncomputable def U5 (K:PySem.W.Frag) (a:ai):It:=
 #[λi H=>∃ xs x,bN K H a xs /\ xs[i]?=ae x,λi H x H'=>H'=H /\ ∀ xs,bN K H a xs->xs[i]?=ae x,λi H=>∃ xs,bN K H a xs /\ xs.length<=i]
noncomputable def U6 (K:PySem.W.Frag) (a:ai):It:=
 #[λi H=>∃ xs x,cK K H a xs /\ xs[i]?=ae x,λi H x H'=>H'=H /\ ∀ xs,cK K H a xs->xs[i]?=ae x,λi H=>∃ xs,cK K H a xs /\ xs.length<=i]
noncomputable def vw (lo:Int) (n:Nat):It:=#[λi _=>i<n,λi H x H'=>H'=H /\ x=.int (lo+i),λi _=>n<=i]
theorem Gn {K} (a it):Turn P w K tg (U5 K a) [it] it (λi h=>h.IsListIter it a i) where
 mem:=by simp
 obj:=λi h st b hb=>by
  have e:b=it:=by simpa using hb
  subst e;let#[o,e,c,d]:=st;show#[o,e,λv z=>by rw[d]at z;cases z]
 keep:=λi h h' st k=>st.at λo e=>k it (by simp) o e
 item:=by
  intro X hP hw hK hc i pins s σ H E I hf st hg;subst hP hw hK;let#[xs,x,hq,hx]:=hg;let#[its,rv,p,hz]:=I.list hq;let#[u,hu,ru]:=rv.get hx;let#[f0,f1,f2,f3,f4,f5]:=hf it (by simp);refine wpAny_pyNext_list_item st p.isList (by simpa using hu) λh' nZ sb=>?_;have I1:Inv X pins σ H { s with heap:=h' }:=I.turned (λb o hb e=>(sb.2 b hb).trans e) f0 f1 f3 f4 f5;let#[o,e,c,d]:=id nZ;show#[u,rfl,Cb e c d (by decide) #[x,H,I1,ru,#[rfl,λys hy=>by rw[I.Zk hy hq];show hx],nZ,λb hb=>(hf b hb).1]]
 done:=by
  intro X hP hw hK hc i pins s σ H E I hf st hg;subst hP hw hK;let#[xs,hq,hx]:=hg;let#[its,rv,p,hz]:=I.list hq;let#[f0,f1,f2,f3,f4,f5]:=hf it (by simp);have hl:=rv.length;show wpAny_pyNext_list_end (I.ok.hd hc) st p.isList (by simp;lia) λh' eb=>#[rfl,I.turned (λb o hb e=>eb b o hb e) f0 f1 f3 f4 f5]
 self:=λ_ _ _ _ _ st h=>wpAny_pyIter_listiter st h
theorem Db {K} (a it):Turn P w K tg (U6 K a) [it] it (λi h=>h.IsTupleIter it a i) where
 mem:=by simp
 obj:=λi h st b hb=>by
  have e:b=it:=by simpa using hb
  subst e;let#[o,e,c,d]:=st;show#[o,e,λv z=>by rw[d]at z;cases z]
 keep:=λi h h' st k=>st.at λo e=>k it (by simp) o e
 item:=by
  intro X hP hw hK hc i pins s σ H E I hf st hg;subst hP hw hK;let#[xs,x,hq,hx]:=hg;let#[its,rv,p,hz]:=I.tuple hq;let#[u,hu,ru]:=rv.get hx;let#[f0,f1,f2,f3,f4,f5]:=hf it (by simp);refine wpAny_pyNext_tuple_item st (p) (by simpa using hu) λh' nZ sb=>?_;have I1:Inv X pins σ H { s with heap:=h' }:=I.turned (λb o hb e=>(sb.2 b hb).trans e) f0 f1 f3 f4 f5;let#[o,e,c,d]:=id nZ;show#[u,rfl,Cb e c d (by decide) #[x,H,I1,ru,#[rfl,λys hy=>by rw[I.Zl hy hq];show hx],nZ,λb hb=>(hf b hb).1]]
 done:=by
  intro X hP hw hK hc i pins s σ H E I hf st hg;subst hP hw hK;let#[xs,hq,hx]:=hg;let#[its,rv,p,hz]:=I.tuple hq;let#[f0,f1,f2,f3,f4,f5]:=hf it (by simp);have hl:=rv.length;show wpAny_pyNext_tuple_end (I.ok.hd hc) st (p) (by simp;lia) λh' eb=>#[rfl,I.turned (λb o hb e=>eb b o hb e) f0 f1 f3 f4 f5]
 self:=λ_ _ _ _ _ st h=>wpAny_pyIter_tupleiter st h
theorem oV {K} (it) (lo) (n):Turn P w K tg (vw lo n) [it] it (λi h=>IsRangeIter h it (lo+(i)*1) ((n)-(i)) 1) where
 mem:=by simp
 obj:=λi h st b hb=>by
  have e:b=it:=by simpa using hb
  subst e;show#[_,st,λv z=>by
   have z':=z;cases z']
 keep:=λi h h' st k=>k it (by simp) _ st
 item:=by
  intro X hP hw hK hc i pins s σ H E I hf st hg;subst hP hw hK;let#[f0,f1,f2,f3,f4,f5]:=hf it (by simp);have W:=Walks.range (prog:=X.prog) (w:=X.w) (I.ok.hd hc) it lo 1 n;refine W.item i s _ _ hg st λv h' tk hv nZ kk=>?_;let#[t,rfl]:=hv;have I1:Inv X pins σ H { s with heap:=h',toks:=tk }:=I.turned (λb o hb e=>kk b o (by simpa using hb) e) f0 f1 f3 f4 f5;refine#[_,rfl,Cb nZ za za (by decide) #[.int<|lo+i,H,I1,#[t,?_],#[rfl,rfl],nZ,λb hb=>(hf b hb).1]];rw[YI]
 done:=by
  intro X hP hw hK hc i pins s σ H E I hf st hg;let#[f0,f1,f2,f3,f4,f5]:=hf it (by simp);show wpAny_pyNext_range_end (I.ok.hd hc) st (by have:n<=i:=hg;lia) λh' eb=>#[rfl,I.turned (λb o hb e=>eb b o hb e) f0 f1 f3 f4 f5]
 self:=λ_ _ _ _ _ st h=>wpAny_pyIter_rangeiter st h

theorem Jq {lo hi}(I:Inv X pins σ H s) (h1:-(2 ^ 62)<=lo) (h2:lo<2 ^ 62) (h3:-(2 ^ 62)<=hi) (h4:hi<2 ^ 62)
 (q:R (vw lo (hi-lo).toNat) H):wpAny (model X.prog X.w) X.A (pyIter<|.ref s.heap.objs.size) (U3 X pins σ tg R) E { s with heap:=s.heap.push { cls:=.type "range",data:=.fields (List.toArray [.int lo t,.int hi u,.int 1 v]) },toks:=tk }:=by
 refine W4 (IsRange.new ..) (small_one h1 h2 h3 h4) ?_;have I1:Inv X pins σ H { s with heap:=s.heap.push { cls:=.type "range",data:=.fields (List.toArray [.int lo t,.int hi u,.int 1 v]) },toks:=tk }:=I.kept λb o e=>aR _ e;refine#[(s.heap.push { cls:=.type "range",data:=.fields (List.toArray [.int lo t,.int hi u,.int 1 v]) }).objs.size,[(s.heap.push { cls:=.type "range",data:=.fields (List.toArray [.int lo t,.int hi u,.int 1 v]) }).objs.size],_,_,H,rfl,
  I1.kept λb o e=>aR _ e,oV _ lo (hi-lo).toNat,?_,λb hb=>?_,q]
 .have e1:lo+((0))*1=lo:=by simp
  have e2:(((hi-lo).toNat))-((0))=Builtin.Range.rangeSize lo hi 1:=by rw[W5];split<;>lia
  change IsRangeIter _ _ (lo+((0))*1) ((((hi-lo).toNat))-((0))) 1;rw[e1,e2];show bD _ za
 .have e:b=(s.heap.push { cls:=.type "range",data:=.fields (List.toArray [.int lo t,.int hi u,.int 1 v]) }).objs.size:=by simpa using hb
  subst e;show I1.xi (aB _)<|I1.ay.fresh<|aB _
def acO (ta:TA):TI:=λσ H R=>ta σ H λvs H1=>∃ j,vs=[.int j] /\ -(2 ^ 62)<=j /\ j<2 ^ 62 /\ R (vw 0 j.toNat) H1
theorem Go (hg:Gl X "range") (hm:X.mg "range"=ah) (ha:PA X [a] ta) (hs:starEach [a] X.env=[(af,eval a X.env)]:=by rfl):PI X tg (.Call (.Name "range" p) [a] [] pos) (acO ta):=by
 intro pins s σ H R I h;refine Call_<|ja I hg hm boot_range<|Ig (nq (ha pos pins s σ H _ I h) λus s1 vs H1 I1 r1 q1=>?_) hs za;let#[j,e,q1,q2,q]:=q1;subst e;cases r1 with
 |cons r rr=>
   cases rr;let#[t,rfl]:=r;show call_range_1<|Jq I1 (by lia) (by lia) q1 q2 (by simpa using q)
def Zp (wi:TI) (g:TG) (tb:TS):TS:=λD σ H=>wi σ H λJ H1=>∃ W:Nat->Nat->St->Hp->zb,(∃ m,W 0 m σ H1) /\ ∀ i m σ H,W i m σ H ->
 (J.stop i H /\ D.nx σ H) \/ (J.go i H /\ ∃ N,(∀ σ' H',N σ' H'->∃ m',m'<m /\ W (i+1) m' σ' H') /\ ∀ x H',J.IC i H x H'->g x σ H' λσ2 H2=>tb { D with nx:=N,ct:=N,bk:=D.nx } σ2 H2)
noncomputable def yX (fp:List ai) (h:aK):List (ai×Obj):=fp.filterMap λb=>(h.get? b).map λo=>(b,o)
theorem jp (hb:b∈fp) (e:h.get? b=ae o):(b,o)∈yX fp h:=List.mem_filterMap.mpr #[b,hb,by rw[e];rfl]
theorem Gp (hp:p∈yX fp h):p.1∈fp /\ h.get? p.1=ae p.2:=by
 let#[b,hb,e]:=List.mem_filterMap.mp hp;cases q:h.get? b with
 |none=>rw[q]at e;cases e
 |some o=>
   rw[q]at e;have e':=Option.some.inj e;subst e';show#[hb,q]
theorem Inv.pinned (I:Inv X pins σ H s) (hf:∀ b∈fp,qk X pins H b) (ho:∀ b∈fp,∃ o,s.heap.get? b=ae o /\ ∀ v,o.data≠.cell v):Inv X (pins++yX fp s.heap) σ H s:=
 I.UY λp hp=>(dZ.mp hp).elim (λz=>I.pin p<|qh _ z) λz=>by
  let#[hb,e]:=Gp z;let#[f0,f1,f2,_]:=hf p.1 hb;let#[o,e',d]:=ho p.1 hb;rw[e]at e';cases e';show#[e,f0,f1,f2,d]
theorem Inv.ID (I:Inv X (pins++pl) σ H s):Inv X pins σ H s:=I.UY λp hp=>I.pin p<|qh _<|nU _ hp
theorem P4 (hp:PassesOwn (model X.prog X.w) X.A X.env X.xe) (hc:X.calm=ag) (hi:PI X tg iter wi) (hg:PG X tg g) (hb:cX X body tb)
 (hs:∀ x,foldedSetIterable iter X.env x=pure x:=by intro _;rfl):PS X (.For tg iter body [] pos) (Zp wi g tb):=by
 intro pins s σ H D I h;refine wpAny_For (cJ (hi pins s σ H _ I h) λv s1 h1=>cJ h1 λU4 s2 h2=>?_) hs;let#[it,fp,tn,J,H2,e,I2,T,IE,f2,W,#[m0,w0],turn]:=h2;subst e;have stat:∀ {H'},(∀ b∈fp,H' b=ah)->∀ b∈fp,qk X pins H' b:=λhn b hb=>#[hn b hb,(f2 b hb).2];refine codeAny_forLoop_any (λn s'=>∃ i σ' H',Inv X pins σ' H' s' /\ tn i s'.heap /\ (∀ b∈fp,H' b=ah) /\ W i n σ' H') ?_ m0 #[0,σ,H2,I2,IE,λb hb=>(f2 b hb).1,w0];rintro n s3 ⟨i,σ3,H3,I3,yY,Zq,w3⟩;rcases turn i n σ3 H3 w3 with⟨stop,qn⟩|⟨go,N,hN,step⟩
 .refine yz hp<|cJ (T.done X za za za hc i pins s3 σ3 H3 X.xe I3 (stat Zq) yY stop) ?_;rintro r s4 ⟨hr,I4⟩;subst hr;show HI #[σ3,H3,I4,qn]
 .refine yz hp<|cJ (T.item X za za za hc i pins s3 σ3 H3 X.xe I3 (stat Zq) yY go) ?_;rintro r s4 ⟨u,hr,h4⟩;subst hr;refine yz hp<|cJ h4 ?_;rintro _ s5 ⟨x,H5,I5,r5,y5,xj,IG⟩;have acP:=I5.pinned (stat IG)<|T.obj _ _ xj;refine yz hp<|cJ (hg _ s5 σ3 H5 x u _ acP r5<|step x H5 y5) ?_;rintro _ s6 ⟨σ6,H6,I6,q6⟩;refine yz hp<|cJ (hb _ s6 σ6 H6 _ I6 q6) λf s7 q7=>?_;have again:∀ {σ7}{H7},Inv X (pins++yX fp s5.heap) σ7 H7 s7->N σ7 H7->∃ m,m<n /\ ∃ i σ' H',Inv X pins σ' H' s7 /\ tn i s7.heap /\ (∀ b∈fp,H' b=ah) /\ W i m σ' H':=λ{σ7 H7} I7 n7=>by
   let#[m',hm,w7]:=hN σ7 H7 n7;refine#[m',hm,i+1,σ7,H7,I7.ID,T.keep _ _ _ xj λb hb o e=>(I7.pin (b,o)<|qh _<|qh _<|jp hb e).1,λb hb=>?_,w7];let#[o,e,d]:=T.obj _ _ xj b hb;show(I7.pin (b,o)<|qh _<|qh _<|jp hb e).2.1
  cases f with
  |brk=>let#[σ7,H7,I7,q7]:=q7;show#[σ7,H7,I7.ID,q7]
  |ret v=>let#[x7,σ7,H7,I7,r7,q7]:=q7;show#[x7,σ7,H7,I7.ID,r7,q7]
  |_=>let#[σ7,H7,I7,n7]:=q7;show again I7 n7
abbrev R2:=V->V->Hp->VK->zb
def bT (X:Cx) (f:au->au->Sem au) (r:R2):zb:=
 ∀ (pins) (s) (σ:St) (H) (x y) (v u) (Q),Inv X pins σ H s->RelV x v->RelV y u->r x y H Q ->
  wpAny (model X.prog X.w) X.A (f v u) (EP X pins σ Q) X.xe s
def U7 (X:Cx) (f:au->Sem au) (r:V->Hp->VK->zb):zb:=
 ∀ (pins) (s) (σ:St) (H) (x) (v) (Q),Inv X pins σ H s->RelV x v->r x H Q ->
  wpAny (model X.prog X.w) X.A (f v) (EP X pins σ Q) X.xe s
def pK (X:Cx) (f:au) (r:List V->Hp->VK->zb):zb:=
 ∀ (pins) (s) (σ:St) (H) (xs) (us) (Q),Inv X pins σ H s->Vals xs us->r xs H Q ->
  wpAny (model X.prog X.w) X.A (call f us) (EP X pins σ Q) X.xe s
def yZ (r:R2) (ta tb:TE):TE:=λσ H Q=>ta σ H λx H1=>tb σ H1 λy H2=>r x y H2 Q
def acQ (r:V->Hp->VK->zb) (ta:TE):TE:=λσ H Q=>ta σ H λx H1=>r x H1 Q
def rI (C:Int->Int->zb) (g:Int->Int->V):R2:=λx y H Q=>∃ i j,x=.int i /\ y=.int j /\ C i j /\ Q (g i j) H
def vz (g:Int->Int->V):R2:=λx y H Q=>∃ i j,x=.int i /\ y=.int j /\ Q (g i j) H
def rU (g:Int->V):V->Hp->VK->zb:=λx H Q=>∃ i,x=.int i /\ Q (g i) H

theorem U8 (ha:PE X a ta) (hb:PE X b tb) {R:V->V->Hp->zb}(I:Inv X pins σ H s)
 (h:ta σ H λx H1=>tb σ H1 λy H2=>R x y H2) {f:au->au->Sem au}
 (hf:∀ v u s2 x y H2,Inv X pins σ H2 s2->RelV x v->RelV y u->R x y H2->wpAny (model X.prog X.w) X.A (f v u) Q X.xe s2) :
 wpAny (model X.prog X.w) X.A (eval a X.env) (λv s₁=>wpAny (model X.prog X.w) X.A (eval b X.env) (λu s₂=>wpAny (model X.prog X.w) X.A (f v u) Q X.xe s₂) X.xe s₁) X.xe s:=by
 refine aX (ha pins s σ H _ I h) λv s1 x H1 I1 r1 q1=>?_;show aX (hb pins s1 σ H1 _ I1 q1) λu s2 y H2 I2 r2 q2=>(hf v u s2 x y H2 I2 r1 r2 q2)
theorem Cc (ho:bT X (binaryOp op) r) (ha:PE X a ta) (hb:PE X b tb):PE X (.BinOp a op b pos) (yZ r ta tb):=by
 intro pins s σ H Q I h;show wpAny_BinOp<|U8 ha hb I h λv u s2 x y H2 I2 rx ry q=>ho pins s2 σ H2 x y v u Q I2 rx ry q
theorem O7 (ho:U7 X (unaryOp op) r) (ha:PE X a ta):PE X (.UnaryOp op a pos) (acQ r ta):=by
 intro pins s σ H Q I h;show UnaryOp_<|aX (ha pins s σ H _ I h) λv s1 x H1 I1 r1 q1=>ho pins s1 σ H1 x v Q I1 r1 q1
theorem IH {g:Int->Int->Int}
 (rule:∀ (i j) (t u) (s) (Q) (E),C i j->Q (.int (g i j) s.toks) { s with toks:=s.toks+1 }->wpAny (model X.prog X.w) X.A (f (.int i t)<|.int j u) Q E s) :
 bT X f (rI C λi j=>.int<|g i j):=by
 intro pins s σ H x y v u Q I rx ry h;let#[i,j,rfl,rfl,hc,q]:=h;let#[t,rfl]:=rx;let#[t',rfl]:=ry;show rule i j t t' s _ _ hc #[.int _,H,I.tok _,#[_,rfl],q]
theorem Zr {g:Int->Int->Int}
 (rule:∀ (i j) (t u) (s) (Q) (E),Q (.int (g i j) s.toks) { s with toks:=s.toks+1 }->wpAny (model X.prog X.w) X.A (f (.int i t)<|.int j u) Q E s) :
 bT X f (vz λi j=>.int<|g i j):=by
 intro pins s σ H x y v u Q I rx ry h;let#[i,j,rfl,rfl,q]:=h;let#[t,rfl]:=rx;let#[t',rfl]:=ry;show rule i j t t' s _ _ #[.int _,H,I.tok _,#[_,rfl],q]
theorem II {g:Int->Int->Bool}
 (rule:∀ (i j) (t u) (s) (Q) (E),Q (.bool<|g i j) s->wpAny (model X.prog X.w) X.A (f (.int i t)<|.int j u) Q E s) :
 bT X f (vz λi j=>.bl<|g i j):=by
 intro pins s σ H x y v u Q I rx ry h;let#[i,j,rfl,rfl,q]:=h;let#[t,rfl]:=rx;let#[t',rfl]:=ry;show rule i j t t' s _ _ #[.bl _,H,I,rfl,q]
def xk (i j:Int):zb:=0<=j /\ j<=1000000 /\ i.natAbs<2 ^ 64
def xm (i j:Int):zb:=(-(2 ^ 64)<i /\ i<2 ^ 64) \/ (-(2 ^ 64)<j /\ j<2 ^ 64)
theorem xm.ok (h:xm i j):IntMulOk i j:=by
 rcases h with⟨h1,h2⟩|⟨h1,h2⟩
 .show .of_left<|W6 h1 h2
 .show .of_right<|W6 h1 h2
theorem P5:bT X (binaryOp .Add) (vz λi j=>.int<|i+j):=Zr λ_ _ _ _ _ _ _ q=>add_int q
theorem P6:bT X (binaryOp .Mult) (rI xm λi j=>.int<|i*j):=IH λ_ _ _ _ _ _ _ hc q=>mul_int q hc.ok
theorem acR {g:Int->Int}
 (rule:∀ (i) (t) (s) (Q) (E),Q (.int (g i) s.toks) { s with toks:=s.toks+1 }->wpAny (model X.prog X.w) X.A (f<|.int i t) Q E s) :
 U7 X f (rU λi=>.int<|g i):=by
 intro pins s σ H x v Q I rx h;let#[i,rfl,q]:=h;let#[t,rfl]:=rx;show rule i t s _ _ #[.int _,H,I.tok _,#[_,rfl],q]
theorem Jr:U7 X (unaryOp .USub) (rU λi=>.int<|-i):=acR λ_ _ _ _ _ q=>neg_int q
noncomputable def Zs:V->V->Bool
 |.non,.non=>ag|.non,.int _=>ag|.int _,.non=>ag|.non,.bl _=>ag|.bl _,.non=>ag|.non,.str _=>ag|.str _,.non=>ag
 |.int _,.int _=>ag|.bl _,.bl _=>ag|.str _,.str _=>ag|.nG _,.nG _=>ag
 |.int _,.str _=>ag|.str _,.int _=>ag|.bl _,.str _=>ag|.str _,.bl _=>ag
 |_,_=>af
def Zt:R2:=λx y H Q=>Zs x y=ag /\ Q (.bl<|decide (x=y)) H
def Zu:R2:=λx y H Q=>Zs x y=ag /\ Q (.bl<|!decide (x=y)) H
theorem D6:decide (V.int i=V.int j)=(i==j):=by
 rw[qf];simp
theorem Js:decide (V.bl i=V.bl j)=(i==j):=by
 rw[qf];simp
theorem D7:decide (V.str i=V.str j)=(i==j):=by
 rw[qf];simp
theorem D8:decide (V.nG i=V.nG j)=(i.toList==j.toList):=by
 rw[qf];cases i;cases j;simp

theorem f8 (I:Inv X pins σ H s) (q:Q (.bl k) H) (e:k=k'):EP X pins σ Q (.bool k') s:=by
 subst e;show#[.bl k,H,I,rfl,q]
theorem SZ:bT X (compareOp .Eq) Zt:=by
 intro pins s σ H x y v u Q I rx ry h;let#[hs,q]:=h;cases x with
 |non=>
   cases rx;cases y with
   |non=>cases ry;show abN<|f8 I q (by simp)
   |bl j=>cases ry;show abO<|f8 I q (by simp)
   |int j=>let#[t',rfl]:=ry;show abP<|f8 I q (by simp)
   |str j=>let#[t',rfl]:=ry;show abQ<|f8 I q (by simp)
   |_=>show absurd (hs) dO
 |bl i=>
   cases rx;cases y with
   |non=>cases ry;show abR<|f8 I q (by simp)
   |bl j=>cases ry;show eq_bool<|f8 I q Js
   |str j=>let#[t',rfl]:=ry;show ab1<|f8 I q (by simp)
   |_=>show absurd (hs) dO
 |int i=>
   let#[t,rfl]:=rx;cases y with
   |non=>cases ry;show abS<|f8 I q (by simp)
   |int j=>let#[t',rfl]:=ry;show eq_int<|f8 I q D6
   |str j=>let#[t',rfl]:=ry;show ab2<|f8 I q (by simp)
   |_=>show absurd (hs) dO
 |str i=>
   let#[t,rfl]:=rx;cases y with
   |non=>cases ry;show abT<|f8 I q (by simp)
   |bl j=>cases ry;show ab3<|f8 I q (by simp)
   |int j=>let#[t',rfl]:=ry;show ab4<|f8 I q (by simp)
   |str j=>let#[t',rfl]:=ry;show eq_str<|f8 I q D7
   |_=>show absurd (hs) dO
 |nG i=>
   let#[t,rfl]:=rx;cases y with
   |nG j=>let#[t',rfl]:=ry;show PySem.W.eq_bytes<|f8 I q D8
   |_=>show absurd (hs) dO
 |_=>cases y<;>show absurd (show af=ag from hs) dO
theorem O8:bT X (compareOp .NotEq) Zu:=by
 intro pins s σ H x y v u Q I rx ry h;let#[hs,q]:=h;cases x with
 |non=>
   cases rx;cases y with
   |non=>cases ry;show abU<|f8 I q (by simp)
   |bl j=>cases ry;show abV<|f8 I q (by simp)
   |int j=>let#[t',rfl]:=ry;show abW<|f8 I q (by simp)
   |str j=>let#[t',rfl]:=ry;show abX<|f8 I q (by simp)
   |_=>show absurd (hs) dO
 |bl i=>
   cases rx;cases y with
   |non=>cases ry;show abY<|f8 I q (by simp)
   |bl j=>cases ry;show ne_bool<|f8 I q<|congrArg not Js
   |str j=>let#[t',rfl]:=ry;show ab5<|f8 I q (by simp)
   |_=>show absurd (hs) dO
 |int i=>
   let#[t,rfl]:=rx;cases y with
   |non=>cases ry;show abZ<|f8 I q (by simp)
   |int j=>let#[t',rfl]:=ry;show ne_int<|f8 I q<|congrArg not D6
   |str j=>let#[t',rfl]:=ry;show ab6<|f8 I q (by simp)
   |_=>show absurd (hs) dO
 |str i=>
   let#[t,rfl]:=rx;cases y with
   |non=>cases ry;show ab0<|f8 I q (by simp)
   |bl j=>cases ry;show ab7<|f8 I q (by simp)
   |int j=>let#[t',rfl]:=ry;show ab8<|f8 I q (by simp)
   |str j=>let#[t',rfl]:=ry;show ne_str<|f8 I q<|congrArg not D7
   |_=>show absurd (hs) dO
 |nG i=>
   let#[t,rfl]:=rx;cases y with
   |nG j=>let#[t',rfl]:=ry;show PySem.W.ne_bytes<|f8 I q<|congrArg not D8
   |_=>show absurd (hs) dO
 |_=>cases y<;>show absurd (show af=ag from hs) dO
theorem S0:bT X (compareOp .Lt) (vz λi j=>.bl<|decide (i<j)):=II λ_ _ _ _ _ _ _ q=>lt_int q
theorem bT.or (h:bT X f r) (h':bT X f r'):bT X f (λx y H Q=>r x y H Q \/ r' x y H Q):=by
 intro pins s σ H x y v u Q I rx ry q;rcases q with q|q
 .show h pins s σ H x y v u Q I rx ry q
 .show h' pins s σ H x y v u Q I rx ry q
theorem acS (b) (h:op≠.In:=by decide) (h2:op≠.NotIn:=by decide):behindInMarks op b=af:=by
 have e1:(op==CmpOp.In)=af:=by cases op<;>first|rfl|show absurd za h
 have e2:(op==CmpOp.NotIn)=af:=by cases op<;>first|rfl|show absurd za h2
 cases b<;>simp[behindInMarks,e1,e2]
theorem MV (ho:bT X (compareOp op) r) (ha:PE X a ta) (hb:PE X b tb) (hm:behindInMarks op b=af):PE X (.Compare a [op] [b] pos) (yZ r ta tb):=by
 intro pins s σ H Q I h;show WY (U8 ha hb I h λv u s2 x y H2 I2 rx ry q=>ho pins s2 σ H2 x y v u Q I2 rx ry q) hm
noncomputable def Zv (t:TE):TT:=λσ H Q=>t σ H λx H'=>∃ k,x=.bl k /\ Q k H'
theorem D9 (ho:bT X (compareOp op) r) (ha:PE X a ta) (hb:PE X b tb) (hm:behindInMarks op b=af):PT X (.Compare a [op] [b] pos) (Zv<|yZ r ta tb):=by
 intro pins s σ H Q I h;refine WZ (aX (ha pins s σ H _ I h) λv s1 x H1 I1 r1 q1=>aX (hb pins s1 σ H1 _ I1 q1) λu s2 y H2 I2 r2 q2=>aX (ho pins s2 σ H2 x y v u _ I2 r1 r2 q2) λc s3 z H3 I3 r3 hh=>?_) hm;let#[k,e,q3]:=hh;subst e;cases r3;show qb #[H3,I3,q3]
def U9 (r r':R2) (ta tb tc:TE):TE:=λσ H Q=>ta σ H λx H1=>tb σ H1 λy H2=>r x y H2 λz H3=>∃ k,z=.bl k /\
 (if k=ag then tc σ H3 λw' H4=>r' y w' H4 Q else Q (.bl af) H3)
theorem Jt (ho:bT X (compareOp op) r) (d6:bT X (compareOp kz) r') (ha:PE X a ta) (hb:PE X b tb) (hc:PE X c tc)
 (hm:lastMarks [op,kz] [b,c]=af:=by with_unfolding_all rfl):PE X (.Compare a [op,kz] [b,c] pos) (U9 r r' ta tb tc):=by
 intro pins s σ H Q I h;refine Compare_chain (aX (ha pins s σ H _ I h) λv s1 x H1 I1 r1 q1=>chain_link<|aX (hb pins s1 σ H1 _ I1 q1) λu s2 y H2 I2 r2 q2=>aX (ho pins s2 σ H2 x y v u _ I2 r1 r2 q2) λd s3 z H3 I3 r3 hh=>?_) hm;let#[k,e,q3]:=hh;subst e;cases r3;refine qb ?_;cases k with
 |false=>show ite_ff #[.bl af,H3,I3,rfl,q3]
 |true=>show ite_tt<|chain_last<|aX (hc pins s3 σ H3 _ I3 q3) λw' s4 z' H4 I4 r4 q4=>d6 pins s4 σ H4 y z' u w' Q I4 r2 r4 q4
theorem Ju (ho:bT X (compareOp op) r) (d6:bT X (compareOp kz) r') (ha:PE X a ta) (hb:PE X b tb) (hc:PE X c tc)
 (hm:lastMarks [op,kz] [b,c]=af:=by with_unfolding_all rfl):PT X (.Compare a [op,kz] [b,c] pos) (Zv<|U9 r r' ta tb tc):=by
 intro pins s σ H Q I h;refine isTrue_chain (aX (ha pins s σ H _ I h) λv s1 x H1 I1 r1 q1=>test_link<|aX (hb pins s1 σ H1 _ I1 q1) λu s2 y H2 I2 r2 q2=>aX (ho pins s2 σ H2 x y v u _ I2 r1 r2 q2) λd s3 z H3 I3 r3 hh=>?_) hm;let#[k,e,q3]:=hh;subst e;cases r3;refine qb ?_;cases k with
 |false=>
   let#[k',e',q']:=q3;cases e';show ite_ff #[H3,I3,q']
 |true=>
   refine ite_tt<|test_last<|aX (hc pins s3 σ H3 _ I3 q3) λw' s4 z' H4 I4 r4 q4=>aX (d6 pins s4 σ H4 y z' u w' _ I4 r2 r4 q4) λd' s5 z2 H5 I5 r5 hh=>?_;let#[k2,e2,q5]:=hh;subst e2;cases r5;show qb #[H5,I5,q5]
theorem xn:(sizeLine)<2 ^ 63:=by decide
theorem Dc:bT X (binaryOp .Add) (λx y H Q=>∃ i j,x=.str i /\ y=.str j /\ i.length+j.length<=sizeLine /\ Q (.str<|i++j) H):=by
 intro pins s σ H x y v u Q I rx ry h;let#[i,j,rfl,rfl,hz,q]:=h;let#[t,rfl]:=rx;let#[t',rfl]:=ry;show add_str (λt' tk=>#[.str _,H,I.tok _,#[_,rfl],q]) hz
theorem vals1 (r:Vals [x] us):∃ u,us=[u] /\ RelV x u:=by
 cases r with
 |cons r1 r2=>cases r2;show#[_,rfl,r1]
theorem vals2 (r:Vals [x,y] us):∃ u w',us=[u,w'] /\ RelV x u /\ RelV y w':=by
 cases r with
 |cons r1 r2=>
   cases r2 with
   |cons r3 r4=>cases r4;show#[_,_,rfl,r1,r3]
structure xo (h:aK) (x dx C:ai) (mA:Str->Option au):zb where
 obj:h.get? x=ae (PySem.W.instObj C dx)
 ns:h.Ns1 dx mA
 ne:dx≠x
theorem Gq {h:aK}(n:h.Ns1 dx mA):∃ od,h.get? dx=ae od /\ ∀ name,PySem.W.lookIn name od=ae (mA name):=by
 let#[o,es,ep,ho,hd,hk,_,hm]:=n;refine#[o,ho,λname=>?_];have e:=hm name;unfold nsFind findBy at e;rw[<-Array.find?_toList]at e;unfold PySem.W.lookIn;rw[hd];dsimp only;split
 .ext y q;rw[q]at e;show congrArg ae e
 .ext q;rw[q]at e;have a:es.toList.any (·.refKey)=af:=by
   rw[QF];intro y hy;let#[z,t,Va]:=hk y<|Array.mem_toList_iff.mp hy;simp[DictEntry.refKey,Va]
  rw[if_neg (by rw[a];show dO)];show congrArg ae e
theorem xo.look (I:xo h x dx C mA):∃ od,PySem.W.InstAt h x (PySem.W.instObj C dx) C (ae od) /\ ∀ name,PySem.W.lookIn name od=ae (mA name):=
 let ⟨od,ho,hl⟩:=Gq I.ns
 #[od,#[I.obj,rfl,rfl,ho],hl]
section
variable {K:PySem.W.Frag}
theorem Jv (X:K.In s.heap) (I:xo s.heap x dx C mA) (hg:PySem.W.plainGet K C name=ag)
 (hf:PySem.W.findIn K (.ref C) name=ae (ae<|.ref f)) (ht:PySem.W.isFn K (.ref f)=ag) (hv:mA name=ah) (h:Q (.ref f,[.ref x]) s) :
 wpAny (model prog w) A (getMethod (.ref x) name pl) Q E s:=by
 let#[od,J,hl]:=I.look;show PySem.W.method_fn X J (UB hg).1 (UB hg).2 hf (beq_iff_eq.mp ht) (by change (PySem.W.lookIn name od).map _=ae af;rw[hl,hv];rfl) h
theorem MW (X:K.In s.heap) (I:xo s.heap x dx C mA)
 (hs:PySem.W.findIn K (.ref C) "__setattr__"=ae (ae<|.builtin "object.__setattr__")) (hp:PySem.W.plainOver K C=ag) (ht:PySem.W.takerIn K C name=ae ah) (hh:PySem.W.hasDictIn K C=ag)
 (hw:PySem.Within mA ns) (hsz:ns.length<=sizeLine)
 (h:∀ h',xo h' x dx C (λy=>if y=name then ae v else mA y)->Heap.SameBut dx s.heap h'->Q () { s with heap:=h',toks:=s.toks+2 }) :
 wpAny (model prog w) A (setAttr (.ref x) name v) Q E s:=by
 let#[od,J,hl]:=I.look;refine PySem.W.set_plain X J hs<|PySem.W.osa_open X J hp ht λb=>?_;let#[cd,hc,rT]:=PySem.W.any_some hh;refine ak<|ax<|ak<|ak<|W7 I.obj<|ak<|PySem.W.Looks.here (PySem.W.looks_clsIn X hc) ?_;rw[rT];refine ax<|ak<|ax<|ak ?_;refine wpAny_nsSet1 I.ns λh' Zw hZ=>?_;let#[oD,ag3,ag4,acT,acU,tj]:=Zw.count<|PySem.Within.cons name v hw;show ak<|wpAny_lookBehind acT (by rw[acU];show pastItsLine_dict (cu tj (by rw[a6];lia)))<|ax<|h _ #[(hZ.2 _<|Ne.symm I.ne).trans I.obj,Zw,I.ne] hZ
end
noncomputable def kA (f:Str) (v:V):List (Str×V)->List (Str×V)
 |[]=>[(f,v)]
 |(g,x)::r=>if g=f then (g,v)::r else (g,x)::kA f v r
theorem mU (f g) (v):∀ fs,(kA f v fs).lookup g=if g=f then ae v else fs.lookup g
 | []=>by
   change List.lookup g [(f,v)]=_;by_cases h:g=f
   .simp[List.lookup,(beq_iff_eq.mpr h),if_pos h]
   .simp[List.lookup,(beq_eq_false_iff_ne.mpr h),if_neg h]
 | (k,x)::r=>by
   rw[show kA f v _=(if k=f then (k,v)::r else (k,x)::kA f v r) from rfl];by_cases hk:k=f
   .rw[if_pos hk];by_cases h:g=k
    .simp[List.lookup,(beq_iff_eq.mpr h),if_pos<|h.trans hk]
    .simp[List.lookup,(beq_eq_false_iff_ne.mpr h),if_neg λe:g=f=>h<|e.trans hk.symm]
   .rw[if_neg hk];by_cases h:g=k
    .simp[List.lookup,(beq_iff_eq.mpr h),if_neg λe:g=f=>hk<|h.symm.trans e]
    .simp[List.lookup,(beq_eq_false_iff_ne.mpr h)];show(mU f g v r)
theorem mG (f) (v):∀ fs,f∈(kA f v fs).map (·.1) /\ ∀ g,g∈fs.map (·.1)->g∈(kA f v fs).map (·.1)
 |[]=>#[by simp[kA],λg h=>by simp at h]
 | (k,x)::r=>by
   let#[i1,i2]:=mG f v r;rw[show kA f v _=(if k=f then (k,v)::r else (k,x)::kA f v r) from rfl];by_cases hk:k=f
   .subst hk;show#[by simp,λg h=>by simpa using h]
   .rw[if_neg hk];refine#[?_,λg h=>?_]
    .show bC _ i1
    .rcases a9.mp h with e|e
     .show a9.mpr<|.inl e
     .show bC _<|i2 g e
theorem mV (f) (v):∀ fs,(kA f v fs).length<=fs.length+1
 |[]=>by simp[kA]
 | (k,x)::r=>by
   have ih:=mV f v r;rw[show kA f v _=(if k=f then (k,v)::r else (k,x)::kA f v r) from rfl];by_cases hk:k=f
   .rw[if_pos hk,a6,a6];lia
   .rw[if_neg hk,a6,a6];lia
theorem kM.some_of (r:kM (ae v) o):∃ u,o=ae u /\ RelV v u:=by
 cases o with
 |none=>show(r).elim
 |some u=>show#[u,rfl,r]
theorem kM.none_of (r:kM ah o):o=ah:=by
 cases o with
 |none=>rfl
 |some u=>show(r).elim

theorem oB (ay:cq P w H h) (e:H a=ae (.ins C dx fs)):∃ mA,xo h a dx C mA /\ (∀ f,kM (fs.lookup f)<|mA f) /\ PySem.Within mA (fs.map (·.1)) /\ fs.length<=1000 /\ H dx=ae (.own a):=by
 let#[d,z,ne,ob,mA,n,r,q]:=(ay a _ e);show#[mA,#[ob,n,ne],r,q,z,d]
structure kB (K:PySem.W.Frag) (C:ai):zb where
 pg:PySem.W.plainGet K C Str.empty=ag
 hd:PySem.W.hasDictIn K C=ag
 po:PySem.W.plainOver K C=ag
 sa:PySem.W.findIn K (.ref C) "__setattr__"=ae (ae<|.builtin "object.__setattr__")
theorem kB.get {K}(c:kB K C) (f):PySem.W.plainGet K C f=ag:=c.pg
def qH (K:PySem.W.Frag) (C:ai) (f:Str):zb:=PySem.W.findIn K (.ref C) f=ae ah
theorem qH.acV {K}(n:qH K C f):PySem.W.takerIn K C f=ae ah:=by
 unfold PySem.W.takerIn;rw[n];rfl
structure Meth (K:PySem.W.Frag) (C:ai) (m:Str) (f:ai):zb where
 at_:PySem.W.findIn K (.ref C) m=ae (ae<|.ref f)
 fn:PySem.W.isFn K (.ref f)=ag
 kp:PySem.W.keepIn K (.ref f)=ag

theorem Dd (I:Inv X pins σ H s) (e:H a=ae (.ins C dx fs)) (c:kB X.K C) (n:qH X.K C f) (l:fs.lookup f=ae v)
 (h:∀ u s',Inv X pins σ H s'->RelV v u->Q u s'):wpAny (model X.prog X.w) A (getAttr (.ref a) f b) Q E s:=by
 let#[mA,O,r,_,_,_]:=oB I.ay e;let#[u,hu,ru]:=kM.some_of (by rw[<-l];show r f);show(λX I hg hh ha hv Ea h=>by
  let#[od,J,hl]:=I.look;show PySem.W.get_value X J (UB hg).1 (PySem.W.findObj_own hh ha za (by rw[hl,hv])) Ea h) I.cH O (c.get f) c.hd n hu ((λr=>by
  cases v with
  |non=>cases (r);rfl
  |bl b=>cases (r);rfl
  |int i=>let#[t,e]:=(r);cases e;rfl
  |str x=>let#[t,e]:=(r);cases e;rfl
  |nG b=>let#[t,e]:=(r);cases e;rfl
  |rR b=>let#[t,e]:=(r);cases e;rfl
  |ref a=>cases (r);rfl
  |ty n=>cases (r);rfl) ru) (h u _ (I.tok _) ru)
theorem oW (I:Inv X pins σ H s) (e:H a=ae (.ins C dx fs)) (c:kB X.K C) (k:Meth X.K C m g) (l:fs.lookup m=ah)
 (h:Q (.ref g,[.ref a]) s):wpAny (model X.prog X.w) A (getMethod (.ref a) m pl) Q E s:=by
 let#[mA,O,r,_,_,_]:=oB I.ay e;show Jv I.cH O (c.get m) k.at_ k.fn (kM.none_of (by rw[<-l];show r m)) h
theorem De (I:Inv X pins σ H s) (e:H a=ae (.ins C dx fs)) (c:kB X.K C) (n:qH X.K C f) (hl:fs.length<1000) (ry:RelV y u)
 (h:∀ s',Inv X pins σ (upd H a<|.ins C dx<|kA f y fs) s'->Q () s'):wpAny (model X.prog X.w) A (setAttr (.ref a) f u) Q E s:=by
 let#[mA,O,r,wi,_,ho]:=oB I.ay e;refine MW I.cH O c.sa c.po n.acV c.hd wi (by rw[aV,bB];lia) λh' O' sb=>h _ ?_;refine I.write (by rw[e];show True.intro) (.inr ho) (λb q hb z=>(sb.2 b hb).trans z) (let ⟨o,_,_,e',_⟩:=O'.ns;#[o,e']) ?_;refine#[by rw[fv O.ne];show ho,?_,O.ne,O'.obj,_,O'.ns,λg=>?_,λg hg=>?_]
 .have:=mV f y fs;lia
 .rw[mU];by_cases q:g=f
  .rw[if_pos q,if_pos q];show ry
  .rw[if_neg q,if_neg q];show r g
 .by_cases q:g=f
  .rw[q];show(mG f y fs).1
  .refine(mG f y fs).2 g (wi g λz=>hg ?_);change (if g=f then ae u else mA g)=ah;rw[if_neg q];show z
theorem Inv.made (I:Inv X pins σ H s):Inv X pins σ (upd (upd H s.heap.objs.size<|.own<|s.heap.objs.size+1) (s.heap.objs.size+1)<|.ins C s.heap.objs.size [])
 { s with heap:=(s.heap.push PySem.W.emptyDict).push (PySem.W.instObj C s.heap.objs.size) }:=by
 have e1:(s.heap.push PySem.W.emptyDict).get? s.heap.objs.size=ae PySem.W.emptyDict:=bD s.heap za;have e2:((s.heap.push PySem.W.emptyDict).push<|PySem.W.instObj C s.heap.objs.size).get? (s.heap.objs.size+1)=ae (PySem.W.instObj C s.heap.objs.size):=by
  have:=bD (s.heap.push PySem.W.emptyDict) (o:=PySem.W.instObj C s.heap.objs.size) za
  rwa [rQ]at this
 refine(I.laid (o:=.own _) (t':=s.toks) (λb u q=>aR _ q) (aB _) #[_,e1]).laid (λb u q=>aR _ q) (wC<|rQ _ _) ?_;have ne:s.heap.objs.size≠s.heap.objs.size+1:=bS<|qd _;refine#[by rw[fv ne,fu],dA _,ne,e2,λ_=>ah,(ab9 #[PySem.W.emptyDict,#[],_,e1,rfl,(λe he=>absurd he (by simp)),λ_=>rfl]).at λo q=>aR _ q,λ_=>True.intro,λy hy=>absurd rfl hy]
def acW (K:PySem.W.Frag) (ta:TE) (f:Str):TE:=λσ H Q=>ta σ H λx H1=>∃ a C dx fs v,x=.ref a /\ H1 a=ae (.ins C dx fs) /\ kB K C /\ qH K C f /\ fs.lookup f=ae v /\ Q v H1
def acX (K:PySem.W.Frag) (ta tv:TE) (f:Str):TS:=λD σ H=>tv σ H λy H1=>ta σ H1 λx H2=>∃ a C dx fs,x=.ref a /\ H2 a=ae (.ins C dx fs) /\ kB K C /\ qH K C f /\ fs.length<1000 /\
 D.nx σ (upd H2 a<|.ins C dx<|kA f y fs)

theorem P7 (he:PE X e ta) (hb:attributeBase e f X.env (eval e X.env)=eval e X.env):PE X (.Attribute e f pos) (acW X.K ta f):=by
 intro pins s σ H Q I h;refine(λhb h=>Attribute_any_ h (by rw[arm_eval_Attribute,hb])) hb (aX (he pins s σ H _ I h) λu s1 x H1 I1 rx hh=>?_);let#[a,C,dx,fs,v,ex,ea,c,n,l,q]:=hh;subst ex;obtain rfl:u=Value.ref a:=rx;show Dd I1 ea c n l λu' s2 I2 ru=>#[v,H1,I2,ru,q]
theorem Jw (ha:PE X o ta) (hv:PE X value tv) (hs:swapsWith value (ae<|.Attribute o f pos') pos.line X.env=pure af):PS X (.Assign [.Attribute o f pos'] value pos) (acX X.K ta tv f):=by
 intro pins s σ H D I h;refine plainObj_wpAny_Assign_Attribute (aX (hv pins s σ H _ I h) λu s1 y H1 I1 ry q=>aX (ha pins s1 σ H1 _ I1 q) λov s2 x H2 I2 rx hh=>?_) hs;let#[a,C,dx,fs,ex,ea,c,n,l,q2]:=hh;subst ex;obtain rfl:ov=Value.ref a:=rx;show De I2 ea c n l ry λs3 I3=>#[σ,_,I3,q2]

inductive n8 (K:PySem.W.Frag) (H:Hp):V->au->zb where
 |non:n8 K H .non (.type "NoneType")
 |bl (x:Bool):n8 K H (.bl x) (.type "bool")
 |int (i:Int):n8 K H (.int i) (.type "int")
 |str (x:Str):n8 K H (.str x) (.type "str")
 |rR (x:UInt64):n8 K H (.rR x) (.type "float")
 |lst {a:ai}{xs:List V}(e:H a=ae (.lst xs)):n8 K H (.ref a) (.type "list")
 |bA {a:ai}{o:Obj}{xs:List V}(e:H a=ae (.bA o<|.lst xs)):n8 K H (.ref a) (.type "list")
 |tup {a:ai}{xs:List V}(e:H a=ae (.tup xs)):n8 K H (.ref a) (.type "tuple")
 |dK {a:ai}{ao:List (Key×V)}(e:H a=ae (.dK ao)):n8 K H (.ref a) (.type "dict")
 |dT {a:ai}{ao:List (List Key×V)}(e:H a=ae (.dT ao)):n8 K H (.ref a) (.type "dict")
 |ins {a C dx:ai}{fs:List (Str×V)}(e:H a=ae (.ins C dx fs)) (cl:kB K C) (ha:PySem.W.findIn K (.ref C) "__class__"=ae (ae<|.builtin "object.__class__"))
  (hn:PySem.W.specialIn K (.builtin "object.__class__") "__get__"=ae (ae<|.builtin "getset_descriptor.__get__")) (Zx:PySem.W.takesIn K (.builtin "object.__class__")=ae ag)
  (hm:PySem.W.mroIn K C (.type "object")=ae ag):n8 K H (.ref a) (.ref C)
theorem Gr (I:Inv X pins σ H s) (rx:RelV x u) (ty:n8 X.K H x t) (e:PySem.W.kitOne X.K t c=ae b) (h:∀ tk,Q (.bool b) { s with toks:=tk }) :
 wpAny (model X.prog X.w) A (call (.builtin "isinstance") [u,c]) Q E s:=by
 cases ty with
 |non=>cases (rx);show qj PySem.W.kitx_none I.cH True.intro e (λz=>nomatch z) h
 |bl y=>cases (rx);show qj PySem.W.kitx_bool I.cH True.intro e (λz=>nomatch z) h
 |int i=>let#[t,q]:=(rx);cases q;show qj PySem.W.kitx_int I.cH True.intro e (λz=>nomatch z) h
 |str y=>let#[t,q]:=(rx);cases q;show qj PySem.W.kitx_str I.cH True.intro e (λz=>nomatch z) h
 |rR y=>let#[t,q]:=(rx);cases q;show qj PySem.W.kitx_float I.cH True.intro e (λz=>nomatch z) h
 |@lst a xs ea=>
   cases (rx);let#[_,_,n,_,h1]:=(I.ay a _ ea);show qj YE I.cH #[_,h1,rfl] e (λz=>nomatch z) h
 |@bA a ob xs ea=>
   cases (rx);let#[_,_,_,n,_,h1]:=(I.ay a _ ea);show qj YE I.cH #[_,h1,rfl] e (λz=>nomatch z) h
 |@tup a xs ea=>
   cases (rx);let#[_,_,_,p]:=(I.ay a _ ea);let#[o,h1,h2,_]:=p;show qj PySem.W.kitx_tuple I.cH #[o,h1,h2] e (λz=>nomatch z) h
 |@dK a ao ea=>
   cases (rx);let#[_,_,vs,_,p]:=(I.ay a _ ea);let#[o,es,ep,h1,h2,_]:=p;show qj YF I.cH #[o,h1,h2.1] e (λz=>nomatch z) h
 |@dT a ao ea=>
   cases (rx);let#[_,_,xs,_,o,es,ep,h1,h2,_]:=(I.ay a _ ea);show qj YF I.cH #[o,h1,h2.1] e (λz=>nomatch z) h
 |@ins a C dx fs ea cl ha hn Zx hm=>
   cases (rx);let#[mA,O,_]:=oB I.ay ea;let#[od,J,_]:=O.look;show qj (PySem.W.kitx_own (cl.get _) cl.hd ha hn Zx hm) I.cH J e (λz=>nomatch z) h
structure bH (k:Nat) (A:di):zb where
 hd:A.handled=ah
 dp:A.depth+3*k+5<recursionLimit
 un:A.units+16*k+200<cLine
 gd:A.guards=ae []
theorem bH.mono (r:bH k A) (h:j<=k):bH j A:=#[r.hd,by have:=r.dp;lia,by have:=r.un;lia,r.gd]
theorem bH.deeper (r:bH (k+1) A) (env):bH k (A.deeper env):=
 #[r.hd,by have:=r.dp;change A.depth+1+3*k+5<_;lia,by have:=r.un;change A.units+3+16*k+200<_;lia,by first|show r.gd|(first|rfl|simp[guardIds])]
theorem Df {A:di}:(A.under<|.builtin "type.__call__" #[.ref C::us,kw]).depth=A.depth+1:=by
 first|rfl|simp[guardIds]
theorem Dg {A:di}:(A.under<|.builtin "type.__call__" #[.ref C::us,kw]).units=A.units+1:=by
 first|rfl|simp[Code.isFrame]
theorem bH.make (r:bH (k+1) A) (C) (us) (kw):bH k (A.under<|.builtin "type.__call__" #[.ref C::us,kw]):=
 #[r.hd,by have:=r.dp;rw[Df];lia,by have:=r.un;rw[Dg];lia,by first|show r.gd|(first|rfl|simp[guardIds])]
theorem bH.depth (r:bH k A):A.depth<recursionLimit:=by have:=r.dp;lia
theorem bH.units (r:bH k A):A.units+64<cLine:=by have:=r.un;lia
def IJ:TA:=λ_ H Q=>Q [] H
def Vb (ta:TE) (tr:TA):TA:=λσ H Q=>ta σ H λx H1=>tr σ H1 λxs H2=>Q (x::xs) H2

theorem fR:PA X [] IJ:=λ_ _ _ _ H Q I h=>yL #[[],H,I,.nil,h]
theorem fA (ha:PE X e te) (hr:PA X es t) (hs:starEach (e::es) X.env=(af,eval e X.env)::starEach es X.env:=by rfl):PA X (e::es) (Vb te t):=by
 intro pos pins s σ H Q I h;rw[hs];change wpAny _ _ (spliced ((af,eval e X.env)::backTo pos _)) _ _ s;show yM<|aX (ha pins s σ H _ I h) λu s1 x H1 I1 r1 q1=>(nq (hr pos pins s1 σ H1 _ I1 q1) λus s2 xs H2 I2 r2 q2=>#[x::xs,H2,I2,.cons r1 r2,q2])
def acY (t:TA):TE:=λσ H Q=>t σ H λxs H1=>xs.length<=sizeLine /\ ∀ p,H1 p=ah->Q (.ref p) (upd H1 p<|.tup xs)
def acZ (t:TA):TE:=λσ H Q=>t σ H λxs H1=>xs.length<=sizeLine /\ ∀ p,H1 p=ah->Q (.ref p) (upd H1 p<|.lst xs)
theorem Jx (h:PA X es t):PE X (.Tuple es x1 pos) (acY t):=by
 intro pins s σ H Q I hq;refine wpAny_Tuple_spliced (nq (h pos pins s σ H _ I hq) λus s1 xs H1 I1 r ⟨z,q⟩=>#[by rw[<-r.length];show z,?_]);show#[.ref s1.heap.objs.size,upd H1 s1.heap.objs.size<|.tup xs,I1.laid (λb u e=>aR _ e) (aB _)<|#[z,us,r,#[_,bD _ za,rfl,_,rfl]],rfl,q _<|I1.ay.fresh<|aB _]
theorem jQ (h:PA X es t):PE X (.List es pos) (acZ t):=by
 intro pins s σ H Q I hq;refine wpAny_List_spliced (nq (h pos pins s σ H _ I hq) λus s1 xs H1 I1 r ⟨z,q⟩=>#[by rw[<-r.length];show z,?_]);show#[.ref s1.heap.objs.size,upd H1 s1.heap.objs.size<|.lst xs,I1.laid (λb u e=>aR _ e) (aB _)<|#[z,us,0,r,bD _ za],rfl,q _<|I1.ay.fresh<|aB _]
abbrev Sp:=List V->Hp->VK->XK->zb
abbrev ur:=List Env->Hp->aI->XK->au->aI->zb
structure uu (P:cS) (w:cg) (K:PySem.W.Frag) (mg:Str->Option au) (base:aK) (A:di) (outer:List Env) (s:aI) (H:Hp):zb where
 frames:A.frames=ae outer
 mod:Mod K mg base
 bs:∀ b o,base.get? b=ae o->s.heap.get? b=ae o /\ H b=ah
 rS:base.objs.size<=s.heap.objs.size
 kO:s.heap.FunFrames base outer
 qC:∀ b∈hV outer,H b=ah
 ay:cq P w H s.heap
 bare:AllBare s.gens
def CE (outer:List Env) (P:cS) (w:cg) (H:Hp) (s:aI) (Q:VK) (u:au) (s':aI):zb:=
 ∃ v H',s'.os=s.os /\ AllBare s'.gens /\ Un (hV outer) [] H H' s.heap s'.heap /\ cq P w H' s'.heap /\ RelV v u /\ Q v H'
def CR (CX:ur) (outer:List Env) (P:cS) (w:cg) (H:Hp) (s:aI) (Q:VK) (E:XK) (r:Result) (s':aI):zb:=
 match r with
 |.ok (.ret u)=>CE outer P w H s Q u s'
 |.ok _=>False
 |.error e=>CX outer H s E e s'
structure cP (P:cS) (w:cg) (K:PySem.W.Frag) (mg:Str->Option au) (base:aK) (CX:ur) (k:Nat) (f:ai) (fd:FuncData) (ps:List Str) (sp:Sp):zb where
 len:∀ vs H Q E,sp vs H Q E->vs.length=ps.length
 run:∀ (A:di) (outer:List Env) (s:aI) (H:Hp) (args:Args) (us:List au) (vs:List V) (Q:VK) (E:XK),bH k A->uu P w K mg base A outer s H->BindsTo s fd args (ps.zip us)->Vals vs us->sp vs H Q E ->
  codeAny (model P w) A (.call (.ref f) args) (CR CX outer P w H s Q E) s
theorem cP.mono {K}(F:cP P w K mg base CX j f fd ps sp) (h:j<=k) :
 cP P w K mg base CX k f fd ps sp:=#[F.len,λA outer s H args us vs Q E hr=>F.run A outer s H args us vs Q E<|hr.mono h]
theorem uu.make {K}(e:uu P w K mg base A outer s H) (C) (us) (kw) :
 uu P w K mg base (A.under<|.builtin "type.__call__" #[.ref C::us,kw]) outer s H:=#[by first|show e.frames|(simpa[pushEnvs] using e.frames),e.mod,e.bs,e.rS,e.kO,e.qC,e.ay,e.bare]

theorem Inv.Vc (I:Inv X pins σ H s):uu X.prog X.w X.K X.mg X.base X.A X.stack s H:=
 #[I.ok.frames,I.ok.mod,I.bs,cu I.ok.rS I.sz,I.stack,I.UX,I.ay,I.bare]
theorem Inv.after (I:Inv X pins σ H s) (h:CE X.stack X.prog X.w H s Q u s'):EP X pins σ Q u s':=by
 let#[v,H',os,bare,un,ay,r,q]:=h;let#[hh,g,d,t,Vd]:=s';obtain rfl:Vd=s.os:=os;show#[v,H',I.call un ay bare λb z=>absurd z (by simp),r,q]
def Ve (sp:Sp) (eG:List V) (E:XK) (t:TA):TE:=λσ H Q=>t σ H λvs H1=>sp (vs++eG) H1 Q E
def Vf (C:ai) (m:Str) (sp:Sp) (eG:List V) (E:XK) (ta:TE) (t:TA):TE:=λσ H Q=>ta σ H λx H1=>∃ a dx fs,x=.ref a /\ H1 a=ae (.ins C dx fs) /\ fs.lookup m=ah /\
 t σ H1 λvs H2=>sp (x::(vs++eG)) H2 Q E
def ac0 (C:ai) (sp:Sp) (eG:List V) (E:XK) (t:TA):TE:=λσ H Q=>t σ H λvs H1=>∀ x dx,H1 x=ah->H1 dx=ah->dx≠x ->
 sp (.ref x::(vs++eG)) (upd (upd H1 dx<|.own x) x<|.ins C dx []) (λv H2=>v=.non /\ Q (.ref x) H2) E
def Binds (K:PySem.W.Frag) (fd:FuncData) (ps:List Str) (ds:List au):zb:=
 ∀ (s) (us),K.In s.heap->(us++ds).length=ps.length->BindsTo s fd #[us,[]] (ps.zip<|us++ds)
theorem Binds.all {K}(h:∀ us,us.length=ps.length->bindArgs fd #[us,[]]=pure (ps.zip us)):Binds K fd ps []:=λs us _ hl=>by
 rw[rL]at hl ⊢;show .of_eq<|h us hl
def Passes (CX:ur) (X:Cx) (E:XK):zb:=∀ (pins) (σ:St) (H) (s) (e) (s'),Inv X pins σ H s->CX X.stack H s E e s'->X.xe e s'

theorem Dh (F:cP X.prog X.w X.K X.mg X.base CX k f fd ps sp) (hr:bH k X.A) (hb:Binds X.K fd ps ds) (hd:Vals eG ds) (hx:Passes CX X E)
 (I:Inv X pins σ H s) (r:Vals vs us) (h:sp (vs++eG) H Q E):wpAny (model X.prog X.w) X.A (call (.ref f) us) (EP X pins σ Q) X.xe s:=by
 have r2:=r.append hd;refine HL<|ue (F.run X.A X.stack s H _ _ _ Q E hr I.Vc (hb s us I.cH (by rw[<-r2.length];show F.len _ _ _ _ h)) r2 h) λr s' hq=>?_;cases r with
 |error e=>show hx pins σ H s e s' I hq
 |ok fl=>
   cases fl with
   |ret u=>show I.after hq
   |_=>show False.elim hq
theorem MX (F:cP X.prog X.w X.K X.mg X.base CX k f fd ps sp) (hr:bH k X.A) (hg:Gl X x) (hm:X.mg x=ae (.ref f)) (hk:PySem.W.keepIn X.K (.ref f)=ag) (hb:Binds X.K fd ps ds) (hd:Vals eG ds) (hx:Passes CX X E)
 (ha:PA X (e::es) t) (cL:(x==("__debug__"))=af:=by decide) (he:starEach (e::es) X.env=(af,eval e X.env)::starEach es X.env:=by rfl) (dS:(backTo pos<|starEach es X.env).any (·.1)=af:=by rfl) :
 PE X (.Call (.Name x p) (e::es) [] pos) (Ve sp eG E t):=by
 intro pins s σ H Q I h;refine rG<|lQ I hg hm ?_ cL;show Im I.ok.mod.ui hk (nq (ha pos pins s σ H _ I h) λus s1 vs H1 I1 r q=>#[I1.cH,(Dh F hr hb hd hx I1 r q)]) he dS
theorem MY (he:PE X o ta) (c:kB X.K C) (hm:Meth X.K C m f) (F:cP X.prog X.w X.K X.mg X.base CX k f fd ps sp) (hr:bH k X.A) (hb:Binds X.K fd ps ds) (hd:Vals eG ds) (hx:Passes CX X E) (ha:PA X (e::es) t)
 (nY:starEach (e::es) X.env=(af,eval e X.env)::starEach es X.env:=by rfl) (dS:(backTo pos<|starEach es X.env).any (·.1)=af:=by rfl)
 (ht:eval (.Call (.Attribute o m apos) (e::es) [] pos) X.env=(do
  let ov <-eval o X.env
  standAt apos.atName
  let (f,first) <-holding [ov] (getMethod ov m pl)
  callWith pos f first (backTo pos<|starEach (e::es) X.env) (backToKw pos<|keywordEach [] X.env)):=by rfl) :
 PE X (.Call (.Attribute o m apos) (e::es) [] pos) (Vf C m sp eG E ta t):=by
 intro pins s σ H Q I h;refine YG (aX (he pins s σ H _ I h) λu s1 x H1 I1 rx hh=>?_) ht;let#[a,dx,fs,ex,ea,l,q]:=hh;subst ex;obtain rfl:u=Value.ref a:=rx;refine oW I1 ea c hm l ?_;show Im I.ok.mod.ui hm.kp (nq (ha pos pins s1 σ H1 _ I1 q) λus s2 vs H2 I2 r q2=>#[I2.cH,(Dh (vs:=.ref a::vs) F hr hb hd hx I2 (.cons za r) q2)]) nY dS
theorem Jy (he:PE X o ta) (c:kB X.K C) (hm:Meth X.K C m f) (F:cP X.prog X.w X.K X.mg X.base CX k f fd ps sp) (hr:bH k X.A) (hb:Binds X.K fd ps ds) (hd:Vals eG ds) (hx:Passes CX X E)
 (ht:eval (.Call (.Attribute o m apos) [] [] pos) X.env=(do
  let ov <-eval o X.env
  standAt apos.atName
  let (f,first) <-holding [ov] (getMethod ov m pl)
  callWith pos f first (backTo pos<|starEach [] X.env) (backToKw pos<|keywordEach [] X.env)):=by rfl) :
 PE X (.Call (.Attribute o m apos) [] [] pos) (Vf C m sp eG E ta IJ):=by
 intro pins s σ H Q I h;refine YG (aX (he pins s σ H _ I h) λu s1 x H1 I1 rx hh=>?_) ht;let#[a,dx,fs,ex,ea,l,q]:=hh;subst ex;obtain rfl:u=Value.ref a:=rx;show oW I1 ea c hm l<|PySem.W.callWith_K0 I1.cH hm.kp<|Dh (vs:=[.ref a]) F hr hb hd hx I1 (.cons za .nil) q
structure Mk (K:PySem.W.Frag) (C f:ai):zb where
 makes:PySem.W.makesIn K C=ag
 init:PySem.W.findIn K (.ref C) "__init__"=ae (ae<|.ref f)
 fn:PySem.W.isFn K (.ref f)=ag
 kp:PySem.W.keepIn K (.ref C)=ag
theorem Jz (M:Mk X.K C f) (F:cP X.prog X.w X.K X.mg X.base CX k f fd ps sp) (hr:bH (k+1) X.A) (hb:Binds X.K fd ps ds) (hd:Vals eG ds)
 (hx:Passes CX X E) (I:Inv X pins σ H s) (r:Vals vs us)
 (h:∀ x dx,H x=ah->H dx=ah->dx≠x->sp (.ref x::(vs++eG)) (upd (upd H dx<|.own x) x<|.ins C dx []) (λv H2=>v=.non /\ Q (.ref x) H2) E) :
 wpAny (model X.prog X.w) X.A (call (.ref C) us) (EP X pins σ Q) X.xe s:=by
 have hq:=h _ s.heap.objs.size (I.ay.fresh<|sU _) (I.ay.fresh<|aB _)<|bS<|qd _;have I2:=Inv.made (C:=C) I;have r2:Vals (V.ref (s.heap.objs.size+1)::(vs++eG)) _:=.cons za<|r.append hd;have hl:(Value.ref (s.heap.objs.size+1)::us++ds).length=ps.length:=by
  have e:=r2.length;rw[F.len _ _ _ _ hq]at e;show e.symm
 refine HL<|(λX hm hi hf h=>by
  show PySem.W.make_core (PySem.W.makes_of X hm) (PySem.W.looks_findIn X hi) (λself=>PySem.W.bind_fn X self hf) (.inl za) h) I.cH M.makes M.init (beq_iff_eq.mp M.fn)<|ue (F.run _ X.stack _ _ _ _ _ _ E (hr.make C us [])
  (I2.Vc.make C us []) (hb _ _ I2.cH hl) r2 hq) λr s' Eb=>?_
 cases r with
 |error e=>show hx pins σ _ _ e s' I2 Eb
 |ok fl=>
   cases fl with
   |ret u=>
     let#[v,H',I3,rv,ev,q3]:=I2.after Eb;subst ev;show#[rv,#[V.ref _,H',I3,rfl,q3]]
   |_=>show False.elim Eb
theorem MZ (M:Mk X.K C f) (F:cP X.prog X.w X.K X.mg X.base CX k f fd ps sp) (hr:bH (k+1) X.A) (hg:Gl X x) (hm:X.mg x=ae (.ref C)) (hb:Binds X.K fd ps ds) (hd:Vals eG ds) (hx:Passes CX X E)
 (ha:PA X (e::es) t) (cL:(x==("__debug__"))=af:=by decide) (he:starEach (e::es) X.env=(af,eval e X.env)::starEach es X.env:=by rfl) (dS:(backTo pos<|starEach es X.env).any (·.1)=af:=by rfl) :
 PE X (.Call (.Name x p) (e::es) [] pos) (ac0 C sp eG E t):=by
 intro pins s σ H Q I h;refine rG<|lQ I hg hm ?_ cL;show Im I.ok.mod.ui M.kp (nq (ha pos pins s σ H _ I h) λus s1 vs H1 I1 r q=>#[I1.cH,(Jz M F hr hb hd hx I1 r q)]) he dS
structure qI (N P:List Str) (sc:eZ):zb where
 kind:sc.kind=.function
 co:sc.isCoroutine=af
 gen:sc.isGenerator=af
 nd:N.Nodup
 pre:N.take P.length=P
 par:∀ x∈P,sc.names.lookup x=ae .local \/ sc.names.lookup x=ae .cell
 ac1:∀ y∈sc.names,y.2≠.free
theorem AT {kindOf}:∀ {binds}{m},(∀ v,(x,v)∉binds)->bindL kindOf binds m x=m x
 |[],_,_=>rfl
 | (n,v)::r,m,h=>by
   unfold bindL;rw[AT λw hw=>h w<|bC _ hw];split
   .have:x≠n:=by rintro rfl;show h v bM
    simp[this]
   .rfl
theorem AU {kindOf}:∀ {binds}{m},(∀ v,(x,v)∉binds)->bindC kindOf binds m x=m x
 |[],_,_=>rfl
 | (n,v)::r,m,h=>by
   unfold bindC;rw[AU λw hw=>h w<|bC _ hw];split
   .rfl
   .have:x≠n:=by rintro rfl;show h v bM
    simp[this]
theorem AV {kindOf}:∀ {P:List Str}{vs}{i:Nat}{m},P.Nodup->P[i]?=ae x->vs[i]?=ae v->kindOf x=ae .local ->
 bindL kindOf (P.zip vs) m x=ae v
 |[],_,_,_,_,h,_,_=>by simp at h
 |_::_,[],_,_,_,_,h,_=>by simp at h
 | p::P,w::vs,0,m,nd,h1,h2,hk=>by
   simp at h1 h2;subst h1;subst h2;change bindL kindOf ((p,w)::P.zip vs) m p=_;unfold bindL;rw[AT λv hv=>(rO.mp nd).1 (HW hv).1,if_pos hk];simp
 | p::P,w::vs,i+1,m,nd,h1,h2,hk=>by
   unfold bindL;show AV (rO.mp nd).2 (by simpa using h1) (by simpa using h2) hk
theorem AW {kindOf}:∀ {P:List Str}{vs}{i:Nat}{m},P.Nodup->P[i]?=ae x->vs[i]?=ae v->kindOf x≠ae .local ->
 bindC kindOf (P.zip vs) m x=ae v
 |[],_,_,_,_,h,_,_=>by simp at h
 |_::_,[],_,_,_,_,h,_=>by simp at h
 | p::P,w::vs,0,m,nd,h1,h2,hk=>by
   simp at h1 h2;subst h1;subst h2;change bindC kindOf ((p,w)::P.zip vs) m p=_;unfold bindC;rw[AU λv hv=>(rO.mp nd).1 (HW hv).1,if_neg hk];simp
 | p::P,w::vs,i+1,m,nd,h1,h2,hk=>by
   unfold bindC;show AW (rO.mp nd).2 (by simpa using h1) (by simpa using h2) hk
noncomputable def start (N:List Str) (vs:List V):St:=vs.map ae++List.replicate (N.length-vs.length) ah
noncomputable def qm (CX:ur) (P:cS) (w:cg) (K:PySem.W.Frag) (mg:Str->Option au) (base:aK) (N:List Str) (qual:Str) (scope:eZ) (f:ai) (cd:au) (A:di) (outer:List Env) (s:aI) (H:Hp) (E:XK):Cx where
 prog:=P
 w:=w
 K:=K
 mg:=mg
 base:=base
 A:=A.deeper<|envOfC qual scope s.heap.objs.size f cd
 N:=N
 s₀:=s
 H₀:=H
 env:=envOfC qual scope s.heap.objs.size f cd
 outer:=outer
 stack:=envOfC qual scope s.heap.objs.size f cd::outer
 ex:=[]
 calm:=ag
 fn:=λ_=>ag
 pn:=[]
 xe:=λe s'=>wpAny (model P w) (A.deeper<|envOfC qual scope s.heap.objs.size f cd) (leaving (envOfC qual scope s.heap.objs.size f cd) e) (λ_ Vg=>CX outer H s E e Vg) (λe' Vg=>CX outer H s E e' Vg) s'
theorem oX {sc:eZ}(h:sc.names.lookup x=ae .cell):∃ c,(cellsFrom n sc.names []).lookup x=ae c:=by
 show Option.isSome_iff_exists.mp<|UC sc.names n []<|.inl h
theorem AX {K}
 (S:qI N ps scope) (hd:A.handled=ah) (e0:uu P w K mg base A outer s H) (hl:vs.length=ps.length) (r:Vals vs us)
 (x:InCallC s s.heap.objs.size (bindL (envOfC qual scope s.heap.objs.size f cd).kindOf (ps.zip us) λ_=>ah) (cellsFrom (s.heap.objs.size+1) scope.names []) (bindC (envOfC qual scope s.heap.objs.size f cd).kindOf (ps.zip us) λ_=>ah) s1) :
 Inv (qm CX P w K mg base N qual scope f cd A outer s H E) [] (start N vs) H s1:=by
 have dS:ps.length<=N.length:=by have:=congrArg List.length S.pre;rw[pF]at this;lia
 let#[h1,tk,rfl,hk]:=x.done;have Ec:∀ b,b∉(qm CX P w K mg base N qual scope f cd A outer s H E).ex:=λb z=>absurd (show b∈([]) from z) (by simp);refine#[#[e0.mod,S.kind,rfl,rfl,aB _,λy z c h1 h2=>?_,λy hy=>?_,λy c _ h=>?_,λ_=>hd,Y7 e0.frames,.inr #[rfl,rfl],λb z=>absurd z<|Ec b,e0.bs,e0.rS,λb _ _=>Ec b,λb z=>absurd z<|Ec b,e0.kO,e0.qC],
  rfl,e0.bare,Un.kept hk,#[_,x.toInCall.ns,λi y v h1 h2 h3=>?_],λy c h=>#[_,x.cell y c h],e0.ay.fresh<|aB _,λy c h=>?_,λp hp=>absurd (show p∈([]) from hp) (by simp),e0.ay.kept hk,?_]
 .show W8 x.apart (nT h1)<|nT h2
 .rcases hy with hy|hy
  .show oX hy
  .show absurd za<|S.ac1 _<|nT hy
 .show kK<|x.above y c<|nT h
 .have hi:i<vs.length:=by
   unfold start at h2;by_cases hi:i<vs.length
   .show hi
   .rw[dD (by simpa using hi)]at h2;rw[XU]at h2;split at h2<;>cases h2
  have ha:vs[i]?=ae v:=by
   unfold start at h2;rw[cR (by simpa using hi),nV]at h2;cases e:vs[i]? with
   |none=>rw[e]at h2;cases h2
   |some a=>rw[e]at h2;cases h2;rfl
  let#[u,hu,rv]:=r.get ha;have hp:ps[i]?=ae y:=by
   rw[<-S.pre,XX (by lia)];show h1
  have Zy:ps.Nodup:=by rw[<-S.pre];show S.nd.sublist<|XY _ _
  refine#[u,rv,?_];rcases S.par y (eD hp) with k|k
  .show .inl #[k,AV Zy hp hu k]
  .let#[c,e]:=oX k;refine .inr #[.inl k,c,e,?_];have q:=x.cell y c e;rw[AW Zy hp hu (by change scope.names.lookup y≠_;rw[k];decide)]at q;show q
 .show e0.ay.fresh<|kK<|x.above y c<|nT h
 .unfold start;change _=N.length;rw[bG,aV,QG]
  lia
theorem O9 {K:PySem.W.Frag}{kV}(lk:K.lookup f=ae #[oc,od,.func<|PySem.W.fnOf name qual params body scope dV kV doc pm an cdv ct,pL]) (dj:PySem.W.codeIn K cdv qual=ag) (S:qI N ps scope)
 (len:∀ vs H Q E,sp vs H Q E->vs.length=ps.length)
 (nJ:∀ (A) (outer) (s) (H) (vs) (Q) (E),bH k (A.deeper<|envOfC qual scope s.heap.objs.size f cdv)->sp vs H Q E ->
  ∃ t,cX (qm CX P w K mg base N qual scope f cdv A outer s H E) body t /\ t { nx:=λ_ H'=>Q .non H',rt:=Q } (start N vs) H) :
 cP P w K mg base CX (k+1) f (PySem.W.fnOf name qual params body scope dV kV doc pm an cdv ct) ps sp:=by
 refine#[len,λA outer s H args us vs Q E hr e0 hb r pM=>?_];have KX:=e0.mod.ui.keeps λb o e=>(e0.bs b o e).1;refine W9 hr.depth (KX _ _ lk) za S.co S.gen za (YH KX dj)<|hb _ _ _ _ ?_;refine Xa S.kind (λ⟨n,v⟩ hy=>by
  rcases S.par n (HW hy).1 with q|q
  .show .inl q
  .show .inr #[q,UC _ _ _<|.inl q]) λenv he s1 x=>?_
 subst he;refine#[(e0.mod.nolimit.keeps λb o e=>(e0.bs b o e).1).keeps x.toInCall.keep,Xb ?_];let#[t,ht,hq]:=nJ A outer s H vs Q E (hr.deeper _) pM;refine kq (ht [] s1 _ H _ (AX S hr.hd e0 (len _ _ _ _ pM) r x) hq) (λfl s' hs=>?_) λe s' hs=>hs;have fin:∀ {σ'}{H'}{v}{u},Inv (qm CX P w K mg base N qual scope f cdv A outer s H E) [] σ' H' s'->RelV v u->Q v H'->CE outer P w H s Q u s' :=
  λ{σ' H' v u} J rv q=>#[v,H',J.os,J.bare,J.base,J.ay,rv,q]
 cases fl with
 |ret u=>
   let#[v,σ',H',J,rv,q]:=hs;show fin J rv q
 |next=>
   let#[σ',H',J,q]:=hs;show fin (v:=V.non) J za q
 |brk=>
   let#[_,_,_,q]:=hs;show False.elim q
 |cont=>
   let#[_,_,_,q]:=hs;show False.elim q
section
variable {id:String}
def IK (r:List V->Hp->VK->zb) (t:TA):TE:=λσ H Q=>t σ H λvs H1=>r vs H1 Q
theorem fV (hc:pK X (.builtin id) r) (hg:Gl X x) (hm:X.mg x=ah) (hv:bootBuiltins x=ae (.builtin id)) (ha:PA X (e::es) t) (hn:x ≠ "__name__":=by decide) (cL:(x==("__debug__"))=af:=by decide)
 (he:starEach (e::es) X.env=(af,eval e X.env)::starEach es X.env:=by rfl) (dS:(backTo pos<|starEach es X.env).any (·.1)=af:=by rfl):PE X (.Call (.Name x p) (e::es) [] pos) (IK r t):=by
 intro pins s σ H Q I h;show rG<|ja I hg hm hv (abA (nq (ha pos pins s σ H _ I h) λus s1 vs H1 I1 r1 q1=>hc pins s1 σ H1 vs us Q I1 r1 q1) he dS) hn cL
theorem Gu (hc:pK X (.type T) r) (hg:Gl X x) (hm:X.mg x=ah) (hv:bootBuiltins x=ae (.type T)) (ha:PA X (e::es) t) (hn:x ≠ "__name__":=by decide) (cL:(x==("__debug__"))=af:=by decide)
 (he:starEach (e::es) X.env=(af,eval e X.env)::starEach es X.env:=by rfl) (dS:(backTo pos<|starEach es X.env).any (·.1)=af:=by rfl):PE X (.Call (.Name x p) (e::es) [] pos) (IK r t):=by
 intro pins s σ H Q I h;show rG<|ja I hg hm hv (Ig (nq (ha pos pins s σ H _ I h) λus s1 vs H1 I1 r1 q1=>hc pins s1 σ H1 vs us Q I1 r1 q1) he dS) hn cL
end
end L2
namespace HT
noncomputable def lexLt:List Int->List Int->Bool
 |[],[]=>af
 |[],_::_=>ag
 |_::_,[]=>af
 |x::xs,y::ys=>if x=y then lexLt xs ys else decide (x<y)
theorem gK (x y) (xs ys):lexLt (x::xs) (y::ys)=if x=y then lexLt xs ys else decide (x<y):=rfl
section
open PySem.SeqAt
open PySem.AutoSeq1 (wpAny_loadPart')
open PySem.MeetsSeq PySem.MeetsSeq2 PySem.MeetsSeq3
end

theorem M0 (ht:IsTup s.heap t vs.toArray) (hb:IsTup s.heap b ws.toArray) (hv:vs≠[])
 (h1:ws=[]->Q (.ref t) s) (h2:ws≠[]->Q (.ref s.heap.objs.size) { s with heap:=s.heap.push { cls:=.type "tuple",data:=.seq (vs++ws).toArray } })
 (hsz:vs.length+ws.length<=sizeLine):wpAny (model prog w) A (binaryOp .Add (.ref t)<|.ref b) Q E s:=by
 let#[#[cls,dd,data,sl],ho,hc,n,hd]:=id ht;let#[#[Zz,uv,data2,uw],rZ,pN,n2,hd2]:=id hb;subst hc hd pN hd2;have e:vs.toArray++ws.toArray=(vs++ws).toArray:=by simp
 by_cases hw:ws=[]
 .show Ql #[_,ho,rfl] #[_,rZ,rfl] Qm Qn UK UL (UM _ _)
   (tuple_addW1 t b vs.toArray ws.toArray n n2 dd uv sl uw (by simpa using hv) (by simp[hw])) #[ho,rZ,h1 hw]
 .refine Ql #[_,ho,rfl] #[_,rZ,rfl] Qm Qn UK UL (UM _ _)
   (tuple_addW2 t b vs.toArray ws.toArray n n2 dd uv sl uw (by simpa using hv) (by simpa using hw) (by show hsz)) #[ho,rZ,?_]
  rw[e];show h2 hw
noncomputable def aY (n d:Nat):Option Int->Nat
 |none=>d
 |some v=>if v<0 then (v+(n)).toNat else min v.toNat n
theorem Cd (n d):aY n d ah=d:=rfl
theorem oC (n d k:Nat):aY n d (ae<|k)=min k n:=by
 change (if (k)<0 then ((k)+(n:Int)).toNat else min (k:Int).toNat n)=min k n;rw[if_neg (by lia),vq]
theorem Ua (n d) (hd:d<=n) (o):aY n d o<=n:=by
 cases o with
 |none=>show hd
 |some v=>
   change (if v<0 then (v+(n)).toNat else min v.toNat n)<=n;by_cases hv:v<0
   .lia
   .rw[if_neg hv];show Nat.min_le_right _ _
theorem Fa (v:Int) (n d:Nat):(if v<0 then max (v+(n)) 0 else min v (n))=((aY n d<|ae v)):=by
 change (if v<0 then max _ 0 else min v (n))=(((if v<0 then (v+(n)).toNat else min v.toNat n)));by_cases hv:v<0
 .lia
 .lia
theorem Di (lo hi) (n:Nat):Builtin.Slice.sliceAdjust lo hi 1 (n)=(((aY n 0 lo):Int),((aY n n hi):Int)):=by
 refine Prod.ext ?_ ?_
 .cases lo with
  |none=>rfl
  |some v=>show Fa v n 0
 .cases hi with
  |none=>rfl
  |some v=>show Fa v n n
theorem Dj (i j:Nat):Builtin.Slice.slicePlaces (i) (j) 1=j-i:=by
 unfold Builtin.Slice.slicePlaces;split<;>lia
theorem oY (p:IsPart v o) (h:Q o s):wpAny (model prog w) A (Builtin.Slice.slicePartIndex v) Q E s:=by
 cases p with
 |none=>show Yp h
 |int i t=>show slicePart_int h
theorem ji {lo}{Q:Int×Int×Nat->aI->zb}(hs:s.heap.IsSliceOf sl vl vu .none) (pl:IsPart vl lo) (pu:IsPart vu hi)
 (h:Q (((aY n 0 lo)),1,aY n n hi-aY n 0 lo) s):wpAny (model prog w) A (Builtin.Slice.sliceApplied (.ref sl)<|pure<|n) Q E s:=by
 let#[os,vA,IL,pO]:=id hs;refine ak<|ak<|kJ vA pO za<|ak<|kJ vA pO (x:=vu) za<|ak<|kJ vA pO za<|ax ?_;refine ak<|Yp ?_;refine ak<|oY pl<|ak<|oY pu<|ak<|ax ?_;change wpAny _ _ (match Builtin.Slice.sliceAdjust lo hi 1 (n) with|(lo,hi)=>pure (lo,(1:Int),Builtin.Slice.slicePlaces lo hi 1)) _ _ s;rw[Di lo hi n];change wpAny _ _ (pure (((aY n 0 lo):Int),(1),Builtin.Slice.slicePlaces ((aY n 0 lo)) ((aY n n hi)) 1)) _ _ s;rw[Dj];show ax h
theorem JA (xs:Array au) (i k:Nat):((List.range k).filterMap λ(m:Nat)=>xs[((i)+(m:Int)*1).toNat]?).toArray=((xs.toList.drop i).take k).toArray:=by
 have e:(λ(m:Nat)=>xs[((i)+(m:Int)*1).toNat]?)=λm=>xs[i+m]?:=by
  funext m;have:((i)+(m:Int)*1).toNat=i+m:=by lia
  rw[this]
 rw[e];have:=pick_run xs i k;rw[XZ]at this;have e2:((λx=>xs[x]?)∘λx=>i+x)=λm=>xs[i+m]?:=rfl;rw[e2]at this;rw[this]
theorem lS {lo}(ht:IsTup s.heap t items) (hs:s.heap.IsSliceOf sl vl vu .none) (pl:IsPart vl lo) (pu:IsPart vu hi)
 (hw:¬ (aY items.size 0 lo=0 /\ aY items.size items.size hi=items.size))
 (h:Q (.ref s.heap.objs.size) { s with heap:=s.heap.push { cls:=.type "tuple",data:=.seq ((items.toList.drop<|aY items.size 0 lo).take<|aY items.size items.size hi-aY items.size 0 lo).toArray } })
 (hsz:items.size<=sizeLine):wpAny (model prog w) A (getItem (.ref t)<|.ref sl) Q E s:=by
 have IM:sizeOk (.seq ((items.toList.drop<|aY items.size 0 lo).take<|aY items.size items.size hi-aY items.size 0 lo).toArray):=by
  change ((items.toList.drop<|aY items.size 0 lo).take<|aY items.size items.size hi-aY items.size 0 lo).toArray.size<=sizeLine;rw[bY,pF,pG,nF]
  lia
 let#[os,vA,IL,pO]:=id hs;have ac2:s.TypeIs (.ref sl) "slice":=#[os,vA,IL];unfold getItem;try with_reducible refine eV ?_
 first|refine ak (ax ?_)|skip
 refine ak<|Xc ht.typeIs (by decide) ?_;refine ak (u9 ht.typeIs wY
  (qc wY ht.typeIs Yq ?_<|Yr _ _))
 change wpAny _ _ (Builtin.Tuple.tupleItemsOf (.ref t) >>= _) _ _ s;refine ak<|Ys ht ?_;refine ak<|wu ac2 ?_;rw[if_pos (by decide)];refine ak<|ji hs pl pu ?_;have tw:¬ ((((aY items.size 0 lo):Int)==0&&(1:Int)==1&&(aY items.size items.size hi-aY items.size 0 lo)==items.size)=ag):=by
  intro q;rw[aH,aH]at q;have q1:=eq_of_beq q.1.1;have q2:=eq_of_beq q.2;show hw #[by lia,by lia]
 change wpAny _ _ (if (((aY items.size 0 lo):Int)==0&&(1)==1&&(aY items.size items.size hi-aY items.size 0 lo)==items.size)=ag then _ else _) _ _ s;rw[if_neg tw,JA];first
  |show ak<|qy (ax #[_,rfl,ax h]) IM
  |show ak<|qy (ak<|ax<|ax #[_,rfl,ax h]) IM
  |show ak<|ak<|qy (ax<|ax #[_,rfl,ax h]) IM
  |show ak<|ak<|qy (ax #[_,rfl,ax h]) IM
end HT
namespace L2
abbrev TO:=St->Hp->(Option Int->Hp->zb)->zb
def PO (X:Cx) (e:Option aD) (t:TO):zb:=
 ∀ (pins) (s) (σ:St) (H) (Q),Inv X pins σ H s->t σ H Q ->
  wpAny (model X.prog X.w) X.A (evalPart e X.env) (λu s'=>∃ o H',Inv X pins σ H' s' /\ IsPart u o /\ Q o H') X.xe s
noncomputable def ac3:TO:=λ_ H Q=>Q ah H
noncomputable def ac4 (t:TE):TO:=λσ H Q=>t σ H λx H1=>∃ i,x=.int i /\ Q (ae i) H1
theorem oZ:∀ {us},Vals (ns.map V.int) us->IntsAre us ns:=by
 induction ns with
 |nil=>intro us r;cases r;show .nil
 |cons n ns ih=>
   intro us r;cases r with
   |cons r1 r2=>
     let#[t,e]:=r1;subst e;show .cons n t<|ih r2
section
variable {lo:Option aD}
theorem M2:PO X ah ac3:=by
 intro pins s σ H Q I h;show ax #[ah,H,I,.none,h]
theorem M3 (h:PE X e te):PO X (ae e) (ac4 te):=by
 intro pins s σ H Q I hw;refine aX (h pins s σ H _ I hw) λu s1 x H1 I1 r1 q1=>?_;let#[i,rfl,q]:=q1;let#[t,rfl]:=r1;show#[ae i,H1,I1,.int i t,q]
def ux (X:Cx) (r:V->Option Int->Option Int->Hp->VK->zb):zb:=
 ∀ (pins) (s) (σ:St) (H) (x) (v vl vu) (lo hi) (sl) (Q),Inv X pins σ H s->RelV x v->s.heap.IsSliceOf sl vl vu .none->IsPart vl lo->IsPart vu hi->r x lo hi H Q ->
  ∃ T id,typeLookup (.type T) "__getitem__"=pure (ae<|.builtin id) /\ s.TypeIs v T /\ wpAny (model X.prog X.w) X.A (getItem v<|.ref sl) (EP X pins σ Q) X.xe s
theorem ux.or (h:ux X r) (h':ux X r'):ux X (λx lo hi H Q=>r x lo hi H Q \/ r' x lo hi H Q):=by
 intro pins s σ H x v vl vu lo hi sl Q I rx hs pl pu q;rcases q with q|q
 .show h pins s σ H x v vl vu lo hi sl Q I rx hs pl pu q
 .show h' pins s σ H x v vl vu lo hi sl Q I rx hs pl pu q
def ac5 (r:V->Option Int->Option Int->Hp->VK->zb) (te:TE) (tl th:TO):TE:=λσ H Q=>te σ H λx H1=>tl σ H1 λl H2=>th σ H2 λu H3=>r x l u H3 Q
theorem JB (hr:ux X r) (he:PE X e te) (hl:PO X lo tl) (hu:PO X hi th):PE X (.Subscript e (.Slice lo hi ah p2) pos) (ac5 r te tl th):=by
 intro pins s σ H Q I h;refine Subscript_<|aX (he pins s σ H _ I h) λv s1 x H1 I1 r1 q1=>?_;refine Xd<|Iy (hl pins s1 σ H1 _ I1 q1) λvl s2 l H2 I2 pl q2=>Iy (hu pins s2 σ H2 _ I2 q2) λvu s3 u H3 I3 pu q3=>?_;refine ax ?_;let#[T,id,hT,ht,hg]:=hr pins { s3 with heap:=s3.heap.push { cls:=.type "slice",data:=.fields (List.toArray [vl,vu,.none]) } } σ H3 x v vl vu l u s3.heap.objs.size Q (I3.kept λb ob q=>aR _ q) r1 (Heap.IsSliceOf.new ..) pl pu q3;show QW ht hT hg (by with_unfolding_all rfl)
def xp (xs:List V) (lo hi:Option Int):List V:=(xs.drop<|HT.aY xs.length 0 lo).take<|HT.aY xs.length xs.length hi-HT.aY xs.length 0 lo
theorem mX (xs) (lo hi):(xp xs lo hi).length<=xs.length:=by
 unfold xp;rw[pF,pG]
 lia
def ZA (K:PySem.W.Frag):V->Option Int->Option Int->Hp->VK->zb:=λx lo hi H Q=>∃ a xs,x=.ref a /\ cK K H a xs /\
 ¬ (HT.aY xs.length 0 lo=0 /\ HT.aY xs.length xs.length hi=xs.length) /\ ∀ p,H p=ah->Q (.ref p) (upd H p<|.tup<|xp xs lo hi)
theorem P8:ux X (ZA X.K):=by
 intro pins s σ H x v vl vu lo hi sl Q I rx hs pl pu h;let#[a,xs,rfl,hx,hw,q]:=h;cases rx;let#[its,r,ht,hz]:=I.tuple hx;have hlen:its.toArray.size=xs.length:=by show r.length.symm
 refine#["tuple",_,wY.lookup,ht.typeIs,?_];refine HT.lS ht hs pl pu (by rw[hlen];show hw) ?_ (by rw[hlen];show hz);rw[hlen];refine#[.ref s.heap.objs.size,_,I.laid (λb ob q=>aR _ q) (aB _) ?_,rfl,q _<|I.ay.fresh<|aB _];show#[cu (mX xs lo hi) hz,_,(r.drop _).take _,IsTup.new _ _]
def ZC (K:PySem.W.Frag):R2:=λx y H Q=>∃ a b xs ys,x=.ref a /\ y=.ref b /\ cK K H a xs /\ cK K H b ys /\ xs≠[] /\ xs.length+ys.length<=sizeLine /\
 (ys=[]->Q (.ref a) H) /\ (ys≠[]->∀ p,H p=ah->Q (.ref p) (upd H p<|.tup<|xs++ys))
theorem Vals.Vh (r:Vals xs us):us=[] ↔ xs=[]:=by
 cases r with
 |_=>simp
theorem M4:bT X (binaryOp .Add) (ZC X.K):=by
 intro pins s σ H x y v u Q I rx ry h;let#[a,b,xs,ys,rfl,rfl,ha,hb,hx,hz,q1,q2]:=h;cases rx;cases ry;let#[its,r1,p1,_]:=I.tuple ha;let#[xq,r2,p2,_]:=I.tuple hb;refine HT.M0 p1 p2 (λz=>hx<|r1.Vh.mp z) (λz=>#[.ref a,H,I,rfl,q1<|r2.Vh.mp z]) (λz=>?_) (by rw[<-r1.length,<-r2.length];show hz);refine#[.ref s.heap.objs.size,_,I.laid (λb ob q=>aR _ q) (aB _) ?_,rfl,q2 (λw=>z<|r2.Vh.mpr w) _<|I.ay.fresh<|aB _];show#[by rw[bG];show hz,_,r1.append r2,IsTup.new _ _]
end
noncomputable def cT (n:Nat) (i:Int):Option Nat:=if 0<=i then (if i<n then ae i.toNat else ah) else if -(n)<=i then ae (i+n).toNat else ah
def bU {α:Type}(xs:List α) (i:Int):Option α:=(cT xs.length i).bind λj=>xs[j]?
theorem Bq (h:cT n i=ae j):seqIndex? i n=ae j /\ j<n /\ -(n)<=i /\ i<n:=by
 unfold cT at h;by_cases h0:0<=i
 .rw[if_pos h0]at h;by_cases h1:i<n
  .rw[if_pos h1]at h;show#[by rw[Qo h0 h1,(Option.some.inj h)],by lia,by lia,h1]
  .rw[if_neg h1]at h;cases h
 .rw[if_neg h0]at h;by_cases h1:-(n)<=i
  .rw[if_pos h1]at h;show#[by rw[seqIndex_neg (by lia) h1,(Option.some.inj h)],by lia,h1,by lia]
  .rw[if_neg h1]at h;cases h
theorem Br (h:bU xs i=ae v):∃ j,seqIndex? i xs.length=ae j /\ xs[j]?=ae v /\ j<xs.length /\ -(xs.length)<=i /\ i<xs.length:=by
 unfold bU at h;cases e:cT xs.length i with
 |none=>rw[e]at h;cases h
 |some j=>
   rw[e]at h;let#[h1,h2,h3,h4]:=Bq e;show#[j,h1,h,h2,h3,h4]
theorem Bs {j:Nat}(h:xs[j]?=ae v):bU xs (j)=ae v:=by
 have hj:=(List.getElem?_eq_some_iff.mp h).1;have e:cT xs.length (j)=ae j:=by
  unfold cT;rw[if_pos (by lia),if_pos (by lia)];simp
 unfold bU;rw[e];show h
def Vi (b:aD):zb:=∀ o i,subscripted b af o i=operate [o,i] (getItem o i)
def uz (X:Cx) (r:R2):zb:=
 ∀ (value slice) (pins) (s) (σ:St) (H) (x y) (v u) (Q),Inv X pins σ H s->RelV x v->RelV y u->r x y H Q ->
  subscripted slice af v u=operate [v,u] (getItem v u)->wpAny (model X.prog X.w) X.A (subscriptTail value slice v u) (EP X pins σ Q) X.xe s
def ac6 (X:Cx) (id:String) (r:V->List V->Hp->VK->zb):zb:=
 ∀ (pins) (s) (σ:St) (H) (x) (xs) (v) (us) (Q),Inv X pins σ H s->RelV x v->Vals xs us->r x xs H Q ->
  wpAny (model X.prog X.w) X.A (call (.builtin id) (v::us)) (EP X pins σ Q) X.xe s
section

theorem uz.or (h:uz X r) (h':uz X r'):uz X (λx y H Q=>r x y H Q \/ r' x y H Q):=by
 intro value slice pins s σ H x y v u Q I rx ry q hs;rcases q with q|q
 .show h value slice pins s σ H x y v u Q I rx ry q hs
 .show h' value slice pins s σ H x y v u Q I rx ry q hs
theorem JC (hr:uz X r) (ha:PE X a ta) (hb:PE X b tb) (hs:Vi b):PE X (.Subscript a b pos) (yZ r ta tb):=by
 intro pins s σ H Q I h;show Subscript_<|U8 ha hb I h λv u s2 x y H2 I2 rx ry q=>hr a b pins s2 σ H2 x y v u Q I2 rx ry q<|hs _ _
def ZD (K:PySem.W.Frag):R2:=λx y H Q=>∃ p xs i v,x=.ref p /\ y=.int i /\ bN K H p xs /\ bU xs i=ae v /\ Q v H
def ZE (K:PySem.W.Frag):R2:=λx y H Q=>∃ p xs i v,x=.ref p /\ y=.int i /\ cK K H p xs /\ bU xs i=ae v /\ Q v H
def ZF:R2:=λx y H Q=>∃ z i c,x=.str z /\ y=.int i /\ z.length<=sizeLine /\ bU z.cps.toList i=ae c /\ Q (.str ⟨(List.toArray [c])⟩) H
theorem Bt:uz X (ZD X.K):=by
 intro value slice pins s σ H x y v u Q I rx ry h hs;let#[p,xs,i,z,rfl,rfl,hq,he,q]:=h;cases rx;let#[t,rfl]:=ry;let#[its,r,pl,hz]:=I.list hq;let#[j,h1,h2,h3,h4,h5]:=Br he;let#[w,ew,nI]:=r.get h2;have hl:=r.length;have hn:=xn;have fin:EP X pins σ Q w s:=#[z,H,I,nI,q];by_cases h0:0<=i
 .have hj:i.toNat=j:=by
   rw[Qo h0 h5]at h1;show Option.some.inj h1
  show item_listR pl.isList h0 (by lia) (by rw[hj];simpa using ew) fin hs
 .have hj:(i+(its.toArray.size)).toNat=j:=by
   rw[seqIndex_neg (by lia) h4]at h1;rw[bY,<-hl];show Option.some.inj h1
  show Yt pl.isList.typeIs slot_list_getitem.lookup
   (wpAny_getItem_list_neg pl.isList (by lia) (by rw[bY]<;>lia) (by lia) (by rw[hj];simpa using ew) #[rfl,fin]) hs
theorem P9:uz X (ZE X.K):=by
 intro value slice pins s σ H x y v u Q I rx ry h hs;let#[p,xs,i,z,rfl,rfl,hq,he,q]:=h;cases rx;let#[t,rfl]:=ry;let#[its,r,pl,hz]:=I.tuple hq;let#[j,h1,h2,h3,h4,h5]:=Br he;let#[w,ew,nI]:=r.get h2;have hn:=xn;show Yt pl.typeIs slot_tuple_getitem.lookup
  (getItem_tuple pl (by lia) (by lia) (by rw[bY,<-r.length];show h1) (by simpa using ew) #[rfl,#[z,H,I,nI,q]]) hs
theorem Rb:uz X ZF:=by
 intro value slice pins s σ H x y v u Q I rx ry h hs;let#[z,i,c,rfl,rfl,hz,he,q]:=h;let#[t,rfl]:=rx;let#[t',rfl]:=ry;let#[j,h1,h2,h3,h4,h5]:=Br he;have hl:z.cps.toList.length=z.length:=by simp[Str.length]
 rw[hl]at h1 h4 h5;have hn:=xn;show QW (HM s z t) slot_str_getitem.lookup (getItem_str (by
  rw[(decide_eq_false (by lia)),(decide_eq_false (by lia)),XQ]) (by rw[h1];simpa using h2) #[.str ⟨(List.toArray [c])⟩,H,I.tok _,#[_,rfl],q]) hs
def ac7 (K:PySem.W.Frag):R2:=λx y H Q=>ZD K x y H Q \/ ZE K x y H Q \/ ZF x y H Q
theorem Dk (its:List au) (n j) (u):Obj.mapSeq (·.setIfInBounds j u) { cls:=.type "list",data:=.seq its.toArray n }={ cls:=.type "list",data:=.seq (its.set j u).toArray n }:=by
 simp[Obj.mapSeq]
theorem Inv.lst {pins}{σ:St}{H}{s}{p}{xs}(I:Inv X pins σ H s) (h:H p=ae (.lst xs)) :
 ∃ (its:List au) (n:Nat),Vals xs its /\ s.heap.get? p=ae { cls:=.type "list",data:=.seq its.toArray n } /\ xs.length<=sizeLine:=by
 let#[z,its,n,r,e]:=I.ay p _ h;show#[its,n,r,e,z]
theorem Inv.ac8 {its:List au}(I:Inv X pins σ H s) (h:H p=ae (.lst xs))
 (ho:s.heap.get? p=ae { cls:=.type "list",data:=.seq its.toArray n }) (hf:f { cls:=.type "list",data:=.seq its.toArray n }={ cls:=.type "list",data:=.seq rW.toArray n' }) (r:Vals ys rW) (hz:ys.length<=sizeLine) (t) :
 Inv X pins σ (upd H p<|.lst ys) { s with heap:=s.heap.update p f,toks:=t }:=by
 have e:(s.heap.update p f).get? p=ae { cls:=.type "list",data:=.seq rW.toArray n' }:=by
  rw[Ie f ho (by rw[hf]<;>rfl),hf]
 show I.write (by rw[h];trivial) (.inl za) (λb u hb q=>(Ym _ _<|Ne.symm hb).trans q) #[_,e]<|#[hz,rW,n',r,e]
def ac9:V->V->V->Hp->(Hp->zb)->zb:=λo i v H Q=>∃ p xs k j,o=.ref p /\ i=.int k /\ H p=ae (.lst xs) /\ cT xs.length k=ae j /\ Q (upd H p<|.lst<|xs.set j v)
theorem JD:Zn X ac9:=by
 intro pins s σ H o i v ov iv u Q I ro ri rv h;let#[p,xs,k,j,rfl,rfl,hp,hj,q]:=h;cases ro;let#[t,rfl]:=ri;let#[its,n,r,ho,hz]:=I.lst hp;let#[h1,h2,h3,h4]:=Bq hj;have hl:=r.length;have hn:=xn;have I' :=
  I.ac8 hp ho (Dk its n j u) (r.set rv j) (by rw[qz];show hz) s.toks
 by_cases h0:0<=k
 .have hk:k.toNat=j:=by
   rw[Qo h0 h4]at h1;show Option.some.inj h1
  show PySem.W.ki_setAt ho h0 (by lia) (by rw[bY,<-hl];show h4) (by rw[hk];show#[_,I',q])
 .have hk:(k+(its.toArray.size)).toNat=j:=by
   rw[seqIndex_neg (by lia) h3]at h1;rw[bY,<-hl];show Option.some.inj h1
  show PySem.W.ki_setBack ho (by lia) (by rw[bY,<-hl];show h3) (by lia) (by rw[hk];show#[_,I',q])
theorem Bu (lo hi) (n):(sliceBounds lo hi ah n).1=((HT.aY n 0 lo)) /\ (sliceBounds lo hi ah n).2.1=((HT.aY n n hi)) /\ (sliceBounds lo hi ah n).2.2=1:=by
 refine#[?_,?_,rfl]
 .cases lo with
  |none=>simp[sliceBounds,HT.aY]
  |some i=>
    erw[sliceBounds,HT.aY,QU,show (1:Int)>0 by decide,if_true];by_cases h:i<0
    .erw[h]<;>lia
    .erw[h]<;>lia
 .cases hi with
  |none=>simp[sliceBounds,HT.aY]
  |some i=>
    erw[sliceBounds,HT.aY,QU,show (1:Int)>0 by decide,if_true];by_cases h:i<0
    .erw[h,if_true]<;>lia
    .erw[h,if_false]<;>lia
theorem AJ (its:List au) (lo hi):slicePick its.toArray lo hi ah=((its.drop<|HT.aY its.length 0 lo).take<|HT.aY its.length its.length hi-HT.aY its.length 0 lo).toArray:=by
 let#[h1,h2,h3]:=Bu lo hi its.toArray.size;unfold slicePick;rw[h1,h2,h3];erw[sliceRange_one,pick_run]<;>rfl
def ada (K:PySem.W.Frag):V->Option Int->Option Int->Hp->VK->zb:=λx lo hi H Q=>∃ a xs,x=.ref a /\ bN K H a xs /\ ∀ p,H p=ah->Q (.ref p) (upd H p<|.lst<|xp xs lo hi)
noncomputable def eI:V->Bool
 |.non=>ag
 |.bl _=>ag
 |.int _=>ag
 |.str _=>ag
 |_=>af
noncomputable def d8:V->V->Bool
 |.non,.non=>ag
 |.bl a,.bl b=>a==b
 |.bl a,.int b=>(if a then 1 else 0)==b
 |.int a,.bl b=>a==(if b then 1 else 0)
 |.int a,.int b=>a==b
 |.str a,.str b=>a==b
 |_,_=>af
theorem JE (ry:RelV y u) (rx:RelV x v) (fy:eI y=ag) (fx:eI x=ag):SeqAt.EqAt A s u v (d8 y x):=by
 cases y with
 |non=>
   cases ry;cases x with
   |non=>cases rx;show SeqAt.EqAt.same _
   |bl b=>cases rx;show abC b
   |int b=>let#[t,rfl]:=rx;show abD b t
   |str b=>let#[t,rfl]:=rx;show abE b t
   |_=>show absurd (fx) dO
 |bl a=>
   cases ry;cases x with
   |non=>cases rx;show abF a
   |bl b=>cases rx;show abG a b
   |int b=>let#[t,rfl]:=rx;show abH a b t
   |str b=>let#[t,rfl]:=rx;show abI a b t
   |_=>show absurd (fx) dO
 |int a=>
   let#[t',rfl]:=ry;cases x with
   |non=>cases rx;show abJ a t'
   |bl b=>cases rx;show abK a t' b
   |int b=>let#[t,rfl]:=rx;show UQ a t' b t
   |str b=>let#[t,rfl]:=rx;show Y4 a t' b t
   |_=>show absurd (fx) dO
 |str a=>
   let#[t',rfl]:=ry;cases x with
   |non=>cases rx;show abL a t'
   |bl b=>cases rx;show abM a t' b
   |int b=>let#[t,rfl]:=rx;show Y5 a t' b t
   |str b=>let#[t,rfl]:=rx;show UR a t' b t
   |_=>show absurd (fx) dO
 |_=>show absurd (fy) dO
def vB (x:V) (u:au):Bool:=match u with
 |.none=>d8 .non x
 |.bool b=>d8 (.bl b) x
 |.int i _=>d8 (.int i) x
 |.str z _=>d8 (.str z) x
 |_=>af
theorem JF (r:RelV y u) (f:eI y=ag):vB x u=d8 y x:=by
 cases y with
 |non=>cases r;rfl
 |bl b=>cases r;rfl
 |int i=>let#[t,rfl]:=r;rfl
 |str z=>let#[t,rfl]:=r;rfl
 |_=>show absurd (f) dO
theorem lT:∀ {xs}{us},Vals xs us->xs.all eI=ag->us.any (vB x)=xs.any λy=>d8 y x
 |_,_,.nil,_=>rfl
 | y::xs,u::us,.cons r t,f=>by
   rw[nE,aH]at f;rw[vh,vh,JF r f.1,lT t f.2]
theorem jR (rx:RelV x v) (fx:eI x=ag):∀ {xs}{us},Vals xs us->xs.all eI=ag->∀ u∈us,SeqAt.EqAt A s u v (vB x u)
 |_,_,.nil,_=>λu hu=>by cases hu
 | y::xs,u::us,.cons r t,f=>λu' hu=>by
   rw[nE,aH]at f;rcases a9.mp hu with rfl|hu
   .rw[JF r f.1];show JE r rx f.1 fx
   .show jR rx fx t f.2 u' hu
def IP (x:V) (xs:List V):Bool:=xs.any λy=>d8 y x
def IQ (K:PySem.W.Frag) (neg:Bool):R2:=λx y H Q=>∃ p xs,y=.ref p /\ (bN K H p xs \/ cK K H p xs) /\ eI x=ag /\ xs.all eI=ag /\ Q (.bl (if neg then !IP x xs else IP x xs)) H
theorem Gv:bT X (compareOp .In) (IQ X.K af):=by
 intro pins s σ H x y v u Q I rx ry h;let#[p,xs,rfl,hq,fx,fs,q]:=h;cases ry;rcases hq with hq|hq
 .let#[its,r,pl,hz]:=I.list hq;refine SeqAt.in_listAt _ pl.isList (λw hw=>jR rx fx r fs w (by simpa using hw)) #[.bl _,H,I,rfl,?_];rw[show its.toArray.any _=its.any (vB x) by simp,lT r fs];show q
 .let#[its,r,pl,hz]:=I.tuple hq;refine SeqAt.in_tupleAt _ pl (λw hw=>jR rx fx r fs w (by simpa using hw)) #[.bl _,H,I,rfl,?_];rw[show its.toArray.any _=its.any (vB x) by simp,lT r fs];show q
theorem Bv:bT X (compareOp .NotIn) (IQ X.K ag):=by
 intro pins s σ H x y v u Q I rx ry h;let#[p,xs,rfl,hq,fx,fs,q]:=h;cases ry;rcases hq with hq|hq
 .let#[its,r,pl,hz]:=I.list hq;refine SeqAt.notIn_listAt _ pl.isList (λw hw=>jR rx fx r fs w (by simpa using hw)) #[.bl _,H,I,rfl,?_];rw[show its.toArray.any _=its.any (vB x) by simp,lT r fs];show q
 .let#[its,r,pl,hz]:=I.tuple hq;refine SeqAt.notIn_tupleAt _ pl (λw hw=>jR rx fx r fs w (by simpa using hw)) #[.bl _,H,I,rfl,?_];rw[show its.toArray.any _=its.any (vB x) by simp,lT r fs];show q
theorem lU:pK X (.builtin "len") (λxs H Q=>∃ p ys,xs=[.ref p] /\ (bN X.K H p ys \/ cK X.K H p ys) /\ Q (.int ys.length) H):=by
 intro pins s σ H xs us Q I r h;let#[p,ys,rfl,hq,q]:=h;let#[u,rfl,rx]:=vals1 r;cases rx;have hn:=xn;rcases hq with hq|hq
 .let#[its,r',pl,hz]:=I.list hq;have hlen:=r'.length;show Calls.call_len_list pl.isList (by simp[bY]<;>lia) #[.int ys.length,H,I.tok _,#[s.toks+1,by rw[bY,hlen]],q]
 .let#[its,r',pl,hz]:=I.tuple hq;have hlen:=r'.length;show len_tuple pl (by simp[bY]<;>lia) #[.int ys.length,H,I.tok _,#[s.toks+1,by rw[bY,hlen]],q]
def ZG (K:PySem.W.Frag) (T:String) (x:V) (H:Hp):zb:=match x with
 |.str _=>T="str"
 |.int _=>T="int"
 |.ref p=>(T="list" /\ ∃ xs,bN K H p xs) \/ (T="tuple" /\ ∃ o,K.lookup p=ae o /\ o.cls=.type "tuple" /\ o.dict=ah) \/
  (T="dict" /\ ((∃ ao,H p=ae (.dK ao)) \/ ∃ ao,H p=ae (.dT ao))) \/ (T="set" /\ ∃ S n,H p=ae (.set S n))
 |_=>False
theorem Re (I:Inv X pins σ H s) (r:RelV x v) (ty:ZG X.K T x H) :
 s.TypeIs v T /\ ∀ a,v=.ref a->∃ ob,s.heap.get? a=ae ob /\ ob.dict=ah:=by
 cases x with
 |str z=>
   let#[t,rfl]:=r;cases (ty);show#[HM s z t,λ_ e=>nomatch e]
 |int i=>
   let#[t,rfl]:=r;cases (ty);show#[typeIs_int s i t,λ_ e=>nomatch e]
 |ref p=>
   cases r;rcases ty with⟨rfl,xs,hq⟩|⟨rfl,o,hk,hc,hd⟩|⟨rfl,hk⟩|⟨rfl,S,n,hk⟩
   .let#[its,_,pl,_]:=I.list hq;refine#[pl.isList.typeIs,λa e=>?_];cases e;let#[o,n,e,c,hd,_]:=pl;show#[o,e,hd]
   .refine#[#[o,I.cH p o hk,hc],λa e=>?_];cases e;show#[o,I.cH _ o hk,hd]
   .have z:∃ o,s.heap.get? p=ae o /\ o.ExactDict:=by
     rcases hk with⟨ao,hk⟩|⟨ao,hk⟩
     .let#[_,_,_,_,o,_,_,e,ex,_]:=I.ay p _ hk;show#[o,e,ex]
     .let#[_,_,_,_,o,_,_,e,ex,_]:=I.ay p _ hk;show#[o,e,ex]
    let#[o,e,ex]:=z;refine#[#[o,e,ex.1],λa e2=>?_];cases e2;show#[o,e,ex.2.1]
   .let#[o,_,_,_,e,ex,_]:=I.ay p _ hk;refine#[#[o,e,ex.1],λa e2=>?_];cases e2;show#[o,e,ex.2.1]
 |_=>show False.elim ty
def Vj (K:PySem.W.Frag) (T:String) (r:V->List V->Hp->VK->zb) (to:TE) (t:TA):TE:=λσ H Q=>to σ H λx H1=>ZG K T x H1 /\ t σ H1 λxs H2=>r x xs H2 Q
variable {id:String}
theorem Ce (pa:PlainAttrs T) (slot:Slot T name id) (adb:typeOf (.builtin id)=pure (.type "method_descriptor")) (hm:ac6 X id r) (ho:PE X o to) (ha:PA X (e::es) t)
 (vC:attributeBase o name X.env (eval o X.env)=eval o X.env:=by rfl)
 (Ed:((backTo dG<|starEach (e::es) X.env).all (λx=>!x.1)&&(backToKw dG<|keywordEach [] X.env).all (λx=>x.1.isSome)
  && decide ((e::es).length+([]:List Keyword).length+(if ([]:List Keyword).isEmpty then 0 else 1)<30))=ag:=by rfl)
 (qJ:(apos.endLine==dG.line)=ag:=by rfl) (hs:starEach (e::es) X.env=(af,eval e X.env)::starEach es X.env:=by rfl) (ade:(backTo dG<|starEach es X.env).any (·.1)=af:=by rfl) :
 PE X (.Call (.Attribute o name apos) (e::es) [] dG) (Vj X.K T r to t):=by
 intro pins s σ H Q I h;refine wpAny_Call_method_late vC Ed qJ za<|aX (ho pins s σ H _ I h) λv s1 x H1 I1 r1 hh=>?_;let#[ty,q1]:=hh;let#[h1,h2]:=Re I1 r1 ty;refine#[T,id,pa,slot,adb,h1,h2,?_];have hA:=ha dG pins s1 σ H1 _ I1 q1;rw[hs]at hA ⊢;show UH (by change (af||(backTo dG _).any _)=af;rw[ade]<;>rfl)<|UI<|nq hA λus s2 vs H2 I2 r2 q2=>hm pins s2 σ H2 x vs v us Q I2 r1 r2 q2
end
def IU (X:Cx) (id:String) (r:V->List V->Hp->VK->zb):zb:=
 ∀ (pins) (s) (σ:St) (H) (x) (xs) (v) (us) (Q),Inv X pins σ H s->RelV x v->Vals xs us->r x xs H Q ->
  wpAny (model X.prog X.w) X.A (call (.builtin id) (v::us)) (EP X pins σ Q) X.xe s
theorem Vals.one (h:Vals [x] us):∃ u,us=[u] /\ RelV x u:=by
 cases h with|cons r t=>cases t;show#[_,rfl,r]
theorem Vals.two (h:Vals [x,y] us):∃ u v,us=[u,v] /\ RelV x u /\ RelV y v:=by
 cases h with|cons r t=>let#[v,rfl,q]:=Vals.one t;show#[_,_,rfl,r,q]
theorem Rf {α:Type}{r}:∀ {l:List α},l.length<2->l.Pairwise r
 |[],_=>.nil
 |[_],_=>List.pairwise_singleton ..
theorem Vals.eraseIdx:∀ {xs}{us} (i),Vals xs us->Vals (xs.eraseIdx i) (us.eraseIdx i)
 |_,_,_,.nil=>.nil
 |_,_,0,.cons _ t=>t
 |_,_,i+1,.cons r t=>.cons r<|Vals.eraseIdx i t
theorem Vals.reverse (h:Vals xs us):Vals xs.reverse us.reverse:=by
 induction h with
 |nil=>show .nil
 |cons r t ih=>rw[HX,HX];show Vals.append ih<|.cons r .nil
theorem Vals.rep (h:Vals xs us):∀ k,Vals (List.replicate k xs).flatten (List.replicate k us).flatten:=by
 intro l_;induction l_ with
 |zero=>show .nil
 |succ k aA=>
   show Vals.append h<|aA
theorem AY {α:Type}:∀ (l:List α) (i),(l.eraseIdx i).length<=l.length
 |[],_=>aB _
 |_::_,0=>sU _
 |_::r,i+1=>Nat.succ_le_succ<|AY r i

theorem Inv.ZH {its:List au}(I:Inv X pins σ H s) (hH:H l=ae (.lst xs))
 (e:s.heap.get? l=ae { cls:=.type "list",data:=.seq its.toArray n }) (hf:f its.toArray=rW.toArray) (hv:Vals ys rW) (hz:ys.length<=sizeLine) :
 Inv X pins σ (upd H l<|.lst ys) { s with heap:=s.heap.update l (Obj.mapSeq f),toks:=t' }:=by
 have q:=PySem.IsL.update e f;rw[hf]at q;show I.write (by rw[hH];show trivial) (.inl za) (λb' u hb hu=>(Ym s.heap _<|Ne.symm hb).trans hu) #[_,q]<|#[hz,rW,_,hv,q]
theorem Inv.adf (I:Inv X pins σ H s) (hv:Vals ys its) (hz:ys.length<=sizeLine) :
 Inv X pins σ (upd H s.heap.objs.size<|.lst ys) { s with heap:=s.heap.push { cls:=.type "list",data:=.seq its.toArray },toks:=t' }:=
 I.laid (λ_ _ q=>aR _ q) (aB _) #[hz,its,0,hv,bD _ za]
theorem Inv.fresh (I:Inv X pins σ H s):H s.heap.objs.size=ah:=I.ay.fresh<|aB _
theorem Inv.xr (I:Inv X pins σ H s) (hH:H l=ae (.lst xs)):xs.length<=sizeLine /\ ∃ (its:List au) (n:Nat),Vals xs its /\ xs.length=its.length /\ s.heap.get? l=ae { cls:=.type "list",data:=.seq its.toArray n }:=by
 let#[z,its,n,r,e]:=I.ay l _ hH;show#[z,its,n,r,r.length,e]

def ZI:V->List V->Hp->VK->zb:=λx vs H Q=>∃ l xs y,x=.ref l /\ vs=[y] /\ H l=ae (.lst xs) /\ xs.length<sizeLine /\ Q .non (upd H l<|.lst<|xs++[y])
theorem mH:IU X "list.append" ZI:=by
 intro pins s σ H x vs v us Q I rx rv h;let#[l,xs,y,rfl,rfl,hH,hz,q]:=h;cases rx;let#[u,rfl,ru]:=rv.one;let#[z,its,n,r,hl,e]:=I.xr hH;refine wx F.slot_list_append #[_,e,rfl] F.entry_list_append (F.args_list_append_2 _ _) (PySem.list_append l its.toArray n u (by rw[bY];lia)) #[e,?_];refine#[.non,_,I.ZH hH e (by simp) (r.append<|.cons ru .nil) ?_,rfl,q];rw[bG,yG]
 lia
def ZJ:V->List V->Hp->VK->zb:=λx vs H Q=>∃ l xs i k y,x=.ref l /\ vs=[.int i] /\ H l=ae (.lst xs) /\ -(2 ^ 63)<=i /\ i<2 ^ 63 /\ seqIndex? i xs.length=ae k /\ xs[k]?=ae y /\ Q y (upd H l<|.lst<|xs.eraseIdx k)
theorem JG:IU X "list.pop" ZJ:=by
 intro pins s σ H x vs v us Q I rx rv h;let#[l,xs,i,k,y,rfl,rfl,hH,h1,h2,hk,hy,q]:=h;cases rx;let#[u,rfl,ru]:=rv.one;let#[t,rfl]:=ru;let#[z,its,n,r,hl,e]:=I.xr hH;let#[w,hw,nI]:=r.get hy;refine wx F.slot_list_pop #[_,e,rfl] F.entry_list_pop (F.args_list_pop_2 _ _)
  (aca l its.toArray n i t k w (fitsIndex_both h1 h2) (by rw[bY,<-hl];show hk) (by rw[<-k7];show hw) (by rw[bY];lia)) #[e,?_]
 refine#[y,_,I.ZH hH e ?_ (r.eraseIdx k) ?_,nI,q]
 .rw[List.eraseIdxIfInBounds_toArray]
 .have:=AY xs k
  lia
def ZK:R2:=λx y H Q=>∃ l b xs zs,x=.ref l /\ y=.ref b /\ H l=ae (.lst xs) /\ H b=ae (.lst zs) /\ xs.length+zs.length<=sizeLine /\ ∀ p,H p=ah->Q (.ref p) (upd H p<|.lst<|xs++zs)
theorem o8:bT X (binaryOp .Add) ZK:=by
 intro pins s σ H x y v u Q I rx ry h;let#[l,b,xs,zs,rfl,rfl,hH,hB,hz,q]:=h;cases rx;cases ry;let#[z,its,n,r,hl,e]:=I.xr hH;let#[z2,xq,n2,r2,se,e2]:=I.xr hB;refine PySem.P.add_list e e2 ?_ (by rw[bY,bY];lia);have ea:its.toArray++xq.toArray=(its++xq).toArray:=by simp
 rw[ea];show#[.ref _,_,I.adf (r.append r2) (by rw[bG];lia),rfl,q _ I.fresh]
end L2
namespace ZL
open PySem.W PySem.Calls
theorem ou:∀ (ns) (vs),WellAll P h vs (ns.map WData.int)->IntsAre vs ns:=by
 intro ns;induction ns with
 |nil=>
   intro vs w;cases w;show .nil
 |cons n ns ih=>
   intro vs w;cases w with
   |cons a b=>
     cases a;show .cons _ _<|ih _ b
theorem Gw {l:OpenLaw}(hn:l.most=ae n)
 (IV:l.row.toRowW.claim.pre args=ag) (Vk:WellAll P h vals args) :
 ∃ a vs ns,vals=[Value.ref a] /\ args=[WData.list<|ns.map WData.int] /\ h.get? a=ae { cls:=.type "list",data:=.seq vs.toArray } /\ IntsAre vs ns /\ ns.length<=n:=by
 have hc:l.pre.holds [] { args:=args }=ag:=(pre_splitW IV).2;let#[d,r,rfl,h1,h2]:=hasAllW_cons (pre_splitW IV).1;obtain rfl:=hasAllW_nil h2;let#[xs,rfl,h3]:=hasW_list h1;let#[ns,rfl]:=items_int h3;have hlen:ns.length<=n:=by
  have h4:(WTm.not<|.lt (.lit<|.int<|n)<|.len<|.arg 0).holds [] { args:=[.list<|ns.map .int] }=ag:=by
   have h4:=(holds_andW hc).1;rw[hn]at h4;show h4
  have h5:=condW_of h4<|w_not<|w_lt w_lit<|w_len_list<|w_arg za;refine vc λq=>?_;first
   |(show absurd h5 (rfl))
   |(simp at h5;lia)
 cases Vk with
 |cons w1 w2=>
   cases w2;cases w1 with
   |list ho n9=>show#[_,_,ns,rfl,rfl,ho,ou ns _ n9,hlen]
theorem Gx (l:OpenLaw) (args):l.row.toRowW.claim.post args (.bool ag) args=ag:=
 postW_of
  (by first|rfl|decide|simp[WShape.armsAll])
  (w_eq_bool (w_res za) w_lit) za
theorem adg {l:OpenLaw}
 (hn:l.most=ae n) (Vl:d.params.defaults=[])
 (call:∀ (w) (s₀ s₁) (mg mb) (fa) (o) (pm cd doc) (a) (vs) (ns),
  Ground q loose [] XP w s₀ mg mb s₁.heap->YP w s₁.heap ->
  s₁.heap.get? fa=ae o->o.data=.func (docDef d.name d.params d.body d.scope pm cd doc)->s₁.heap.CodeRec cd d.name->mg d.name=ae (.ref fa) ->
  s₁.heap.get? a=ae { cls:=.type "list",data:=.seq vs.toArray }->IntsAre vs ns->ns.length<=n->s₁.gens=#[] ->
  codeAny (model l.prog w) callerA (.call (.ref fa) #[[.ref a],[]]) (λr s'=>r=.ok (.ret<|.bool ag) /\ OldK s₁.heap s'.heap /\ s'.os=s₁.os /\ AllBare s'.gens) s₁) :
 WalkO q loose XP YP l.row.toRowW d [] (λf vs=>PySem.call f vs):=by
 intro w s₀ s₁ mg mb G Y fa o pm cd doc dV kV ho hd dj hD hmg hg args vals as IV ag5 ag6 Vk ag7;obtain rfl:dV=.none:=Dflts.none hD Vl;obtain rfl:kV=.none:=Dflts.noKw hD;let#[a,vs,ns,rfl,rfl,Vm,hints,hlen]:=Gw hn IV Vk;refine enter_call<|ue (call w s₀ s₁ mg mb fa o pm cd doc a vs ns G Y ho (fd_plain hd) dj hmg Vm hints hlen hg) λr s' hq=>?_;let#[rfl,h2,h3,h4]:=hq;show#[.inl #[.bool ag,.bool ag,[],rfl,λ_=>rfl,.bool ag,Gx l _,λ_=>#[List.Pairwise.nil,λ_ hm=>(nomatch hm)]],h2,h3,h4]
end ZL
namespace L2
theorem AZ:∀ {vs}{ns},IntsAre vs ns->Vals (ns.map V.int) vs
 |_,_,.nil=>.nil
 |_,_,.cons n t h=>.cons #[t,rfl]<|AZ h
def ZM (H:Hp):zb:=∀ b,H b=ah \/ ∃ o xs,H b=ae (.bA o<|.lst xs)
theorem JH {K}
 (KX:K.In s₁.heap) (cB:s₁.heap.Ns mainGlobals mg) (hb:s₁.heap.Ns builtinsNs mb) (adh:∀ x:Str,x ≠ "__name__"->mb x=bootBuiltins x) (adi:s₁.heap.NoLimit) (hg:s₁.gens=#[])
 (ha:s₁.heap.get? a=ae { cls:=.type "list",data:=.seq vs.toArray }) (hi:IntsAre vs ns) (hl:ns.length<=sizeLine) (hr:bH k callerA)
 (F:∀ base:aK,K.In base->base.Ns mainGlobals mg->cP P w K mg base CX k fa fd [x] sp) (adj:∀ (s) (u),BindsTo s fd #[[u],[]] [(x,u)])
 (pM:∀ H,ZM H->bN K H a (ns.map V.int)->sp [.ref a] H (λv _=>v=.bl ag) λ_ _ _=>False)
 (adk:∀ H e s',CX [] H s₁ (λ_ _ _=>False) e s'->False) :
 codeAny (model P w) callerA (.call (.ref fa) #[[.ref a],[]]) (λr s'=>r=.ok (.ret<|.bool ag) /\ OldK s₁.heap s'.heap /\ s'.os=s₁.os /\ AllBare s'.gens) s₁:=by
 have rv:=AZ hi;have adl:=hi.length
 have core:∀ H,ZM H->bN K H a (ns.map V.int)->cq P w H s₁.heap->(∀ b,H b≠ah->b=a)->(H a≠ah->K.lookup a=ah) ->
  codeAny (model P w) callerA (.call (.ref fa) #[[.ref a],[]]) (λr s'=>r=.ok (.ret<|.bool ag) /\ OldK s₁.heap s'.heap /\ s'.os=s₁.os /\ AllBare s'.gens) s₁:=by
  intro H hO hS ay hA hK
  have iD:∀ {b}{o},s₁.heap.get? b=ae o->H b=ah->(xa s₁.heap H).get? b=ae o:=λe n=>(λe n=>PySem.W.hideAll_get _ e λhm=>by
   have q:=(List.mem_filter.mp hm).2;rw[n]at q;simp at q) e n
  have Ec:∀ {b}{o}{es}{ep},s₁.heap.get? b=ae o->o.data=.dict es ep->H b=ah:=λ{b o es ep} e d=>by
   cases q:H b with
   |none=>rfl
   |some u=>
     have e':=hA b (by rw[q];simp);subst e';rw[ha]at e;cases e;have d':=d;cases d'
  have IW:∀ {b}{m},s₁.heap.Ns b m->(xa s₁.heap H).Ns b m:=λ{b m} ⟨o,es,ep,e,d,r⟩=>#[o,es,ep,iD e<|Ec e d,d,r];have ZN:=λb o e=>iD (KX b o e) (by
   cases q:H b with
   |none=>rfl
   |some u=>
     have e':=hA b (by rw[q];simp);subst e';rw[hK (by rw[q];simp)]at e;cases e)
  have hM:Mod K mg (xa s₁.heap H):=#[ZN,IW cB,#[mb,IW hb,adh],let ⟨mc,h1,h2⟩:=adi;#[mc,IW h1,h2]];have e0:uu P w K mg (xa s₁.heap H) callerA [] s₁ H:=#[rfl,hM,λb o e=>MT e,wC<|(λh H=>PySem.W.hideAll_size _ _) _ _,trivial,λb hb=>absurd (show b∈([]) from hb) (by simp),ay,.of_eq hg];refine ue ((F _ ZN<|IW cB).run callerA [] s₁ H #[[.ref a],[]] [.ref a] [.ref a] _ _ hr e0 (adj s₁<|.ref a) (.cons za .nil)<|pM H hO hS) λr s' h=>?_;cases r with
  |error e=>show(adk H e s' h).elim
  |ok fl=>
    cases fl with
    |ret u=>
      let#[v,H',os,bare,un,adm,r',q]:=h;have q':=q;subst q';obtain rfl:u=Value.bool ag:=r';refine#[rfl,OldK.of_keep λb o e=>?_,os,bare];cases q:H b with
      |none=>show un.keep b o e q (by intro z;show absurd (show b∈([]) from z) (by simp)) (by simp)
      |some u=>
        rcases hO b with z|⟨ob,xs,z⟩
        .rw[q]at z;cases z
        .have z2:=un.k8 b ob _ z;let#[e1,_]:=ay b _ z;let#[e2,_]:=adm b _ z2;rw[e]at e1;cases e1;show e2
    |_=>show False.elim h
 cases hk:K.lookup a with
 |some o=>
   have e:=KX a o hk;rw[ha]at e;cases e;refine core (λ_=>ah) (λ_=>.inl za) (.inr #[_,vs.toArray,_,hk,rfl,rfl,rfl,by rw[bY,adl];show hl,by simpa using rv]) (λb u z=>by have z':=z;cases z') (λb z=>absurd rfl z) λz=>absurd rfl z
 |none=>
   refine core (λb=>if b=a then ae (.bA { cls:=.type "list",data:=.seq vs.toArray }<|.lst<|ns.map V.int) else ah) (λb=>?_) (.inl<|.inr #[{ cls:=.type "list",data:=.seq vs.toArray },if_pos za]) (λb u z=>?_) (λb z=>?_) λ_=>hk
   .by_cases hb:b=a
    .show .inr #[_,_,if_pos hb]
    .show .inl<|if_neg hb
   .by_cases hb:b=a
    .have z':=(if_pos hb).symm.trans z;cases z';subst hb;show#[ha,by rw[aV];show hl,vs,_,rv,ha]
    .have z':=(if_neg hb).symm.trans z;cases z'
   .by_cases hb:b=a
    .show hb
    .show absurd (if_neg hb) z
noncomputable abbrev ag8 {K:PySem.W.Frag}{h}(_:K.In h):PySem.W.Frag:=K
noncomputable def inClass (s:bJ) (j:Nat):bJ:=match s with
 |.ClassDef _ _ _ body _ _ _ _ _ _ _=>body.getD j<|.Pass #[0,0,0,0]
 |_=>.Pass #[0,0,0,0]
noncomputable def gX (s:bJ):Arguments:=match s with
 |.FunctionDef _ a _ _ _ _ _ _ _ _=>a
 |_=>{ posonlyargs:=[],args:=[],vararg:=ah,kwonlyargs:=[],kw_defaults:=[],kwarg:=ah,defaults:=[] }
noncomputable def gf (s:bJ):List bJ:=match s with
 |.FunctionDef _ _ b _ _ _ _ _ _ _=>b
 |_=>[]
noncomputable def fG (s:bJ):eZ:=match s with
 |.FunctionDef _ _ _ _ _ _ sc _ _ _=>sc
 |_=>{ kind:=.function,names:=[],isGenerator:=af,isCoroutine:=af }
abbrev qK:ur:=λ_ _ _ _ _ _=>False
noncomputable abbrev E0:XK:=λ_ _ _=>False
theorem adn:Passes qK X E0:=λ_ _ _ _ _ _ _ h=>h.elim
structure dU (K:PySem.W.Frag) (x qual:Str) (st:bJ) (f:ai) (fd:FuncData):zb where
 ex:∃ (oc:au) (od:Option ai) (kV doc pm:au) (an:Option ai) (cdv ct:au) (pL:Array<|Option au),
  fd=PySem.W.fnOf x qual (gX st) (gf st) (fG st) .none kV doc pm an cdv ct /\ K.lookup f=ae #[oc,od,.func fd,pL] /\ PySem.W.codeIn K cdv qual=ag
 kp:PySem.W.keepIn K (.ref f)=ag
section
variable {K:PySem.W.Frag}
theorem dU.ok {st}(F:dU K x qual st f fd) (S:qI N ps<|fG st) (len:∀ vs H Q E,sp vs H Q E->vs.length=ps.length)
 (nJ:∀ (cdv) (A) (outer) (s) (H) (vs) (Q) (E),bH k (A.deeper<|envOfC qual (fG st) s.heap.objs.size f cdv)->sp vs H Q E ->
  ∃ t,cX (qm qK P w K mg base N qual (fG st) f cdv A outer s H E).sZ (gf st) t /\ t { nx:=λ_ H'=>Q .non H',rt:=Q } (start N vs) H):cP P w K mg base qK (k+1) f fd ps sp:=by
 let#[oc,od,kV,doc,pm,an,cdv,ct,pL,rfl,lk,dj]:=F.ex;refine O9 lk dj S len λA outer s H vs Q E hr pM=>?_;let#[t,h,q]:=nJ cdv A outer s H vs Q E hr pM;show#[t,h.sZ,q]
theorem dU.binds {st}(F:dU K x qual st f fd)
 (h:∀ (kV doc pm) (an) (cdv ct) (us),us.length=ps.length->bindArgs (PySem.W.fnOf x qual (gX st) (gf st) (fG st) .none kV doc pm an cdv ct) #[us,[]]=pure (ps.zip us)):Binds K fd ps []:=by
 let#[oc,od,kV,doc,pm,an,cdv,ct,pL,rfl,lk,dj]:=F.ex;show .all<|h kV doc pm an cdv ct
theorem Bw {st}{kV}(l:K.lookup f=ae #[oc,od,.func<|PySem.W.fnOf x qual (gX st) (gf st) (fG st) .none kV doc pm an cdv ct,pL])
 (c:PySem.W.codeIn K cdv qual=ag) (k:PySem.W.keepIn K (.ref f)=ag):dU K x qual st f (PySem.W.fnOf x qual (gX st) (gf st) (fG st) .none kV doc pm an cdv ct):=#[#[oc,od,kV,doc,pm,an,cdv,ct,pL,rfl,l,c],k]
end
theorem IX (h:n<=1000):n<sizeLine:=vd h (by decide)

theorem pv (i) (hN:X.N[i]?=ae x:=by rfl) (hv:qB X.env.scope x:=by first|show Or.inl za|show Or.inr _|show Or.inr _) (hd:(x==("__debug__"))=af:=by decide)
 (dj:(x==("__classdict__"))=af:=by decide):PE X (.Name x pos) (Zi i):=mD hN hv hd dj
theorem ZO {B:zb}(h:B):if af=ag then A else B:=by
 show h
def eJ (H H':Hp):zb:=∀ b o,H b=ae o->H' b=ae o
theorem eJ.free (e:eJ H H') (h:H' l=Option.none):H l=Option.none:=by
 cases q:H l with
 |none=>rfl
 |some o=>
   rw[e l o q]at h;cases h
noncomputable def eK (cells:List<|Str×ai):List (Str×NameKind)->List (Str×ai)->List (Str×ai)
 |[],acc=>acc
 |(n,k)::r,acc=>eK cells r (if k==.free then (match cells.lookup n with|some c=>(n,c)::acc|none=>acc) else acc)
theorem jq:∀ (names) (acc),(∀ y∈names,y.2=.free->∃ c,env.cells.lookup y.1=ae c) ->
 (forIn names acc λ(x) (r)=>(match x with
  |(name,kind)=>if (kind==NameKind.free)=ag then (do let a <-cellOf env name;pure (ForInStep.yield ((name,a)::r))) else pure (ForInStep.yield r)))=(pure (eK env.cells names acc):Sem _)
 |[],acc,_=>rfl
 | (n,k)::r,acc,h=>by
   rw[wK];by_cases hk:k=.free
   .subst hk;let#[c,e]:=h (n,.free) bM za;have e':=e;have e1:cellOf env n=pure c:=by unfold cellOf;rw[e']
    dsimp only;rw[if_pos (by decide),e1];have z:eK env.cells ((n,NameKind.free)::r) acc=eK env.cells r ((n,c)::acc):=by
     change eK env.cells r _=_;rw[if_pos (by decide),e']
    rw[z,<-(jq r _ λy hy=>h y<|bC _ hy)];rfl
   .dsimp only;have hb:(k==NameKind.free)=af:=by simpa using hk
    rw[if_neg (by rw[hb];decide)];have z:eK env.cells ((n,k)::r) acc=eK env.cells r acc:=by
     change eK env.cells r _=_;rw[if_neg (by rw[hb];decide)]
    rw[z,<-(jq r acc λy hy=>h y<|bC _ hy)];rfl
theorem Dl (h:∀ y∈scope.names,y.2=.free->∃ c,env.cells.lookup y.1=ae c):closureFor scope env=pure (eK env.cells scope.names []):=by
 have q:=jq scope.names [] h;unfold closureFor;first
  |show q
  |(dsimp only;rw[q];rfl)
  |(rfl)
theorem Cg:∀ (names) (acc),(∀ x c,acc.lookup x=ae c->cells.lookup x=ae c)->∀ x c,(eK cells names acc).lookup x=ae c->cells.lookup x=ae c
 |[],_,h=>h
 | (n,k)::r,acc,h=>by
   refine Cg r _ ?_;intro x c e;by_cases hk:(k==NameKind.free)=ag
   .rw[if_pos hk]at e;cases q:cells.lookup n with
    |none=>rw[q]at e;show h x c e
    |some a=>
      rw[q]at e;have e':=e;rw[eX]at e';cases hx:x==n with
      |true=>rw[hx]at e';rw[eq_of_beq hx,q];show e'
      |false=>rw[hx]at e';show h x c e'
   .rw[if_neg hk]at e;show h x c e
theorem Ch:∀ (names) (acc) (x),((∃ c,acc.lookup x=ae c) \/ ((x,NameKind.free)∈names /\ ∃ c,cells.lookup x=ae c))->∃ c,(eK cells names acc).lookup x=ae c
 |[],_,x,h=>h.elim id λz=>nomatch z.1
 | (n,k)::r,acc,x,h=>by
   refine Ch r _ x ?_;rcases h with⟨c,e⟩|⟨hm,c,e⟩
   .left;by_cases hk:(k==NameKind.free)=ag
    .rw[if_pos hk];cases q:cells.lookup n with
     |none=>show#[c,e]
     |some a=>
       rw[eX];cases hx:x==n with
       |true=>show#[a,rfl]
       |false=>show#[c,e]
    .rw[if_neg hk];show#[c,e]
   .rcases a9.mp hm with z|z
    .have z1:=congrArg Prod.fst z;have z2:NameKind.free=k:=congrArg Prod.snd z;subst z1;subst z2;left;rw[if_pos (by decide),e];show#[c,by rw[eX,beq_self_eq_true]]
    .show .inr #[z,c,e]
theorem lH {env:Env}:∀ (names:List<|Str×NameKind) (x:Str) (k':NameKind),
 (names.map λ(n,k)=>if (k==NameKind.free&&env.scope.kind==.function&&env.kindOf n==ae .cell) then (n,NameKind.cell) else (n,k)).lookup x=ae k' ->
 ∃ k,names.lookup x=ae k /\ (k'=k \/ (k=.free /\ k'=.cell))
 |[],_,_,h=>by simp at h
 | (n,k)::r,x,k',h=>by
   have h':List.lookup x ((if (k==NameKind.free&&env.scope.kind==.function&&env.kindOf n==ae .cell)=ag then (n,NameKind.cell) else (n,k))::(r.map λ(n,k)=>if (k==NameKind.free&&env.scope.kind==.function&&env.kindOf n==ae .cell) then (n,NameKind.cell) else (n,k)))=ae k':=h;by_cases hc:(k==NameKind.free&&env.scope.kind==.function&&env.kindOf n==ae .cell)=ag
   .rw[if_pos hc,eX]at h';rw[eX];cases hx:x==n with
    |true=>
      rw[hx]at h';have hk:k=.free:=by
       cases hq:(k==NameKind.free) with
       |true=>show eq_of_beq hq
       |false=>rw[hq]at hc;simp at hc
      show#[k,rfl,.inr #[hk,(Option.some.inj h').symm]]
    |false=>rw[hx]at h';show lH r x k' h'
   .rw[if_neg hc,eX]at h';rw[eX];cases hx:x==n with
    |true=>rw[hx]at h';show#[k,rfl,.inl (Option.some.inj h').symm]
    |false=>rw[hx]at h';show lH r x k' h'
theorem jr {env:Env}:∀ (names:List<|Str×NameKind) (x:Str),names.lookup x=ae .free ->
 (names.map λ(n,k)=>if (k==NameKind.free&&env.scope.kind==.function&&env.kindOf n==ae .cell) then (n,NameKind.cell) else (n,k)).lookup x=ae .cell \/
 (names.map λ(n,k)=>if (k==NameKind.free&&env.scope.kind==.function&&env.kindOf n==ae .cell) then (n,NameKind.cell) else (n,k)).lookup x=ae .free
 |[],_,h=>by simp at h
 | (n,k)::r,x,h=>by
   change List.lookup x ((if (k==NameKind.free&&env.scope.kind==.function&&env.kindOf n==ae .cell)=ag then (n,NameKind.cell) else (n,k))::_)=_ \/ List.lookup x ((if (k==NameKind.free&&env.scope.kind==.function&&env.kindOf n==ae .cell)=ag then (n,NameKind.cell) else (n,k))::_)=_;rw[eX]at h;by_cases hc:(k==NameKind.free&&env.scope.kind==.function&&env.kindOf n==ae .cell)=ag
   .rw[if_pos hc,eX];cases hx:x==n with
    |true=>show .inl za
    |false=>rw[hx]at h;show jr r x h
   .rw[if_neg hc,eX];cases hx:x==n with
    |true=>rw[hx]at h;show .inr h
    |false=>rw[hx]at h;show jr r x h
theorem io:∀ (names) (n) (acc),cellsFrom n names acc=cellsFrom n names []++acc
 |[],_,_=>rfl
 | (x,k)::r,n,acc=>by
   unfold cellsFrom;split
   .rw[io r _ _,io r _ [(x,n)],vi];rfl
   .show io r n acc
theorem mI:∀ (names) (n) {x}{c},(x,c)∈cellsFrom n names []->(x,NameKind.cell)∈names
 |[],_,_,_,h=>nomatch h
 | (y,k)::r,n,x,c,h=>by
   unfold cellsFrom at h;split at h
   .ext hk;rw[io]at h;rcases dZ.mp h with h|h
    .show bC _<|mI r _ h
    .cases eY.mp h;rw[<-eq_of_beq hk];show bM
   .show bC _<|mI r _ h
theorem o9 {α:Type}:∀ {l:List (Str×α)}{x}{a b},(l.map (·.1)).Nodup->(x,a)∈l->(x,b)∈l->a=b
 | (y,c)::l,x,a,b,h,ha,hb=>by
   rw[aQ,rO]at h;rcases a9.mp ha with e|ha<;>rcases a9.mp hb with e'|hb
   .rw[<-e']at e;show(Prod.mk.inj e).2
   .show absurd (bc.mpr #[_,hb,(Prod.mk.inj e).1]) h.1
   .show absurd (bc.mpr #[_,ha,(Prod.mk.inj e').1]) h.1
   .show o9 h.2 ha hb
theorem js {α:Type}:∀ {l m:List (Str×α)},(l++m).lookup x=match l.lookup x with|some a=>ae a|none=>m.lookup x
 |[],m=>rfl
 | (y,a)::l,m=>by
   rw[vj,eX,eX];cases x==y with
   |true=>rfl
   |false=>show js
theorem Dm
 (h:Q { scope:=scope,locals:=s.heap.objs.size,globals:=globals,cells:=cellsFrom (s.heap.objs.size+1) scope.names cl,qual:=qual,func:=ah,code:=env.code,frame:=env.frame,builtins:=env.builtins }
  { s with heap:=pushCells (s.heap.push { cls:=.type "dict",data:=.dict #[] }) scope.names }) :
 wpAny M A (newFunctionEnv scope globals cl [] qual ah .none<|ae env) Q E s:=by
 refine ak<|Xe<|ak<|wpAny_layCells _ (λname kind cells=>by cases hk:kind==NameKind.cell<;>simp[hk]) _ _ _ _ ?_;rw[rQ ..];show ak<|ax<|ax h
noncomputable abbrev Cx.comp (X:Cx) (N:List Str) (scope:eZ) (cl:List<|Str×ai) (s:aI) (H:Hp) (C:ai) (fp:List ai):Cx:=
 { X with N:=N,s₀:=s,H₀:=H,env:=compEnvC scope cl C X.env,outer:=X.stack,stack:=X.stack,ex:=fp,fn:=λx=>decide (scope.names.lookup x=ae .cell),pn:=[],xe:=λ_ _=>False }
structure sf (X:Cx) (N:List Str) (src:List<|Option Nat) (scope:eZ):zb where
 kind:scope.kind=.function
 nk:(scope.names.map (·.1)).Nodup
 names:∀ y∈scope.names,y.2=.local->scope.names.lookup y.1=ae .local
 has:∀ y∈scope.names,y.2=.free->X.env.kindOf y.1=ae .cell \/ X.env.kindOf y.1=ae .free
 ado:src.length=N.length
 adp:∀ (j i:Nat) (x:Str),src[j]?=ae (ae i)->N[j]?=ae x->X.N[i]?=ae x /\ scope.names.lookup x=ae .free
noncomputable def uA (src:List<|Option Nat) (σ:St):St:=src.map λo=>o.bind λi=>(σ[i]?).bind id
def PF (X:Cx) (ifs:List aD) (t:TT):zb:=
 ∀ (pins) (s) (σ:St) (H) (Q),Inv X pins σ H s->t σ H Q ->
  wpAny (model X.prog X.w) X.A (forIn ifs ag λc r=>if r=ag then do let ok <-isTrue c X.env (eval c X.env);pure (ForInStep.yield ok) else pure (ForInStep.yield r)) (TP X pins σ Q) X.xe s
theorem Rg:PF X [] (λ_ H Q=>Q ag H):=λ_ _ _ H _ I h=>wpAny_tests_nil #[H,I,h]
theorem Rh (h:PT X c t):PF X [c] t:=λpins s σ H Q I hw=>wpAny_tests_one<|h pins s σ H Q I hw
def ZP (J:It) (g:TG) (tf:TT) (te:TE) (D:ai) (Q:VK) (σ0:St) (H0:Hp):zb:=
 ∃ W:Nat->Nat->St->Hp->zb,(∃ m,W 0 m σ0 H0) /\ ∀ i m σ' H',W i m σ' H' ->
  (J.stop i H' /\ Q (.ref D) H') \/ (J.go i H' /\ ∃ N:St->Hp->zb,(∀ σ2 H2,N σ2 H2->∃ m',m'<m /\ W (i+1) m' σ2 H2) /\ ∀ x H2,J.IC i H' x H2->g x σ' H2 λσ2 H3=>tf σ2 H3 λb H4=>
   if b=ag then te σ2 H4 λy H5=>∃ ys,H5 D=ae (.lst ys) /\ ys.length<sizeLine /\ N σ2 (upd H5 D<|.lst<|ys++[y]) else N σ2 H4)
def Ee (src:List<|Option Nat) (wi:TI) (g:TG) (tf:TT) (te:TE):TE:=λσ H Q=>wi σ H λJ H1=>∀ D,H1 D=ah->ZP J g tf te D Q (uA src σ) (upd H1 D<|.lst [])

noncomputable abbrev xt (P:cS) (w:cg) (A:di) (env:Env) (R:Result->aI->zb):au->aI->zb:=
 notedBy (model P w) A env λx z=>R (.error x) z
noncomputable abbrev adq (ifs:List aD) (env:Env):Sem Bool:=
 forIn ifs ag λc r=>if r=ag then do let ok <-isTrue c env (eval c env);pure (ForInStep.yield ok) else pure (ForInStep.yield r)
theorem By
 (J:Nat->aI->zb) (N:au->Nat->aI->zb)
 (hN:∀ v n z,N v n z->wpAny (model prog w) A (letOwnedTupleGo tg it v) (λ_ z1=>
  wpAny (model prog w) A (assign tg env v) (λ_ z2=>
  wpAny (model prog w) A (adq ifs env) (λb z3=>
   if b=ag then wpAny (model prog w) A (eval elt env) (λy z4=>
    wpAny (model prog w) A (call (.builtin "list.append") [acc,y])
     (λ_ z5=>∃ k,k<n /\ J k z5) (xt prog w A env R) z4) (xt prog w A env R) z3
   else ∃ k,k<n /\ J k z3)
   (xt prog w A env R) z2) (xt prog w A env R) z1) (xt prog w A env R) z)
 (go:∀ n z,J n z->wpAny (model prog w) A (pyNext it)
  (λr z1=>match r with|none=>R (.ok .next) z1|some v=>N v n z1) (xt prog w A env R) z)
 (n) (h:J n s) :
 codeAny (model prog w) A (.compLoop (.ListComp elt [#[tg,iter,ifs,0]] scope pos) 0 it acc env) R s:=by
 refine codeAny_loop za J (λk z hz=>?_) n h;refine wpAny_noted ?_;rw[compTurn_list];refine ak<|HJ<|ak ?_;refine kq (go k z hz) (λr z1 h1=>?_) λ_ _ q=>q;cases r with
 |none=>show ax h1
 |some v=>
   refine ak<|kq (hN v k z1 h1) (λ_ z2 h2=>ak ?_) λ_ _ q=>q;refine kq h2 (λ_ z3 h3=>ak ?_) λ_ _ q=>q;refine kq h3 (λb z4 h4=>?_) λ_ _ q=>q;cases b with
   |false=>show ax #[rfl,h4]
   |true=>
     show ak<|ak<|kq h4 (λy z5 h5=>ak<|kq h5 (λ_ z6 h6=>ax<|ax #[rfl,h6]) λ_ _ q=>q) λ_ _ q=>q

theorem sf.cells (S:sf X N src scope) (ok:X.Ok):∀ y∈scope.names,y.2=.free->∃ c,X.env.cells.lookup y.1=ae c:=
 λy hy hf=>ok.has y.1<|S.has y hy hf
theorem Ci:∀ (names) (acc),(x,c)∉acc->(x,c)∈eK cells names acc->(x,NameKind.free)∈names
 |[],_,h,e=>absurd e h
 | (n,k)::r,acc,h,e=>by
   by_cases hx:x=n /\ k=.free
   .let#[rfl,rfl]:=hx;show bM
   .refine bC _<|Ci r _ ?_ e;by_cases hk:(k==NameKind.free)=ag
    .rw[if_pos hk];cases q:cells.lookup n with
     |none=>show h
     |some a=>
       intro z;rcases a9.mp z with z|z
       .show hx #[(Prod.mk.inj z).1,eq_of_beq hk]
       .show h z
    .rw[if_neg hk];show h
theorem JI
 (S:sf X N src scope) (I:Inv X pins σ H s) (Vn:∀ b∈fp,qk X pins H b /\ b<s.heap.objs.size) (hh:s'={ s with heap:=pushCells (s.heap.push { cls:=.type "dict",data:=.dict #[] }) scope.names }) :
 Inv (X.comp N scope (cellsFrom (s.heap.objs.size+1) scope.names<|eK X.env.cells scope.names []) s H s.heap.objs.size fp) [] (uA src σ) H s':=by
 subst hh;have hk:∀ b o,s.heap.get? b=ae o->(pushCells (s.heap.push { cls:=.type "dict",data:=.dict #[] }) scope.names).get? b=ae o:=λb o e=>Qp _ _ b o<|aR _ e;have ok:=cellsFrom_ok scope.names (s.heap.push { cls:=.type "dict",data:=.dict #[] }) _ [] #[λ_ _ hm=>(nomatch hm),List.Pairwise.nil] (by rw[rQ];show aB _);rw[rQ]at ok;have split:∀ x c,(cellsFrom _ scope.names<|eK X.env.cells scope.names []).lookup x=ae c->(cellsFrom _ scope.names []).lookup x=ae c \/ (eK X.env.cells scope.names []).lookup x=ae c:=λx c e=>by
  rw[io,js]at e;cases q:(cellsFrom (s.heap.objs.size+1) scope.names []).lookup x with
  |some a=>rw[q]at e;show .inl e
  |none=>rw[q]at e;show .inr e
 have own:∀ x c,(cellsFrom _ scope.names []).lookup x=ae c->s.heap.objs.size<c /\ (pushCells _ scope.names).IsCell c ah:=λx c e=>by
  let#[a,b]:=ok.empty x c<|nT e;show#[b,a]
 have far:∀ x,scope.names.lookup x=ae .free->(cellsFrom _ scope.names<|eK X.env.cells scope.names []).lookup x=(eK X.env.cells scope.names []).lookup x:=λx e=>by
  rw[io,js];cases q:(cellsFrom (s.heap.objs.size+1) scope.names []).lookup x with
  |some a=>show absurd (o9 S.nk (nT e)<|mI _ _<|nT q) (by decide)
  |none=>rfl
 have low:∀ x c,X.env.cells.lookup x=ae c->c<s.heap.objs.size:=λx c e=>by
  let#[v,o,ho,_]:=I.cell x c e;show bb ho
 have sub:=Cg (cells:=X.env.cells) scope.names [] (λx c e=>by simp at e);have ads:∀ x,((relabel scope X.env).names.lookup x=ae .cell \/ (relabel scope X.env).names.lookup x=ae .free)->scope.names.lookup x=ae .free \/ scope.names.lookup x=ae .cell:=λx hx=>by
  have go:∀ k',(k'=NameKind.cell \/ k'=NameKind.free)->(relabel scope X.env).names.lookup x=ae k'->scope.names.lookup x=ae .free \/ scope.names.lookup x=ae .cell:=λk' qL e=>by
   let#[k,e1,q]:=lH scope.names x k' e;rcases q with q|⟨q,_⟩
   .subst q;rcases qL with z|z
    .subst z;show .inr e1
    .subst z;show .inl e1
   .subst q;show .inl e1
  show hx.elim (go _<|.inl za)<|go _<|.inr za
 have ZQ:∀ x,scope.names.lookup x=ae .free->∃ c,(eK X.env.cells scope.names []).lookup x=ae c /\ X.env.cells.lookup x=ae c:=λx e=>by
  have hm:=nT e;let#[c,e1]:=Ch scope.names [] x<|.inr #[hm,S.cells I.ok (x,.free) hm za];show#[c,e1,sub x c e1]
 refine#[#[I.ok.mod,(S.kind),I.ok.glob,I.ok.blt,aB _,λx y c e1 e2=>?_,λx hx=>?_,λx c e=>?_,I.ok.hd,I.ok.frames,.inl za,λb hb=>?_,I.bs,cu I.ok.rS I.sz,λb o e hb=>?_,λb hb=>?_,I.stack,I.UX],
  rfl,I.bare,Un.kept hk,#[_,((Heap.Ns.new s.heap<|.type "dict").keeps<|Qp _ _),λj x v e1 e2 e3=>?_],λx c e=>?_,I.ay.fresh<|aB _,λx c e=>?_,λp hp=>absurd (hp) (by simp),I.ay.kept hk,?_]
 .rcases split x c e1 with q1|q1<;>rcases split y c e2 with q2|q2
  .show W8 ok.apart (nT q1)<|nT q2
  .show absurd (ve (own x c q1).1<|low y c<|sub y c q2)<|eW _
  .show absurd (ve (own y c q2).1<|low x c<|sub x c q1)<|eW _
  .show I.ok.inj x y c (sub x c q1)<|sub y c q2
 .rcases ads x hx with k|k
  .let#[c,e1,_]:=ZQ x k;show#[c,(far x k).trans e1]
  .let#[c,e1]:=oX k;refine#[c,?_];change (cellsFrom (s.heap.objs.size+1) scope.names<|eK X.env.cells scope.names []).lookup x=ae c;rw[io,js,e1]
 .intro hl;rcases split x c hl with q|q
  .show kK (own x c q).1
  .show absurd (o9 S.nk (nT<|of_decide_eq_true e)<|Ci _ _ (by simp)<|nT q) (by decide)
 .let#[f,hl]:=Vn b hb;refine#[bS hl,λx c e=>?_];rcases split x c e with q|q
  .show yF<|ve hl (own x c q).1
  .show f.2.2.2.2.1 x c<|sub x c q
 .let#[f,_]:=Vn b hb;let#[_,_,_,f4,_]:=f;rcases f4 with z|z
  .show I.ok.xc b o e z
  .show absurd (dM (bb (I.ok.bs b o e).1) z)<|eW _
 .let#[f,_]:=Vn b hb;intro hz;rcases a9.mp (I.xg b hz) with e|e
  .show f.2.1 e
  .show f.2.2.1 e
 .have hs:∃ i,src[j]?=ae (ae i) /\ σ[i]?=ae (ae v):=by
   have tF:(src.map λo=>o.bind λi=>(σ[i]?).bind id)[j]?=ae (ae v):=e2;rw[nV]at tF;cases q:src[j]? with
   |none=>rw[q]at tF;cases tF
   |some o=>
     rw[q]at tF;cases o with
     |none=>cases tF
     |some i=>
       refine#[i,rfl,?_];have IZ:(σ[i]?).bind id=ae v:=Option.some.inj tF;cases z:σ[i]? with
       |none=>rw[z]at IZ;cases IZ
       |some o'=>
         rw[z]at IZ;have:o'=ae v:=IZ;rw[this]
  let#[i,adt,hσ]:=hs;let#[hN,nu]:=S.adp j i x adt e1;have ZR:=S.has (x,.free) (nT nu) za;let#[m,_,hl]:=I.loc;let#[u,r,lk]:=hl i x v hN hσ<|.inr ZR;refine#[u,r,?_];rcases lk with⟨k,_⟩|⟨_,c,ec,Iz⟩
  .rcases ZR with z|z
   .rw[z]at k;cases k
   .rw[z]at k;cases k
  .let#[c',nK,tF]:=ZQ x nu;have:c'=c:=by rw[ec]at tF;show(Option.some.inj tF).symm
   subst this;refine .inr #[(jr scope.names x nu),c',(far x nu).trans nK,?_]
   .let#[o,ho,hd]:=Iz;show#[o,hk _ _ ho,hd]
 .rcases split x c e with q|q
  .show#[ah,(own x c q).2]
  .let#[v,o,ho,hd]:=I.cell x c<|sub x c q;show#[v,o,hk _ _ ho,hd]
 .rcases split x c e with q|q
  .show I.ay.fresh<|kK (own x c q).1
  .show I.nH x c<|sub x c q
 .change (uA src σ).length=N.length;unfold uA;rw[aV];show S.ado
theorem A0 {N:List Str}{src:List (Option Nat)}{elt tg iter:aD}{ifs:List aD}{scope:eZ}{pos:Pos}{wi:TI}{g:TG}{tf:TT}{te:TE}{use:Option (au->Sem Unit)}{Q':au->aI->zb}{pins:List (ai×Obj)}{s:aI}{σ:St}{H:Hp}{Q:VK}
 (hc:X.calm=ag) (S:sf X N src scope) (hi:PI X tg iter wi)
 (hg:∀ cl s H C fp,PG (X.comp N scope cl s H C fp) tg g) (hf:∀ cl s H C fp,PF (X.comp N scope cl s H C fp) ifs tf) (he:∀ cl s H C fp,PE (X.comp N scope cl s H C fp) elt te)
 (hs:∀ x,foldedSetIterable iter X.env x=pure x) (I:Inv X pins σ H s) (h:Ee src wi g tf te σ H Q)
 (adu:∀ (D C:ai) (s3 s6:aI) (H3 H5:Hp) m,Inv X pins σ H3 s3->s3.heap.objs.size=C->H5 C=ah->s6.heap.Ns C m->(∀ h',Heap.SameBut C s6.heap h'->Inv X pins σ H5 { s6 with heap:=h' })->Q (.ref D) H5->∀ {r},compPost (model X.prog X.w) X.A X.xe use Q' (.ref D) C (.ok r) s6) :
 wpAny (model X.prog X.w) X.A (comprehension (.ListComp elt [#[tg,iter,ifs,0]] scope pos) scope X.env (firstIterPos [#[tg,iter,ifs,0]] pos) (newList []) af (firstIter [#[tg,iter,ifs,0]] X.env) use) Q' X.xe s:=by
 refine wpAny_comprehension_free (g:=#[tg,iter,ifs,0]) (gs:=[]) za hs (Dl<|S.cells I.ok) S.kind S.names<|cJ (hi pins s σ H _ I h) λxv s1 h1=>cJ h1 λU4 s2 h2=>?_;let#[it,fp,tn,J,H2,e,I2,T,IE,f2,hW]:=h2;subst e;refine qy ?_;generalize hD:s2.heap.objs.size=D;have I3:Inv X pins σ (upd H2 D<|.lst []) { s2 with heap:=s2.heap.push { cls:=.type "list",dict:=ah,data:=.seq ([]).toArray } }:=by
  subst hD;show I2.laid (λb u e=>aR _ e) (aB _) #[dA _,[],0,.nil,bD _ za]
 let#[W,#[m0,w0],turn]:=hW D<|I2.ay.fresh<|wC hD;have up:∀ b o,s2.heap.get? b=ae o->(s2.heap.push { cls:=.type "list",dict:=ah,data:=.seq ([]).toArray }).get? b=ae o:=λb u e=>aR _ e;have yY:=T.keep _ _ _ IE λb _ o e=>up b o e;have ZS:∀ b∈fp,b<s2.heap.objs.size:=λb hb=>by let#[o,e,_]:=(T.obj _ _ IE) b hb;show bb e
 have f3:∀ b∈fp,qk X pins (upd H2 D<|.lst []) b:=λb hb=>#[by rw[fv (by rw[<-hD];show bS (ZS b hb))];show(f2 b hb).1,(f2 b hb).2];generalize adv:({ s2 with heap:=s2.heap.push { cls:=.type "list",dict:=ah,data:=.seq ([]).toArray } })=s3 at I3 ⊢;have ZT:s3.heap=s2.heap.push { cls:=.type "list",dict:=ah,data:=.seq ([]).toArray }:=by rw[<-adv]
 rw[<-ZT]at yY;have adw:∀ b∈fp,b<s3.heap.objs.size:=λb hb=>by rw[ZT,rQ];show wD<|ZS b hb
 generalize ag9:upd H2 D (.lst [])=H3 at I3 f3 w0;refine Dm ?_;generalize ZU:pushCells (s3.heap.push { cls:=.type "dict",data:=.dict #[] }) scope.names=h₁;have k1:∀ b o,s3.heap.get? b=ae o->h₁.get? b=ae o:=λb o e=>by rw[<-ZU];show Qp _ _ b o<|aR _ e
 have IY:=JI S I3 (λb hb=>#[f3 b hb,adw b hb]) (by rw[ZU]);have ZV:=T.keep _ _ _ yY λb _ o e=>k1 b o e;generalize Ef:cellsFrom (s3.heap.objs.size+1) scope.names (eK X.env.cells scope.names [])=cl at IY ⊢;generalize hC:s3.heap.objs.size=C at IY ⊢;have Vo:∀ {H'},(∀ b∈fp,H' b=ah)->∀ b∈fp,qk (X.comp N scope cl s3 H3 C fp) [] H' b:=λhn b hb=>by
  refine#[hn b hb,((IY.ok.yS b hb).1),(IY.ok.xf b hb),.inl hb,?_,λp hp=>absurd (hp) (by simp)]
  .intro x c e z;show(IY.ok.yS b hb).2 x c e z
 have fin:∀ (σ') (H') (s'),Inv (X.comp N scope cl s3 H3 C fp) [] σ' H' s'->∀ h',Heap.SameBut C s'.heap h'->Inv X pins σ H' { s' with heap:=h' }:=λσ' H' s' I' h' Eg=>by
  have Ka:H' C=ah:=I'.free;have kp:∀ b o,b≠C->s'.heap.get? b=ae o->h'.get? b=ae o:=λb o hb e=>Eg.extBut b o hb e;have adx:s3.heap.get? C=ah:=by rw[<-hC];show Yl<|aB _
  have uj:∀ b o,s3.heap.get? b=ae o->b≠C:=λb o e z=>by rw[z,adx]at e;cases e
  have U:=I'.base;refine I3.Zh I'.os #[λb o e n hb hx=>kp b o (uj b o e)<|U.keep b o e n hb hx,λb o e n hb hx=>?_,U.free,λb o e hx=>?_,U.kN,U.k8,U.nX] ?_ I'.bare λb hb=>(#[(f3 b hb).2.2.2.1,(f3 b hb).2.1,λx c e=>(f3 b hb).2.2.2.2.1 x c e,(f3 b hb).2.2.2.2.2])
  .let#[sl,e1]:=U.slot b o e n hb hx;show#[sl,kp b _ (uj b o e) e1]
  .let#[o',e1]:=U.there b o e hx;show#[o',kp b o' (uj b o e) e1]
  .intro b ob e;refine(I'.ay b ob e).hG (λc w' d7 q=>kp c w' (λz=>?_) q) (λ_ q=>q) λ_ _ q=>q;rcases d7 with z1|z1
   .rw[<-z1,z,Ka]at e;cases e
   .rw[z,Ka]at z1;cases z1
 have loop:∀ s4:aI,s4={ s3 with heap:=h₁ } ->
  codeAny (model X.prog X.w) X.A (.compLoop (.ListComp elt [#[tg,iter,ifs,0]] scope pos) 0 (.ref it) (.ref D)<|compEnvC scope cl C X.env) (compPost (model X.prog X.w) X.A X.xe use Q' (.ref D) C) s4:=by
  rintro s4 rfl;refine By (λn s'=>∃ i σ' H',Inv (X.comp N scope cl s3 H3 C fp) [] σ' H' s' /\ tn i s'.heap /\ (∀ b∈fp,H' b=ah) /\ W i n σ' H') _ (λ_ _ _ q=>q) ?_ m0 #[0,_,H3,IY,ZV,λb hb=>(f3 b hb).1,w0];rintro n s5 ⟨i,σ5,H5,I5,xj,IG,w5⟩;have qM:∀ {α:Type}{t:Sem α}{Q1:α->aI->zb}{E1:au->aI->zb}{ss:aI},wpAny (model X.prog X.w) X.A t Q1 (λ_ _=>False) ss->wpAny (model X.prog X.w) X.A t Q1 E1 ss:=λhw=>kq hw (λ_ _ q=>q) λ_ _ z=>False.elim z;rcases turn i n σ5 H5 w5 with⟨stop,q5⟩|⟨go,NN,hN,step⟩
  .refine qM<|cJ (T.done (X.comp N scope cl s3 H3 C fp) za za za hc i [] s5 σ5 H5 (λ_ _=>False) I5 (Vo IG) xj stop) ?_;rintro r s6 ⟨hr,I6⟩;subst hr;let#[m6,Eh,_]:=I6.loc;show adu D C s3 s6 H3 H5 m6 I3 hC I6.free Eh (fin σ5 H5 s6 I6) q5
  .refine qM<|cJ (T.item (X.comp N scope cl s3 H3 C fp) za za za hc i [] s5 σ5 H5 (λ_ _=>False) I5 (Vo IG) xj go) ?_;rintro r s6 ⟨u,hr,h6⟩;subst hr;refine qM<|cJ h6 ?_;rintro _ s7 ⟨x,H7,I7,r7,y7,Vp,ady⟩;refine qM<|cJ (hg cl s3 H3 C fp _ s7 σ5 H7 x u _ (I7.pinned (Vo ady)<|T.obj _ _ Vp) r7<|step x H7 y7) ?_;rintro _ s8 ⟨σ8,H8,I8,q8⟩;refine qM<|yV (hf cl s3 H3 C fp _ s8 σ8 H8 _ I8 q8) λb s9 H9 I9 q9=>?_;have again:∀ {σ9:St}{HA:Hp}{sA:aI},Inv (X.comp N scope cl s3 H3 C fp) ([]++yX fp s7.heap) σ9 HA sA->NN σ9 HA->∃ m,m<n /\ ∃ i σ' H',Inv (X.comp N scope cl s3 H3 C fp) [] σ' H' sA /\ tn i sA.heap /\ (∀ b∈fp,H' b=ah) /\ W i m σ' H':=λ{σ9 HA sA} IA nA=>by
    let#[m',hm,wA]:=hN σ9 HA nA;refine#[m',hm,i+1,σ9,HA,IA.ID,T.keep _ _ _ Vp λb hb o e=>(IA.pin (b,o)<|qh _<|qh _<|jp hb e).1,λb hb=>?_,wA];let#[o,e,d]:=T.obj _ _ Vp b hb;show(IA.pin (b,o)<|qh _<|qh _<|jp hb e).2.1
   cases b with
   |false=>
     rw[if_neg (by decide)]at q9;rw[if_neg (by decide)];show again I9 q9
   |true=>
     rw[if_pos rfl]at q9;rw[if_pos rfl];refine qM<|aX (he cl s3 H3 C fp _ s9 σ8 H9 _ I9 q9) λyv sA y HA IA rA hh=>?_;let#[ys,adz,adA,nA]:=hh;refine qM<|cJ (mH _ sA σ8 HA (.ref D) [y] (.ref D) [yv] (λ_ HB=>NN σ8 HB) IA za (.cons rA .nil) #[D,ys,y,rfl,rfl,adz,adA,nA]) λr sB hB=>?_;let#[_,HB,IB,_,nB]:=hB;show again IB nB
 show codeAny_compStart_list (loop _ za)<|T.self _ 0 _ _ _ ZV<|loop _ za
theorem M5
 (hc:X.calm=ag) (S:sf X N src scope) (hi:PI X tg iter wi)
 (hg:∀ cl s H C fp,PG (X.comp N scope cl s H C fp) tg g) (hf:∀ cl s H C fp,PF (X.comp N scope cl s H C fp) ifs tf) (he:∀ cl s H C fp,PE (X.comp N scope cl s H C fp) elt te)
 (hs:∀ x,foldedSetIterable iter X.env x=pure x:=by intro _;rfl):PE X (.ListComp elt [#[tg,iter,ifs,0]] scope pos) (Ee src wi g tf te):=by
 intro pins s σ H Q I h;rw[eval_ListComp];show A0 hc S hi hg hf he hs I h λD C s3 s6 H3 H5 m6 _ _ _ Eh fin q5=>#[m6,Eh,λh' Eg=>#[.ref D,H5,fin h' Eg,rfl,q5]]
open PySem.W PySem.Builtin PySem.Builtin.ObjectAttr PySem.Builtin.Getset_descriptor
section
variable {K:Frag}
def kC (x C:ai) (h:aK):zb:=∃ ox,h.get? x=ae ox /\ ox.cls=.ref C
theorem kC.type (I:kC x C h):Looks M h (typeOf<|.ref x) (.ref C):=by
 let#[ox,e,hc]:=I;show hc▸(Looks.ld e).andThen .now
theorem JJ (X:K.In h) (ha:findIn K (.ref C) name=ae (ae a)) (hg:specialIn K a "__get__"=ae (ae g)) (ht:takesIn K a=ae ag) :
 Looks M h (find (.ref x) (.ref C) name) (.bind g a):=by
 have l4:Looks M h (dataDescriptor? (ae a)<|ae g) _:=(looks_takesIn (M:=M) X ht).andThen .now;show(UD (M:=M) X ha).andThen ((looks_specialIn X hg).andThen<|l4.andThen<|Looks.tag .now)
theorem M6 (X:K.In s.heap) (I:kC x C s.heap) (hm:mroIn K C (.type "object")=ae ag) (q:R (.ok<|.ret<|.ref C) s) :
 codeAny (model prog w) A (.call (.builtin "getset_descriptor.__get__") #[[.builtin "object.__class__",.ref x,tp],[]]) R s:=by
 have l0:=I.type (M:=model prog w);refine Qq KF.slot_gs.plain KF.entry_gs
  (KF.slot_gs.check _ _ _ _ _ _ _ _ KF.type_class (KF.args_gs _ _ _) ?_)
 refine ak<|ax ?_;unfold descrGetter descrCheckInstance descrNameAndClass;erw[KF.owner_class]
 repeat (any_goals (first|assumption|with_reducible refine l0.at ?_|with_reducible refine(UE (M:=model prog w) X hm).at ?_|wp_step))
 refine#[US _ (by decide +kernel),vb KF.entry_class ?_];unfold Builtin.«object.__class__»;unfold shownTypeOf
 repeat (any_goals (first|assumption|with_reducible refine l0.at ?_|wp_step))
structure xu (K:Frag) (C:ai):zb where
 ga:findIn K (.ref C) "__getattribute__"=ae (ae<|.builtin "BaseException.__getattribute__")
 gt:findIn K (.ref C) "__getattr__"=ae ah
 cl:findIn K (.ref C) "__class__"=ae (ae<|.builtin "object.__class__")
 gs:specialIn K (.builtin "object.__class__") "__get__"=ae (ae<|.builtin "getset_descriptor.__get__")
 tk:takesIn K (.builtin "object.__class__")=ae ag
 mo:mroIn K C (.type "object")=ae ag
 mb:mroIn K C (.type "BaseException")=ae ag
 cd:(clsIn K C).isSome=ag
theorem JK {os}(T:xu K C) (X:K.In h) (I:kC x C h)
 (hq:Q () #[h,g,d,t,os]):wpAny M A (checkBuiltinCall "BaseException.__getattribute__" #[[.ref x,aha],[]]) Q E #[h,g,d,t,os]:=by
 have hk:builtinKind "BaseException.__getattribute__"=ae .slot:=by decide +kernel
 have adB:splitId "BaseException.__getattribute__"=ae ("BaseException","__getattribute__"):=by decide +kernel
 have L0:=I.type (M:=M);have L1:=UE (M:=M) X T.mb;have LI:Looks M h (isInstance (.ref x)<|.type "BaseException") ag:=L0.andThen L1;erw[checkBuiltinCall,hk,adB];refine ak<|LI.at ?_
 repeat (any_goals (first|assumption|wp_step))
theorem JL {os}(T:xu K C) (X:K.In h) (I:kC x C h) (hq:Q (.done<|.ret<|.ref C) #[h,g,d,t,os]) :
 wpAny (model prog w) A (Builtin.«object.__getattribute__» #[[.ref x,.str "__class__" tk],[]]) Q E #[h,g,d,t,os]:=by
 refine ak<|ax ?_
 repeat (any_goals (first|assumption|with_reducible refine(I.type (M:=model prog w)).at ?_|with_reducible refine(JJ (x:=x) (M:=model prog w) X T.cl T.gs T.tk).at ?_|wp_step))
 refine M6 X I T.mo ?_
 repeat (any_goals (first|assumption|wp_step))
theorem Ri (T:xu K C) (X:K.In s.heap) (I:kC x C s.heap) (hq:Q (ae<|.ref C) { s with toks:=s.toks+1 }) :
 wpAny (model prog w) A (getAttr? (.ref x) "__class__") Q E s:=by
 have f3:=F.excAttr_ValueError.ga.bind<|.ref x;refine ak<|wpAny_mkText<|ak<|yB ?_
 repeat (any_goals (first|assumption|with_reducible refine(I.type (M:=model prog w)).at ?_|with_reducible refine(UD (M:=model prog w) X T.ga).at ?_|with_reducible refine(UD (M:=model prog w) X T.gt).at ?_|wp_step))
 refine(λT X I hq=>Qq F.excAttr_ValueError.ga.plain F.entry_bexc_ga<|JK T X I<|JL T X I hq) T X I ?_
 repeat (any_goals (first|assumption|wp_step))
theorem JM (T:xu K C):KitX K (.ref x) (.ref C) (kC x C) where
 ty:=λ_ _ _ I=>I.type
 it:=λ_ _ X _=>by
  let#[adC,tj]:=Option.isSome_iff_exists.mp T.cd;unfold clsIn at tj;split at tj
  .ext c' d' adD k9 ho;intro A' Q' E' s' k q;show ak<|W7 (k _ _<|X _ _ ho)<|ax q
  .cases tj
 ne:=λh tp dd its n sl X adE=>by
  let#[adC,tj]:=Option.isSome_iff_exists.mp T.cd;refine Bool.eq_false_iff.mpr λq=>?_;have e:=Value.ref.inj<|beq_iff_eq.mp q;subst e;unfold clsIn at tj;split at tj
  .ext c' d' adD k9 ho;cases ((X _ _ ho).symm.trans adE)
  .cases tj
 ca:=λX I k=>Ri T X I k
end
def tH (B:aK) (l:List Env) (ea:ai) (cls a0:au) (h:aK):zb:=
 Heap.FlyingW B l ea cls a0 h \/ (B.StaysIn h /\ B.get? ea=ah /\ h.FunFrames B l /\
  h.get? ea=ae { cls:=cls,data:=.fields (List.toArray [a0,.none,.none,.none,.bool af,.none]) })
theorem tH.stays (x:tH B l ea cls a0 h):B.StaysIn h:=x.elim (λz=>z.1) λz=>z.1
theorem tH.Vq (x:tH B l ea cls a0 h):B.get? ea=ah:=x.elim (λz=>z.2.1) λz=>z.2.1

theorem JN (nu:A.frames=ae (env::outer)) (hf:env.frame=ae L) (hx:tH B (env::outer) ea cls a0 s.heap)
 (q:∀ h',tH B outer ea cls a0 h'->s.heap.UpToSlots h'->Q () { s with heap:=h' }):wpAny M A (leaving env<|.ref ea) Q E s:=by
 rcases hx with hx|⟨x1,x2,x3,x4⟩
 .show wpAny_leaves_onW nu hf hx λh' y1 y2=>q h' (.inl y1) y2
 .refine wpAny_leaving_firstW nu x3 hf x4 x1 x2 za za za λh' y=>?_;let#[k1,#[_,_,k2],k3,k4]:=y;show q h' (.inl #[k1,x2,k2,k3]) k4
theorem M7 (nu:A.frames=ae (env::outer)) (hf:env.frame=ae L) (hx:tH B (env::outer) ea cls a0 s.heap)
 (q:∀ h',Heap.HeldW B (env::outer) ea cls a0 L h'->s.heap.UpToSlots h'->Q () { s with heap:=h' }):wpAny M A (noteFrame (.ref ea) env) Q E s:=by
 rcases hx with hx|⟨x1,x2,x3,x4⟩
 .show wpAny_looks_onW nu hf hx q
 .unfold noteFrame;simp[hf];refine ak<|kJ x4 za za ?_;refine wpAny_entryW nu x3 hf x4 x1 x2 za (by change 1<6;decide) (by rfl) λh' y=>?_;let#[k1,k2,k3,k4]:=y;show q h' #[k1,x2,k2,k3] k4
def dn (P:cS) (w:cg):ur:=λouter H s E e s'=>∃ (ea C:ai) (a0:au) (B:aK) (H':Hp),
 e=.ref ea /\ s'.os=s.os /\ AllBare s'.gens /\ Un (hV outer) [] H H' s.heap s'.heap /\ cq P w H' s'.heap /\ tH B outer ea (.ref C) a0 s'.heap /\
 (∀ b u o,H' b=ae u->s'.heap.get? b=ae o->B.get? b=ae o) /\ (∀ b o,s.heap.get? b=ae o->b∉hV outer->∃ o',B.get? b=ae o') /\ E (.ref C) ah H'
def XE (X:Cx) (E:XK) (e:au) (s':aI):zb:=∃ (σ':St) (H':Hp) (ea C:ai) (a0:au) (B:aK),
 e=.ref ea /\ Inv X [] σ' H' s' /\ tH B X.stack ea (.ref C) a0 s'.heap /\ (∀ b u o,H' b=ae u->s'.heap.get? b=ae o->B.get? b=ae o) /\
 (∀ p∈X.pn,B.get? p.1=ae p.2) /\ (∀ b o,X.s₀.heap.get? b=ae o->b∉X.fs->b∉X.ex->∃ o',B.get? b=ae o') /\ E (.ref C) ah H'
def uB (X:Cx) (E:XK):zb:=∀ e s',XE X E e s'->X.xe e s'

theorem Do {B:aK}(I:Inv X pins σ H' s') (u:s'.heap.UpToSlots h) (st:B.StaysIn s'.heap) (sh:B.StaysIn h)
 (old:∀ b o,X.s₀.heap.get? b=ae o->b∉X.fs->b∉X.ex->∃ o',B.get? b=ae o'):Un X.fs X.ex X.H₀ H' X.s₀.heap h where
 keep:=λb o e n hb hx=>by
  let#[o',q]:=old b o e hb hx;have q2:=st b o' q;rw[(I.base.keep b o e n hb hx)]at q2;cases q2;show sh b _ q
 slot:=λb o e n hb hx=>by
  let#[sl,q1]:=I.base.slot b o e n hb hx;let#[_,adF,q2,d]:=I.ok.kO.mem hb;rw[e]at q2;cases q2;let#[k9,q3]:=u b _ q1 d;show#[k9,q3]
 free:=I.base.free
 there:=λb o e hx=>by
  by_cases hb:b∈X.fs
  .let#[sl,q1]:=I.base.slot b o e (I.ok.qC b hb) hb hx;let#[_,adF,q2,d]:=I.ok.kO.mem hb;rw[e]at q2;cases q2;let#[k9,q3]:=u b _ q1 d;show#[_,q3]
  .let#[o',q]:=old b o e hb hx;show#[o',sh b o' q]
 kN:=I.base.kN
 k8:=I.base.k8
 nX:=I.base.nX
theorem Fb {B:aK}(k:cq P w H' h) (sh:B.StaysIn h') (tr:∀ b u o,H' b=ae u->h.get? b=ae o->B.get? b=ae o):cq P w H' h':=λa o e=>
 (k a o e).hG (λb u hb q=>sh b u<|hb.elim (λz=>tr b o u (z▸e) q) λz=>tr b _ u z q) (λ_ q=>q) λ_ _ q=>q
theorem Fc {B:aK}(I:Inv X [] σ H' s') (u:s'.heap.UpToSlots h) (st:B.StaysIn s'.heap) (sh:B.StaysIn h)
 (tr:∀ b u o,H' b=ae u->s'.heap.get? b=ae o->B.get? b=ae o) (pn:∀ p∈X.pn,B.get? p.1=ae p.2)
 (old:∀ b o,X.s₀.heap.get? b=ae o->b∉X.fs->b∉X.ex->∃ o',B.get? b=ae o'):Inv X [] σ H' { s' with heap:=h }:=by
 have cellK:∀ c v,s'.heap.IsCell c v->h.IsCell c v:=λc v ⟨o,e,d⟩=>by
  let#[sl,q]:=u c o e (λvs z=>by rw[d]at z;cases z);show#[_,q,d]
 refine#[I.ok,I.os,I.bare,Do I u st sh old,?_,λx c e=>?_,I.free,I.nH,λp hp=>?_,Fb I.ay sh tr,I.len]
 .let#[m,hn,hl]:=I.loc;refine#[m,u.ns hn,λi x v e1 e2 e3=>?_];let#[w',r,l]:=hl i x v e1 e2 e3;refine#[w',r,?_];rcases l with l|⟨k,c,e,z⟩
  .show .inl l
  .show .inr #[k,c,e,cellK c _ z]
 .let#[v,z]:=I.cell x c e;show#[v,cellK c v z]
 .let#[e,n,r]:=I.pin p hp;rw[rL]at hp;show#[sh _ _<|pn p hp,n,r]
theorem Inv.ZW (I:Inv X pins σ H s):Inv X [] σ H s:=I.UY λp hp=>absurd hp (by simp)
theorem uB.passes (l:uB X E):Passes (dn X.prog X.w) X E:=by
 intro pins σ H s e s' I h;let#[ea,C,a0,B,H',he,os,bare,un,ay,ex,tr,old,q]:=h;have Vr:∀ b,b≠X.env.locals->b∉X.fs->b∉hV X.stack:=λb h1 h2 z=>by
  rcases a9.mp (I.xg b z) with y|y
  .show h1 y
  .show h2 y
 refine l e s' #[σ,H',ea,C,a0,B,he,(I.Zh os un ay bare λb z=>absurd z (by simp)).ZW,ex,tr,λp hp=>?_,λb o e hb hx=>?_,q]
 .let#[e1,n1,n2,n3,_]:=I.pin p<|nU _ hp;let#[o',q1]:=old p.1 p.2 e1<|Vr _ n2 n3;have q3:=ex.stays _ _ q1;rw[(un.keep p.1 p.2 e1 n1 (Vr _ n2 n3) (by simp))]at q3;cases q3;show q1
 .let#[o1,e1]:=I.base.there b o e hx;show old b o1 e1<|Vr b (bS<|dM (bb e) I.ok.above) hb
theorem Cj {K} :
 uB (qm (dn P w) P w K mg base N qual scope f cd A outer s H E) E:=by
 intro e s' h;let#[σ',H',ea,C,a0,B,he,I,ex,tr,pn,old,q]:=h;subst he;refine JN I.ok.frames za ex λh' y1 y2=>?_;refine#[ea,C,a0,B,H',rfl,I.os,I.bare,Do I y2 ex.stays y1.stays old,Fb I.ay y1.stays tr,y1,λb u o e1 e2=>?_,λb o e1 e2=>old b o e1 e2 (by intro z;show absurd (show b∈([]) from z) (by simp)),q];obtain⟨o1,q1⟩:∃ o1,s'.heap.get? b=ae o1:=by
  rcases(I.ay b u e1) with _;cases z:s'.heap.get? b with
  |some o1=>show#[o1,rfl]
  |none=>
    exfalso
    have k:=I.ay b u e1;cases u with
    |lst xs=>let#[_,_,_,_,e]:=k;rw[z]at e;cases e
    |tup xs=>let#[_,_,_,ob,e,_]:=k;rw[z]at e;cases e
    |dK ao=>let#[_,_,_,_,o,_,_,e,_]:=k;rw[z]at e;cases e
    |dT ao=>let#[_,_,_,_,o,_,_,e,_]:=k;rw[z]at e;cases e
    |set S n=>let#[o,_,_,_,e,_]:=k;rw[z]at e;cases e
    |ins C dx fs=>let#[_,_,_,e,_]:=k;rw[z]at e;cases e
    |own y=>let#[_,e]:=k;rw[z]at e;cases e
    |xd fs=>let#[_,#[_,_,_,e,_],_]:=k;rw[z]at e;cases e
    |w8 lo hi=>let#[_,_,_,e]:=k;rw[z]at e;cases e
    |bA ob u=>let#[e,_]:=k;rw[z]at e;cases e
    |qA ps=>have e:s'.heap.get? b=ae _:=k;rw[z]at e;cases e
    |met f y=>have e:s'.heap.get? b=ae _:=k;rw[z]at e;cases e
    |ext φ=>let#[_,#[_,e],_]:=k;rw[z]at e;cases e
 have q2:=tr b u o1 e1 q1;have q3:=y1.stays b o1 q2;rw[e2]at q3;cases q3;show q2
noncomputable abbrev Vs:List au:=[.type "ValueError",.type "Exception",.type "BaseException",.type "object"]
theorem M8 {K:Frag}(X:K.In h) (q:excIn K C adG adH=ag) :
 ∃ bm N nm qn bs hd sn sub ab col dd k0 k1 k2 k3 k5 mN,h.get? C=ae (excClassObj nm qn C N bs bm hd sn sub ab col dd k0 k1 k2 k3 k5 adH) /\ h.Ns N mN /\ mN "__init__"=ah /\ OwnTail h adG bm:=by
 unfold excIn at q;split at q
 .ext dd cd sl ho;split at q
  .ext C1 bm k0 k1 k2 k3 nw k5 mr hs;simp[aH,beq_iff_eq,kL]at q;let#[#[#[#[#[rfl,rfl],z1],z2],z3],z4]:=q;let#[nm,bs,mro,ns,qn,hd,sn,sub,ab,col,del]:=cd;subst mr z1;have es:sl=(List.toArray [k0,k1,k2,k3,ae<|.builtin nw,k5]):=by
    cases sl;show congrArg Array.mk hs
   subst es;show#[bm,ns,nm,qn,bs,hd,sn,sub,ab,col,dd,k0,k1,k2,k3,k5,_,X _ _ ho,
    .of_isNs (isNs_of_in X z3),nsMap_none_of_in X z3 z4,tail_of_in X z2]
  .cases q
 .cases q

theorem M9 (l:uB X E) (I:Inv X pins σ H s) (m:Heap.MadeExcOf s.heap h' ea (.ref C) vs) (q:E (.ref C) ah H) :
 X.xe (.ref ea) { s with heap:=h' }:=by
 let#[t,e1,e2,e3]:=m.there;have fr:h'.FunFrames (hideAll s.heap<|hV X.stack) X.stack:=(funFrames_hide I.stack λenv he b hb=>List.mem_filterMap.mpr #[env,he,hb]).of_keeps λb o e _=>#[o,m.keeps b o e,rfl];have nh:∀ b o,s.heap.get? b=ae o->b∉hV X.stack->(hideAll s.heap<|hV X.stack).get? b=ae o:=λb o e hb=>hideAll_get _ e hb;refine l _ _ #[σ,H,ea,C,.ref t,hideAll s.heap<|hV X.stack,rfl,(I.kept m.keeps).ZW,.inr #[λb o e=>m.keeps b o<|of_hideAll _ e,?_,fr,e1],λb u o eb eo=>?_,λp hp=>?_,λb o e hb hx=>?_,q]
 .cases z:(hideAll s.heap<|hV X.stack).get? ea with
  |none=>rfl
  |some o=>have:=of_hideAll _ z;rw[m.new]at this;cases this
 .cases z:s.heap.get? b with
  |some o1=>
    have:=m.keeps b o1 z;rw[this]at eo;cases eo;show nh b _ z (λz=>by rw[I.UX b z]at eb;cases eb)
  |none=>show absurd ((I.ay b u eb).lt) (by intro hl;show absurd z (by
   intro z';have k:=I.ay b u eb;cases u with
   |lst xs=>let#[_,_,_,_,e]:=k;rw[z]at e;cases e
   |tup xs=>let#[_,_,_,ob,e,_]:=k;rw[z]at e;cases e
   |dK ao=>let#[_,_,_,_,o,_,_,e,_]:=k;rw[z]at e;cases e
   |dT ao=>let#[_,_,_,_,o,_,_,e,_]:=k;rw[z]at e;cases e
   |set S n=>let#[o,_,_,_,e,_]:=k;rw[z]at e;cases e
   |ins C dx fs=>let#[_,_,_,e,_]:=k;rw[z]at e;cases e
   |own y=>let#[_,e]:=k;rw[z]at e;cases e
   |xd fs=>let#[_,#[_,_,_,e,_],_]:=k;rw[z]at e;cases e
   |w8 lo hi=>let#[_,_,_,e]:=k;rw[z]at e;cases e
   |bA ob u=>let#[e,_]:=k;rw[z]at e;cases e
   |qA ps=>have e:s.heap.get? b=ae _:=k;rw[z]at e;cases e
   |met f y=>have e:s.heap.get? b=ae _:=k;rw[z]at e;cases e
   |ext φ=>let#[_,#[_,e],_]:=k;rw[z]at e;cases e))
 .let#[e1,n1,n2,n3,_]:=I.pin p<|nU _ hp;show nh _ _ e1 λz=>(a9.mp<|I.xg p.1 z).elim n2 n3
 .let#[o1,q1]:=I.base.there b o e hx;show#[o1,nh b o1 q1 λz=>(a9.mp<|I.xg b z).elim (bS<|dM (bb e) I.ok.above) hb]
theorem JO (hc:X.calm=ag) (l:uB X E) (hg:Gl X x) (hm:X.mg x=ae (.ref C)) (q:excIn X.K C Vs "ValueError.__new__"=ag) (he:PE X e te)
 (hs:starEach [e] X.env=[(af,eval e X.env)]:=by rfl) (hd:(x==("__debug__"))=af:=by decide) :
 PS X (.Raise (ae<|.Call (.Name x np) [e] [] dG) ah pos) (λ_ σ H=>te σ H λv H1=>[v].length=1 /\ E (.ref C) ah H1):=by
 intro pins s σ H D I h;let#[bm,N,nm,qn,bs,Ei,sn,sub,ab,col,dd,k0,k1,k2,k3,k5,mN,hC,hN,adI,T]:=M8 I.mod.ui q;refine wpAny_Raise_call_subT (C:=C) (nm:=nm) (q:=qn) (N:=N) (bs:=bs) (hdct:=Ei) (sn:=sn) (sub:=sub) (ab:=ab) (col:=col) (dd:=dd)
  (k0:=k0) (k1:=k1) (k2:=k2) (k3:=k3) (k5:=k5) PySem.F.excBase_ValueError (T.hasType PySem.F.excBase_ValueError.hasBase) (I.ok.hd hc) (by rw[hs];rfl) adI ?_
 refine aX (gq (v:=.ref C) (pos:=np) hg hm za hd pins s σ H (λv H1=>v=.ref C /\ H1=H) I #[rfl,rfl]) λf s1 v H1 I1 r1 hh=>?_;let#[e1,e2]:=hh;subst e1;subst e2;refine#[r1,?_];rw[hs];refine UI ?_;have hA:=(fA he fR (by rw[hs];rfl)) dG pins s1 σ H1 (λvs H2=>vs.length=1 /\ E (.ref C) ah H2) I1 h;rw[hs]at hA;refine nq hA λus s2 vs H2 I2 r2 hh=>?_;let#[e3,q2]:=hh;refine#[rfl,?_,I2.bk _ _ hC,hN.keeps I2.bk,T.keeps I2.bk,λh' ea m=>M9 l I2 m q2];rw[<-r2.length,e3];decide
theorem Gy {K}(X:K.In s.heap) (I:kC ea C s.heap)
 (hk:kitCls K (.ref C) (.ref R)=ae ag) (hb:mroIn K R (.type "BaseException")=ae ag) (q:Q ag s):wpAny M A (excMatches (.ref ea)<|.ref R) Q E s:=by
 let#[l1,l2,l3]:=kit_cls X hk;have f:=tc_notTuple
 repeat (any_goals (first|assumption|with_reducible refine l1.at ?_|with_reducible refine l2.at ?_|with_reducible refine l3.at ?_|with_reducible refine(UE (M:=M) X hb).at ?_|with_reducible refine(I.type (M:=M)).at ?_|wp_step))
section
variable {X:Cx}
noncomputable abbrev Cx.qN (X:Cx) (pn:List<|ai×Obj) (E:XK):Cx:={ X with pn:=pn,xe:=XE { X with pn:=pn } E }
noncomputable abbrev Cx.hand (X:Cx) (pn:List<|ai×Obj) (ea:ai):Cx:={ X with pn:=pn,A:=X.A.mark (ae<|.ref ea),calm:=af,xe:=λ_ _=>False }
theorem Inv.turn (I:Inv X pins σ H s) (hp:∀ p∈Y.pn++yT,p∈X.pn++pins) (hf:Y.A.frames=ae Y.stack) (hd:Y.calm=ag->Y.A.handled=ah)
 (h1:Y.prog=X.prog:=by rfl) (h2:Y.w=X.w:=by rfl) (h3:Y.K=X.K:=by rfl) (h4:Y.mg=X.mg:=by rfl) (h5:Y.base=X.base:=by rfl) (h6:Y.N=X.N:=by rfl) (h7:Y.s₀=X.s₀:=by rfl) (h8:Y.H₀=X.H₀:=by rfl) (h9:Y.env=X.env:=by rfl)
 (ha:Y.outer=X.outer:=by rfl) (hb:Y.stack=X.stack:=by rfl) (hc:Y.ex=X.ex:=by rfl) (he:Y.fn=X.fn:=by rfl):Inv Y yT σ H s:=by
 let#[yp,yw,yK,ahb,ahc,yA,yN,ahd,ahe,ahf,ahg,ahh,ahi,ahj,ahk,ahl,ahm]:=Y;dsimp only at h1 h2 h3 h4 h5 h6 h7 h8 h9 ha hb hc he hp hf hd;subst h1 h2 h3 h4 h5 h6 h7 h8 h9 ha hb hc he;show#[#[I.ok.mod,I.ok.kind,I.ok.glob,I.ok.blt,I.ok.above,I.ok.inj,I.ok.has,I.ok.xb,hd,hf,I.ok.yR,I.ok.yS,I.ok.bs,I.ok.rS,I.ok.xc,I.ok.xf,I.ok.kO,I.ok.qC],
  I.os,I.bare,I.base,I.loc,I.cell,I.free,I.nH,λp q=>I.pin p<|hp p q,I.ay,I.len]
theorem A3:uB (X.qN pn E) E:=by
 intro e s' h;let#[σ',H',ea,C,a0,B,he,I,ex,tr,hp,old,q]:=h;show#[σ',H',ea,C,a0,B,he,I.turn (λp z=>z) I.ok.frames I.ok.hd,ex,tr,hp,old,q]
theorem SP.turn (k:∀ σ H,Inv X pins σ H s'->Inv Y yT σ H s') (h:SP X pins D f s'):SP Y yT D f s':=by
 cases f with
 |ret u=>let#[v,σ',H',I,r,q]:=h;show#[v,σ',H',k _ _ I,r,q]
 |_=>let#[σ',H',I,q]:=h;show#[σ',H',k _ _ I,q]
theorem Inv.watch (I:Inv X pins σ H s) (hn:H a=ah) (hL:a≠X.env.locals) (hC:∀ x c,X.env.cells.lookup x=ae c->c≠a)
 (hp:∀ p∈X.pn++pins,p.1≠a) (ho:∀ b o,X.s₀.heap.get? b=ae o->b∉X.ex->b≠a) (new:cj X.prog X.w (upd H a<|.ext φ) s.heap a<|.ext φ):Inv X pins σ (upd H a<|.ext φ) s:=by
 have ne:∀ b u,H b=ae u->b≠a:=λb u e z=>by rw[z,hn]at e;cases e
 refine#[I.ok,I.os,I.bare,#[I.base.keep,I.base.slot,λb o e n hx=>?_,I.base.there,λb xs e=>?_,λb o u e=>?_,λb ps e=>?_],I.loc,I.cell,?_,λx c e=>?_,λp q=>?_,λb o e=>?_,I.len]
 .rw[fv<|ho b o e hx];show I.base.free b o e n hx
 .have z:=I.base.kN b xs e;rw[fv<|ne b _ z];show z
 .have z:=I.base.k8 b o u e;rw[fv<|ne b _ z];show z
 .let#[more,z]:=I.base.nX b ps e;show#[more,by rw[fv<|ne b _ z];show z]
 .rw[fv hL.symm];show I.free
 .rw[fv<|hC x c e];show I.nH x c e
 .let#[q1,q2,q3]:=I.pin p q;show#[q1,by rw[fv<|hp p q];show q2,q3]
 .by_cases hb:b=a
  .subst hb;rw[fu]at e;cases e;show new
  .rw[fv hb]at e;show(I.ay b o e).hG (λ_ _ _ z=>z) (λc z=>by rw[fv<|ne c _ z];show z) λc xs z=>by rw[fv<|ne c _ z];show z
theorem Inv.gone (I:Inv X pins σ H s) (hN:X.N.Nodup) (hi:X.N[i]?=ae n)
 (hm:∀ (j:Nat) (x) (v),X.N[j]?=ae x->σ[j]?=ae (ae v)->qB X.env.scope x->∃ u,RelV v u /\ Look X.env s.heap m x u)
 (hn:h'.Ns X.env.locals λx=>if x=n then v else m x) (sb:Heap.SameBut X.env.locals s.heap h'):Inv X pins (σ.set i ah) H { s with heap:=h',toks:=t' }:=by
 have kp:=λb o hb e=>sb.extBut b o hb e;have old:∀ b o,X.s₀.heap.get? b=ae o->b≠X.env.locals:=λb o e=>bS<|dM (bb e) I.ok.above;refine#[I.ok,I.os,I.bare,#[λb o e n hb hx=>kp b o (old b o e)<|I.base.keep b o e n hb hx,λb o e n hb hx=>?_,I.base.free,λb o e hx=>?_,I.base.kN,I.base.k8,I.base.nX],#[_,hn,λj x w e1 e2 e3=>?_],λx c e=>?_,I.free,I.nH,λp q=>?_,λb o e=>?_,by rw[qz];show I.len]
 .let#[sl,q]:=I.base.slot b o e n hb hx;show#[sl,kp b _ (old b o e) q]
 .let#[o',q]:=I.base.there b o e hx;show#[o',kp b _ (old b o e) q]
 .by_cases hj:j=i
  .subst hj;by_cases hl:j<σ.length
   .rw[pE hl]at e2;cases e2
   .rw[rM (by rw[qz];lia)]at e2;cases e2
  .rw[rK<|Ne.symm hj]at e2;let#[u,r,l]:=hm j x w e1 e2 e3;refine#[u,r,?_];rcases l with⟨k,e⟩|⟨k,c,e,z⟩
   .refine .inl #[k,?_];have:x≠n:=λq=>hj<|oT hN e1<|q▸hi;change (if x=n then v else m x)=ae u;rw[if_neg this];show e
   .let#[o,eo,d]:=z;show .inr #[k,c,e,o,kp c o (I.sX x c e) eo,d]
 .let#[w,o,eo,d]:=I.cell x c e;show#[w,o,kp c o (I.sX x c e) eo,d]
 .let#[q1,q2,q3,q4]:=I.pin p q;show#[kp _ _ q3 q1,q2,q3,q4]
 .refine(I.ay b o e).hG (λc w hc q=>kp c w (λz=>?_) q) (λ_ q=>q) λ_ _ q=>q;rcases hc with z1|z1
  .rw[<-z1,z,I.free]at e;cases e
  .rw[z,I.free]at z1;cases z1
noncomputable def ZX (i:Nat) (D:Ends):Ends:={ nx:=λσ H=>D.nx (σ.set i ah) H,rt:=D.rt,bk:=λσ H=>D.bk (σ.set i ah) H,ct:=λσ H=>D.ct (σ.set i ah) H }
def adJ (K:Frag) (len:Nat) (Ra:ai) (i:Nat) (E:XK) (tb ts:TS):TS:=λD σ H=>tb D σ H /\ ∀ (σ':St) (ea C) (H'),σ'.length=len->E (.ref C) ah H'->H' ea=ah ->
 kitCls K (.ref C) (.ref Ra)=ae ag /\ ts (ZX i D) (σ'.set i<|ae<|.ref ea) (upd H' ea<|.ext (kC ea C))
theorem Rj (nY:X.stack=X.env::X.outer) (nu:X.env.frame=ae L) (Kb:L=X.env.locals)
 (hg:Gl X R) (hm:X.mg R=ae (.ref Ra)) (adK:mroIn X.K Ra (.type "BaseException")=ae ag) (hN:X.N.Nodup) (hi:X.N[i]?=ae n) (hn:X.env.kindOf n=ae .local)
 (hb:∀ pn,cX (X.qN pn E) body tb) (adL:∀ pn ea,cX (X.hand pn ea) (b₀::adM) ts) (hd:(R==("__debug__"))=af:=by decide) :
 PS X (.Try body [.ExceptHandler (ae<|.Name R rp) (ae n) (b₀::adM) Ej] [] [] pos) (adJ X.K X.N.length Ra i E tb ts):=by
 intro pins s σ H D I ⟨h1,h2⟩;have I0:Inv (X.qN (X.pn++pins) E) [] σ H s:=I.turn (λp z=>by simpa using z) I.ok.frames I.ok.hd;have back:∀ {Y} (s') (σ') (H'),Y=X.qN (X.pn++pins) E->Inv Y [] σ' H' s'->Inv X pins σ' H' s':=λ{Y} s' σ' H' e J=>by
  subst e;show J.turn (λp z=>by simpa using z) I.ok.frames I.ok.hd
 refine wpAny_Try_except<|kq (hb _ [] s σ H D I0 h1) (λf s1 q=>?_) λe s1 q=>?_
 .have q':=q.turn λσ' H' J=>back s1 σ' H' za J;cases f with
  |next=>show HI q'
  |ret u=>show q'
  |_=>show q'
 .let#[σ1,H1,ea,C,a0,B,he,I1,ex,tr,Vt,old,hE]:=q;subst he;have qM:∀ {α}{t}{A1}{Q1:α->aI->zb}{E1}{ss},wpAny (model X.prog X.w) A1 t Q1 (λ_ _=>False) ss->wpAny (model X.prog X.w) A1 t Q1 E1 ss:=λhw=>kq hw (λ_ _ q=>q) λ_ _ z=>False.elim z;refine M7 (by rw[<-nY];show I.ok.frames) nu (by rw[<-nY];show ex) λh4 hh u4=>?_;refine wpAny_landsW hh λh5 Vu u5=>?_;have ZY:Inv (X.hand (X.pn++pins) ea) [] σ1 H1 { s1 with heap:=h5 }:=(Fc I1 (u4.trans u5) ex.stays Vu.1 tr Vt old).turn (λp z=>z) I.ok.frames λz=>nomatch z;have Kc:H1 ea=ah:=by
   cases z:H1 ea with
   |none=>rfl
   |some u=>
     let#[o,eo,_]:=ex.elim (λy=>y.there) λy=>#[_,y.2.2.2,rfl];have:=tr ea u o z eo;rw[ex.Vq]at this;cases this
  let#[hk,adN]:=h2 σ1 ea C H1 I1.len hE Kc;refine wpAny_handleBy_cons (codeAny_handlers_test<|qM ?_) (by intro z;cases z);refine lQ ZY hg hm ?_ hd;let#[o5,adO,adP]:=Vu.there;refine Gy ZY.cH #[o5,adO,adP] hk adK ?_;refine codeAny_handlers_suite_as<|lands_againW Vu λh6 Vv u6=>?_;have u:=(u4.trans u5).trans u6;have Vw:Inv (X.hand (X.pn++pins) ea) [] σ1 H1 { s1 with heap:=h6 }:=(Fc I1 u ex.stays Vv.1 tr Vt old).turn (λp z=>z) I.ok.frames λz=>nomatch z;let#[oe,vs,Ek,Iw,Vx,_]:=Vv.first;have I7:Inv (X.hand (X.pn++pins) ea) [] σ1 (upd H1 ea<|.ext (kC ea C)) { s1 with heap:=h6 }:=by
   refine Vw.watch Kc (λz=>?_) (λx c e z=>?_) (λp q z=>?_) (λb o e hx z=>?_) #[#[oe,Ek,Iw],#[oe,Ek],λg1 g2 ⟨o,e1,e2⟩ k=>#[o,k o e1,e2]]
   .let#[m,#[o,es,ep,e1,e2,_],_]:=Vw.loc;have nK:h6.get? ea=ae o:=by rw[z];show e1
    rw[Ek]at nK;cases nK;rw[Vx]at e2;cases e2
   .let#[v,o,e1,e2]:=Vw.cell x c e;have nK:h6.get? ea=ae o:=by rw[<-z];show e1
    rw[Ek]at nK;cases nK;rw[Vx]at e2;cases e2
   .have:=Vt p (by simpa using q);rw[z,ex.Vq]at this;cases this
   .subst z;by_cases hf:b∈X.fs
    .let#[sl,q1]:=(Do I1 u ex.stays Vv.1 old).slot b o e (I.ok.qC b hf) hf hx;let#[_,o2,q2,d]:=I.ok.kO.mem hf;rw[e]at q2;cases q2;rw[Ek]at q1;have q3:oe.data=o.data:=by cases q1;rfl
     show d vs (by rw[<-q3];show Vx)
    .let#[o',q1]:=old b o e hf hx;rw[ex.Vq]at q1;cases q1
  refine qM<|jP (X:=X.hand (X.pn++pins) ea) I7 hN hi (.inl hn) (v:=.ref ea) za (λs8 I8=>?_)<|.inr hn;refine qM<|cJ (adL _ ea [] s8 _ _ (ZX i D) I8 adN) λf s9 q9=>?_
  have fin:∀ (σ9:St) (H9:Hp) (Z:Flow->aI->zb),Inv (X.hand (X.pn++pins) ea) [] σ9 H9 s9->(∀ sA,Inv X pins (σ9.set i ah) H9 sA->Z f sA) ->
   wpAny (model X.prog X.w) X.A (do bindName X.env n .none;unbindBehindTheSuite X.env n Ej) (λ_ sA=>Z f sA) X.xe s9:=λσ9 H9 Z I9 k=>by
   have ZZ:Inv X pins σ9 H9 s9:=I9.turn (λp z=>by simpa using z) I.ok.frames I.ok.hd;let#[m,adQ,adR]:=ZZ.loc;show wpAny_nameGoes_keeps hn adQ (by rw[I.ok.kind];rfl) λh' v sY sb=>k _<|ZZ.gone hN hi adR sY sb
  change wpAny (model X.prog X.w) X.A (do bindName X.env n .none;unbindBehindTheSuite X.env n Ej) (λ_ sA=>SP X pins D f sA) X.xe s9;cases f with
  |ret u=>let#[v,σ9,H9,I9,r,q]:=q9;show fin σ9 H9 (SP X pins D) I9 λsA IA=>#[v,_,_,IA,r,q]
  |_=>let#[σ9,H9,I9,q]:=q9;show fin σ9 H9 (SP X pins D) I9 λsA IA=>#[_,_,IA,q]
end
structure pP (k:Nat) (A:di):zb where
 dp:A.depth+3*k+5<recursionLimit
 un:A.units+16*k+200<cLine
theorem bH.h (r:bH k A):pP k A:=#[r.dp,r.un]
theorem pP.mark (r:pP k A):pP k (A.mark e):=#[r.dp,r.un]
theorem pP.deeper (r:pP (k+1) A) (env):pP k (A.deeper env):=
 #[by have:=r.dp;change A.depth+1+3*k+5<_;lia,by have:=r.un;change A.units+3+16*k+200<_;lia]
theorem pP.depth (r:pP k A):A.depth<recursionLimit:=by have:=r.dp;lia
structure El (P:cS) (w:cg) (K:PySem.W.Frag) (mg:Str->Option au) (base:aK) (CX:ur) (k:Nat) (f:ai) (fd:FuncData) (ps:List Str) (sp:Sp):zb where
 len:∀ vs H Q E,sp vs H Q E->vs.length=ps.length
 run:∀ (A:di) (outer:List Env) (s:aI) (H:Hp) (args:Args) (us:List au) (vs:List V) (Q:VK) (E:XK),pP k A->uu P w K mg base A outer s H->BindsTo s fd args (ps.zip us)->Vals vs us->sp vs H Q E ->
  codeAny (model P w) A (.call (.ref f) args) (CR CX outer P w H s Q E) s
abbrev Kd (CX:ur) (P:cS) (w:cg) (K:PySem.W.Frag) (mg:Str->Option au) (base:aK) (N:List Str) (qual:Str) (scope:eZ) (f:ai) (cd:au) (A:di) (outer:List Env) (s:aI) (H:Hp) (E:XK):Cx:=
 { qm CX P w K mg base N qual scope f cd A outer s H E with calm:=af }
theorem Rk {K:PySem.W.Frag}{kV}(lk:K.lookup f=ae #[oc,od,.func<|PySem.W.fnOf name qual params body scope dV kV doc pm an cdv ct,pL]) (dj:PySem.W.codeIn K cdv qual=ag) (S:qI N ps scope)
 (len:∀ vs H Q E,sp vs H Q E->vs.length=ps.length)
 (nJ:∀ (A) (outer) (s) (H) (vs) (Q) (E),pP k (A.deeper<|envOfC qual scope s.heap.objs.size f cdv)->sp vs H Q E ->
  ∃ t,cX (Kd CX P w K mg base N qual scope f cdv A outer s H E) body t /\ t { nx:=λ_ H'=>Q .non H',rt:=Q } (start N vs) H) :
 El P w K mg base CX (k+1) f (PySem.W.fnOf name qual params body scope dV kV doc pm an cdv ct) ps sp:=by
 refine#[len,λA outer s H args us vs Q E hr e0 hb r pM=>?_];have KX:=e0.mod.ui.keeps λb o e=>(e0.bs b o e).1;refine W9 hr.depth (KX _ _ lk) za S.co S.gen za (YH KX dj)<|hb _ _ _ _ ?_;refine Xa S.kind (λ⟨n,v⟩ hy=>by
  rcases S.par n (HW hy).1 with q|q
  .show .inl q
  .show .inr #[q,UC _ _ _<|.inl q]) λenv he s1 x=>?_
 subst he;refine#[(e0.mod.nolimit.keeps λb o e=>(e0.bs b o e).1).keeps x.toInCall.keep,Xb ?_];let#[t,ht,hq]:=nJ A outer s H vs Q E (hr.deeper _) pM;have I0:Inv (qm CX P w K mg base N qual scope f cdv { A with handled:=ah } outer s H E) [] (start N vs) H s1:=AX S za #[e0.frames,e0.mod,e0.bs,e0.rS,e0.kO,e0.qC,e0.ay,e0.bare] (len _ _ _ _ pM) r x;refine kq (ht [] s1 (start N vs) H _ (I0.turn (λp z=>z) (Y7 e0.frames) λz=>nomatch z) hq) (λfl s' hs=>?_) λe s' hs=>hs;have fin:∀ {σ'}{H'}{v}{u},Inv (Kd CX P w K mg base N qual scope f cdv A outer s H E) [] σ' H' s'->RelV v u->Q v H'->CE outer P w H s Q u s' :=
  λ{σ' H' v u} J rv q=>#[v,H',J.os,J.bare,J.base,J.ay,rv,q]
 cases fl with
 |ret u=>
   let#[v,σ',H',J,rv,q]:=hs;show fin J rv q
 |next=>
   let#[σ',H',J,q]:=hs;show fin (v:=V.non) J za q
 |brk=>
   let#[_,_,_,q]:=hs;show False.elim q
 |cont=>
   let#[_,_,_,q]:=hs;show False.elim q
theorem dU.adS {K}{st}(F:dU K x qual st f fd) (S:qI N ps<|fG st) (len:∀ vs H Q E,sp vs H Q E->vs.length=ps.length)
 (nJ:∀ (cdv) (A) (outer) (s) (H) (vs) (Q) (E),pP k (A.deeper<|envOfC qual (fG st) s.heap.objs.size f cdv)->sp vs H Q E ->
  ∃ t,cX (Kd qK P w K mg base N qual (fG st) f cdv A outer s H E).sZ (gf st) t /\ t { nx:=λ_ H'=>Q .non H',rt:=Q } (start N vs) H):El P w K mg base qK (k+1) f fd ps sp:=by
 let#[oc,od,kV,doc,pm,an,cdv,ct,pL,rfl,lk,dj]:=F.ex;refine Rk lk dj S len λA outer s H vs Q E hr pM=>?_;let#[t,h,q]:=nJ cdv A outer s H vs Q E hr pM;show#[t,h.sZ,q]
theorem dU.adT {K}{st}(F:dU K x qual st f fd) (S:qI N ps<|fG st) (len:∀ vs H Q E,sp vs H Q E->vs.length=ps.length)
 (nJ:∀ (cdv) (A) (outer) (s) (H) (vs) (Q) (E),bH k (A.deeper<|envOfC qual (fG st) s.heap.objs.size f cdv)->sp vs H Q E ->
  ∃ t,cX (qm (dn P w) P w K mg base N qual (fG st) f cdv A outer s H E) (gf st) t /\ t { nx:=λ_ H'=>Q .non H',rt:=Q } (start N vs) H):cP P w K mg base (dn P w) (k+1) f fd ps sp:=by
 let#[oc,od,kV,doc,pm,an,cdv,ct,pL,rfl,lk,dj]:=F.ex;show O9 lk dj S len λA outer s H vs Q E hr pM=>nJ cdv A outer s H vs Q E hr pM

theorem JP (F:El X.prog X.w X.K X.mg X.base CX k f fd ps sp) (hr:pP k X.A) (hg:Gl X x) (hm:X.mg x=ae (.ref f)) (hk:PySem.W.keepIn X.K (.ref f)=ag) (hb:Binds X.K fd ps ds) (hd:Vals eG ds) (hx:Passes CX X E)
 (ha:PA X (e::es) t) (cL:(x==("__debug__"))=af:=by decide) (he:starEach (e::es) X.env=(af,eval e X.env)::starEach es X.env:=by rfl) (dS:(backTo pos<|starEach es X.env).any (·.1)=af:=by rfl) :
 PE X (.Call (.Name x p) (e::es) [] pos) (Ve sp eG E t):=by
 intro pins s σ H Q I h;refine rG<|lQ I hg hm ?_ cL;refine Im I.ok.mod.ui hk (nq (ha pos pins s σ H _ I h) λus s1 vs H1 I1 r q=>#[I1.cH,?_]) he dS;have r2:=r.append hd;refine HL<|ue (F.run X.A X.stack s1 H1 _ _ _ Q E hr I1.Vc (hb s1 us I1.cH (by rw[<-r2.length];show F.len _ _ _ _ q)) r2 q) λr s' hq=>?_;cases r with
 |error e=>show hx pins σ H1 s1 e s' I1 hq
 |ok fl=>
   cases fl with
   |ret u=>show I1.after hq
   |_=>show False.elim hq
inductive Vy (K:Frag) (H:Hp):V->au->zb where
 |of {x:V}{t:au}(h:n8 K H x t):Vy K H x t
 |exc {a C:ai}(e:H a=ae (.ext (kC a C))) (T:xu K C):Vy K H (.ref a) (.ref C)
noncomputable def adU:V->au->zb
 |.ref a,c=>c=.ref a
 |.ty n,c=>c=.type n
 |_,_=>False
def adV (K:Frag):List V->Hp->VK->zb:=λvs H Q=>∃ x c t cv b,vs=[x,c] /\ Vy K H x t /\ adU c cv /\ kitOne K t cv=ae b /\ Q (.bl b) H
theorem fU:pK X (.builtin "isinstance") (adV X.K):=by
 intro pins s σ H xs us Q I rv h;let#[x,c,t,cv,b,rfl,ty,hc,e,q]:=h;cases rv with
 |cons r1 r2=>
   cases r2 with
   |cons r3 r4=>
     cases r4;ext u1 u2;have ec:u2=cv:=by
      cases c with
      |ref a=>show(r3).trans (hc).symm
      |ty n=>show(r3).trans (hc).symm
      |_=>show hc.elim
     subst ec;cases ty with
     |of ty=>show Gr I r1 ty e λtk=>#[.bl b,H,I.tok tk,rfl,q]
     |@exc a C ea T=>
       cases (r1);let#[p,_,_]:=(I.ay a _ ea);show qj (JM T) I.cH p e (λz=>nomatch z) λtk=>#[.bl b,H,I.tok tk,rfl,q]

def adW:V->List V->Hp->VK->zb:=λx vs H Q=>∃ l xs y,x=.ref l /\ vs=[y] /\ H l=ae (.lst xs) /\ xs.all eI=ag /\ eI y=ag /\ Q (.int<|xs.countP λz=>d8 z y) H
theorem Aa (ry:RelV y u) (fy:eI y=ag) (f:au->Bool):∀ {xs}{us},Vals xs us->xs.all eI=ag ->
 (∀ z w,z∈xs->w∈us->RelV z w->f w=d8 z y)->∀ w∈us,SeqAt.EqAt A s w u (f w)
 |_,_,.nil,_,_,_,h=>nomatch h
 | z::zs,w::ws,.cons r t,ha,hf,v,hv=>by
   rw[nE,aH]at ha;rcases a9.mp hv with e|e
   .subst e;rw[hf z v bM bM r];show JE r ry ha.1 fy
   .show Aa ry fy f t ha.2 (λa b h1 h2=>hf a b (bC _ h1)<|bC _ h2) v e
def xw (y:V) (w:au):Bool:=match w with
 |.none=>d8 .non y
 |.bool b=>d8 (.bl b) y
 |.int i _=>d8 (.int i) y
 |.str x _=>d8 (.str x) y
 |_=>af
theorem Bz (r:RelV z w) (f:eI z=ag):xw y w=d8 z y:=by
 cases z with
 |non=>cases (r);rfl
 |bl b=>cases (r);rfl
 |int i=>let#[t,rfl]:=(r);rfl
 |str x=>let#[t,rfl]:=(r);rfl
 |nG b=>show nomatch f
 |rR b=>show nomatch f
 |ref a=>show nomatch f
 |ty n=>show nomatch f
theorem Ck:∀ {xs}{us},Vals xs us->xs.all eI=ag->us.countP (xw y)=xs.countP λz=>d8 z y
 |_,_,.nil,_=>rfl
 | z::zs,w::ws,.cons r t,ha=>by
   rw[nE,aH]at ha;rw[X0,X0,Ck t ha.2,Bz r ha.1]
theorem Rm:∀ {xs}{us}{j}(h:j<us.length),Vals xs us->xs.all eI=ag->∃ z,xs[j]?=ae z /\ xw y us[j]=d8 z y
 |_,_,_,h,.nil,_=>absurd h (by simp)
 | z::zs,w::ws,0,_,.cons r t,ha=>by
   rw[nE,aH]at ha;show#[z,rfl,Bz r ha.1]
 | z::zs,w::ws,j+1,h,.cons r t,ha=>by
   rw[nE,aH]at ha;let#[v,e1,e2]:=Rm (by simpa using h) t ha.2;show#[v,by simpa using e1,by simpa using e2]
theorem JQ:IU X "list.count" adW:=by
 intro pins s σ H x vs v us Q I rx rv h;let#[l,xs,y,rfl,rfl,hH,ha,hy,q]:=h;cases rx;let#[u,rfl,ru]:=rv.one;let#[z,its,n,r,hl,e]:=I.xr hH;refine wx F.slot_list_count #[_,e,rfl] F.entry_list_count (F.args_list_count_2 _ _) (SeqAt.list_countAt l its.toArray n ah #[] u<|xw y) #[e,?_,?_]
 .intro w hw;refine Aa ru hy _ r ha (λz w h1 h2 rz=>Bz rz<|cb.mp ha z h1) w (by simpa using hw)
 .refine#[.int _,H,I.tok _,#[_,rfl],?_];rw[show its.toArray.toList=its from rfl,Ck r ha];show q
def adX:V->List V->Hp->VK->zb:=λx vs H Q=>∃ l xs y j,x=.ref l /\ vs=[y] /\ H l=ae (.lst xs) /\ xs.all eI=ag /\ eI y=ag /\ j<xs.length /\
 (∀ z,xs[j]?=ae z->d8 z y=ag) /\ (∀ (m) z,m<j->xs[m]?=ae z->d8 z y=af) /\ Q (.int<|j) H
theorem JR:IU X "list.index" adX:=by
 intro pins s σ H x vs v us Q I rx rv h;let#[l,xs,y,j,rfl,rfl,hH,ha,hy,hj,hit,tw,q]:=h;cases rx;let#[u,rfl,ru]:=rv.one;let#[z,its,n,r,hl,e]:=I.xr hH;have xx:j<its.length:=by lia
 refine wx F.slot_list_index #[_,e,rfl] F.entry_list_index (F.args_list_index_2 _ _) (SeqAt.list_indexAt l its.toArray n ah #[] u (xw y) j (by simpa using xx) (by have:=xn;lia) ?_ ?_) #[e,?_,(#[.int<|j,H,I.tok _,#[_,rfl],q])]
 .let#[v,e1,e2]:=Rm xx r ha;rw[show (its.toArray[j]'(by simpa using xx))=its[j] from rfl,e2];show hit v e1
 .intro m hm adY;let#[v,e1,e2]:=Rm (by simpa using hm) r ha;rw[show (its.toArray[m]'hm)=its[m] from rfl,e2];show tw m v adY e1
 .intro w hw;show Aa ru hy (xw y) r ha (λz w h1 h2 rz=>Bz rz<|cb.mp ha z h1) w (by simpa using hw)

noncomputable def Z0:aD->Option Str
 |.Constant (.str x) _ _=>ae x
 |_=>ah
def adZ (xs:List Str):TA:=λ_ H Q=>Q (xs.map V.str) H
theorem BA:∀ {es}{xs},es.map Z0=xs.map ae->PA X es (adZ xs)
 |[],[],_=>fR
 |[],_::_,h=>by simp at h
 |_::_,[],h=>by simp at h
 | e::es,x::xs,h=>by
   rw[aQ,aQ,List.cons.injEq]at h;cases e with
   |Constant k j pos=>
     cases k with
     |str y=>
       have e1:=Option.some.inj h.1;subst e1;show fA mE<|BA h.2
     |_=>show nomatch h.1
   |_=>show nomatch h.1
end L2
namespace L2.DL
inductive D where
 |non|bl (b:Bool)|int (i:Int)|str (x:Str)|tup (l:List D)|lst (l:List D)|az (l:List<|Key×D)
inductive W where
 |d (x:D)|b (n:Nat)|s (l:List Int)|x (i:Nat)|t (l:List Nat)|m (l:List<|Str×Nat)
inductive Bx where
 |lst (l:List D)|az (l:List<|Key×D)|dead|dT (l:List<|List Key×D)|fD (l:List<|Key×D)|ins (C:ai) (fs:List<|Str×(D ⊕ Nat))
mutual
noncomputable def Den (F:Hp):D->V->zb
 |.non,v=>v=.non
 |.bl b,v=>v=.bl b
 |.int i,v=>v=.int i
 |.str x,v=>v=.str x
 |.tup l,v=>∃ a vs,v=.ref a /\ F a=ae (.tup vs) /\ aG F l vs
 |.lst l,v=>∃ a vs,v=.ref a /\ F a=ae (.lst vs) /\ aG F l vs
 |.az l,v=>∃ a ao,v=.ref a /\ F a=ae (.dK ao) /\ aL F l ao
noncomputable def aG (F:Hp):List D->List V->zb
 |[],vs=>vs=[]
 |d::l,vs=>∃ v r,vs=v::r /\ Den F d v /\ aG F l r
noncomputable def aL (F:Hp):List (Key×D)->List (Key×V)->zb
 |[],r=>r=[]
 |(k,d)::l,r=>∃ v r',r=(k,v)::r' /\ Den F d v /\ aL F l r'
end
def Sub (F F':Hp):zb:=∀ a u,F a=ae u->F' a=ae u
theorem Sub.refl (F):Sub F F:=λ_ _ h=>h
theorem Sub.trans (a:Sub F G) (b:Sub G H):Sub F H:=λx u h=>b x u<|a x u h
def vD (F F':Hp):zb:=∀ a u,(∀ o v,u≠.bA o v)->F a=ae u->F' a=ae u
theorem Sub.d (s:Sub F F'):vD F F':=λa u _ h=>s a u h
mutual
theorem Den.cz {F F':Hp}(s:vD F F'):∀ (d:D) {v:V},Den F d v->Den F' d v
 |.non,_,h=>h
 |.bl _,_,h=>h
 |.int _,_,h=>h
 |.str _,_,h=>h
 | .tup l,_,h=>by
   let#[a,vs,e,h1,h2]:=h;show#[a,vs,e,s _ _ (λ_ _ z=>nomatch z) h1,aG.cz s l h2]
 | .lst l,_,h=>by
   let#[a,vs,e,h1,h2]:=h;show#[a,vs,e,s _ _ (λ_ _ z=>nomatch z) h1,aG.cz s l h2]
 | .az l,_,h=>by
   let#[a,vs,e,h1,h2]:=h;show#[a,vs,e,s _ _ (λ_ _ z=>nomatch z) h1,aL.cz s l h2]
theorem aG.cz {F F':Hp}(s:vD F F'):∀ (l:List D) {vs:List V},aG F l vs->aG F' l vs
 |[],_,h=>h
 | d::l,_,h=>by
   let#[v,r,e,h1,h2]:=h;show#[v,r,e,Den.cz s d h1,aG.cz s l h2]
theorem aL.cz {F F':Hp}(s:vD F F'):∀ (l:List<|Key×D) {vs:List (Key×V)},aL F l vs->aL F' l vs
 |[],_,h=>h
 | (k,d)::l,_,h=>by
   let#[v,r,e,h1,h2]:=h;show#[v,r,e,Den.cz s d h1,aL.cz s l h2]
end
theorem Den.mono (s:Sub F F') (d) (h:Den F d v):Den F' d v:=Den.cz s.d d h
theorem aG.mono (s:Sub F F') (l) (h:aG F l vs):aG F' l vs:=aG.cz s.d l h
theorem aL.mono (s:Sub F F') (l) (h:aL F l vs):aL F' l vs:=aL.cz s.d l h
theorem aG.length:∀ {l}{vs},aG F l vs->l.length=vs.length
 | [],_,h=>by
   rw[h];rfl
 | d::l,_,h=>by
   let#[v,r,e,_,h2]:=h;rw[e,a6,a6,h2.length]
theorem aG.get:∀ {l}{vs}{i:Nat}{d},aG F l vs->l[i]?=ae d->∃ v,vs[i]?=ae v /\ Den F d v
 |[],_,_,_,_,e=>by simp at e
 | x::l,_,0,d,h,e=>by
   let#[v,r,q,h1,_]:=h;simp at e;subst e;subst q;show#[v,rfl,h1]
 | x::l,_,i+1,d,h,e=>by
   let#[v,r,q,_,h2]:=h;subst q;let#[u,e1,e2]:=aG.get h2 (by simpa using e);show#[u,by simpa using e1,e2]
theorem aG.nil:aG F [] []:=rfl
theorem aG.cons {F}{d}{v}{l}{vs}(h:Den F d v) (t:aG F l vs):aG F (d::l) (v::vs):=#[v,vs,rfl,h,t]
theorem aG.append:∀ {l l'}{vs Em},aG F l vs->aG F l' Em->aG F (l++l') (vs++Em)
 | [],_,_,_,h,t=>by
   rw[h];show t
 | d::l,_,_,_,h,t=>by
   let#[v,r,q,h1,h2]:=h;subst q;show .cons h1<|h2.append t
theorem aG.take:∀ {l}{vs} (n),aG F l vs->aG F (l.take n) (vs.take n)
 |l,_,0,_=>by rfl
 | [],_,n+1,h=>by
   rw[h];show rfl
 | d::l,_,n+1,h=>by
   let#[v,r,q,h1,h2]:=h;subst q;show .cons h1<|h2.take n
theorem aG.drop:∀ {l}{vs} (n),aG F l vs->aG F (l.drop n) (vs.drop n)
 |l,_,0,h=>h
 | [],_,n+1,h=>by
   rw[h];show rfl
 | d::l,_,n+1,h=>by
   let#[v,r,q,h1,h2]:=h;subst q;show h2.drop n
theorem aG.reverse:∀ {l}{vs},aG F l vs->aG F l.reverse vs.reverse
 | [],_,h=>by
   rw[h];show rfl
 | d::l,_,h=>by
   let#[v,r,q,h1,h2]:=h;subst q;rw[HX,HX];show h2.reverse.append<|.cons h1 .nil
theorem aG.set (hd:Den F d v):∀ {l}{vs} (i),aG F l vs->aG F (l.set i d) (vs.set i v)
 | [],_,_,h=>by
   rw[h];show rfl
 | _::l,_,0,h=>by
   let#[v',r,q,h1,h2]:=h;subst q;show .cons hd h2
 | _::l,_,i+1,h=>by
   let#[v',r,q,h1,h2]:=h;subst q;show .cons h1<|aG.set hd i h2
theorem aG.eraseIdx:∀ {l}{vs} (i),aG F l vs->aG F (l.eraseIdx i) (vs.eraseIdx i)
 | [],_,_,h=>by
   rw[h];show rfl
 | _::l,_,0,h=>by
   let#[v',r,q,h1,h2]:=h;subst q;show h2
 | _::l,_,i+1,h=>by
   let#[v',r,q,h1,h2]:=h;subst q;show .cons h1<|h2.eraseIdx i
structure Fr where
 H₀:Hp
 n₀:Nat
 F₀:Hp
noncomputable def xy (r:List ai):List Nat->List ai->zb
 |[],as=>as=[]
 |n::l,as=>∃ a t,as=a::t /\ r[n]?=ae a /\ xy r l t
theorem xy.mono (p:r <+: r'):∀ {l}{as},xy r l as->xy r' l as
 |[],_,h=>h
 | n::l,_,h=>by
   let#[a,t,e,h1,h2]:=h;refine#[a,t,e,?_,h2.mono p];let#[u,rfl]:=p;rw[cR (List.getElem?_eq_some_iff.mp h1).1];show h1
def bK (F:Hp):List (List Key×D)->List (List Key×V)->zb
 |[],r=>r=[]
 |(k,d)::l,r=>∃ v r',r=(k,v)::r' /\ Den F d v /\ bK F l r'
theorem bK.cz (s:vD F F'):∀ (l) {vs},bK F l vs->bK F' l vs
 |[],_,h=>h
 | (k,d)::l,_,h=>by
   let#[v,r,e,h1,h2]:=h;show#[v,r,e,Den.cz s d h1,bK.cz s l h2]
theorem bK.mono (s:Sub F F') (l) (h:bK F l vs):bK F' l vs:=bK.cz s.d l h
def bO (F:Hp) (Vz:List ai):W->V->zb
 |.d x,v=>Den F x v
 |.b n,v=>∃ a,v=.ref a /\ Vz[n]?=ae a
 |.s l,v=>∃ a o,v=.ref a /\ F a=ae (.bA o<|.lst<|l.map V.int)
 |.x _,_=>False
 |.t l,v=>∃ c as,v=.ref c /\ F c=ae (.tup<|as.map V.ref) /\ xy Vz l as
 |.m l,v=>∃ c as,v=.ref c /\ F c=ae (.dK<|List.zipWith (λk a=>(.inr k.1,V.ref a)) l as) /\ xy Vz (l.map (·.2)) as
theorem bO.mono (s:Sub F F') (p:r <+: r'):∀ (w) {v},bO F r w v->bO F' r' w v
 |.d x,_,h=>Den.mono s x h
 | .b n,_,h=>by
   let#[a,e,h]:=h;refine#[a,e,?_];let#[t,rfl]:=p;rw[cR (List.getElem?_eq_some_iff.mp h).1];show h
 |.s l,_,h=>let ⟨a,o,e,h⟩:=h;#[a,o,e,s _ _ h]
 |.x _,_,h=>h
 |.t l,_,h=>let ⟨c,as,e,h1,h2⟩:=h;#[c,as,e,s _ _ h1,h2.mono p]
 |.m l,_,h=>let ⟨c,as,e,h1,h2⟩:=h;#[c,as,e,s _ _ h1,h2.mono p]
def En (F:Hp) (r:List ai) (n:Nat):D ⊕ Nat->V->zb
 |.inl d,v=>Den F d v
 |.inr m,v=>m<n /\ ∃ a,v=.ref a /\ r[m]?=ae a
def cY (F:Hp) (r:List ai) (n:Nat):List (Str×(D ⊕ Nat))->List (Str×V)->zb
 |[],vs=>vs=[]
 |(k,w)::l,vs=>∃ v t,vs=(k,v)::t /\ En F r n w v /\ cY F r n l t
theorem cY.cz (s:vD F F') (p:∀ m,m<n->∀ a,r[m]?=ae a->r'[m]?=ae a):∀ (l) {vs},cY F r n l vs->cY F' r' n l vs
 |[],_,h=>h
 |(k,.inl d)::l,_,⟨v,t,e,h1,h2⟩=>#[v,t,e,Den.cz s d h1,cY.cz s p l h2]
 |(k,.inr m)::l,_,⟨v,t,e,⟨h1,a,h2,h3⟩,h4⟩=>#[v,t,e,#[h1,a,h2,p m h1 a h3],cY.cz s p l h4]
theorem Dp (p:r <+: r') (m:Nat) (a:ai) (h:r[m]?=ae a):r'[m]?=ae a:=by
 let#[t,rfl]:=p;rw[cR (List.getElem?_eq_some_iff.mp h).1];show h
def si (F:Hp) (r:List ai) (n:Nat) (H:Hp) (a:ai):Bx->zb
 |.lst l=>F a=ah /\ ∃ vs,H a=ae (.lst vs) /\ aG F l vs
 |.az l=>F a=ah /\ ∃ ao,H a=ae (.dK ao) /\ aL F l ao
 |.dead=>∃ u,H a=ae u
 |.dT l=>F a=ah /\ ∃ ao,H a=ae (.dT ao) /\ bK F l ao
 |.fD l=>∃ o ao,F a=ae (.bA o<|.dK ao) /\ H a=ae (.bA o<|.dK ao) /\ aL F l ao
 |.ins C fs=>F a=ah /\ ∃ dx vs,H a=ae (.ins C dx vs) /\ cY F r n fs vs
noncomputable abbrev bt:=List<|Option W
noncomputable abbrev xB (n:Nat):Option W:=ae<|.b n
noncomputable abbrev xN (i:Int):Option W:=ae<|.d<|.int i
noncomputable abbrev xJ (l:List Int):Option W:=ae<|.d<|.lst<|l.map D.int
structure Rel (T:Fr) (F:Hp) (r:List ai) (σ:St) (H:Hp) (env:bt) (bx:List Bx):zb where
 fh:Sub F H
 slot:∀ (i:Nat) (w:W),env[i]?=ae (ae w)->∃ v,σ[i]?=ae (ae v) /\ bO F r w v
 len:r.length=bx.length
 nd:r.Nodup
 box:∀ (n:Nat) (c:Bx) (a:ai),bx[n]?=ae c->r[n]?=ae a->si F r n H a c
 keep:∀ a u,T.H₀ a=ae u->a∉r->H a=ae u
 new:∀ (n:Nat) (a:ai),T.n₀<=n->r[n]?=ae a->T.H₀ a=ah
 n0:T.n₀<=r.length
 sl:env.length<=σ.length
 fs:∀ a u,F a=ae u->(∃ vs,u=.tup vs) \/ T.F₀ a=ae u \/ T.H₀ a=ah \/ a∈r
structure bf (F:Hp) (r:List ai) (F':Hp) (r':List ai):zb where
 s:Sub F F'
 p:r <+: r'
theorem bf.refl (F) (r):bf F r F r:=#[Sub.refl F,eF r]
theorem bf.trans (a:bf F r F' r') (b:bf F' r' ad0 ad1):bf F r ad0 ad1:=#[a.s.trans b.s,a.p.trans b.p]
theorem bf.den (g:bf F r F' r') (h:bO F r w v):bO F' r' w v:=h.mono g.s g.p w
inductive O (α:Type) where
 |val (a:α) (bx:List Bx)|exc (c:Nat) (bx:List Bx)|bad
abbrev DE (α):=bt->List Bx->O α
noncomputable def fC {α β}(m:O α) (k:α->List Bx->O β):O β:=
 match m with
 |.val a bx=>k a bx
 |.exc c bx=>.exc c bx
 |.bad=>.bad
structure Xs where
 E:XK
 cl:Nat->ai
noncomputable def End {α β:Type}(T:Fr) (Z:Xs) (Rl:Hp->List ai->α->β->zb) (F:Hp) (r:List ai) (σ:St) (env:bt) (Q:β->Hp->zb):O α->zb
 |.val d bx'=>∀ F' r' v H',bf F r F' r'->Rel T F' r' σ H' env bx'->Rl F' r' d v->Q v H'
 |.exc c bx'=>∀ F' r' H',bf F r F' r'->Rel T F' r' [] H' [] bx'->Z.E (.ref<|Z.cl c) ah H'
 |.bad=>False
theorem End.weak (g:bf F r F' r'):∀ {o:O α},End T Z Rl F r σ env Q o->End T Z Rl F' r' σ env Q o
 |.val _ _,h=>λF2 r2 v H2 g2=>h F2 r2 v H2<|g.trans g2
 |.exc _ _,h=>λF2 r2 H2 g2=>h F2 r2 H2<|g.trans g2
 |.bad,h=>h
theorem End.bind {R2:Hp->List ai->α'->β'->zb}(h:End T Z R2 F r σ env Q<|fC m k)
 (c:∀ d bx1 F1 r1 v H1,bf F r F1 r1->Rel T F1 r1 σ H1 env bx1->R1 F1 r1 d v->End T Z R2 F1 r1 σ env Q (k d bx1)->Q1 v H1):End T Z R1 F r σ env Q1 m:=by
 cases m with
 |val d bx=>show λF' r' v H' g R q=>c d bx F' r' v H' g R q<|End.weak g h
 |exc n bx=>show h
 |bad=>show h
theorem Rel.drop (R:Rel T F r σ H env bx):Rel T F r [] H [] bx:=
 #[R.fh,λi w e=>by simp at e,R.len,R.nd,R.box,R.keep,R.new,R.n0,aB _,R.fs]
def tD (T:Fr) (Z:Xs) (m:DE W):TE:=λσ H Q=>∃ F r env bx,Rel T F r σ H env bx /\ End T Z bO F r σ env Q (m env bx)
def PD (X:Cx) (T:Fr) (Z:Xs) (e:aD) (m:DE W):zb:=PE X e<|tD T Z m
abbrev ad2:Hp->List ai->Bool->Bool->zb:=λ_ _ a b=>a=b
def vE (T:Fr) (Z:Xs) (m:DE Bool):TT:=λσ H Q=>∃ F r env bx,Rel T F r σ H env bx /\ End T Z ad2 F r σ env Q (m env bx)
def vF (X:Cx) (T:Fr) (Z:Xs) (e:aD) (m:DE Bool):zb:=PT X e<|vE T Z m
def kD (F:Hp) (r:List ai):List W->List V->zb
 |[],vs=>vs=[]
 |w::l,vs=>∃ v t,vs=v::t /\ bO F r w v /\ kD F r l t
theorem kD.mono (g:bf F r F' r'):∀ {l}{vs},kD F r l vs->kD F' r' l vs
 |[],_,h=>h
 | w::l,_,h=>by
   let#[v,t,e,h1,h2]:=h;show#[v,t,e,g.den h1,h2.mono g]
def Eo (T:Fr) (Z:Xs) (m:DE<|List W):TA:=λσ H Q=>∃ F r env bx,Rel T F r σ H env bx /\ End T Z kD F r σ env Q (m env bx)
def pd (X:Cx) (T:Fr) (Z:Xs) (es:List aD) (m:DE<|List W):zb:=PA X es<|Eo T Z m
theorem bg {T:Fr}{σ:St}{H:Hp}{B:Hp->List ai->bt->List Bx->zb}{G:zb}(k:∀ F r env bx,Rel T F r σ H env bx->B F r env bx->G):(∃ F r env bx,Rel T F r σ H env bx /\ B F r env bx)->G:=λ⟨F,r,env,bx,R,h⟩=>k F r env bx R h
theorem Ep {δ:Type}{T:Fr}{σ:St}{H:Hp}{C:Hp->List ai->δ->zb}{B:Hp->List ai->bt->List Bx->δ->zb}{G:zb}(k:∀ F r env bx w,Rel T F r σ H env bx->C F r w->B F r env bx w->G):(∃ F r env bx w,Rel T F r σ H env bx /\ C F r w /\ B F r env bx w)->G:=λ⟨F,r,env,bx,w,R,d,h⟩=>k F r env bx w R d h
theorem PE.imp (h:PE X e t) (f:∀ σ H Q,t' σ H Q->t σ H Q):PE X e t':=λpins s σ H Q I q=>h pins s σ H Q I<|f σ H Q q
theorem PT.imp (h:PT X e t) (f:∀ σ H Q,t' σ H Q->t σ H Q):PT X e t':=λpins s σ H Q I q=>h pins s σ H Q I<|f σ H Q q
theorem PW.imp (h:PW X e t) (f:∀ σ H Q,t' σ H Q->t σ H Q):PW X e t':=λwhole pins s σ H Q I q=>h whole pins s σ H Q I<|f σ H Q q
theorem PA.imp (h:PA X e t) (f:∀ σ H Q,t' σ H Q->t σ H Q):PA X e t':=λpos pins s σ H Q I q=>h pos pins s σ H Q I<|f σ H Q q
theorem PS.imp (h:PS X e t) (f:∀ Q σ H,t' Q σ H->t Q σ H):PS X e t':=λpins s σ H Q I q=>h pins s σ H Q I<|f Q σ H q
theorem cX.imp (h:cX X e t) (f:∀ Q σ H,t' Q σ H->t Q σ H):cX X e t':=λpins s σ H Q I q=>h pins s σ H Q I<|f Q σ H q

noncomputable def dV (i:Nat):DE W:=λenv bx=>match env[i]? with|some (ae w)=>.val w bx|_=>.bad
theorem JS (i) (hN:X.N[i]?=ae x:=by rfl) (hv:qB X.env.scope x:=by first|show Or.inl za|show Or.inr _|show Or.inr _) (hd:(x==("__debug__"))=af:=by decide)
 (dj:(x==("__classdict__"))=af:=by decide):PD X T Z (.Name x pos) (dV i):=by
 refine PE.imp (mD hN hv hd dj) λσ H Q=>bg λF r env bx R h=>?_;unfold dV at h;split at h
 .ext w e;let#[v,e1,e2]:=R.slot i w e;show#[v,e1,h F r v H (.refl F r) R e2]
 .show h.elim
noncomputable def dC (d:D):DE W:=λ_ bx=>.val (.d d) bx
theorem Cn (h:PE X e<|tC v) (hd:∀ F,Den F d v):PD X T Z e (dC d):=
 PE.imp h λσ H Q=>bg λF r env bx R h=>h F r v H (.refl F r) R<|hd F
noncomputable def fe:DE (List W):=λ_ bx=>.val [] bx
def fc (m:DE W) (k:DE<|List W):DE (List W):=λenv bx=>fC (m env bx) λw bx1=>fC (k env bx1) λl aq=>.val (w::l) aq
theorem lg:pd X T Z [] fe:=PA.imp fR λσ H Q=>bg λF r env bx R h=>h F r [] H (.refl F r) R za

theorem jt (h:F p=ah):Sub F (upd F p o):=λa u e=>by rw[fv<|fI e h];show e
theorem Rel.uC (R:Rel T F r σ H env bx) (h:H p=ah):F p=ah:=by
 cases e:F p with
 |none=>rfl
 |some u=>rw[R.fh p u e]at h;cases h
theorem si.there:∀ {c},si F r n H a c->∃ u,H a=ae u
 |.lst _,h=>let ⟨_,vs,e,_⟩:=h;#[_,e]
 |.az _,h=>let ⟨_,vs,e,_⟩:=h;#[_,e]
 |.dead,h=>h
 |.dT _,h=>let ⟨_,vs,e,_⟩:=h;#[_,e]
 |.fD _,h=>let ⟨_,_,_,e,_⟩:=h;#[_,e]
 |.ins _ _,h=>let ⟨_,_,_,e,_⟩:=h;#[_,e]
theorem Rel.kE (R:Rel T F r σ H env bx) (e:r[n]?=ae a):∃ c,bx[n]?=ae c /\ si F r n H a c:=by
 have h:=(List.getElem?_eq_some_iff.mp e).1;rw[R.len]at h;show#[_,cW h,R.box n _ a (cW h) e]
theorem Rel.Er (R:Rel T F r σ H env bx) (h:H p=ah):p∉r:=λhp=>by
 let#[n,e]:=List.mem_iff_getElem?.mp hp;let#[c,_,k]:=R.kE e;let#[u,k]:=k.there;rw[h]at k;cases k
theorem si.grow (s:Sub F F') (p:r <+: r') (hf:F a=ah->F' a=ah) (hh:∀ u,H a=ae u->H' a=ae u):∀ {c},si F r n H a c->si F' r' n H' a c
 |.lst _,h=>let ⟨h1,vs,h2,h3⟩:=h;#[hf h1,vs,hh _ h2,aG.mono s _ h3]
 |.az _,h=>let ⟨h1,vs,h2,h3⟩:=h;#[hf h1,vs,hh _ h2,aL.mono s _ h3]
 |.dead,h=>let ⟨u,h⟩:=h;#[u,hh u h]
 |.dT _,h=>let ⟨h1,vs,h2,h3⟩:=h;#[hf h1,vs,hh _ h2,bK.mono s _ h3]
 |.fD _,h=>let ⟨o,vs,h1,h2,h3⟩:=h;#[o,vs,s _ _ h1,hh _ h2,aL.mono s _ h3]
 |.ins _ _,h=>let ⟨h1,dx,vs,h2,h3⟩:=h;#[hf h1,dx,vs,hh _ h2,cY.cz s.d (λm _ a e=>Dp p m a e) _ h3]
theorem Rel.xA (R:Rel T F r σ H env bx) (h:H p=ah):Rel T (upd F p o) r σ (upd H p o) env bx:=by
 have s:=jt (o:=o)<|R.uC h;refine#[λa u e=>?_,λi w e=>?_,R.len,R.nd,λn c a e1 e2=>?_,λa u e hn=>?_,R.new,R.n0,R.sl,λa u e=>?_]
 .by_cases ha:a=p
  .subst ha;rw[fu]at e ⊢;show e
  .rw[fv ha]at e ⊢;show R.fh a u e
 .let#[v,e1,e2]:=R.slot i w e;show#[v,e1,e2.mono s<|eF r]
 .have k:=R.box n c a e1 e2;let#[u,hu]:=k.there;have ha:=fI hu h;show k.grow s (eF r) (λz=>by rw[fv ha];show z) (λu z=>by rw[fv ha];show z)
 .have k:=R.keep a u e hn;rw[fv<|fI k h];show k
 .by_cases ha:a=p
  .subst ha;refine .inr<|.inr<|.inl ?_;cases q:T.H₀ a with
   |none=>rfl
   |some u=>rw[R.keep a u q<|R.Er h]at h;cases h
  .rw[fv ha]at e;show R.fs a u e
theorem Rel.tJ (R:Rel T F r σ H env bx) (h:H p=ah):bf F r (upd F p o) r:=#[jt<|R.uC h,eF r]
theorem Rel.Es (R:Rel T F r σ H env bx) (h:H p=ah) (hc:si F r r.length (upd H p o) p c):Rel T F (r++[p]) σ (upd H p o) env (bx++[c]):=by
 have hs:∀ a u,H a=ae u->upd H p o a=ae u:=λa u e=>by rw[fv<|fI e h];show e
 refine#[λa u e=>hs a u<|R.fh a u e,λi w e=>?_,by rw[bG,bG,R.len];rfl,?_,λn c' a e1 e2=>?_,λa u e hn=>(hs a u<|R.keep a u e λz=>hn<|nU _ z),λn a hn e=>?_,by rw[bG];show cu R.n0 (rJ _ _),R.sl,λa u e=>(R.fs a u e).imp id<|Or.imp id<|Or.imp id λz=>nU _ z]
 .let#[v,e1,e2]:=R.slot i w e;show#[v,e1,e2.mono (Sub.refl F)<|pI r [p]]
 .rw[sW];refine#[R.nd,by simp,λa ha b hb=>?_];rw[eY]at hb;subst hb;show λz=>R.Er h<|z▸ha
 .by_cases hn:n<r.length
  .rw[cR hn]at e2;rw[cR (by rw[<-R.len];show hn)]at e1;show(R.box n c' a e1 e2).grow (Sub.refl F) (pI r [p]) id (hs a)
  .rw[dD (by lia)]at e2;rw[dD (by rw[<-R.len];lia)]at e1;have hl:n-r.length=0:=by
    cases q:n-r.length with
    |zero=>rfl
    |succ k=>rw[q]at e2;simp at e2
   have nv:n-bx.length=0:=by rw[<-R.len];show hl
   rw[hl]at e2;rw[nv]at e1;simp at e1 e2;subst e1 e2;have sY:n=r.length:=by lia
   subst sY;show hc.grow (Sub.refl F) (pI r _) id λ_ z=>z
 .by_cases hl:n<r.length
  .rw[cR hl]at e;show R.new n a hn e
  .have hp:a=p:=by
    rw[dD (by lia)]at e;cases q:n-r.length with
    |zero=>rw[q]at e;simp at e;show e.symm
    |succ k=>rw[q]at e;simp at e
   subst hp;cases q:T.H₀ a with
   |none=>rfl
   |some u=>rw[R.keep a u q<|R.Er h]at h;cases h
theorem jS {α:Type}{l:List α}(h:l.Nodup) {j:Nat}{x}(a:l[i]?=ae x) (b:l[j]?=ae x):i=j:=(List.getElem?_inj (List.getElem?_eq_some_iff.mp a).1 h).mp<|a.trans b.symm
theorem Rel.write (R:Rel T F r σ H env bx) (e:r[n]?=ae a) (hF:F a=ah) (hc:si F r n (upd H a o) a c):Rel T F r σ (upd H a o) env (bx.set n c):=by
 refine#[λb u q=>?_,R.slot,by rw[qz];show R.len,R.nd,λm c' b e1 e2=>?_,λb u q hn=>?_,R.new,R.n0,R.sl,R.fs]
 .by_cases hb:b=a
  .subst hb;rw[hF]at q;cases q
  .rw[fv hb];show R.fh b u q
 .by_cases hm:m=n
  .subst hm;rw[e]at e2;cases e2;rw[pE (by rw[<-R.len];show(List.getElem?_eq_some_iff.mp e).1)]at e1;cases e1;show hc
  .rw[rK<|Ne.symm hm]at e1;have hb:b≠a:=λz=>hm<|jS R.nd e2<|z▸e;show(R.box m c' b e1 e2).grow (Sub.refl F) (eF r) id λu z=>by rw[fv hb];show z
 .rw[fv λz=>hn (by rw[z];show(List.mem_iff_getElem?.mpr #[n,e]))];show R.keep b u q hn
theorem Rel.freeze (R:Rel T F r σ H env bx) (e:r[n]?=ae a) (hF:F a=ah) (hH:H a=ae o):Rel T (upd F a o) r σ H env (bx.set n .dead) /\ bf F r (upd F a o) r:=by
 have s:=jt (o:=o) hF;refine#[#[λb u q=>?_,λi w q=>?_,by rw[qz];show R.len,R.nd,λm c' b e1 e2=>?_,R.keep,R.new,R.n0,R.sl,λb u q=>?_],s,eF r]
 .by_cases hb:b=a
  .subst hb;rw[fu]at q;cases q;show hH
  .rw[fv hb]at q;show R.fh b u q
 .let#[v,e1,e2]:=R.slot i w q;show#[v,e1,e2.mono s<|eF r]
 .by_cases hm:m=n
  .subst hm;rw[e]at e2;cases e2;rw[pE (by rw[<-R.len];show(List.getElem?_eq_some_iff.mp e).1)]at e1;cases e1;show#[_,hH]
  .rw[rK<|Ne.symm hm]at e1;have hb:b≠a:=λz=>hm<|jS R.nd e2<|z▸e;show(R.box m c' b e1 e2).grow s (eF r) (λz=>by rw[fv hb];show z) λu z=>z
 .by_cases hb:b=a
  .subst hb;show .inr<|.inr<|.inr<|List.mem_iff_getElem?.mpr #[n,e]
  .rw[fv hb]at q;show R.fs b u q
def nL (F H:Hp):D->V->zb
 |.lst l,v=>∃ a vs,v=.ref a /\ H a=ae (.lst vs) /\ aG F l vs
 |.az l,v=>∃ a ao,v=.ref a /\ H a=ae (.dK ao) /\ aL F l ao
 |.tup l,v=>∃ a vs,v=.ref a /\ F a=ae (.tup vs) /\ aG F l vs
 |.non,v=>v=.non
 |.bl b,v=>v=.bl b
 |.int i,v=>v=.int i
 |.str x,v=>v=.str x
noncomputable def bF (bx:List Bx):W->Option D
 |.d x=>ae x
 | .b n=>match bx[n]? with
   |some (.lst l)=>ae<|.lst l
   |some (.az l)=>ae<|.az l
   |_=>ah
 |_=>ah
theorem Den.qO (s:Sub F H):∀ {d}{v},Den F d v->nL F H d v
 |.non,_,h=>h
 |.bl _,_,h=>h
 |.int _,_,h=>h
 |.str _,_,h=>h
 |.tup l,_,h=>h
 |.lst l,_,h=>let ⟨a,vs,e,h1,h2⟩:=h;#[a,vs,e,s _ _ h1,h2]
 |.az l,_,h=>let ⟨a,vs,e,h1,h2⟩:=h;#[a,vs,e,s _ _ h1,h2]
theorem Rel.qO (R:Rel T F r σ H env bx) (h:bO F r w v) (e:bF bx w=ae d):nL F H d v:=by
 cases w with
 |d x=>
   cases e;show Den.qO R.fh h
 |b n=>
   let#[a,rfl,ha]:=h;let#[c,hc,k]:=R.kE ha;simp[bF,hc]at e;cases c with
   |lst l=>cases e;let#[_,vs,k1,k2]:=k;show#[a,vs,rfl,k1,k2]
   |az l=>cases e;let#[_,vs,k1,k2]:=k;show#[a,vs,rfl,k1,k2]
   |_=>cases e
 |s l=>cases e
 |x i=>show h.elim
 |_=>cases e
def VA (F H:Hp):List D->List V->zb
 |[],vs=>vs=[]
 |d::l,vs=>∃ v t,vs=v::t /\ nL F H d v /\ VA F H l t
def nM (bx:List Bx):List W->Option (List D)
 |[]=>ae []
 |w::l=>(bF bx w).bind λd=>(nM bx l).map λt=>d::t
theorem Rel.Z1 (R:Rel T F r σ H env bx):∀ {ws}{vs}{ds},kD F r ws vs->nM bx ws=ae ds->VA F H ds vs
 |[],_,_,h,e=>by cases e;show h
 | w::l,_,ds,h,e=>by
   let#[v,t,q,h1,h2]:=h;unfold nM at e;cases e1:bF bx w with
   |none=>rw[e1]at e;cases e
   |some d=>
     rw[e1]at e;cases e2:nM bx l with
     |none=>rw[e2]at e;cases e
     |some t'=>
       rw[e2]at e;cases e;show#[v,t,q,R.qO h1 e1,R.Z1 h2 e2]
inductive Res where
 |old (d:D)|tup (l:List D)|lst (l:List D)|az (l:List<|Key×D)
noncomputable def Res.toD:Res->D
 |.old d=>d|.tup l=>.tup l|.lst l=>.lst l|.az l=>.az l
def vG (F H:Hp):Res->V->Hp->zb
 |.old d,v,H'=>H'=H /\ Den F d v
 |.tup l,v,H'=>(H'=H /\ Den F (.tup l) v) \/ ∃ p vs,v=.ref p /\ H p=ah /\ H'=upd H p (.tup vs) /\ aG F l vs
 |.lst l,v,H'=>∃ p vs,v=.ref p /\ H p=ah /\ H'=upd H p (.lst vs) /\ aG F l vs
 |.az l,v,H'=>∃ p vs,v=.ref p /\ H p=ah /\ H'=upd H p (.dK vs) /\ aL F l vs
theorem Rel.res (R:Rel T F r σ H env bx):∀ {q},vG F H q v H'->∃ F',bf F r F' r /\ Rel T F' r σ H' env bx /\ Den F' q.toD v
 | .old d,h=>by
   let#[rfl,h]:=h;show#[F,.refl F r,R,h]
 | .tup l,h=>by
   rcases h with⟨rfl,h⟩|⟨p,vs,rfl,hp,rfl,h⟩
   .show#[F,.refl F r,R,h]
   show#[_,R.tJ hp,R.xA hp,p,vs,rfl,fu,aG.mono (R.tJ hp).s l h]
 | .lst l,h=>by
   let#[p,vs,rfl,hp,rfl,h]:=h;show#[_,R.tJ hp,R.xA hp,p,vs,rfl,fu,aG.mono (R.tJ hp).s l h]
 | .az l,h=>by
   let#[p,vs,rfl,hp,rfl,h]:=h;show#[_,R.tJ hp,R.xA hp,p,vs,rfl,fu,aL.mono (R.tJ hp).s l h]
theorem Rel.resB (R:Rel T F r σ H env bx) (h:vG F H (.lst l) v H'):∃ r',bf F r F r' /\ Rel T F r' σ H' env (bx++[.lst l]) /\ bO F r' (.b bx.length) v:=by
 let#[p,vs,rfl,hp,rfl,h]:=h;refine#[r++[p],#[Sub.refl F,pI r [p]],R.Es hp #[R.uC hp,vs,fu,h],p,rfl,?_];rw[<-R.len,dD<|aB _,k6];rfl
theorem Rel.ad3 (R:Rel T F r σ H env bx) (h:vG F H (.az l) v H'):∃ r',bf F r F r' /\ Rel T F r' σ H' env (bx++[.az l]) /\ bO F r' (.b bx.length) v:=by
 let#[p,vs,rfl,hp,rfl,h]:=h;refine#[r++[p],#[Sub.refl F,pI r [p]],R.Es hp #[R.uC hp,vs,fu,h],p,rfl,?_];rw[<-R.len,dD<|aB _,k6];rfl
def bZ (b:Bool):Option Res->List Bx->O W
 |none,_=>.bad
 | some q,bx=>match b,q with
   |true,.lst l=>.val (.b bx.length)<|bx++[.lst l]
   |true,.az l=>.val (.b bx.length)<|bx++[.az l]
   |_,_=>.val (.d q.toD) bx
theorem gP (R:Rel T F r σ H env bx) (h:End T Z bO F r σ env Q<|bZ b (ae q) bx) (k:vG F H q v H'):Q v H':=by
 have one:End T Z bO F r σ env Q (.val (.d q.toD) bx)->Q v H':=λh=>by
  let#[F',g,R',d]:=R.res k;show h F' r v H' g R' d
 cases b with
 |false=>show one h
 |true=>
   cases q with
   |old d=>show one h
   |tup l=>show one h
   |lst l=>
     let#[r',g,R',d]:=R.resB k;show h F r' v H' g R' d
   |az l=>
     let#[r',g,R',d]:=R.ad3 k;show h F r' v H' g R' d
def nz (q:R2) (g:D->D->Option Res):zb:=∀ (F H) (x y) (v w) (Q) (s),Sub F H->nL F H x v->nL F H y w->g x y=ae s->(∀ u H',vG F H s u H'->Q u H')->q v w H Q
def qP (q:List V->Hp->VK->zb) (g:List D->Option Res):zb:=∀ (F H) (xs) (vs) (Q) (s),Sub F H->VA F H xs vs->g xs=ae s->(∀ u H',vG F H s u H'->Q u H')->q vs H Q
def d2 (b:Bool) (g:D->D->Option Res) (ma mb:DE W):DE W:=λenv bx=>fC (ma env bx) λx bx1=>fC (mb env bx1) λy aq=>bZ b ((bF aq x).bind λp=>(bF aq y).bind λq=>g p q) aq
theorem Fd (hg:nz q g) (σ) (H) (Q) (h:tD T Z (d2 b g ma mb) σ H Q):yZ q (tD T Z ma) (tD T Z mb) σ H Q:=by
 let#[F,r,env,bx,R,h]:=h;refine#[F,r,env,bx,R,End.bind h λx bx1 F1 r1 v H1 g1 R1 d1 h1=>?_];refine#[F1,r1,env,bx1,R1,End.bind h1 λy aq F2 r2 w H2 g2 R2 Et h2=>?_];cases e1:bF aq x with
 |none=>rw[e1]at h2;show h2.elim
 |some p=>
   cases e2:bF aq y with
   |none=>rw[e1,e2]at h2;show h2.elim
   |some z=>
     cases e3:g p z with
     |none=>rw[e1,e2]at h2;simp[bI,e3]at h2;show h2.elim
     |some s=>
       rw[e1,e2]at h2;simp[bI,e3]at h2;show hg F2 H2 p z v w Q s R2.fh (R2.qO (g2.den d1) e1) (R2.qO Et e2) e3 λu H' k=>gP R2 h2 k
def dN (b:Bool) (g:List D->Option Res) (k:DE<|List W):DE W:=λenv bx=>fC (k env bx) λws bx1=>bZ b ((nM bx1 ws).bind g) bx1
theorem JT (hg:qP q g) (σ) (H) (Q) (h:tD T Z (dN b g k) σ H Q):IK q (Eo T Z k) σ H Q:=by
 let#[F,r,env,bx,R,h]:=h;refine#[F,r,env,bx,R,End.bind h λws bx1 F1 r1 vs H1 g1 R1 d1 h1=>?_];cases e1:nM bx1 ws with
 |none=>rw[e1]at h1;show h1.elim
 |some ds=>
   rw[e1]at h1;cases e2:g ds with
   |none=>simp[bI,e2]at h1;show h1.elim
   |some s=>
     simp[bI,e2]at h1;show hg F1 H1 ds vs Q s R1.fh (R1.Z1 d1 e1) e2 λu H' k=>gP R1 h1 k

def dB (m:DE W):DE Bool:=λenv bx=>fC (m env bx) λw bx1=>match w with|.d (.bl k)=>.val k bx1|_=>.bad
theorem Na (h:vE T Z (dB ma) σ H Q):tB (tD T Z ma) σ H Q:=by
 let#[F,r,env,bx,R,h]:=h;refine#[F,r,env,bx,R,End.bind h λw bx1 F1 r1 v H1 g1 R1 d1 h1=>?_];split at h1
 .ext k;show#[k,d1,h1 F1 r1 k H1 (.refl F1 r1) R1 za]
 .show h1.elim
theorem aG.isEmpty (h:aG F l vs):l.isEmpty=vs.isEmpty:=by
 have:=h.length;cases l<;>cases vs<;>simp_all
theorem aL.length:∀ {l}{vs},aL F l vs->l.length=vs.length
 | [],_,h=>by
   rw[h];rfl
 | (k,d)::l,_,h=>by
   let#[v,r,e,_,h2]:=h;rw[e,a6,a6,h2.length]
def d3 (g g':D->D->Option Res) (ma mb mc:DE W):DE W:=λenv bx=>fC (ma env bx) λx bx1=>fC (mb env bx1) λy aq=>
 fC (bZ af ((bF aq x).bind λp=>(bF aq y).bind λq=>g p q) aq) λz b9=>match z with
  |.d (.bl ag)=>fC (mc env b9) λw eN=>bZ af ((bF eN y).bind λp=>(bF eN w).bind λq=>g' p q) eN
  |.d (.bl af)=>.val (.d<|.bl af) b9
  |_=>.bad
theorem Z2 (hg:nz q g) (R:Rel T F r σ H env bx) (dx:bO F r x v) (dy:bO F r y w)
 (h:End T Z bO F r σ env Q<|bZ af ((bF bx x).bind λp=>(bF bx y).bind λq=>g p q) bx):q v w H Q:=by
 cases e1:bF bx x with
 |none=>rw[e1]at h;show h.elim
 |some p=>
   cases e2:bF bx y with
   |none=>rw[e1,e2]at h;show h.elim
   |some z=>
     cases e3:g p z with
     |none=>rw[e1,e2]at h;simp[bI,e3]at h;show h.elim
     |some s=>
       rw[e1,e2]at h;simp[bI,e3]at h;show hg F H p z v w Q s R.fh (R.qO dx e1) (R.qO dy e2) e3 λu H' k=>gP R h k
theorem Fe (hg:nz q g) (xC:nz q' g') (h:tD T Z (d3 g g' ma mb mc) σ H Q):U9 q q' (tD T Z ma) (tD T Z mb) (tD T Z mc) σ H Q:=by
 let#[F,r,env,bx,R,h]:=h;refine#[F,r,env,bx,R,End.bind h λx bx1 F1 r1 v H1 g1 R1 d1 h1=>?_];refine#[F1,r1,env,bx1,R1,End.bind h1 λy aq F2 r2 w H2 g2 R2 d2 h2=>?_];refine Z2 hg R2 (g2.den d1) d2<|End.bind h2 λz b9 F3 r3 u H3 g3 R3 d3 h3=>?_;split at h3
 .show#[ag,d3,(#[F3,r3,env,b9,R3,End.bind h3 λt eN F4 r4 s H4 g4 R4 d4 h4=>(Z2 xC R4 (g4.den<|g3.den d2) d4 h4)])]
 .show#[af,d3,(h3 F3 r3 _ H3 (.refl F3 r3) R3 za)]
 .show h3.elim
def qo (m k:DE Bool):DE Bool:=λenv bx=>fC (m env bx) λb bx1=>match b with|true=>k env bx1|false=>.val af bx1
def eO (m k:DE Bool):DE Bool:=λenv bx=>fC (m env bx) λb bx1=>match b with|true=>.val ag bx1|false=>k env bx1
def cC (m:DE Bool):DE Bool:=λenv bx=>fC (m env bx) λb bx1=>.val (!b) bx1
def Ke (X:Cx) (T:Fr) (Z:Xs) (e:aD) (m:DE Bool):zb:=PW X e<|vE T Z m

theorem Pa (h:Ke X T Z e ta):vF X T Z e ta:=h.pt
def gR (m k:DE W):DE W:=λenv bx=>fC (m env bx) λw bx1=>match w with|.d (.bl ag)=>k env bx1|.d (.bl af)=>.val (.d<|.bl af) bx1|_=>.bad
def Eu (m k:DE W):DE W:=λenv bx=>fC (m env bx) λw bx1=>match w with|.d (.bl ag)=>.val (.d<|.bl ag) bx1|.d (.bl af)=>k env bx1|_=>.bad
def Kf (m:DE W):DE W:=λenv bx=>fC (m env bx) λw bx1=>match w with|.d (.bl k)=>.val (.d<|.bl<|!k) bx1|_=>.bad
theorem JU (h:PD X T Z a ma):PD X T Z (.BoolOp op [a] pos) ma:=PV h
def kP (t:DE Bool) (m k:DE W):DE W:=λenv bx=>fC (t env bx) λb bx1=>match b with|true=>m env bx1|false=>k env bx1
noncomputable def pf:List W->Option (List D)
 |[]=>ae []
 |.d x::l=>(pf l).map λt=>x::t
 |_=>ah
theorem kD.ds:∀ {ws}{vs}{ds},kD F r ws vs->pf ws=ae ds->aG F ds vs
 |[],_,_,h,e=>by cases e;show h
 | .d x::l,_,ds,h,e=>by
   let#[v,t,q,h1,h2]:=h;unfold pf at e;cases e2:pf l with
   |none=>rw[e2]at e;cases e
   |some t'=>
     rw[e2]at e;cases e;show#[v,t,q,h1,h2.ds e2]
 |.b _::l,_,ds,h,e=>by cases e
 |.s _::l,_,ds,h,e=>by cases e
 |.x _::l,_,ds,h,e=>by cases e
 |.t _::l,_,ds,h,e=>by cases e
 |.m _::l,_,ds,h,e=>by cases e
def fL (k:DE<|List W):DE W:=λenv bx=>fC (k env bx) λws bx1=>bZ af ((pf ws).bind λl=>if l.length<=sizeLine then ae (.tup l) else ah) bx1
def gj (bo:Bool) (k:DE<|List W):DE W:=λenv bx=>fC (k env bx) λws bx1=>bZ bo ((pf ws).bind λl=>if l.length<=sizeLine then ae (.lst l) else ah) bx1
def qQ (cl:Nat->ai) (n:Nat) (fn:List W->List Bx->O W):Sp:=λvs H Q E=>∃ F r ws bx,Rel #[H,r.length,F] F r [] H [] bx /\ kD F r ws vs /\ ws.length=n /\ End #[H,r.length,F] #[E,cl] bO F r [] [] Q (fn ws bx)
theorem kD.length:∀ {ws}{vs},kD F r ws vs->ws.length=vs.length
 | [],_,h=>by
   rw[h];rfl
 | d::l,_,h=>by
   let#[v,t,e,_,h2]:=h;rw[e,a6,a6,h2.length]
theorem Rel.enter (R:Rel T F r σ H env bx):Rel #[H,r.length,F] F r [] H [] bx:=
 #[R.fh,λi w e=>by simp at e,R.len,R.nd,R.box,λa u e _=>e,λn a hn e=>(by rw[rM hn]at e;cases e),aB _,aB _,λa u e=>.inr<|.inl e]
theorem Rel.after (R:Rel T F r σ H env bx) (g:bf F r F' r') (R':Rel #[H,r.length,F] F' r' [] H' [] bx'):Rel T F' r' σ H' env bx':=by
 have pre:∀ (n) (a),r[n]?=ae a->r'[n]?=ae a:=λn a e=>by
  let#[t,rfl]:=g.p;rw[cR (List.getElem?_eq_some_iff.mp e).1];show e
 have sub:∀ a,a∈r->a∈r':=λa h=>g.p.subset h;refine#[R'.fh,λi w e=>?_,R'.len,R'.nd,R'.box,λa u e hn=>(R'.keep a u (R.keep a u e λz=>hn<|sub a z) hn),λn a hn e=>?_,cu R.n0 g.p.length_le,R.sl,λa u e=>?_]
 .let#[v,e1,e2]:=R.slot i w e;show#[v,e1,g.den e2]
 .by_cases hl:n<r.length
  .have q:=pre n _<|cW hl;rw[e]at q;cases q;show R.new n _ hn<|cW hl
  .have q:H a=ah:=R'.new n a (vc hl) e;cases z:T.H₀ a with
   |none=>rfl
   |some u=>
     have hr:a∉r:=λha=>by
      let#[m,em]:=List.mem_iff_getElem?.mp ha;have:=jS R'.nd (pre m a em) e;show hl (by rw[<-this];show(List.getElem?_eq_some_iff.mp em).1)
     rw[R.keep a u z hr]at q;cases q
 .rcases R'.fs a u e with z|z|z|z
  .show .inl z
  .show(R.fs a u z).imp id (Or.imp id<|Or.imp id<|sub a)
  .by_cases ha:a∈r
   .show .inr<|.inr<|.inr<|sub a ha
   .refine .inr<|.inr<|.inl ?_;cases y:T.H₀ a with
    |none=>rfl
    |some u=>
      have z':H a=ah:=z;rw[R.keep a u y ha]at z';cases z'
  .show .inr<|.inr<|.inr z
def fq (fn:List W->List Bx->O W) (n:Nat) (k:DE<|List W):DE W:=λenv bx=>fC (k env bx) λws bx1=>if ws.length=n then fn ws bx1 else .bad
theorem Rn (h:tD T Z (fq fn n k) σ H Q):Ve (qQ Z.cl n fn) [] Z.E (Eo T Z k) σ H Q:=by
 let#[F,r,env,bx,R,h]:=h;refine#[F,r,env,bx,R,End.bind h λws bx1 F1 r1 vs H1 g1 R1 d1 h1=>?_];split at h1
 .ext hl;refine#[F1,r1,ws,bx1,R1.enter,by rw[rL];show d1,hl,?_];cases e:fn ws bx1 with
  |val w bx'=>rw[e]at h1;show λF' r' v H' g R' d=>h1 F' r' v H' g (R1.after g R') d
  |exc c bx'=>rw[e]at h1;show λF' r' H' g R'=>h1 F' r' H' g (R1.after g R').drop
  |bad=>rw[e]at h1;show h1
 .show h1.elim
inductive OS where
 |nx (env:bt) (bx:List Bx)|rt (w:W) (bx:List Bx)|bk (env:bt) (bx:List Bx)|ct (env:bt) (bx:List Bx)|exc (c:Nat) (bx:List Bx)|bad
abbrev aE:=bt->List Bx->OS
def kQ (T:Fr) (Z:Xs) (F:Hp) (r:List ai) (D:Ends):OS->zb
 |.nx aP bx'=>∀ F' r' σ' H',bf F r F' r'->Rel T F' r' σ' H' aP bx'->D.nx σ' H'
 |.rt w bx'=>∀ F' r' v H',bf F r F' r'->Rel T F' r' [] H' [] bx'->bO F' r' w v->D.rt v H'
 |.bk aP bx'=>∀ F' r' σ' H',bf F r F' r'->Rel T F' r' σ' H' aP bx'->D.bk σ' H'
 |.ct aP bx'=>∀ F' r' σ' H',bf F r F' r'->Rel T F' r' σ' H' aP bx'->D.ct σ' H'
 |.exc c bx'=>∀ F' r' H',bf F r F' r'->Rel T F' r' [] H' [] bx'->Z.E (.ref<|Z.cl c) ah H'
 |.bad=>False
theorem kQ.weak {D}(g:bf F r F' r'):∀ {o},kQ T Z F r D o->kQ T Z F' r' D o
 |.nx _ _,h=>λF2 r2 s2 H2 g2=>h F2 r2 s2 H2<|g.trans g2
 |.rt _ _,h=>λF2 r2 s2 H2 g2=>h F2 r2 s2 H2<|g.trans g2
 |.bk _ _,h=>λF2 r2 s2 H2 g2=>h F2 r2 s2 H2<|g.trans g2
 |.ct _ _,h=>λF2 r2 s2 H2 g2=>h F2 r2 s2 H2<|g.trans g2
 |.exc _ _,h=>λF2 r2 H2 g2=>h F2 r2 H2<|g.trans g2
 |.bad,h=>h
noncomputable def bj {α}(m:O α) (k:α->List Bx->OS):OS:=
 match m with
 |.val a bx=>k a bx
 |.exc c bx=>.exc c bx
 |.bad=>.bad
theorem End.bj {D}(h:kQ T Z F r D<|DL.bj m k)
 (c:∀ d bx1 F1 r1 v H1,bf F r F1 r1->Rel T F1 r1 σ H1 env bx1->R1 F1 r1 d v->kQ T Z F1 r1 D (k d bx1)->Q1 v H1):End T Z R1 F r σ env Q1 m:=by
 cases m with
 |val d bx=>show λF' r' v H' g R q=>c d bx F' r' v H' g R q<|kQ.weak g h
 |exc n bx=>show h
 |bad=>show h
def tS (T:Fr) (Z:Xs) (m:aE):TS:=λD σ H=>∃ F r env bx,Rel T F r σ H env bx /\ kQ T Z F r D (m env bx)
def d9 (X:Cx) (T:Fr) (Z:Xs) (s:bJ) (m:aE):zb:=PS X s<|tS T Z m
def xD (X:Cx) (T:Fr) (Z:Xs) (s:List bJ) (m:aE):zb:=cX X s<|tS T Z m
section
variable {st:bJ}
noncomputable def a8:aE:=λenv bx=>.nx env bx
noncomputable def fB (m k:aE):aE:=λenv bx=>match m env bx with|.nx ba bx1=>k ba bx1|o=>o
theorem JV (h1:d9 X T Z st m) (h2:xD X T Z rest k):xD X T Z (st::rest) (fB m k):=by
 refine cX.imp (gV h1 h2) λD σ H=>bg λF r env bx R h=>#[F,r,env,bx,R,?_];unfold fB at h;cases e:m env bx with
 |nx ba bx1=>rw[e]at h;show λF1 r1 σ1 H1 g R1=>#[F1,r1,ba,bx1,R1,kQ.weak g h]
 |rt w bx1=>rw[e]at h;show h
 |bk ba bx1=>rw[e]at h;show h
 |ct ba bx1=>rw[e]at h;show h
 |exc c bx1=>rw[e]at h;show h
 |bad=>rw[e]at h;show h
noncomputable def Z3:aE:=λenv bx=>.bk env bx
noncomputable def Z4:aE:=λenv bx=>.ct env bx
def gN (m:DE W):aE:=λenv bx=>bj (m env bx) λ_ bx1=>.nx env bx1
def fJ (m:DE W):aE:=λenv bx=>bj (m env bx) λw bx1=>.rt w bx1
def aT (t:DE Bool) (m k:aE):aE:=λenv bx=>bj (t env bx) λb bx1=>match b with|true=>m env bx1|false=>k env bx1
abbrev DG:=W->bt->List Bx->Option (bt×List Bx)
abbrev uD:=List W->bt->List Bx->Option (bt×List Bx)
noncomputable def Z5 (T:Fr) (F:Hp) (r:List ai) (Q:St->Hp->zb):Option (bt×List Bx)->zb
 |none=>False
 |some (aP,bx')=>∀ F' r' σ' H',bf F r F' r'->Rel T F' r' σ' H' aP bx'->Q σ' H'
def tG (T:Fr) (g:DG):TG:=λv σ H Q=>∃ F r env bx w,Rel T F r σ H env bx /\ bO F r w v /\ Z5 T F r Q (g w env bx)
def ad4 (T:Fr) (g:uD):xh:=λvs σ H Q=>∃ F r env bx ws,Rel T F r σ H env bx /\ kD F r ws vs /\ Z5 T F r Q (g ws env bx)
def qT (X:Cx) (T:Fr) (tg:aD) (g:DG):zb:=PG X tg<|tG T g
def Kg (X:Cx) (T:Fr) (tg:List aD) (g:uD):zb:=rY X tg<|ad4 T g
theorem PG.imp (h:PG X tg t) (f:∀ v σ H Q,t' v σ H Q->t v σ H Q):PG X tg t':=λpins s σ H v u Q I r q=>h pins s σ H v u Q I r<|f v σ H Q q
theorem rY.imp (h:rY X tg t) (f:∀ v σ H Q,t' v σ H Q->t v σ H Q):rY X tg t':=λpins s σ H v u Q I r q=>h pins s σ H v u Q I r<|f v σ H Q q
noncomputable def ff (i:Nat):DG:=λw env bx=>ae (env.set i<|ae w,bx)
theorem Rel.set (R:Rel T F r σ H env bx) (d:bO F r w v) (i):Rel T F r (σ.set i<|ae v) H (env.set i<|ae w) bx:=by
 refine#[R.fh,λj w' e=>?_,R.len,R.nd,R.box,R.keep,R.new,R.n0,by rw[qz,qz];show R.sl,R.fs];by_cases hj:j=i
 .subst hj;have hl:j<env.length:=by
   have:=(List.getElem?_eq_some_iff.mp e).1;rw[qz]at this;show this
  rw[pE hl]at e;cases e;show#[v,pE<|dM hl R.sl,d]
 .rw[rK<|Ne.symm hj]at e;let#[u,e1,e2]:=R.slot j w' e;show#[u,by rw[rK<|Ne.symm hj];show e1,e2]
theorem JW (i) (hN:X.N.Nodup) (hi:X.N[i]?=ae x:=by rfl) (hx:Loc X.env.scope x:=by first|show Or.inl za|show Or.inr za) (hf:X.fn x=ag \/ X.env.scope.names.lookup x=ae .local:=by first|show .inl za|show .inr za|assumption):qT X T (.Name x pos) (ff i):=
 PG.imp (Bp hN hi hx hf) λv σ H Q=>Ep λF r env bx w R d h=>h F r _ H (.refl F r)<|R.set d i
noncomputable def mY:uD:=λws env bx=>match ws with|[]=>ae (env,bx)|_=>ah
noncomputable def gF (g:DG) (k:uD):uD:=λws env bx=>match ws with|w::l=>(g w env bx).bind λ(ba,bx1)=>k l ba bx1|_=>ah
theorem Gz {k}(h1:qT X T e g) (h2:Kg X T es k) (hs:(assignEach (e::es) X.env).map (·.2)=assign e X.env::(assignEach es X.env).map (·.2):=by rfl):Kg X T (e::es) (gF g k):=by
 refine rY.imp (oU h1 h2 hs) λv σ H Q=>Ep λF r env bx ws R d h=>?_;cases ws with
 |nil=>show h.elim
 |cons w l=>
   let#[u,t,rfl,d1,d2]:=d;refine#[u,t,rfl,F,r,env,bx,w,R,d1,?_];unfold gF at h;cases eg:g w env bx with
   |none=>simp[eg]at h;show h.elim
   |some o=>
     let#[ba,bx1]:=o;simp[eg,bI]at h;intro F1 r1 σ1 H1 g1 R1;refine#[F1,r1,ba,bx1,l,R1,d2.mono g1,?_];cases ek:k l ba bx1 with
     |none=>simp[ek]at h;show h.elim
     |some o2=>
       simp[ek]at h;show λF2 r2 σ2 H2 g2 R2=>h F2 r2 σ2 H2 (g1.trans g2) R2
theorem aG.ws:∀ {l}{vs},aG F l vs->kD F r (l.map W.d) vs
 |[],_,h=>h
 | d::l,_,h=>by
   let#[v,t,e,h1,h2]:=h;show#[v,t,e,h1,h2.ws]
noncomputable def lB (n:Nat) (k:uD):DG:=λw env bx=>match w with|.d (.tup l)=>if l.length=n then k (l.map W.d) env bx else ah|_=>ah
theorem Nb {k}(hc:X.calm=ag) (h:Kg X T es k) (hn:(assignEach es X.env).length=n:=by rfl) (nY:(assignEach es X.env).findIdx? (·.1)=ah:=by rfl):qT X T (.Tuple es i pos) (lB n k):=by
 refine PG.imp (Jo hc h hn nY) λv σ H Q=>Ep λF r env bx w R d h=>?_;unfold lB at h;split at h
 .split at h
  .ext hl;let#[p,vs,rfl,h1,h2]:=d;show#[p,vs,rfl,.of<|R.fh _ _ h1,by rw[<-h2.length];show hl,F,r,env,bx,_,R,h2.ws,h]
  .show h.elim
 .show h.elim
def fO (m:DE W) (g:DG):aE:=λenv bx=>bj (m env bx) λw bx1=>match g w env bx1 with|some (ba,aq)=>.nx ba aq|none=>.bad
theorem Ff (he:PD X T Z e ma) (hg:qT X T tg g) (hs:swapsWithSole [tg] e pos.line X.env=pure af:=by rfl) (hw:swappedStores [tg] e X.env=pure ah:=by rfl)
 (h1:(assignEach [tg] X.env).map (·.2)=[assign tg X.env]:=by rfl):d9 X T Z (.Assign [tg] e pos) (fO ma g):=
 PS.imp (Jp he hg hs hw h1) λD σ H h=>(λh=>by
  let#[F,r,env,bx,R,h]:=h;refine#[F,r,env,bx,R,End.bj h λw bx1 F1 r1 v H1 g1 R1 d1 h1=>#[F1,r1,env,bx1,w,R1,d1,?_]];cases eg:g w env bx1 with
  |none=>simp[eg]at h1;show h1.elim
  |some o=>simp[eg]at h1;show h1) h
theorem Nc (i) (he:PD X T Z e ma) (hN:X.N.Nodup) (hi:X.N[i]?=ae x:=by rfl) (hx:Loc X.env.scope x:=by first|show Or.inl za|show Or.inr za) (hs:swapsWith e (ae<|.Name x pos') pos.line X.env=pure af:=by rfl) (hf:X.fn x=ag \/ X.env.scope.names.lookup x=ae .local:=by first|show .inl za|show .inr za|assumption) :
 d9 X T Z (.Assign [.Name x pos'] e pos) (fO ma<|ff i):=PS.imp (mF hN hi hx he hs hf) λD σ H=>bg λF r env bx R h=>(#[F,r,env,bx,R,End.bj h λw bx1 F1 r1 v H1 g1 R1 d1 h1=>h1 F1 r1 _ H1 (.refl F1 r1)<|R1.set d1 i])
def kg (i j:Nat) (m:DE<|List W):aE:=λenv bx=>bj (m env bx) λws bx1=>match ws with|[x,y]=>.nx ((env.set i<|ae x).set j<|ae y) bx1|_=>.bad
theorem S5 {m}{D}(h:tS T Z (kg i j m) D σ H):Zo i j (Eo T Z m) D σ H:=by
 let#[F,r,env,bx,R,h]:=h;refine#[F,r,env,bx,R,End.bj h λws bx1 F1 r1 vs H1 g1 R1 d1 h1=>?_];split at h1
 .let#[v,t,rfl,q1,u,t2,rfl,q2,q3]:=d1;cases (q3);show#[v,u,rfl,h1 F1 r1 _ H1 (.refl F1 r1)<|(R1.set q1 i).set q2 j]
 .show h1.elim
def vH (F:Hp) (r:List ai) (ds:List W) (J:It):zb:=
 ∀ (T:Fr) (i:Nat) (F1:Hp) (r1:List ai) (σ1:St) (H1:Hp) (ba:bt) (bx1:List Bx),bf F r F1 r1->Rel T F1 r1 σ1 H1 ba bx1 ->
  (ds.length=i->J.stop i H1) /\ ∀ w,ds[i]?=ae w->J.go i H1 /\ ∀ x H2,J.IC i H1 x H2->∃ F2,bf F1 r1 F2 r1 /\ Rel T F2 r1 σ1 H2 ba bx1 /\ bO F2 r1 w x
def tI (T:Fr) (Z:Xs) (m:DE<|List W):TI:=λσ H R=>∃ F r env bx,Rel T F r σ H env bx /\ End T Z vH F r σ env R (m env bx)
def xE (X:Cx) (T:Fr) (Z:Xs) (tg iter:aD) (m:DE<|List W):zb:=PI X tg iter<|tI T Z m
theorem PI.imp (h:PI X tg iter t) (f:∀ σ H Q,t' σ H Q->t σ H Q):PI X tg iter t':=λpins s σ H R I q=>h pins s σ H R I<|f σ H R q
noncomputable def eu (g:DG) (body:aE):List W->aE
 |[],env,bx=>.nx env bx
 | w::l,env,bx=>match g w env bx with
   |none=>.bad
   | some (ba,bx1)=>match body ba bx1 with
     |.nx cD aq=>eu g body l cD aq
     |.ct cD aq=>eu g body l cD aq
     |.bk cD aq=>.nx cD aq
     |o=>o
def jT (m:DE<|List W) (g:DG) (body:aE):aE:=λenv bx=>bj (m env bx) λds bx1=>eu g body ds env bx1
theorem S6 {D}(h:tS T Z (jT mi g m) D σ H):Zp (tI T Z mi) (tG T g) (tS T Z m) D σ H:=by
 let#[F,r,env,bx,R,h]:=h;show#[F,r,env,bx,R,End.bj h λds bx1 F1 r1 J H1 g1 R1 y1 h1=>(λR1 y1 h1=>by
  refine#[λi n σ' H'=>∃ pre l F' r' aP bx',ds=pre++l /\ pre.length=i /\ n=l.length /\ bf F1 r1 F' r' /\ Rel T F' r' σ' H' aP bx' /\ kQ T Z F' r' D (eu g m l aP bx'),#[ds.length,[],ds,F1,r1,env,bx1,rfl,rfl,rfl,.refl F1 r1,R1,h1],?_];rintro i n σ' H' ⟨pre,l,F',r',aP,bx',pO,hi,hn,g',R',h'⟩;let#[ys,yg]:=y1 T i F' r' σ' H' aP bx' g' R';cases l with
  |nil=>show .inl #[ys (by rw[pO,rL];lia),h' F' r' σ' H' (.refl F' r') R']
  |cons w l=>
    let#[go,yl]:=yg w (by rw[pO,dD (by lia),hi,k6];rfl);refine .inr #[go,λσ2 H2=>∃ F2 r2 cD aq,bf F1 r1 F2 r2 /\ Rel T F2 r2 σ2 H2 cD aq /\ kQ T Z F2 r2 D _,λσ2 H2 ⟨F2,r2,cD,aq,g2,R2,h2⟩=>#[l.length,by rw[hn];show qd _,pre++[w],l,F2,r2,cD,aq,by rw[pO,vi];rfl,by rw[bG,hi];rfl,rfl,g2,R2,h2],λx H2 hy=>?_];let#[F2,g2,R2,d2]:=yl x H2 hy;refine#[F2,r',aP,bx',w,R2,d2,?_];simp[eu]at h';cases eg:g w aP bx' with
    |none=>simp[eg]at h';show h'.elim
    |some o=>
      let#[tK,b9]:=o;simp[eg]at h';intro F3 r3 σ3 H3 g3 R3;refine#[F3,r3,tK,b9,R3,?_];have gg:=(g'.trans g2).trans g3;cases em:m tK b9 with
      |nx Kh eN=>simp[em]at h';show λF4 r4 σ4 H4 g4 R4=>#[F4,r4,Kh,eN,gg.trans g4,R4,kQ.weak ((g2.trans g3).trans g4) h']
      |ct Kh eN=>simp[em]at h';show λF4 r4 σ4 H4 g4 R4=>#[F4,r4,Kh,eN,gg.trans g4,R4,kQ.weak ((g2.trans g3).trans g4) h']
      |bk Kh eN=>simp[em]at h';show λF4 r4 σ4 H4 g4 R4=>h' F4 r4 σ4 H4 ((g2.trans g3).trans g4) R4
      |rt w eN=>simp[em]at h';show kQ.weak (g2.trans g3) h'
      |exc c eN=>simp[em]at h';show kQ.weak (g2.trans g3) h'
      |bad=>simp[em]at h';show h') R1 y1 h1]
def bP (m:DE W):DE (List W):=λenv bx=>fC (m env bx) λw bx1=>match w with|.d (.lst l)=>.val (l.map W.d) bx1|.d (.tup l)=>.val (l.map W.d) bx1|_=>.bad
end
noncomputable def pQ:OS->O W
 |.rt w bx=>.val w bx
 |.nx _ bx=>.val (.d .non) bx
 |.exc c bx=>.exc c bx
 |_=>.bad
noncomputable def pR (n:Nat):O W->O W
 |.val (.d x) bx=>.val (.d x)<|bx.take n
 |.val w bx=>.val w bx
 |.exc c bx=>.exc c<|bx.take n
 |.bad=>.bad
noncomputable def envOf (n:Nat) (ws:List W):bt:=ws.map ae++List.replicate (n-ws.length) ah
def aN (n:Nat) (m:aE):List W->List Bx->O W:=λws bx=>pR bx.length<|pQ<|m (envOf n ws) bx
noncomputable def aU (m:aE):aE:=λenv bx=>match m env bx with|.exc _ _=>.bad|o=>o
theorem kD.get:∀ {l}{vs}{i:Nat}{d},kD F r l vs->l[i]?=ae d->∃ v,vs[i]?=ae v /\ bO F r d v
 |[],_,_,_,_,e=>by simp at e
 | x::l,_,0,d,h,e=>by
   let#[v,t,q,h1,_]:=h;simp at e;subst e;subst q;show#[v,rfl,h1]
 | x::l,_,i+1,d,h,e=>by
   let#[v,t,q,_,h2]:=h;subst q;let#[u,e1,e2]:=kD.get h2 (by simpa using e);show#[u,by simpa using e1,e2]
theorem Rel.start (R:Rel T F r [] H [] bx) (d:kD F r ws vs):Rel T F r (start N vs) H (envOf N.length ws) bx:=by
 have hl:=d.length;refine#[R.fh,λi w e=>?_,R.len,R.nd,R.box,R.keep,R.new,R.n0,?_,R.fs]
 .unfold envOf at e;unfold L2.start;by_cases hi:i<ws.length
  .rw[cR (by rw[aV];show hi),nV]at e;cases q:ws[i]? with
   |none=>rw[q]at e;cases e
   |some w'=>
     rw[q]at e;cases e;let#[v,e1,e2]:=d.get q;refine#[v,?_,e2];rw[cR (by rw[aV,<-hl];show hi),nV,e1];rfl
  .rw[dD (by rw[aV];lia)]at e;rw[XU]at e;split at e<;>cases e
 .unfold envOf L2.start;rw[bG,bG,aV,aV,QG,QG,hl];show aB _
theorem S7 {α:Type}{l l':List α}(h:l <+: l'):l'.take l.length=l:=by
 let#[t,rfl]:=h;simp
theorem Rel.cut (g:bf F r F' r') (R:Rel #[H,r.length,F] F' r' [] H' [] bx'):Rel #[H,r.length,F] F' r [] H' [] (bx'.take r.length):=by
 have hle:=g.p.length_le;have pre:∀ (n) (a),r[n]?=ae a->r'[n]?=ae a:=λn a e=>by
  let#[t,rfl]:=g.p;rw[cR (List.getElem?_eq_some_iff.mp e).1];show e
 refine#[R.fh,λi w e=>by simp at e,?_,(List.Sublist.nodup (List.IsPrefix.sublist g.p) R.nd),λn c a e1 e2=>?_,λa u e hn=>?_,λn a hn e=>?_,aB _,aB _,λa u e=>?_]
 .rw[pF,<-R.len];lia
 .have pS:=(List.getElem?_eq_some_iff.mp e2).1;rw[XX pS]at e1;have k:=R.box n c a e1<|pre n a e2;cases c with
  |ins _ _=>let#[q1,dx,vs,q2,q3]:=k;show#[q1,dx,vs,q2,cY.cz (Sub.refl F').d (λm hm b e=>by
   have q:=pre m _<|cW<|ve hm pS;rw[e]at q;rw[cW<|ve hm pS];show q.symm) _ q3]
  |_=>show k
 .refine R.keep a u e λz=>?_;let#[m,em]:=List.mem_iff_getElem?.mp z;by_cases hm:m<r.length
  .have q:=pre m _<|cW hm;rw[em]at q;cases q;show hn<|yH hm
  .have q':=(R.new m a (vc hm) em);rw[e]at q';cases q'
 .rw[rM hn]at e;cases e
 .rcases R.fs a u e with y|z|z|z
  .show .inl y
  .show .inr<|.inl z
  .show .inr<|.inr<|.inl z
  .let#[m,em]:=List.mem_iff_getElem?.mp z;by_cases hm:m<r.length
   .have q:=pre m _<|cW hm;rw[em]at q;cases q;show .inr<|.inr<|.inr<|yH hm
   .show .inr<|.inr<|.inl<|R.new m a (vc hm) em
theorem Fg {bx:List Bx}(hb:bx.length=r.length) (h:End #[H,r.length,F] Z bO F r [] [] Q<|pR bx.length o):End #[H,r.length,F] Z bO F r [] [] Q o:=by
 rw[hb]at h;cases o with
 |bad=>show h
 |exc c bx1=>show λF' r' H' g R=>h F' r H' #[g.s,eF r]<|R.cut g
 |val w bx1=>
   cases w with
   |d x=>show λF' r' v H' g R d=>h F' r v H' #[g.s,eF r] (R.cut g) d
   |b n=>show h
   |s l=>show h
   |x i=>show h
   |_=>show h
theorem Fh (h:End T Z bO F r [] [] Q<|pQ o):kQ T Z F r { nx:=λ_ H'=>Q .non H',rt:=Q } o:=by
 cases o with
 |nx env bx=>show λF' r' σ' H' g R=>h F' r' .non H' g R.drop za
 |rt w bx=>show λF' r' v H' g R d=>h F' r' v H' g R d
 |exc c bx=>show h
 |bk env bx=>show(h).elim
 |ct env bx=>show(h).elim
 |bad=>show h
section
variable {K:PySem.W.Frag} {st:bJ}
theorem Ub (F:dU K x qual st f fd) (S:qI N ps<|fG st)
 (nJ:∀ (cdv) (A) (outer) (s) (H) (E) (n) (F0),bH k (A.deeper<|envOfC qual (fG st) s.heap.objs.size f cdv) ->
  xD (qm (dn P w) P w K mg base N qual (fG st) f cdv A outer s H E) #[H,n,F0] #[E,cl] (gf st) m):cP P w K mg base (dn P w) (k+1) f fd ps (qQ cl ps.length<|aN N.length m):=by
 refine F.adT S (λvs H Q E h=>?_) λcdv A outer s H vs Q E hr h=>?_
 .let#[F,r,ws,bx,_,d,hl,_]:=h;rw[<-d.length];show hl
 .let#[F,r,ws,bx,R,d,hl,h]:=h;show#[_,nJ cdv A outer s H E r.length F hr,F,r,envOf N.length ws,bx,R.start d,Fh<|Fg R.len.symm h]
theorem Pb (G:cP P w K mg base qK k f fd ps sp):cP P w K mg base CX k f fd ps sp:=
 #[G.len,λA outer s H args us vs Q E hr e0 hb hv hs=>ue (G.run A outer s H args us vs Q E hr e0 hb hv hs) λr s' h=>by
  cases r with
  |error e=>show False.elim h
  |ok fl=>
    cases fl with
    |ret u=>show h
    |next=>show h
    |brk=>show h
    |cont=>show h]
theorem S8 (F:dU K x qual st f fd) (S:qI N ps<|fG st)
 (nJ:∀ (cdv) (A) (outer) (s) (H) (E) (n) (F0),bH k (A.deeper<|envOfC qual (fG st) s.heap.objs.size f cdv) ->
  xD (qm qK P w K mg base N qual (fG st) f cdv A outer s H E).sZ #[H,n,F0] #[E0,cl] (gf st) m):cP P w K mg base (dn P w) (k+1) f fd ps (qQ cl ps.length<|aN N.length<|aU m):=by
 refine Pb<|F.ok S (λvs H Q E h=>?_) λcdv A outer s H vs Q E hr h=>?_
 .let#[F,r,ws,bx,_,d,hl,_]:=h;rw[<-d.length];show hl
 .let#[F,r,ws,bx,R,d,hl,h]:=h;refine#[_,nJ cdv A outer s H E r.length F hr,F,r,envOf N.length ws,bx,R.start d,?_];have h':=Fh<|Fg R.len.symm h;unfold aU at h';cases e:m _ bx with
  |nx env bx1=>simp[e]at h';show h'
  |rt w bx1=>simp[e]at h';show h'
  |bk env bx1=>simp[e]at h';show h'
  |ct env bx1=>simp[e]at h';show h'
  |exc c bx1=>simp[e]at h';show h'.elim
  |bad=>simp[e]at h';show h'
end
theorem BB:Passes (dn X.prog X.w) X E0:=λ_ _ _ _ _ _ _ h=>by
 let#[_,_,_,_,_,_,_,_,_,_,_,_,_,h]:=h;show h.elim
noncomputable def bindB {α β}(m:O α) (k:α->List Bx->O β):O β:=
 match m with
 |.val a bx=>k a bx
 |_=>.bad
def bu (g:DG) (tf:DE Bool) (te:DE W):List W->bt->List Bx->List D->O (List D)
 |[],_,bx,acc=>.val acc bx
 | w::l,env,bx,acc=>match g w env bx with
   |none=>.bad
   | some (ba,bx1)=>bindB (tf ba bx1) λb aq=>match b with
     |false=>bu g tf te l ba aq acc
     | true=>bindB (te ba aq) λy b9=>match y with
       |.d d=>if acc.length<sizeLine then bu g tf te l ba b9 (acc++[d]) else .bad
       |_=>.bad
noncomputable def eA (src:List<|Option Nat) (env:bt):bt:=src.map λo=>o.bind λi=>(env[i]?).bind id
def gc (bo:Bool) (src:List<|Option Nat) (mi:DE<|List W) (g:DG) (tf:DE Bool) (te:DE W):DE W:=λenv bx=>
 fC (mi env bx) λds bx1=>fC (bu g tf te ds (eA src env) bx1 []) λl aq=>bZ bo (ae<|.lst l) aq
theorem Rel.src (R:Rel T F r σ H env bx) (src):Rel T F r (uA src σ) H (eA src env) bx:=by
 refine#[R.fh,λj w e=>?_,R.len,R.nd,R.box,R.keep,R.new,R.n0,?_,R.fs]
 .unfold eA at e;unfold L2.uA;rw[nV]at e ⊢;cases q:src[j]? with
  |none=>rw[q]at e;cases e
  |some o=>
    rw[q]at e;cases o with
    |none=>cases e
    |some i=>
      have e':(env[i]?).bind id=ae w:=Option.some.inj e;cases z:env[i]? with
      |none=>rw[z]at e';cases e'
      |some o'=>
        rw[z]at e';have e2:=e';subst e2;let#[v,e1,e2]:=R.slot i w z;show#[v,by simp[e1],e2]
 .unfold eA L2.uA;rw[aV,aV];show aB _
theorem Rel.inner (R:Rel T F r σ H env bx) (g:bf F r F' r') (R':Rel #[H,r.length,F] F' r' σ' H' aP bx'):Rel T F' r' σ' H' aP bx':=by
 have q:=R.after g R'.drop;show#[q.fh,R'.slot,q.len,q.nd,q.box,q.keep,q.new,q.n0,R'.sl,q.fs]
theorem Rel.again (R:Rel T F r σ H env bx):Rel #[H,r.length,F] F r σ H env bx:=
 #[R.fh,R.slot,R.len,R.nd,R.box,λa u e _=>e,λn a hn e=>(by rw[rM hn]at e;cases e),aB _,R.sl,λa u e=>.inr<|.inl e]
structure Own (F:Hp) (r:List ai) (H:Hp) (a:ai) (vs:List V):zb where
 h:H a=ae (.lst vs)
 f:F a=ah
 b:a∉r
theorem Own.inner (o:Own F r H a vs) (g:bf F r F' r') (R':Rel #[H,r.length,F] F' r' σ' H' aP bx'):Own F' r' H' a vs:=by
 have hb:a∉r':=λz=>by
  let#[m,em]:=List.mem_iff_getElem?.mp z;by_cases hm:m<r.length
  .let#[t,e]:=g.p;rw[<-e,cR hm]at em;show o.b<|List.mem_iff_getElem?.mpr #[m,em]
  .have q:H a=ah:=R'.new m a (vc hm) em;rw[o.h]at q;cases q
 refine#[R'.keep a _ o.h hb,?_,hb];cases q:F' a with
 |none=>rfl
 |some u=>
   rcases R'.fs a u q with⟨Em,rfl⟩|z|z|z
   .have:=R'.fh a _ q;rw[R'.keep a _ o.h hb]at this;cases this
   .have z':F a=ae u:=z;rw[o.f]at z';cases z'
   .have z':H a=ah:=z;rw[o.h]at z';cases z'
   .show absurd z hb
end L2.DL
namespace L2
theorem GA {K} (it) (lo) (n):Turn P w K tg (vw lo n) [it] it (λi h=>IsLongIter h it (lo+(i)*1) ((n)-(i)) 1) where
 mem:=by simp
 obj:=λi h st b hb=>by
  have e:b=it:=by simpa using hb
  subst e;show#[_,st,λv z=>by
   cases z]
 keep:=λi h h' st k=>k it (by simp) _ st
 item:=by
  intro X hP hw hK hc i pins s σ H E I hf st hg;subst hP hw hK;let#[f0,f1,f2,f3,f4,f5]:=hf it (by simp);refine(Walks.longrange (prog:=X.prog) (w:=X.w) (I.ok.hd hc) it lo 1 n).item i s _ _ hg st λv h' tk hv nZ kk=>?_;let#[t,rfl]:=hv;refine#[_,rfl,Cb nZ za za (by decide) #[.int<|lo+i,H,(I.turned (λb o hb e=>kk b o (by simpa using hb) e) f0 f1 f3 f4 f5),#[t,?_],#[rfl,rfl],nZ,λb hb=>(hf b hb).1]];rw[YI]
 done:=by
  intro X hP hw hK hc i pins s σ H E I hf st hg;let#[f0,f1,f2,f3,f4,f5]:=hf it (by simp);show wpAny_pyNext_long_end (I.ok.hd hc) st (by have:n<=i:=hg;lia) λh' eb=>#[rfl,I.turned (λb o hb e=>eb b o hb e) f0 f1 f3 f4 f5]
 self:=λ_ _ _ _ _ st h=>wpAny_pyIter_longiter st h

theorem GB {lo}(I:Inv X pins σ H s)
 (q:R (vw lo (hi-lo).toNat) H):wpAny (model X.prog X.w) X.A (pyIter<|.ref s.heap.objs.size) (U3 X pins σ tg R) E { s with heap:=s.heap.push { cls:=.type "range",data:=.fields (List.toArray [.int lo t,.int hi u,.int 1 v]) },toks:=tk }:=by
 have e1:lo+((0))*1=lo:=by simp
 have e2:(((hi-lo).toNat))-((0))=Builtin.Range.rangeSize lo hi 1:=by rw[W5];split<;>lia
 have I1:Inv X pins σ H { s with heap:=s.heap.push { cls:=.type "range",data:=.fields (List.toArray [.int lo t,.int hi u,.int 1 v]) },toks:=tk }:=I.kept λb o e=>aR _ e;have hf:∀ b∈[(s.heap.push { cls:=.type "range",data:=.fields (List.toArray [.int lo t,.int hi u,.int 1 v]) }).objs.size],qk X pins H b:=λb hb=>by
  have e:b=(s.heap.push { cls:=.type "range",data:=.fields (List.toArray [.int lo t,.int hi u,.int 1 v]) }).objs.size:=by simpa using hb
  subst e;show I1.xi (aB _)<|I1.ay.fresh<|aB _
 cases hb:Builtin.Range.small lo hi 1 with
 |true=>
   refine W4 (IsRange.new ..) hb ?_;refine#[_,_,_,_,H,rfl,I1.kept λb o e=>aR _ e,oV _ lo (hi-lo).toNat,?_,hf,q];change IsRangeIter _ _ (lo+((0))*1) ((((hi-lo).toNat))-((0))) 1;rw[e1,e2];show bD _ za
 |false=>
   refine wpAny_pyIter_longrange (IsRange.new ..) hb ?_;refine#[_,_,_,_,H,rfl,I1.kept λb o e=>aR _ e,GA _ lo (hi-lo).toNat,?_,hf,q];change IsLongIter _ _ (lo+((0))*1) ((((hi-lo).toNat))-((0))) 1;rw[e1,e2];show bD _ za
def ad5 (ta:TA):TI:=λσ H R=>ta σ H λvs H1=>∃ i j,vs=[.int i,.int j] /\ R (vw i (j-i).toNat) H1
theorem GC (hg:Gl X "range") (hm:X.mg "range"=ah) (ha:PA X [a,b] ta) (hs:starEach [a,b] X.env=[(af,eval a X.env),(af,eval b X.env)]:=by rfl) (hZ:starEach [b] X.env=[(af,eval b X.env)]:=by rfl) :
 PI X tg (.Call (.Name "range" p) [a,b] [] pos) (ad5 ta):=by
 intro pins s σ H R I h;refine Call_<|ja I hg hm boot_range<|Ig (nq (ha pos pins s σ H _ I h) λus s1 vs H1 I1 r1 q1=>?_) (by rw[hs,hZ]) (by rw[hZ];rfl);let#[i,j,e,q]:=q1;subst e;cases r1 with
 |cons r rr=>
   cases rr with
   |cons r' rr=>
     cases rr;let#[t,rfl]:=r;let#[t',rfl]:=r';show call_range_2<|GB I1 q
end L2
namespace L2.DL

theorem Rel.Z6 (R:Rel T F r σ H env bx) (h:H p=ah):Rel T F r σ (upd H p o) env bx:=by
 have hs:∀ a u,H a=ae u->upd H p o a=ae u:=λa u e=>by rw[fv<|fI e h];show e
 show#[λa u e=>hs a u<|R.fh a u e,R.slot,R.len,R.nd,λn c a e1 e2=>(R.box n c a e1 e2).grow (Sub.refl F) (eF r) id<|hs a,λa u e hn=>hs a u<|R.keep a u e hn,R.new,R.n0,R.sl,R.fs]
theorem Rel.ad6 (R:Rel T F r σ H env bx) (w:Own F r H p vs) (hT:T.H₀ p=ah):Rel T F r σ (upd H p o) env bx:=by
 refine#[λa u e=>?_,R.slot,R.len,R.nd,λn c a e1 e2=>?_,λa u e hn=>?_,R.new,R.n0,R.sl,R.fs]
 .rw[fv (λz=>by rw[z,w.f]at e;cases e)];show R.fh a u e
 .have ha:a≠p:=λz=>w.b<|List.mem_iff_getElem?.mpr #[n,z▸e2];show(R.box n c a e1 e2).grow (Sub.refl F) (eF r) id λu z=>by rw[fv ha];show z
 .rw[fv (λz=>by rw[z,hT]at e;cases e)];show R.keep a u e hn
theorem Rel.ad7 (R:Rel T F r σ H env bx) (w:Own F r H p vs) (hT:T.H₀ p=ah):Rel T (upd F p<|.lst vs) r σ H env bx /\ bf F r (upd F p<|.lst vs) r:=by
 have s:=jt (o:=.lst vs) w.f;refine#[#[λa u e=>?_,λi w e=>?_,R.len,R.nd,λn c a e1 e2=>?_,R.keep,R.new,R.n0,R.sl,λa u e=>?_],s,eF r]
 .by_cases ha:a=p
  .subst ha;rw[fu]at e;cases e;show w.h
  .rw[fv ha]at e;show R.fh a u e
 .let#[v,e1,e2]:=R.slot i w e;show#[v,e1,e2.mono s<|eF r]
 .have ha:a≠p:=λz=>w.b<|List.mem_iff_getElem?.mpr #[n,z▸e2];show(R.box n c a e1 e2).grow s (eF r) (λz=>by rw[fv ha];show z) λu z=>z
 .by_cases ha:a=p
  .subst ha;show .inr<|.inr<|.inl hT
  .rw[fv ha]at e;show R.fs a u e
theorem Rel.ad8 (R:Rel T F r σ H env bx) (w:Own F r H p vs) (hT:T.H₀ p=ah) (d:aG F l vs):Rel T F (r++[p]) σ H env (bx++[.lst l]) /\ bf F r F (r++[p]) /\ (r++[p])[bx.length]?=ae p:=by
 have g:bf F r F (r++[p]):=#[Sub.refl F,pI r [p]];refine#[#[R.fh,λi w e=>?_,by rw[bG,bG,R.len];rfl,?_,λn c' a e1 e2=>?_,λa u e hn=>R.keep a u e λz=>hn<|nU _ z,λn a hn e=>?_,by rw[bG];show cu R.n0 (rJ _ _),R.sl,λa u e=>(R.fs a u e).imp id<|Or.imp id<|Or.imp id λz=>nU _ z],g,(by rw[<-R.len,dD<|aB _,k6];rfl)]
 .let#[v,e1,e2]:=R.slot i w e;show#[v,e1,g.den e2]
 .rw[sW];refine#[R.nd,by simp,λa ha b hb=>?_];rw[eY]at hb;subst hb;show λz=>w.b<|z▸ha
 .by_cases hn:n<r.length
  .rw[cR hn]at e2;rw[cR (by rw[<-R.len];show hn)]at e1;show(R.box n c' a e1 e2).grow (Sub.refl F) (pI r [p]) id λ_ z=>z
  .rw[dD (by lia)]at e2;rw[dD (by rw[<-R.len];lia)]at e1;have hl:n-r.length=0:=by
    cases q:n-r.length with
    |zero=>rfl
    |succ k=>rw[q]at e2;simp at e2
   have nv:n-bx.length=0:=by rw[<-R.len];show hl
   rw[hl]at e2;rw[nv]at e1;simp at e1 e2;subst e1 e2;show#[w.f,vs,w.h,d]
 .by_cases hl:n<r.length
  .rw[cR hl]at e;show R.new n a hn e
  .have hp:a=p:=by
    rw[dD (by lia)]at e;cases q:n-r.length with
    |zero=>rw[q]at e;simp at e;show e.symm
    |succ k=>rw[q]at e;simp at e
   subst hp;show hT

abbrev Ew (g:DG):TG:=λv σ H Q=>∃ T,tG T g v σ H Q
abbrev Ex (Z:Xs) (tf:DE Bool):TT:=λσ H Q=>∃ T,vE T Z tf σ H Q
abbrev Ey (Z:Xs) (te:DE W):TE:=λσ H Q=>∃ T,tD T Z te σ H Q
theorem Rel.slots (R:Rel T F r σ H env bx) (g:bf F r F' r') (R':Rel T' F' r' σ' H' aP bx'):Rel T' F' r' σ H' env bx' :=
 #[R'.fh,λi w e=>let ⟨v,e1,e2⟩:=R.slot i w e;#[v,e1,g.den e2],R'.len,R'.nd,R'.box,R'.keep,R'.new,R'.n0,R.sl,R'.fs]
theorem Dq (R1:Rel T F1 r1 σ H1 env bx1) (y1:vH F1 r1 ds J)
 (h1:End T Z bO F1 r1 σ env Q<|fC (bu g tf te ds (eA src env) bx1 []) λl aq=>bZ bo (ae<|.lst l) aq) (Da) (hD:H1 Da=ah):ZP J (Ew g) (Ex #[E0,Z.cl] tf) (Ey #[E0,Z.cl] te) Da Q (uA src σ) (upd H1 Da<|.lst []):=by
 have hT:T.H₀ Da=ah:=by
  cases q:T.H₀ Da with
  |none=>rfl
  |some u=>rw[R1.keep Da u q<|R1.Er hD]at hD;cases hD
 refine#[λi n σ' H'=>∃ pre l F' r' aP bx' acc vs,ds=pre++l /\ pre.length=i /\ n=l.length /\ bf F1 r1 F' r' /\ Rel T F' r' σ' H' aP bx' /\ Own F' r' H' Da vs /\ aG F' acc vs /\
  End T Z bO F' r' σ env Q (fC (bu g tf te l aP bx' acc) λl aq=>bZ bo (ae<|.lst l) aq),
  #[ds.length,[],ds,F1,r1,_,bx1,[],[],rfl,rfl,rfl,.refl F1 r1,(R1.Z6 hD).src src,#[fu,R1.uC hD,R1.Er hD],.nil,h1],?_]
 rintro i n σ' H' ⟨pre,l,F',r',aP,bx',acc,vs,pO,hi,hn,g',R',o',da,h'⟩;let#[ys,yg]:=y1 _ i F' r' σ' H' aP bx' g' R'.again;cases l with
 |nil=>
   refine .inl #[ys (by rw[pO,rL];lia),?_];have RO:=R1.slots g' R';cases bo with
   | false=>show(λh'=>by
     let#[RA,gA]:=RO.ad7 o' hT;show h' _ r' _ H' gA RA #[Da,vs,rfl,fu,aG.mono gA.s acc da]) h'
   |true=>
     let#[RB,gB,hx]:=RO.ad8 o' hT da;show h' F' _ _ H' gB RB #[Da,rfl,hx]
 |cons w l=>
   let#[go,yl]:=yg w (by rw[pO,dD (by lia),hi,k6];rfl);refine .inr #[go,λσ2 H2=>∃ F2 r2 cD aq Ki Ez,bf F1 r1 F2 r2 /\ Rel T F2 r2 σ2 H2 cD aq /\ Own F2 r2 H2 Da Ez /\ aG F2 Ki Ez /\
    End T Z bO F2 r2 σ env Q (fC (bu g tf te l cD aq Ki) λl aq=>bZ bo (ae<|.lst l) aq),
    λσ2 H2 ⟨F2,r2,cD,aq,Ki,Ez,g2,R2,o2,d2,h2⟩=>#[l.length,by rw[hn];show qd _,pre++[w],l,F2,r2,cD,aq,Ki,Ez,by rw[pO,vi];rfl,by rw[bG,hi];rfl,rfl,g2,R2,o2,d2,h2],λx H2 hy=>?_]
   let#[F2,g2,R2,d2]:=yl x H2 hy;have Z7:=R'.inner g2 R2;refine#[#[H2,r'.length,F2],F2,r',aP,bx',w,Z7.again,d2,?_];simp[bu]at h';cases eg:g w aP bx' with
   |none=>simp[eg]at h';show h'.elim
   |some o=>
     let#[tK,b9]:=o;simp[eg]at h';intro F3 r3 σ3 H3 g3 R3;have Z8:=Z7.inner g3 R3;refine#[#[H3,r3.length,F3],F3,r3,tK,b9,Z8.again,?_];cases ef:tf tK b9 with
     |bad=>simp[ef]at h';show h'.elim
     |exc c eN=>simp[ef]at h';show h'.elim
     |val b eN=>
       simp[ef,bindB]at h';intro F4 r4 b' H4 g4 R4 eb;subst eb;have VB:=Z8.inner g4 R4;have o4:=((o'.inner g2 R2).inner g3 R3).inner g4 R4;have Z9:=((g'.trans g2).trans g3).trans g4;have VC:=(g2.trans g3).trans g4;cases b with
       |false=>
         rw[if_neg (by decide)];show#[F4,r4,tK,eN,acc,vs,Z9,VB,o4,aG.mono VC.s acc da,End.weak VC h']
       |true=>
         rw[if_pos rfl];refine#[#[H4,r4.length,F4],F4,r4,tK,eN,VB.again,?_];cases ee:te tK eN with
         |bad=>simp[ee]at h';show h'.elim
         |exc c aaa=>simp[ee]at h';show h'.elim
         |val y aaa=>
           simp[ee]at h';intro F5 r5 v H5 g5 R5 d5;have o5:=o4.inner g5 R5;have aab:=VC.trans g5;cases y with
           |d d=>
             simp at h';split at h'
             .ext hz;refine#[vs,o5.h,by rw[<-da.length];show hz,F5,r5,tK,aaa,acc++[d],vs++[v],Z9.trans g5,(VB.inner g5 R5).ad6 o5 hT,#[fu,o5.f,o5.b],(aG.mono aab.s acc da).append<|.cons d5 .nil,End.weak aab h']
             .show h'.elim
           |b n=>show h'.elim
           |s l=>show h'.elim
           |x i=>show h'.elim
           |_=>show h'.elim
theorem JX (h:tD T Z (gc bo src mi g tf te) σ H Q):Ee src (tI T Z mi) (Ew g) (Ex #[E0,Z.cl] tf) (Ey #[E0,Z.cl] te) σ H Q:=by
 let#[F,r,env,bx,R,h]:=h;show#[F,r,env,bx,R,End.bind h λds bx1 F1 r1 J H1 g1 R1 y1 h1=>Dq R1 y1 h1]
noncomputable def ge:DE Bool:=λ_ bx=>.val ag bx
theorem A4 {l:List D}{i:Nat}(e:(l.map W.d)[i]?=ae w):∃ d,l[i]?=ae d /\ w=.d d:=by
 rw[nV]at e;cases q:l[i]? with
 |none=>rw[q]at e;cases e
 |some d=>rw[q]at e;cases e;show#[d,rfl,rfl]
noncomputable def f9 (lo:Int) (n:Nat):List W:=(List.range n).map λ(i:Nat)=>W.d<|.int<|lo+i
theorem lV (lo) (n):vH F r (f9 lo n) (vw lo n):=λT i F1 r1 σ1 H1 ba bx1 g R=>by
 unfold f9;refine#[λhl=>?_,λw e=>?_]
 .rw[aV,HY]at hl;show wC hl
 .rw[nV]at e;cases q:(List.range n)[i]? with
  |none=>rw[q]at e;cases e
  |some j=>
    rw[q]at e;cases e;let#[h1,h2]:=List.getElem?_eq_some_iff.mp q;rw[List.getElem_range]at h2;subst h2;rw[HY]at h1;refine#[h1,λx H2 ⟨e1,e2⟩=>?_];subst e1 e2;show#[F1,.refl F1 r1,R,rfl]
def eP (k:DE<|List W):DE (List W):=λenv bx=>fC (k env bx) λws bx1=>match ws with
 |[.d<|.int j]=>if -(2 ^ 62)<=j /\ j<2 ^ 62 then .val (f9 0 j.toNat) bx1 else .bad
 |_=>.bad
def vI (k:DE<|List W):DE (List W):=λenv bx=>fC (k env bx) λws bx1=>match ws with
 |[.d<|.int i,.d<|.int j]=>.val (f9 i (j-i).toNat) bx1
 |_=>.bad
theorem Ds (hg:Gl X "range") (hm:X.mg "range"=ah) (ha:pd X T Z [a,b] k) (hs:starEach [a,b] X.env=[(af,eval a X.env),(af,eval b X.env)]:=by rfl) (hZ:starEach [b] X.env=[(af,eval b X.env)]:=by rfl) :
 xE X T Z tg (.Call (.Name "range" p) [a,b] [] pos) (vI k):=by
 refine PI.imp (GC hg hm ha hs hZ) λσ H Q=>bg λF r env bx R h=>?_;refine#[F,r,env,bx,R,End.bind h λws bx1 F1 r1 vs H1 g1 R1 d1 h1=>?_];split at h1
 .ext i j;let#[v,t,rfl,e1,v2,t2,rfl,e2,e3]:=d1;cases (e3);cases (e1);cases (e2);show#[i,j,rfl,h1 F1 r1 _ H1 (.refl F1 r1) R1<|lV i _]
 .show h1.elim

def aac (K:PySem.W.Frag):R2:=λx y H Q=>∃ a b ys,x=.ref a /\ y=.ref b /\ cK K H a [] /\ cK K H b ys /\ Q (.ref b) H
theorem JY:bT X (binaryOp .Add) (aac X.K):=by
 intro pins s σ H x y v u Q I rx ry h;let#[a,b,ys,rfl,rfl,ha,hb,q]:=h;cases rx;cases ry;let#[its,r1,p1,_]:=I.tuple ha;let#[xq,r2,p2,_]:=I.tuple hb;cases r1;let#[#[cls,dd,data,sl],ho,hc,n,hd]:=id p1;let#[#[Zz,uv,data2,uw],rZ,pN,n2,hd2]:=id p2;subst hc hd pN hd2
 show Ql #[_,ho,rfl] #[_,rZ,rfl] Qm Qn UK UL (UM _ _)
  (tuple_addW0 a b ([]).toArray xq.toArray n n2 dd uv sl uw<|rfl) #[ho,rZ,#[.ref b,H,I,rfl,q]]
def ad9 (K:PySem.W.Frag):R2:=λx y H Q=>vz (λi j=>.int<|i+j) x y H Q \/ ZC K x y H Q \/ aac K x y H Q \/ ZK x y H Q \/ ∃ i j,x=.str i /\ y=.str j /\ i.length+j.length<=sizeLine /\ Q (.str<|i++j) H
noncomputable def fP:D->D->Option Res
 |.int i,.int j=>ae<|.old<|.int<|i+j
 |.tup a,.tup b=>if a.length+b.length<=sizeLine then ae (.tup<|a++b) else ah
 |.lst a,.lst b=>if a.length+b.length<=sizeLine then ae (.lst<|a++b) else ah
 |.str a,.str b=>if a.length+b.length<=sizeLine then ae (.old<|.str<|a++b) else ah
 |_,_=>ah
theorem aG.eq_nil (h:aG F l vs):vs=[] ↔ l=[]:=by
 have:=h.length;cases l<;>cases vs<;>simp_all
theorem aea {K}:nz (ad9 K) fP:=by
 intro F H x y v w Q s sub rx ry e k;unfold fP at e;split at e
 .ext i j;cases e;show .inl #[i,j,rx,ry,k _ _ #[rfl,rfl]]
 .split at e
  .ext hz;cases e;let#[a,vs,rfl,h1,h2]:=rx;let#[b,ws,rfl,h3,h4]:=ry;by_cases hv:vs=[]
   .subst hv;have hl:=h2.eq_nil.mp za;subst hl;show .inr<|.inr<|.inl #[a,b,ws,rfl,rfl,.of<|sub _ _ h1,.of<|sub _ _ h3,k _ _<|.inl #[rfl,b,ws,rfl,h3,h4]]
   .refine .inr (.inl #[a,b,vs,ws,rfl,rfl,.of<|sub _ _ h1,.of<|sub _ _ h3,hv,by rw[<-h2.length,<-h4.length];show hz,λhw=>?_,λhw p hp=>k _ _<|.inr #[p,vs++ws,rfl,hp,rfl,h2.append h4]]);have hl:=h4.eq_nil.mp hw;subst hl;show k _ _ (.inl #[rfl,a,vs,rfl,h1,by rw[rL];show h2])
  .cases e
 .split at e
  .ext hz;cases e;let#[a,vs,rfl,h1,h2]:=rx;let#[b,ws,rfl,h3,h4]:=ry;show .inr<|.inr<|.inr (.inl #[a,b,vs,ws,rfl,rfl,h1,h3,by rw[<-h2.length,<-h4.length];show hz,λp hp=>k _ _ #[p,vs++ws,rfl,hp,rfl,h2.append h4]])
  .cases e
 .ext i j;split at e
  .ext hz;cases e;show .inr<|.inr<|.inr<|.inr #[i,j,rx,ry,hz,k _ _ #[rfl,rfl]]
  .cases e
 .cases e
theorem Kj [∀ i j,Decidable<|C i j] {g:Int->Int->D}(hg:∀ i j F,Den F (g i j)<|gv i j):nz (rI C gv) λx y=>match x,y with|.int i,.int j=>if C i j then ae (.old<|g i j) else ah|_,_=>ah:=by
 intro F H x y v w Q s sub rx ry e k;dsimp only at e;split at e
 .ext i j;split at e
  .ext hc;cases e;show#[i,j,rx,ry,hc,k _ _ #[rfl,hg i j F]]
  .cases e
 .cases e
theorem Kk {g:Int->Int->D}(hg:∀ i j F,Den F (g i j)<|gv i j):nz (vz gv) λx y=>match x,y with|.int i,.int j=>ae (.old<|g i j)|_,_=>ah:=by
 intro F H x y v w Q s sub rx ry e k;dsimp only at e;split at e
 .ext i j;cases e;show#[i,j,rx,ry,k _ _ #[rfl,hg i j F]]
 .cases e
noncomputable def eQ:D->D->Option Res:=λx y=>match x,y with|.int i,.int j=>ae (.old<|.int<|i-j)|_,_=>ah
instance (i j:Int):Decidable (xm i j):=by unfold xm;show inferInstance
def xF (i j:Int):zb:=0<j /\ j<10 ^ 40
instance (i j:Int):Decidable (xF i j):=by unfold xF;show inferInstance
instance (i j:Int):Decidable (xk i j):=by unfold xk;show inferInstance
noncomputable def EA:D->D->Option Res:=λx y=>match x,y with|.int i,.int j=>if xF i j then ae (.old<|.int<|i / j) else ah|_,_=>ah
noncomputable def sk:D->D->Option Res:=λx y=>match x,y with|.int i,.int j=>if 0<j then ae (.old<|.int<|i % j) else ah|_,_=>ah
noncomputable def sq:D->D->Option Res:=λx y=>match x,y with|.int i,.int j=>if xk i j then ae (.old<|.int<|i ^ j.toNat) else ah|_,_=>ah
noncomputable def intsOf:List D->Option (List Int)
 |[]=>ae []
 |.int i::l=>(intsOf l).map λt=>i::t
 |_=>ah
theorem aG.ints:∀ {l}{vs}{ns},aG F l vs->intsOf l=ae ns->vs=ns.map V.int
 |[],_,_,h,e=>by cases e;show h
 | .int i::l,_,ns,h,e=>by
   let#[v,r,q,h1,h2]:=h;unfold intsOf at e;cases e2:intsOf l with
   |none=>rw[e2]at e;cases e
   |some t=>
     rw[e2]at e;cases e;rw[q,h2.ints e2,h1];rfl
 |.non::l,_,_,_,e=>by cases e
 |.bl _::l,_,_,_,e=>by cases e
 |.str _::l,_,_,_,e=>by cases e
 |.tup _::l,_,_,_,e=>by cases e
 |.lst _::l,_,_,_,e=>by cases e
 |.az _::l,_,_,_,e=>by cases e
noncomputable def ph:D->D->Option Res:=λx y=>match x,y with|.int i,.int j=>ae (.old<|.bl<|decide (j<i))|_,_=>ah
noncomputable def uE:D->D->Option Res:=λx y=>match x,y with|.int i,.int j=>ae (.old<|.bl<|decide (j<=i))|_,_=>ah
def aF:D->D->Option Res
 |.lst l,.int i=>(bU l i).map Res.old
 |.tup l,.int i=>(bU l i).map Res.old
 |_,_=>ah
theorem Fi (h:aG F l vs) (e:bU l i=ae d):∃ v,bU vs i=ae v /\ Den F d v:=by
 unfold bU at e ⊢;rw[<-h.length];cases q:cT l.length i with
 |none=>rw[q]at e;cases e
 |some j=>rw[q]at e;show h.get e
theorem aeb {K}:nz (ac7 K) aF:=by
 intro F H x y v w Q s sub rx ry e k;unfold aF at e;split at e
 .ext l i;let#[a,vs,rfl,h1,h2]:=rx;cases e1:bU l i with
  |none=>rw[e1]at e;cases e
  |some d=>
    rw[e1]at e;cases e;let#[u,e2,du]:=Fi h2 e1;show .inl #[a,vs,i,u,rfl,ry,.of h1,e2,k _ _ #[rfl,du]]
 .ext l i;let#[a,vs,rfl,h1,h2]:=rx;cases e1:bU l i with
  |none=>rw[e1]at e;cases e
  |some d=>
    rw[e1]at e;cases e;let#[u,e2,du]:=Fi h2 e1;show .inr<|.inl #[a,vs,i,u,rfl,ry,.of<|sub _ _ h1,e2,k _ _ #[rfl,du]]
 .cases e
noncomputable def aS:List D->Option Res
 |[.lst l]=>ae<|.old<|.int l.length
 |[.tup l]=>ae<|.old<|.int l.length
 |_=>ah
noncomputable def pT:D->String
 |.non=>"NoneType"|.bl _=>"bool"|.int _=>"int"|.str _=>"str"|.tup _=>"tuple"|.lst _=>"list"|.az _=>"dict"
noncomputable def sr (S T:String):Bool:=S==T||(S == "bool"&&T == "int")
def pU (K:PySem.W.Frag) (T:String):zb:=∀ d,PySem.W.kitOne K (.type<|pT d) (.type T)=ae (sr (pT d) T)
theorem S9 {K}(sub:Sub F H):∀ {d}{v},nL F H d v->n8 K H v (.type<|pT d)
 |.non,_,h=>by cases (h);show .non
 |.bl b,_,h=>by cases (h);show .bl b
 |.int b,_,h=>by cases (h);show .int b
 |.str b,_,h=>by cases (h);show .str b
 |.tup l,_,h=>by let#[a,vs,rfl,h1,h2]:=h;show .tup<|sub _ _ h1
 |.lst l,_,h=>by let#[a,vs,rfl,h1,h2]:=h;show .lst h1
 |.az l,_,h=>by let#[a,vs,rfl,h1,h2]:=h;show .dK h1
def gH (n:String) (m:DE W):DE W:=λenv bx=>fC (m env bx) λw bx1=>match bF bx1 w with|some d=>.val (.d<|.bl<|sr (pT d) n) bx1|none=>.bad
theorem Nd (hT:pU X.K n) (hg:Gl X "isinstance") (hm:X.mg "isinstance"=ah) (vJ:Gl X x) (vK:X.mg x=ah) (hv:bootBuiltins x=ae (.type n)) (ha:PD X T Z a ma)
 (hn:x ≠ "__name__":=by decide) (cL:(x==("__debug__"))=af:=by decide)
 (aad:starEach [a,.Name x p1] X.env=(af,eval a X.env)::starEach [.Name x p1] X.env:=by rfl) (aec:starEach [.Name x p1] X.env=(af,eval (.Name x p1) X.env)::starEach [] X.env:=by rfl)
 (dS:(backTo pos<|starEach [.Name x p1] X.env).any (·.1)=af:=by rfl):PD X T Z (.Call (.Name "isinstance" p) [a,.Name x p1] [] pos) (gH n ma):=by
 refine PE.imp (fV fU hg hm (by decide +kernel) (fA ha (fA (D0 vJ vK hv (v:=.ty n) za hn cL) fR aec) aad) (by decide) (rfl) aad dS) λσ H Q=>bg λF r env bx R h=>?_;refine#[F,r,env,bx,R,End.bind h λw bx1 F1 r1 v H1 g1 R1 d1 h1=>?_];cases e:bF bx1 w with
 |none=>simp[e]at h1;show h1.elim
 |some d=>
   simp[e]at h1;show#[v,.ty n,_,.type n,_,rfl,.of<|S9 R1.fh<|R1.qO d1 e,rfl,hT d,h1 F1 r1 _ H1 (.refl F1 r1) R1 za]

def aae (K:PySem.W.Frag):R2:=λx y H Q=>∃ a b xs,x=.ref a /\ y=.ref b /\ cK K H a xs /\ cK K H b [] /\ Q (.bl xs.isEmpty) H
theorem Ro (hu:X.A.units<cLine):bT X (compareOp .Eq) (aae X.K):=by
 intro pins s σ H x y v u Q I rx ry h;let#[a,b,xs,rfl,rfl,h1,h2,q]:=h;cases rx;cases ry;let#[i1,r1,p1,z1]:=I.tuple h1;let#[i2,r2,p2,z2]:=I.tuple h2;cases r2;refine SeqAt.eq_tupleAt (e:=λ_=>ag) p1 p2 hu (λj h1 h2=>absurd h2 (by simp)) #[.bl xs.isEmpty,H,I,?_,q];have:=r1.length;cases xs<;>cases i1<;>simp_all[RelV]
def aed (K:PySem.W.Frag):R2:=λx y H Q=>∃ (a b:ai) (ns ms:List Int),x=.ref a /\ y=.ref b /\ bN K H a (ns.map V.int) /\ bN K H b (ms.map V.int) /\ Q (.bl<|decide (ns=ms)) H
theorem GD {ms:List Int}(h:ns.length=ms.length):((List.range ns.length).all λj=>(ns.getD j 0==ms.getD j 0))=decide (ns=ms):=by
 rw[qf,cb,decide_eq_true_iff];constructor
 .intro q;refine List.ext_getElem h λj h1 h2=>?_;have:=q j<|List.mem_range.mpr h1;simpa[h1,h2] using this
 .rintro rfl j _;simp
def aaf (K:PySem.W.Frag):R2:=λx y H Q=>Zt x y H Q \/ aae K x y H Q \/ aed K x y H Q
theorem Nf (hu:X.A.units<cLine):bT X (compareOp .Eq) (aaf X.K):=SZ.or ((Ro hu).or ((λhu=>by
 intro pins s σ H x y v u Q I rx ry h;let#[a,b,ns,ms,rfl,rfl,h1,h2,q]:=h;cases rx;cases ry;let#[i1,r1,p1,z1]:=I.list h1;let#[i2,r2,p2,z2]:=I.list h2;have l1:ns.length=i1.length:=by have:=r1.length;simpa using this
 have l2:ms.length=i2.length:=by have:=r2.length;simpa using this
 by_cases hl:ns.length=ms.length
 .refine SeqAt.eq_listAt (e:=λj=>ns.getD j 0==ms.getD j 0) p1.isList p2.isList (by simp;lia) hu (λj h1 h2=>?_) ?_
  .have g2:j<i2.length:=by simpa using h2
   let#[w1,e1,q1]:=r1.get (i:=j) (x:=V.int<|ns[j]'(by lia)) (by simp);let#[w2,e2,q2]:=r2.get (i:=j) (x:=V.int<|ms[j]'(by lia)) (by simp);have k1:i1[j]=w1:=by rw[cW (by simpa using h1)]at e1;show Option.some.inj e1
   have k2:i2[j]=w2:=by rw[cW g2]at e2;show Option.some.inj e2
   change SeqAt.EqAt _ _ i1[j] i2[j] _;rw[k1,k2];let#[t,rfl]:=q1;let#[t',rfl]:=q2;have d1:ns.getD j 0=ns[j]'(by lia):=by simp[show j<ns.length by lia]
   have d2:ms.getD j 0=ms[j]'(by lia):=by simp[show j<ms.length by lia]
   rw[d1,d2];show UQ _ _ _ _
  .rw[show i1.toArray.size=ns.length by simp;lia,GD hl];show#[.bl _,H,I,rfl,q]
 .refine SeqAt.eq_list_lengthsAt p1.isList p2.isList (by simp;lia) hu #[.bl af,H,I,rfl,?_];rw[decide_eq_false λz=>hl (by rw[z])]at q;show q) hu))
def VD:D->D->Option Res
 |.int i,.int j=>ae<|.old<|.bl<|decide (i=j)
 |.str i,.str j=>ae<|.old<|.bl<|decide (i=j)
 |.tup l,.tup []=>ae<|.old<|.bl l.isEmpty
 |.lst a,.lst b=>(intsOf a).bind λns=>(intsOf b).map λms=>.old<|.bl<|decide (ns=ms)
 |_,_=>ah
theorem aee {K}:nz (aaf K) VD:=by
 intro F H x y v w Q s sub rx ry e k;unfold VD at e;split at e
 .cases e;cases (rx);cases (ry);show .inl #[rfl,k _ _ #[rfl,by change _=_;simp]]
 .cases e;cases (rx);cases (ry);show .inl #[rfl,k _ _ #[rfl,by change _=_;simp]]
 .cases e;let#[a,vs,rfl,h1,h2]:=rx;let#[b,ws,rfl,h3,h4]:=ry;cases (h4);show .inr (.inl #[a,b,vs,rfl,rfl,.of<|sub _ _ h1,.of<|sub _ _ h3,k _ _ #[rfl,by change _=_;rw[h2.isEmpty]]])
 .ext l l';cases e1:intsOf l with
  |none=>rw[e1]at e;cases e
  |some ns=>
    cases e2:intsOf l' with
    |none=>rw[e1,e2]at e;cases e
    |some ms=>
      rw[e1,e2]at e;cases e;let#[a,vs,rfl,h1,h2]:=rx;let#[b,ws,rfl,h3,h4]:=ry;have q1:=h2.ints e1;have q2:=h4.ints e2;subst q1 q2;show .inr<|.inr #[a,b,ns,ms,rfl,rfl,.of h1,.of h3,k _ _ #[rfl,rfl]]
 .cases e
def aef (K:PySem.W.Frag):R2:=λx y H Q=>∃ a b xs,x=.ref a /\ y=.ref b /\ bN K H a xs /\ bN K H b [] /\ Q (.bl<|!xs.isEmpty) H
def aag (K:PySem.W.Frag):R2:=λx y H Q=>Zu x y H Q \/ aef K x y H Q
theorem Ng (hu:X.A.units<cLine):bT X (compareOp .NotEq) (aag X.K):=O8.or<|(λhu=>by
 intro pins s σ H x y v u Q I rx ry h;let#[a,b,xs,rfl,rfl,h1,h2,q]:=h;cases rx;cases ry;let#[i1,r1,p1,z1]:=I.list h1;let#[i2,r2,p2,z2]:=I.list h2;cases r2;cases r1 with
 |nil=>show SeqAt.RcNeAt.lists (e:=λ_=>ag) p1.isList p2.isList za hu (λj h1 h2=>absurd h2 (by simp)) X.prog X.w X.xe _ #[.bl af,H,I,rfl,q]
 |cons _ _=>show acb p1.isList p2.isList (rfl) hu X.prog X.w X.xe _ #[.bl ag,H,I,rfl,q]) hu
noncomputable def VE:D->D->Option Res
 |.int i,.int j=>ae<|.old<|.bl<|!decide (i=j)
 |.str i,.str j=>ae<|.old<|.bl<|!decide (i=j)
 |.lst l,.lst []=>ae<|.old<|.bl<|!l.isEmpty
 |_,_=>ah
theorem aeg {K}:nz (aag K) VE:=by
 intro F H x y v w Q s sub rx ry e k;unfold VE at e;split at e
 .cases e;cases (rx);cases (ry);show .inl #[rfl,k _ _ #[rfl,by change _=_;simp]]
 .cases e;cases (rx);cases (ry);show .inl #[rfl,k _ _ #[rfl,by change _=_;simp]]
 .cases e;let#[a,vs,rfl,h1,h2]:=rx;let#[b,ws,rfl,h3,h4]:=ry;cases (h4);show .inr #[a,b,vs,rfl,rfl,.of h1,.of h3,k _ _ #[rfl,by change _=_;rw[h2.isEmpty]]]
 .cases e
def aeh (K:PySem.W.Frag) (vs:List V) (H:Hp) (Q:VK):zb:=∃ (p:ai) (bs:List Bool),vs=[.ref p] /\ H p=ae (.lst<|bs.map V.bl) /\ Q (.bl<|bs.all id) H
theorem GE (hc:X.calm=ag):pK X (.builtin "all") (aeh X.K):=by
 intro pins s σ H xs us Q I rv h;let#[p,bs,rfl,hp,q]:=h;let#[u,rfl,ru]:=Vals.one rv;cases ru;let#[its,r1,p1,z1]:=I.list<|bN.of hp;have hl:=p1.isList;have hlen:bs.length=its.length:=by have:=r1.length;simpa using this
 refine call_all_walk<|Qr hl ?_
 refine#[s.heap.objs.size,[s.heap.objs.size,p],[s.heap.objs.size],its.toArray.size,_,_,λi=>(bs[i]?).getD ag,rfl,Walks.list (A:=X.A.in1) (I.ok.hd hc) _ p (bS (by let#[_,e,_]:=hl;show bb e)) its.toArray,
  #[#[_,bD _ za,rfl,rfl],hl.push _],λi v s' Q' E' hP hQ=>?_,λh' tk hk=>?_]
 .have aah:its[i]?=ae v:=by simpa using hP
  have hi:i<bs.length:=by rw[hlen];show(List.getElem?_eq_some_iff.mp aah).1
  let#[w,e1,e2]:=r1.get (i:=i) (x:=V.bl bs[i]) (by simp);rw[aah]at e1;cases e1;cases e2;simp[cW hi]at hQ;show qb hQ
 .have e:((List.range its.toArray.size).all λi=>(bs[i]?).getD ag)=bs.all id:=by
   rw[bY,<-hlen];show LSm.range_all bs
  rw[e];show#[.bl _,H,I.kept<|LSm.kept_iter hk,rfl,q]
noncomputable def sx:List D->Option (List Bool)
 |[]=>ae []
 |.bl i::l=>(sx l).map λt=>i::t
 |_=>ah
theorem aG.aai:∀ {l}{vs}{ns},aG F l vs->sx l=ae ns->vs=ns.map V.bl
 |[],_,_,h,e=>by cases e;show h
 | .bl i::l,_,ns,h,e=>by
   let#[v,r,q,h1,h2]:=h;unfold sx at e;cases e2:sx l with
   |none=>rw[e2]at e;cases e
   |some t=>
     rw[e2]at e;cases e;rw[q,h2.aai e2,h1];rfl
 |.non::l,_,_,_,e=>by cases e
 |.int _::l,_,_,_,e=>by cases e
 |.str _::l,_,_,_,e=>by cases e
 |.tup _::l,_,_,_,e=>by cases e
 |.lst _::l,_,_,_,e=>by cases e
 |.az _::l,_,_,_,e=>by cases e
def dW:List D->Option Res
 |[.lst l]=>(sx l).map λbs=>.old<|.bl<|bs.all id
 |_=>ah
theorem aei {K}:qP (λxs H Q=>∃ p ys,xs=[.ref p] /\ ((bN K H p ys /\ ∀ l,H l=ah->Q (.ref l) (upd H l<|.tup ys)) \/ (cK K H p ys /\ Q (.ref p) H)))
 (λxs=>match xs with|[.lst l]=>ae (.tup l)|[.tup l]=>ae (.tup l)|_=>ah):=by
 intro F H xs vs Q s sub rx e k;dsimp only at e;split at e
 .cases e;let#[v,t,rfl,#[a,us,rfl,h1,h2],rt]:=rx;cases (rt);show#[a,us,rfl,.inl #[.of h1,λp hp=>k _ _<|.inr #[p,us,rfl,hp,rfl,h2]]]
 .cases e;let#[v,t,rfl,#[a,us,rfl,h1,h2],rt]:=rx;cases (rt);show#[a,us,rfl,.inr #[.of<|sub _ _ h1,k _ _<|.inl #[rfl,a,us,rfl,h1,h2]]]
 .cases e
noncomputable def qp:List D->Option Res:=λxs=>match xs with|[.lst l]=>ae (.tup l)|[.tup l]=>ae (.tup l)|_=>ah
noncomputable def qU:List D->Option Res:=λxs=>match xs with|[.lst l]=>ae (.lst l)|[.tup l]=>ae (.lst l)|_=>ah
theorem aej {K}:qP (λxs H Q=>∃ p ys,xs=[.ref p] /\ (bN K H p ys \/ cK K H p ys) /\ ∀ l,H l=ah->Q (.ref l) (upd H l<|.lst ys)) qU:=by
 intro F H xs vs Q s sub rx e k;unfold qU at e;split at e
 .cases e;let#[v,t,rfl,#[a,us,rfl,h1,h2],rt]:=rx;cases (rt);show#[a,us,rfl,.inl<|.of h1,λp hp=>k _ _ #[p,us,rfl,hp,rfl,h2]]
 .cases e;let#[v,t,rfl,#[a,us,rfl,h1,h2],rt]:=rx;cases (rt);show#[a,us,rfl,.inr<|.of<|sub _ _ h1,λp hp=>k _ _ #[p,us,rfl,hp,rfl,h2]]
 .cases e
noncomputable def maxD:List D->Option Res:=λxs=>match xs with|[.int i,.int j]=>ae (.old<|.int (if j>i then j else i))|_=>ah
theorem aek:qP (λxs H Q=>∃ i j,xs=[.int i,.int j] /\ Q (.int (if j>i then j else i)) H) maxD:=by
 intro F H xs vs Q s sub rx e k;unfold maxD at e;split at e
 .ext i j;cases e;let#[v,t,rfl,h1,v2,t2,rfl,h2,rt]:=rx;cases (rt);cases (h1);cases (h2);show#[i,j,rfl,k _ _ #[rfl,rfl]]
 .cases e
noncomputable def minD:List D->Option Res:=λxs=>match xs with|[.int i,.int j]=>ae (.old<|.int (if j<i then j else i))|_=>ah
theorem ael:qP (λxs H Q=>∃ i j,xs=[.int i,.int j] /\ Q (.int (if j<i then j else i)) H) minD:=by
 intro F H xs vs Q s sub rx e k;unfold minD at e;split at e
 .ext i j;cases e;let#[v,t,rfl,h1,v2,t2,rfl,h2,rt]:=rx;cases (rt);cases (h1);cases (h2);show#[i,j,rfl,k _ _ #[rfl,rfl]]
 .cases e
end L2.DL
namespace HT

theorem lX {lo}(ht:IsTup s.heap t items) (hs:s.heap.IsSliceOf sl vl vu .none) (pl:IsPart vl lo) (pu:IsPart vu hi)
 (hw:aY items.size 0 lo=0 /\ aY items.size items.size hi=items.size) (h:Q (.ref t) s):wpAny (model prog w) A (getItem (.ref t)<|.ref sl) Q E s:=by
 let#[os,vA,IL,pO]:=id hs;unfold getItem;try with_reducible refine eV ?_
 first|refine ak (ax ?_)|skip
 refine ak<|Xc ht.typeIs (rfl) ?_;refine ak (u9 ht.typeIs wY
  (qc wY ht.typeIs Yq ?_<|Yr _ _))
 change wpAny _ _ (Builtin.Tuple.tupleItemsOf (.ref t) >>= _) _ _ s;refine ak<|Ys ht ?_;refine ak<|wu #[os,vA,IL] ?_;refine ak<|ji hs pl pu ?_;have aem:((((aY items.size 0 lo):Int)==0&&(1:Int)==1&&(aY items.size items.size hi-aY items.size 0 lo)==items.size)=ag):=by
  rw[hw.1,hw.2];simp
 change wpAny _ _ (if (((aY items.size 0 lo):Int)==0&&(1)==1&&(aY items.size items.size hi-aY items.size 0 lo)==items.size)=ag then _ else _) _ _ s;rw[if_pos aem];show ak<|ak<|wu ht.typeIs<|ax<|ak<|sR<|ax #[_,rfl,ax h]
theorem Ab {α β:Type}{f g:α->Option β}:∀ {l:List α},(∀ x∈l,f x=g x)->l.filterMap f=l.filterMap g:=by
 intro l_;induction l_ with
 |nil=>show λ_=>rfl
 |cons x l aA=>
   intro h;rw[qg,qg,h x bM,aA λy hy=>h y<|bC _ hy]
theorem Ac (n:Nat):sliceRange ((n)-1) (-1) (-1)=(List.range n).map λk=>n-1-k:=by
 have e:(if (-1)>0 then (if (n:Int)-1 < -1 then (-1-((n:Int)-1)+-1-1) / -1 else 0) else (if (n:Int)-1>-1 then ((n)-1 - -1 - -1-1) / (- -1) else 0)).toNat=n:=by
  rw[if_neg (by decide)];split
  .have:((n:Int)-1 - -1 - -1-1) / (- -1)=n:=by
    rw[show (- -1)=1 by decide,Int.ediv_one];lia
   rw[this];rfl
  .lia
 change (List.range (if (-1)>0 then (if (n:Int)-1 < -1 then (-1-((n:Int)-1)+-1-1) / -1 else 0) else (if (n:Int)-1>-1 then ((n)-1 - -1 - -1-1) / (- -1) else 0)).toNat).map _=_;rw[e];refine vm λk hk=>?_
 lia
theorem AK (its:List au):slicePick its.toArray ah ah (ae<|-1)=its.reverse.toArray:=by
 unfold slicePick;congr 1;change (sliceRange ((its.length)-1) (-1)<|-1).filterMap _=_;rw[Ac,XZ];apply QH;intro i;have h1:(List.range its.length).filterMap ((λx=>its.toArray[x]?)∘λk=>its.length-1-k)=(List.range its.length).map λk=>(its[its.length-1-k]?).getD .none:=by
  rw[<-List.filterMap_eq_map];refine Ab λk hk=>?_;have qL:=List.mem_range.mp hk;have pS:its.length-1-k<its.length:=by lia
  simp[pS]
 rw[h1,nV];by_cases hi:i<its.length
 .have pS:its.length-1-i<its.length:=by lia
  rw[List.getElem?_range hi,List.getElem?_reverse hi];simp[pS]
 .rw[rM (by simpa using vc hi),rM (by simpa using vc hi)];rfl
end HT
namespace L2.DL

def aaj (K:PySem.W.Frag):V->Option Int->Option Int->Hp->VK->zb:=λx lo hi H Q=>∃ a xs,x=.ref a /\ cK K H a xs /\
 (HT.aY xs.length 0 lo=0 /\ HT.aY xs.length xs.length hi=xs.length) /\ Q (.ref a) H
theorem Nh:ux X (aaj X.K):=by
 intro pins s σ H x v vl vu lo hi sl Q I rx hs pl pu h;let#[a,xs,rfl,hx,hw,q]:=h;cases rx;let#[its,r,ht,hz]:=I.tuple hx;have hlen:its.toArray.size=xs.length:=r.length.symm;show#["tuple",_,wY.lookup,ht.typeIs,HT.lX ht hs pl pu (by rw[hlen];show hw) #[.ref a,H,I,rfl,q]]
def aak (K:PySem.W.Frag):V->Option Int->Option Int->Hp->VK->zb:=λx lo hi H Q=>ZA K x lo hi H Q \/ aaj K x lo hi H Q \/ ada K x lo hi H Q
theorem Rp:ux X (aak X.K):=P8.or<|Nh.or (by
 intro pins s σ H x v vl vu lo hi sl Q I rx hs pl pu h;let#[a,xs,rfl,hx,q]:=h;cases rx;let#[its,r,ht,hz]:=I.list hx;have hlen:=r.length;refine#["list",_,slot_list_getitem.lookup,ht.isList.typeIs,?_];refine Xf ht.isList hs pl pu .none (by simp) ?_ (by rw[bY]<;>lia);rw[AJ,<-hlen];refine#[.ref s.heap.objs.size,_,I.laid (λb ob q=>aR _ q) (aB _) ?_,rfl,q _<|I.ay.fresh<|aB _];show#[cu (mX xs lo hi) hz,_,0,(r.drop _).take _,bD _ za])
def cutD (xs:List D) (lo hi:Option Int):List D:=(xs.drop<|HT.aY xs.length 0 lo).take<|HT.aY xs.length xs.length hi-HT.aY xs.length 0 lo
theorem Fj (h:aG F l vs) (lo hi):aG F (cutD l lo hi) (xp vs lo hi):=by
 unfold cutD xp;rw[h.length];show(h.drop _).take _
def qr:D->Option Int->Option Int->Option Res
 |.tup l,lo,hi=>ae<|.tup<|cutD l lo hi
 |.lst l,lo,hi=>ae<|.lst<|cutD l lo hi
 |_,_,_=>ah
theorem aen {K}{lo hi}(sub:Sub F H) (rx:nL F H x v) (e:qr x lo hi=ae s) (k:∀ u H',vG F H s u H'->Q u H'):aak K v lo hi H Q:=by
 cases x with
 |tup l=>
   cases e;let#[a,vs,rfl,h1,h2]:=rx;by_cases hw:HT.aY vs.length 0 lo=0 /\ HT.aY vs.length vs.length hi=vs.length
   .refine .inr<|.inl #[a,vs,rfl,.of<|sub _ _ h1,hw,k _ _<|.inl #[rfl,?_]];have e:cutD l lo hi=l:=by
     unfold cutD;rw[h2.length,hw.1,hw.2,HR,X1,<-h2.length,rN]
    rw[e];show#[a,vs,rfl,h1,h2]
   .show .inl #[a,vs,rfl,.of<|sub _ _ h1,hw,λp hp=>k _ _<|.inr #[p,_,rfl,hp,rfl,Fj h2 lo hi]]
 |lst l=>
   cases e;let#[a,vs,rfl,h1,h2]:=rx;show .inr<|.inr #[a,vs,rfl,.of h1,λp hp=>k _ _ #[p,_,rfl,hp,rfl,Fj h2 lo hi]]
 |_=>cases e
abbrev aeo:Hp->List ai->Option Int->Option Int->zb:=λ_ _ a b=>a=b
def aep (T:Fr) (Z:Xs) (m:DE<|Option Int):TO:=λσ H Q=>∃ F r env bx,Rel T F r σ H env bx /\ End T Z aeo F r σ env Q (m env bx)
def aeq (X:Cx) (T:Fr) (Z:Xs) (e:Option aD) (m:DE<|Option Int):zb:=PO X e<|aep T Z m
theorem PO.imp (h:PO X e t) (f:∀ σ H Q,t' σ H Q->t σ H Q):PO X e t':=λpins s σ H Q I q=>h pins s σ H Q I<|f σ H Q q
noncomputable def eS:DE (Option Int):=λ_ bx=>.val ah bx
def dH (m:DE W):DE (Option Int):=λenv bx=>fC (m env bx) λw bx1=>match w with|.d (.int i)=>.val (ae i) bx1|_=>.bad
def dX (bo:Bool) (m:DE W) (l u:DE<|Option Int):DE W:=λenv bx=>fC (m env bx) λx bx1=>fC (l env bx1) λi aq=>fC (u env aq) λj b9=>bZ bo ((bF b9 x).bind λd=>qr d i j) b9
theorem Rq {i:Int}(he:PE X e te):PE X (.Subscript e (.Slice ah ah (ae<|.UnaryOp .USub (.Constant (.int 1) j q1) q2) p2) pos)
 (λσ H Q=>te σ H λx H1=>∃ a xs,x=.ref a /\ bN X.K H1 a xs /\ ∀ p,H1 p=ah->Q (.ref p) (upd H1 p<|.lst xs.reverse)):=by
 intro pins s σ H Q I h;refine Subscript_<|aX (he pins s σ H _ I h) λv s1 x H1 I1 r1 q1=>?_;refine Xd ?_;refine ax<|ax ?_;refine aX (O7 Jr jo pins s1 σ H1 (λy H2=>y=.int (-1) /\ H2=H1) I1 #[1,rfl,rfl,rfl]) λvs s3 y H3 I3 r3 hh=>?_;let#[e1,e2]:=hh;subst e1 e2;let#[t,rfl]:=r3;let#[a,xs,rfl,hx,q]:=q1;cases r1;have I4:Inv X pins σ H3 { s3 with heap:=s3.heap.push { cls:=.type "slice",data:=.fields (List.toArray [.none,.none,.int (-1) t]) } }:=I3.kept λb ob q=>aR _ q;let#[its,r,ht,hz]:=I4.list hx;have hlen:=r.length;have hg:wpAny (model X.prog X.w) X.A (getItem (.ref a)<|.ref s3.heap.objs.size) (EP X pins σ Q) X.xe { s3 with heap:=s3.heap.push { cls:=.type "slice",data:=.fields (List.toArray [.none,.none,.int (-1) t]) } }:=by
  refine Xf ht.isList (Heap.IsSliceOf.new ..) .none .none (.int (-1) t) (by simp) ?_ (by rw[bY]<;>lia);rw[HT.AK];refine#[.ref _,_,I4.laid (λb ob q=>aR _ q) (aB _) ?_,rfl,q _<|I4.ay.fresh<|aB _];show#[by rw[List.length_reverse];show hz,_,0,r.reverse,bD _ za]
 change wpAny (model X.prog X.w) X.A (subscriptTail e (.Slice ah ah (ae<|.UnaryOp .USub (.Constant (.int 1) j _) q2) p2) (.ref a)<|.ref s3.heap.objs.size) (EP X pins σ Q) X.xe _;show QW ht.isList.typeIs slot_list_getitem.lookup hg (by with_unfolding_all rfl)
def VF (bo:Bool) (m:DE W):DE W:=λenv bx=>fC (m env bx) λx bx1=>bZ bo ((bF bx1 x).bind λd=>match d with|.lst l=>ae (.lst l.reverse)|_=>ah) bx1
def sy (m:DE W):DE W:=λenv bx=>fC (m env bx) λw bx1=>match w with|.d (.int i)=>.val (.d<|.int<|-i) bx1|_=>.bad
end L2.DL
namespace HT

theorem mZ (hl:IsTup s.heap l vs.toArray) (hz:vs.length<=sizeLine)
 (h:Q vs { s with heap:=(s.heap.push<|seqObj "list" #[] 0).update s.heap.objs.size (Obj.mapSeq (·++vs.toArray)) }):wpAny (model prog w) A (collect<|.ref l) Q E s:=by
 let#[ob,ho,Ef,k,qV]:=id hl;refine ak<|Xg<|vb entry_proto_collect'<|ak<|yC<|ax #[US _ (by decide +kernel),vb entry_list_iadd' ?_];change wpAny _ _ (Builtin.List.listExtendWith _ _ _) _ _ { s with heap:=s.heap.push _ };have qW:(s.heap.push<|seqObj "list" #[] 0).get? l=ae ob:=aR _ ho;refine ak<|wu #[ob,qW,Ef] ?_;rw[if_pos (by rw[show (Value.type "tuple"==Value.type "tuple")=ag by decide,XR])];refine ak<|wV qW qV<|ak<|wV (bD _ za) za ?_;rw[if_neg (by simp)];refine ak<|Ih (bD _ za) za (ax ?_) (dA _) (by change (#[]++vs.toArray).size<=sizeLine+1;simp[Array.size_append,bY,nW];lia);refine ak<|HK (Yu (bD _ za) _) (show wpAny _ _ (pure ((#[])++vs.toArray).toList) Q E _ from ?_);rw[show ((#[]:Array au)++vs.toArray).toList=vs by simp];show ax h
theorem Ad (hl:IsTup s.heap l vs.toArray) (hI:IntsAre vs ns) (dE:vs.length<64)
 (h:∀ (out) (pj),IntsAre out.toList pj->pj.Perm ns->pj.Pairwise (·<=·)->Q (.ref<|s.heap.objs.size+1) { s with heap:=sortedAll s.heap vs out }):wpAny (model prog w) A (call (.builtin "sorted") [.ref l]) Q E s:=by
 refine UJ QX QY QZ (Q0 _) ?_;refine ak<|ax<|ak<|mZ hl (cu (kK dE) (by decide))<|ak<|yC ?_;have hsz:((s.heap.push<|seqObj "list" #[] 0).update s.heap.objs.size (Obj.mapSeq (·++vs.toArray))).objs.size=s.heap.objs.size+1:=by rw[Yn,Ii]
 have uk:(((s.heap.push<|seqObj "list" #[] 0).update s.heap.objs.size (Obj.mapSeq (·++vs.toArray))).push<|seqObj "list" vs.toArray 0).get? (s.heap.objs.size+1)=ae (seqObj "list" vs.toArray 0):=by rw[<-hsz];show bD _ za
 rw[hsz];show ak<|eV<|qc Q2 #[_,uk,rfl] Q3 (list_sort_tree uk hI dE λout pj a1 a2 a3=>#[_,rfl,ax #[_,rfl,h out pj a1 a2 a3]])<|Q4 _
end HT
namespace L2.DL
noncomputable def sortI (ns:List Int):List Int:=ns.mergeSort λa b=>decide (a<=b)
theorem ju (ns):(sortI ns).Perm ns:=X2 ns _
theorem lY (ns):(sortI ns).Pairwise (·<=·):=(X3 (le:=λa b:Int=>decide _) (λa b c h1 h2=>by simp at *;lia) (λa b=>by simp;lia) ns).imp λq=>by simpa using q
section
variable {X:Cx}
def VG (K:PySem.W.Frag) (vs:List V) (H:Hp) (Q:VK):zb:=∃ (p:ai) (ns:List Int),vs=[.ref p] /\ (bN K H p (ns.map V.int) \/ cK K H p (ns.map V.int)) /\ ns.length<64 /\ ∀ l,H l=ah->Q (.ref l) (upd H l<|.lst<|(sortI ns).map V.int)
theorem A5:∀ {us}{ns},IntsAre us ns->Vals (ns.map V.int) us
 |_,_,.nil=>.nil
 |_,_,.cons n t h=>.cons #[t,rfl]<|A5 h
theorem GF:pK X (.builtin "sorted") (VG X.K):=by
 intro pins s σ H xs us Q I rv h;let#[p,ns,rfl,hp,dE,q]:=h;let#[u,rfl,ru]:=Vals.one rv;cases ru;have fin:∀ (its) (out) (pj),IntsAre out.toList pj->pj.Perm ns->pj.Pairwise _->EP X pins σ Q _ { s with heap:=sortedAll s.heap its out }:=λits out pj a1 a2 a3=>by
  let#[k,he]:=Yv s.heap its out;have e:=(λp ha hb=>p.eq_of_pairwise (λx y _ _ h1 h2=>Int.le_antisymm h1 h2) ha hb) (a2.trans (ju ns).symm) a3<|lY ns;subst e;have ll:((sortI ns).map V.int).length<=sizeLine:=by
   rw[aV,(ju ns).length_eq];show cu (kK dE) (by decide)
  refine#[.ref _,_,I.laid (λb ob q=>Yw q) (sU _) ?_,rfl,q _<|I.ay.fresh<|sU _];show#[ll,out.toList,k,A5 a1,he]
 rcases hp with hp|hp
 .let#[its,r1,p1,z1]:=I.list hp;have hl:ns.length=its.length:=by have:=r1.length;simpa using this
  show sorted_ints p1.isList (oZ r1) (by lia) λout pj=>fin its out pj
 .let#[its,r1,p1,z1]:=I.tuple hp;have hl:ns.length=its.length:=by have:=r1.length;simpa using this
  show HT.Ad p1 (oZ r1) (by lia) λout pj=>fin its out pj
def tL:List D->Option Res
 |[.lst l]=>(intsOf l).bind λns=>if ns.length<64 then ae (.lst<|(sortI ns).map D.int) else ah
 |[.tup l]=>(intsOf l).bind λns=>if ns.length<64 then ae (.lst<|(sortI ns).map D.int) else ah
 |_=>ah
theorem Co:∀ (ns:List Int),aG F (ns.map D.int) (ns.map V.int):=by
 intro l_;induction l_ with
 |nil=>show rfl
 |cons n ns aA=>show .cons za<|aA
theorem aer {K}:qP (VG K) tL:=by
 intro F H xs vs Q s sub rx e k;unfold tL at e;split at e
 .ext l;let#[v,t,rfl,#[a,us,rfl,h1,h2],rt]:=rx;cases (rt);cases e1:intsOf l with
  |none=>rw[e1]at e;cases e
  |some ns=>
    rw[e1]at e;erw[bI]at e;split at e
    .ext dE;cases e;have q1:=h2.ints e1;subst q1;show#[a,ns,rfl,.inl<|.of h1,dE,λl hl=>k _ _ #[l,_,rfl,hl,rfl,Co _]]
    .cases e
 .ext l;let#[v,t,rfl,#[a,us,rfl,h1,h2],rt]:=rx;cases (rt);cases e1:intsOf l with
  |none=>rw[e1]at e;cases e
  |some ns=>
    rw[e1]at e;erw[bI]at e;split at e
    .ext dE;cases e;have q1:=h2.ints e1;subst q1;show#[a,ns,rfl,.inr<|.of<|sub _ _ h1,dE,λl hl=>k _ _ #[l,_,rfl,hl,rfl,Co _]]
    .cases e
 .cases e
def tM (m:DE W) (k:DE W):DE W:=λenv bx=>fC (m env bx) λx bx1=>match x with
 | .b n=>(match bx1[n]? with
   | some (.lst _)=>fC (k env bx1) λy aq=>(match y,aq[n]? with
     |.d d,ae (.lst l)=>if l.length<sizeLine then .val (.d .non) (aq.set n<|.lst<|l++[d]) else .bad
     |_,_=>.bad)
   |_=>.bad)
 |_=>.bad
theorem Ta (h:tD T Z (tM ma mb) σ H Q):Vj X.K "list" ZI (tD T Z ma) (Vb (tD T Z mb) IJ) σ H Q:=by
 let#[F,r,env,bx,R,h]:=h;refine#[F,r,env,bx,R,End.bind h λx bx1 F1 r1 v H1 g1 R1 d1 h1=>?_];cases x with
 |b n=>
   simp at h1;let#[a,rfl,ha]:=d1;let#[c,hc,kc]:=R1.kE ha;rw[hc]at h1;cases c with
   |lst l0=>
     let#[_,xG,k0,_]:=kc;refine#[.inl #[rfl,xG,bN.of k0],?_];refine#[F1,r1,env,bx1,R1,End.bind h1 λy aq F2 r2 u H2 g2 R2 d2 h2=>?_];let#[t,et]:=g2.p;have EB:r2[n]?=ae a:=by rw[<-et,cR (List.getElem?_eq_some_iff.mp ha).1];show ha
     let#[c2,pN,vL]:=R2.kE EB;rw[pN]at h2;cases y with
     |d dd=>
       cases c2 with
       |lst l=>
         simp at h2;split at h2
         .ext hz;let#[hF,vs,k1,k2]:=vL;show#[a,vs,u,rfl,rfl,k1,by rw[<-k2.length];show hz,(h2 F2 r2 _ _ (.refl F2 r2) (R2.write EB hF #[hF,vs++[u],fu,k2.append<|.cons d2 .nil]) za)]
         .show h2.elim
       |_=>show h2.elim
     |_=>show h2.elim
   |_=>show h1.elim
 |_=>show h1.elim
end
end L2.DL
namespace L2
section
variable {κ:Type} [DecidableEq κ]
noncomputable def nC (ao:List<|κ×V) (k:κ):Option V:=(ao.find? λkv=>decide (kv.1=k)).map (·.2)
noncomputable def putK (ao:List<|κ×V) (k:κ) (v:V):List (κ×V):=
 if (ao.any λkv=>decide (kv.1=k))=ag then ao.map (λkv=>if kv.1=k then (kv.1,v) else kv) else ao++[(k,v)]
noncomputable def tO (ao:List<|κ×V) (k:κ):List (κ×V):=ao.filter λkv=>decide (kv.1≠k)
theorem lZ {k:κ}(e:p.1=k):nC (p::r) k=ae p.2:=by simp[nC,e]
theorem jU {k:κ}(e:¬ p.1=k):nC (p::r) k=nC r k:=by simp[nC,e]
theorem JZ (k):∀ ao:List (κ×V),(ao.any λkv=>decide (kv.1=k))=(nC ao k).isSome:=by
 intro l_;induction l_ with
 |nil=>show rfl
 |cons p r aA=>
   rw[vh];by_cases e:p.1=k
   .simp[lZ e,decide_eq_true e,Bool.true_or,Option.isSome_some]
   .rw[jU e,decide_eq_false e,Bool.false_or];show aA
theorem jV (ao) (k:κ) (v):(putK ao k v).length<=ao.length+1:=by
 unfold putK;split
 .rw[aV];lia
 .rw[bG,a6,nW];lia
theorem kM.xH (r:kM o u):o.isSome=u.isSome:=by
 cases o with
 | none=>cases u with
   |none=>rfl
   |some _=>show(r).elim
 | some _=>cases u with
   |none=>show(r).elim
   |some _=>rfl
theorem kM.getD (r:kM o u) (rd:RelV d d'):RelV (o.getD d) (u.getD d'):=by
 cases o with
 | none=>cases u with
   |none=>show rd
   |some _=>show(r).elim
 | some _=>cases u with
   |none=>show(r).elim
   |some _=>show r
theorem KV.val (r:KV ao vs) (k:κ):kM (nC ao k) (valueAt vs k):=by
 induction r with
 |nil=>show True.intro
 |@cons p q ps qs h t ih=>
   let#[h1,h2]:=h;by_cases e:p.1=k
   .have b:valueAt (q::qs) k=ae q.2:=by simp[valueAt,(h1.symm.trans e)]
    rw[lZ e,b];show h2
   .have e':¬ q.1=k:=λz=>e<|h1.trans z;have b:valueAt (q::qs) k=valueAt qs k:=by simp[valueAt,e']
    rw[jU e,b];show ih
theorem KV.any (r:KV ao vs) (k:κ):(ao.any λkv=>decide (kv.1=k))=vs.any λkv=>decide (kv.1=k):=by
 induction r with
 |nil=>rfl
 |cons h t ih=>rw[vh,vh,ih,h.1]
theorem KV.repl (r:KV ao vs) (k:κ) (ry:RelV y u) :
 KV (ao.map λkv=>if kv.1=k then (kv.1,y) else kv) (vs.map λkv=>if kv.1=k then (kv.1,u) else kv):=by
 induction r with
 |nil=>show .nil
 |@cons p q ps qs h t ih=>
   rw[aQ,aQ];refine .cons ?_ ih;let#[h1,h2]:=h;by_cases e:p.1=k
   .rw[if_pos e,if_pos<|h1.symm.trans e];show#[h1,ry]
   .rw[if_neg e,if_neg λz=>e<|h1.trans z];show#[h1,h2]
theorem KV.put (r:KV ao vs) (k:κ) (ry:RelV y u):KV (putK ao k y) (stored vs k u):=by
 unfold putK stored;rw[r.any k];by_cases e:(vs.any λkv=>decide (kv.1=k))=ag
 .rw[if_pos e,if_pos e];show r.repl k ry
 .rw[if_neg e,if_neg e];show Paired.snoc r #[rfl,ry]
theorem KV.drop (r:KV ao vs) (k:κ):KV (tO ao k) (without vs k):=by
 unfold tO without;induction r with
 |nil=>show .nil
 |@cons p q ps qs h t ih=>
   let#[h1,h2]:=h;rw[HZ,HZ];by_cases e:p.1=k
   .rw[if_neg (by simp[e]),if_neg (by simp[h1.symm.trans e])];show ih
   .have e':¬ q.1=k:=λz=>e<|h1.trans z;rw[if_pos (by simp[e]),if_pos (by simp[e'])];show .cons #[h1,h2] ih
theorem KV.length {vs:List (κ×au)}(r:KV ao vs):ao.length=vs.length:=Paired.length r
end
theorem m7 (r:RelV (kV k) u):(dR P w).is k u=ag:=by
 cases k with
 |inl i=>let#[t,e]:=(r);subst e;show(λprog w i t=>Gk i t) P w i t
 |inr x=>let#[t,e]:=(r);subst e;show(λprog w x t=>Gm x t) P w x t
theorem GG:∀ {ks}{us},Vals (ks.map kV) us->ItemsAre (dR P w) ks us:=by
 intro l_;induction l_ with
 |nil=>(intro _ r;cases r;show .nil)
 |cons k ks aA=>
   intro _ r;cases r with
   |cons h t=>show .cons (m7 h)<|aA t
abbrev KT (H:Hp):List (List Key×V)->List (List Key×ai×au)->zb:=Paired λp q=>p.1=q.1 /\ H q.2.1=ae (.tup<|p.1.map kV) /\ RelV p.2 q.2.2
theorem KT.val (r:KT H ao xs) (k):kM (nC ao k) ((atKey xs k).map (·.2)):=by
 induction r with
 |nil=>show True.intro
 |@cons p q ps qs h t ih=>
   let#[h1,_,h2]:=h;by_cases e:p.1=k
   .have b:atKey (q::qs) k=ae q.2:=by simp[atKey,(h1.symm.trans e)]
    rw[lZ e,b];show h2
   .have e':¬ q.1=k:=λz=>e<|h1.trans z;have b:atKey (q::qs) k=atKey qs k:=by simp[atKey,e']
    rw[jU e,b];show ih
theorem KT.repl (r:KT H ao xs) (k) (ry:RelV y u) :
 KT H (ao.map λkv=>if kv.1=k then (kv.1,y) else kv) (xs.map<|putAt k u):=by
 induction r with
 |nil=>show .nil
 |@cons p q ps qs h t ih=>
   rw[aQ,aQ];refine .cons ?_ ih;let#[h1,h2,h3]:=h;unfold putAt;by_cases e:p.1=k
   .rw[if_pos e,if_pos<|h1.symm.trans e];show#[h1,h2,ry]
   .rw[if_neg e,if_neg λz=>e<|h1.trans z];show#[h1,h2,h3]
theorem KT.put (r:KT H ao xs) (k) (hb:H b=ae (.tup<|k.map kV)) (ry:RelV y u) :
 KT H (putK ao k y) (storedH xs k b u):=by
 have e:(ao.any λkv=>decide (kv.1=k))=(atKey xs k).isSome:=by
  rw[JZ,(r.val k).xH,wU]
 unfold putK storedH;rw[e];by_cases q:(atKey xs k).isSome=ag
 .rw[if_pos q,if_pos q];show r.repl k ry
 .rw[if_neg q,if_neg q];show Paired.snoc r #[rfl,hb,ry]
theorem KT.keeps (r:KT H ao xs) (ht:∀ b ys,H b=ae (.tup ys)->H' b=ae (.tup ys)):KT H' ao xs:=
 Paired.UW r λ_ _ z=>#[z.1,ht _ _ z.2.1,z.2.2]

theorem Pc (ok:cq P w H h) (e:Rd H a u):cj P w H h a u:=e.ok ok
theorem m8 (ok:cq P w H h) (e:Rd H a<|.dK ao):ao.length<=sizeLine /\ (a==sysModules)=af /\ ∃ vs,KV ao vs /\ h.DictOf (dR P w) a vs:=
 Pc ok e
theorem J0 (ok:cq P w H h) (e:H a=ae (.dK ao)):ao.length<=sizeLine /\ (a==sysModules)=af /\ ∃ vs,KV ao vs /\ h.DictOf (dR P w) a vs:=m8 ok<|.inl e
theorem lI (ok:cq P w H h) (e:H a=ae (.tup<|ks.map kV)):(tupleKind<|dR P w).is h ks a:=by
 let#[_,its,r,o,h1,h2,n,h3]:=(ok a _ e);show#[o,its.toArray,n,h1,h2,h3,by simpa using GG r]
theorem Ae (ok:cq P w H h) (e:Rd H a<|.dT ao):ao.length<=sizeLine /\ (a==sysModules)=af /\
 ∃ xs,KT H ao xs /\ h.DictOfH (tupleKind<|dR P w) a xs:=by
 let#[z,y,xs,r,o,es,ep,h1,h2,h3,h4,h5]:=(Pc ok e);refine#[z,y,xs,r,o,es,ep,h1,h2,h3,h4,λx hx=>?_,h5];have all:∀ {l}{m},KT H l m->∀ x∈m,(tupleKind<|dR P w).is h x.1 x.2.1:=by
  intro l m q;induction q with
  |nil=>intro x hx;show nomatch hx
  |@cons p q ps qs hq t ih=>
    intro x hx;rcases a9.mp hx with e|hx
    .subst e;show lI ok (by rw[<-hq.1];show hq.2.1)
    .show ih x hx
 show all r x hx
theorem Pd (ok:cq P w H h) (e:H a=ae (.dT ao)):ao.length<=sizeLine /\ (a==sysModules)=af /\
 ∃ xs,KT H ao xs /\ h.DictOfH (tupleKind<|dR P w) a xs:=Ae ok<|.inl e
def qX (H:Hp) (a:ai) (y:V) (r:Option V):zb:=
 (∃ ao k,Rd H a (.dK ao) /\ y=kV k /\ r=nC ao k) \/ ∃ ao k b,Rd H a (.dT ao) /\ y=.ref b /\ H b=ae (.tup<|k.map kV) /\ r=nC ao k
def aal (H:Hp) (a:ai) (y v:V) (H':Hp):zb:=
 (∃ ao k,H a=ae (.dK ao) /\ y=kV k /\ ao.length<sizeLine /\ H'=upd H a (.dK<|putK ao k v)) \/
 ∃ ao k b,H a=ae (.dT ao) /\ y=.ref b /\ H b=ae (.tup<|k.map kV) /\ ao.length<sizeLine /\ H'=upd H a (.dT<|putK ao k v)
theorem qX.k {k}(e:H a=ae (.dK ao)):qX H a (kV k) (nC ao k):=.inl #[ao,k,.inl e,rfl,rfl]

theorem Inv.big (I:Inv X pins σ H s):sysModules<s.heap.objs.size:=by
 show ve (by decide) (I.mod.glob.keeps I.bk).lt
theorem GH (hu:A.units+1<cLine) (I:Inv X pins σ H s) (g:qX H a y<|ae v) (ry:RelV y u) (h:∀ w' s',Inv X pins σ H s'->RelV v w'->Q w' s') :
 wpAny (model X.prog X.w) A (getItem (.ref a) u) Q E s:=by
 rcases g with⟨ao,k,e,ey,l⟩|⟨ao,k,b,e,ey,eb,l⟩
 .subst ey;let#[z,hd,vs,rel,dd]:=m8 I.ay e;let#[w',hw,nI]:=kM.some_of (by rw[l];show rel.val k);show wpAny_getItem_of (m7 ry) dd.mapOf hw<|h w' _ (I.tok _) nI
 .subst ey;cases (ry);let#[z,hd,xs,rel,dd]:=Ae I.ay e;let#[w',hw,nI]:=kM.some_of (by rw[l];show rel.val k);let#[p,hp,aes]:=Option.map_eq_some_iff.mp hw;refine wpAny_getItem_heap (wz hu) (lI I.ay eb) dd hp ?_;rw[aes];show h w' _ (I.tok _) nI
theorem Uc (hu:A.units+1<cLine) (I:Inv X pins σ H s) (g:qX H a y o) (ry:RelV y u) (h:∀ s',Inv X pins σ H s'->Q (.bool o.isSome) s') :
 wpAny (model X.prog X.w) A (compareOp .In u<|.ref a) Q E s:=by
 rcases g with⟨ao,k,e,ey,l⟩|⟨ao,k,b,e,ey,eb,l⟩
 .subst ey;let#[z,hd,vs,rel,dd]:=m8 I.ay e;refine wpAny_in_of (m7 ry) hd dd.mapOf ?_;rw[<-(rel.val k).xH,<-l];show h _<|I.tok _
 .subst ey;cases (ry);let#[z,hd,xs,rel,dd]:=Ae I.ay e;refine wpAny_in_heap (wz hu) (lI I.ay eb) hd dd ?_;have q:=(rel.val k).xH;rw[wU]at q;rw[<-q,<-l];show h _<|I.tok _
theorem Ni (hu:A.units+1<cLine) (I:Inv X pins σ H s) (g:qX H a y o) (ry:RelV y u) (h:∀ s',Inv X pins σ H s'->Q (.bool<|!o.isSome) s') :
 wpAny (model X.prog X.w) A (compareOp .NotIn u<|.ref a) Q E s:=by
 rcases g with⟨ao,k,e,ey,l⟩|⟨ao,k,b,e,ey,eb,l⟩
 .subst ey;let#[z,hd,vs,rel,dd]:=m8 I.ay e;refine wpAny_notIn_of (m7 ry) hd dd.mapOf ?_;rw[<-(rel.val k).xH,<-l];show h _<|I.tok _
 .subst ey;cases (ry);let#[z,hd,xs,rel,dd]:=Ae I.ay e;refine wpAny_notIn_heap (wz hu) (lI I.ay eb) hd dd ?_;have q:=(rel.val k).xH;rw[wU]at q;rw[<-q,<-l];show h _<|I.tok _
theorem oE (I:Inv X pins σ H s) (mu:yQ<|H a) (hs:Heap.SameBut a s.heap h') (he:∃ q,h'.get? a=ae q) (new:cj X.prog X.w (upd H a ob) h' a ob) :
 Inv X pins σ (upd H a ob) { s with heap:=h',toks:=t' }:=
 I.write mu (.inl za) (λb q hb z=>(hs.2 b hb).trans z) he new
theorem Dt (z:ao.length<=sizeLine) (hd:(a==sysModules)=af) (rel:KV ao vs) (dd:h'.DictOf (dR P w) a vs) :
 cj P w H' h' a (.dK ao):=#[z,hd,vs,rel,dd]
theorem GI (hu:A.units+1<cLine) (I:Inv X pins σ H s) (g:aal H a y v H') (ry:RelV y u) (rv:RelV v r) (h:∀ s',Inv X pins σ H' s'->Q () s') :
 wpAny (model X.prog X.w) A (setItem (.ref a) u r) Q E s:=by
 rcases g with⟨ao,k,e,ey,l,eH⟩|⟨ao,k,b,e,ey,eb,l,eH⟩
 .subst ey eH;let#[z,hd,vs,rel,dd]:=J0 I.ay e;have hz:vs.length<=sizeLine:=by rw[<-rel.length];show z
  have hl:(putK ao k v).length<=sizeLine:=by have:=jV ao k v;lia
  refine wpAny_setItem_pairs (m7 ry) dd λh' sC hs=>h _ ?_;have he:∃ q,h'.get? a=ae q:=let ⟨q,_,_,hq,_⟩:=sC;#[q,hq]
  show oE I (by rw[e];show True.intro) hs he<|Dt hl hd (rel.put k rv) sC
 .subst ey eH;cases (ry);let#[z,hd,xs,rel,dd]:=Pd I.ay e;have hz:xs.length<=sizeLine:=by rw[<-Paired.length rel];show z
  have hl:(putK ao k v).length<=sizeLine:=by have:=jV ao k v;lia
  refine wpAny_setItem_heap (wz hu) (lI I.ay eb) dd λh' sC hs=>h _ ?_;let#[q,es,ep,hq,h2,h3,h4,_,h5]:=sC;refine oE I (by rw[e];show True.intro) hs #[q,hq] #[hl,hd,_,(rel.put k eb rv).keeps λc ys ec=>?_,q,es,ep,hq,h2,h3,h4,h5];rw[fv<|SX ec e λz=>nomatch z];show ec

theorem GJ (I:Inv X pins σ H s) (e:H a=ae (.dK ao)) (ry:RelV (kV k) u) (l:(nC ao k).isSome=ag) (h:∀ s',Inv X pins σ (upd H a<|.dK<|tO ao k) s'->Q () s') :
 wpAny (model X.prog X.w) A (delItem (.ref a) u) Q E s:=by
 let#[z,hd,vs,rel,dd]:=J0 I.ay e;refine wpAny_delItem_slot dd.typeIs (rfl) YL
  (HN YL dd.typeIs PySem.F.entry_dict_delitem (PySem.F.args_dict_delitem_2 _ _) (meets_dict_delitem_pairs _ a<|m7 ry) #[vs,dd,by rw[<-rel.length];show z,by rw[<-(rel.val k).xH];show l,λh' sC hs=>h _ ?_])
 show oE I (by rw[e];show True.intro) hs (let ⟨q,_,_,hq,_⟩:=sC;#[q,hq])<|Dt (cu ((λao k=>QI _ _) ao k) z) hd (rel.drop k) sC
def VH (i:aD):zb:=∀ ov iv,subscripted i af ov iv=operate [ov,iv] (getItem ov iv)
theorem Nj {id}
 (hl:typeLookup (.type T) "__getitem__"=pure (ae<|.builtin id)) (hs:VH slice)
 (h:wpAny (model prog w) A (eval value env) (λo s₁=>wpAny (model prog w) A (eval slice env) (λi s₂=>s₂.TypeIs o T /\ wpAny (model prog w) A (getItem o i) Q E s₂) E s₁) E s) :
 wpAny (model prog w) A (eval (.Subscript value slice pos) env) Q E s:=by
 refine Subscript_<|kq h (λo s₁ h₁=>kq h₁ (λi s₂ h₂=>?_) λ_ _ x=>x) λ_ _ x=>x;let#[hT,h₂]:=h₂;refine ak ?_;refine ak<|Xh hT hl ?_;have fin:wpAny (model prog w) A (subscripted slice af o i) (λr s₃=>wpAny (model prog w) A (letTemporaryGo value o r >>= λ_=>pure r) Q E s₃) E s₂:=by
  rw[hs o i];show wpAny_operating<|kq h₂ (λr s₃ h₃=>ak<|wpAny_letTemporaryGo<|ax h₃) λ_ _ x=>x
 first
  |show ax<|ak fin
  |show ak _
  |show ak fin
def aam (td ty:TE):TE:=λσ H Q=>td σ H λx H1=>ty σ H1 λy H2=>∃ a v,x=.ref a /\ qX H2 a y (ae v) /\ Q v H2
def aan (ty td:TE):TE:=λσ H Q=>ty σ H λy H1=>td σ H1 λx H2=>∃ a o,x=.ref a /\ qX H2 a y o /\ Q (.bl o.isSome) H2
def aao (ty td:TE):TE:=λσ H Q=>ty σ H λy H1=>td σ H1 λx H2=>∃ a o,x=.ref a /\ qX H2 a y o /\ Q (.bl<|!o.isSome) H2
def aap (td ty tv:TE):TS:=λD σ H=>tv σ H λv H1=>td σ H1 λx H2=>ty σ H2 λy H3=>∃ a H4,x=.ref a /\ aal H3 a y v H4 /\ D.nx σ H4
def aaq (td ty:TE):TS:=λD σ H=>td σ H λx H1=>ty σ H1 λy H2=>∃ a ao k,x=.ref a /\ H2 a=ae (.dK ao) /\ y=kV k /\ (nC ao k).isSome=ag /\ D.nx σ (upd H2 a<|.dK<|tO ao k)

theorem Nk (hu:X.A.units+1<cLine) (ho:PE X o td) (hi:PE X i ty) (hs:VH i):PE X (.Subscript o i pos) (aam td ty):=by
 intro pins s σ H Q I h;refine Nj PySem.F.slot_dict_getitem.lookup hs<|aX (ho pins s σ H _ I h) λu s1 x H1 I1 rx q1=>aX (hi pins s1 σ H1 _ I1 q1) λiv s2 y H2 I2 ry hh=>?_;let#[a,v,ex,g,q2]:=hh;subst ex;obtain rfl:u=Value.ref a:=rx;show#[(λI g=>by
  rcases g with⟨ao,k,e,_,_⟩|⟨ao,k,b,e,_,_,_⟩
  .let#[_,_,vs,_,dd]:=m8 I.ay e;show dd.typeIs
  .let#[_,_,xs,_,dd]:=Ae I.ay e;show dd.typeIs) I2 g,GH hu I2 g ry λw' s3 I3 nI=>#[v,H2,I3,nI,q2]]
theorem J1 (hu:X.A.units+1<cLine) (hi:PE X i ty) (ho:PE X o td):PC X .In i o (aan ty td):=by
 intro pins s σ H Q I h;refine aX (hi pins s σ H _ I h) λiv s1 y H1 I1 ry q1=>aX (ho pins s1 σ H1 _ I1 q1) λu s2 x H2 I2 rx hh=>?_;let#[a,ov,ex,g,q2]:=hh;subst ex;obtain rfl:u=Value.ref a:=rx;show Uc hu I2 g ry λs3 I3=>#[.bl ov.isSome,H2,I3,rfl,q2]
theorem A6 (hu:X.A.units+1<cLine) (hi:PE X i ty) (ho:PE X o td):PC X .NotIn i o (aao ty td):=by
 intro pins s σ H Q I h;refine aX (hi pins s σ H _ I h) λiv s1 y H1 I1 ry q1=>aX (ho pins s1 σ H1 _ I1 q1) λu s2 x H2 I2 rx hh=>?_;let#[a,ov,ex,g,q2]:=hh;subst ex;obtain rfl:u=Value.ref a:=rx;show Ni hu I2 g ry λs3 I3=>#[.bl _,H2,I3,rfl,q2]
theorem Fk (hu:X.A.units+1<cLine) (ho:PE X o td) (hi:PE X i ty) (hv:PE X value tv) (hs:swapsWith value (ae<|.Subscript o i pos') pos.line X.env=pure af) :
 PS X (.Assign [.Subscript o i pos'] value pos) (aap td ty tv):=by
 intro pins s σ H D I h;refine wpAny_Assign_Subscript (aX (hv pins s σ H _ I h) λr s1 v H1 I1 rv q1=>aX (ho pins s1 σ H1 _ I1 q1) λu s2 x H2 I2 rx q2=>aX (hi pins s2 σ H2 _ I2 q2) λiv s3 y H3 I3 ry hh=>?_) hs;let#[a,H4,ex,g,q3]:=hh;subst ex;obtain rfl:u=Value.ref a:=rx;show GI hu I3 g ry rv λs4 I4=>#[σ,H4,I4,q3]
theorem Nl (ho:PE X o td) (hi:PE X i ty):PS X (.Delete [.Subscript o i ahn] pos) (aaq td ty):=by
 intro pins s σ H D I h;refine wpAny_Delete<|wpAny_deleteEach_cons<|wpAny_delete_Subscript<|aX (ho pins s σ H _ I h) λu s1 x H1 I1 rx q1=>aX (hi pins s1 σ H1 _ I1 q1) λiv s2 y H2 I2 ry hh=>?_;let#[a,ao,k,ex,e,ey,l,q2]:=hh;subst ex ey;obtain rfl:u=Value.ref a:=rx;show GJ I2 e ry l λs3 I3=>wpAny_deleteEach_nil #[σ,_,I3,q2]
theorem Cp (h:aK) (hb:sysModules<h.objs.size):cj P w H (h.push { cls:=.type "dict",data:=.dict #[] }) h.objs.size (.dK []):=
 #[dA _,beq_eq_false_iff_ne.mpr<|Ne.symm<|bS hb,[],.nil,Heap.DictOf.new h]
def aet:TE:=λ_ H Q=>∀ p,H p=ah->Q (.ref p) (upd H p<|.dK [])
def aeu:TE:=λ_ H Q=>∀ p,H p=ah->Q (.ref p) (upd H p<|.dT [])

theorem J2:PE X (.Dict [] [] pos) aet:=λpins s σ H Q I h=>
 Xi #[.ref s.heap.objs.size,_,I.laid (λ_ _ q=>aR _ q) (aB _)<|Cp s.heap I.big,rfl,h _<|I.ay.fresh<|aB _]
theorem J3:PE X (.Dict [] [] pos) aeu:=λpins s σ H Q I h=>
 Xi #[.ref s.heap.objs.size,_,I.laid (λ_ _ q=>aR _ q) (aB _)<|(λh hb=>#[dA _,beq_eq_false_iff_ne.mpr<|Ne.symm<|bS hb,[],.nil,_,#[],0,bD _ za,#[rfl,rfl,rfl],rfl,rfl,List.nodup_nil]) s.heap I.big,rfl,h _<|I.ay.fresh<|aB _]
noncomputable def VI:List (TE×TE)->St->Hp->(List (V×V)->Hp->zb)->zb
 |[],_,H,Q=>Q [] H
 |(tk,tv)::r,σ,H,Q=>tk σ H λx H1=>tv σ H1 λy H2=>VI r σ H2 λps H3=>Q ((x,y)::ps) H3
abbrev VV:List (V×V)->List (au×au)->zb:=Paired λp q=>RelV p.1 q.1 /\ RelV p.2 q.2
def Kl (X:Cx) (pos:Pos) (keys:List<|Option aD) (values:List aD) (vM:List<|TE×TE):zb:=
 ∀ (pins) (s) (σ:St) (H) (Q),Inv X pins σ H s->VI vM σ H Q ->
  wpAny (model X.prog X.w) X.A (evalPairs<|pairTrees keys values X.env pos) (λvs s'=>∃ ps H',Inv X pins σ H' s' /\ VV ps vs /\ Q ps H') X.xe s
theorem BC:Kl X pos [] [] []:=λpins s σ H Q I h=>pairTrees_nil_walk #[[],H,I,.nil,h]
theorem jW (hk:PE X k tk) (hv:PE X v tv) (hr:Kl X pos ks vs vM) :
 Kl X pos (ae k::ks) (v::vs) ((tk,tv)::vM):=λpins s σ H Q I h=>
 pairTrees_cons_walk (aX (hk pins s σ H _ I h) λu s1 x H1 I1 rx q1=>aX (hv pins s1 σ H1 _ I1 q1) λw2 s2 y H2 I2 ry q2=>Iy (hr pins s2 σ H2 _ I2 q2) λws s3 ps H3 I3 rel q3=>#[(x,y)::ps,H3,I3,.cons #[rx,ry] rel,q3])
def vN (ao more:List<|Key×V):List (Key×V):=more.foldl (λacc kv=>putK acc kv.1 kv.2) ao
theorem KV.merge:∀ {more}{rs}{ao}{vs},KV more rs->KV ao vs->KV (vN ao more) (merged vs rs):=by
 intro more rs ao vs r;induction r generalizing ao vs with
 |nil=>intro q;show q
 |@cons p q ps qs h t ih=>
   intro r0;have e:KV (putK ao p.1 p.2) (stored vs q.1 q.2):=by
    have:=r0.put p.1 h.2;rw[<-h.1];show this
   show ih e
theorem AL:∀ (more ao),(vN ao more).length<=ao.length+more.length:=by
 intro l_;induction l_ with
 |nil=>(intro ao;change ao.length<=ao.length+0;lia)
 |cons p r aA=>
   intro ao;have h1:=aA<|putK ao p.1 p.2;have h2:=jV ao p.1 p.2;change (vN _ r).length<=_;rw[a6];lia
theorem Du:∀ {ao}{ws},VV (ao.map λkv=>(kV kv.1,kv.2)) ws->∃ rs,Carries (dR P w) ws rs /\ KV ao rs:=by
 intro l_;induction l_ with
 |nil=>(intro _ r;cases r;show#[[],True.intro,.nil])
 |cons p ao aA=>
   intro _ r;cases r with
   |@cons a b as bs h t=>
     let#[rs,c,q]:=aA t;let#[b1,b2]:=b;show#[(p.1,b2)::rs,#[m7 h.1,rfl,c],.cons #[rfl,h.2] q]
def aev (vM:List<|TE×TE):TE:=λσ H Q=>∀ p,H p=ah->VI vM σ (upd H p<|.dK []) λps H2=>H2 p=ae (.dK []) /\ ∃ ao,ps=ao.map (λkv=>(kV kv.1,kv.2)) /\ ao.length<=15 /\ Q (.ref p) (upd H2 p<|.dK<|vN [] ao)
theorem BD (h:Kl X pos keys values vM) (n9:keys.all (·.isSome)=ag) (hl:keys.length=values.length) (h0:keys≠[])
 (aew:keys.length<=15):PE X (.Dict keys values pos) (aev vM):=by
 intro pins s σ H Q I q;refine wpAny_Dict_walk (knd:=dR X.prog X.w) n9 hl h0 aew<|Iy (h pins _ σ _ _ (I.laid (t':=s.toks) (λ_ _ q=>aR _ q) (aB _)<|Cp s.heap I.big)<|q _<|I.ay.fresh<|aB s.heap.objs.size) λws s2 ps H2 I2 rel ⟨e,ao,ep,lk,q2⟩=>?_;subst ep;let#[rs,c,rk]:=Du rel;let#[z,hd,xG,r0,dd]:=J0 I2.ay e;cases r0;refine#[rs,c,dd,λh' sC hs=>#[.ref s.heap.objs.size,_,?_,rfl,q2]];have hz:(vN [] ao).length<=sizeLine:=by
  have h1:=AL ao [];rw[nW]at h1;rw[bB];lia
 show oE I2 (by rw[e];show True.intro) hs (let ⟨q,_,_,hq,_⟩:=sC;#[q,hq])<|Dt hz hd (rk.merge .nil) sC
structure M1 (X:Cx) (o:aD) (m:Str) (apos:Pos) (e:aD) (dG:Pos):zb where
 base:attributeBase o m X.env (eval o X.env)=eval o X.env
 few:((backTo dG<|starEach [e] X.env).all (λx=>!x.1)&&(backToKw dG<|keywordEach [] X.env).all (λx=>x.1.isSome)
  && decide (([e]:List aD).length+([]:List Keyword).length+(if ([]:List Keyword).isEmpty then 0 else 1)<30))=ag
 line:(apos.endLine==dG.line)=ag
 trees:backTo dG (starEach [e] X.env)=[(af,eval e X.env)]
def aar (H:Hp) (a:ai):zb:=(∃ ao,Rd H a<|.dK ao) \/ ∃ ao,Rd H a (.dT ao)
theorem J4 (I:Inv X pins σ H s) (d:aar H a) :
 s.TypeIs (.ref a) "dict" /\ (∀ b,Value.ref a=.ref b->∃ ob,s.heap.get? b=ae ob /\ ob.dict=ah) /\ (a==sysModules)=af:=by
 rcases d with⟨ao,e⟩|⟨ao,e⟩
 .let#[_,hd,vs,_,dd]:=m8 I.ay e;refine#[dd.typeIs,λb q=>?_,hd];cases q;let#[ob,_,_,h1,h2,_]:=dd;show#[ob,h1,h2.2.1]
 .let#[_,hd,xs,_,dd]:=Ae I.ay e;refine#[dd.typeIs,λb q=>?_,hd];cases q;let#[ob,_,_,h1,h2,_]:=dd;show#[ob,h1,h2.2.1]

theorem Rs (hu:A.units+1<cLine) (I:Inv X pins σ H s) (g:qX H a y o) (ry:RelV y u) (h:∀ w' s',Inv X pins σ H s'->RelV (o.getD .non) w'->Q w' s') :
 wpAny (model X.prog X.w) A (call (.builtin "dict.get") [.ref a,u]) Q E s:=by
 rcases g with⟨ao,k,e,ey,l⟩|⟨ao,k,b,e,ey,eb,l⟩
 .subst ey;let#[z,hd,vs,rel,dd]:=m8 I.ay e;refine HN UN dd.typeIs YM (YN _ _) (meets_dict_get _ a (m7 ry) hd) #[_,dd.mapOf,h _ _ (I.tok _) ?_];rw[l];show(rel.val k).getD za
 .subst ey;cases (ry);let#[z,hd,xs,rel,dd]:=Ae I.ay e;refine HN UN dd.typeIs YM (YN _ _) (meetsH_dict_get _ a b hd) #[wz hu,k,xs,lI I.ay eb,dd,h _ _ (I.tok _) ?_];rw[l];show(rel.val k).getD za
def aas (td ty:TE):TE:=λσ H Q=>td σ H λx H1=>∃ a,x=.ref a /\ aar H1 a /\ ty σ H1 λy H2=>∃ o,qX H2 a y o /\ Q (o.getD .non) H2

theorem J5 (hu:X.A.units+1<cLine) (ho:PE X o td) (he:PE X e ty) (m:M1 X o "get" apos e dG):PE X (.Call (.Attribute o "get" apos) [e] [] dG) (aas td ty):=by
 intro pins s σ H Q I h;refine Xj m.base m.few m.line YO UN PySem.F.type_dict_get<|aX (ho pins s σ H _ I h) λu s1 x H1 I1 rx hh=>?_;let#[a,ex,d,q1]:=hh;subst ex;obtain rfl:u=Value.ref a:=rx;let#[t1,t2,_]:=J4 I1 d;refine#[t1,t2,?_];rw[m.trees];show UH za<|UI<|yM<|aX (he pins s1 σ H1 _ I1 q1) λiv s2 y H2 I2 ry ⟨ov,g,q2⟩=>yL<|Rs hu I2 g ry λw' s3 I3 nI=>#[_,H2,I3,nI,q2]
end L2
namespace L2.DL
noncomputable def cE:Key->PyData
 |.inl i=>.int i
 |.inr x=>.str x
mutual
noncomputable def toPy:D->PyData
 |.non=>.none
 |.bl b=>.bool b
 |.int i=>.int i
 |.str x=>.str x
 |.tup l=>.tuple<|bq l
 |.lst l=>.list<|bq l
 |.az l=>.dict<|bQ l
noncomputable def bq:List D->List PyData
 |[]=>[]
 |d::l=>toPy d::bq l
noncomputable def bQ:List (Key×D)->List (PyData×PyData)
 |[]=>[]
 |(k,d)::l=>(cE k,toPy d)::bQ l
end
section
variable {X:Cx}
theorem mJ:∀ {es}{vs}{l}{ao},PySem.Pairs (dR X.prog X.w) es vs->KV ao vs->aL F l ao->ReadsAll h (es.map (·.key)) ((bQ l).map (·.1)) []
 | _,_,[],_,p,k,d=>by
   cases (d);cases k;cases p;show .nil
 | _,_,(k,x)::l,_,p,q,d=>by
   let#[v,r,e,_,d2]:=d;subst e;cases q with
   |cons q1 q2=>
     cases p with
     |@cons de _ _ _ p1 p2 p3=>
       have e1:=q1.1;simp at e1;rw[<-e1]at p1;have hk:Reads h de.key (cE k) []:=by
        rcases f7 (p1) with⟨i,t,e2,e3⟩|⟨y,t,e2,e3⟩
        .rw[e2,e3];show .int i t
        .rw[e2,e3];show .str y t
       show ReadsAll.cons hk<|mJ (h:=h) p3 q2 d2
mutual
theorem gu (I:Inv X pins σ H s) (sub:Sub F H):∀ {d:D}{v:V}{u:au},Den F d v->RelV v u->∃ as,Reads s.heap u (toPy d) as
 |.non,_,_,h,r=>by cases (show _=V.non from h);cases r;show#[[],.none]
 |.bl b,_,_,h,r=>by cases (show _=V.bl b from h);cases r;show#[[],.bool b]
 |.int i,_,_,h,r=>by cases (show _=V.int i from h);let#[t,rfl]:=r;show#[[],.int i t]
 |.str x,_,_,h,r=>by cases (show _=V.str x from h);let#[t,rfl]:=r;show#[[],.str x t]
 | .tup l,_,_,h,r=>by
   let#[a,vs,rfl,h1,h2]:=h;cases r;let#[_,its,rv,ob,e1,e2,n,e3]:=(show cj X.prog X.w H s.heap a (.tup vs) from I.ay a _ (sub _ _ h1));let#[as,ra]:=jv I sub h2 rv;show#[as,.tuple e1 e2 e3 (by simpa using ra)]
 | .lst l,_,_,h,r=>by
   let#[a,vs,rfl,h1,h2]:=h;cases r;let#[_,its,n,rv,e1]:=(show cj X.prog X.w H s.heap a (.lst vs) from I.ay a _ (sub _ _ h1));let#[as,ra]:=jv I sub h2 rv;show#[a::as,.list e1 za za (by simpa using ra)]
 | .az l,_,_,h,r=>by
   let#[a,ao,rfl,h1,h2]:=h;cases r;let#[_,_,vs,rk,ob,es,ep,e1,e2,e3,_,pr,_]:=(show cj X.prog X.w H s.heap a (.dK ao) from I.ay a _ (sub _ _ h1));let#[as,ra]:=lJ I sub h2 rk pr;show#[a::[]++as,.dict e1 e2.1 e3 (mJ (X:=X) pr rk h2) ra]
theorem jv (I:Inv X pins σ H s) (sub:Sub F H):∀ {l:List D}{vs:List V}{us:List au},aG F l vs->Vals vs us->∃ as,ReadsAll s.heap us (bq l) as
 |[],_,_,h,r=>by cases (show _=[] from h);cases r;show#[[],.nil]
 | d::l,_,_,h,r=>by
   let#[v,t,e,h1,h2]:=h;subst e;cases r with
   |cons r1 r2=>
     let#[as,ra]:=gu I sub h1 r1;let#[bs,rb]:=jv I sub h2 r2;show#[as++bs,.cons ra rb]
theorem lJ (I:Inv X pins σ H s) (sub:Sub F H):∀ {l:List (Key×D)}{ao:List (Key×V)}{vs:List (Key×au)}{es:List DictEntry},aL F l ao->KV ao vs->PySem.Pairs (dR X.prog X.w) es vs->∃ as,ReadsAll s.heap (es.map (·.val)) ((bQ l).map (·.2)) as
 |[],_,_,_,h,r,p=>by cases (show _=[] from h);cases r;cases p;show#[[],.nil]
 | (k,d)::l,_,_,_,h,r,p=>by
   let#[v,t,e,h1,h2]:=h;subst e;cases r with
   |cons r1 r2=>
     cases p with
     |cons p1 p2 p3=>
       let#[as,ra]:=gu I sub h1 r1.2;let#[bs,rb]:=lJ I sub h2 r2 p3;rw[<-p2]at ra;show#[as++bs,.cons ra rb]
end
abbrev EC (ts:List Str):zb:=∀ t∈ts,t.length<=sizeLine
theorem J6 (e:vt k y=ag) (hs:(cE k).showable=ag) (hz:(cE k).shown.length<=sizeLine) (n):ReprK X.prog X.w [] h n y (cE k).shown:=by
 rcases f7 e with⟨i,t,e2,e3⟩|⟨x,t,e2,e3⟩
 .subst e2;subst e3;show .of_is (ReprIs.int t (by simpa[cE,PyData.showable] using hs)) _ _ _
 .subst e2;subst e3;show .of_is (ReprIs.str x t (by simpa only[cE,PyData.shown] using hz)) _ _ _
theorem mK:∀ {es}{vs}{l}{ao},PySem.Pairs (dR X.prog X.w) es vs->KV ao vs->aL F l ao->PyData.showableKv (bQ l)=ag->EC (PyData.shownKv<|bQ l) ->
 ReprAllK X.prog X.w [] h n (es.map (·.key)) (PyData.shownAll ((bQ l).map (·.1)))
 | _,_,[],_,p,k,d,_,_=>by
   cases (d);cases k;cases p;show .nil
 | _,_,(k,x)::l,_,p,q,d,hs,hz=>by
   let#[v,r,e,_,d2]:=d;subst e;simp[bQ,PyData.showableKv,aH]at hs;have z1:=hz _<|bM ..;rw[pC,pC]at z1;cases q with
   |cons q1 q2=>
     cases p with
     |@cons de _ _ _ p1 p2 p3=>
       have e1:=q1.1;simp at e1;rw[<-e1]at p1;show .cons (J6 (p1) hs.1.1 (by lia) n)<|mK p3 q2 d2 hs.2 λt m=>hz t<|bC _ m
mutual
theorem Cq (I:Inv X pins σ H s) (sub:Sub F H):∀ {d:D}{v:V}{u:au},Den F d v->RelV v u->(toPy d).showable=ag->(toPy d).shown.length<=sizeLine->∃ bs,ReadAtMost s.heap (toPy d).depth bs /\ ReprK X.prog X.w bs s.heap (toPy d).depth u (toPy d).shown
 |.non,_,_,h,r,_,_=>by cases (show _=V.non from h);cases r;show#[[],(λ_ z=>nomatch z),.of_is ReprIs.none _ _ _]
 |.bl b,_,_,h,r,_,_=>by cases (show _=V.bl b from h);cases r;show#[[],(λ_ z=>nomatch z),.of_is (ReprIs.bool b) _ _ _]
 |.int i,_,_,h,r,hs,_=>by cases (show _=V.int i from h);let#[t,rfl]:=r;show#[[],(λ_ z=>nomatch z),.of_is (ReprIs.int t<|of_decide_eq_true hs) _ _ _]
 |.str x,_,_,h,r,_,hz=>by cases (show _=V.str x from h);let#[t,rfl]:=r;show#[[],(λ_ z=>nomatch z),.of_is (ReprIs.str x t hz) _ _ _]
 | .tup l,_,_,h,r,hs,hz=>by
   let#[as,rd]:=gu I sub h r;let#[a,vs,rfl,h1,h2]:=h;cases r;let#[_,its,rv,ob,e1,e2,n,e3]:=(show cj X.prog X.w H s.heap a (.tup vs) from I.ay a _ (sub _ _ h1));have nN:(tupleText<|PyData.shownAll<|bq l).length<=sizeLine:=by simpa only[toPy,PyData.shown] using hz
   let#[bs,hb,hk]:=jj I sub h2 rv (by simpa[toPy,PyData.showable] using hs) λt m=>cu (Xk m) nN;erw[toPy,PyData.depth,PyData.shown]at rd ⊢;show#[a::bs,ReadAtMost.cons rd (sU _) hb,ReprK.tuple e1 e2 e3 (wB rd (qd _) hb) (by simpa using hk)]
 | .lst l,_,_,h,r,hs,hz=>by
   let#[as,rd]:=gu I sub h r;let#[a,vs,rfl,h1,h2]:=h;cases r;let#[_,its,n,rv,e1]:=(show cj X.prog X.w H s.heap a (.lst vs) from I.ay a _ (sub _ _ h1));have nN:(listText<|PyData.shownAll<|bq l).length<=sizeLine:=by simpa only[toPy,PyData.shown] using hz
   let#[bs,hb,hk]:=jj I sub h2 rv (by simpa[toPy,PyData.showable] using hs) λt m=>cu (Xl m) nN;erw[toPy,PyData.depth,PyData.shown]at rd ⊢;refine#[a::bs,ReadAtMost.cons rd (sU _) hb,?_];cases its with
   |nil=>
     have e:bq l=[]:=by
      cases l with
      |nil=>rfl
      |cons x l=>let#[v,t,e,_]:=h2;subst e;cases rv
     rw[e];erw[PyData.shownAll,Xm];show ReprK.listEmpty e1 za za
   |cons x its=>show ReprK.list e1 za za (wB rd (qd _) hb) (by simpa using hk.length_eq) λi y q=>hk.item i y (by simpa using q)
 | .az l,_,_,h,r,hs,hz=>by
   let#[as,rd]:=gu I sub h r;let#[a,ao,rfl,h1,h2]:=h;cases r;let#[_,hy,vs,rk,ob,es,ep,e1,e2,e3,_,pr,_]:=(show cj X.prog X.w H s.heap a (.dK ao) from I.ay a _ (sub _ _ h1));have nN:(dictText<|PyData.shownKv<|bQ l).length<=sizeLine:=by simpa only[toPy,PyData.shown] using hz
   have fit:EC (PyData.shownKv<|bQ l):=λt m=>cu (Xn m) nN;have ED:PyData.showableKv (bQ l)=ag:=by simpa[toPy,PyData.showable] using hs
   let#[bs,hb,hk]:=mL I sub h2 rk pr ED fit;have hK:=mK (X:=X) (h:=s.heap) (n:=PyData.depthKv<|bQ l) pr rk h2 ED fit;erw[toPy,PyData.depth,PyData.shown]at rd ⊢;rw[UT];show#[a::bs,ReadAtMost.cons rd (sU _) hb,ReprK.dict e1 e2.1 e3 hy (wB rd (qd _) hb)<|Y9 _ _ _ (hK.more_le (λ_ z=>by cases z)<|aB _) hk]
theorem jj (I:Inv X pins σ H s) (sub:Sub F H):∀ {l:List D}{vs:List V}{us:List au},aG F l vs->Vals vs us->PyData.showableAll (bq l)=ag->EC (PyData.shownAll<|bq l)->∃ bs,ReadAtMost s.heap (PyData.depthAll<|bq l) bs /\ ReprAllK X.prog X.w bs s.heap (PyData.depthAll<|bq l) us (PyData.shownAll<|bq l)
 |[],_,_,h,r,_,_=>by cases (show _=[] from h);cases r;show#[[],(λ_ z=>nomatch z),.nil]
 | d::l,_,_,h,r,hs,hz=>by
   let#[v,t,e,h1,h2]:=h;subst e;erw[bq,PyData.showableAll,aH]at hs;erw[bq,PyData.shownAll]at hz;cases r with
   |cons r1 r2=>
     let#[as,ha,ka]:=Cq I sub h1 r1 hs.1<|hz _<|bM ..;let#[bs,hb,kb]:=jj I sub h2 r2 hs.2 λt m=>hz t<|bC _ m;erw[bq,PyData.depthAll,PyData.shownAll];have la:=Nat.le_max_left (toPy d).depth<|PyData.depthAll<|bq l;have lb:=Nat.le_max_right (toPy d).depth<|PyData.depthAll<|bq l;show#[as++bs,(ha.mono la).append<|hb.mono lb,.cons ((ka.more λ_ m=>nU _ m).level_le la)<|kb.more_le (λ_ m=>qh _ m) lb]
theorem mL (I:Inv X pins σ H s) (sub:Sub F H):∀ {l:List (Key×D)}{ao:List (Key×V)}{vs:List (Key×au)}{es:List DictEntry},aL F l ao->KV ao vs->PySem.Pairs (dR X.prog X.w) es vs->PyData.showableKv (bQ l)=ag->EC (PyData.shownKv<|bQ l) ->
 ∃ bs,ReadAtMost s.heap (PyData.depthKv<|bQ l) bs /\ ReprAllK X.prog X.w bs s.heap (PyData.depthKv<|bQ l) (es.map (·.val)) (PyData.shownAll ((bQ l).map (·.2)))
 |[],_,_,_,h,r,p,_,_=>by cases (show _=[] from h);cases r;cases p;show#[[],(λ_ z=>nomatch z),.nil]
 | (k,d)::l,_,_,_,h,r,p,hs,hz=>by
   let#[v,t,e,h1,h2]:=h;subst e;erw[bQ,PyData.showableKv,aH]at hs;erw[bQ,PyData.shownKv]at hz;have z1:=hz _<|bM ..;rw[pC,pC]at z1;cases r with
   |cons r1 r2=>
     cases p with
     |cons p1 p2 p3=>
       let#[as,ha,ka]:=Cq I sub h1 r1.2 hs.1.2 (by lia);let#[bs,hb,kb]:=mL I sub h2 r2 p3 hs.2 λt m=>hz t<|bC _ m;rw[<-p2]at ka;erw[bQ,PyData.depthKv,aQ,PyData.shownAll];have la:(toPy d).depth<=max (max (cE k).depth (toPy d).depth) (PyData.depthKv<|bQ l):=by lia
       have lb:PyData.depthKv (bQ l)<=max (max (cE k).depth (toPy d).depth) (PyData.depthKv<|bQ l):=by lia
       show#[as++bs,(ha.mono la).append<|hb.mono lb,.cons ((ka.more λ_ m=>nU _ m).level_le la)<|kb.more_le (λ_ m=>qh _ m) lb]
end
end

def aex (vs:List V) (H:Hp) (Q:VK):zb:=∃ (F:Hp) (d:D) (v:V),vs=[v] /\ Sub F H /\ Den F d v /\ (toPy d).showable=ag /\ (toPy d).depth<=60 /\ (toPy d).shown.length<=sizeLine /\ Q (.str (toPy d).shown) H
theorem GK (hr:bH k X.A):pK X (.builtin "repr") aex:=by
 intro pins s σ H xs us Q I rv h;let#[F,d,v,rfl,sub,hd,h1,h2,h3,q]:=h;let#[u,rfl,ru]:=Vals.one rv;have fin:∀ (t:Tok) (tk:Nat),EP X pins σ Q (.str (toPy d).shown t) { s with toks:=tk }:=λt tk=>#[.str _,H,I.tok tk,#[t,rfl],q];have Km:∀ (t':Str),t'=(toPy d).shown->∀ h' u tk,(∀ b o,s.heap.get? b=ae o->h'.get? b=ae o)->∃ x t,Value.str t' u=.str x t /\ EP X pins σ Q (.str t' u) { s with heap:=h',toks:=tk }:=λt' et h' t tk hk=>by
  subst et;show#[_,_,rfl,.str _,H,I.kept hk,#[t,rfl],q]
 have hu:=hr.units;cases d with
 |non=>cases (show v=.non from hd);cases ru;show P.repr_of_none<|fin _ _
 |bl b=>cases (show v=.bl b from hd);cases ru;show P.repr_of_bool<|fin _ _
 |int i=>cases (show v=.int i from hd);let#[t,rfl]:=ru;show P.repr_of_int (of_decide_eq_true h1)<|fin _ _
 |str x=>cases (show v=.str x from hd);let#[t,rfl]:=ru;show P.repr_of_str<|fin _ _
 |tup l=>
   let#[as,rd]:=gu I sub hd ru;let#[a,vs,rfl,k1,k2]:=hd;cases ru;let#[_,its,rv,ob,e1,e2,n,e3]:=(show cj X.prog X.w H s.heap a (.tup vs) from I.ay a _ (sub _ _ k1));have nN:(tupleText<|PyData.shownAll<|bq l).length<=sizeLine:=by simpa only[toPy,PyData.shown] using h3
   let#[bs,hb,hk]:=jj I sub k2 rv (by simpa[toPy,PyData.showable] using h1) λt m=>cu (Xk m) nN;simp[toPy,PyData.depth]at rd h2;show Qs (by lia) #[ob,e1,e2] PySem.F.slot_tuple_repr<|call_tuple_reprK e1 e2 e3 (wB rd (qd _) hb) (by simpa using hk) hr.gd (λb _=>Clear.nil b) (by change X.A.units+1+_<cLine;lia) (λ_ _ z=>z) (Km _<|rfl) nN
 |lst l=>
   let#[as,rd]:=gu I sub hd ru;let#[a,vs,rfl,k1,k2]:=hd;cases ru;let#[_,its,n,rv,e1]:=(show cj X.prog X.w H s.heap a (.lst vs) from I.ay a _ (sub _ _ k1));have nN:(listText<|PyData.shownAll<|bq l).length<=sizeLine:=by simpa only[toPy,PyData.shown] using h3
   let#[bs,hb,hk]:=jj I sub k2 rv (by simpa[toPy,PyData.showable] using h1) λt m=>cu (Xl m) nN;simp[toPy,PyData.depth]at rd h2;refine Qs (by lia) #[_,e1,rfl] PySem.F.slot_list_repr.toG ?_;cases its with
   |nil=>
     have e:bq l=[]:=by
      cases l with
      |nil=>rfl
      |cons x l=>let#[v,t,e,_]:=k2;subst e;cases rv
     show call_list_repr_empty #[_,e1,rfl] e1 za<|Km "[]" (by simp[toPy,PyData.shown,e,PyData.shownAll,Xm]) s.heap _ _ λ_ _ z=>z
   |cons x its=>show call_list_reprK e1 za za (wB rd (qd _) hb) (by simpa using hk.length_eq) (λi y q=>hk.item i y (by simpa using q)) hr.gd (λb _=>Clear.nil b) (by change X.A.units+1+_<cLine;lia) (λ_ _ z=>z) (Km _<|rfl) nN
 |az l=>
   let#[as,rd]:=gu I sub hd ru;let#[a,ao,rfl,k1,k2]:=hd;cases ru;let#[_,hy,vs,rk,ob,es,ep,e1,e2,e3,_,pr,_]:=(show cj X.prog X.w H s.heap a (.dK ao) from I.ay a _ (sub _ _ k1));have nN:(dictText<|PyData.shownKv<|bQ l).length<=sizeLine:=by simpa only[toPy,PyData.shown] using h3
   have fit:EC (PyData.shownKv<|bQ l):=λt m=>cu (Xn m) nN;have ED:PyData.showableKv (bQ l)=ag:=by simpa[toPy,PyData.showable] using h1
   let#[bs,hb,hk]:=mL I sub k2 rk pr ED fit;erw[toPy,PyData.depth]at rd h2;rw[UT]at nN;show Qs (by lia) #[ob,e1,e2.1] PySem.F.slot_dict_repr<|call_dict_reprK e1 e2.1 e3 hy (wB rd (qd _) hb) (Y9 _ _ _ ((mK (X:=X) (h:=s.heap) (n:=PyData.depthKv<|bQ l) pr rk k2 ED fit).more_le (λ_ z=>by cases z)<|aB _) hk) hr.gd (λb _=>Clear.nil b) (by change X.A.units+1+_<cLine;lia) (λ_ _ z=>z) (Km _ (by erw[toPy,PyData.shown,UT])) nN
def vO (d:D):Bool:=(toPy d).showable&&decide ((toPy d).depth<=60)&&decide ((toPy d).shown.length<=sizeLine)
theorem Nm (s:Sub F H):∀ {d}{v},nL F H d v->∃ F',Sub F' H /\ Den F' d v
 | .lst l,_,h=>by
   let#[a,vs,rfl,h1,h2]:=h;refine#[upd F a _,λb u e=>?_,a,vs,rfl,fu,aG.mono (λb u e=>?_) l h2]
   .by_cases z:b=a
    .subst z;rw[fu]at e;rw[h1,e]
    .rw[fv z]at e;show s b u e
   .by_cases z:b=a
    .subst z;rw[s b u e]at h1;rw[fu,h1]
    .rw[fv z];show e
 | .az l,_,h=>by
   let#[a,vs,rfl,h1,h2]:=h;refine#[upd F a _,λb u e=>?_,a,vs,rfl,fu,aL.mono (λb u e=>?_) l h2]
   .by_cases z:b=a
    .subst z;rw[fu]at e;rw[h1,e]
    .rw[fv z]at e;show s b u e
   .by_cases z:b=a
    .subst z;rw[s b u e]at h1;rw[fu,h1]
    .rw[fv z];show e
 |.tup _,_,h=>#[F,s,h]
 |.non,_,h=>#[F,s,h]
 |.bl _,_,h=>#[F,s,h]
 |.int _,_,h=>#[F,s,h]
 |.str _,_,h=>#[F,s,h]
def vP (m:DE W):DE W:=λenv bx=>fC (m env bx) λw bx1=>match bF bx1 w with
 |some d=>if vO d=ag then .val (.d<|.str (toPy d).shown) bx1 else .bad
 |none=>.bad
end L2.DL
namespace PySem.SeqAt
open Calls MeetsSeq
open PySem.AutoSeq1 (wpAny_loadPart')

theorem jX (l) (es) (ep) (dd) (sl) (b) (u) :
 Meets (Builtin.«dict.__eq__» #[[.ref l,.str b u],[]]) (λ_ R s=>s.heap.get? l=ae { cls:=.type "dict",dict:=dd,data:=.dict es ep,slots:=sl } /\ R (.ok<|.ret .notImplemented) s):=
 .of_wp λprog w A R s h=>by let#[hl,h]:=h;have f1:=YQ;wp_walk using wpAny_loadPart' hl;show#[_,rfl,h]
theorem jY (b) (u) (l) (es) (ep) (dd) (sl) :
 Meets (Builtin.«str.__eq__» #[[.str b u,.ref l],[]]) (λ_ R s=>s.heap.get? l=ae { cls:=.type "dict",dict:=dd,data:=.dict es ep,slots:=sl } /\ R (.ok<|.ret .notImplemented) s):=
 .of_wp λprog w A R s h=>by let#[hl,h]:=h;wp_walk using wpAny_loadPart' hl,HK hl;show#[_,rfl,h]
theorem aey (b) (u) (ho:s.heap.get? l=ae { cls:=.type "dict",dict:=dd,data:=.dict es ep,slots:=sl }) (hu:A.units<cLine):RcAt A s (.ref l) (.str b u) af:=λprog w E Q h=>rc_eq_decline_or #[_,ho,rfl] (HM s b u) (rfl) YQ YR YS
 (λ_ hq=>wx YR #[_,ho,rfl] F.entry_dict_eq (F.args_dict_eq_2 _ _) (jX l es ep dd sl b u) #[ho,hq])
 (λ_ hq=>wx YS (HM s b u) F.entry_str_eq (F.args_str_eq_2 _ _) (jY b u l es ep dd sl) #[ho,hq])
 (λ_ hq=>uf (rfl) hq) (.inr hu) h
end PySem.SeqAt
namespace L2.DL
noncomputable def EE:D->Bool
 |.str _=>ag
 |_=>af
def aat:R2:=λx y H Q=>∃ F d t,Sub F H /\ nL F H d x /\ EE d=af /\ y=.str t /\ Q (.bl af) H
theorem gQ (I:Inv X pins σ H s) (sub:Sub F H) (h:nL F H d v) (r:RelV v u):∃ as,Reads s.heap u (toPy d) as:=by
 cases d with
 |lst l=>
   let#[a,vs,rfl,h1,h2]:=h;cases r;let#[_,its,n,rv,e1]:=(I.ay a _ h1);let#[as,ra]:=jv I sub h2 rv;show#[a::as,.list e1 za za (by simpa using ra)]
 |az l=>
   let#[a,ao,rfl,h1,h2]:=h;cases r;let#[_,_,vs,rk,ob,es,ep,e1,e2,e3,_,pr,_]:=(I.ay a _ h1);let#[as,ra]:=lJ I sub h2 rk pr;show#[a::[]++as,.dict e1 e2.1 e3 (mJ pr rk h2) ra]
 |tup l=>show gu I sub h r
 |non=>show gu I sub h r
 |bl b=>show gu I sub h r
 |int i=>show gu I sub h r
 |str x=>show gu I sub h r
def dI (d:D):Bool:=(toPy d).canLay0&&decide ((toPy d).depth<=60)
def eqv (x y:D):Bool:=PyData.eqv (toPy x)<|toPy y
theorem jZ (h:dI d=ag):(toPy d).canLay0=ag /\ (toPy d).depth<=60:=by
 unfold dI at h
 rwa [aH,decide_eq_true_eq]at h
def VJ (neg:Bool):R2:=λx y H Q=>∃ F dx dy,Sub F H /\ nL F H dx x /\ nL F H dy y /\ dI dx=ag /\ dI dy=ag /\ Q (.bl (if neg then !eqv dx dy else eqv dx dy)) H

theorem Rt (hu:X.A.units+100<cLine):bT X (compareOp .Eq) (VJ af):=by
 intro pins s σ H x y v u Q I rx ry h;let#[F,dx,dy,sub,hx,hy,ox,oy,q]:=h;let#[as,ra]:=gQ I sub hx rx;let#[bs,rb]:=gQ I sub hy ry;let#[x1,x2]:=jZ ox;let#[y1,y2]:=jZ oy;show SeqAt.compareEq_reads ra rb x1 y1 (by lia) #[.bl _,H,I,rfl,q]
theorem Ru (hu:X.A.units+100<cLine):bT X (compareOp .NotEq) (VJ ag):=by
 intro pins s σ H x y v u Q I rx ry h;let#[F,dx,dy,sub,hx,hy,ox,oy,q]:=h;let#[as,ra]:=gQ I sub hx rx;let#[bs,rb]:=gQ I sub hy ry;let#[x1,x2]:=jZ ox;let#[y1,y2]:=jZ oy;show SeqAt.compareNe_reads ra rb x1 y1 (by lia) #[.bl _,H,I,rfl,q]

theorem Rv (hu:X.A.units+100<cLine):bT X (compareOp .Eq) aat:=by
 intro pins s σ H x y v u Q I rx ry h;let#[F,d,t,sub,hx,ns,rfl,q]:=h;let#[as,ra]:=gQ I sub hx rx;let#[tk,rfl]:=ry;have fin:SeqAt.RcAt X.A s v (.str t tk) af:=by
  have hz:X.A.units<cLine:=by lia
  cases d<;>simp[toPy]at ra
  .cases ra;show acd t tk
  .cases ra;show ace _ t tk
  .cases ra;show acf _ _ t tk
  .cases ns
  .cases ra with|tuple k1 k2 k3 k4=>show acg t tk ⟨_,k1,k2,_,k3⟩ hz
  .cases ra with|list k1 k2 k3 k4=>show ach t tk ⟨_,k1,k2,_,k3⟩ hz
  .cases ra with
   |@dict a o es n ao as bs k1 k2 k3 k4 k5=>
     let#[cls,dd,data,sl]:=o;cases k2;cases k3;show SeqAt.aey t tk k1 hz
 show fin _ _ _ _ #[.bl af,H,I,rfl,q]
def Kn (x y:D):Option Res:=match y with
 |.str _=>if EE x then ah else ae (.old<|.bl af)
 |_=>ah
theorem aez:nz aat Kn:=by
 intro F H x y v w Q s sub rx ry e k;unfold Kn at e;split at e
 .ext t;split at e
  .cases e
  .ext n;cases e;show#[F,x,t,sub,rx,by simpa using n,ry,k _ _ #[rfl,rfl]]
 .cases e
def tP (neg:Bool) (x y:D):Option Res:=if dI x&&dI y then ae (.old<|.bl (if neg then !eqv x y else eqv x y)) else ah
theorem aau (neg):nz (VJ neg) (tP neg):=by
 intro F H x y v w Q s sub rx ry e k;unfold tP at e;split at e
 .ext c;rw[aH]at c;cases e;show#[F,x,y,sub,rx,ry,c.1,c.2,k _ _ #[rfl,rfl]]
 .cases e
def aZ:D->D->Option Res
 |.int i,.int j=>ae<|.old<|.bl<|decide (i=j)
 |.str i,.str j=>ae<|.old<|.bl<|decide (i=j)
 |.tup l,.tup []=>ae<|.old<|.bl l.isEmpty
 | .lst a,.lst b=>(match intsOf a,intsOf b with
   |some ns,ae ms=>ae<|.old<|.bl<|decide (ns=ms)
   |_,_=>tP af (.lst a)<|.lst b)
 | x,y=>match Kn x y with
   |some r=>ae r
   |none=>tP af x y
def cQ:D->D->Option Res
 |.int i,.int j=>ae<|.old<|.bl<|!decide (i=j)
 |.str i,.str j=>ae<|.old<|.bl<|!decide (i=j)
 |.lst l,.lst []=>ae<|.old<|.bl<|!l.isEmpty
 |x,y=>tP ag x y
theorem Rw (h:aZ x y=ae s):(VD x y=ae s \/ tP af x y=ae s) \/ Kn x y=ae s:=by
 unfold aZ at h;split at h
 .show .inl<|.inl h
 .show .inl<|.inl h
 .show .inl<|.inl h
 .ext a b;split at h
  .ext ns ms e1 e2;left;left;change ((intsOf a).bind λns=>(intsOf b).map λms=>Res.old _)=_;rw[e1,e2];show h
  .show .inl<|.inr h
 .split at h
  .ext e;show .inr<|e.trans h
  .show .inl<|.inr h
theorem Rx (h:cQ x y=ae s):VE x y=ae s \/ tP ag x y=ae s:=by
 unfold cQ at h;split at h
 .show .inl h
 .show .inl h
 .show .inl h
 .show .inr h

end L2.DL
namespace HT
section
open PySem.SeqAt
open PySem.AutoSeq1 (wpAny_loadPart')
open PySem.MeetsSeq PySem.MeetsSeq2 PySem.MeetsSeq3
end
section

open PySem.AutoSeq1 (wpAny_loadPart')
end
end HT
namespace L2.DL

noncomputable def pV:D->D->Option Res:=λx y=>match x,y with|.int i,.int j=>if xm i j then ae (.old<|.int<|i*j) else ah|_,_=>ah
theorem aG.rep (h:aG F l vs):∀ k,aG F (List.replicate k l).flatten (List.replicate k vs).flatten
 |0=>rfl
 |k+1=>h.append<|h.rep k
theorem Ry (hu:X.A.units<cLine):bT X (compareOp .LtE) (vz λi j=>.bl<|decide (i<=j)):=(II λ_ _ _ _ _ _ _ q=>le_int q)
noncomputable def qt:D->D->Option Res:=λx y=>match x,y with|.int i,.int j=>ae (.old<|.bl<|decide (i<=j))|_,_=>ah
def EF (mo mi:DE W):DG:=λw env bx=>match mo env bx with
 | .val (.b n) bx1=>(match mi env bx1 with
   | .val (.d<|.int k) aq=>(match w,aq[n]? with
     |.d d,ae (.lst l)=>(cT l.length k).map λj=>(env,aq.set n<|.lst<|l.set j d)
     |_,_=>ah)
   |_=>ah)
 |_=>ah
theorem Nn (ho:PD X T Z o mo) (hi:PD X T Z i mi)
 (ha:∀ v,assign (.Subscript o i pos) X.env v=(do
  let ov <-holding [v] (eval o X.env)
  let iv <-holding [v,ov] (eval i X.env)
  standAt pos
  holding [v,ov,iv] (setItem ov iv v)
  release [v,ov,iv] []):=by intro _;rfl):qT X T (.Subscript o i pos) (EF mo mi):=by
 refine PG.imp (P0 ho hi JD ha) λv σ H Q=>Ep λF r env bx w R dw h=>?_;unfold EF at h;refine#[F,r,env,bx,R,?_];cases eo:mo env bx with
 |bad=>simp[eo]at h;show h.elim
 |exc c bx1=>simp[eo]at h;show h.elim
 |val ow bx1=>
   simp[eo]at h;intro F1 r1 ov H1 g1 R1 d1;cases ow with
   |b n=>
     refine#[F1,r1,env,bx1,R1,?_];cases ei:mi env bx1 with
     |bad=>simp[ei]at h;show h.elim
     |exc c aq=>simp[ei]at h;show h.elim
     |val iw aq=>
       simp[ei]at h;intro F2 r2 iv H2 g2 R2 d2;cases iw with
       |d id=>
         cases id with
         |int k=>
           simp at h;let#[a,rfl,ha]:=g2.den d1;let#[c2,pN,vL]:=R2.kE ha;rw[pN]at h;cases w with
           |d dd=>
             cases c2 with
             |lst l=>
               simp at h;cases ej:cT l.length k with
               |none=>rw[ej]at h;show h.elim
               |some j=>
                 rw[ej]at h;let#[hF,vs,k1,k2]:=vL;show#[a,vs,k,j,rfl,d2,k1,by rw[<-k2.length];show ej,(h F2 r2 σ _ (g1.trans g2)<|R2.write ha hF #[hF,_,fu,aG.set (Den.mono (g1.trans g2).s dd dw) j k2])]
             |_=>show h.elim
           |_=>show h.elim
         |_=>show h.elim
       |_=>show h.elim
   |_=>show h.elim
noncomputable def tQ (i:Nat):DE W:=λenv bx=>match env[i]? with
 | some (ae<|.b n)=>(match bx[n]? with
   |some (.lst l)=>.val (.d<|.lst l)<|bx.set n .dead
   |some (.az l)=>.val (.d<|.az l)<|bx.set n .dead
   |_=>.bad)
 |_=>.bad
theorem Rz (i) (hN:X.N[i]?=ae x:=by rfl) (hv:qB X.env.scope x:=by first|show Or.inl za|show Or.inr _|show Or.inr _) (hd:(x==("__debug__"))=af:=by decide)
 (dj:(x==("__classdict__"))=af:=by decide):PD X T Z (.Name x pos) (tQ i):=by
 refine PE.imp (mD hN hv hd dj) λσ H Q=>bg λF r env bx R h=>?_;unfold tQ at h;split at h
 .ext n e;let#[v,e1,a,rfl,ha]:=R.slot i _ e;let#[c,hc,kc]:=R.kE ha;rw[hc]at h;cases c with
  |lst l=>
    let#[hF,vs,k1,k2]:=kc;let#[R',g]:=R.freeze ha hF k1;show#[_,e1,h _ r _ H g R' #[a,vs,rfl,fu,aG.mono g.s l k2]]
  |az l=>
    let#[hF,vs,k1,k2]:=kc;let#[R',g]:=R.freeze ha hF k1;show#[_,e1,h _ r _ H g R' #[a,vs,rfl,fu,aL.mono g.s l k2]]
  |_=>show h.elim
 .show h.elim
def uF (m:DE W):DE W:=λenv bx=>fC (m env bx) λw bx1=>match w with|.s l=>.val (.d<|.int l.length) bx1|_=>.bad
def EG (m k:DE W):DE W:=λenv bx=>fC (m env bx) λw bx1=>fC (k env bx1) λu aq=>match w,u with
 |.s l,.d (.int i)=>(match bU l i with|some n=>.val (.d<|.int n) aq|none=>.bad)
 |_,_=>.bad
theorem RC (ha:PD X T Z a ma) (hb:PD X T Z b mb) (hs:Vi b):PD X T Z (.Subscript a b pos) (EG ma mb):=by
 refine PE.imp (JC Bt ha hb hs) λσ H Q=>bg λF r env bx R h=>?_;refine#[F,r,env,bx,R,End.bind h λw bx1 F1 r1 v H1 g1 R1 d1 h1=>?_];refine#[F1,r1,env,bx1,R1,End.bind h1 λu aq F2 r2 y H2 g2 R2 d2 h2=>?_];cases w with
 |s l=>
   cases u with
   |d d=>
     cases d with
     |int i=>
       let#[q,o,rfl,k]:=d1;simp at h2;cases e:bU l i with
       |none=>rw[e]at h2;show h2.elim
       |some n=>
         rw[e]at h2;refine#[q,l.map V.int,i,.int n,rfl,d2,.inl<|.inr #[o,R2.fh _ _<|g2.s _ _ k],?_,h2 F2 r2 _ H2 (.refl F2 r2) R2 za];unfold bU at e ⊢;rw[aV];cases ej:cT l.length i with
         |none=>rw[ej]at e;cases e
         |some j=>rw[ej]at e;erw[bI]at e ⊢;rw[nV,e];rfl
     |_=>show h2.elim
   |_=>show h2.elim
 |_=>show h2.elim
def dY (bo:Bool) (l:List<|Key×D):DE W:=λ_ bx=>bZ bo (ae<|.az l) bx
theorem No (bo):PD X T Z (.Dict [ae<|.Constant (.int k) j1 q1] [.Constant (.int v) j2 q2] pos) (dY bo [(.inl k,.int v)]):=by
 refine PE.imp (BD (jW jo jo BC) za za (by simp) (by simp)) λσ H Q=>bg λF r env bx R h=>?_;intro p hp;refine#[fu,[(.inl k,.int v)],rfl,by simp,?_];rw[Bn];show gP R h #[p,[(.inl k,.int v)],rfl,hp,rfl,#[_,_,rfl,rfl,rfl]]
end L2.DL
namespace HT

theorem Dv (hit:s.heap.IsTupleIter it t i) (ht:s.heap.IsTuple t items) (hx:items[i]?=ae x)
 (hQ:∀ h',h'.IsTupleIter it t (i+1)->Heap.SameBut it s.heap h'->Q x { s with heap:=h' }):wpAny (model prog w) A (Builtin.SmallTypes.nextOf<|.ref it) Q E s:=by
 let#[ob,qW,Ef,qV]:=id hit;let#[ot,EH,_,nt,Ei]:=ht;refine ak<|u9 hit.typeIs Ir<|qc Ir hit.typeIs YT (show wpAny _ _ (field _ 0 >>= _) _ _ s from ak (kJ qW qV za ?_))<|YU _
 change wpAny _ _ _ _ _ s;refine ak<|kJ qW qV za<|ak<|rH EH Ei ?_
 simp[vq,hx];refine ak<|HP qW qV (by simp)<|ax #[x,rfl,ax<|hQ _ #[_,Ie _ qW<|Y2<|Iu qV _,(Y3 ..).trans Ef,?_]<|Heap.SameBut.update ..];rw[Iu qV];simp[rawInt]
theorem GL (hh:A.handled=ah) (hit:s.heap.IsTupleIter it t i) (ht:s.heap.IsTuple t items) (hx:items[i]?=ah)
 (hE:∀ h' e,Heap.ExtBut it s.heap h'->(∃ o,h'.get? e=ae o /\ o.cls=.type "StopIteration")->E (.ref e) { s with heap:=h' }):wpAny (model prog w) A (Builtin.SmallTypes.nextOf<|.ref it) Q E s:=by
 let#[ob,qW,Ef,qV]:=id hit;let#[ot,EH,_,nt,Ei]:=ht;refine ak<|u9 hit.typeIs Ir<|qc Ir hit.typeIs YT (show wpAny _ _ (field _ 0 >>= _) _ _ s from ak (kJ qW qV za ?_))<|YU _;refine ak<|kJ qW qV za<|ak<|rH EH Ei ?_;simp[vq,hx];refine ak<|sR<|ak<|HP qW qV (by simp)<|ak ?_;refine ak<|qy (ak<|uf (by first|rfl|(rfl))<|qy ?_ (by size_fits)) (by size_fits);refine ak<|Xo ?_;first|rw[hh]|rw[hh]
 show ak<|ax<|Xp<|hE _ _ (((Heap.SameBut.update ..).extBut.push _).push _) #[_,bD _ za,rfl]
theorem GM (hh:A.handled=ah) (it l) (pW:l≠it) (items) :
 Draws prog w A it [it,l] items.size (λi v=>items[i]?=ae v) (λi h=>h.IsTupleIter it l i /\ h.IsTuple l items) where
 live:=λ_ _ st=>let ⟨o,ho,_⟩:=st.1;#[o,ho]
 frame:=λ_ _ _ st hk=>#[st.1.at λo e=>hk it (by simp) o e,st.2.at λo e=>hk l (by simp) o e]
 item:=λi s Q E hi st hQ=>Dv st.1 st.2 (x:=items[i]) (by simp) λh' a b=>hQ _ h' s.toks (by simp) #[a,st.2.at λo e=>b.extBut _ _ pW e] b
 done:=λs Q E st hE=>GL hh st.1 st.2 (by simp) hE
structure EI (z TI TO i1 i2:ai) (qY qZ:List ai):zb where
 a:TI≠z /\ TO≠z /\ i1≠z /\ i2≠z /\ TI≠TO /\ TI≠i1 /\ TI≠i2 /\ TO≠i1 /\ TO≠i2 /\ i1≠i2
 f1:z∉qY /\ TO∉qY /\ i2∉qY
 f2:z∉qZ /\ TO∉qZ /\ i1∉qZ

theorem Draws.same (D:Draws prog w A it fp n P S) (x:Heap.SameBut c h h') (hc:c∉fp) (st:S k h):S k h' :=
 D.frame k h h' st λb hb o e=>x.extBut _ _ (λq=>hc<|q▸hb) e
abbrev tR (h:aK) (z TI TO:ai) (f0 f1:au):zb:=h.get? z=ae { cls:=.type "zip",dict:=ah,data:=.fields (List.toArray [f0,f1,.bool af,.ref TI,.ref TO]),slots:=#[] }
def sD (h:aK) (z TI TO:ai):zb:=∃ f0 f1,(f0=.none \/ ∃ a,f0=rawInt a) /\ tR h z TI TO f0 f1
theorem aeA (h:Q (s.heap.get? a) s):wpAny (model prog w) A (loadIfAlive a) Q E s:=λΓ p _=>by simpa[loadIfAlive] using h
theorem Af (hf:f0=.none \/ ∃ a,f0=rawInt a) (hz:tR s.heap z TI TO f0 f1) (h:∀ r h' aeB,tR h' z TI TO f0 aeB->Heap.SameBut z s.heap h'->Q r { s with heap:=h' }) :
 wpAny (model prog w) A (Builtin.SmallTypes.ownedTupleIsFree<|.ref z) Q E s:=by
 have hs:Heap.SameBut z s.heap s.heap:=#[rfl,λ_ _=>rfl];rcases hf with rfl|⟨a,rfl⟩
 .show ak<|kJ hz za za<|ax<|h _ _ f1 hz hs
 .refine ak<|kJ hz za za<|ak<|aeA ?_;cases s.heap.get? a.toNat with
  |none=>show ax<|h _ _ f1 hz hs
  |some o=>
    refine ak<|kJ hz za (x:=f1) za ?_;by_cases q:(f1 != Value.bool ag)=ag
    .rw[if_pos q];show ak<|ug hz (by simp) λg1 vQ e1=>ax<|h _ g1 _ vQ e1
    .rw[if_neg q];show ak<|ax<|ax<|h _ _ f1 hz hs
theorem J7 (D1:Draws prog w A i1 qY n1 P1 S1) (D2:Draws prog w A i2 qZ n2 P2 S2) (R:EI z TI TO i1 i2 qY qZ) {Q:au->aI->zb}(k1:k<n1) (k2:k<n2)
 (hz:sD s.heap z TI TO) (vR:IsPair s.heap TI (.ref i1)<|.ref i2) (uG:IsPair s.heap TO a b) (s1:S1 k s.heap) (s2:S2 k s.heap)
 (hQ:∀ x y h' tk,P1 k x->P2 k y->sD h' z TI TO->(∃ u v,IsPair h' TO u v)->S1 (k+1) h'->S2 (k+1) h'->IsPair h' s.heap.objs.size x y ->
  (∀ c o,c≠z->c≠TO->c≠i1->c≠i2->s.heap.get? c=ae o->h'.get? c=ae o)->Q (.ref s.heap.objs.size) { s with heap:=h',toks:=tk }) :
 wpAny (model prog w) A (Builtin.«zip.__next__» #[[.ref z],[]]) (λfin s'=>∃ v,fin=.done (.ret v) /\ Q v s') E s:=by
 let#[#[r1,r2,r3,r4,r5,r6,r7,r8,r9,VL],#[f1,f2,f3],#[f4,f5,f6]]:=R;let#[o0,o1,ho,hz]:=hz
 change wpAny _ _ (field _ 2 >>= _) _ _ _;refine ak<|kJ hz za (x:=.bool af) za ?_
 change wpAny _ _ _ _ _ _;refine ak<|kJ hz za za<|ak<|rH vR za ?_
 change wpAny _ _ _ _ _ _
 refine ak<|Af ho hz λr g0 o2 xI e0=>?_;cases r with
 |true=>
   simp only;refine ak<|sR<|ak<|kJ xI za za<|ak<|ug xI (by simp) λg1 vQ nK=>?_;have e1:Heap.SameBut z s.heap g1:=#[nK.1.trans e0.1,λc hc=>(nK.2 c hc).trans<|e0.2 c hc];refine ak ?_;erw[QJ,X4,wK,yI];refine ak<|ak<|yD (show wpAny _ _ (Builtin.SmallTypes.nextOf (.ref i1) >>= _) _ _ _ from ak (D1.item k _ _ _ k1 (Draws.same D1 e1 f1 s1) λx g2 t2 px EJ e2=>ax ?_));have EK:IsPair g2 TO a b:=e2.extBut _ _ r8<|e1.extBut _ _ r2 uG;refine ak<|rH EK za<|ak<|Qt EK λg3 aav e3=>ak<|Qu<|ax ?_;refine ak<|ak<|yD (show wpAny _ _ (Builtin.SmallTypes.nextOf (.ref i2) >>= _) _ _ _ from ak (D2.item k _ _ _ k2 (Draws.same D2 e3 f5<|Draws.same D2 e2 f6<|Draws.same D2 e1 f4 s2) λy g4 t4 py VM e4=>ax ?_));have aaw:IsPair g4 TO x b:=e4.extBut _ _ r9 aav;refine ak<|rH aaw za<|ak<|Qt aaw λg5 aeC e5=>ak<|Qu<|ax<|ax ?_;have aax:IsPair g5 TO x y:=aeC;refine ak<|rH aax za<|ak<|Qv ?_;have hsz:g5.objs.size=s.heap.objs.size:=by rw[e5.1,e4.1,e3.1,e2.1,e1.1]
   have aay:tR g5 z TI TO .ellipsis o2:=e5.extBut _ _ r2.symm<|e4.extBut _ _ r4.symm<|e3.extBut _ _ r2.symm<|e2.extBut _ _ r3.symm vQ;have EL:z<g5.objs.size:=bb aay
   change wpAny _ _ (Builtin.SmallTypes.ownedTupleHandOut (.ref z) (.ref g5.objs.size) >>= _) _ _ _;refine ak ?_
   unfold Builtin.SmallTypes.ownedTupleHandOut;refine ak<|ug (aR _ aay) (by simp) λg7 aeD e7=>ug (show tR g7 z TI TO (rawInt g5.objs.size) o2 from aeD) (by simp) λg8 aeE e8=>?_;have up:∀ c o,c≠z->g5.get? c=ae o->g8.get? c=ae o:=λc o c1 q=>e8.extBut _ _ c1<|e7.extBut _ _ c1<|aR _ q;have aaz:IsPair g8 g5.objs.size x y:=e8.extBut _ _ (yF EL)<|e7.extBut _ _ (yF EL)<|bD _ za;refine ax #[_,rfl,(show Q (.ref g5.objs.size) _ from ?_)];rw[hsz]at aaz ⊢;show hQ x y g8 _ px py #[_,_,.inr #[_,rfl],show tR g8 z TI TO (rawInt g5.objs.size) (.bool af) from aeE] #[_,_,up _ _ r2 aax] (D1.frame _ _ _ (Draws.same D1 e5 f2<|Draws.same D1 e4 f3<|Draws.same D1 e3 f2 EJ) λc hc o q=>up c o (λw=>f1<|w▸hc) q) (D2.frame _ _ _ (Draws.same D2 e5 f5 VM) λc hc o q=>up c o (λw=>f4<|w▸hc) q) aaz λc o c1 c2 c3 c4 q=>up c o c1<|(λc o c1 c2 c3 c4 q=>e5.extBut _ _ c2<|e4.extBut _ _ c4<|e3.extBut _ _ c2<|e2.extBut _ _ c3<|e1.extBut _ _ c1 q) c o c1 c2 c3 c4 q
 |false=>
   erw[wJ,if_false];rw[show ((List.toArray [Value.ref i1,Value.ref i2]):Array au)=[Value.ref i1,Value.ref i2].toArray from rfl];erw[X5,wK,yI];refine ak<|ak<|ak<|eV (show wpAny _ _ (Builtin.SmallTypes.nextOf (.ref i1) >>= _) _ _ _ from ak (D1.item k _ _ _ k1 (Draws.same D1 e0 f1 s1) λx g2 t2 px EJ e2=>ax ?_));refine ax<|ak<|ak<|eV (show wpAny _ _ (Builtin.SmallTypes.nextOf (.ref i2) >>= _) _ _ _ from ak (D2.item k _ _ _ k2 (Draws.same D2 e2 f6<|Draws.same D2 e0 f4 s2) λy g4 t4 py VM e4=>ax ?_));refine ax<|ax<|ak<|Qv (ax #[_,rfl,?_]) (show 2<=sizeLine by decide);have hsz:g4.objs.size=s.heap.objs.size:=by rw[e4.1,e2.1,e0.1]
   have up:∀ c o,g4.get? c=ae o->(g4.push { cls:=.type "tuple",data:=.seq (List.toArray [x,y]) }).get? c=ae o:=λc o q=>aR _ q;have hT:IsPair (g4.push { cls:=.type "tuple",data:=.seq (List.toArray [x,y]) }) g4.objs.size x y:=bD _ za;change Q (.ref g4.objs.size) _;rw[hsz]at hT ⊢;show hQ x y _ _ px py #[o0,o2,ho,up _ _<|e4.extBut _ _ r4.symm<|e2.extBut _ _ r3.symm xI] #[a,b,up _ _<|e4.extBut _ _ r9<|e2.extBut _ _ r8<|e0.extBut _ _ r2 uG] (D1.frame _ _ _ (Draws.same D1 e4 f3 EJ) λc hc o q=>up c o q) (D2.frame _ _ _ VM λc hc o q=>up c o q) hT
    λc o c1 c2 c3 c4 q=>up c o<|e4.extBut _ _ c4<|e2.extBut _ _ c3<|e0.extBut _ _ c1 q
theorem J8 (D1:Draws prog w A i1 qY n1 P1 S1) (D2:Draws prog w A i2 qZ n2 P2 S2) (R:EI z TI TO i1 i2 qY qZ) (hk:k=n1 \/ (k<n1 /\ k=n2))
 (hz:sD s.heap z TI TO) (vR:IsPair s.heap TI (.ref i1)<|.ref i2) (uG:IsPair s.heap TO a b) (s1:S1 k s.heap) (s2:S2 k s.heap)
 (hE:∀ h' e tk,(∀ c o,c≠z->c≠TO->c≠i1->c≠i2->s.heap.get? c=ae o->h'.get? c=ae o)->(∃ o,h'.get? e=ae o /\ o.cls=.type "StopIteration")->E (.ref e) { s with heap:=h',toks:=tk }) :
 wpAny (model prog w) A (Builtin.«zip.__next__» #[[.ref z],[]]) Q E s:=by
 let#[#[r1,r2,r3,r4,r5,r6,r7,r8,r9,VL],#[f1,f2,f3],#[f4,f5,f6]]:=R;let#[o0,o1,ho,hz]:=hz
 change wpAny _ _ (field _ 2 >>= _) _ _ _;refine ak<|kJ hz za (x:=.bool af) za ?_
 change wpAny _ _ _ _ _ _;refine ak<|kJ hz za za<|ak<|rH vR za ?_
 change wpAny _ _ _ _ _ _
 refine ak<|Af ho hz λr g0 o2 xI e0=>?_;cases r with
 |true=>
   simp only;refine ak<|sR<|ak<|kJ xI za za<|ak<|ug xI (by simp) λg1 vQ nK=>?_;have e1:Heap.SameBut z s.heap g1:=#[nK.1.trans e0.1,λc hc=>(nK.2 c hc).trans<|e0.2 c hc];have aaA:tR g1 z TI TO .ellipsis o2:=vQ;refine ak ?_;erw[QJ,X4,wK,yI];rcases hk with hk|⟨VN,uH⟩
   .refine ak<|ak<|yD (show wpAny _ _ _ _ _ _ from ak (D1.done _ _ _ (hk▸Draws.same D1 e1 f1 s1) λg2 ex e2 hx=>?_));let#[oe,vT,EM]:=hx;have Ko:tR g2 z TI TO .ellipsis o2:=e2 _ _ r3.symm aaA;show ug Ko (by simp) λg3 _ e3=>hE g3 ex _ (λc o c1 _ c3 _ q=>e3.extBut _ _ c1<|e2 _ _ c3<|e1.extBut _ _ c1 q) #[oe,e3.extBut _ _ (λq=>by subst q;rw[Ko]at vT;cases vT;simp at EM) vT,EM]
   .refine ak<|ak<|yD (show wpAny _ _ (Builtin.SmallTypes.nextOf (.ref i1) >>= _) _ _ _ from ak (D1.item k _ _ _ VN (Draws.same D1 e1 f1 s1) λx g2 t2 px EJ e2=>ax ?_));have EK:IsPair g2 TO a b:=e2.extBut _ _ r8<|e1.extBut _ _ r2 uG;refine ak<|rH EK za<|ak<|Qt EK λg3 aav e3=>ak<|Qu<|ax ?_;refine ak<|ak<|yD (show wpAny _ _ (Builtin.SmallTypes.nextOf (.ref i2) >>= _) _ _ _ from ak (D2.done _ _ _ (uH▸Draws.same D2 e3 f5 (Draws.same D2 e2 f6<|Draws.same D2 e1 f4 s2)) λg4 ex e4 hx=>?_));let#[oe,vT,EM]:=hx;have aaB:tR g4 z TI TO .ellipsis o2:=e4 _ _ r4.symm<|e3.extBut _ _ r2.symm<|e2.extBut _ _ r3.symm aaA;show ug aaB (by simp) λg5 _ e5=>hE g5 ex _ (λc o c1 c2 c3 c4 q=>e5.extBut _ _ c1<|e4 _ _ c4<|e3.extBut _ _ c2<|e2.extBut _ _ c3<|e1.extBut _ _ c1 q) #[oe,e5.extBut _ _ (λq=>by subst q;rw[aaB]at vT;cases vT;simp at EM) vT,EM]
 |false=>
   erw[wJ,if_false];rw[show ((List.toArray [Value.ref i1,Value.ref i2]):Array au)=[Value.ref i1,Value.ref i2].toArray from rfl];erw[X5,wK,yI];rcases hk with hk|⟨VN,uH⟩
   .show ak<|ak<|ak<|eV (show wpAny _ _ (Builtin.SmallTypes.nextOf (.ref i1) >>= _) _ _ _ from ak (D1.done _ _ _ (hk▸Draws.same D1 e0 f1 s1) λg2 ex e2 hx=>(hE g2 ex _ (λc o c1 _ c3 _ q=>e2 _ _ c3<|e0.extBut _ _ c1 q) hx)))
   .show ak<|ak<|ak<|eV (show wpAny _ _ (Builtin.SmallTypes.nextOf (.ref i1) >>= _) _ _ _ from ak (D1.item k _ _ _ VN (Draws.same D1 e0 f1 s1) λx g2 t2 px EJ e2=>ax<|ax<|ak<|ak<|eV (show wpAny _ _ (Builtin.SmallTypes.nextOf (.ref i2) >>= _) _ _ _ from ak (D2.done _ _ _ (uH▸Draws.same D2 e2 f6 (Draws.same D2 e0 f4 s2)) λg4 ex e4 hx=>(hE g4 ex _ (λc o c1 _ c3 c4 q=>e4 _ _ c4<|e2.extBut _ _ c3<|e0.extBut _ _ c1 q) hx)))))
theorem J9 (hz:sD s.heap z TI TO) (h:Q (.ref z) s):wpAny (model prog w) A (pyIter<|.ref z) Q E s:=by
 have ty:s.TypeIs (.ref z) "zip":=let ⟨_,_,_,hz⟩:=hz;#[_,hz,rfl]
 show Xq ty YV<|qc YV ty F.entry_zip_iter (ax #[_,rfl, "zip",_,ty,yP.lookup,h])<|F.args_zip_iter_1 _
theorem AM (D1:Draws prog w A.in1 i1 qY n1 P1 S1) (D2:Draws prog w A.in1 i2 qZ n2 P2 S2) (R:EI z TI TO i1 i2 qY qZ) (k1:k<n1) (k2:k<n2)
 (hz:sD s.heap z TI TO) (vR:IsPair s.heap TI (.ref i1)<|.ref i2) (uG:IsPair s.heap TO a b) (s1:S1 k s.heap) (s2:S2 k s.heap)
 (hQ:∀ x y h' tk,P1 k x->P2 k y->sD h' z TI TO->(∃ u v,IsPair h' TO u v)->S1 (k+1) h'->S2 (k+1) h'->IsPair h' s.heap.objs.size x y ->
  (∀ c o,c≠z->c≠TO->c≠i1->c≠i2->s.heap.get? c=ae o->h'.get? c=ae o)->Q (ae<|.ref s.heap.objs.size) { s with heap:=h',toks:=tk }):wpAny (model prog w) A (pyNext<|.ref z) Q E s:=by
 have hT:s.TypeIs (.ref z) "zip":=let ⟨_,_,_,hz⟩:=hz;#[_,hz,rfl]
 show ak<|yB<|u9 hT yP<|qc yP hT YW (J7 D1 D2 R k1 k2 hz vR uG s1 s2 λx y h' tk b1 b2 b3 b4 b5 b6 b7 b8=>ax<|hQ x y h' tk b1 b2 b3 b4 b5 b6 b7 b8)<|YX _
theorem RD (hz:sD s.heap z TI TO) (h:∀ h',sD h' z TI TO->Heap.SameBut z s.heap h'->Q () { s with heap:=h' }):wpAny (model prog w) A (letOwnedTupleGo tg (.ref z)<|.ref p) Q E s:=by
 have same:=h _ hz #[rfl,λ_ _=>rfl];let#[f0,f1,hf,hz]:=id hz
 have tup:wpAny (model prog w) A (do
  let o <-load z
  match o.cls,o.data with
  |.type n,.fields vs=>
    if ["enumerate","zip","dict_itemiterator","dict_reverseitemiterator","odict_iterator","itertools.zip_longest","itertools.pairwise"].contains n&&vs[0]?==ae (rawInt p) then
     rule "for.unpacks-the-owned-tuple"
     updateField z 0 .none
  |_,_=>pure ()) Q E s:=by
  refine ak<|HK hz ?_;dsimp only;split
  .refine ak<|sR<|ug hz (by simp) λg1 vQ e1=>h g1 #[.none,f1,.inl za,vQ] e1
  .show ax same
 cases tg with
 |Tuple es n q=>show tup
 |List es q=>show tup
 |_=>show ax same
theorem AN (D1:Draws prog w A.in1 i1 qY n1 P1 S1) (D2:Draws prog w A.in1 i2 qZ n2 P2 S2) (R:EI z TI TO i1 i2 qY qZ) (hk:k=n1 \/ (k<n1 /\ k=n2))
 (hz:sD s.heap z TI TO) (vR:IsPair s.heap TI (.ref i1)<|.ref i2) (uG:IsPair s.heap TO a b) (s1:S1 k s.heap) (s2:S2 k s.heap)
 (hQ:∀ h' tk,(∀ c o,c≠z->c≠TO->c≠i1->c≠i2->s.heap.get? c=ae o->h'.get? c=ae o)->Q ah { s with heap:=h',toks:=tk }):wpAny (model prog w) A (pyNext<|.ref z) Q E s:=by
 have hT:s.TypeIs (.ref z) "zip":=let ⟨_,_,_,hz⟩:=hz;#[_,hz,rfl]
 refine ak<|yB<|u9 hT yP<|qc yP hT YW (J8 D1 D2 R hk hz vR uG s1 s2 λh' e tk q1 q2=>?_)<|YX _;let#[o,ho,hc]:=q2;show ak<|Xr #[o,ho,hc] Xt<|ax<|hQ h' tk q1
noncomputable def EN (h:aK) (l1:ai):aK:=h.push { cls:=.type "tuple_iterator",data:=.fields (List.toArray [.ref l1,.int 0 0]) }
def xK (h:aK) (l1 l2:ai):aK:=(EN h l1).push { cls:=.type "tuple_iterator",data:=.fields (List.toArray [.ref l2,.int 0 0]) }
def xM (h:aK) (l1 l2:ai):aK:=(xK h l1 l2).push { cls:=.type "tuple",data:=.seq (List.toArray [.ref h.objs.size,.ref (EN h l1).objs.size]) }
def EO (h:aK) (l1 l2:ai):aK:=(xM h l1 l2).push { cls:=.type "tuple",data:=.seq (List.toArray [.none,.none]) }
def ER (h:aK) (l1 l2:ai):aK:=(EO h l1 l2).push { cls:=.type "zip",data:=.fields (List.toArray [.none,.bool af,.bool af,.ref (xK h l1 l2).objs.size,.ref (xM h l1 l2).objs.size]) }
theorem Dw (l1 l2) (xs ys) :
 Meets (Builtin.«zip.__new__» #[[.type "zip",.ref l1,.ref l2],[]]) (λ_ R s=>s.heap.IsTuple l1 xs /\ s.heap.IsTuple l2 ys /\ R (.ok<|.ret<|.ref (EO s.heap l1 l2).objs.size) { s with heap:=ER s.heap l1 l2 }):=
 .of_wp λprog w A R s h=>by
  let#[hp,g,d,tk,os]:=s;let#[xO,se,h]:=h;have aho:=sub_zip
  wp_walk using Qw xO,Qw (se.at λo e=>aR _ e)
  show#[_,rfl,h]
theorem GN (xO:s.heap.IsTuple l1 xs) (se:s.heap.IsTuple l2 ys)
 (h:∀ h',IsZip h' (s.heap.objs.size+4) (s.heap.objs.size+2) (s.heap.objs.size+3) .none->IsPair h' (s.heap.objs.size+2) (.ref s.heap.objs.size) (.ref<|s.heap.objs.size+1)->IsPair h' (s.heap.objs.size+3) .none .none ->
  h'.IsTupleIter s.heap.objs.size l1 0->h'.IsTupleIter (s.heap.objs.size+1) l2 0->(∀ c o,s.heap.get? c=ae o->h'.get? c=ae o)->Q (.ref<|s.heap.objs.size+4) { s with heap:=h' }):wpAny (model prog w) A (call (.type "zip") [.ref l1,.ref l2]) Q E s:=by
 refine callType_new F.called_zip (rfl) (F.typeCall_zip_2 _ _) (F.newCall_zip_2 _ _) (λobj=>F.args_object_init_3 obj _ _) F.entry_zip_new (Dw l1 l2 xs ys) #[xO,se,?_];have z1:(EN s.heap l1).objs.size=s.heap.objs.size+1:=rQ ..;have z2:(xK s.heap l1 l2).objs.size=s.heap.objs.size+2:=by rw[xK,rQ,z1]
 have z3:(xM s.heap l1 l2).objs.size=s.heap.objs.size+3:=by rw[xM,rQ,z2]
 have z4:(EO s.heap l1 l2).objs.size=s.heap.objs.size+4:=by rw[EO,rQ,z3]
 have g5:(ER s.heap l1 l2).get? (EO s.heap l1 l2).objs.size=ae { cls:=.type "zip",data:=.fields (List.toArray [.none,.bool af,.bool af,.ref (xK s.heap l1 l2).objs.size,.ref (xM s.heap l1 l2).objs.size]) }:=bD _ za;have g4:(ER s.heap l1 l2).get? (xM s.heap l1 l2).objs.size=ae { cls:=.type "tuple",data:=.seq (List.toArray [.none,.none]) }:=aR _<|bD _ za;have g3:(ER s.heap l1 l2).get? (xK s.heap l1 l2).objs.size=ae { cls:=.type "tuple",data:=.seq (List.toArray [.ref s.heap.objs.size,.ref (EN s.heap l1).objs.size]) }:=aR _<|aR _<|bD _ za;have g2:(ER s.heap l1 l2).get? (EN s.heap l1).objs.size=ae { cls:=.type "tuple_iterator",data:=.fields (List.toArray [.ref l2,.int 0 0]) }:=aR _<|aR _<|aR _<|bD _ za
 change _ /\ _
 rw[z2,z3,z4]at g5;rw[z1,z2]at g3;rw[z3]at g4;rw[z1]at g2;rw[z4];show#[#[_,g5,rfl],h _ g5 g3 g4 #[_,(aR _<|aR _<|aR _<|aR _<|bD _ za),rfl,rfl] #[_,g2,rfl,rfl] λc o q=>aR _<|aR _<|aR _<|aR _<|aR _ q]
end HT
namespace L2

theorem Inv.aeF {ch:List ai}(I:Inv X pins σ H s) (hf:∀ b∈ch,qk X pins H b) (k:∀ b o,b∉ch->s.heap.get? b=ae o->h'.get? b=ae o) (hp:s.heap.objs.size<=p)
 (new:cj X.prog X.w (upd H p o) h' p o):Inv X pins σ (upd H p o) { s with heap:=h',toks:=t' }:=by
 have qD:∀ b u,H b=ae u->b∉ch:=λb u e z=>by rw[(hf b z).1]at e;cases e
 have hG:∀ b u,H b=ae u->upd H p o b=ae u:=λb u e=>by rw[fv<|(λb u e=>fI e<|I.ay.fresh hp) b u e];show e
 refine I.step (λb hb=>?_) (λb o _ _ hc e _=>k b o hc e) (λb o _ _ hc e _=>#[o.slots,k b o hc e]) (λb ob _ e n=>?_)
  (λb o hc e=>#[o,k b o hc e]) (λb _ e=>hG b _ e) (λb _ _ e=>hG b _ e) (λb ps e=>#[#[],by rw[hG b _ e];simp]) (λm hm=>?_) ?_ I.bare
 .let#[f0,f1,f2,f3,f4,f5]:=hf b hb;show#[f3,f1,f4,f5]
 .rw[fv λz=>eW _<|dM (bb e) (by rw[z];show hp)];show n
 .let#[ob,es,ep,ho,r]:=hm;show#[ob,es,ep,k _ ob (λz=>(hf _ z).2.1 za) ho,r]
 .intro b u e;by_cases hb:b=p
  .subst hb;rw[fu]at e;cases e;show new
  .rw[fv hb]at e;refine(I.ay b u e).hG (λc v hc q=>k c v ?_ q) (λc q=>hG c _ q) λc xs q=>hG c _ q;rcases hc with z|z
   .rw[z];show qD b u e
   .show qD c _ z
theorem Inv.aeG {ch:List ai}(I:Inv X pins σ H s) (hf:∀ b∈ch,qk X pins H b) (k:∀ b o,b∉ch->s.heap.get? b=ae o->h'.get? b=ae o):Inv X pins σ H { s with heap:=h',toks:=t' }:=by
 have qD:∀ b u,H b=ae u->b∉ch:=λb u e z=>by rw[(hf b z).1]at e;cases e
 refine I.step (λb hb=>?_) (λb o _ _ hc e _=>k b o hc e) (λb o _ _ hc e _=>#[o.slots,k b o hc e]) (λb ob _ e n=>n)
  (λb o hc e=>#[o,k b o hc e]) (λb _ e=>e) (λb _ _ e=>e) (λb ps e=>#[#[],by rw[e];simp]) (λm hm=>?_) ?_ I.bare
 .let#[f0,f1,f2,f3,f4,f5]:=hf b hb;show#[f3,f1,f4,f5]
 .let#[ob,es,ep,ho,r]:=hm;show#[ob,es,ep,k _ ob (λz=>(hf _ z).2.1 za) ho,r]
 .intro b u e;refine(I.ay b u e).hG (λc v hc q=>k c v ?_ q) (λc q=>q) λc xs q=>q;rcases hc with z|z
  .rw[z];show qD b u e
  .show qD c _ z
def kR (t:Bool) (K:PySem.W.Frag) (H:Hp) (a:ai) (xs:List V):zb:=match t with|true=>cK K H a xs|false=>bN K H a xs
def PX (t:Bool) (h:aK) (a:ai) (xs:Array au):zb:=match t with|true=>h.IsTuple a xs|false=>h.IsList a xs
def sF (t:Bool) (h:aK) (it l:ai) (i:Nat):zb:=match t with|true=>h.IsTupleIter it l i|false=>h.IsListIter it l i

theorem xQ (I:Inv X pins σ H s) (q:kR t X.K H a xs):∃ its,Vals xs its /\ PX t s.heap a its.toArray /\ a<s.heap.objs.size:=by
 cases t with
 |true=>let#[its,r,p,_]:=I.tuple q;show#[its,r,p,let ⟨_,e,_⟩:=p;bb e]
 |false=>let#[its,r,p,_]:=I.list q;show#[its,r,p.isList,let ⟨_,_,e,_⟩:=p;bb e]
theorem aaC (I:Inv X pins σ H s) (q:kR t X.K H a xs) (q':kR t X.K H a ys):xs=ys:=by
 cases t with
 |true=>show I.Zl q q'
 |false=>show I.Zk q q'
theorem sF.ob (x:sF t h it l i):∃ o fs,h.get? it=ae o /\ o.data=.fields fs:=by
 cases t with
 |_=>let#[o,e,_,d]:=x;show#[o,_,e,d]
theorem sF.at (x:sF t h it l i) (k:∀ o,h.get? it=ae o->h'.get? it=ae o):sF t h' it l i:=by
 cases t with
 |true=>show Heap.IsTupleIter.at x k
 |false=>show Heap.IsListIter.at x k
theorem Kq (hh:A.handled=ah) (it l) (pW:l≠it) (items) :
 Draws prog w A it [it,l] items.size (λi v=>items[i]?=ae v) (λi h=>sF t h it l i /\ PX t h l items):=by
 cases t with
 |true=>show HT.GM hh it l pW items
 |false=>show Draws.list hh it l pW items
theorem GO (xO:PX t s.heap l1 xs) (se:PX t s.heap l2 ys)
 (h:∀ h',IsZip h' (s.heap.objs.size+4) (s.heap.objs.size+2) (s.heap.objs.size+3) .none->IsPair h' (s.heap.objs.size+2) (.ref s.heap.objs.size) (.ref<|s.heap.objs.size+1)->IsPair h' (s.heap.objs.size+3) .none .none ->
  sF t h' s.heap.objs.size l1 0->sF t h' (s.heap.objs.size+1) l2 0->(∀ c o,s.heap.get? c=ae o->h'.get? c=ae o)->Q (.ref<|s.heap.objs.size+4) { s with heap:=h' }):wpAny (model prog w) A (call (.type "zip") [.ref l1,.ref l2]) Q E s:=by
 cases t with
 |true=>show HT.GN xO se h
 |false=>show call_zip_2 xO se λh' b1 b2 b3 b4 b5 _ b6=>h h' b1 b2 b3 b4 b5 b6
def VO (t:Bool) (K:PySem.W.Frag) (a b:ai):It:=
 #[λi H=>∃ (xs ys:List V) (x y:V),kR t K H a xs /\ kR t K H b ys /\ xs[i]?=ae x /\ ys[i]?=ae y,
  λi H w H'=>∀ (xs ys),kR t K H a xs->kR t K H b ys->∃ (p:ai) (x y:V),xs[i]?=ae x /\ ys[i]?=ae y /\ H p=ah /\ w=.ref p /\ H'=upd H p (.tup [x,y]),
  λi H=>∃ (xs ys:List V),kR t K H a xs /\ kR t K H b ys /\ (i=xs.length \/ (i<xs.length /\ i=ys.length))]
theorem A7 (k:Nat) (h:b<n):b≠n+k:=by lia
theorem A8 (h:n+4<m):m≠n /\ m≠n+1 /\ m≠n+2 /\ m≠n+3 /\ m≠n+4:=by lia
theorem Fl (ha:a<n) (hb:b<n):HT.EI (n+4) (n+2) (n+3) n (n+1) [n,a] [n+1,b] where
 a:=by refine#[?_,?_,?_,?_,?_,?_,?_,?_,?_,?_]<;>show λz=>by have z':(_:Nat)=_:=z;lia
 f1:=by
  have e1:∀ k,n+k≠a:=λk z=>eW _<|vd (rJ n k)<|z▸ha;refine#[?_,?_,?_]<;>(rw[a9,eY];rintro(z|z))
  .have z':(_:Nat)=_:=z;lia
  .show e1 4 z
  .have z':(_:Nat)=_:=z;lia
  .show e1 3 z
  .have z':(_:Nat)=_:=z;lia
  .show e1 1 z
 f2:=by
  have e1:∀ k,n+k≠b:=λk z=>eW _<|vd (rJ n k)<|z▸hb;refine#[?_,?_,?_]<;>(rw[a9,eY];rintro(z|z))
  .have z':(_:Nat)=_:=z;lia
  .show e1 4 z
  .have z':(_:Nat)=_:=z;lia
  .show e1 3 z
  .have z':(_:Nat)=_:=z;lia
  .show e1 0 z
theorem La {K}(ha:a<n) (hb:b<n) :
 Turn P w K tg (VO t K a b) [n+4,n+2,n+3,n,n+1] (n+4)
  (λi h=>HT.sD h (n+4) (n+2) (n+3) /\ IsPair h (n+2) (.ref n) (.ref<|n+1) /\ (∃ u v,IsPair h (n+3) u v) /\ sF t h n a i /\ sF t h (n+1) b i) where
 mem:=by simp
 obj:=λi h st c hc=>by
  let#[#[_,_,_,z1],z2,#[u,v,z3],z4,z5]:=st;let#[o4,_,e4,d4]:=z4.ob;let#[o5,_,e5,d5]:=z5.ob;simp[a9,pJ,or_false]at hc;rcases hc with rfl|rfl|rfl|rfl|rfl
  .show#[_,z1,λv z=>by cases z]
  .show#[_,z2,λv z=>by cases z]
  .show#[_,z3,λv z=>by cases z]
  .show#[o4,e4,λv z=>by rw[d4]at z;cases z]
  .show#[o5,e5,λv z=>by rw[d5]at z;cases z]
 keep:=λi h h' st k=>by
  let#[z1,z2,#[u,v,z3],z4,z5]:=st;let#[w0,w1,w2,z1]:=z1;show#[#[w0,w1,w2,k _ (by simp) _ z1],k _ (by simp) _ z2,#[u,v,k _ (by simp) _ z3],z4.at λo e=>k _ (by simp) o e,z5.at λo e=>k _ (by simp) o e]
 item:=by
  intro X hP hw hK hc i pins s σ H E I hf st hg;subst hP hw hK;let#[xs,ys,x,y,q1,q2,e1,e2]:=hg;let#[z1,z2,#[u,v,z3],z4,z5]:=st;let#[i1,r1,p1,l1]:=xQ I q1;let#[i2,r2,p2,l2]:=xQ I q2;have R:=Fl ha hb;refine HT.AM (Kq (t:=t) (prog:=X.prog) (w:=X.w) (A:=X.A.in1) (I.ok.hd hc) n a (bS ha) i1.toArray) (Kq (t:=t) (prog:=X.prog) (w:=X.w) (A:=X.A.in1) (I.ok.hd hc) _ b (A7 1 hb) i2.toArray) R (by rw[bY,<-r1.length];show(List.getElem?_eq_some_iff.mp e1).1) (by rw[bY,<-r2.length];show(List.getElem?_eq_some_iff.mp e2).1) z1 z2 z3 #[z4,p1] #[z5,p2] λvx vy h' tk b1 b2 b3 b4 b5 b6 b7 b8=>#[_,rfl,?_];refine HT.RD b3 λh2 Ko hZ=>?_;let#[w1,f1,g1]:=r1.get e1;let#[w2,f2,g2]:=r2.get e2;have aaD:i1[i]?=ae vx:=by simpa using b1
  have aaE:i2[i]?=ae vy:=by simpa using b2
  rw[f1]at aaD;cases aaD;rw[f2]at aaE;cases aaE;have EL:(n+4)<s.heap.objs.size:=let ⟨_,_,_,z1⟩:=z1;bb z1
  have I2:Inv X pins σ (upd H s.heap.objs.size<|.tup [x,y]) { s with heap:=h2,toks:=tk }:=by
   refine I.aeF hf (λc o d7 e=>?_) (aB _) (#[by change 2<=sizeLine;decide,[vx,vy],.cons g1<|.cons g2 .nil,#[_,(hZ.extBut _ _ (A8 EL).2.2.2.2 b7),rfl,_,rfl]])
   .simp[a9,pJ,or_false,not_or]at d7;show hZ.extBut _ _ d7.1<|b8 c o d7.1 d7.2.2.1 d7.2.2.2.1 d7.2.2.2.2 e
  refine#[.ref s.heap.objs.size,_,I2,rfl,λahp ahq y1 y2=>#[_,x,y,by rw[aaC I y1 q1];show e1,by rw[aaC I y2 q2];show e2,(I.ay.fresh<|aB _),rfl,rfl],#[Ko,(hZ.extBut _ _ R.a.1<|b8 _ _ R.a.1 R.a.2.2.2.2.1 R.a.2.2.2.2.2.1 R.a.2.2.2.2.2.2.1 z2),(let ⟨u,v,b4⟩:=b4;#[u,v,hZ.extBut _ _ R.a.2.1 b4]),(b5.1.at λo e=>hZ.extBut _ _ R.a.2.2.1 e),(b6.1.at λo e=>hZ.extBut _ _ R.a.2.2.2.1 e)],λc d7=>?_]
  .rw[fv]
   .show(hf c d7).1
   .intro z;subst z;simp[a9,pJ,or_false]at d7;let#[m1,m2,m3,m4,m5]:=A8 EL;rcases d7 with q|q|q|q|q
    .show m5 q
    .show m3 q
    .show m4 q
    .show m1 q
    .show m2 q
 done:=by
  intro X hP hw hK hc i pins s σ H E I hf st hg;subst hP hw hK;let#[xs,ys,q1,q2,hk]:=hg;let#[z1,z2,#[u,v,z3],z4,z5]:=st;let#[i1,r1,p1,l1]:=xQ I q1;let#[i2,r2,p2,l2]:=xQ I q2;refine HT.AN (Kq (t:=t) (prog:=X.prog) (w:=X.w) (A:=X.A.in1) (I.ok.hd hc) n a (bS ha) i1.toArray) (Kq (t:=t) (prog:=X.prog) (w:=X.w) (A:=X.A.in1) (I.ok.hd hc) (n+1) b (A7 1 hb) i2.toArray) (Fl ha hb) (k:=i) (by rw[bY,bY,<-r1.length,<-r2.length];show hk) z1 z2 z3 #[z4,p1] #[z5,p2] λh' tk b8=>#[rfl,I.aeG (ch:=[n+4,n+2,n+3,n,n+1]) hf λc o d7 e=>?_];simp[a9,pJ,or_false,not_or]at d7;show b8 c o d7.1 d7.2.2.1 d7.2.2.2.1 d7.2.2.2.2 e
 self:=λA i s Q E st h=>HT.J9 st.1 h
def aeH (K:PySem.W.Frag) (ta:TA):TI:=λσ H R=>ta σ H λvs H2=>∃ (t:Bool) (p q:ai) (xs ys:List V),vs=[.ref p,.ref q] /\ kR t K H2 p xs /\ kR t K H2 q ys /\ R (VO t K p q) H2
theorem RE (hg:Gl X "zip") (hm:X.mg "zip"=ah) (ha:PA X [a,b] ta) (hs:starEach [a,b] X.env=[(af,eval a X.env),(af,eval b X.env)]:=by rfl) (hZ:starEach [b] X.env=[(af,eval b X.env)]:=by rfl) :
 PI X tg (.Call (.Name "zip" p) [a,b] [] pos) (aeH X.K ta):=by
 intro pins s σ H R I h;refine rG<|ja I hg hm (by decide +kernel:bootBuiltins "zip"=ae (.type "zip")) ?_;refine Ig (nq (ha pos pins s σ H _ I h) λus s1 vs H2 I2 r2 q=>?_) (by rw[hs,hZ]) (by rw[hZ];rfl);let#[t,x,y,xs,ys,rfl,hx,hy,q]:=q;let#[u,v,rfl,ru,rv]:=Vals.two r2;cases ru;cases rv;let#[i1,r1,p1,l1]:=xQ I2 hx;let#[i2,r2,p2,l2]:=xQ I2 hy;refine GO p1 p2 λh' b1 b2 b3 b4 b5 b6=>?_;refine wpAny_pyIter_zip b1 ?_;refine#[s1.heap.objs.size+4,_,_,_,H2,rfl,I2.kept b6,La l1 l2,#[#[_,_,.inl za,b1],b2,#[_,_,b3],b4,b5],λc hc=>?_,q];have hle:s1.heap.objs.size<=c:=by
  simp[a9,pJ,or_false]at hc;rcases hc with z|z|z|z|z<;>(rw[z];first|show aB _|show rJ _ _)
 show I2.xi hle<|I2.ay.fresh hle
end L2
namespace L2.DL

noncomputable def pX:List D->List D->List W
 |x::l,y::r=>.d (.tup [x,y])::pX l r
 |_,_=>[]
theorem Cr:∀ (l r),(pX l r).length=min l.length r.length
 |[],_=>rfl
 |_::_,[]=>rfl
 |_::l,_::r=>by erw[pX,a6,Cr l r];lia
theorem Cs:∀ {l r}{i:Nat}{w},(pX l r)[i]?=ae w->∃ x y,l[i]?=ae x /\ r[i]?=ae y /\ w=.d (.tup [x,y])
 |[],_,_,_,e=>by simp[pX]at e
 |_::_,[],_,_,e=>by simp[pX]at e
 |x::l,y::r,0,w,e=>by simp[pX]at e;show#[x,y,rfl,rfl,e.symm]
 | x::l,y::r,i+1,w,e=>by
   let#[x',y',h1,h2,h3]:=Cs (by simpa[pX] using e);show#[x',y',by simpa using h1,by simpa using h2,h3]
def xR (k:DE<|List W):DE (List W):=λenv bx=>fC (k env bx) λws bx1=>match ws with
 |[.d<|.tup l,.d<|.tup r]=>.val (pX l r) bx1
 |[.d<|.lst l,.d<|.lst r]=>.val (pX l r) bx1
 |_=>.bad
theorem Ag {K}{p}(hp:∀ H,Sub F H->kR t K H p vs) (hq:∀ H,Sub F H->kR t K H q us) (dl:aG F l vs) (dm:aG F m us):vH F r (pX l m) (VO t K p q):=by
 intro T i F1 r1 σ1 H1 ba bx1 g R;have s1:=hp _<|g.s.trans R.fh;have s2:=hq _<|g.s.trans R.fh;have e1:=dl.length;have e2:=dm.length;refine#[λhl=>?_,λw e=>?_]
 .rw[Cr]at hl;show#[vs,us,s1,s2,by lia]
 .let#[x,y,h1,h2,rfl]:=Cs e;let#[v,f1,d1]:=dl.get h1;let#[u,f2,d2]:=dm.get h2;refine#[#[vs,us,v,u,s1,s2,f1,f2],λw H2 hy=>?_];let#[a,v',u',g1,g2,ha,rfl,rfl]:=hy vs us s1 s2;rw[f1]at g1;cases g1;rw[f2]at g2;cases g2;have gr:=R.tJ (o:=.tup [v,u]) ha;show#[_,gr,R.xA ha,a,[v,u],rfl,fu,.cons (Den.mono (g.trans gr).s x d1)<|.cons (Den.mono (g.trans gr).s y d2) .nil]
theorem Np (hg:Gl X "zip") (hm:X.mg "zip"=ah) (ha:pd X T Z [a,b] k) (hs:starEach [a,b] X.env=[(af,eval a X.env),(af,eval b X.env)]:=by rfl) (hZ:starEach [b] X.env=[(af,eval b X.env)]:=by rfl) :
 xE X T Z tg (.Call (.Name "zip" p) [a,b] [] pos) (xR k):=by
 refine PI.imp (RE hg hm ha hs hZ) λσ H Q=>bg λF r env bx R h=>?_;refine#[F,r,env,bx,R,End.bind h λws bx1 F1 r1 vs H1 g1 R1 d1 h1=>?_];split at h1
 .let#[v,t,rfl,#[p,us,rfl,k1,k2],v2,t2,rfl,#[q,ES,rfl,k3,k4],rt]:=d1;cases (rt);have z1:∀ H,Sub F1 H->kR ag X.K H p us:=λH s=>.of<|s _ _ k1;have z2:∀ H,Sub F1 H->kR ag X.K H q ES:=λH s=>.of<|s _ _ k3;show#[ag,p,q,us,ES,rfl,z1 _ R1.fh,z2 _ R1.fh,h1 F1 r1 _ H1 (.refl F1 r1) R1<|Ag z1 z2 k2 k4]
 .ext l m;let#[v,t,rfl,#[p,us,rfl,k1,k2],v2,t2,rfl,#[q,ES,rfl,k3,k4],rt]:=d1;cases (rt);have z1:∀ H,Sub F1 H->kR af X.K H p us:=λH s=>.of<|s _ _ k1;have z2:∀ H,Sub F1 H->kR af X.K H q ES:=λH s=>.of<|s _ _ k3;show#[af,p,q,us,ES,rfl,z1 _ R1.fh,z2 _ R1.fh,h1 F1 r1 _ H1 (.refl F1 r1) R1<|Ag z1 z2 k2 k4]
 .show h1.elim

def aeI (K:PySem.W.Frag) (tl:TE):TI:=λσ H R=>tl σ H λx H1=>(∃ a,x=.ref a /\ (∃ xs,bN K H1 a xs) /\ R (U5 K a) H1) \/ ∃ a,x=.ref a /\ (∃ xs,cK K H1 a xs) /\ R (U6 K a) H1
theorem RF (hl:PE X l tl):PI X tg l (aeI X.K tl):=by
 intro pins s σ H R I h;refine aX (hl pins s σ H _ I h) λv s1 x H1 I1 r1 q1=>?_;rcases q1 with⟨a,rfl,⟨xs,hq⟩,q⟩|⟨a,rfl,⟨xs,hq⟩,q⟩
 .cases r1;let#[its,rv,p,hz]:=I1.list hq;refine Qr p.isList #[s1.heap.objs.size,[s1.heap.objs.size],_,_,H1,rfl,I1.kept λb o e=>aR _ e,Gn a _,#[_,bD _ za,rfl,rfl],λb hb=>?_,q];cases eY.mp hb;show I1.xi (aB _)<|I1.ay.fresh<|aB _
 .cases r1;let#[its,rv,p,hz]:=I1.tuple hq;refine Qw (p) #[s1.heap.objs.size,[s1.heap.objs.size],_,_,H1,rfl,I1.kept λb o e=>aR _ e,Db a _,#[_,bD _ za,rfl,rfl],λb hb=>?_,q];cases eY.mp hb;show I1.xi (aB _)<|I1.ay.fresh<|aB _
theorem Ct {K}{a}(k1:F a=ae (.lst vs)) (k2:aG F l vs):vH F r (l.map W.d) (U5 K a):=λT' i F2 r2 σ2 H2 cD aq g2 R2=>by
 have hq:bN K H2 a vs:=.of<|R2.fh _ _<|g2.s _ _ k1;refine#[λhl=>?_,λw e=>?_]
 .rw[aV,k2.length]at hl;show#[vs,hq,wC hl]
 .let#[d,e1,rfl]:=A4 e;let#[u,e2,du]:=k2.get e1;refine#[#[vs,u,hq,e2],λx H3 ⟨e3,hy⟩=>?_];subst e3;have e4:=hy vs hq;rw[e2]at e4;cases e4;show#[F2,.refl F2 r2,R2,Den.mono g2.s d du]
theorem Dx {K}{a}(k1:F a=ae (.tup vs)) (k2:aG F l vs):vH F r (l.map W.d) (U6 K a):=λT' i F2 r2 σ2 H2 cD aq g2 R2=>by
 have hq:cK K H2 a vs:=.of<|R2.fh _ _<|g2.s _ _ k1;refine#[λhl=>?_,λw e=>?_]
 .rw[aV,k2.length]at hl;show#[vs,hq,wC hl]
 .let#[d,e1,rfl]:=A4 e;let#[u,e2,du]:=k2.get e1;refine#[#[vs,u,hq,e2],λx H3 ⟨e3,hy⟩=>?_];subst e3;have e4:=hy vs hq;rw[e2]at e4;cases e4;show#[F2,.refl F2 r2,R2,Den.mono g2.s d du]
theorem l5 (ha:PD X T Z a ma):xE X T Z tg a (bP ma):=by
 refine PI.imp (RF ha) λσ H Q=>bg λF r env bx R h=>?_;refine#[F,r,env,bx,R,End.bind h λw bx1 F1 r1 v H1 g1 R1 d1 h1=>?_];split at h1
 .let#[p,vs,rfl,k1,k2]:=d1;show .inl #[p,rfl,#[vs,.of<|R1.fh _ _ k1],h1 F1 r1 _ H1 (.refl F1 r1) R1<|Ct k1 k2]
 .let#[p,vs,rfl,k1,k2]:=d1;show .inr #[p,rfl,#[vs,.of<|R1.fh _ _ k1],h1 F1 r1 _ H1 (.refl F1 r1) R1<|Dx k1 k2]
 .show h1.elim
noncomputable def VP (XN:List Str) (sc cs:eZ) (N:List Str) (src:List<|Option Nat):Bool:=
 decide (cs.kind=.function)&&decide (cs.names.map (·.1)).Nodup&&cs.names.all (λy=>decide (y.2=.local->cs.names.lookup y.1=ae .local)) &&
 cs.names.all (λy=>decide (y.2=.free->(sc.names.lookup y.1=ae .cell \/ sc.names.lookup y.1=ae .free)))&&decide (src.length=N.length) &&
 (List.range src.length).all λj=>match src[j]?,N[j]? with
  |some (ae i),ae x=>decide (XN[i]?=ae x /\ cs.names.lookup x=ae .free)
  |_,_=>ag
theorem Dy (hX:∀ x,X.env.kindOf x=sc.names.lookup x) (hN:X.N=XN) (h:VP XN sc cs N src=ag):sf X N src cs:=by
 subst hN;unfold VP at h;erw[aH,decide_eq_true_eq,cb]at h;let#[#[#[#[#[h1,h2],h3],h4],h5],h6]:=h;refine#[h1,h2,λy hy=>h3 y hy,λy hy hf=>?_,h5,λj i x e1 e2=>?_]
 .rw[hX];show h4 y hy hf
 .have q:=h6 j<|List.mem_range.mpr (List.getElem?_eq_some_iff.mp e1).1;rw[e1,e2]at q;show of_decide_eq_true q
section
variable (P:cS) (w:cg) (K:PySem.W.Frag) (mg:Str -> Option au) (base:aK) (cl:Nat -> ai)
def rf (k:Nat) (x:Str) (ps:List Str) (fn:List W->List Bx->O W):zb:=
 ∃ (f:ai) (fd:FuncData),cP P w K mg base (dn P w) k f fd ps (qQ cl ps.length fn) /\ mg x=ae (.ref f) /\ PySem.W.keepIn K (.ref f)=ag /\ Binds K fd ps [] /\ ∃ o,K.lookup f=ae o /\ o.data=.func fd
def Def (x:Str) (st:bJ) (ps:List Str):zb:=∃ (f:ai) (fd:FuncData),dU K x x st f fd /\ mg x=ae (.ref f) /\ Binds K fd ps []
end
section
variable {P:cS} {w:cg} {K:PySem.W.Frag} {mg:Str -> Option au} {base:aK} {cl:Nat -> ai} {k:Nat} {x:Str} {st:bJ} {N ps:List Str} {m:aE} {fn:List W -> List Bx -> O W} {nn kk:Nat}
theorem _root_.L2.dU.obj {qual:Str}{f:ai}{fd:FuncData}(F:dU K x qual st f fd):∃ o:Obj,K.lookup f=ae o /\ o.data=.func fd:=by
 let#[#[oc,od,kV,doc,pm,an,cdv,ct,pL,_,l,_],_]:=F;show#[_,l,rfl]
end

theorem RG (h:rf X.prog X.w X.K X.mg X.base Z.cl k x ps fn) (hr:bH k' X.A) (hk:k<=k') (hg:Gl X x) (hx:Passes (dn X.prog X.w) X Z.E) (ha:pd X T Z (e::es) m) (cL:(x==("__debug__"))=af:=by decide)
 (he:starEach (e::es) X.env=(af,eval e X.env)::starEach es X.env:=by rfl) (dS:(backTo pos<|starEach es X.env).any (·.1)=af:=by rfl) (hn:ps.length=nn:=by rfl):PD X T Z (.Call (.Name x p) (e::es) [] pos) (fq fn nn m):=by
 subst hn;let#[f,fd,G,hm,aeJ,hb,_]:=h;show(λG hr hg hm hk hb hx ha cL he dS=>PE.imp (MX G hr hg hm hk hb .nil hx ha cL he dS) λσ H Q h=>Rn h) G (hr.mono hk) hg hm aeJ hb hx ha cL he dS
end L2.DL
namespace HT
structure SB (kd:SortKind) (b:Array Keyed) (z:SortSt):zb where
 pm:(arrOf z).Perm b
 kd:kindOf z=kd
 fl:failedOf z=ah
 pn:pendingOf z=#[]
theorem SB.len {kd}(g:SB kd b z):(arrOf z).size=b.size:=g.pm.size_eq
theorem SB.put {kd}(g:SB kd b z) (q:c.Perm<|arrOf z):SB kd b (setArr z c):=#[q.trans g.pm,g.kd,g.fl,g.pn]
section

def tT (prog:cS) (w:cg) (A:di) (E:au->aI->zb) (s:aI) (κ:KeyKind) (kd:SortKind) (b:Array Keyed):zb:=
 ∀ (x y:Keyed),x∈b.toList->y∈b.toList->∀ (Q:Bool->aI->zb) (E':au->aI->zb),Q (κ.blt ((κ.keyOf x.1).getD κ.dflt)<|(κ.keyOf y.1).getD κ.dflt) s->wpAny (model prog w) A (keyLt' kd x.1 y.1) Q E' s
variable {kd:SortKind}
noncomputable abbrev kx (κ:KeyKind) (z:SortSt) (i:Nat):κ.α:=KK κ (arrOf z) i
theorem SB.item (g:SB kd b z) (hi:i<b.size):∃ x,(arrOf z)[i]?=ae x /\ x∈b.toList /\ kx κ z i=(κ.keyOf x.1).getD κ.dflt:=by
 have hz:=g.len▸hi;refine#[(arrOf z)[i],getElem?_pos _ i hz,(Array.perm_iff_toList_perm.mp g.pm).mem_iff.mp (by simp),?_];simp[KK,getElem?_pos (arrOf z) i hz]
theorem ask (C:tT prog w A E s κ kd b) (g:SB kd b z) (hi:i<b.size) (hj:j<b.size)
 (q:Q (ae<|κ.blt (kx κ z i)<|kx κ z j) z):wpS (model prog w) A E s (ltAt' i j) Q z:=by
 let#[x,ex,mx,aeK]:=g.item hi;let#[y,ey,my,aeL]:=g.item hj;rw[aeK,aeL]at q;rw[ltAt'_eq];refine cx<|wW ?_;dsimp only;rw[elem'_eq,elem'_eq,ex,ey];refine cx<|dQ<|cx<|dQ ?_;rw[lt'_eq];refine cx<|wW ?_;rw[g.kd];show cx<|Q5<|yB<|C x y mx my _ _ #[rfl,dQ q]
def Up (κ:KeyKind) (z:SortSt) (n:Nat):zb:=∀ i j,i<=j->j<n->κ.kle (kx κ z i) (kx κ z j)
def Dn (κ:KeyKind) (z:SortSt) (n:Nat):zb:=∀ i j,i<=j->j<n->κ.kle (kx κ z j) (kx κ z i)
theorem Up.one (h:n<=1):Up κ z n:=λi j a c=>by
 have e:i=j:=by lia
 subst e;show wZ _
theorem Up.more (u:Up κ z n) (h:1<=n) (l:κ.kle (kx κ z<|n-1)<|kx κ z n):Up κ z (n+1):=λi j a c=>by
 rcases wF j n with c'|c'
 .show u i j a c'
 obtain rfl:j=n:=by lia
 rcases wF i j with a'|a'
 .show Ip (u i _ (by lia) (by lia)) l
 .obtain rfl:i=j:=by lia
  show wZ _
theorem Dn.more (u:Dn κ z n) (h:1<=n) (l:κ.kle (kx κ z n)<|kx κ z<|n-1):Dn κ z (n+1):=λi j a c=>by
 rcases wF j n with c'|c'
 .show u i j a c'
 obtain rfl:j=n:=by lia
 rcases wF i j with a'|a'
 .show Ip l<|u i _ (by lia) (by lia)
 .obtain rfl:i=j:=by lia
  show wZ _
theorem asc (C:tT prog w A E s κ kd b) (g:SB kd b z) (hn:n<=b.size) (h1:1<=a) (h2:a<=n) (u:Up κ z a)
 (q:∀ m,a<=m->m<=n->Up κ z m->(m<n->κ.klt (kx κ z m) (kx κ z<|m-1))->Q (ah,m) z):wpS (model prog w) A E s (ascLoop a n) Q z:=by
 refine wX (I:=λm c y=>y=z /\ c=(ah,m) /\ Up κ z m) ?_ ?_ #[rfl,rfl,u]
 .intro m c y g1 g2 ⟨e1,e2,u'⟩;subst e1;subst e2;refine cx<|ask C g (by lia) (by lia) ?_;cases e:κ.blt _ _ with
  |true=>show dQ<|q m g1 (kK g2) u' λ_=>e
  |false=>show dQ #[rfl,rfl,u'.more (by lia) e]
 .intro c y ⟨e1,e2,u'⟩;subst e1;subst e2;rw[XF h2]at u' ⊢;show q n h2 (aB n) u' λh=>absurd h<|eW n
theorem Fm (hj:j<=(arrOf z).size):kx κ (setArr z<|mirror (arrOf z) i j<|(j-i) / 2) k=if i<=k /\ k<j then kx κ z (i+j-1-k) else kx κ z k:=KK_mirror hj k
theorem lh (hj:j<=(arrOf z).size) (e:∀ k,i<=k->k<j->kx κ z k=kx κ z (j-1)) (k):kx κ (setArr z<|mirror (arrOf z) i j<|(j-i) / 2) k=kx κ z k:=KK_mirror_equal hj e k
def Ends (prog:cS) (w:cg) (A:di) (E:au->aI->zb) (s:aI) (κ:KeyKind) (kd:SortKind) (b:Array Keyed) (n:Nat) (Q:Option Nat->SortSt->zb):zb:=
 ∀ m y,SB kd b y->1<=m->m<=n->Up κ y m->Q (ae m) y
theorem turned (C:tT prog w A E s κ kd b) (g:SB kd b z) (hn:n<=b.size) (h1:1<=a) (h2:a<=n) (d:Dn κ z a) (q:Ends prog w A E s κ kd b n Q) :
 wpS (model prog w) A E s (tail3 a n) Q z:=by
 have hz:=g.len▸cu h2 hn;have g':SB kd b (setArr z<|mirror _ 0 a<|(a-0) / 2):=g.put<|Ij _ _ _ _;refine cx<|Ik<|cx<|asc C g' hn h1 h2 (λi j c1 c2=>?_) λm m1 m2 um _=>dQ<|q m _ g' (cu h1 m1) m2 um;rw[Fm hz,Fm hz,if_pos #[dA i,by lia],if_pos #[dA j,c2]];show d _ _ (by lia) (by lia)
def Alike (κ:KeyKind) (z:SortSt) (m e:Nat):zb:=e+1<=m /\ ∀ i,m-(e+1)<=i->i<m->kx κ z i=kx κ z (m-1)
theorem Alike.zero (h:1<=m):Alike κ z m 0:=#[h,λi h1 h2=>by rw[show i=m-1 by lia]]
theorem desc (C:tT prog w A E s κ kd b) (g:SB kd b z) (hn:n<=b.size) (h1:1<=a) (h2:a<=n) (d:Dn κ z a)
 (q:∀ m e y,SB kd b y->a<=m->m<=n->Dn κ y m->Alike κ y m e->Q (ah,m,e) y):wpS (model prog w) A E s (descLoop a n) Q z:=by
 refine wX (I:=λm c y=>∃ e,c=(ah,m,e) /\ SB kd b y /\ Dn κ y m /\ Alike κ y m e) ?_ ?_ #[0,rfl,g,d,.zero h1]
 .intro m c y g1 g2 ⟨e,ec,gy,dy,al⟩;subst ec;have hm:m<=(arrOf y).size:=by rw[gy.len];lia
  refine cx<|ask C gy (show m<b.size by lia) (show m-1<b.size by lia) ?_;cases t:κ.blt _ _ with
  |true=>
    have d':=dy.more (by lia)<|Iq t;dsimp only;by_cases he:e>0
    .rw[if_pos he];refine cx<|Ik<|dQ #[0,rfl,gy.put<|Ij _ _ _ _,λi j c1 c2=>?_,.zero (by lia)];rw[lh hm al.2,lh hm al.2];show d' i j c1 c2
    .rw[if_neg he];show dQ #[0,rfl,gy,d',.zero (by lia)]
  |false=>
    dsimp only;rw[if_neg (by simp)];refine cx<|ask C gy (by lia) (by lia) ?_;cases t2:κ.blt _ _ with
    |true=>show dQ<|q m e y gy g1 (by lia) dy al
    |false=>
      refine dQ #[e+1,rfl,gy,dy.more (by lia) t2,by have:=al.1;lia,λi c1 c2=>?_];rw[show m+1-1=m by lia];by_cases hi:i=m
      .rw[hi]
      .rw[(YK t2 t)];show al.2 i (by lia) (by lia)
 .intro c y ⟨e,ec,gy,dy,al⟩;subst ec;rw[XF h2]at dy al ⊢;show q n e y gy h2 (aB n) dy al
theorem fall (C:tT prog w A E s κ kd b) (g:SB kd b z) (hn:n<=b.size) (h2:a+1<=n) (d:Dn κ z<|a+1) (q:Ends prog w A E s κ kd b n Q) :
 wpS (model prog w) A E s (descPart a n) Q z:=by
 refine cx<|Q5<|sR #[rfl,cx<|desc C g hn (wG a) h2 d λm e y gy m1 m2 dy al=>?_];by_cases he:e>0
 .rw[if_pos he];have hm:m<=(arrOf y).size:=by rw[gy.len];lia
  refine cx<|Ik<|turned C (gy.put<|Ij _ _ _ _) hn (by lia) m2 (λi j c1 c2=>?_) q;rw[lh hm al.2,lh hm al.2];show dy i j c1 c2
 .rw[if_neg he];show turned C gy hn (by lia) m2 dy q
theorem count (C:tT prog w A E s κ kd b) (g:SB kd b z) (hn:n<=b.size) (h1:1<=n) (q:Ends prog w A E s κ kd b n Q) :
 wpS (model prog w) A E s (countRun' 0 n) Q z:=by
 rw[countRun0_eq];refine cx<|asc C g hn (aB 1) h1 (.one<|aB 1) λm m1 m2 um last=>?_;by_cases hm:m=n
 .rw[if_pos (by simp[hm])];show dQ<|q m z g m1 m2 um
 rw[if_neg (by simp[hm])];have lt:=last (by lia);by_cases h3:m>1
 .rw[if_pos h3];refine cx<|ask C g (by lia) (by lia) ?_;cases t:κ.blt _ _ with
  |true=>show dQ<|q m z g m1 m2 um
  |false=>
    dsimp only;have al:∀ k,0<=k->k<m->kx κ z k=kx κ z _:=λk _ hk=>
     YK (um k _ (by lia) (by lia)) (Ip t<|um 0 k (dA k) hk)
    have hz:m<=(arrOf z).size:=by rw[g.len];lia
    refine cx<|Ik<|fall C (g.put<|Ij _ _ _ _) hn (by lia) (λi j c1 c2=>?_) q;rw[lh hz al,lh hz al];have d0:Dn κ z m:=λi j c1 c2=>by rw[al i (dA _) (by lia),al j (dA _) c2];show wZ _
    show d0.more m1 (Iq lt) i j c1 c2
 .rw[if_neg h3];obtain rfl:m=1:=by lia
  have d0:Dn κ z 1:=λi j c1 c2=>by
   obtain rfl:i=j:=by lia
   show wZ _
  show fall C g hn (by lia) (d0.more (aB 1)<|Iq lt) q
end
section
variable {kd:SortKind}
def Fits (κ:KeyKind) (z:SortSt) (k l r:Nat):zb:=(∀ i,i<l->κ.kle (kx κ z i) (kx κ z k)) /\ ∀ i,r<=i->i<k->κ.klt (kx κ z k) (kx κ z i)
theorem Fn (hk:k<(arrOf z).size) (hl:l<=k):kx κ (setArr z<|bubble (arrOf z) k<|k-l) i=if i=l then kx κ z k else if l<i /\ i<=k then kx κ z (i-1) else kx κ z i:=by
 have e:=KK_bubble (κ:=κ) hk (Nat.sub_le k l) i;rw[show k-(k-l)=l by lia]at e;show e
theorem Up.insert (u:Up κ z k) (hk:k<(arrOf z).size) (hl:l<=k) (f:Fits κ z k l l):Up κ (setArr z<|bubble (arrOf z) k<|k-l) (k+1):=by
 intro i j c1 c2;rw[Fn hk hl,Fn hk hl];by_cases i1:i=l
 .rw[if_pos i1];by_cases j1:j=l
  .rw[if_pos j1];show wZ _
  .rw[if_neg j1,if_pos #[by lia,by lia]];show Iq<|f.2 _ (by lia) (by lia)
 .rw[if_neg i1];by_cases i2:l<i /\ i<=k
  .rw[if_pos i2,if_neg (by lia),if_pos #[by lia,by lia]];show u _ _ (by lia) (by lia)
  .rw[if_neg i2];by_cases j1:j=l
   .rw[if_pos j1];show f.1 i (by lia)
   .rw[if_neg j1];by_cases j2:l<j /\ j<=k
    .rw[if_pos j2];show u _ _ (by lia) (by lia)
    .rw[if_neg j2];show u _ _ c1 (by lia)
theorem aeM (C:tT prog w A E s κ kd b) (g:SB kd b z) (hn:n<=b.size) (hm:m<=n) (u:Up κ z m) (q:∀ y,SB kd b y->Up κ y n->Q ag y) :
 wpS (model prog w) A E s (binarySort' 0 n m) Q z:=by
 rw[binarySort'_eq];erw[wH];refine cx<|Il (Q:=λc y=>c=(ah,()) /\ SB kd b y /\ Up κ y n) (wX (I:=λk c y=>c=(ah,()) /\ SB kd b y /\ Up κ y (min k n)) ?_ ?_ ?_) ?_
 .intro k c y k1 k2 ⟨ec,gy,uy⟩;rw[wI<|kK k2]at uy;have kb:k<b.size:=by lia
  refine cx<|Il (Q:=λc y'=>y'=y /\ ∃ l r,c=(ah,l,r) /\ l<=k /\ Fits κ y k l l) (wX (I:=λx c y'=>y'=y /\ ∃ l r,c=(ah,l,r) /\ l<=r /\ r<=k /\ r-l<=k-x /\ Fits κ y k l r) ?_ ?_<|#[rfl,0,k,rfl,dA k,aB k,aB _,λi hi=>absurd hi<|vf i,λi i1 i2=>absurd i2 (by lia)]) ?_
  .intro x c y' _ x2 ⟨ey,l,r,ec,p1,p2,p3,f⟩;subst ey;subst ec;dsimp only;by_cases lr:l>=r
   .rw[if_pos lr];obtain rfl:l=r:=by lia
    show dQ #[rfl,l,l,rfl,p2,f]
   rw[if_neg lr];refine cx<|ask C gy kb (by lia) ?_;cases t:κ.blt _ _ with
   |true=>show dQ #[rfl,l,(l+r) / 2,rfl,by lia,by lia,by lia,f.1,λi i1 i2=>KeyOrd.klt_of_klt_of_kle t<|uy _ _ i1 i2]
   |false=>show dQ #[rfl,(l+r) / 2+1,r,rfl,by lia,by lia,by lia,λi i1=>Ip (uy i _ (by lia) (by lia)) t,f.2]
  .intro c y' ⟨ey,l,r,ec,p1,p2,p3,f⟩;obtain rfl:l=r:=by lia
   show#[ey,l,l,ec,p2,f]
  .intro c y' ⟨ey,l,r,ec,p,f⟩;subst ey;subst ec;change wpS _ _ _ _ _ _ _;rw[moveDown'_eq];refine cx<|Q6<|dQ #[rfl,gy.put<|bubble_perm _ _ _,?_];rw[wI k2];show uy.insert (by rw[gy.len];show kb) p f
 .intro c y ⟨ec,gy,uy⟩;rw[show min _ n=n by lia]at uy;show#[ec,gy,uy]
 .refine#[rfl,g,?_];rcases wF m 1 with m0|m0
  .show .one (by lia)
  .rw[show min (max m 1) n=m by lia];show u
 .intro c y ⟨ec,gy,uy⟩;subst ec;show dQ<|q y gy uy
def Kr (κ:KeyKind) (b:Array Keyed) (y:SortSt):zb:=(arrOf y).Perm b /\ failedOf y=ah /\ pendingOf y=(List.toArray [(0,b.size,0)]) /\ Up κ y b.size
theorem SB.fin (g:SB kd b y) (u:Up κ y b.size):Kr κ b (setPending y<|(pendingOf y).push (0,b.size,0)):=#[g.pm,g.fl,by rw[g.pn];rfl,u]
theorem runs (C:tT prog w A E s κ kd b) (g:SB kd b z) (h2:2<=b.size) (dE:b.size<64) (q:∀ y,(arrOf y).Perm b->failedOf y=ah->Up κ y b.size->Q () y) :
 wpS (model prog w) A E s sortRuns' Q z:=by
 have mr:minRun' b.size b.size 0=b.size:=by
  let#[f,e]:=Nat.exists_eq_add_of_lt (show 0<b.size by lia);have:minRun' (0+f+1) b.size 0=b.size:=by rw[minRun'_succ,if_pos dE];rfl
  rw[<-e]at this;show this
 rw[sortRuns'_eq];refine cx<|wW ?_;dsimp only;erw[g.len,mr];refine cx (Il (Q:=λc y=>c=(ah,b.size) /\ Kr κ b y)
  (wX (I:=λx c y=>if x=0 then c=(ah,0) /\ SB kd b y else c=(ah,b.size) /\ Kr κ b y) ?_ ?_ (by rw[if_pos rfl];show#[rfl,g])) ?_)
 .intro x c y _ x2 I;by_cases x0:x=0
  .rw[if_pos x0]at I;let#[ec,gy]:=I;subst ec;subst x0;dsimp only;rw[if_neg (by lia)];erw[HR,Nat.min_self,wH];have fin:∀ y',SB kd b y'->Up κ y' b.size->(if (1)=0 then ((ah:Option PUnit),b.size)=(ah,0) /\ SB kd b (setPending y'<|(pendingOf y').push (0,b.size,0)) else ((ah:Option PUnit),b.size)=(ah,b.size) /\ Kr κ b _):=
    λy' g' u'=>by rw[if_neg (by lia)];show#[rfl,g'.fin u']
   refine cx<|count C gy (aB _) (by lia) λm y1 g1 m1 m2 u1=>?_;dsimp only;by_cases lt:m<b.size
   .rw[if_pos lt];refine cx<|Q5<|sR #[rfl,cx<|aeM C g1 (aB _) m2 u1 λy3 g3 u3=>?_];rw[if_neg (by simp)];refine cx<|wW ?_;rw[show (pendingOf y3).back?=ah by rw[g3.pn];rfl];show cx<|Q6<|dQ<|fin y3 g3 u3
   .rw[if_neg lt];obtain rfl:m=b.size:=by lia
    refine cx<|wW ?_;rw[show (pendingOf y1).back?=ah by rw[g1.pn];rfl];show cx<|Q6<|dQ<|fin y1 g1 u1
  .rw[if_neg x0]at I;let#[ec,fy]:=I;subst ec;dsimp only;rw[if_pos<|aB _];show dQ #[rfl,fy]
 .intro c y I;rw[if_neg (by lia)]at I;show I
 .intro c y ⟨ec,fy⟩;subst ec;dsimp only;refine cx (Il (wX (I:=λ_ c y'=>y'=y /\ c=(ah,())) ?_ (λ_ _ h=>h) #[rfl,rfl]) ?_)
  .intro x c y' _ _ ⟨e1,e2⟩;subst e1;subst e2;refine cx<|wW ?_;rw[if_pos (by rw[fy.2.2.1];show aB 1)];show dQ #[rfl,rfl]
  .intro c y' ⟨e1,e2⟩;subst e1;subst e2;show dQ<|q _ fy.1 fy.2.1 fy.2.2.2
end
theorem ip:∀ a,lexLt a a=af
 |[]=>rfl
 |x::a=>by rw[gK,if_pos rfl];show ip a
theorem jk:∀ a b c,lexLt a b=ag->lexLt b c=ag->lexLt a c=ag
 |[],[],_,h,_=>by cases h
 |[],_::_,[],_,h=>by cases h
 |[],_::_,_::_,_,_=>rfl
 |_::_,[],_,h,_=>by cases h
 |_::_,_::_,[],_,h=>by cases h
 | x::a,y::b,z::c,h,g=>by
   rw[gK]at *;by_cases e1:x=y
   .subst e1;rw[if_pos rfl]at h;by_cases e2:x=z
    .subst e2;rw[if_pos rfl]at g ⊢;show jk a b c h g
    .rw[if_neg e2]at g ⊢;show g
   .rw[if_neg e1]at h;by_cases e2:y=z
    .subst e2;rw[if_neg e1];show h
    .rw[if_neg e2]at g;rw[if_neg (by lia)];show decide_eq_true (by lia)
theorem iQ:∀ a b,lexLt a b=af->lexLt b a=af->a=b
 |[],[],_,_=>rfl
 |[],_::_,h,_=>by cases h
 |_::_,[],_,h=>by cases h
 | x::a,y::b,h,g=>by
   rw[gK]at *;by_cases e:x=y
   .subst e;rw[if_pos rfl]at h g;rw[iQ a b h g]
   .lia
theorem A9 (a b c) (h:lexLt a c=ag):lexLt a b=ag \/ lexLt b c=ag:=by
 cases e:lexLt a b with
 |true=>show .inl za
 |false=>
   refine .inr ?_;cases f:lexLt b a with
   |true=>show jk b a c f h
   |false=>rw[<-iQ a b e f];show h

theorem Dz (k) (h:Q (decide (x<y)) s):wpAny (model prog w) A (oneLt' k (.int x t)<|.int y u) Q E s:=by
 cases k with
 |true=>show oneLt_int h
 |false=>
   show ak<|(Yx<|qb h)
theorem BE (f) (x y):keyLt' (tuples' f) x y=(do
 let xs <-Builtin.List.listItems x
 let ys <-Builtin.List.listItems y
 for ((p,q),i) in (xs.toList.zip ys.toList).zipIdx do
  if !(<-eqBool p q) then return <-oneLt' (f&&i==0) p q
 return decide (xs.size<ys.size)):=rfl
structure KP (P:aK->au->List Int->zb):zb where
 inj:∀ {h:aK}{v:au}{ns ms:List Int},P h v ns->P h v ms->ns=ms
 push:∀ {h:aK}{v:au}{ns:List Int},P h v ns->∀ o:Obj,P (h.push o) v ns
 upd:∀ {h:aK}{v:au}{ns:List Int},P h v ns->∀ {l:ai}{xs:Array au}{n:Nat},h.get? l=ae (seqObj "list" xs n)->∀ f:Obj->Obj,P (h.update l f) v ns
section
variable {prog:cS} {w:cg} {A:di} {E:au -> aI -> zb} {s:aI} {P:aK -> au -> List Int -> zb} (KQ:KP P)
open Classical in
noncomputable def uI (P:aK->au->List Int->zb) (h:aK):KeyKind where
 α:=List Int
 blt:=lexLt
 irrefl:=ip
 trans:=jk
 negTrans:=A9
 total:=iQ
 keyOf v:=if p:∃ ns,P h v ns then ae p.choose else ah
 dflt:=[]
include KQ in
open Classical in
theorem oF (p:P h v ns):((uI P h).keyOf v).getD []=ns:=by
 have e:∃ ns,P h v ns:=#[ns,p];change (if p:∃ ns,P h v ns then ae p.choose else ah).getD []=ns;rw[dif_pos e];show KQ.inj e.choose_spec p
def uJ (P:aK->au->List Int->zb) (h:aK) (vs:List au):zb:=vs.Pairwise λx y=>∀ ns ms,P h x ns->P h y ms->lexLt ms ns=af
def VQ (P:aK->au->List Int->zb) (prog:cS) (w:cg) (U:Nat) (s:aI) (vs:List au):zb:=∀ (A) (h'),A.units<=U->(∀ v ns,P s.heap v ns->P h' v ns) ->
 (∀ {Q}{E},Q (tuples' ag) { s with heap:=h' }->wpAny (model prog w) A (keyKind' vs.toArray) Q E { s with heap:=h' }) /\ ∀ E,tT prog w A E { s with heap:=h' } (uI P h') (tuples' ag) (pairsOf vs)
include KQ
theorem Lb (H:∀ v∈vs,∃ ns,P h v ns) (up:∀ v ns,P h v ns->P h' v ns) (pm:(arrOf z).Perm<|pairsOf vs) (u:Up (uI P h') z (pairsOf vs).size) :
 ((arrOf z).map (·.2)).toList.Perm vs /\ uJ P h ((arrOf z).map (·.2)).toList:=by
 have hl:(arrOf z).toList.Perm (vs.zip vs):=by rw[<-Yy];show Array.perm_iff_toList_perm.mp pm
 have me:∀ p∈(arrOf z).toList,p.1=p.2 /\ p.1∈vs:=λp hp=>Q7<|hl.mem_iff.mp hp;rw[Array.toList_map];constructor
 .have:=hl.map (·.2);rw[QK<|aB _]at this;show this
 .unfold uJ;rw[uh,List.pairwise_iff_getElem];intro i j hi hj yW ns ms p q;have xx:j<(arrOf z).size:=by simpa using hj
  have g:=u i j (kK yW) (by rw[<-pm.size_eq];show xx);have ki:kx (uI P h') z i=ns:=by
   simp[KK,getElem?_pos (arrOf z) i (by simpa using hi)];rw[YA,<-(me _ (by simp)).1]at p;show oF KQ<|up _ _ p
  have kj:kx (uI P h') z j=ms:=by
   simp[KK,getElem?_pos (arrOf z) j xx];rw[YA,<-(me _ (by simp)).1]at q;show oF KQ<|up _ _ q
  rw[ki,kj]at g;show g
theorem Fo (ho:s.heap.get? a=ae (seqObj "list" vs.toArray n)) (H:∀ v∈vs,∃ ns,P s.heap v ns) (hU:A.units<=U) (S:vs≠[]->VQ P prog w U s vs) (dE:vs.length<64)
 (h:∀ out,out.toList.Perm vs->uJ P s.heap out.toList->R (.done<|.ret .none) { s with heap:=sortedHeap s.heap a vs out }):wpAny (model prog w) A (Builtin.«list.sort» #[[.ref a],[]]) R E s:=by
 rw[list_sort_plain];have la:=bb ho;refine ak<|wV ho za<|ak<|Ih ho za ?_;obtain⟨k,aaF⟩:∃ k,(s.heap.update a<|Obj.mapSeq λ_=>#[]).get? a=ae (seqObj "list" #[] k):=#[_,Yu ho λ_=>#[]];refine ak<|Q8 aaF za<|ak<|Qv<|ak<|yC<|eV ?_;generalize eh:((s.heap.update a<|Obj.mapSeq λ_=>#[]).push<|seqObj "tuple" vs.toArray 0).push (seqObj "list" #[] 0)=h6;have up:∀ v ns,P s.heap v ns->P h6 v ns:=λv ns p=>eh▸KQ.push (KQ.push (KQ.upd p ho _) _) _;have Ks:h6.get? a=ae (seqObj "list" #[] k):=by
  rw[<-eh];show aR _<|aR _ aaF
 have fin:∀ out,out.toList.Perm vs->uJ P s.heap out.toList->R (.done<|.ret .none) { s with heap:=h6.update a (Obj.mapSeq λ_=>out) }:=λout p q=>by
  rw[<-eh];show h out p q
 change wpAny (model prog w) A _ R E { s with heap:=h6 };dsimp only;have big:vs.length<=sizeLine+1:=by rw[bB];lia
 by_cases h2:vs.toArray.size<2
 .rw[if_pos h2,if_pos h2];refine ak<|ax ?_;rw[StateT.run_pure];refine ak<|ax ?_;dsimp only;have em:(Array.map (λx=>x.2)<|vs.toArray.zip vs.toArray)=vs.toArray:=by
   apply Array.toList_inj.mp;simp[QK]
  rw[em];refine ak<|Q8 Ks za<|ak<|Ih Ks za ?_;rw[bne_self_eq_false];refine ax<|fin vs.toArray (List.Perm.refl _) ?_;rw[bY]at h2;unfold uJ;show L2.Rf h2
 .rw[if_neg h2,if_neg h2];rw[bY]at h2;have ne:vs≠[]:=λe=>by rw[e]at h2;simp at h2
  have H6:∀ v∈vs,∃ ns,P h6 v ns:=λv m=>let ⟨ns,p⟩:=H v m;#[ns,up v ns p]
  refine ak<|(S ne A h6 hU up).1 ?_;refine ak<|kq (runs
   (Q:=λ_ y=>(arrOf y).Perm (pairsOf vs) /\ failedOf y=ah /\ Up (uI P h6) y (pairsOf vs).size) ((S ne A h6 hU up).2 _) #[Array.Perm.refl _,rfl,rfl,rfl] (by rw[Q9];lia) (by rw[Q9];show dE) λy a1 a2 a3=>#[a1,a2,a3]) ?_ λ_ _ e=>e
  rintro⟨⟨⟩,y⟩ s' ⟨es,pm,fl,u⟩;subst es;dsimp only;let#[o1,o2]:=Lb KQ H up pm u;refine ak<|Q8 Ks za<|ak<|Ih Ks za ?_ (hsz2:=by rw[Array.size_map,pm.size_eq,Q9];show big);rw[fl,bne_self_eq_false];show ax<|fin _ o1 o2
theorem GP (hl:∀ (A) {Q:List au->aI->zb},Q vs { s with heap:=(s.heap.push<|seqObj "list" #[] 0).update s.heap.objs.size (Obj.mapSeq (·++vs.toArray)) }->wpAny (model prog w) A (collect<|.ref l) Q E s) (H:∀ v∈vs,∃ ns,P s.heap v ns) (hU:A.units+8<=U) (S:vs≠[]->VQ P prog w U s vs) (dE:vs.length<64)
 (h:∀ out,out.toList.Perm vs->uJ P s.heap out.toList->Q (.ref<|s.heap.objs.size+1) { s with heap:=sortedAll s.heap vs out }):wpAny (model prog w) A (call (.builtin "sorted") [.ref l]) Q E s:=by
 refine UJ QX QY QZ (Q0 _) ?_;refine ak<|ax<|ak<|hl _<|ak<|yC ?_;generalize eg:(s.heap.push<|seqObj "list" #[] 0).update s.heap.objs.size (Obj.mapSeq (·++vs.toArray))=g;have sg:g.objs.size=s.heap.objs.size+1:=by rw[<-eg,Yn,Ii]
 have up:∀ v ns,P s.heap v ns->P (g.push<|seqObj "list" vs.toArray 0) v ns:=λv ns p=>by
  rw[<-eg];show KQ.push (KQ.upd (KQ.push p _) (bD _ za) _) _
 have gl:(g.push<|seqObj "list" vs.toArray 0).get? (s.heap.objs.size+1)=ae (seqObj "list" vs.toArray 0):=by rw[<-sg];show bD _ za
 rw[sg];refine ak<|eV<|qc Q2 #[_,gl,rfl] Q3 (Fo KQ gl (λv m=>let ⟨ns,p⟩:=H v m;#[ns,up v ns p]) (by lia) (λne A h2 hu k=>S ne A h2 hu λv ns p=>k v ns<|up v ns p) dE λout o1 o2=>#[_,rfl,ax #[_,rfl,?_]])<|Q4 _;have:=h out o1<|List.Pairwise.imp (λ{x y} r ns ms p q=>r ns ms (up _ _ p)<|up _ _ q) o2;unfold sortedAll at this;rw[eg]at this;show this
omit KQ
end
end HT
namespace L2.DL

theorem Cu:∀ {rs:List ai}{us},Vals (rs.map V.ref) us->us=rs.map Value.ref
 |[],_,.nil=>rfl
 | r::rs,_,.cons q t=>by
   cases q;rw[Cu t];rfl
end L2.DL
namespace HT
inductive aO where
 |i (n:Int)|s (x:Str)
 deriving DecidableEq
noncomputable def aO.code:aO->List Int
 |.i n=>[n]
 |.s x=>x.cps.toList.map (λ(c:Nat)=>(c:Int)+1)++[0]
noncomputable def aO.like:aO->aO->Bool
 |.i _,.i _=>ag
 |.s _,.s _=>ag
 |_,_=>af
def a7 (l:List aO):List Int:=l.flatMap (λd=>1::d.code)++[0]
def eB (l m:List aO):Bool:=(l.zip m).all λp=>p.1.like p.2
theorem Cw (r q):∀ (a b:List Nat),a≠b->lexLt ((a.map λ(c:Nat)=>(c:Int)+1)++[0]++r) ((b.map λ(c:Nat)=>(c:Int)+1)++[0]++q)=decide (a<b)
 |[],[],h=>absurd za h
 | [],y::b,_=>by
   change lexLt (0::_) (((y)+1)::_)=_;rw[gK,if_neg (by lia),decide_eq_true (by lia),decide_eq_true (by simp)]
 | x::a,[],_=>by
   change lexLt (((x)+1)::_) (0::_)=_;rw[gK,if_neg (by lia),decide_eq_false (by lia),decide_eq_false (by simp)]
 | x::a,y::b,h=>by
   change lexLt (((x)+1)::_) (((y)+1)::_)=_;rw[gK];by_cases e:x=y
   .subst e;rw[if_pos rfl];refine(Cw r q a b λz=>h (by rw[z])).trans ?_;by_cases c:a<b
    .rw[decide_eq_true c,decide_eq_true (by simpa using c)]
    .rw[decide_eq_false c,decide_eq_false (by simpa using c)]
   .rw[if_neg (by lia)];by_cases c:x<y
    .rw[decide_eq_true (by lia),decide_eq_true<|List.cons_lt_cons_iff.mpr<|.inl c]
    .rw[decide_eq_false (by lia),decide_eq_false ?_];intro z;rcases List.cons_lt_cons_iff.mp z with z|z
     .lia
     .lia
noncomputable def aO.lt:aO->aO->Bool
 |.i n,.i m=>decide (n<m)
 |.s x,.s y=>decide (x.cps.toList<y.cps.toList)
 |_,_=>af
theorem aO.app (r q):∀ {a b:aO},a.like b=ag->a≠b->lexLt (a.code++r) (b.code++q)=a.lt b
 | .i n,.i m,_,h=>by
   change lexLt (n::r) (m::q)=_;rw[gK,if_neg λz=>h (by rw[z])];rfl
 |.s x,.s y,_,h=>Cw r q _ _ λz=>h (by
  let#[#[a]]:=x;let#[#[b]]:=y;have z':a=b:=z;rw[z'])
theorem Lc (a r q):lexLt (a++r) (a++q)=lexLt r q:=by
 induction a with
 |nil=>rfl
 |cons x a ih=>rw[vj,vj,gK,if_pos rfl,ih]
def cA:List aO->List aO->Bool
 |[],m=>!m.isEmpty
 |_::_,[]=>af
 |a::l,b::m=>if a=b then cA l m else a.lt b
theorem lj:∀ (l m),eB l m=ag->lexLt (a7 l) (a7 m)=cA l m
 |[],[],_=>rfl
 | [],b::m,_=>by
   change lexLt _ _=_;rfl
 | a::l,[],_=>by
   change lexLt _ _=_;rfl
 | a::l,b::m,h=>by
   have h':(a.like b&&eB l m)=ag:=h;rw[aH]at h';have e1:a7 (a::l)=1::(a.code++a7 l):=by simp[a7]
   have e2:a7 (b::m)=1::(b.code++a7 m):=by simp[a7]
   rw[e1,e2,gK,if_pos rfl];unfold cA;by_cases c:a=b
   .rw[if_pos c,c,Lc];show lj l m h'.2
   .rw[if_neg c];show aO.app _ _ h'.1 c
noncomputable def nO (h:aK) (v:au):aO->zb
 |.i n=>∃ t,v=.int n t
 |.s x=>∃ t,v=.str x t
inductive dJ (h:aK):List au->List aO->zb
 |nil:dJ h [] []
 |cons {v:au}{d:aO}{vs:List au}{l:List aO}:nO h v d->dJ h vs l->dJ h (v::vs) (d::l)
def rh (L:List<|List aO) (h:aK) (v:au) (ns:List Int):zb:=∃ a vs n l,v=.ref a /\ IsTup h a vs.toArray /\ dJ h vs (.i n::l) /\ .i n::l∈L /\ ns=a7 (.i n::l)
theorem nO.inj:∀ {a b},nO h v a->nO h v b->a=b
 |.i n,.i m,⟨t,e⟩,⟨u,f⟩=>by rw[e]at f;cases f;rfl
 |.s n,.s m,⟨t,e⟩,⟨u,f⟩=>by rw[e]at f;cases f;rfl
 |.i n,.s m,⟨t,e⟩,⟨u,f⟩=>by rw[e]at f;cases f
 |.s n,.i m,⟨t,e⟩,⟨u,f⟩=>by rw[e]at f;cases f
theorem dJ.inj (p:dJ h vs l) (q:dJ h vs m):l=m:=by
 induction p generalizing m with
 |nil=>cases q;rfl
 |cons a _ ih=>cases q with|cons b q=>rw[a.inj b,ih q]
theorem nO.keep (p:nO h v d):nO h' v d:=by
 cases d with
 |i n=>show p
 |s x=>show p
theorem dJ.keep (p:dJ h vs l):dJ h' vs l:=by
 induction p with
 |nil=>show .nil
 |cons a _ ih=>show .cons a.keep ih
theorem Ld (o):∀ a vs,IsTup h a vs->IsTup (h.push o) a vs:=λa vs ⟨u,e1,e2⟩=>#[u,aR _ e1,e2]
theorem Nq (hl:h.get? l=ae (seqObj "list" xs n)) (f):∀ a vs,IsTup h a vs->IsTup (h.update l f) a vs:=λa vs ⟨u,e1,e2,e3⟩=>by
 refine#[u,?_,e2,e3];by_cases q:l=a
 .subst q;rw[hl]at e1;cases e1;injection (e2) with e4;show absurd e4 (by decide)
 .rw[Heap.get?_update_ne _ _ _ _<|Ne.symm q];show e1
theorem bV (L):KP (rh L) where
 inj:=by
  rintro h v ns ms ⟨a,vs,n,l,rfl,⟨o,e1,_,k,e2⟩,i1,_,rfl⟩ ⟨a',Em,n',l',e,⟨o',f1,_,k',f2⟩,i2,_,rfl⟩;cases e;rw[e1]at f1;cases f1;rw[e2]at f2;injection f2 with g _;have:vs=Em:=by simpa using g
  subst this;rw[i1.inj i2]
 push:=λ⟨a,vs,n,l,e,t,i,m,c⟩ o=>#[a,vs,n,l,e,Ld o _ _ t,i.keep,m,c]
 upd:=λ⟨a,vs,n,l,e,t,i,m,c⟩ _ _ _ hl f=>#[a,vs,n,l,e,Nq hl f _ _ t,i.keep,m,c]

theorem Tb (hu:A.units<cLine) (p:nO s.heap v a) (q:nO s.heap u b) (hl:a.like b=ag) (h:Q (decide (a=b)) s):wpAny (model prog w) A (eqBool v u) Q E s:=by
 cases a with
 |i n=>
   cases b with
   |i m=>
     let#[t,rfl]:=p;let#[t',rfl]:=q;refine WX ?_;rw[show (n==m)=decide (aO.i n=aO.i m) by by_cases e:n=m<;>simp[e]];show h
   |_=>cases hl
 |s x=>
   cases b with
   |s y=>
     let#[t,rfl]:=p;let#[t',rfl]:=q;refine UR x t y t' prog w E Q ?_;rw[show (x==y)=decide (aO.s x=aO.s y) by by_cases e:x=y<;>simp[e]];show h
   |_=>cases hl
theorem Tc (hu:A.units<cLine) (k) (hk:k=ag->∃ n,a=.i n) (p:nO s.heap v a) (q:nO s.heap u b) (hl:a.like b=ag) (h:Q (a.lt b) s):wpAny (model prog w) A (oneLt' k v u) Q E s:=by
 have gen:∀ {v u}{c},k=af->(∀ {R},R (.bool c) s->wpAny _ A (compareOp .Lt v u) R E s)->Q c s->wpAny (model prog w) A (oneLt' k v u) Q E s:=λ{v u c} z f h=>by
  rw[oneLt'_eq,z,if_neg (by simp)];show ak<|f<|qb h
 cases a with
 |i n=>
   cases b with
   |i m=>let#[t,rfl]:=p;let#[t',rfl]:=q;show Dz k h
   |_=>cases hl
 |s x=>
   cases b with
   |s y=>let#[t,rfl]:=p;let#[t',rfl]:=q;show gen (by cases k with|true=>let#[n,e]:=hk za;cases e|false=>rfl) (λr=>lt_str r) h
   |_=>cases hl
theorem dJ.length (p:dJ h vs l):vs.length=l.length:=by
 induction p with
 |nil=>rfl
 |cons _ _ ih=>rw[a6,a6,ih]
theorem Nr (hu:A.units<cLine) (p:dJ s.heap vs l) (q:dJ s.heap us m) (hl:eB l m=ag) (i) (h0:i=0->∀ d r,l=d::r->∃ n,d=.i n)
 (k:∀ r,(r=(ae<|cA l m,PUnit.unit) \/ (r=(ah,PUnit.unit) /\ cA l m=decide (vs.length<us.length)))->R r s) :
 wpAny (model prog w) A (forIn ((vs.zip us).zipIdx i) ((ah,PUnit.unit)) λ(z) _=>(do
  let z1 <-eqBool z.1.1 z.1.2
  if (!z1)=ag then do
   let r <-oneLt' (ag&&z.2==0) z.1.1 z.1.2
   pure (ForInStep.done (ae r,PUnit.unit))
  else pure (ForInStep.yield (ah,PUnit.unit)))) R E s:=by
 induction p generalizing us m i with
 |nil=>
   refine ax<|k _<|.inr #[rfl,?_];cases q with
   |nil=>rfl
   |cons _ q=>unfold cA;simp
 |@cons v d vs l pa p ih=>
   cases q with
   |nil=>
     show ax<|k _ (.inr #[rfl,by unfold cA;simp])
   |@cons u e us m qa q=>
     have nv:(d.like e&&eB l m)=ag:=hl;rw[aH]at nv;rw[qi,QJ,wK];refine ak<|ak<|Tb hu pa qa nv.1 ?_;by_cases c:d=e
     .subst c;rw[if_neg (by simp)];refine ax<|ih q nv.2 _ (λz=>by lia) λr hr=>k r ?_;have:cA (d::l) (d::m)=cA l m:=by conv=>lhs;unfold cA;rw[if_pos rfl]
      rw[this];rcases hr with hr|⟨hr,ET⟩
      .show .inl hr
      .show .inr #[hr,by rw[ET];simp]
     .rw[if_pos (by simp[c])];refine ak (Tc hu _ (λz=>?_) pa qa nv.1<|ax<|ax<|k _<|.inl ?_)
      .have:i=0:=by simpa using z
       show h0 this d l za
      .have:cA (d::l) (e::m)=d.lt e:=by conv=>lhs;unfold cA;rw[if_neg c]
       rw[this]
theorem Ba (C:∀ l∈L,∀ m∈L,eB l m=ag) (hU:U<cLine) (H:∀ v∈vs,∃ ns,rh L s.heap v ns) (ne:vs≠[]):VQ (rh L) prog w U s vs:=λA h' hu up=>by
 have H':∀ v∈vs,∃ ns,rh L h' v ns:=λv m=>let ⟨ns,p⟩:=H v m;#[ns,up v ns p]
 refine#[λ{Q E} h=>?_,λE=>?_]
 .have firsts:∀ (us:List au),(∀ v∈us,∃ ns,rh L h' v ns)->∀ {Q}{E},(∀ (ws) (is),ws.length=us.length->IntsAre ws is->Q (ws.map ae) { s with heap:=h' })->wpAny (model prog w) A (us.mapM firstOfTuple') Q E { s with heap:=h' }:=by
   intro us;induction us with
   |nil=>intro _ Q E k;rw[List.mapM_nil];show ax<|k [] [] za .nil
   |cons u us ih=>
     intro G Q E k;let#[ns,a,xs,n,l,rfl,#[o,e1,e3,c,e2],it,_,_]:=G u<|bM ..;rw[List.mapM_cons];refine ak<|?_;refine ak<|wu #[o,e1,e3] ?_;rw[if_neg (by decide)];refine ak<|wV e1 e2<|ax ?_;cases it with
     |cons hv _=>
       let#[t,rfl]:=hv;show ak<|ih (λv m=>G v<|bC _ m) λws is e q=>ax<|k _ _ (by simp[e])<|.cons n t q
  rw[keyKind'_eq,X6];refine ak<|?_;rw[<-bind_pure_comp];refine ak<|firsts vs H' λus is e k=>ax ?_;rw[if_pos (by simp)];refine ak<|sR ?_;have e1:((us.map ae).toArray.filterMap id)=us.toArray:=by simp
  rw[e1,oneTypeOnly'_eq,X6,mapM_typeOf_ints k];cases us with
  |nil=>show absurd (Ia e.symm) ne
  |cons u us=>
    erw[map_pure,pure_bind];rw[show ((u::us).map λ_=>Value.type "int").toArray[0]?=ae (Value.type "int") by simp];dsimp only;rw[if_pos (by simp)];show ak<|ax<|ax h
 .intro x y mx my Q E' q;rw[Yy]at mx my;let#[ns,hx]:=H' _ (Q7 mx).2;let#[ms,hy]:=H' _ (Q7 my).2
  change Q (lexLt (((uI (rh L) h').keyOf x.1).getD [])<|((uI (rh L) h').keyOf y.1).getD []) _ at q
  rw[(oF (bV L) hx),(oF (bV L) hy)]at q;let#[a,ahr,n1,l1,e1,#[o1,x1,x2,c1,x3],i1,m1,rfl]:=hx;let#[b,Ez,n2,l2,e2,#[o2,y1,y2,c2,y3],i2,m2,rfl]:=hy;have lk:=C _ m1 _ m2;rw[lj _ _ lk]at q;rw[e1,e2,BE];refine ak<|wV x1 x3<|ak<|wV y1 y3 ?_;refine ak<|Nr (vd hu hU) i1 i2 lk 0 (λ_ d r z=>by cases z;show#[n1,rfl]) λr hr=>?_;rcases hr with rfl|⟨rfl,e⟩
  .show ax q
  .refine ax ?_;rw[bY,bY,<-e];show q
end HT
namespace L2.DL
open HT (aO a7 eB lexLt)
noncomputable def Kt:D->Option aO
 |.int i=>ae<|.i i
 |.str x=>ae<|.s x
 |_=>ah
noncomputable def kh:aO->D
 |.i n=>.int n
 |.s x=>.str x
def sH:List D->Option (List aO)
 |[]=>ae []
 |d::l=>(Kt d).bind λa=>(sH l).map λr=>a::r
def rowOf:D->Option (List aO)
 |.tup (.int i::l)=>(sH l).map λr=>.i i::r
 |_=>ah
def rowsOf:List D->Option (List<|List aO)
 |[]=>ae []
 |d::l=>(rowOf d).bind λa=>(rowsOf l).map λr=>a::r
def cU (l:List aO):D:=.tup<|l.map kh
theorem Nt (e:Kt d=ae a):d=kh a:=by
 cases d with
 |int i=>cases e;rfl
 |str x=>cases e;rfl
 |_=>cases e
theorem Ah:∀ {l}{r},sH l=ae r->l=r.map kh:=by
 intro l_;induction l_ with
 |nil=>(intro _ e;cases e;rfl)
 |cons d l aA=>
   intro r e;unfold sH at e;cases q:Kt d with
   |none=>rw[q]at e;cases e
   |some a=>
     cases q2:sH l with
     |none=>rw[q,q2]at e;cases e
     |some t=>rw[q,q2]at e;cases e;rw[Nt q,aA q2];rfl
theorem Le (e:rowOf d=ae r):d=cU r /\ ∃ n l,r=.i n::l:=by
 unfold rowOf at e;split at e
 .ext i l;cases q:sH l with
  |none=>rw[q]at e;cases e
  |some t=>rw[q]at e;cases e;rw[Ah q];show#[rfl,i,t,rfl]
 .cases e
theorem Bb:∀ {l}{rs},rowsOf l=ae rs->l=rs.map cU /\ ∀ r∈rs,∃ n l,r=.i n::l:=by
 intro l_;induction l_ with
 |nil=>(intro _ e;cases e;show#[rfl,λr m=>nomatch m])
 |cons d l aA=>
   intro rs e;unfold rowsOf at e;cases q:rowOf d with
   |none=>rw[q]at e;cases e
   |some a=>
     cases q2:rowsOf l with
     |none=>rw[q,q2]at e;cases e
     |some t=>
       rw[q,q2]at e;cases e;let#[h1,h2]:=Le q;let#[h3,h4]:=aA q2;refine#[by rw[h1,h3];rfl,λr m=>?_];rcases a9.mp m with rfl|m
       .show h2
       .show h4 r m
def nP (rs:List<|List aO):List (List aO):=rs.mergeSort λa b=>!lexLt (a7 b) (a7 a)
theorem iY (rs):(nP rs).Perm rs:=X2 rs _
theorem jb (rs):(nP rs).Pairwise (λa b=>lexLt (a7 b) (a7 a)=af):=(X3 (le:=λa b:List aO=>!lexLt _ (a7 a)) (λa b c h1 h2=>by
 cases e:lexLt _ (a7 a) with
 |false=>rfl
 |true=>
   rcases HT.A9 _ _ _ e with z|z
   .rw[z]at h2;cases h2
   .rw[z]at h1;cases h1) (λa b=>by
 rw[sV,kL,kL];cases e:lexLt _ (a7 a) with
 |false=>show .inl za
 |true=>
   cases f:lexLt _ (a7 b) with
   |false=>show .inr za
   |true=>have:=HT.jk _ _ _ e f;rw[HT.ip]at this;cases this) rs).imp λ{a b} z=>by simpa using z
theorem Ai:∀ {a b:List Nat},¬ a<b->¬ b<a->a=b
 |[],[],_,_=>rfl
 |[],y::b,h,_=>absurd (by simp) h
 |x::a,[],_,h=>absurd (by simp) h
 | x::a,y::b,h,g=>by
   rw[List.cons_lt_cons_iff]at h g;have e:x=y:=by
    rcases Nat.lt_trichotomy x y with z|z|z
    .show absurd (.inl z) h
    .show z
    .show absurd (.inl z) g
   subst e;rw[Ai (λz=>h<|.inr #[rfl,z]) λz=>g<|.inr #[rfl,z]]
theorem RH:∀ {a b:aO},a.like b=ag->a.lt b=af->b.lt a=af->a=b
 | .i n,.i m,_,h,g=>by
   have h':=of_decide_eq_false h;have g':=of_decide_eq_false g;rw[show n=m by lia]
 | .s x,.s y,_,h,g=>by
   have:=Ai (of_decide_eq_false h)<|of_decide_eq_false g;let#[#[a]]:=x;let#[#[b]]:=y;have z':a=b:=this;rw[z']
theorem code_inj:∀ {l m},eB l m=ag->a7 l=a7 m->l=m
 |[],[],_,_=>rfl
 | [],b::m,_,e=>by
   have e':([0])=1::(b.code++a7 m):=by rw[show (1::(b.code++a7 m))=a7 (b::m) by simp[a7]];show e
   simp at e'
 | a::l,[],_,e=>by
   have e':1::(a.code++a7 l)=([0]):=by rw[show (1::(a.code++a7 l))=a7 (a::l) by simp[a7]];show e
   simp at e'
 | a::l,b::m,h,e=>by
   have h':(a.like b&&eB l m)=ag:=h;rw[aH]at h';have e':a.code++a7 l=b.code++a7 m:=by
    have:1::(a.code++a7 l)=1::(b.code++a7 m):=by rw[show (1::(a.code++a7 l))=a7 (a::l) by simp[a7],show (1::(b.code++a7 m))=a7 (b::m) by simp[a7]];show e
    show(List.cons.inj this).2
   have ab:a=b:=by
    by_cases c:a=b
    .show c
    .have x1:=HT.aO.app (a7 l) (a7 m) h'.1 c;have x2:=HT.aO.app (a7 m) (a7 l) ((λh=>by cases a<;>cases b<;>first|rfl|cases h) h'.1) λz=>c z.symm;rw[e',HT.ip]at x1;rw[<-e',HT.ip]at x2;show RH h'.1 x1.symm x2.symm
   subst ab;rw[code_inj h'.2<|List.append_cancel_left e']
theorem Ku {α β:Type}{f}{l n:List β}(h:l.Perm n):∀ {m},n=m.map f->∃ m':List α,l=m'.map f /\ m'.Perm m:=by
 induction h with
 |nil=>intro m e;cases m with|nil=>show⟨[],rfl,.nil⟩|cons _ _=>cases e
 |cons x _ ih=>
   intro m e;cases m with
   |nil=>cases e
   |cons a m=>
     let#[e1,e2]:=List.cons.inj e;let#[m',q1,q2]:=ih e2;show#[a::m',by rw[aQ,<-q1,e1],q2.cons a]
 |swap x y l=>
   intro m e;match m,e with
   |a::b::m,e=>
     let#[e1,e2]:=List.cons.inj e;let#[e2,e3]:=List.cons.inj e2;show#[b::a::m,by rw[aQ,aQ,<-e1,<-e2,<-e3],.swap ..]
 |trans _ _ aeN aeO=>
   intro m e;let#[m2,q1,q2]:=aeO e;let#[m1,q3,q4]:=aeN q1;show#[m1,q3,q4.trans q2]
def tU (rs:List<|List aO):Bool:=rs.all λa=>rs.all λb=>eB a b
theorem m9 (hl:tU rs=ag) (p:a.Perm rs) (ha:a.Pairwise λa b=>lexLt (a7 b) (a7 a)=af):a=nP rs:=by
 refine(p.trans (iY rs).symm).eq_of_pairwise (λx y mx my h1 h2=>code_inj ((λx mx y my=>cb.mp (cb.mp hl x mx) y my) x (p.mem_iff.mp mx) y<|(iY rs).mem_iff.mp my)<|HT.iQ _ _ h2 h1) ha (jb rs)

theorem DA (I:Inv X pins σ H s) (sub:Sub F H):∀ {l}{vs}{us},aG F (l.map kh) vs->Vals vs us->HT.dJ s.heap us l:=by
 intro l_;induction l_ with
 |nil=>(intro _ _ h r;cases (h);cases r;show .nil)
 |cons a l aA=>
   intro _ _ h r;let#[v,t,rfl,h1,h2]:=h;cases r with
   | cons r1 r2=>show .cons ((λI sub h r=>by
     cases a with
     |i n=>cases (h);show r
     |s x=>cases (h);show r) I sub h1 r1)<|aA h2 r2
theorem Nu:∀ {rs}{vs},aG F (rs.map cU) vs->∃ ps:List (ai×List aO),vs=ps.map (λp=>V.ref p.1) /\ rs=ps.map (·.2) /\ ∀ p∈ps,Den F (cU p.2) (.ref p.1):=by
 intro l_;induction l_ with
 |nil=>(intro _ h;show#[[],h,rfl,λp m=>nomatch m])
 |cons r rs aA=>
   intro _ h;let#[v,t,rfl,h1,h2]:=h;let#[ps,e1,e2,e3]:=aA h2;let#[a,ws,rfl,h3,h4]:=id h1;refine#[(a,r)::ps,by rw[e1];rfl,by rw[e2];rfl,λp m=>?_];rcases a9.mp m with rfl|m
   .show h1
   .show e3 p m
theorem Lf:∀ {ps:List (ai×List aO)},(∀ p∈ps,Den F (cU p.2)<|.ref p.1)->aG F ((ps.map (·.2)).map cU) (ps.map λp=>V.ref p.1):=by
 intro l_;induction l_ with
 |nil=>show λ_=>rfl
 |cons p ps aA=>show λh=>.cons (h p<|bM ..)<|aA λq m=>h q<|bC _ m

def aaG (K:PySem.W.Frag) (vs:List V) (H:Hp) (Q:VK):zb:=∃ (F:Hp) (p:ai) (xs:List V) (rs:List _),vs=[.ref p] /\ Sub F H /\ (bN K H p xs \/ cK K H p xs) /\ aG F (rs.map cU) xs /\ (∀ r∈rs,∃ n l,r=.i n::l) /\ rs.length<64 /\ tU rs=ag /\
 ∀ (q) (ys),H q=ah->aG F ((nP rs).map cU) ys->Q (.ref q) (upd H q<|.lst ys)
theorem DB (hu:X.A.units+100<cLine):pK X (.builtin "sorted") (aaG X.K):=by
 intro pins s σ H xs us Q I rv h;let#[F,p,vs,rs,rfl,sub,hp,hd,hf,dE,aaH,q]:=h;let#[u,rfl,ru]:=Vals.one rv;cases ru;have gt:∃ its,Vals vs its /\ ∀ (A) (E) {Q},vs.length<=sizeLine->Q its { s with heap:=(s.heap.push<|seqObj "list" #[] 0).update s.heap.objs.size (Obj.mapSeq (·++its.toArray)) }->wpAny (model X.prog X.w) A (collect<|.ref p) Q E s:=by
  rcases hp with hp|hp
  .let#[its,r1,p1,z1]:=I.list hp;show#[its,r1,λA E Q z h=>collect_list (hsz:=by have:=r1.length;simp;lia) p1.isList h]
  .let#[its,r1,p1,z1]:=I.tuple hp;show#[its,r1,λA E Q z=>HT.mZ p1 (by rw[<-r1.length];show z)]
 let#[its,r1,p1]:=gt;let#[ps,e1,e2,e3]:=Nu hd;subst e1;have ei:its=ps.map λp=>Value.ref p.1:=by
  have:=Cu (by rw[cw];show r1);rw[this,cw];rfl
 subst ei;have row:∀ p∈ps,HT.rh rs s.heap (.ref p.1) (a7 p.2):=λp m=>by
  have mr:p.2∈rs:=by rw[e2];show bc.mpr #[p,m,rfl]
  let#[n,l,el]:=hf _ mr;let#[b,ws,eb,h3,h4]:=(e3 p m);cases eb;let#[us,r',pl,_]:=I.tuple<|.of<|sub _ _ h3;rw[el]at h4 mr;show#[p.1,us,n,l,rfl,pl,DA I sub h4 r',mr,by rw[el]]
 have HH:∀ v∈ps.map (λp=>Value.ref p.1),∃ ns,HT.rh rs s.heap v ns:=λv m=>by
  let#[r,mr,rfl]:=bc.mp m;show#[_,row r mr]
 have ln:ps.length=rs.length:=by rw[e2,aV]
 refine HT.GP (HT.bV rs) (λA Q=>p1 A _ (by rw[aV,ln];show cu (kK dE) (by decide))) HH (aB _) (λne=>HT.Ba (λx mx y my=>cb.mp (cb.mp aaH x mx) y my) (by lia) HH ne) (by rw[aV,ln];show dE) λout o1 o2=>?_;let#[uK,q1,q2]:=Ku o1 za;let#[k,he]:=Yv s.heap (ps.map λp=>Value.ref p.1) out;have ord:(uK.map (·.2)).Pairwise (λa b=>lexLt (a7 b) (a7 a)=af):=by
  unfold HT.uJ at o2;rw[q1,uh]at o2;rw[uh];show Za (λ{a b} ma mb r=>r _ _ (row a<|q2.mem_iff.mp ma)<|row b<|q2.mem_iff.mp mb) o2
 have ll:(uK.map λp=>V.ref p.1).length<=sizeLine:=by
  rw[aV,q2.length_eq,ln];show cu (kK dE) (by decide)
 refine#[.ref<|s.heap.objs.size+1,_,I.laid (λb ob q=>Yw q) (sU _) ?_,rfl,q _ _ (I.ay.fresh<|sU _) (by rw[<-(m9 aaH (by rw[e2];show q2.map _) ord)];show Lf λp m=>e3 p<|q2.mem_iff.mp m)];refine#[ll,out.toList,k,?_,he];rw[q1];have:∀ l:List (ai×List aO),Vals (l.map λp=>V.ref p.1) (l.map λp=>Value.ref p.1):=λl=>by
  induction l with
  |nil=>show .nil
  |cons a l ih=>show .cons za ih
 show this uK
def dF:List D->Option Res:=λxs=>match tL xs with
 |some r=>ae r
 | none=>match xs with
   |[.lst l]=>(rowsOf l).bind λrs=>if rs.length<64 /\ tU rs=ag then ae (.lst<|(nP rs).map cU) else ah
   |[.tup l]=>(rowsOf l).bind λrs=>if rs.length<64 /\ tU rs=ag then ae (.lst<|(nP rs).map cU) else ah
   |_=>ah
theorem DC (hu:X.A.units+100<cLine):pK X (.builtin "sorted") (λvs H Q=>VG X.K vs H Q \/ aaG X.K vs H Q):=λpins s σ H xs us Q I rv h=>h.elim (GF pins s σ H xs us Q I rv)<|DB hu pins s σ H xs us Q I rv
end L2.DL
namespace L2

theorem Fp
 (hc:X.calm=ag) (S:sf X N src scope) (hi:PI X tg iter wi)
 (hg:∀ cl s H C fp,PG (X.comp N scope cl s H C fp) tg g) (hf:∀ cl s H C fp,PF (X.comp N scope cl s H C fp) ifs tf) (he:∀ cl s H C fp,PE (X.comp N scope cl s H C fp) elt te)
 (hN:X.N.Nodup) (nQ:X.N[ii]?=ae x) (hx:Loc X.env.scope x) (EU:swapsWith (.ListComp elt [#[tg,iter,ifs,0]] scope pos) (ae<|.Name x pos') EV.line X.env=pure ag)
 (EW:X.fn x=ag \/ X.env.scope.names.lookup x=ae .local)
 (hs:∀ x,foldedSetIterable iter X.env x=pure x:=by intro _;rfl):PS X (.Assign [.Name x pos'] (.ListComp elt [#[tg,iter,ifs,0]] scope pos) EV) (U2 (Ee src wi g tf te)<|U1 ii):=by
 intro pins s σ H Dn I h;rw[exec_Assign_Name_used _ _ _ _ EU];refine ak<|HJ<|ak ?_
 change wpAny _ X.A _ _ _ s
 refine ak<|kq (A0 (Q':=λ_ s'=>SP X pins Dn .next s') hc S hi hg hf he hs I h λD C s3 s6 H3 H5 m6 I3 hC cf Eh fin q5 {r}=>?_) (λ_ s' hq=>ax<|ax hq) λ_ _ q=>q
 change wpAny _ X.A (assign (.Name x pos') X.env<|.ref D) _ _ s6
 refine W2<|AS (v:=.ref D) (fin s6.heap<|Heap.SameBut.refl ..) hN nQ hx za (λs7 I7 ⟨a,sb,ha⟩=>?_) EW;have aeP:C≠a:=λz=>by
  rcases ha with w1|w1
  .have l1:X.env.locals<s3.heap.objs.size:=I3.lt;rw[<-w1,<-z,<-hC]at l1;show eW _ l1
  .let#[v1,o1,w2,_]:=I3.cell x a w1;have l1:=bb w2;rw[<-z,<-hC]at l1;show eW _ l1
 refine#[m6,Eh.sameBut sb aeP,λh' Eg=>?_];have Ka:H5 C=ah:=cf;refine#[σ.set ii<|ae<|.ref D,H5,?_,q5];have aeQ:X.env.locals≠C:=λz=>by have l1:=I3.lt;rw[z,<-hC]at l1;show eW _ l1
 refine I7.turned (t':=s7.toks) (it:=C) (λb o hb e=>Eg.extBut b o hb e) Ka (Ne.symm aeQ) (.inr ?_) (λy c e z=>?_) λp hp z=>?_
 .rw[<-hC];show I3.sz
 .let#[v1,o1,w2,_]:=I3.cell y c e;have l1:=bb w2;rw[z,<-hC]at l1;show eW _ l1
 .have l1:=bb (I3.pin p hp).1;rw[z,<-hC]at l1;show eW _ l1
end L2
namespace L2.DL

theorem Lg (i) (bo) (hc:X.calm=ag) (S:sf X N src scope) (hi:xE X T Z tg iter mi)
 (hg:∀ T cl s H C fp,qT (X.comp N scope cl s H C fp) T tg g) (hf:∀ T cl s H C fp,PF (X.comp N scope cl s H C fp) ifs<|vE T #[E0,Z.cl] tf) (he:∀ T cl s H C fp,PD (X.comp N scope cl s H C fp) T #[E0,Z.cl] elt te)
 (hN:X.N.Nodup) (nQ:X.N[i]?=ae x:=by rfl) (hx:Loc X.env.scope x:=by first|show Or.inl za|show Or.inr za) (EU:swapsWith (.ListComp elt [#[tg,iter,ifs,0]] scope pos) (ae<|.Name x pos') EV.line X.env=pure ag:=by rfl)
 (EW:X.fn x=ag \/ X.env.scope.names.lookup x=ae .local:=by first|show .inl za|show .inr za|assumption)
 (hs:∀ x,foldedSetIterable iter X.env x=pure x:=by intro _;rfl):d9 X T Z (.Assign [.Name x pos'] (.ListComp elt [#[tg,iter,ifs,0]] scope pos) EV) (fO (gc bo src mi g tf te)<|ff i):=by
 refine PS.imp (Fp (g:=Ew g) (tf:=Ex _ tf) (te:=Ey _ te) hc S hi (λcl s H C fp pins s' σ' H' v u Q I rv ⟨T,q⟩=>hg T cl s H C fp pins s' σ' H' v u Q I rv q)
  (λcl s H C fp pins s' σ' H' Q I ⟨T,q⟩=>hf T cl s H C fp pins s' σ' H' Q I q) (λcl s H C fp pins s' σ' H' Q I ⟨T,q⟩=>he T cl s H C fp pins s' σ' H' Q I q) hN nQ hx EU EW hs) λD σ H=>bg λF r env bx R h=>(JX #[F,r,env,bx,R,End.bj h λw bx1 F1 r1 v H1 g1 R1 d1 h1=>h1 F1 r1 _ H1 (.refl F1 r1)<|R1.set d1 i])
noncomputable def cG:aD->Bool
 |.Starred _ _=>af
 |_=>ag
def eT:List aD->Bool
 |[]=>ag
 |e::es=>cG e&&eT es
theorem fH (h:cG e=ag) (es) (env):starEach (e::es) env=(af,eval e env)::starEach es env:=by
 cases e<;>first|rfl|cases h
theorem gY:∀ {es},eT es=ag->(backTo pos<|starEach es env).any (·.1)=af:=by
 intro l_;induction l_ with
 |nil=>show λ_=>rfl
 |cons e es aA=>
   intro h;have h':(cG e&&eT es)=ag:=h;rw[aH]at h';rw[fH h'.1];change (af||(backTo pos _).any _)=af;rw[aA h'.2];rfl
theorem gz (h:eT (e::es)=ag):cG e=ag /\ eT es=ag:=by
 have h':(cG e&&eT es)=ag:=h
 rwa [aH]at h'
theorem j0 (h:cG e=ag) (es) (env):assignEach (e::es) env=(af,assign e env)::assignEach es env:=by
 cases e<;>first|rfl|cases h
theorem Aj:∀ {es},eT es=ag->(assignEach es env).length=es.length /\ (assignEach es env).findIdx? (·.1)=ah:=by
 intro l_;induction l_ with
 |nil=>show λ_=>#[rfl,rfl]
 |cons e es aA=>
   intro h;let#[h1,h2]:=gz h;let#[a,b]:=aA h2;rw[j0 h1];show#[by rw[a6,a6,a],by rw[List.findIdx?_cons,b];rfl]

theorem l7 (ha:PD X T Z e ma) (hr:pd X T Z es m) (hn:cG e=ag:=by rfl):pd X T Z (e::es) (fc ma m):=(λha hr hs=>PA.imp (fA ha hr hs) λσ H Q ⟨F,r,env,bx,R,h⟩=>(#[F,r,env,bx,R,End.bind h λw bx1 F1 r1 v H1 g1 R1 d1 h1=>(#[F1,r1,env,bx1,R1,End.bind h1 λl aq F2 r2 vs H2 g2 R2 d2 h2=>(h2 F2 r2 _ H2 (.refl F2 r2) R2 #[v,vs,rfl,g2.den d1,d2])])])) ha hr<|fH hn es X.env
theorem Td {id} (bo) (hc:pK X (.builtin id) q) (hk:qP q g) (hg:Gl X x) (hm:X.mg x=ah) (hv:bootBuiltins x=ae (.builtin id)) (ha:pd X T Z (e::es) m)
 (cB:eT (e::es)=ag:=by rfl) (hn:x ≠ "__name__":=by decide) (cL:(x==("__debug__"))=af:=by decide):PD X T Z (.Call (.Name x p) (e::es) [] pos) (dN bo g m):=
 (λbo hc hk hg hm hv ha hn cL he dS=>PE.imp (fV hc hg hm hv ha hn cL he dS)<|JT hk) bo hc hk hg hm hv ha hn cL (fH (gz cB).1 es X.env) (gY (gz cB).2)
theorem RI {id} (bo) (hc:pK X (.type id) q) (hk:qP q g) (hg:Gl X x) (hm:X.mg x=ah) (hv:bootBuiltins x=ae (.type id)) (ha:pd X T Z (e::es) m)
 (cB:eT (e::es)=ag:=by rfl) (hn:x ≠ "__name__":=by decide) (cL:(x==("__debug__"))=af:=by decide):PD X T Z (.Call (.Name x p) (e::es) [] pos) (dN bo g m):=
 (λbo hc hk hg hm hv ha hn cL he dS=>PE.imp (Gu hc hg hm hv ha hn cL he dS)<|JT hk) bo hc hk hg hm hv ha hn cL (fH (gz cB).1 es X.env) (gY (gz cB).2)
theorem Te (h:rf X.prog X.w X.K X.mg X.base Z.cl k x ps fn) (hr:bH k' X.A) (hk:k<=k') (hg:Gl X x) (hx:Passes (dn X.prog X.w) X Z.E) (ha:pd X T Z (e::es) m)
 (cB:eT (e::es)=ag:=by rfl) (hn:ps.length=nn:=by rfl) (cL:(x==("__debug__"))=af:=by decide):PD X T Z (.Call (.Name x p) (e::es) [] pos) (fq fn nn m):=
 RG h hr hk hg hx ha cL (fH (gz cB).1 es X.env) (gY (gz cB).2) hn
open PySem.W
noncomputable def EX:List Str:=["NoHouse","NoOuts","NoRoom","NoHour","NoPages","NoLot","NoAsks","NoNumber","NoMoves","NoEach","NoOrder","NoPage","NoOut","Twice","Missing","TooMany","NoDeed"]
noncomputable def rm:List Str:=["house","outs","room","hour","pages","lot","asks","number","moves","each","order","page","out","twice","missing","many","deed"]
def wordOf (i:Nat):Str:=rm.getD i ""
structure kS (K:Frag) (mg:Str->Option au) (R:ai) (c:Nat->ai):zb where
 m:∀ i x,EX[i]?=ae x->mg x=ae (.ref<|c i)
 mR:mg "RimeError"=ae (.ref R)
 inst:mg "isinstance"=ah
 aeR:mg "ValueError"=ah
 ex:∀ i,i<17->excIn K (c i) Vs "ValueError.__new__"=ag
 ek:∀ i,i<17->xu K (c i)
 kt:∀ i j,i<17->j<17->kitOne K (.ref<|c i) (.ref<|c j)=ae (decide (i=j))
 kv:∀ i,i<17->kitOne K (.ref<|c i) (.type "ValueError")=ae ag
 kr:∀ i,i<17->kitCls K (.ref<|c i) (.ref R)=ae ag
 rb:mroIn K R (.type "BaseException")=ae ag
def aaI (c:Nat->ai):Sp:=λvs H Q _=>∃ (a:ai) (i:Nat),vs=[.ref a] /\ i<17 /\ H a=ae (.ext (kC a<|c i)) /\ ∀ H',eJ H H'->Q (.str<|wordOf i) H'
def EY (P:cS) (w:cg) (K:Frag) (mg:Str->Option au) (base:aK) (cl:Nat->ai):zb:=
 ∃ (f:ai) (fd:FuncData),El P w K mg base qK 1 f fd ["_law_e"] (aaI cl) /\ mg "_law_word"=ae (.ref f) /\ keepIn K (.ref f)=ag /\ Binds K fd ["_law_e"] []
section
variable {st:bJ}
def sI (c:Nat) (m:DE W):aE:=λenv bx=>bj (m env bx) λ_ bx1=>.exc c bx1
theorem GQ (c) (E:kS X.K X.mg R Z.cl) (hc:X.calm=ag) (l:uB X Z.E) (hg:Gl X x) (hx:EX[c]?=ae x) (he:PD X T Z e ma) (hi:c<17:=by decide) (cB:eT [e]=ag:=by rfl) (hd:(x==("__debug__"))=af:=by decide) :
 d9 X T Z (.Raise (ae<|.Call (.Name x np) [e] [] dG) ah pos) (sI c ma):=
 PS.imp (JO hc l hg (E.m c x hx) (E.ex c hi) he (fH (gz cB).1 [] X.env) hd) λD σ H=>bg λF r env bx Rr h=>
  #[F,r,env,bx,Rr,End.bj h λw bx1 F1 r1 v H1 g1 R1 d1 h1=>#[rfl,h1 F1 r1 H1 (.refl F1 r1) R1.drop]]
noncomputable def cZ:aE:=λ_ _=>.bad
theorem fK:d9 X T Z st cZ:=λ_ _ _ _ _ _ h=>by
 let#[_,_,_,_,_,h]:=h;show h.elim
theorem Rel.same (Rr:Rel T F r [] H [] bx) (s:eJ H H2):Rel T F r [] H2 [] bx:=
 #[λa u h=>s _ _<|Rr.fh a u h,λi w e=>by simp at e,Rr.len,Rr.nd,λn c a e1 e2=>by
  have:=Rr.box n c a e1 e2;cases c with
  |lst l=>let#[h1,vs,h2,h3]:=this;show#[h1,vs,s _ _ h2,h3]
  |az l=>let#[h1,vs,h2,h3]:=this;show#[h1,vs,s _ _ h2,h3]
  |dT l=>let#[h1,vs,h2,h3]:=this;show#[h1,vs,s _ _ h2,h3]
  |fD l=>let#[o,vs,h1,h2,h3]:=this;show#[o,vs,h1,s _ _ h2,h3]
  |ins C l=>let#[h1,dx,vs,h2,h3]:=this;show#[h1,dx,vs,s _ _ h2,h3]
  |dead=>let#[u,h2]:=this;show#[u,s _ _ h2],λa u h hn=>s _ _<|Rr.keep a u h hn,Rr.new,Rr.n0,aB _,Rr.fs]
def sJ (m:aE):aE:=λenv bx=>match m env bx with
 |.exc c bx1=>if c<17 then .rt (.d<|.str<|wordOf c) bx1 else .bad
 |o=>o
theorem Nv (i:Nat) (E:kS X.K X.mg R Z.cl) (W:EY X.prog X.w X.K X.mg X.base Z.cl) (hr:bH k' X.A) (qL:1<=k') (nY:X.stack=X.env::X.outer) (nu:X.env.frame=ae L) (Kb:L=X.env.locals) (hg:Gl X "RimeError") (aeS:Gl X "_law_word")
 (hN:X.N.Nodup) (hi:X.N[i]?=ae n) (hn:X.env.kindOf n=ae .local) (hb:∀ pn E,xD (X.qN pn E) T #[E,Z.cl] body m)
 (hv:qB X.env.scope n:=by first|show Or.inl za|show Or.inr (Or.inl za)|show Or.inr (Or.inr za)) (hd:(n==("__debug__"))=af:=by decide) (dj:(n==("__classdict__"))=af:=by decide) :
 d9 X T Z (.Try body [.ExceptHandler (ae<|.Name "RimeError" rp) (ae n) [.Return (ae<|.Call (.Name "_law_word" np) [.Name n dG] [] ahs) p] Ej] [] [] pos) (sJ m):=by
 intro pins s σ H D I ⟨F,r,env,bx,Rr,h⟩;let#[fW,aht,gW,mW,kW,bW]:=W;refine Rj (E:=λCv _ H'=>∃ c bx' F' r',m env bx=.exc c bx' /\ Cv=.ref (Z.cl c) /\ bf F r F' r' /\ Rel T F' r' [] H' [] bx') nY nu Kb hg E.mR E.rb hN hi hn (λpn=>hb pn _)
  (λpn ea=>lR<|Bo<|JP gW ((hr.mono qL).h.mark) aeS mW kW bW .nil adn<|fA (mD hi hv hd dj) fR za) (by decide) pins s σ H D I #[?_,?_]
 .refine#[F,r,env,bx,Rr,?_];unfold sJ at h;cases e:m env bx with
  |exc c bx1=>show λF' r' H' g R'=>#[c,bx1,F',r',rfl,rfl,g,R']
  |nx ba bx1=>rw[e]at h;show h
  |rt w bx1=>rw[e]at h;show h
  |bk ba bx1=>rw[e]at h;show h
  |ct ba bx1=>rw[e]at h;show h
  |bad=>rw[e]at h;show h
 .rintro σ' ea C H' hl ⟨c,bx1,F',r',e,eC,g,R'⟩ Kc;have aeT:=Value.ref.inj eC;subst aeT;unfold sJ at h;rw[e]at h;simp only at h;split at h
  .ext hc;show#[E.kr c hc,_,pE (by rw[hl];show(List.getElem?_eq_some_iff.mp hi).1),ea,c,rfl,hc,fu,λH2 s2=>(h F' r' (.str<|wordOf c) H2 g (R'.same λb o z=>s2 b o (by rw[fv<|fI z Kc];show z)) za)]
  .show h.elim
end

noncomputable def VR (N:List Str) (sc:eZ) (i:Nat) (x:Str):Bool:=decide (N[i]?=ae x)&&(decide (sc.names.lookup x=ae .local)||decide (sc.names.lookup x=ae .cell)||decide (sc.names.lookup x=ae .free))&&!(x==("__debug__"))&&!(x==("__classdict__"))
noncomputable def xS:D->V
 |.non=>.non
 |.bl b=>.bl b
 |.int i=>.int i
 |.str x=>.str x
 |_=>.ty ""
noncomputable def kT:D->Bool
 |.non=>ag
 |.bl _=>ag
 |.int _=>ag
 |.str _=>ag
 |_=>af
def aeU (a b:D):Bool:=d8 (xS a)<|xS b
theorem Ak (f:kT d=ag) (h:Den F d v):v=xS d /\ eI v=ag:=by
 cases d with
 |non=>cases (h);show#[rfl,rfl]
 |bl b=>cases (h);show#[rfl,rfl]
 |int i=>cases (h);show#[rfl,rfl]
 |str x=>cases (h);show#[rfl,rfl]
 |_=>cases f
theorem Bc:∀ {l}{vs},l.all kT=ag->aG F l vs->vs=l.map xS /\ vs.all eI=ag:=by
 intro l_;induction l_ with
 |nil=>(intro _ _ h;cases (h);show#[rfl,rfl])
 |cons d l aA=>
   intro _ f h;let#[v,r,e,h1,h2]:=h;subst e;rw[nE,aH]at f;let#[e1,f1]:=Ak f.1 h1;let#[e2,f2]:=aA f.2 h2;subst e1;subst e2;show#[rfl,by rw[nE,f1,f2];rfl]
def nD (x:D) (l:List D):Bool:=l.any λy=>aeU y x
theorem Fq (x) (l):IP (xS x) (l.map xS)=nD x l:=by
 unfold IP nD;rw[QL];rfl
def Kv (neg:Bool):D->D->Option Res:=λx y=>match y with
 |.lst l=>if kT x=ag /\ l.all kT=ag then ae (.old<|.bl (if neg then !nD x l else nD x l)) else ah
 |.tup l=>if kT x=ag /\ l.all kT=ag then ae (.old<|.bl (if neg then !nD x l else nD x l)) else ah
 |_=>ah
theorem aaJ {K} (neg):nz (IQ K neg) (Kv neg):=by
 intro F H x y v w Q s sub hx hy e k;unfold Kv at e;have fx:∀ {d},kT d=ag->nL F H d v->Den F d v:=λ{d} f h=>by
  cases d with
  |non=>show h
  |bl b=>show h
  |int i=>show h
  |str z=>show h
  |_=>cases f
 cases y with
 |lst l=>
   simp only at e;split at e
   .ext f;cases e;let#[a,vs,rfl,h1,h2]:=hy;let#[e1,f1]:=Ak f.1<|fx f.1 hx;let#[e2,f2]:=Bc f.2 h2;subst e1;subst e2;refine#[a,_,rfl,.inl<|bN.of h1,f1,f2,?_];rw[Fq];show k _ _ #[rfl,rfl]
   .cases e
 |tup l=>
   simp only at e;split at e
   .ext f;cases e;let#[a,vs,rfl,h1,h2]:=hy;let#[e1,f1]:=Ak f.1<|fx f.1 hx;let#[e2,f2]:=Bc f.2 h2;subst e1;subst e2;refine#[a,_,rfl,.inr<|cK.of<|sub _ _ h1,f1,f2,?_];rw[Fq];show k _ _ #[rfl,rfl]
   .cases e
 |_=>cases e
def aaK (neg:Bool):R2:=λx y H Q=>∃ F dx dy,Sub F H /\ nL F H dx x /\ nL F H dy y /\ dI dx=ag /\ dI dy=ag /\ ∃ l,(dy=.lst l \/ dy=.tup l) /\ Q (.bl (if neg then !(l.any λz=>eqv z dx) else l.any λz=>eqv z dx)) H
theorem lm (dx):∀ l,((bq l).any λy=>PyData.eqv y<|toPy dx)=l.any λz=>eqv z dx:=by
 intro l_;induction l_ with
 |nil=>show rfl
 |cons z l aA=>
   change (PyData.eqv _ _||_)=_;rw[aA];rfl
def tV (neg:Bool) (x y:D) (l:List D):Option Res:=if dI x&&dI y then ae (.old<|.bl (if neg then !(l.any λz=>eqv z x) else l.any λz=>eqv z x)) else ah
def inD (neg:Bool):D->D->Option Res:=λx y=>match y with
 |.lst l=>if kT x=ag /\ l.all kT=ag then ae (.old<|.bl (if neg then !nD x l else nD x l)) else tV neg x y l
 |.tup l=>if kT x=ag /\ l.all kT=ag then ae (.old<|.bl (if neg then !nD x l else nD x l)) else tV neg x y l
 |_=>ah
theorem okIn {K} (neg):nz (λx y H Q=>IQ K neg x y H Q \/ aaK neg x y H Q) (inD neg):=by
 intro F H x y v w Q s sub hx hy e k;have g:∀ l,(y=.lst l \/ y=.tup l)->tV neg x y l=ae s->aaK neg v w H Q:=λl hl e=>by
  unfold tV at e;split at e
  .ext c;rw[aH]at c;cases e;show#[F,x,y,sub,hx,hy,c.1,c.2,l,hl,k _ _ #[rfl,rfl]]
  .cases e
 unfold inD at e;split at e
 .ext l;split at e
  .ext f;show .inl<|aaJ neg F H x _ v w Q s sub hx hy (by unfold Kv;simp only;rw[if_pos f];show e) k
  .show .inr<|g l (.inl za) e
 .ext l;split at e
  .ext f;show .inl<|aaJ neg F H x _ v w Q s sub hx hy (by unfold Kv;simp only;rw[if_pos f];show e) k
  .show .inr<|g l (.inr za) e
 .cases e
section
variable {X:Cx}
def xT (m k:DE W):DE W:=λenv bx=>fC (m env bx) λx bx1=>match x with
 | .b n=>(match bx1[n]? with
   | some (.lst _)=>fC (k env bx1) λy aq=>(match y,aq[n]? with
     | .d (.int i),ae (.lst l)=>if -(2 ^ 63)<=i /\ i<2 ^ 63 then (match cT l.length i with
       |some j=>(match l[j]? with|some d=>.val (.d d) (aq.set n<|.lst<|l.eraseIdx j)|none=>.bad)
       |none=>.bad) else .bad
     |_,_=>.bad)
   |_=>.bad)
 |_=>.bad
theorem Nw (h:tD T Z (xT ma mb) σ H Q):Vj X.K "list" ZJ (tD T Z ma) (Vb (tD T Z mb) IJ) σ H Q:=by
 let#[F,r,env,bx,R,h]:=h;refine#[F,r,env,bx,R,End.bind h λx bx1 F1 r1 v H1 g1 R1 d1 h1=>?_];cases x with
 |b n=>
   simp at h1;let#[a,rfl,ha]:=d1;let#[c,hc,kc]:=R1.kE ha;rw[hc]at h1;cases c with
   |lst l0=>
     let#[_,xG,k0,_]:=kc;refine#[.inl #[rfl,xG,bN.of k0],F1,r1,env,bx1,R1,End.bind h1 λy aq F2 r2 u H2 g2 R2 d2 h2=>?_];let#[t,et]:=g2.p;have EB:r2[n]?=ae a:=by rw[<-et,cR (List.getElem?_eq_some_iff.mp ha).1];show ha
     let#[c2,pN,vL]:=R2.kE EB;rw[pN]at h2;split at h2
     .ext i l eq;cases eq;let#[hF,vs,k1,k2]:=vL;cases (d2);split at h2
      .ext hi;split at h2
       .ext j hj;split at h2
        .ext d hd;let#[y,hy,dy]:=k2.get hd;refine#[a,vs,i,j,y,rfl,rfl,k1,hi.1,hi.2,?_,hy,(h2 F2 r2 _ _ (.refl F2 r2) (R2.write EB hF #[hF,vs.eraseIdx j,fu,k2.eraseIdx j]) dy)]
         .rw[<-k2.length];show(Bq hj).1
        .show h2.elim
       .show h2.elim
      .show h2.elim
     .show h2.elim
   |_=>show h1.elim
 |_=>show h1.elim
noncomputable def qu:D->Option Key
 |.int i=>ae<|.inl i
 |.str x=>ae<|.inr x
 |_=>ah
theorem jw (e:qu d=ae k) (h:Den F d v):v=kV k:=by
 cases d with
 |int i=>cases e;show h
 |str x=>cases e;show h
 |_=>cases e
noncomputable def kF (l:List<|Key×D) (k:Key):Option D:=(l.find? λkv=>decide (kv.1=k)).map (·.2)
noncomputable def EZ (l:List<|Key×D) (k:Key) (d:D):List (Key×D):=
 if (l.any λkv=>decide (kv.1=k))=ag then l.map (λkv=>if kv.1=k then (kv.1,d) else kv) else l++[(k,d)]
theorem aL.some:∀ {l}{vs},aL F l vs->kF l k=ae d->∃ v,nC vs k=ae v /\ Den F d v
 |[],_,_,e=>by cases e
 | (k',d')::l,_,⟨v,r,e,h1,h2⟩,q=>by
   subst e;by_cases c:k'=k
   .simp[kF,yJ,c,]at q;cases q;show#[v,lZ c,h1]
   .erw[kF,yJ,c]at q;let#[u,e1,e2]:=aL.some h2 q;show#[u,(jU c).trans e1,e2]
theorem aL.none:∀ {l}{vs},aL F l vs->kF l k=ah->nC vs k=ah
 |[],_,h,_=>by cases (h);rfl
 | (k',d')::l,_,⟨v,r,e,h1,h2⟩,q=>by
   subst e;by_cases c:k'=k
   .erw[kF,yJ,c,]at q;cases q
   .erw[kF,yJ,c]at q;show(jU c).trans (aL.none h2 q)
theorem aL.any (k):∀ {l}{vs},aL F l vs->(l.any λkv=>decide (kv.1=k))=(vs.any λkv=>decide (kv.1=k))
 |[],_,h=>by cases (h);rfl
 |(k',d')::l,_,⟨v,r,e,h1,h2⟩=>by subst e;simp[vh,aL.any k h2]
theorem aL.map (hv:Den F d v):∀ {l}{vs},aL F l vs->aL F (l.map λkv=>if kv.1=k then (kv.1,d) else kv) (vs.map λkv=>if kv.1=k then (kv.1,v) else kv)
 |[],_,h=>by cases (h);show rfl
 | (k',d')::l,_,⟨u,r,e,h1,h2⟩=>by
   subst e;by_cases c:k'=k
   .simp[aQ,c];show#[v,_,rfl,hv,aL.map hv h2]
   .simp[aQ,c];show#[u,_,rfl,h1,aL.map hv h2]
theorem aL.app (hm:aL F m us):∀ {l}{vs},aL F l vs->aL F (l++m) (vs++us)
 |[],_,h=>by cases (h);show hm
 |(k',d')::l,_,⟨u,r,e,h1,h2⟩=>by subst e;show#[u,_,rfl,h1,aL.app hm h2]
theorem aL.put (h:aL F l vs) (hv:Den F d v):aL F (EZ l k d) (putK vs k v):=by
 unfold EZ putK;rw[aL.any k h];split
 .show aL.map hv h
 .show aL.app (show aL F [(k,d)] _ from#[v,[],rfl,hv,rfl]) h
noncomputable def pY (bx:List Bx):W->Option (List<|Key×D)
 |.d (.az l)=>ae l
 |.b n=>(match bx[n]? with|some (.az l)=>ae l|some (.fD l)=>ae l|_=>ah)
 |_=>ah
theorem BF (R:Rel T F r σ H env bx) (d:bO F r w v) (e:pY bx w=ae l):∃ a ao,v=.ref a /\ Rd H a (.dK ao) /\ aL F l ao:=by
 unfold pY at e;split at e
 .cases e;let#[a,vs,rfl,h1,h2]:=d;show#[a,vs,rfl,.inl<|R.fh _ _ h1,h2]
 .let#[a,rfl,ha]:=d;let#[c,hc,kc]:=R.kE ha;rw[hc]at e;split at e
  .ext q;cases q;cases e;let#[_,vs,h1,h2]:=kc;show#[a,vs,rfl,.inl h1,h2]
  .ext q;cases q;cases e;let#[o,vs,_,h1,h2]:=kc;show#[a,vs,rfl,.inr #[o,h1],h2]
  .cases e
 .cases e
def kU (m k:DE W):DE W:=λenv bx=>fC (m env bx) λx bx1=>fC (k env bx1) λy aq=>match y,pY aq x with
 |.d d,ae l=>(match (qu d).bind (kF l) with|some u=>.val (.d u) aq|none=>.bad)
 |_,_=>.bad
theorem RJ (h:tD T Z (kU ma mb) σ H Q):aam (tD T Z ma) (tD T Z mb) σ H Q:=by
 let#[F,r,env,bx,R,h]:=h;refine#[F,r,env,bx,R,End.bind h λx bx1 F1 r1 v H1 g1 R1 d1 h1=>#[F1,r1,env,bx1,R1,End.bind h1 λy aq F2 r2 u H2 g2 R2 d2 h2=>?_]];split at h2
 .ext d l q;let#[a,ao,rfl,k1,k2]:=BF R2 (g2.den d1) q;split at h2
  .ext w hw;let#[k,e1,e2]:=Option.bind_eq_some_iff.mp hw;cases jw e1 d2;let#[z,e3,e4]:=aL.some k2 e2;show#[a,z,rfl,e3▸.inl #[_,k,k1,rfl,rfl],h2 F2 r2 _ H2 (.refl F2 r2) R2 e4]
  .show h2.elim
 .show h2.elim
def sL (neg:Bool) (k m:DE W):DE W:=λenv bx=>fC (k env bx) λy bx1=>fC (m env bx1) λx aq=>match y,pY aq x with
 |.d d,ae l=>(match qu d with|some k=>.val (.d<|.bl (if neg then !(kF l k).isSome else (kF l k).isSome)) aq|none=>.bad)
 |_,_=>.bad
theorem Lh (h:aL F l vs) (k):(nC vs k).isSome=(kF l k).isSome:=by
 cases q:kF l k with
 |none=>rw[aL.none h q];rfl
 |some d=>let#[v,e,_]:=aL.some h q;rw[e];rfl
theorem Pe (h:tD T Z (sL af mb ma) σ H Q):aan (tD T Z mb) (tD T Z ma) σ H Q:=by
 let#[F,r,env,bx,R,h]:=h;refine#[F,r,env,bx,R,End.bind h λy bx1 F1 r1 u H1 g1 R1 d1 h1=>#[F1,r1,env,bx1,R1,End.bind h1 λx aq F2 r2 v H2 g2 R2 d2 h2=>?_]];split at h2
 .ext d l q;let#[a,ao,rfl,k1,k2]:=BF R2 d2 q;split at h2
  .ext k e1;cases jw e1 (g2.den d1);refine#[a,_,rfl,.inl #[_,k,k1,rfl,rfl],?_];rw[Lh k2];show h2 F2 r2 _ H2 (.refl F2 r2) R2 za
  .show h2.elim
 .show h2.elim
theorem Li (h:tD T Z (sL ag mb ma) σ H Q):aao (tD T Z mb) (tD T Z ma) σ H Q:=by
 let#[F,r,env,bx,R,h]:=h;refine#[F,r,env,bx,R,End.bind h λy bx1 F1 r1 u H1 g1 R1 d1 h1=>#[F1,r1,env,bx1,R1,End.bind h1 λx aq F2 r2 v H2 g2 R2 d2 h2=>?_]];split at h2
 .ext d l q;let#[a,ao,rfl,k1,k2]:=BF R2 d2 q;split at h2
  .ext k e1;cases jw e1 (g2.den d1);refine#[a,_,rfl,.inl #[_,k,k1,rfl,rfl],?_];rw[Lh k2];show h2 F2 r2 _ H2 (.refl F2 r2) R2 za
  .show h2.elim
 .show h2.elim
def vU (m k v:DE W):aE:=λenv bx=>bj (v env bx) λz bx1=>bj (m env bx1) λx aq=>bj (k env aq) λy b9=>match x,y,z with
 | .b n,.d d,.d u=>(match b9[n]?,qu d with
   |some (.az l),ae k=>if l.length<sizeLine then .nx env (b9.set n<|.az<|EZ l k u) else .bad
   |_,_=>.bad)
 |_,_,_=>.bad
theorem Tf {D}(h:tS T Z (vU ma mb mc) D σ H):aap (tD T Z ma) (tD T Z mb) (tD T Z mc) D σ H:=by
 let#[F,r,env,bx,R,h]:=h;refine#[F,r,env,bx,R,End.bj h λz bx1 F1 r1 t H1 g1 R1 d1 h1=>#[F1,r1,env,bx1,R1,End.bj h1 λx aq F2 r2 v H2 g2 R2 d2 h2=>#[F2,r2,env,aq,R2,End.bj h2 λy b9 F3 r3 u H3 g3 R3 d3 h3=>?_]]];split at h3
 .let#[a,rfl,ha]:=(g3.den d2);let#[c,hc,kc]:=R3.kE ha;rw[hc]at h3;split at h3
  .ext l k e1 e2;cases e1;split at h3
   .ext hl;let#[hF,ao,k1,k2]:=kc;cases jw e2 d3;show#[a,_,rfl,.inl #[ao,k,k1,rfl,by rw[<-aL.length k2];show hl,rfl],h3 F3 r3 _ _ (.refl F3 r3)<|R3.write ha hF #[hF,_,fu,aL.put k2<|g3.den<|g2.den d1]]
   .show h3.elim
  .show h3.elim
 .show h3.elim
end

def xV (bo:Bool) (k:Int) (i:Nat):DE W:=λenv bx=>match env[i]? with
 |some (ae<|.d d)=>bZ bo (ae<|.az [(.inl k,d)]) bx
 |_=>.bad
theorem Nx (bo) (i) {k}(hv:VR X.N X.env.scope i x=ag):PD X T Z (.Dict [ae<|.Constant (.int k) j1 q1] [.Name x ahu] pos) (xV bo k i):=by
 erw[VR,aH,sV,decide_eq_true_eq,kL]at hv;let#[#[#[h1,h2],h3],h4]:=hv;have h5:qB X.env.scope x:=by
  rcases h2 with(h2|h2)|h2
  .show .inl h2
  .show .inr<|.inl h2
  .show .inr<|.inr h2
 refine PE.imp (BD (jW jo (mD h1 h5 h3 h4) BC) za za (by simp) (by simp)) λσ H Q=>bg λF r env bx R h=>?_;unfold xV at h;split at h
 .ext d he;let#[v,e1,e2]:=R.slot i _ he;intro p hp;refine#[v,e1,fu,[(.inl k,v)],rfl,by simp,?_];rw[Bn];show gP R h #[p,[(.inl k,v)],rfl,hp,rfl,#[_,_,rfl,e2,rfl]]
 .show h.elim
theorem Lj (i j) (hc:X.calm=ag) (hN:X.N.Nodup) (ha:pd X T Z [a,b] ks) (hi:X.N[i]?=ae x:=by rfl) (hj:X.N[j]?=ae y:=by rfl)
 (hx:Loc X.env.scope x:=by first|show Or.inl za|show Or.inr za) (hy:Loc X.env.scope y:=by first|show Or.inl za|show Or.inr za)
 (aeV:X.fn x=ag \/ X.env.scope.names.lookup x=ae .local:=by first|show .inl za|show .inr za) (aeW:X.fn y=ag \/ X.env.scope.names.lookup y=ae .local:=by first|show .inl za|show .inr za)
 (hs:swapsWithSole [.Tuple [.Name x px,.Name y py] kt pt] (.Tuple [a,b] k2 uq) pos.line X.env=pure af:=by rfl)
 (hw:swappedStores [.Tuple [.Name x px,.Name y py] kt pt] (.Tuple [a,b] k2 uq) X.env=pure ah:=by rfl)
 (h0:(assignEach [.Tuple [.Name x px,.Name y py] kt pt] X.env).map (·.2)=[assign (.Tuple [.Name x px,.Name y py] kt pt) X.env]:=by rfl)
 (h1:(assignEach [.Name x px,.Name y py] X.env).map (·.2)=assign (.Name x px) X.env::(assignEach [.Name y py] X.env).map (·.2):=by rfl)
 (h2:(assignEach [.Name y py] X.env).map (·.2)=assign (.Name y py) X.env::(assignEach [] X.env).map (·.2):=by rfl)
 (hn:(assignEach [.Name x px,.Name y py] X.env).length=2:=by rfl) (nY:(assignEach [.Name x px,.Name y py] X.env).findIdx? (·.1)=ah:=by rfl) :
 d9 X T Z (.Assign [.Tuple [.Name x px,.Name y py] kt pt] (.Tuple [a,b] k2 uq) pos) (kg i j ks):=by
 refine PS.imp (Jp (Jx ha) (Jo hc (oU (Bp hN hi hx aeV) (oU (Bp hN hj hy aeW) D5 h2) h1) hn nY) hs hw h0) λD σ H=>bg λF r env bx R h=>?_;refine#[F,r,env,bx,R,End.bj h λws bx1 F1 r1 vs H1 g1 R1 d1 h1=>?_];split at h1
 .let#[v,t,rfl,q1,u,t2,rfl,q2,q3]:=d1;cases (q3);refine#[by change 2<=sizeLine;decide,λp hp=>?_];have gr:=R1.tJ (o:=.tup [v,u]) hp;show#[p,[v,u],rfl,cK.of fu,rfl,v,[u],rfl,u,[],rfl,rfl,h1 _ r1 _ _ gr<|((R1.xA hp).set (gr.den q1) i).set (gr.den q2) j]
 .show h1.elim

def E2 (neg:Bool) (m:DE W):DE W:=λenv bx=>fC (m env bx) λx bx1=>match x with
 |.d d=>.val (.d<|.bl (match d with|.non=>!neg|_=>neg)) bx1
 |_=>.bad
theorem Ft (h:Den F d v):decide (v=.non)=(match d with|.non=>ag|_=>af):=by
 cases d with
 |non=>cases (h);rfl
 |bl b=>cases (h);rfl
 |int i=>cases (show v=.int i from h);rfl
 |str x=>cases (show v=.str x from h);rfl
 |tup l=>let#[a,vs,rfl,_]:=h;rfl
 |lst l=>let#[a,vs,rfl,_]:=h;rfl
 |az l=>let#[a,vs,rfl,_]:=h;rfl
noncomputable def uL (f:Str) (v:D ⊕ Nat):List (Str×(D ⊕ Nat))->List (Str×(D ⊕ Nat))
 |[]=>[(f,v)]
 |(g,x)::r=>if g=f then (g,v)::r else (g,x)::uL f v r
theorem cY.look (f):∀ {l}{vs},cY F r n l vs->(l.lookup f=ah /\ vs.lookup f=ah) \/ ∃ w v,l.lookup f=ae w /\ vs.lookup f=ae v /\ En F r n w v
 |[],_,h=>by cases (h);show .inl #[rfl,rfl]
 | (k,w)::l,_,⟨v,t,e,h1,h2⟩=>by
   subst e;rw[eX,eX];cases f==k with
   |true=>show .inr #[w,v,rfl,rfl,h1]
   |false=>show cY.look f h2
theorem cY.put (hw:En F r n w v):∀ {l}{vs},cY F r n l vs->cY F r n (uL f w l) (kA f v vs)
 |[],_,h=>by cases (h);show#[v,[],rfl,hw,rfl]
 | (k,u)::l,_,⟨z,t,e,h1,h2⟩=>by
   subst e;unfold uL kA;by_cases c:k=f
   .rw[if_pos c,if_pos c];show#[v,t,rfl,hw,h2]
   .rw[if_neg c,if_neg c];show#[z,_,rfl,h1,cY.put hw h2]
theorem cY.len:∀ {l}{vs},cY F r n l vs->vs.length=l.length
 |[],_,h=>by cases (h);rfl
 |(k,u)::l,_,⟨z,t,e,h1,h2⟩=>by subst e;rw[a6,a6,h2.len]
def dq (C:ai) (m:DE W) (f:Str):DE W:=λenv bx=>fC (m env bx) λx bx1=>match x with
 | .b n=>(match bx1[n]? with
   | some (.ins C' fs)=>if C'=C then (match fs.lookup f with
     |some (.inl d)=>.val (.d d) bx1
     |some (.inr j)=>.val (.b j) bx1
     |none=>.bad) else .bad
   |_=>.bad)
 |_=>.bad
def pZ (C:ai) (m:DE W) (f:Str) (v:DE W):aE:=λenv bx=>bj (v env bx) λy bx1=>bj (m env bx1) λx aq=>match x,y with
 | .b n,.d d=>(match aq[n]? with
   |some (.ins C' fs)=>if C'=C /\ fs.length<1000 then .nx env (aq.set n<|.ins C<|uL f (.inl d) fs) else .bad
   |_=>.bad)
 |_,_=>.bad
def nR (C:ai) (fn:List W->List Bx->O W) (nm:Str) (n:Nat) (m:DE W) (k:DE<|List W):DE W:=λenv bx=>fC (m env bx) λx bx1=>match x with
 | .b j=>(match bx1[j]? with
   |some (.ins C' fs)=>if C'=C /\ (fs.lookup nm).isNone=ag then fC (k env bx1) λws aq=>if ws.length+1=n then fn (.b j::ws) aq else .bad else .bad
   |_=>.bad)
 |_=>.bad
section
variable {X:Cx}
theorem RK (c:kB X.K C) (na:qH X.K C f) (h:PD X T Z e ma) (hb:attributeBase e f X.env (eval e X.env)=eval e X.env):PD X T Z (.Attribute e f pos) (dq C ma f):=by
 refine PE.imp (P7 h hb) λσ H Q=>bg λF r env bx R h=>#[F,r,env,bx,R,End.bind h λx bx1 F1 r1 v H1 g1 R1 d1 h1=>?_];split at h1
 case h_2=>show h1.elim
 let#[a,rfl,ha]:=d1;let#[b,hc,kc]:=R1.kE ha;rw[hc]at h1;split at h1
 case h_2=>show h1.elim
 ext C' fs e0;cases e0;let#[k0,dx,vs,k1,k2]:=kc;split at h1
 case isFalse=>show h1.elim
 ext hC;subst hC;rcases cY.look f k2 with⟨l1,l2⟩|⟨w,u,l1,l2,l3⟩
 .rw[l1]at h1;show h1.elim
 .rw[l1]at h1;refine#[a,C',dx,vs,u,rfl,k1,c,na,l2,?_];cases w with
  |inl d=>show h1 F1 r1 u H1 (.refl F1 r1) R1 l3
  |inr j=>let#[_,b,rfl,hj]:=l3;show h1 F1 r1 _ H1 (.refl F1 r1) R1 #[b,rfl,hj]
theorem Ny (c:kB X.K C) (na:qH X.K C f) (ho:PD X T Z o ma) (hv:PD X T Z value mb) (hs:swapsWith value (ae<|.Attribute o f pos') pos.line X.env=pure af):d9 X T Z (.Assign [.Attribute o f pos'] value pos) (pZ C ma f mb):=by
 refine PS.imp (Jw ho hv hs) λD σ H=>bg λF r env bx R h=>#[F,r,env,bx,R,End.bj h λy bx1 F1 r1 v H1 g1 R1 d1 h1=>#[F1,r1,env,bx1,R1,End.bj h1 λx aq F2 r2 u H2 g2 R2 d2 h2=>?_]];split at h2
 case h_2=>show h2.elim
 ext n d;let#[a,rfl,ha]:=d2;let#[b,hc,kc]:=R2.kE ha;rw[hc]at h2;split at h2
 case h_2=>show h2.elim
 ext C' fs e0;cases e0;let#[k0,dx,vs,k1,k2]:=kc;split at h2
 case isFalse=>show h2.elim
 ext hC;let#[hC,hl]:=hC;subst hC;refine#[a,C',dx,vs,rfl,k1,c,na,by rw[k2.len];show hl,?_];have aeX:En F2 r2 n (.inl d) v:=Den.mono g2.s d d1;show h2 F2 r2 σ _ (.refl F2 r2)<|R2.write ha k0 #[k0,dx,_,fu,k2.put aeX]
theorem Bd (vC:attributeBase o f X.env (eval o X.env)=eval o X.env) (cB:eT args=ag) (hl:args.length<30) (qJ:(apos.endLine==pos.line)=ag):∃ pl,eval (.Call (.Attribute o f apos) args [] pos) X.env=(do
 let ov <-eval o X.env
 standAt apos.atName
 let (f,first) <-holding [ov] (getMethod ov f pl)
 callWith pos f first (backTo pos<|starEach args X.env) (backToKw pos<|keywordEach [] X.env)):=by
 have n9:(backTo pos<|starEach args X.env).all (λx=>!x.1)=ag:=by
  have:=gY (env:=X.env) (pos:=pos) cB;rw[cb];rw[QF]at this;intro x hx;have:=this x hx;simpa using this
 have aeY:methodCallForm (args.length+([]:List Keyword).length) (backTo pos<|starEach args X.env) (backToKw pos<|keywordEach [] X.env)=ag:=by
  unfold methodCallForm;rw[n9];simp[backToKw,keywordEach]
  lia
 have Ej:∀ b,methodCallPos b o X.env apos pos=pure pos:=λb=>by unfold methodCallPos;simp[qJ]
 refine#[(do return (<-importBound o X.env).getD ag),?_];rw[arm_eval_Call,vC];unfold methodCall;rw[aeY];simp[Ej];rfl
end
section
variable (P:cS) (w:cg) (K:PySem.W.Frag) (mg:Str -> Option au) (base:aK) (cl:Nat -> ai)
def E3 (C:ai) (k:Nat) (x:Str) (ps:List Str) (fn:List W->List Bx->O W):zb:=
 ∃ (f:ai) (fd:FuncData),cP P w K mg base (dn P w) k f fd ps (qQ cl ps.length fn) /\ Meth K C x f /\ Binds K fd ps []
end

theorem Lk (h:tD T Z (nR C fn x nn ma mk) σ H Q):Vf C x (qQ Z.cl nn fn) [] Z.E (tD T Z ma) (Eo T Z mk) σ H Q:=by
 let#[F,r,env,bx,R,h]:=h;refine#[F,r,env,bx,R,End.bind h λw bx1 F1 r1 v H1 g1 R1 d1 h1=>?_];split at h1
 case h_2=>show h1.elim
 ext j;let#[a,rfl,ha]:=d1;let#[b,hc,kc]:=R1.kE ha;rw[hc]at h1;split at h1
 case h_2=>show h1.elim
 ext C' fs e0;cases e0;let#[k0,dx,vs,k1,k2]:=kc;split at h1
 case isFalse=>show h1.elim
 ext hC;let#[hC,hl]:=hC;subst hC;refine#[a,dx,vs,rfl,k1,?_,F1,r1,env,bx1,R1,End.bind h1 λws aq F2 r2 us H2 g2 R2 d2 h2=>?_]
 .rcases cY.look x k2 with⟨l1,l2⟩|⟨w,u,l1,l2,l3⟩
  .show l2
  .rw[l1]at hl;cases hl
 .split at h2
  .ext hn;refine#[F2,r2,.b j::ws,aq,R2.enter,#[_,_,rfl,#[a,rfl,Dp g2.p j a ha],by rw[rL];show d2],hn,?_];cases e:fn _ aq with
   |val w bx'=>rw[e]at h2;show λF' r' v H' g R' d=>h2 F' r' v H' g (R2.after g R') d
   |exc c bx'=>rw[e]at h2;show λF' r' H' g R'=>h2 F' r' H' g (R2.after g R').drop
   |bad=>rw[e]at h2;show h2
  .show h2.elim
theorem Nz (c:kB X.K C) (h:E3 X.prog X.w X.K X.mg X.base Z.cl C k x ps fn) (hr:bH k' X.A) (hk:k<=k') (hx:Passes (dn X.prog X.w) X Z.E) (ho:PD X T Z o ma) (ha:pd X T Z (e::es) mk) (hb:attributeBase o x X.env (eval o X.env)=eval o X.env)
 (qJ:(apos.endLine==pos.line)=ag) (cB:eT (e::es)=ag) (hl:(e::es).length<30) (hn:ps.length=nn):PD X T Z (.Call (.Attribute o x apos) (e::es) [] pos) (nR C fn x nn ma mk):=by
 subst hn;let#[f,fd,G,hm,vV]:=h;let#[pl,ht]:=Bd hb cB hl qJ;show PE.imp (MY ho c hm G (hr.mono hk) vV .nil hx ha (fH (gz cB).1 es X.env) (gY (gz cB).2) ht) λσ H Q h=>Lk h
theorem Ll (c:kB X.K C) (h:E3 X.prog X.w X.K X.mg X.base Z.cl C k x ps fn) (hr:bH k' X.A) (hk:k<=k') (hx:Passes (dn X.prog X.w) X Z.E) (ho:PD X T Z o ma) (hb:attributeBase o x X.env (eval o X.env)=eval o X.env)
 (qJ:(apos.endLine==pos.line)=ag) (hn:ps.length=nn):PD X T Z (.Call (.Attribute o x apos) [] [] pos) (nR C fn x nn ma fe):=by
 subst hn;let#[f,fd,G,hm,vV]:=h;let#[pl,ht]:=Bd (args:=[]) hb za (by decide) qJ;refine PE.imp (Jy ho c hm G (hr.mono hk) vV .nil hx ht) λσ H Q h=>?_;let#[F,r,env,bx,R,h]:=Lk h;refine#[F,r,env,bx,R,?_];revert h;generalize ma env bx=O1;intro h;cases O1 with
 |bad=>show h
 |exc c b=>show h
 |val w b=>
   intro F' r' v H' g R' d';let#[a,dx,fs,e1,e2,e3,F2,r2,cD,aq,R2,h]:=h F' r' v H' g R' d';show#[a,dx,fs,e1,e2,e3,h F2 r2 [] H' (.refl F2 r2) R2 za]
def Kw (f:bJ->aE):List bJ->aE
 |[]=>a8
 |s::r=>fB (f s)<|Kw f r
theorem Cy {st}(h:∀ s,d9 X T Z s<|f s) (hl:PS X st t):∀ b,cX X (b++[st]) (λD σ H=>tS T Z (Kw f b) { D with nx:=λσ' H'=>t D σ' H' } σ H)
 |[]=>cX.imp (lR hl) λD σ H=>bg λF r env bx R h=>h F r σ H (.refl F r) R
 | s::b=>by
   refine cX.imp (gV (h s)<|Cy h hl b) λD σ H=>bg λF r env bx R h=>#[F,r,env,bx,R,?_];have h':kQ T Z F r _ (fB _ _ env bx):=h;unfold fB at h';cases e:f s env bx with
   |nx ba bx1=>rw[e]at h';show λF1 r1 σ1 H1 g R1=>#[F1,r1,ba,bx1,R1,kQ.weak g h']
   |rt w bx1=>rw[e]at h';show h'
   |bk ba bx1=>rw[e]at h';show h'
   |ct ba bx1=>rw[e]at h';show h'
   |exc c bx1=>rw[e]at h';show h'
   |bad=>rw[e]at h';show h'
noncomputable def xW (n:Nat) (h:D):bt:=[ae<|.b n,ae<|.d h]
def Kx (C:ai) (fl:Str) (m:aE):Sp:=λvs H Q _=>∃ T F r bx x h hv aP fs,vs=[.ref x,hv] /\ Rel T F (r++[x]) [] H [] (bx++[.ins C []]) /\ T.H₀ x=ah /\ T.n₀<=r.length /\ Den F h hv /\
 m (xW r.length h) (bx++[.ins C []])=.nx aP (bx++[.ins C fs]) /\ aP[0]?=ae (ae<|.b r.length) /\ fs.length<1000 /\
 ∀ F' H' l,Sub F F'->Rel T F' (r++[l,x]) [] H' [] (bx++[.lst [],.ins C<|uL fl (.inr r.length) fs])->Q .non H'
theorem Rel.aeZ (R:Rel T F (r++[x]) σ H env<|bx++[c]) (hx:T.H₀ x=ah) (hn:T.n₀<=r.length):Rel T F r [] H [] bx:=by
 have up:∀ {n}{a},r[n]?=ae a->(r++[x])[n]?=ae a:=λe=>Dp (pI r [x]) _ _ e;refine#[R.fh,λi w e=>by simp at e,(by have:=R.len;simp at this;show this),(sW.mp R.nd).1,λn c' a e1 e2=>?_,λa u e hn=>?_,λn a h e=>R.new n a h<|up e,hn,aB _,λa u e=>?_]
 .have k:=R.box n c' a (by rw[cR (List.getElem?_eq_some_iff.mp e1).1];show e1)<|up e2;cases c' with
  |ins _ _=>let#[q1,dx,vs,q2,q3]:=k;show#[q1,dx,vs,q2,cY.cz (Sub.refl F).d (λm hm b e=>by rw[cR<|ve hm (List.getElem?_eq_some_iff.mp e2).1]at e;show e) _ q3]
  |_=>show k
 .refine R.keep a u e λz=>?_;rcases dZ.mp z with z|z
  .show hn z
  .cases eY.mp z;rw[hx]at e;cases e
 .rcases R.fs a u e with z|z|z|z
  .show .inl z
  .show .inr<|.inl z
  .show .inr<|.inr<|.inl z
  .rcases dZ.mp z with z|z
   .show .inr<|.inr<|.inr z
   .cases eY.mp z;show .inr<|.inr<|.inl hx
theorem Rel.ae0 (R:Rel T F r σ H env bx) (hf:F p=ah) (hb:p∉r) (hT:T.H₀ p=ah):Rel T F r σ (upd H p o) env bx:=by
 refine#[λa u e=>?_,R.slot,R.len,R.nd,λn c a e1 e2=>?_,λa u e hn=>?_,R.new,R.n0,R.sl,R.fs]
 .rw[fv (λz=>by rw[z,hf]at e;cases e)];show R.fh a u e
 .have ha:a≠p:=λz=>hb<|List.mem_iff_getElem?.mpr #[n,z▸e2];show(R.box n c a e1 e2).grow (Sub.refl F) (eF r) id λu z=>by rw[fv ha];show z
 .rw[fv (λz=>by rw[z,hT]at e;cases e)];show R.keep a u e hn
theorem Rel.ae1 (R:Rel T F r σ H env bx) (hb:p∉r) (hT:T.H₀ p=ah) (hc:si F r r.length H p c):Rel T F (r++[p]) σ H env (bx++[c]):=by
 refine#[R.fh,λi w e=>?_,by rw[bG,bG,R.len];rfl,?_,λn c' a e1 e2=>?_,λa u e hn=>R.keep a u e λz=>hn<|nU _ z,λn a hn e=>?_,by rw[bG];show cu R.n0 (rJ _ _),R.sl,λa u e=>(R.fs a u e).imp id<|Or.imp id<|Or.imp id λz=>nU _ z]
 .let#[v,e1,e2]:=R.slot i w e;show#[v,e1,e2.mono (Sub.refl F)<|pI r [p]]
 .rw[sW];refine#[R.nd,by simp,λa ha b xX=>?_];rw[eY]at xX;subst xX;show λz=>hb<|z▸ha
 .by_cases hn:n<r.length
  .rw[cR hn]at e2;rw[cR (by rw[<-R.len];show hn)]at e1;show(R.box n c' a e1 e2).grow (Sub.refl F) (pI r [p]) id λ_ z=>z
  .have pS:=(List.getElem?_eq_some_iff.mp e2).1;rw[bG,yG]at pS;have sY:n=r.length:=by lia
   subst sY;rw[dD (by rw[R.len];show aB _),R.len,k6]at e1;simp at e1 e2;subst e1 e2;show hc.grow (Sub.refl F) (pI r _) id λ_ z=>z
 .by_cases hl:n<r.length
  .rw[cR hl]at e;show R.new n a hn e
  .have pS:=(List.getElem?_eq_some_iff.mp e).1;rw[bG,yG]at pS;have sY:n=r.length:=by lia
   subst sY;rw[dD<|aB _,k6]at e;simp at e;subst e;show hT
section
variable {K:PySem.W.Frag} {st:bJ}
theorem NA (F:dU K x qual st f fd) (S:qI N ps<|fG st) (ae2:ps.length=2) (hN:N.length=2) (c:kB K C) (na:qH K C fl) (vV:gf st=b4++[.Assign [.Attribute (.Name s0 p1) fl p2] (.List [] p3) p4])
 (ae3:N[0]?=ae s0) (hv:qB (fG st) s0) (hd:(s0==("__debug__"))=af) (dj:(s0==("__classdict__"))=af)
 (nJ:∀ (cdv:au) (A:di) (outer:List Env) (s:aI) (H:Hp) (E:XK) (T:Fr),bH k (A.deeper<|envOfC qual (fG st) s.heap.objs.size f cdv) ->
  ∀ s1,d9 (qm qK P w K mg base N qual (fG st) f cdv A outer s H E).sZ T #[E0,cl] s1<|sm s1):cP P w K mg base (dn P w) (k+1) f fd ps (Kx C fl<|Kw sm b4):=by
 refine Pb<|F.ok S (λvs H Q E h=>?_) λcdv A outer s H vs Q E hr h=>?_
 .let#[_,_,_,_,_,_,_,_,_,rfl,_]:=h;rw[ae2];rfl
 .let#[T,F1,r,bx,x,h,Ea,aP,fs,rfl,R,hx,ae4,dh,hm,he,Kb,hQ]:=h;have e2:r.length=bx.length:=by have:=R.len;simp at this;show this
  refine#[_,by rw[vV];show Cy (nJ cdv A outer s H E T hr) (Jw (mD ae3 hv hd dj) (jQ fR) za) b4,?_];have ae5:kD F1 (r++[x]) [.b r.length,.d h] [.ref x,Ea]:=#[_,_,rfl,#[x,rfl,by rw[dD<|aB _,k6];rfl],_,_,rfl,dh,rfl];have R0:=R.start (N:=N) ae5;have ee:envOf N.length [.b r.length,.d h]=xW r.length h:=by rw[hN];rfl
  rw[ee]at R0;refine#[F1,r++[x],_,_,R0,?_];rw[hm];intro F2 r2 σ2 H2 g2 R2;have er:r2=r++[x]:=by
   let#[t,rfl]:=g2.p;have:=R2.len;simp at this;have:t=[]:=List.length_eq_zero_iff.mp (by lia);rw[this,rL]
  subst er;have aaL:(r++[x])[r.length]?=ae x:=by rw[dD<|aB _,k6];rfl
  let#[v,e5,a,rfl,ha]:=R2.slot 0 _ he;rw[aaL]at ha;cases ha;let#[q1,dx,vs,q2,q3]:=R2.box r.length (.ins C fs) x (by rw[dD (by lia),e2,k6];rfl) aaL;have Rc:=R2.aeZ hx ae4;have ae6:x∉r:=λz=>(sW.mp R2.nd).2.2 x z x (by simp) za;refine#[dA _,λl hl=>?_];have aaM:x≠l:=fI q2 hl;refine#[_,e5,x,C,dx,vs,rfl,by rw[fv aaM];show q2,c,na,by rw[q3.len];show Kb,?_];have aaN:x∉r++[l]:=by simp[ae6,aaM]
  have ae7:cY F2 (r++[l]) (r++[l]).length fs vs:=by
   have q4:∀ (fs:List<|Str×(D ⊕ Nat)) (vs:List<|Str×V),cY F2 (r++[x]) r.length fs vs->cY F2 (r++[l]) (r++[l]).length fs vs:=λfs=>by
    induction fs with
    |nil=>intro vs z;show z
    |cons y fs ih=>
      let#[ky,wy]:=y;intro vs ⟨v,t,z1,z2,z3⟩;refine#[v,t,z1,?_,ih t z3];cases wy with
      |inl d=>show z2
      |inr m=>
        let#[z4,a,z5,z6]:=z2;rw[cR z4]at z6;show#[by rw[bG];show Nat.lt_add_right _ z4,a,z5,by rw[cR z4];show z6]
   show q4 fs vs q3
  have zz:En F2 (r++[l]) (r++[l]).length (.inr r.length) (.ref l):=#[by simp,l,rfl,by rw[dD<|aB _,k6];rfl];show hQ F2 _ l g2.s (by simpa using (((Rc.Es (c:=.lst []) hl #[Rc.uC hl,[],fu,rfl]).ae0 (o:=.ins C dx<|kA fl (.ref l) vs) q1 aaN hx).ae1 (p:=x) (c:=.ins C<|uL fl (.inr r.length) fs) aaN hx #[q1,dx,_,fu,ae7.put zz]))
end
open Classical in
def xY (C:ai) (fl:Str) (m:aE) (k:DE<|List W):DE W:=λenv bx=>fC (k env bx) λws bx1=>match ws with
 | [.d h]=>(match m (xW bx1.length h) (bx1++[.ins C []]) with
   | .nx aP aq=>(match aq.getLast? with
     |some (.ins _ fs)=>if aq=bx1++[.ins C fs] /\ aP[0]?=ae (ae<|.b bx1.length) /\ fs.length<1000 then .val (.b<|bx1.length+1) (bx1++[.lst [],.ins C<|uL fl (.inr bx1.length) fs]) else .bad
     |_=>.bad)
   |_=>.bad)
 |_=>.bad

theorem NB (M:Mk X.K C f) (G:cP X.prog X.w X.K X.mg X.base (dn X.prog X.w) k f fd ps<|Kx C fl m) (hr:bH k' X.A) (hk:k+1<=k') (hg:Gl X x) (hm:X.mg x=ae (.ref C)) (hb:Binds X.K fd ps []) (hx:Passes (dn X.prog X.w) X Z.E) (ha:pd X T Z (e::es) mk)
 (cB:eT (e::es)=ag) (cL:(x==("__debug__"))=af):PD X T Z (.Call (.Name x p) (e::es) [] pos) (xY C fl m mk):=by
 refine PE.imp (MZ M G (hr.mono hk) hg hm hb .nil hx ha cL (fH (gz cB).1 es X.env)<|gY (gz cB).2) λσ H Q=>bg λF r env bx R h=>?_;refine#[F,r,env,bx,R,End.bind h λws bx1 F1 r1 vs H1 g1 R1 d1 h1=>?_];split at h1
 case h_2=>show h1.elim
 ext hh;let#[v,t,rfl,dh,rt]:=d1;cases (rt);split at h1
 case h_2=>show h1.elim
 ext aP aq em;split at h1
 case h_2=>show h1.elim
 ext C' fs el;split at h1
 case isFalse=>show h1.elim
 ext hc;let#[eb,e0,hl]:=hc;subst eb;intro y dx ny ae8 ne;have R2:=(R1.enter.Z6 (o:=.own y) ae8);have aaO:upd H1 dx (.own y) y=ah:=by rw[fv<|Ne.symm ne];show ny
 refine#[_,F1,r1,bx1,y,hh,v,aP,fs,rfl,(R2.Es (c:=.ins C []) aaO #[R2.uC aaO,dx,[],fu,rfl]),ny,aB _,dh,by rw[R1.len];show em,by rw[R1.len];show e0,hl,λF' H' l s R'=>#[rfl,?_]];have g:bf F1 r1 F' (r1++[l,y]):=#[s,pI _ _];rw[R1.len]at R';refine h1 F' _ _ H' g (R1.after g (by rw[<-R1.len]at R' ⊢;show R')) #[y,rfl,?_];rw[<-R1.len,dD (by lia)];have:r1.length+1-r1.length=1:=by lia
 rw[this];rfl
end L2.DL
namespace HT
open PySem.W
abbrev Kp (h h':aK):zb:=∀ b o,h.get? b=ae o->h'.get? b=ae o
section
variable {A:di} {s:aI} {vs:List au}
section
variable {kf:Nat -> Int} (hh:A.handled = ah) (hl:s.heap.IsList l vs.toArray) (ae9:l ≠ I) (afa:S ≠ I) (afb:s.heap.get? S = ah) (afc:s.heap.get? I = ah)
include hh hl ae9 afa afb afc
end
end
abbrev uM (xs:Array Nat):zb:=xs.toList.Pairwise (·<·)
theorem lu (h:uM xs) {j:Nat}(hi:xs[i]?=ae x) (hj:xs[j]?=ae y) (l:i<j):x<y:=by
 let#[a,rfl]:=List.getElem?_eq_some_iff.mp (by rw[k7];show hi);let#[b,rfl]:=List.getElem?_eq_some_iff.mp (by rw[k7];show hj);show List.pairwise_iff_getElem.mp h i j a b l
theorem Lm (h:uM xs) (j):∀ (f lo hi),hi-lo<=f->lo<=hi->hi<=xs.size->(∀ i x,i<lo->xs[i]?=ae x->x<j)->(∀ i x,hi<=i->xs[i]?=ae x->j<=x) ->
 SetTable.below.go xs j f lo hi<=xs.size /\ (∀ i x,i<SetTable.below.go xs j f lo hi->xs[i]?=ae x->x<j) /\ ∀ i x,SetTable.below.go xs j f lo hi<=i->xs[i]?=ae x->j<=x:=by
 intro l_;induction l_ with
 |zero=>
   intro lo hi hf hl hh h1 h2;have:lo=hi:=by lia
   subst this;show#[hh,h1,h2]
 |succ f aA=>
   intro lo hi hf hl hh h1 h2;rw[SetTable.below.go];by_cases c:lo<hi
   .rw[if_pos c];have hm:(lo+hi) / 2<xs.size:=by lia
    have em:xs[(lo+hi) / 2]?=ae xs[(lo+hi) / 2]:=by simp
    have eg:xs.getD ((lo+hi) / 2) j=xs[(lo+hi) / 2]:=by simp[hm]
    erw[eg];by_cases q:xs[(lo+hi) / 2]<j
    .erw[if_pos q];refine aA _ hi (by lia) (by lia) hh (λi x nQ e=>?_) h2;by_cases z:i<(lo+hi) / 2
     .have:=lu h e em z
      lia
     .have:i=(lo+hi) / 2:=by lia
      subst this;rw[em]at e;cases e;show q
    .erw[if_neg q];refine aA lo _ (by lia) (by lia) (by lia) h1 λi x nQ e=>?_;by_cases z:i=(lo+hi) / 2
     .subst z;rw[em]at e;cases e
      lia
     .have:=lu h em e (by lia)
      lia
   .rw[if_neg c];have:lo=hi:=by lia
    subst this;show#[hh,h1,h2]
theorem lK (h:uM xs) (j):SetTable.below xs j<=xs.size /\ (∀ i x,i<SetTable.below xs j->xs[i]?=ae x->x<j) /\ ∀ i x,SetTable.below xs j<=i->xs[i]?=ae x->j<=x:=
 Lm h j xs.size 0 xs.size (by lia) (dA _) (aB _) (λi x hi=>absurd hi<|vf _) λi x hi e=>by
  have:=(Array.getElem?_eq_some_iff.mp e).1
  lia
theorem gh (xs) (p) (x:α):(SetTable.insertAt xs p x).toList=xs.toList.take p++x::xs.toList.drop p:=by
 unfold SetTable.insertAt;rw[Array.toList_append,Array.toList_push,YB,YB];simp[vi,List.singleton_append];congr 2;show QM (by simp)
theorem Ln (h:uM xs) (hn:xs[SetTable.below xs j]?≠ae j):uM (SetTable.insertAt xs (SetTable.below xs j) j):=by
 let#[b1,b2,b3]:=lK h j;unfold uM;rw[gh];have pS:∀ x∈xs.toList.take (SetTable.below xs j),x<j:=λx m=>by
  let#[i,hi,e]:=wL m;rw[pF]at hi;refine b2 i x (by lia) ?_;rw[<-k7,<-e,List.getElem_take];show cW (by lia)
 have aaP:∀ x∈xs.toList.drop _,j<x:=λx m=>by
  let#[i,hi,e]:=wL m;rw[pG]at hi;have ex:xs[SetTable.below xs j+i]?=ae x:=by
   rw[<-k7,<-e,List.getElem_drop];show cW (by lia)
  have:=b3 _ x (rJ _ _) ex;have ne:x≠j:=λz=>by
   subst z;cases i with
   |zero=>show hn ex
   |succ i=>
     have lt:SetTable.below xs x<xs.size:=by
      have:=(Array.getElem?_eq_some_iff.mp ex).1
      lia
     have el:xs[SetTable.below xs x]?=ae xs[SetTable.below xs x]:=by simp
     have a:=b3 _ _ (aB _) el;have b:=lu h el ex (by lia)
     lia
  lia
 rw[List.pairwise_append];refine#[h.sublist<|XY _ _,List.pairwise_cons.mpr #[aaP,h.sublist<|List.drop_sublist _ _],λa ma b mb=>?_];have:=pS a ma;rcases a9.mp mb with rfl|mb
 .show this
 .have:=aaP b mb
  lia
theorem GR (f:Nat->Option Nat):∀ l:List Nat,l.Pairwise (·<·)->(((l.filterMap λj=>(f j).map (j,·)).map (·.1))).Pairwise (·<·):=by
 intro l_;induction l_ with
 |nil=>show λ_=>.nil
 |cons j l aA=>
   intro h;let#[h1,h2]:=List.pairwise_cons.mp h;have ih:=aA h2;rw[qg];cases e:f j with
   |none=>show ih
   |some z=>
     refine List.pairwise_cons.mpr #[λa ma=>?_,ih];let#[p,mp,rfl]:=bc.mp ma;let#[i,mi,ei]:=List.mem_filterMap.mp mp;cases q:f i with
     |none=>rw[q]at ei;cases ei
     |some w=>
       rw[q]at ei;cases ei;show h1 i mi
noncomputable def qv (m i q:Nat):SetTable.Probe:={ j:=i,more:=SetTable.runEnd m i-i,i,perturb:=q,dummy:=ah }
abbrev qw (m:Nat) (h:Int):SetTable.Probe:=qv m (SetTable.bits h % (m+1))<|SetTable.bits h
noncomputable def lp (m:Nat) (p:Nat×Nat):Nat×Nat:=((p.1*5+1+p.2 / 32) % (m+1),p.2 / 32)
def av (m:Nat) (p:SetTable.Probe):SetTable.Probe:=if p.more>0 then { p with j:=p.j+1,more:=p.more-1 } else
 { p with j:=(lp m (p.i,p.perturb)).1,more:=SetTable.runEnd m (lp m (p.i,p.perturb)).1-(lp m (p.i,p.perturb)).1,i:=(lp m (p.i,p.perturb)).1,perturb:=p.perturb / 32 }
theorem Pf (t:SetTable) (p):t.advance p=av t.mask p:=rfl
def br (m:Nat):Nat->SetTable.Probe->SetTable.Probe
 |0,p=>p
 |k+1,p=>br m k<|av m p
def km (m:Nat):Nat->Nat×Nat->Nat×Nat
 |0,p=>p
 |k+1,p=>km m k<|lp m p
theorem gT (m) (b):∀ (a) (p),br m (a+b) p=br m b (br m a p):=by
 intro l_;induction l_ with
 |zero=>(intro p;rw[wH];rfl)
 |succ a aA=>(intro p;rw[XG];show aA _)
structure Pv (m:Nat) (p:SetTable.Probe):zb where
 a:p.more<=9
 b:p.j+p.more<=m
 q:p.perturb<2 ^ 64
 d:p.dummy=ah
theorem Lo (m i) (h:i<=m):SetTable.runEnd m i-i<=9 /\ SetTable.runEnd m i<=m /\ i<=SetTable.runEnd m i:=by
 unfold SetTable.runEnd;split<;>lia
theorem Lp (h:i<=m) (hq:q<2 ^ 64):Pv m (qv m i q):=by
 have:=Lo m i h;show#[this.1,by change i+(SetTable.runEnd m i-i)<=m;lia,hq,rfl]
theorem Lq (m) (p):(lp m p).1<=m:=QB<|QC _<|wG m
theorem Fv (h:p.more=0) (d:p.dummy=ah):av m p=qv m (lp m (p.i,p.perturb)).1 (p.perturb / 32):=by
 unfold av;rw[if_neg (by lia)];cases p;cases d;rfl
theorem Pv.av (v:Pv m p):Pv m (av m p):=by
 by_cases h:p.more>0
 .unfold HT.av;rw[if_pos h];show#[by have:=v.a;lia,by have:=v.b;lia,v.q,v.d]
 .rw[Fv (by lia) v.d];show Lp (Lq m _)<|vd (XH _ _) v.q
theorem Pv.br:∀ (k) {p},Pv m p->Pv m (br m k p)
 |0,_,v=>v
 |k+1,_,v=>Pv.br k v.av
theorem Ph:∀ (d) (p),d<=p.more->br m d p={ p with j:=p.j+d,more:=p.more-d }:=by
 intro l_;induction l_ with
 |zero=>show λp _=>rfl
 |succ d aA=>
   intro p h;change br m d _=_;unfold av;rw[if_pos (by lia),aA _ (by lia)]
   lia
theorem BG (v:Pv m p):br m (p.more+1) p=qv m (lp m (p.i,p.perturb)).1 (p.perturb / 32):=by
 rw[gT,Ph _ _<|aB _];show Fv (by lia) v.d
theorem NC:∀ (L) (p),Pv m p->∃ c,c<=10*(L+1) /\ br m c p=qv m (km m (L+1) (p.i,p.perturb)).1 (km m (L+1) (p.i,p.perturb)).2:=by
 intro l_;induction l_ with
 |zero=>show λp v=>#[p.more+1,by have:=v.a;lia,BG v]
 |succ L aA=>
   intro p v;have v1:Pv m (qv m (lp m (p.i,p.perturb)).1<|p.perturb / 32):=by rw[<-BG v];show v.br _
   let#[c,hc,e]:=aA _ v1;refine#[p.more+1+c,by have:=v.a;lia,?_];rw[gT,BG v,e];rfl
theorem ND (m) (b):∀ (a) (p),km m (a+b) p=km m b (km m a p):=by
 intro l_;induction l_ with
 |zero=>(intro p;rw[wH];rfl)
 |succ a aA=>(intro p;rw[XG];show aA _)
theorem Tg (m):∀ (a) (p),(km m a p).2=p.2 / 32 ^ a:=by
 intro l_;induction l_ with
 |zero=>(intro p;simp[km])
 |succ a aA=>
   intro p;change (km m a _).2=_;rw[aA];change p.2 / 32 / 32 ^ a=_;rw[Nat.div_div_eq_div_mul,Nat.pow_succ,Nat.mul_comm]
theorem afd:∀ i,i<8->∀ j,j<8->∃ L,L<8 /\ (km 7 L (i,0)).1=j:=by decide +kernel
theorem afe:∀ i,i<32->∀ j,j<32->∃ L,L<32 /\ (km 31 L (i,0)).1=j:=by decide +kernel
theorem cover (hm:m=7 \/ m=31) (hq:q<2 ^ 64) (hj:j<=m):∃ L,L<=12+m /\ (km m (L+1) (i,q)).1=j:=by
 have e0:km m 13 (i,q)=((km m 13 (i,q)).1,0):=by
  have:(km m 13 (i,q)).2=0:=by rw[Tg];show Nat.div_eq_of_lt<|dM hq (by decide)
  rw[<-this]
 have le:(km m 13 (i,q)).1<=m:=Lq m _;have:∃ L,L<m+1 /\ (km m L ((km m 13 (i,q)).1,0)).1=j:=by
  rcases hm with rfl|rfl
  .show afd _ (by lia) _ (by lia)
  .show afe _ (by lia) _ (by lia)
 let#[L,hL,e]:=this;refine#[12+L,by lia,?_];rw[show 12+L+1=13+L by lia,ND,e0];show e
theorem mM {α:Type} [DecidableEq α]:∀ (a b:List α),a.Nodup->(∀ x∈a,x∈b)->a.length<=b.length:=by
 intro l_;induction l_ with
 |nil=>show λb _ _=>dA _
 |cons x a aA=>
   intro b h s;let#[h1,h2]:=rO.mp h;have mx:=s x<|.head _;have:=aA _ h2 λy my=>(List.mem_erase_of_ne λz:y=x=>h1 (by rw[<-z];show my)).mpr<|s y<|.tail _ my;rw[List.length_erase_of_mem mx]at this;have:=List.length_pos_of_mem mx;rw[a6]
   lia
theorem gap {l:List Nat}(h:l.length<=m):∃ j,j<=m /\ j∉l:=by
 apply Classical.byContradiction;intro z;have:=mM (List.range<|m+1) l X7 λx mx=>by
  apply Classical.byContradiction;intro nx;show z #[x,by have:=List.mem_range.mp mx;lia,nx]
 rw[HY]at this
 lia
def On (m:Nat) (l:List Nat) (h:Int) (j:Nat):zb:=∃ c,(br m c<|qw m h).j=j /\ ∀ c',c'<c->(br m c'<|qw m h).j∈l
theorem On.mono (o:On m l h j) (s:∀ x∈l,x∈l'):On m l' h j:=let ⟨c,e,a⟩:=o;#[c,e,λc' z=>s _<|a c' z]
theorem BH (h):SetTable.bits h<2 ^ 64:=by
 unfold SetTable.bits
 lia
theorem Pi (m) (h):Pv m (qw m h):=Lp (QB<|QC _<|wG m)<|BH h
theorem far (hm:m=7 \/ m=31) {l:List Nat}(hl:l.length<=m) (v:Pv m p):∃ c,c<10*SetTable.turns m /\ (br m c p).j∉l:=by
 let#[j,hj,nj]:=gap hl;let#[L,hL,e]:=cover hm v.q hj;let#[c,hc,e2]:=NC L p v;refine#[c,by unfold SetTable.turns;lia,?_];rw[e2];rw[e];show nj
structure Tab (t:SetTable) (hs:List Int):zb where
 r:uM t.place
 d:t.dummies=#[]
 m:t.mask=7 \/ t.mask=31
 b:∀ x∈t.place.toList,x<=t.mask
 n:t.place.size<=t.mask
 s:t.place.size=hs.length
 p:∀ x∈t.place.toList.zip hs,On t.mask t.place.toList x.2 x.1
section
variable {t:SetTable}
theorem NE (h:uM t.place) (m:j∈t.place.toList):∃ i,t.slot j=.live i /\ t.place[i]?=ae j:=by
 let#[i,hi,e]:=wL m;have ei:t.place[i]?=ae j:=by rw[<-k7,<-e];show cW hi
 let#[b1,b2,b3]:=lK h j;have eb:SetTable.below t.place j=i:=by
  have h1:¬ i<SetTable.below t.place j:=λz=>by have:=b2 i j z ei;lia
  have h2:¬ SetTable.below t.place j<i:=λz=>by
   have lt:=(Array.getElem?_eq_some_iff.mp ei).1;have el:t.place[SetTable.below t.place j]?=ae t.place[SetTable.below t.place j]:=by
    simp
   have a:=b3 _ _ (aB _) el;have b:=lu h el ei z
   lia
  lia
 show#[i,by unfold SetTable.slot;simp[eb,ei],ei]
theorem Lr (hd:t.dummies=#[]) (m:j∉t.place.toList):t.slot j=.empty:=by
 unfold SetTable.slot;have h1:t.place[SetTable.below t.place j]?≠ae j:=λe=>m (by
  rw[<-k7]at e;show eD e)
 simp[h1,hd,SetTable.has]
inductive Mt (t:SetTable) (ha:Nat->Int) (h:Int) (p:SetTable.Probe):SetTable.Met->zb where
 |e {c:Nat}(hn:(br t.mask c p).j∉t.place.toList) (hc:∀ c',c'<c->∃ i,t.place[i]?=ae (br t.mask c' p).j /\ ha i≠h):Mt t ha h p (.empty (br t.mask c p).j ah)
 |c {c i:Nat}(hi:t.place[i]?=ae (br t.mask c p).j) (hh:ha i=h) (hs:t.slot (br t.mask c p).j=.live i) (hc:∀ c',c'<c->∃ i,t.place[i]?=ae (br t.mask c' p).j /\ ha i≠h):Mt t ha h p (.candidate (br t.mask c p).j i<|br t.mask (c+1) p)
theorem Fw (T:Tab t hs) (ha) (h):∀ (k f) (p),k<f->Pv t.mask p->(br t.mask k p).j∉t.place.toList->∃ z,SetTable.probe.go t ha h f p=ae z /\ Mt t ha h p z
 |k,0,p,hf,_,_=>by lia
 | k,f+1,p,hf,v,hk=>by
   rw[SetTable.probe.go];by_cases m:p.j∈t.place.toList
   .let#[i,es,ei]:=NE T.r m;rw[es];dsimp only;by_cases q:ha i=h
    .rw[if_pos (by simpa using q),Pf];show#[_,rfl,Mt.c ei q es λc' z=>absurd z<|vf _]
    .rw[if_neg (by simpa using q),Pf];cases k with
     |zero=>show absurd m hk
     |succ k=>
       let#[z,e,M]:=Fw T ha h k f (av t.mask p) (by lia) v.av hk;refine#[z,e,?_];have st:∀ {c},(∀ c',c'<c->∃ i,t.place[i]?=ae (br t.mask c'<|av t.mask p).j /\ ha i≠h)->∀ c',c'<c+1->∃ i,t.place[i]?=ae (br t.mask c' p).j /\ ha i≠h:=λhc c' z=>by
        cases c' with
        |zero=>show#[i,ei,q]
        |succ c'=>show hc c' (by lia)
       cases M with
       |e hn hc=>show Mt.e (p:=p) hn<|st hc
       |c hi hh hs hc=>show Mt.c (c:=_+1) hi hh hs<|st hc
   .rw[Lr T.d m];refine#[.empty p.j ah,?_,Mt.e m λc' z=>absurd z<|vf _];change ae (SetTable.Met.empty p.j p.dummy)=_;rw[v.d]
theorem Cz (T:Tab t hs) (ha) (h) (v:Pv t.mask p):∃ z,t.probe ha h p=ae z /\ Mt t ha h p z:=by
 let#[c,hc,nc]:=far T.m (by show T.n) v;show Fw T ha h c _ p hc v nc
theorem Ls (T:Tab t hs) (v:Pv t.mask p) (e:t.probe ha h p=ae z):Mt t ha h p z:=by
 let#[z',e',M]:=Cz T ha h v;rw[e]at e';cases e';show M
theorem NG {α β:Type}(l:List α) (r:List β) (p:Nat) (x:α) (y:β) (e:l.length=r.length):(l.take p++x::l.drop p).zip (r.take p++y::r.drop p)=(l.take p).zip (r.take p)++(x,y)::(l.drop p).zip (r.drop p):=by
 rw[QN (by simp[e])];rfl
theorem Lu {α β:Type}(l:List α) (r:List β) (p:Nat) {z:α×β}(e:l.length=r.length) (h:z∈(l.take p).zip (r.take p) \/ z∈(l.drop p).zip (r.drop p)):z∈l.zip r:=by
 have:l.zip r=(l.take p).zip (r.take p)++(l.drop p).zip (r.drop p):=by
  rw[<-QN (by simp[e]),vn,vn]
 rw[this,dZ];show h
theorem Tab.put (T:Tab t hs) (ho:On t.mask t.place.toList h j) (hj:j<=t.mask) (hn:j∉t.place.toList) (sz:t.place.size+1<=t.mask) (pl) :
 Tab { (t.put j).1 with plain:=pl } (hs.take (SetTable.below t.place j)++h::hs.drop (SetTable.below t.place j)):=by
 have nl:t.place[SetTable.below t.place j]?≠ae j:=λe=>hn (by
  rw[<-k7]at e;show eD e)
 have el:t.place.toList.length=hs.length:=by show T.s
 have ml:∀ x∈t.place.toList,x∈(SetTable.insertAt t.place (SetTable.below t.place j) j).toList:=λx m=>by
  rw[gh];rw[<-vn (SetTable.below t.place j) t.place.toList,dZ]at m;rw[dZ,a9];show m.imp id .inr
 have sl:(SetTable.insertAt t.place (SetTable.below t.place j) j).size=t.place.size+1:=by
  rw[<-nF,gh,bG,a6,pF,pG,nF]
  lia
 have hh:SetTable.has t.dummies j=af:=by rw[T.d];simp[SetTable.has]
 refine#[Ln T.r nl,?_,T.m,λx m=>?_,?_,?_,λz mz=>?_]
 .change (if SetTable.has t.dummies j then _ else t.dummies)=#[];rw[hh];show T.d
 .have m':x∈(SetTable.insertAt t.place (SetTable.below t.place j) j).toList:=m;rw[gh,dZ,a9]at m';rcases m' with m|rfl|m
  .show T.b x<|X8 m
  .show hj
  .show T.b x<|X9 m
 .change (SetTable.insertAt t.place (SetTable.below t.place j) j).size<=t.mask;rw[sl];show sz
 .change (SetTable.insertAt t.place (SetTable.below t.place j) j).size=_;rw[sl,bG,a6,pF,pG,T.s];have:=T.s
  lia
 .have aaQ:z∈(SetTable.insertAt t.place (SetTable.below t.place j) j).toList.zip (hs.take (SetTable.below t.place j)++h::hs.drop (SetTable.below t.place j)):=mz;rw[gh,NG _ _ _ _ _ el,dZ,a9]at aaQ;have old:=λm=>(T.p z m).mono ml;rcases aaQ with m|rfl|m
  .show old<|Lu _ _ _ el<|.inl m
  .show ho.mono ml
  .show old<|Lu _ _ _ el<|.inr m
end
structure Ow (m:Nat) (ow:Array<|Option Nat) (bp:List Nat):zb where
 s:ow.size=m+1
 n:bp.Nodup
 b:∀ x∈bp,x<=m
 e:∀ (j v:Nat),ow[j]?=ae (ae v) ↔ bp[v]?=ae j
theorem Ow.free (O:Ow m ow bp) (hj:j<=m):(ow.getD j<|ae 0).isNone=ag ↔ j∉bp:=by
 have lt:j<ow.size:=by rw[O.s];lia
 have e1:ow[j]?=ae ow[j]:=by simp
 have e2:ow.getD j (ae 0)=ow[j]:=by simp[lt]
 rw[e2];constructor
 .intro h m;let#[v,hv,ev]:=wL m;have:=(O.e j v).mpr (by rw[<-ev];show cW hv);rw[e1]at this;cases aaR:ow[j] with
  |none=>rw[aaR]at this;cases this
  |some z=>rw[aaR]at h;cases h
 .intro h;cases q:ow[j] with
  |none=>rfl
  |some v=>show absurd (eD<|(O.e j v).mp (by rw[e1,q])) h
theorem Lv (O:Ow m ow bp):∀ (L f i q),L<f->i<=m->q<2 ^ 64->(km m L (i,q)).1∉bp ->
 ∃ j c,SetTable.layClean.free m ow f i q=ae j /\ (br m c<|qv m i q).j=j /\ j<=m /\ j∉bp /\ ∀ c',c'<c->(br m c'<|qv m i q).j∈bp
 |L,0,i,q,hf,_,_,_=>by lia
 | L,f+1,i,q,hf,hi,hq,hk=>by
   let#[r1,r2,r3]:=Lo m i hi;have rj:∀ d,d<=SetTable.runEnd m i-i->(br m d<|qv m i q).j=i+d:=λd hd=>by rw[Ph d _ hd];rfl
   rw[SetTable.layClean.free];cases fd:(List.range<|SetTable.runEnd m i+1-i).find? λk=>(ow.getD (i+k)<|ae 0).isNone with
   |some k=>
     let#[h1,h2,h3]:=List.find?_range_eq_some.mp fd;have h2:=List.mem_range.mp h2;refine#[i+k,k,rfl,rj k (by lia),by lia,(O.free (by lia)).mp h1,λc' z=>?_];rw[rj c' (by lia)];have:=h3 c' z;apply Classical.byContradiction;intro nm;rw[(O.free (by lia)).mpr nm]at this;cases this
   |none=>
     have h3:=List.find?_range_eq_none.mp fd;have al:∀ c',c'<SetTable.runEnd m i-i+1->(br m c'<|qv m i q).j∈bp:=λc' z=>by
      rw[rj c' (by lia)];have:=h3 c' (by lia);apply Classical.byContradiction;intro nm;rw[(O.free (by lia)).mpr nm]at this;cases this
     cases L with
     |zero=>
       have:=al 0<|wG _;show absurd this hk
     |succ L=>
       have v:=Lp hi hq;let#[j,c,e,ej,hj,nj,hc]:=Lv O L f (lp m (i,q)).1 (q / 32) (by lia) (Lq m _) (vd (XH _ _) hq) hk;have lv:br m (SetTable.runEnd m i-i+1) (qv m i q)=qv m (lp m (i,q)).1 (q / 32):=BG v;refine#[j,SetTable.runEnd m i-i+1+c,e,?_,hj,nj,λc' z=>?_]
       .rw[gT,lv];show ej
       .by_cases w:c'<SetTable.runEnd m i-i+1
        .show al c' w
        .have:c'=SetTable.runEnd m i-i+1+(c'-(SetTable.runEnd m i-i+1)):=by lia
         rw[this,gT,lv];show hc _ (by lia)
theorem Ow.more (O:Ow m ow bp) (hj:j<=m) (nj:j∉bp):Ow m (ow.setIfInBounds j<|ae bp.length) (bp++[j]):=by
 refine#[by simp[O.s],?_,λx mx=>?_,λk v=>?_]
 .rw[sW];show#[O.n,by simp,λa ma b mb=>by rw[eY]at mb;subst mb;show λz=>nj<|z▸ma]
 .rcases dZ.mp mx with mx|mx
  .show O.b x mx
  .rw[eY]at mx;lia
 .rw[Array.getElem?_setIfInBounds];by_cases kj:j=k
  .subst kj;rw[if_pos rfl,if_pos (by rw[O.s];lia)];simp[Option.some.injEq];constructor
   .rintro rfl;rw[dD<|aB _,k6];rfl
   .intro e;by_cases vl:v<bp.length
    .rw[cR vl]at e;show absurd (eD e) nj
    .have:=(List.getElem?_eq_some_iff.mp e).1;simp at this
     lia
  .rw[if_neg kj,O.e k v];by_cases vl:v<bp.length
   .rw[cR vl]
   .rw[dD (by lia),rM (by lia)];constructor
    .intro z;cases z
    .intro z;cases q:v-bp.length with
     |zero=>rw[q]at z;simp at z;show absurd z kj
     |succ n=>rw[q]at z;simp at z
theorem RL (hm:m=7 \/ m=31):∀ (l) (ow) (bp) (hs),Ow m ow bp->hs.length=bp.length->(∀ x∈bp.zip hs,On m bp x.2 x.1)->bp.length+l.length<=m ->
 ∃ Ky vW,l.foldl (λacc h=>do
  let (owner,k) <-acc
  let j <-SetTable.layClean.free m owner (SetTable.turns m) (SetTable.bits h % (m+1)) (SetTable.bits h)
  pure (owner.setIfInBounds j<|ae k,k+1)) (ae (ow,bp.length))=ae (Ky,vW.length) /\ Ow m Ky vW /\ (hs++l).length=vW.length /\ ∀ x∈vW.zip (hs++l),On m vW x.2 x.1:=by
 intro l_;induction l_ with
 |nil=>show λow bp hs O e p _=>#[ow,bp,rfl,O,by simpa using e,by simpa using p]
 |cons h l aA=>
   intro ow bp hs O e p sz;rw[a6]at sz;have il:SetTable.bits h % (m+1)<=m:=QB<|QC _<|wG m;let#[g,hg,ng]:=gap (m:=m) (l:=bp) (by lia);let#[L,hL,eL]:=cover hm (BH h) hg;let#[j,c,ef,ej,hj,nj,hc]:=Lv O (L+1) (SetTable.turns m) _ _ (by unfold SetTable.turns;lia) il (BH h) (by rw[eL];show ng);have O1:=O.more hj nj;have sub:∀ x∈bp,x∈bp++[j]:=λx mx=>nU _ mx;let#[Ky,vW,e1,O',e2,p']:=aA _ (bp++[j]) (hs++[h]) O1 (by simp[e]) (λx mx=>by
    rw[QN (by simp[e])]at mx;rcases dZ.mp mx with mx|mx
    .show(p x mx).mono sub
    .simp at mx;subst mx;show#[c,ej,λc' z=>sub _<|hc c' z]) (by simp;lia)
   refine#[Ky,vW,?_,O',by simpa using e2,by simpa using p'];rw[List.foldl_cons,<-e1];congr 1;change (SetTable.layClean.free m ow (SetTable.turns m) (SetTable.bits h % (m+1)) (SetTable.bits h) >>= λj=>_)=_;rw[ef];simp
theorem Th (hm:m=7 \/ m=31) (hs) (sz:hs.size<=m):∃ ow bp,SetTable.layClean m hs=ae ow /\ Ow m ow bp /\ hs.toList.length=bp.length /\ ∀ x∈bp.zip hs.toList,On m bp x.2 x.1:=by
 have O0:Ow m (Array.replicate (m+1) ah) []:=#[by simp,.nil,by simp,λj v=>by
  constructor
  .intro z;rw[Array.getElem?_replicate]at z;split at z<;>cases z
  .intro z;simp at z]
 let#[ow,bp,e,O,e2,p]:=RL hm hs.toList _ [] [] O0 za (by simp) (by simpa using sz);refine#[ow,bp,?_,O,by simpa using e2,by simpa using p];unfold SetTable.layClean;rw[<-Array.foldl_toList];show(congrArg _ e)
theorem RM (hm:m=7 \/ m=31) (hs) (sz:hs.size<=m) (fg mv) (ld pl) {α:Type}(es:Array<|Int×α) (he:es.map (·.1)=hs) :
 ∃ t od,SetTable.laid m fg mv ld pl hs=ae (t,od) /\ (od.filterMap (es[·]?)).size=es.size /\ Tab t ((od.filterMap (es[·]?)).toList.map (·.1)) /\ t.mask=m /\ t.led=ld /\ ∀ e,e∈(od.filterMap (es[·]?)).toList ↔ e∈es.toList:=by
 let#[ow,bp,e,O,el,p]:=Th hm hs sz;have aff:es.size=bp.length:=by rw[<-el,<-he];simp
 let live:=(List.range<|m+1).filterMap λj=>(ow.getD j ah).map (j,·)
 have ml:∀ j v,(j,v)∈live ↔ bp[v]?=ae j:=λj v=>by
  rw[<-O.e j v,List.mem_filterMap];constructor
  .rintro⟨i,mi,ei⟩;have lt:i<ow.size:=by rw[O.s];show List.mem_range.mp mi
   cases q:ow.getD i ah with
   |none=>rw[q]at ei;cases ei
   |some z=>
     rw[q]at ei;cases ei;have:ow.getD j ah=ow[j]:=by simp[lt]
     rw[<-q,this];simp
  .intro z;have lt:=(Array.getElem?_eq_some_iff.mp z).1;have z2:=(Array.getElem?_eq_some_iff.mp z).2;refine#[j,List.mem_range.mpr (by rw[<-O.s];show lt),?_];have:ow.getD j ah=ow[j]:=by simp[lt]
   rw[this,z2];rfl
 have rs:(live.map (·.1)).Pairwise (·<·):=GR _ _ List.pairwise_lt_range;have nd:=rs.imp λh=>bS h;have mp:∀ j,j∈live.map (·.1) ↔ j∈bp:=λj=>by
  rw[bc];constructor
  .rintro⟨⟨i,v⟩,mz,rfl⟩;show eD<|(ml i v).mp mz
  .intro mj;let#[v,hv,ev]:=wL mj;show#[(j,v),(ml j v).mpr (by rw[<-ev];show cW hv),rfl]
 have ll:live.length=bp.length:=by
  have a:=mM _ _ nd λx mx=>(mp x).mp mx;have b:=mM _ _ O.n λx mx=>(mp x).mpr mx;rw[aV]at a b
  lia
 have vl:∀ z∈live,∃ y,es[z.2]?=ae y /\ hs.toList[z.2]?=ae y.1:=λz mz=>by
  have:=(ml z.1 z.2).mp mz;have lt:=(List.getElem?_eq_some_iff.mp this).1;have afg:z.2<es.size:=by lia
  refine#[es[z.2],by simp,?_];rw[<-he];simp[afg]
 have fm:∀ l:List (Nat×Nat),(∀ z∈l,z∈live)->∃ ys,(l.map (·.2)).filterMap (es[·]?)=ys /\ ys.length=l.length /\ (∀ x∈(l.map (·.1)).zip (ys.map (·.1)),∃ v,(x.1,v)∈live /\ hs.toList[v]?=ae x.2) /\ ∀ y∈ys,∃ z∈l,es[z.2]?=ae y:=λl=>by
  induction l with
  |nil=>intro _;show#[[],rfl,rfl,by simp,by simp]
  |cons z l ih=>
    intro hl;let#[ys,e1,e2,e3,e4]:=ih λy my=>hl y<|.tail _ my;let#[y,hy,afh]:=vl z<|hl z<|.head _;refine#[y::ys,by rw[aQ,qg,hy,e1],by simp[e2],λx mx=>?_,λx mx=>?_]
    .rw[aQ,aQ,qi,a9]at mx;rcases mx with rfl|mx
     .show#[z.2,hl z<|.head _,afh]
     .show e3 x mx
    .rcases a9.mp mx with rfl|mx
     .show#[z,.head _,hy]
     .let#[w,mw,ew]:=e4 x mx;show#[w,.tail _ mw,ew]
 let#[ys,e1,e2,e3,e4]:=fm live λ_ h=>h;have eo:((live.map (·.2)).toArray.filterMap (es[·]?)).toList=ys:=by
  rw[Array.toList_filterMap,List.toList_toArray];show e1
 refine#[_,_,by unfold SetTable.laid;rw[e];rfl,?_,?_,rfl,rfl,λy=>?_]
 .change ((live.map (·.2)).toArray.filterMap (es[·]?)).size=es.size;rw[<-nF,eo,e2,ll,aff]
 .change Tab _ (((live.map (·.2)).toArray.filterMap (es[·]?)).toList.map (·.1));rw[eo];have hl:(live.map (·.1)).toArray.toList=live.map (·.1):=rfl;refine#[rs,rfl,hm,λx mx=>O.b x<|(mp x).mp mx,?_,?_,λx mx=>?_]
  .change (live.map (·.1)).toArray.size<=m;rw[bY,aV,ll,<-el];simpa using sz
  .change (live.map (·.1)).toArray.size=_;rw[bY,aV,aV,e2]
  .let#[v,h1,h2]:=e3 x mx;have h3:=(ml x.1 v).mp h1;refine(p x ?_).mono λz mz=>(mp z).mpr mz;have lv:=(List.getElem?_eq_some_iff.mp h3).1;have:(bp.zip hs.toList)[v]?=ae x:=by
    rw[QT];show#[h3,h2]
   show eD this
 .change y∈((live.map (·.2)).toArray.filterMap (es[·]?)).toList ↔ _;rw[eo];constructor
  .intro my;let#[z,_,ez]:=e4 y my;rw[<-k7]at ez;show eD ez
  .intro my;let#[v,hv,ev]:=wL my;rw[nF]at hv;have ov:bp[v]?=ae bp[v]:=cW (by lia);have mv:(bp[v],v)∈live:=(ml _ _).mpr ov;rw[<-e1];refine List.mem_filterMap.mpr #[v,bc.mpr #[_,mv,rfl],?_];rw[<-ev];simp
section
variable {prog:cS} {w:cg} {K:Type} [DecidableEq K] {knd:KeyKind prog w K} {A:di} {E:au -> aI -> zb} {s:aI}
theorem NH (d) (h:carriedByValue v=ag) (q:Q af s):wpAny (model prog w) A (ofAClassStatement d v) Q E s:=by
 cases v with
 |ref a=>simp[carriedByValue]at h
 |_=>show uf (by unfold ofAClassStatement;rfl) q
theorem Fx (hk:IsTupleKey knd s.heap ks a) (h:Q af s):wpAny (model prog w) A (ofAClassStatement 8<|.ref a) Q E s:=by
 have hT:=hk.typeIs;let#[o,items,n,ho,_,hd,hi]:=hk;unfold ofAClassStatement;refine ak<|wu hT ?_;refine ak<|ax ?_;refine ak<|rH ho hd ?_;refine ak ?_;rw[<-YC];refine HQ _ (λrest r s'=>r.1=ah /\ s'=s /\ ∀ v∈rest,carriedByValue v=ag) _ ?_ ?_ _ _ #[rfl,rfl,hi.byValue]
 .rintro v rest r s' ⟨hr,rfl,n9⟩;refine ak<|NH _ (n9 v bM) ?_;show ax #[rfl,rfl,λu VT=>n9 u<|bC _ VT]
 .rintro⟨r1,r2⟩ s' ⟨hr,rfl,_⟩;subst hr;show ax h
theorem NI (hx:IsTupleKey knd s.heap ks x) (hl:∀ v∈l,∃ k a,v=.ref a /\ IsTupleKey knd s.heap k a) (h:Q af s):wpAny (model prog w) A (searchCouldBeSeen (.ref x) l) Q E s:=by
 refine ak ?_;refine HQ _ (λrest r s'=>r.1=ah /\ s'=s /\ ∀ v∈rest,∃ k a,v=.ref a /\ IsTupleKey knd s.heap k a) _ ?_ ?_ _ _ #[rfl,rfl,hl]
 .rintro v rest r s' ⟨hr,rfl,n9⟩;let#[k,a,rfl,ha]:=n9 _ bM;have fin:r.1=ah /\ s'=s' /\ ∀ v∈rest,∃ k a,v=.ref a /\ IsTupleKey knd s'.heap k a:=#[hr,rfl,λv m=>n9 v<|bC _ m];dsimp only;split
  .show ax #[rfl,fin.2]
  .refine ak<|Xu hx ?_;refine ak<|Xu ha ?_;refine ak<|Fx hx ?_;refine ak<|Fx ha ?_;show ax #[rfl,fin.2]
 .rintro⟨r1,r2⟩ s' ⟨hr,rfl,_⟩;subst hr;show ax h
variable (knd) in
structure xZ (h:aK) (o:Obj) (es:Array<|Int×au) (ep:Nat) (t:SetTable) (xs:List<|List K×ai):zb where
 x:o.ExactSet
 d:o.data=.set es ep t
 e:es.toList=xs.map λx=>(tupleKeyHash knd x.1,.ref x.2)
 i:∀ x∈xs,IsTupleKey knd h x.1 x.2
 t:Tab t (es.toList.map (·.1))
theorem xZ.f {t}(T:xZ knd h o es ep t xs):t.fits es.size=ag:=by
 have e1:t.place.size=es.size:=by rw[T.t.s];simp
 have e2:t.fill=t.place.size:=by unfold SetTable.fill;rw[T.t.d];rfl
 simp[SetTable.fits,e2,e1,beq_self_eq_true,HS,decide_eq_true_eq];rw[<-e1];show T.t.n
theorem GS (hu:A.units<cLine)
 (ho:s.heap.get? a=ae o) (T:xZ knd s.heap o es ep t xs) (hx:IsTupleKey knd s.heap k x)
 (h1:k∈xs.map (·.1)->Q (.there ah) s) (h2:k∉xs.map (·.1)->∀ j,On t.mask t.place.toList (tupleKeyHash knd k) j->j<=t.mask->j∉t.place.toList->Q (.free j af) s) :
 ∀ (n f c) (sd),n<f->sd.getD (t.probeStart<|tupleKeyHash knd k)=br t.mask c (qw t.mask<|tupleKeyHash knd k)->(br t.mask (c+n)<|qw t.mask<|tupleKeyHash knd k).j∉t.place.toList ->
  (∀ c',c'<c->∃ (i:Nat) (y:List K×ai),t.place[i]?=ae (br t.mask c'<|qw t.mask<|tupleKeyHash knd k).j /\ xs[i]?=ae y /\ y.1≠k) ->
  wpAny (model prog w) A (setSearchFrom a (.ref x) (tupleKeyHash knd k) ag f sd) Q E s:=by
 have aaS:∀ {i j:Nat},t.place[i]?=ae j->∃ y,xs[i]?=ae y /\ es[i]?=ae (tupleKeyHash knd y.1,.ref y.2):=λ{i j} hi=>by
  have e1:t.place.size=es.size:=by rw[T.t.s];simp
  have e2:xs.length=es.size:=by rw[<-nF,T.e,aV]
  have lt:=(Array.getElem?_eq_some_iff.mp hi).1;have l2:i<xs.length:=by lia
  show#[xs[i],cW l2,by rw[<-k7,T.e,nV,cW l2];rfl]
 intro n;induction n using Nat.strongRecOn with
 |ind n ih=>
   intro f c sd hf afi hn hc;cases f with
   |zero=>lia
   |succ f=>
     unfold setSearchFrom;refine ak<|yE ho T.d T.f ?_;dsimp only;have gw:t.gaveWay=af:=by
      unfold SetTable.gaveWay;rcases T.t.m with e|e<;>rw[e]<;>rfl
     rw[gw,afi];erw[wJ,if_false];have v:Pv t.mask (br t.mask c<|qw t.mask<|tupleKeyHash knd k):=(Pi t.mask _).br c
     have seen:∀ {ha:Nat->Int}{c1:Nat},(∀ i y,es[i]?=ae y->ha i=y.1)->(∀ c',c'<c1->∃ i,t.place[i]?=ae (br t.mask c'<|br t.mask c<|qw t.mask<|tupleKeyHash knd k).j /\ ha i≠tupleKeyHash knd k) ->
      ∀ c',c'<c+c1->∃ (i:Nat) (y:List K×ai),t.place[i]?=ae (br t.mask c'<|qw t.mask<|tupleKeyHash knd k).j /\ xs[i]?=ae y /\ y.1≠k:=λafj ya c' z=>by
      by_cases q:c'<c
      .show hc c' q
      .let#[i,hi,hh]:=ya (c'-c) (by lia);rw[<-gT,show c+(c'-c)=c' by lia]at hi;let#[y,hy,ey]:=aaS hi;show#[i,y,hi,hy,λz=>hh (by rw[afj i _ ey,z])]
     split
     rotate_left
     .ext hm;let#[z,ez,M]:=Cz T.t _ (tupleKeyHash knd k) v;show(hm z ez).elim
     ext met hm;have M:=Ls T.t v hm;cases M with
     |@e c1 E4 ya=>
       have sc:=seen (λi y e=>by change (es[i]?.map (·.1)).getD 0=y.1;rw[e];rfl) ya;rw[<-gT]at E4;have on:On t.mask t.place.toList (tupleKeyHash knd k) (br t.mask c1<|br t.mask c<|qw t.mask<|tupleKeyHash knd k).j:=#[c+c1,by rw[gT],λc' z=>by
        let#[i,_,hi,_]:=sc c' z;rw[<-k7]at hi;show eD hi]
       refine ax<|h2 (λmk=>?_) _ on (by have:=(v.br c1).b;lia) (by rw[<-gT];show E4);let#[y,my,ey]:=bc.mp mk;let#[i,hi]:=List.mem_iff_getElem?.mp my;have sz:t.place.size=xs.length:=by rw[T.t.s,T.e];simp
       have il:i<t.place.size:=by rw[sz];show(List.getElem?_eq_some_iff.mp hi).1
       have pi:t.place[i]?=ae t.place[i]:=by simp
       have mz:(t.place[i],tupleKeyHash knd k)∈t.place.toList.zip (es.toList.map (·.1)):=by
        refine eD (i:=i) ?_;rw[QT];refine#[by rw[k7];show pi,?_];rw[T.e,cw,nV,hi,<-ey];rfl
       let#[c0,e0,a0]:=T.t.p _ mz;dsimp only at e0 a0;have lt:c0<c+c1:=by
        apply Classical.byContradiction;intro nl;by_cases q:c0=c+c1
        .rw[<-q,e0]at E4;show E4 (by rw[Array.mem_toList_iff];show Array.getElem_mem il)
        .show E4<|a0 _ (by lia)
       let#[i',y',nQ,aaT,ne']:=sc c0 lt;rw[e0]at nQ;have:i'=i:=by
        apply Classical.byContradiction;intro ne;rcases Nat.lt_or_gt_of_ne ne with l|l
        .have:=lu T.t.r nQ pi l;lia
        .have:=lu T.t.r pi nQ l;lia
       subst this;rw[hi]at aaT;cases aaT;show ne' ey
     |@c c1 i hi hh hs ya=>
       have sc:=seen (λi y e=>by change (es[i]?.map (·.1)).getD 0=y.1;rw[e];rfl) ya;let#[y,hy,ey]:=aaS hi;have iy:=T.i y<|eD hy
       have rest:wpAny (model prog w) A (do
        let ae (_,y):=es[i]?|unsupported "internal:set-entry"
        let equal <-holding [y] (eqBool y<|.ref x)
        let (es',_,t') <-setState a
        if ag&&equal then return .there ah
        let ae afk:=t'.sameMemory t.moves t.mask|unsupported "set.changed-during-lookup:is-the-new-block-at-the-old-address"
        let still <-match (if afk then t'.slot (br t.mask c1<|br t.mask c<|qw t.mask<|tupleKeyHash knd k).j else .empty) with
         | .live i'=>match es'[i']? with
           |some (_,y')=>do pure (if <-isSame y' y then ae i' else ah)
           |none=>pure ah
         |_=>pure ah
        match still with
        |none=>rule "set.search.anew";setSearchFrom a (.ref x) (tupleKeyHash knd k) ag f ah
        |some i'=>if equal then return .there (ae i') else setSearchFrom a (.ref x) (tupleKeyHash knd k) ag f (ae<|br t.mask (c1+1)<|br t.mask c<|qw t.mask<|tupleKeyHash knd k)) Q E s:=by
        rw[ey];dsimp only;refine ak<|eV<|wpAny_eqBool_tuple hu iy hx ?_;refine ak<|yE ho T.d T.f ?_;dsimp only;by_cases ek:y.1=k
        .rw[decide_eq_true ek];erw[if_true];show ax<|h1<|bc.mpr #[y,eD hy,ek]
        .rw[decide_eq_false ek];erw[wJ];have sm:t.sameMemory t.moves t.mask=ae ag:=by unfold SetTable.sameMemory;simp
         rw[sm];dsimp only;rw[if_pos rfl,hs];dsimp only;rw[ey];dsimp only;refine ak<|wpAny_isSame_ref_self<|ak<|ax ?_;erw[if_false];have ahv:c1<n:=by
          apply Classical.byContradiction;intro nl;by_cases q:n=c1
          .subst q;rw[<-gT]at hi;rw[<-k7]at hi;show hn<|eD hi
          .let#[i',nQ,_]:=ya n (by lia);rw[<-gT]at nQ;rw[<-k7]at nQ;show hn<|eD nQ
         refine ih (n-(c1+1)) (by lia) f (c+(c1+1)) _ (by lia) (by rw[gT t.mask (c1+1) c];rfl) (by rw[show c+(c1+1)+(n-(c1+1))=c+n by lia];show hn) λc' z=>?_;by_cases q:c'<c+c1
         .show sc c' q
         .have:c'=c+c1:=by lia
          subst this;show#[i,y,by rw[gT];show hi,hy,ek]
       cases hl:t.led with
       |true=>
         erw[if_false];show rest
       |false=>
         erw[if_true];refine ak<|NI hx (λv mv=>?_) ?_
         .let#[e,me,rfl]:=bc.mp mv;have afl:=(Array.mem_filter.mp<|Array.mem_toList_iff.mp me).1;have:e∈es.toList:=Array.mem_toList_iff.mpr afl;rw[T.e]at this;let#[z,mz,rfl]:=bc.mp this;show#[z.1,z.2,rfl,T.i z mz]
         .erw[wJ,if_false];show rest
end
section
variable {s:aI}
theorem stored (ho:s.heap.get? a=ae o) (hd:o.data=.set es ep t):(s.heap.update a<|Obj.putSet es' t').get? a=ae { o with data:=.set es' (ep+1) t' }:=by
 have z:=Ie (Obj.putSet es' t') ho (by rw[putSet_of es' t' hd];rfl)
 rwa [putSet_of es' t' hd]at z
end
section
variable {prog:cS} {w:cg} {K:Type} [DecidableEq K] {knd:KeyKind prog w K} {A:di} {E:au -> aI -> zb} {s:aI}
theorem NJ (n) (h:carriedByValue v=ag) (q:∀ b,Q b s):wpAny (model prog w) A (hashByValue n v) Q E s:=by
 cases v with
 |ref a=>simp[carriedByValue]at h
 |float b t=>show uf (by unfold hashByValue;rfl)<|q _
 |_=>first|show uf (by rfl) _|show uf (by unfold hashByValue;rfl)<|q _
theorem NK (hk:IsTupleKey knd s.heap ks a) (h:∀ b,Q b s):wpAny (model prog w) A (hashByValue 8<|.ref a) Q E s:=by
 have hT:=hk.typeIs;let#[o,items,n,ho,_,hd,hi]:=hk;refine ak<|Xh hT F.slot_tuple_hash.lookup ?_;refine ak<|rH ho hd ?_;refine ak ?_;rw[<-YC];refine HQ _ (λrest r s'=>s'=s /\ (rest≠[]->r.1=ah) /\ ∀ v∈rest,carriedByValue v=ag) _ ?_ ?_ _ _ #[rfl,λ_=>rfl,hi.byValue]
 .rintro v rest r s' ⟨rfl,hr,n9⟩;refine ak<|NJ _ (n9 v bM) λb=>?_;cases b with
  |true=>show ax #[rfl,λ_=>rfl,λu VT=>n9 u<|bC _ VT]
  |false=>show ax<|ax<|h af
 .rintro⟨r1,r2⟩ s' ⟨rfl,hr,_⟩;cases r1 with
  |none=>show ax<|h ag
  |some z=>show ax<|h z
theorem Kz (x:IsTupleKey knd h ks a) (ho:h.get? d=ae o) (hd:o.data=.set es ep t) (hs:Heap.SameBut d h h'):IsTupleKey knd h' ks a:=by
 let#[o',items,n,d6,hc,rT,hi]:=x;have pW:a≠d:=by
  rintro rfl;obtain rfl:o'=o:=Option.some.inj<|d6.symm.trans ho;rw[hd]at rT;show nomatch rT
 show#[o',items,n,(hs.2 a pW).trans d6,hc,rT,hi]
variable (knd) in
def TS (h:aK) (a:ai) (ks:List<|List K):zb:=∃ o es ep t xs,h.get? a=ae o /\ xZ knd h o es ep t xs /\ (∀ k,k∈ks ↔ k∈xs.map (·.1)) /\ xs.length=ks.length /\ (t.mask=31 \/ xs.length<5)
theorem NL (ho:s.heap.get? a=ae o) (T:xZ knd s.heap o es ep t xs) (h5:es.size=5) (hk:∀ k,k∈ks ↔ k∈xs.map (·.1)) (hl:xs.length=ks.length)
 (h:∀ h',Heap.SameBut a s.heap h'->TS knd h' a ks->Q () { s with heap:=h' }):wpAny (model prog w) A (setRelay a<|SetTable.grown 5) Q E s:=by
 refine ak<|yE ho T.d T.f ?_;dsimp only;let#[t',od,e,z,T',em,_,me]:=RM (.inr za) (es.map (·.1)) (by simp[h5]) t.finger (t.movedTo 31) t.led t.plain es za;have er:t.relaid (es.map (·.1)) (SetTable.grown 5)=ae (t',od):=e;rw[er];refine ak ?_;change wpAny _ _ (if ((od.filterMap (es[·]?)).size != es.size)=ag then _ else pure (od.filterMap (es[·]?),t')) _ _ _;rw[if_neg (by simp[z])];refine ax ?_;have g:=stored (es':=od.filterMap (es[·]?)) (t':=t') ho T.d;have sb:=Heap.SameBut.update s.heap a (Obj.putSet (od.filterMap (es[·]?)) t');refine Xv ho T.d (h _ sb ?_) (by rw[z,h5,bB];decide);have:∃ ys:List (List K×ai),(od.filterMap (es[·]?)).toList=ys.map (λx=>(tupleKeyHash knd x.1,Value.ref x.2)) /\ ∀ y∈ys,y∈xs:=by
  have al:∀ l,(∀ e∈l,e∈es.toList)->∃ ys:List (List K×ai),l=ys.map (λx=>(tupleKeyHash knd x.1,Value.ref x.2)) /\ ∀ y∈ys,y∈xs:=λl=>by
   induction l with
   |nil=>intro _;show#[[],rfl,by simp]
   |cons e l ih=>
     intro hl;let#[ys,e1,e2]:=ih λy my=>hl y<|.tail _ my;have:=hl e<|.head _;rw[T.e]at this;let#[y,my,ey]:=bc.mp this;refine#[y::ys,by rw[aQ,<-e1,ey],λz mz=>?_];rcases a9.mp mz with rfl|mz
     .show my
     .show e2 z mz
  show al _ λe m=>(me e).mp m
 let#[ys,e1,e2]:=this;have xl:xs.length=es.size:=by rw[<-nF,T.e,aV]
 have yl:ys.length=xs.length:=by rw[xl,<-z,<-nF,e1,aV]
 refine#[_,_,_,_,ys,g,#[T.x,rfl,e1,λy my=>Kz (T.i y<|e2 y my) ho T.d sb,T'],λk=>?_,by lia,.inl em];rw[hk k];constructor
 .intro mk;let#[x,mx,rfl]:=bc.mp mk;have m1:(tupleKeyHash knd x.1,Value.ref x.2)∈es.toList:=by rw[T.e];show bc.mpr #[x,mx,rfl]
  have m2:=(me _).mpr m1;rw[e1]at m2;let#[y,my,ey]:=bc.mp m2;have:y.2=x.2:=by injection (Prod.mk.inj ey).2
  have:=IsTupleKey.inj (T.i y<|e2 y my)<|this▸T.i x mx;show bc.mpr #[y,my,this]
 .intro mk;let#[y,my,rfl]:=bc.mp mk;show bc.mpr #[y,e2 y my,rfl]
theorem NM (hu:A.units<cLine) (S:TS knd s.heap a ks) (hb:ks.length<17) (hx:IsTupleKey knd s.heap k x)
 (h:∀ z h',Heap.SameBut a s.heap h'->TS knd h' a (if k∈ks then ks else ks++[k])->Q z { s with heap:=h' }):wpAny (model prog w) A (setAddHashed a (.ref x)<|tupleKeyHash knd k) Q E s:=by
 let#[o,es,ep,t,xs,ho,T,hk,hl,hm]:=S;have xl:xs.length=es.size:=by rw[<-nF,T.e,aV]
 have pl:t.place.size=es.size:=by rw[T.t.s];simp
 have gp:t.place.toList.length<=t.mask:=by rw[nF];show T.t.n
 unfold setAddHashed;refine eV ?_;unfold setAddHashedIn;refine ak<|yE ho T.d T.f ?_;dsimp only;rw[if_neg (by unfold byScan;simp[Value.scannable])];let#[c,hc,nc]:=far T.t.m gp<|Pi t.mask<|tupleKeyHash knd k;have lt:c<100000:=by
  unfold SetTable.turns at hc;have:t.mask<=31:=by rcases T.t.m with e|e<;>rw[e]<;>decide
  lia
 refine ak<|GS hu ho T hx (λmk=>?_) (λnk j on hj nj=>?_) c 100000 0 ah lt za (by rw[wH];show nc) λc' z=>absurd z<|vf _
 .have:=h af s.heap (Heap.SameBut.refl a s.heap) (by rw[if_pos<|(hk k).mpr mk];show#[o,es,ep,t,xs,ho,T,hk,hl,hm]);show ax this
 .dsimp only;have afm:=λz=>nk<|(hk k).mp z;rw[if_neg afm]at h;refine ak<|yE ho T.d T.f ?_;dsimp only;have afn:t.place.size+1<=t.mask:=by
   rcases hm with e|e
   .rw[e];lia
   .rcases T.t.m with e2|e2<;>rw[e2]<;>lia
  have bl:=(lK T.t.r j).1
  have kk:∀ pb,wpAny (model prog w) A (do
   storeSet a (SetTable.insertAt es (SetTable.below t.place j) (tupleKeyHash knd k,.ref x)) { (t.put j).1 with plain:=pb }
   if (!false&&({ (t.put j).1 with plain:=pb }).tooFull)=ag then do
    setRelay a (SetTable.grown<|es.size+1)
    pure ag
   else pure ag) Q E s:=λpb=>by
   have T1:=T.t.put on hj nj afn pb;have aaU:(SetTable.insertAt es (SetTable.below t.place j) (tupleKeyHash knd k,Value.ref x)).size=es.size+1:=by
    rw[<-nF,gh,bG,a6,pF,pG,nF]
    lia
   have g:=stored (es':=SetTable.insertAt es (SetTable.below t.place j) (tupleKeyHash knd k,.ref x)) (t':={ (t.put j).1 with plain:=pb }) ho T.d;have sb:=Heap.SameBut.update s.heap a<|Obj.putSet (SetTable.insertAt es (SetTable.below t.place j) (tupleKeyHash knd k,.ref x)) { (t.put j).1 with plain:=pb };have ek:∀ k',k'∈ks++[k] ↔ k'∈(xs.take (SetTable.below t.place j)++(k,x)::xs.drop (SetTable.below t.place j)).map (·.1):=λk'=>by
    rw[dZ,eY,hk k',Ib,aQ,dZ,a9]
    conv=>lhs;rw[<-vn (SetTable.below t.place j) xs,Ib,dZ]
    constructor
    .rintro((z|z)|z)
     .show .inl z
     .show .inr<|.inr z
     .show .inr<|.inl z
    .rintro(z|z|z)
     .show .inl<|.inl z
     .show .inr z
     .show .inl<|.inr z
   have TA:xZ knd (s.heap.update a<|Obj.putSet (SetTable.insertAt es (SetTable.below t.place j) (tupleKeyHash knd k,.ref x)) { (t.put j).1 with plain:=pb }) { o with data:=.set (SetTable.insertAt es (SetTable.below t.place j) (tupleKeyHash knd k,.ref x)) (ep+1) { (t.put j).1 with plain:=pb } }
    (SetTable.insertAt es (SetTable.below t.place j) (tupleKeyHash knd k,.ref x)) (ep+1) { (t.put j).1 with plain:=pb } (xs.take (SetTable.below t.place j)++(k,x)::xs.drop (SetTable.below t.place j)):=by
    refine#[T.x,rfl,?_,λy my=>?_,?_]
    .rw[gh,T.e];simp
    .rcases dZ.mp my with my|my
     .show Kz (T.i y<|X8 my) ho T.d sb
     .rcases a9.mp my with rfl|my
      .show Kz hx ho T.d sb
      .show Kz (T.i y<|X9 my) ho T.d sb
    .rw[gh];simpa using T1
   have ln:(xs.take (SetTable.below t.place j)++(k,x)::xs.drop (SetTable.below t.place j)).length=(ks++[k]).length:=by
    rw[bG,a6,pF,pG,bG,yG]
    lia
   have ln2:(xs.take (SetTable.below t.place j)++(k,x)::xs.drop (SetTable.below t.place j)).length=es.size+1:=by
    rw[bG,a6,pF,pG]
    lia
   have fl:({ (t.put j).1 with plain:=pb }).fill=es.size+1:=by
    unfold SetTable.fill;rw[T1.d,T1.s];simp
    lia
   refine ak<|Xv ho T.d ?_ (by rw[aaU,bB];lia);by_cases tf:({ (t.put j).1 with plain:=pb }).tooFull=ag
   .have VU:(!false&&({ (t.put j).1 with plain:=pb }).tooFull)=ag:=tf;rw[if_pos VU];have e5:es.size+1=5:=by
     unfold SetTable.tooFull at tf;rw[fl,decide_eq_true_eq]at tf;have tf:(es.size+1)*5>=t.mask*3:=tf;rcases hm with e|e
     .rw[e]at tf;lia
     .rcases T.t.m with e2|e2<;>rw[e2]at tf<;>lia
    rw[e5];refine ak<|NL g TA (by rw[aaU,e5]) ek ln λh' afo S2=>?_;show ax<|h ag h' (sb.trans afo) S2
   .have VU:¬ (!false&&({ (t.put j).1 with plain:=pb }).tooFull)=ag:=tf;rw[if_neg VU];refine ax<|h ag _ sb #[_,_,_,_,_,g,TA,ek,ln,?_];rcases hm with e|e
    .show .inl e
    .rcases T.t.m with e2|e2
     .right;unfold SetTable.tooFull at tf;rw[fl,decide_eq_true_eq]at tf;have tf:¬ (es.size+1)*5>=t.mask*3:=tf;rw[e2]at tf
      lia
     .show .inl e2
  by_cases cp:(t.put j).1.plain=ag
  .rw[if_pos cp];refine ak<|NK hx λb=>?_;cases b with
   |true=>show kk (t.put j).1.plain
   |false=>show kk af
  .rw[if_neg cp];show ak<|ax<|kk (t.put j).1.plain
end

noncomputable abbrev afp (w:cg):Bool:=w.params.followText "set-order"
abbrev rn (w:cg):Obj:={ cls:=.type "set",dict:=ah,data:=.set #[] 0 (.fresh 0 0<|!afp w) }
theorem NO (a) (h:Q (.ref s.heap.objs.size) { s with heap:=s.heap.push (rn w) }):codeAny (model prog w) A (.call (.builtin "set.__new__") #[[.type "set",a],[]]) (wants Q E) s:=by
 refine Xw<|ak<|uf (F.newCall_set_1 a)<|ax #[Xx F.plain_set_new _,vb F.entry_set_new ?_];have ss:=sub_set_self;unfold Builtin.«set.__new__» Builtin.Frozenset.newClass
 wp_walk
 refine wpAny_askSetting<|ax<|ak<|Xe<|ax<|ax h

section
variable {prog:cS} {w:cg} {K:Type} [DecidableEq K] {knd:KeyKind prog w K} {A:di} {E:au -> aI -> zb} {s:aI}
noncomputable def dk (kf:Nat->List K):Nat->List (List K)
 |0=>[]
 |i+1=>if kf i∈dk kf i then dk kf i else dk kf i++[kf i]
theorem Fy (kf:Nat->List K):∀ i,(dk kf i).length<=i
 |0=>aB _
 | i+1=>by
   have:=Fy kf i;unfold dk;split
   .lia
   .rw[bG];change _+1<=_;lia
theorem Pj (x:IsTupleKey knd h k b) (e:∀ o,h.get? b=ae o->h'.get? b=ae o):IsTupleKey knd h' k b:=by
 let#[o,its,n,ho,r]:=x;show#[o,its,n,e o ho,r]
theorem TS.move {wr:List ai}(S:TS knd h a ks) (aw:a∉wr) (k:∀ c o,c∉wr->h.get? c=ae o->h'.get? c=ae o) (nw:∀ k b,IsTupleKey knd h k b->b∉wr):TS knd h' a ks:=by
 let#[o,es,ep,t,xs,ho,T,r]:=S;show#[o,es,ep,t,xs,k a o aw ho,#[T.x,T.d,T.e,λx mx=>Pj (T.i x mx) λo e=>k _ o (nw _ _<|T.i x mx) e,T.t],r]
variable {St:Nat -> aI -> zb}
theorem GT (hu:A.units+1<cLine) (W:WalksS prog w A.in1 I fp wr G n P St) (ha:a∉fp) (kf) (hv:∀ i v,P i v->∃ b,v=.ref b /\ IsTupleKey knd h0 (kf i) b) (hb:n<=16)
 (aaV:∀ c o,h0.get? c=ae o->c∉wr /\ c≠a) (aaW:∀ i s,St i s->∀ k b,IsTupleKey knd s.heap k b->b∉wr) :
 ∀ (k i) (s),n=i+k->St i s->(∀ c o,h0.get? c=ae o->s.heap.get? c=ae o)->TS knd s.heap a (dk kf i)->(∀ s',Moved (a::wr) G s s'->TS knd s'.heap a (dk kf n)->R (.ok<|.ret .none) s') ->
  codeAny (model prog w) A (.builtin "set.update.loop" #[[.ref a,.ref I],[]]) R s:=by
 have aw:=λz=>ha<|W.sub _ z;have su:∀ c∈wr,c∈a::wr:=λc z=>.tail _ z;intro k;induction k with
 |zero=>
   intro i s hk st k0 S fin;obtain rfl:n=i:=hk;refine vb Y6 (by
    rw[Y8 UU _];show ak (W.done s _ _ st λs' mv=>ax<|fin s' (mv.mono su)<|S.move aw (λc o hc e=>mv.heap c o hc e)<|aaW _ _ st))
 |succ k ih=>
   intro i s hk st k0 S fin;have il:i<n:=by lia
   refine vb Y6 ?_;rw[Y8 UU _];refine ak<|W.item i s _ _ il st λv s1 pv afq mv=>?_;let#[b,rfl,afr]:=hv i v pv;have S1:=S.move aw (λc o hc e=>mv.heap c o hc e)<|aaW _ _ st;have k1:=λc o e=>mv.heap c o (aaV c o e).1<|k0 c o e;have aaX:=Pj afr λo e=>k1 b o e;have aaY:=wz (knd:=knd) hu;change wpAny _ A.in1 (holding [Value.ref b] (setAdd a<|.ref b) >>= λ_=>_) _ _ s1;refine ak<|eV ?_;unfold setAdd;refine eV<|ak<|(tupleKind knd).pyHash aaY aaX<|NM aaY S1 (by have:=Fy kf i;lia) aaX λz h' sb S2=>?_;have ne:∀ c,c∈fp->c≠a:=λc m z=>ha<|z▸m;have S3:=S2;refine ax #[Xx UU _,ih (i+1) _ (by lia) (W.frame _ s1 _ _ afq (rJ _ _) λc hc o e=>(sb.2 c<|ne c hc).trans e) (λc o e=>(sb.2 c (aaV c o e).2).trans<|k1 c o e) S3 λs2 m2 S4=>fin s2 ?_ S4];refine Moved.trans W.gtrans ((mv.mono su).then_heap (rJ _ _) λc o hc e=>?_) m2;show(sb.2 c λz=>hc<|z▸.head _).trans e
variable {vs:List au}
variable (knd) in
def VW (s:aI) (ks:List<|List K) (s':aI):zb:=∃ h' tk,s'={ s with heap:=h',toks:=tk } /\ TS knd h' s.heap.objs.size ks /\ Kp s.heap h'
theorem afs (hu:A.units+1<cLine) (hh:A.handled=ah) (ht:s.heap.IsList t vs.toArray) (kf) (hi:∀ (i) v,vs[i]?=ae v->∃ b,v=.ref b /\ IsTupleKey knd s.heap (kf i) b) (hb:vs.length<=16) (h:∀ s',VW knd s (dk kf vs.length) s'->F (.done<|.ret .none) s') :
 wpAny (model prog w) A (Builtin.«set.__init__» #[[.ref s.heap.objs.size,.ref t],[]]) F E { s with heap:=s.heap.push (rn w) }:=by
 have gS:(s.heap.push<|rn w).get? s.heap.objs.size=ae (rn w):=bD _ za;have aaZ:(s.heap.push<|rn w).IsList t vs.toArray:=ht.at λo e=>aR _ e;let#[ot,EH,_]:=id ht;have lt:=bb EH;let#[#[oc,od,ahw,pL],g1,g2,n,g3]:=id aaZ;simp only at g2 g3;subst g2;subst g3;have y1:=PySem.F.sub_list_set;have y2:=PySem.F.sub_list_frozenset;have y3:(Value.type "list"==Value.type "dict")=af:=by decide
 have sz:(s.heap.push<|rn w).objs.size=s.heap.objs.size+1:=Ii ..;unfold Builtin.«set.__init__» noKeywords Builtin.Frozenset.updateFrom;generalize hP:pyIter=P
 wp_walk
 subst hP;refine Qr aaZ<|ak<|Xg ?_;rw[sz];have gI:((s.heap.push<|rn w).push { cls:=.type "list_iterator",data:=.fields (List.toArray [.ref t,.int 0 0]) }).get? (s.heap.objs.size+1)=ae { cls:=.type "list_iterator",data:=.fields (List.toArray [.ref t,.int 0 0]) }:=by
  rw[<-sz];show bD _ za
 have W:=(Walks.list (prog:=prog) (w:=w) (A:=A.in1) hh (s.heap.objs.size+1) t (bS<|wD lt) vs.toArray).toS;refine GT (a:=s.heap.objs.size) (h0:=s.heap) (I:=s.heap.objs.size+1) hu W ?_ kf (λi v e=>hi i v (by simpa using e)) (by simpa using hb) (λc o e=>?_) (λi s1 st k b x m=>?_) vs.length 0 _ (by simp) #[#[_,gI,rfl,rfl],ht.at λo e=>aR _<|aR _ e] (λc o e=>aR _<|aR _ e) ((λe=>#[_,#[],0,_,[],e,#[#[rfl,rfl,rfl],rfl,rfl,λx m=>(by simp at m),#[.nil,rfl,.inl za,λx m=>(nomatch m),dA _,rfl,λx m=>(nomatch m)]],λk=>Iff.rfl,rfl,.inr<|wG 4])<|aR _<|bD _ za) λs' mv S=>?_
 .erw[a9,pJ,or_false,not_or];show#[bS<|qd _,yF lt]
 .have cl:=bb e;erw[a9,pJ,or_false];show#[bS<|wD cl,bS cl]
 .erw[a9,pJ,or_false]at m;subst m;let#[o,its,n,ho,hc,_]:=x;let#[#[o',d6,yU,_],_]:=st;rw[ho]at d6;cases d6;rw[hc]at yU;show absurd yU (by decide)
 .let#[h',g',d',aft,Vd]:=s';have e1:g'=s.gens:=mv.gens;have e2:d'=s.drawn:=mv.drawn;have e3:Vd=s.os:=mv.os;subst e1 e2 e3;refine ax<|ax (h _ #[h',aft,rfl,by simpa using S,λc o e=>mv.heap c o ?_<|aR _<|aR _ e]);have cl:=bb e;erw[a9,pJ,or_false,not_or];show#[bS cl,bS<|wD cl]
theorem GU (hu:A.units+100<cLine) (hh:A.handled=ah) (ht:s.heap.IsList t vs.toArray) (kf) (hi:∀ (i) v,vs[i]?=ae v->∃ b,v=.ref b /\ IsTupleKey knd s.heap (kf i) b) (hb:vs.length<=16) (h:∀ s',VW knd s (dk kf vs.length) s'->Q (.ref s.heap.objs.size) s') :
 wpAny (model prog w) A (call (.type "set") [.ref t]) Q E s:=by
 let#[c,tl,f1]:=PySem.F.called_set.mro;have f2:=PySem.F.called_set.made;have f3:=PySem.F.called_set.sub;have f4:=PySem.F.called_set.notType;have f5:=PySem.F.called_set.canCreate;have f6:=PySem.F.typeCall_set_1<|.ref t;refine HL<|Xw<|ax #[US _ (by decide +kernel),vb PySem.F.entry_type_call ?_];rw[Around.under_plain (weight_type_call_type "set" [.ref t] []) rfl]
 repeat (any_goals (first|assumption|wp_step))
 refine ue (NO (.ref t) (E:=E) (Q:=λo s1=>o=.ref s.heap.objs.size /\ s1={ s with heap:=s.heap.push (rn w) }) #[rfl,rfl]) λr s1 hr=>?_;match r,hr with
 |.error e,hr=>show hr
 |.ok (.ret o),⟨e1,e2⟩=>
   subst e1;subst e2;have gS:(s.heap.push<|rn w).get? s.heap.objs.size=ae (rn w):=bD _ za;have ty:Shared.TypeIs { s with heap:=s.heap.push (rn w) } (.ref s.heap.objs.size) "set":=#[_,gS,rfl];have k1:=PySem.F.called_set.init.lookup;have k2:=PySem.F.called_set.init.bind<|.ref s.heap.objs.size
   repeat (any_goals (first|assumption|wp_step))
   refine ue (Qq (R:=wants (λr s2=>r=.none /\ VW knd s (dk kf vs.length) s2) E) PySem.F.called_set.init.plain PySem.F.entry_set_init<|check_set_init_1 ty ?_) λr2 s2 ET=>?_
   .show afs (by erw[Around.in1_units];lia) (by simp[hh]) ht kf hi hb λs' e=>#[rfl,e]
   .match r2,ET with
    |.error e,ET=>show ET
    |.ok (.ret r),⟨e3,e4⟩=>
      subst e3
      repeat (any_goals (first|assumption|wp_step))
      show h _ e4
end
end HT
namespace L2
open PySem.W
abbrev TK:=St->Hp->List Int->(St->Hp->List Int->zb)->zb
end L2
namespace L2.DL
open PySem.W
abbrev DK:=bt->List Bx->List Int->Option (bt×List Bx×List Int)
def uN:List D->Option (List Key)
 |[]=>ae []
 |d::l=>(qu d).bind λk=>(uN l).map λt=>k::t
theorem Fz:∀ {l}{ks}{vs},uN l=ae ks->aG F l vs->vs=ks.map kV:=by
 intro l_;induction l_ with
 |nil=>(intro _ _ e h;cases e;show h)
 |cons d l aA=>
   intro ks _ e h;let#[v,t,rfl,h1,h2]:=h;unfold uN at e;cases e1:qu d with
   |none=>rw[e1]at e;cases e
   |some k=>
     cases e2:uN l with
     |none=>rw[e1,e2]at e;cases e
     |some t'=>
       rw[e1,e2]at e;cases e;rw[jw e1 h1,aA e2 h2];rfl
theorem bK.length:∀ {l}{r},bK F l r->l.length=r.length
 |[],_,h=>by cases (h);rfl
 | (k,d)::l,_,h=>by
   let#[v,t,rfl,_,h2]:=h;simp[h2.length]

noncomputable def yb:DE W:=λ_ bx=>.val (.b bx.length)<|bx++[.dT []]
theorem NP:PD X T Z (.Dict [] [] pos) yb:=by
 refine PE.imp J3 λσ H Q=>bg λF r env bx R h=>λq hq=>?_;refine h F _ _ _ #[Sub.refl F,pI r [q]] (R.Es hq #[R.uC hq,[],fu,rfl]) #[q,rfl,?_];rw[<-R.len,dD<|aB _,k6];rfl
end L2.DL
namespace L2
open PySem.W

def aa0 (K:Frag) (vs:List V) (H:Hp) (Q:VK):zb:=∃ (p:ai) (ws:List V) (rs:List _),vs=[.ref p] /\ bN K H p ws /\ ws.length=rs.length /\ rs.length<=16 /\ (∀ (i) w,ws[i]?=ae w->∃ b,w=.ref b /\ H b=ae (.tup<|(rs.getD i []).map kV)) /\ Q (.int (HT.dk (λi=>rs.getD i []) rs.length).length) H
theorem NQ (hu:X.A.units+100<cLine) (hc:X.calm=ag) (hg:Gl X "len") (hm:X.mg "len"=ah) (vJ:Gl X "set") (vK:X.mg "set"=ah) (ha:PA X [a] t) (hs:DL.cG a=ag) :
 PE X (.Call (.Name "len" p) [.Call (.Name "set" p2) [a] [] VX] [] pos) (IK (aa0 X.K) t):=by
 intro pins s σ H Q I h;have st:=DL.fH (e:=.Call (.Name "set" p2) [a] [] VX) za [] X.env;refine rG<|ja I hg hm Xy ?_ (by decide) (by decide);refine callWith_builtin1 ?_ st<|DL.gY za;change wpAny _ _ (spliced ((af,eval (.Call (.Name "set" p2) [a] [] VX) X.env)::backTo pos (starEach [] X.env))) _ _ s;refine yM<|rG<|ja I vJ vK (by decide +kernel:bootBuiltins "set"=ae (.type "set")) ?_ (by decide) (by decide);refine callWith_type1 (nq (ha VX pins s σ H _ I h) λus s1 vs H1 I1 r1 q1=>?_) (DL.fH hs [] X.env) za;let#[l,ws,rs,rfl,hl,hw,hn,hk,q]:=q1;let#[u,rfl,ru]:=Vals.one r1;cases ru;let#[its,r',pl,hz]:=I1.list hl;have ln:=r'.length;refine HT.GU (knd:=dR X.prog X.w) hu (I1.ok.hd hc) pl.isList (λi=>rs.getD i []) (λi v e=>?_) (by lia) λs' e=>?_
 .have il:=(List.getElem?_eq_some_iff.mp e).1;have e1:ws[i]?=ae ws[i]:=cW (by lia);let#[u,e2,e3]:=Vals.get r' e1;rw[e]at e2;cases e2;let#[b,e4,e5]:=hk i _ e1;rw[e4]at e3;cases (e3);show#[b,rfl,lI I1.ay e5]
 .let#[h',tk,rfl,#[o,es,ep,tb,xs,ho,T,_,xl,_],kp]:=e;have dl:=HT.Fy (λi=>rs.getD i []) rs.length;have sz:es.size=(HT.dk (λi=>rs.getD i []) rs.length).length:=by
   rw[<-nF,T.e,aV,xl,show its.length=rs.length by lia]
  refine yL (call_len_set ho T.x T.d T.f (by lia) #[.int (HT.dk (λi=>rs.getD i []) rs.length).length,H1,I1.kept kp,#[_,by rw[sz]],q])
end L2
namespace L2.DL
open PySem.W
def tW:List D->Option (List<|List Key)
 |[]=>ae []
 |.tup d::l=>(uN d).bind λk=>(tW l).map λt=>k::t
 |_::_=>ah
theorem Lw:∀ {l}{rs}{vs},tW l=ae rs->aG F l vs->vs.length=rs.length /\ ∀ (i) w,vs[i]?=ae w->∃ b,w=.ref b /\ F b=ae (.tup<|(rs.getD i []).map kV):=by
 intro l_;induction l_ with
 |nil=>
   intro _ _ e h;cases e;cases (h);show#[rfl,λi w z=>by simp at z]
 |cons d l aA=>
   intro rs _ e h;let#[v,t,rfl,h1,h2]:=h;cases d<;>try (cases e;done)
   ext d;unfold tW at e;cases e1:uN d with
   |none=>rw[e1]at e;cases e
   |some k=>
     cases e2:tW l with
     |none=>rw[e1,e2]at e;cases e
     |some t'=>
       rw[e1,e2]at e;cases e;let#[b,us,rfl,hb,hu]:=h1;let#[i1,i2]:=aA e2 h2;rw[Fz e1 hu]at hb;refine#[by simp[i1],λi w z=>?_];cases i with
       |zero=>cases z;show#[b,rfl,hb]
       |succ i=>show i2 i w z
def E5:List D->Option Res:=λxs=>match xs with
 |[.lst l]=>(tW l).bind λrs=>if rs.length<=16 then ae (.old<|.int (HT.dk (λi=>rs.getD i []) rs.length).length) else ah
 |_=>ah
theorem afu {K}:qP (aa0 K) E5:=by
 intro F H xs vs Q s sub rx e k;unfold E5 at e;split at e
 .ext l;cases e1:tW l with
  |none=>rw[e1]at e;cases e
  |some rs=>
    rw[e1]at e;erw[bI]at e;split at e
    .ext hn;cases e;let#[v,t,rfl,h1,h2]:=rx;cases (h2);let#[a,ws,rfl,h3,h4]:=h1;let#[i1,i2]:=Lw e1 h4;show#[a,ws,rs,rfl,.of h3,i1,hn,λi w z=>let ⟨b,e,f⟩:=i2 i w z;#[b,e,sub _ _ f],k _ _ #[rfl,rfl]]
    .cases e
 .cases e

end L2.DL
namespace HT
open PySem.W
theorem NR (A) (s) (p:nO h v a) (q:nO h u b) (hl:a.like b=ag):∃ e,SeqAt.EqAt A s v u e /\ (e=ag ↔ a=b):=by
 cases a with
 |i n=>
   cases b with
   |i m=>let#[t,rfl]:=p;let#[t',rfl]:=q;show#[_,UQ n t m t',by simp]
   |_=>cases hl
 |s x=>
   cases b with
   |s y=>let#[t,rfl]:=p;let#[t',rfl]:=q;show#[_,UR x t y t',by simp]
   |_=>cases hl
theorem NS (A) (s) (p:nO h v a) (q:nO h u b) (hl:a.like b=ag) (prog) (w) (E) (Q) (k:Q (.bool<|a.lt b) s) :
 wpAny (model prog w) A (richCompare .Lt v u) Q E s:=by
 cases a with
 |i n=>
   cases b with
   |i m=>let#[t,rfl]:=p;let#[t',rfl]:=q;show(Yx k)
   |_=>cases hl
 |s x=>
   cases b with
   |s y=>let#[t,rfl]:=p;let#[t',rfl]:=q;show(lt_str k)
   |_=>cases hl
section
open PySem.SeqAt
open PySem.AutoSeq1 (wpAny_loadPart')
open PySem.MeetsSeq PySem.MeetsSeq2 PySem.MeetsSeq3
theorem AO (l b) (items tX) (n n2) (dd uv) (sl uw) (h0) (x y) (hi:dJ h0 items.toList x) (hj:dJ h0 tX.toList y) (hl:eB x y=ag) :
 Meets (Builtin.«tuple.__lt__» #[[.ref l,.ref b],[]])
  (λ_ R s=>s.heap.get? l=ae { cls:=.type "tuple",dict:=dd,data:=.seq items n,slots:=sl } /\ s.heap.get? b=ae { cls:=.type "tuple",dict:=uv,data:=.seq tX n2,slots:=uw } /\
   R (.ok<|.ret<|.bool<|cA x y) s):=
 .of_wp λprog w A R s h=>by
  let#[hp,g,d,tk,os]:=s;let#[nv,hb,h]:=h;have f2:=aci;have z1:items.size=x.length:=by rw[<-hi.length];simp
  have z2:tX.size=y.length:=by rw[<-hj.length];simp
  wp_walk using wpAny_loadPart' nv,wpAny_loadPart' hb,HQ _ (λrest b s'=>b.1=ah /\ s'=#[hp,g,d,tk,os] /\ ∃ (vs ws:List au) (p q:List aO),rest=vs.zip ws /\
   dJ h0 vs p /\ dJ h0 ws q /\ eB p q=ag /\ p.length+tX.size=q.length+items.size /\ R (.ok<|.ret<|.bool<|cA p q) #[hp,g,d,tk,os]) _
  case turn=>
   rintro⟨v,u⟩ rest b s' ⟨xX,rfl,vs,ws,p,q,hz,hv,hw,hk,hlen,hR⟩;cases hv with
   |nil=>rw[Ya]at hz;cases hz
   |@cons v' a vs p ha Ea=>
     cases hw with
     |nil=>rw[Ic]at hz;cases hz
     |@cons u' c ws q hc afv=>
       rw[qi]at hz;injection hz with afw afx;injection afw with hy hx;subst hy hx;erw[a6]at hlen;have qL:(a.like c&&eB p q)=ag:=hk;rw[aH]at qL;unfold cA at hR;let#[e,he,aa1]:=NR A.in1 #[hp,g,d,tk,os] ha hc qL.1;refine ak<|he prog w _ _ ?_;cases e with
       |true=>
         rw[if_pos<|aa1.mp rfl]at hR
         wp_walk
         show#[rfl,rfl,_,_,_,_,afx,Ea,afv,qL.2,by lia,hR]
       |false=>
         rw[if_neg λq=>absurd (aa1.mpr q) dO]at hR
         wp_walk using (NS A.in1 #[hp,g,d,tk,os] ha hc qL.1 prog w)
         show#[_,rfl,by simpa using hR]
  case fin=>
   rintro⟨b1,b2⟩ s' ⟨xX,rfl,vs,ws,p,q,hz,hv,hw,hk,hlen,hR⟩;simp only at xX;subst xX;have hx:cA p q=decide (items.size<tX.size):=by
    cases hv with
    |nil=>
      cases hw with
      |nil=>erw[nW]at hlen;unfold cA;show(decide_eq_false (by lia)).symm
      |cons c hw=>erw[nW,a6]at hlen;unfold cA;show(decide_eq_true (by lia)).symm
    |cons a hv=>
      cases hw with
      |nil=>erw[nW,a6]at hlen;unfold cA;show(decide_eq_false (by lia)).symm
      |cons c hw=>rw[qi]at hz;cases hz
   rw[hx]at hR
   wp_walk
   show#[_,rfl,by simpa[Builtin.Tuple.tupleCompareSizes] using hR]
  case h=>show⟨rfl,rfl,items.toList,tX.toList,x,y,rfl,hi,hj,hl,by lia,h⟩
end
theorem NT (hl:IsTup s.heap l items) (hb:IsTup s.heap b tX) (hi:dJ s.heap items.toList x) (hj:dJ s.heap tX.toList y)
 (hk:eB x y=ag) (hu:A.units<cLine) (h:Q (.bool<|cA x y) s):wpAny (model prog w) A (compareOp .Lt (.ref l)<|.ref b) Q E s:=by
 let#[#[cls,dd,data,sl],ho,hc,n,hd]:=id hl;let#[#[Zz,uv,data2,uw],rZ,pN,n2,hd2]:=id hb;subst hc hd pN hd2;show richCompare_meets_room (op:=.Lt) #[_,ho,rfl] #[_,rZ,rfl] PySem.F.slot_tuple_lt PySem.F.entry_tuple_lt (PySem.F.args_tuple_lt_2 _ _) (AO l b items tX n n2 dd uv sl uw s.heap x y hi hj hk)
  #[ho,rZ,#[(λx=>nomatch x),h]] hu
end HT
namespace L2.DL
open PySem.W
open HT (aO eB cA)
def afy:R2:=λx y H Q=>∃ F a b vs us l m,x=.ref a /\ y=.ref b /\ Sub F H /\ F a=ae (.tup vs) /\ F b=ae (.tup us) /\ aG F (l.map kh) vs /\ aG F (m.map kh) us /\ eB l m=ag /\ Q (.bl<|cA l m) H
theorem RN (hu:X.A.units<cLine):bT X (compareOp .Lt) afy:=by
 intro pins s σ H x y v u Q I rx ry h;let#[F,a,b,vs,us,l,m,rfl,rfl,sub,fa,fb,da,db,k,q]:=h;cases rx;cases ry;let#[_,its,r1,p1]:=(I.ay a _<|sub _ _ fa);let#[_,xq,r2,p2]:=(I.ay b _<|sub _ _ fb);show HT.NT p1 p2 (by simpa using DA I sub da r1) (by simpa using DA I sub db r2) k hu #[.bl _,H,I,rfl,q]
def kX:D->D->Option Res
 |.int i,.int j=>ae<|.old<|.bl<|decide (i<j)
 | .tup a,.tup b=>(match sH a,sH b with
   |some l,ae m=>if eB l m=ag then ae (.old<|.bl<|cA l m) else ah
   |_,_=>ah)
 |_,_=>ah
end L2.DL
namespace HT
open PySem.W

theorem Pk:∀ {vs}{ns},IntsAre vs ns->dJ h vs (ns.map aO.i)
 |_,_,.nil=>.nil
 |_,_,.cons n t r=>.cons #[t,rfl]<|Pk r
theorem Pl:∀ {vs}{ns},dJ h vs (ns.map aO.i)->IntsAre vs ns
 |_,[],.nil=>.nil
 |_,n::ns,.cons ⟨t,e⟩ r=>by subst e;show .cons n t<|Pl r
theorem BI:∀ a b:List Int,eB (a.map aO.i) (b.map aO.i)=ag
 |[],_=>rfl
 |_::_,[]=>rfl
 | a::l,b::m=>by
   have:=BI l m;unfold eB at this ⊢;rw[aQ,aQ,qi,nE,this];rfl
theorem GV (key) (hh:A.handled=ah) (hu:A.units+8<cLine) (hv:s.heap.IsItemsView r d) (hm:s.heap.DictAt (L2.dR prog w) d ao ep) (dE:ao.length<64)
 (hI:∀ q∈ao,∀ v,(L2.dR prog w).is q.1 v=ag->IntsAre [v,q.2] (key q))
 (h:∀ (h') (tk:Nat) (a:ai) (k:Nat) (qs:List<|ai×List Int),(∀ b o,s.heap.get? b=ae o->h'.get? b=ae o /\ b≠a /\ b∉qs.map (·.1))->a∉qs.map (·.1)->(qs.map (·.1)).Nodup->h'.get? a=ae (seqObj "list" (qs.map λq=>Value.ref q.1).toArray k) ->
  (∀ q∈qs,∃ vs,IsTup h' q.1 vs.toArray /\ IntsAre vs q.2)->(qs.map (·.2)).Perm (ao.map key)->qs.Pairwise (λa b=>lexLt (a7<|b.2.map aO.i) (a7<|a.2.map aO.i)=af)->Q (.ref a) { s with heap:=h',toks:=tk }) :
 wpAny (model prog w) A (call (.builtin "sorted") [.ref r]) Q E s:=by
 refine UJ QX QY QZ (Q0 _) ?_;unfold Builtin.«sorted»;refine ak<|ax ?_;have h6:ao.length<=sizeLine:=cu (kK dE) (by decide);refine ak<|kdx_collect hh hv hm h6 λh1 tk as hk hl G=>?_;refine ak<|yC ?_ (by rw[aV,hl];show h6);generalize VY:h1.push (seqObj "list" (as.map Value.ref).toArray 0)=h2;have uk:h2.get? h1.objs.size=ae (seqObj "list" (as.map Value.ref).toArray 0):=by rw[<-VY];show bD _ za
 have aa2:∀ b o,h1.get? b=ae o->h2.get? b=ae o:=λb o q=>by rw[<-VY];show aR _ q
 change wpAny _ _ _ _ _ { s with heap:=h2,toks:=tk };have afz:∃ ps:List (ai×List Int),ps.map (·.1)=as /\ ps.map (·.2)=ao.map key /\ ∀ p∈ps,rh (ao.map λq=>(key q).map aO.i) h2 (.ref p.1) (a7<|p.2.map aO.i):=by
  refine#[as.zip<|ao.map key,by rw[List.map_fst_zip];rw[aV];lia,by rw[QK];rw[aV];lia,λp m=>?_];let#[j,hj]:=List.mem_iff_getElem?.mp m;let#[e1,e2]:=QT.mp hj;rw[nV]at e2;let#[q,e3,e4]:=Option.map_eq_some_iff.mp e2;let#[v,k,x,g1,g2,g3]:=G.pairs j p.1 e1;rw[e3]at g1;cases g1;have:=hI _ (eD e3) v g2;have t2:=e4▸this;have it:=Pk (h:=h2) t2;have mm:p.2.map aO.i∈ao.map λq=>(key q).map aO.i:=by rw[<-e4];show bc.mpr #[_,eD e3,rfl]
  cases ek:p.2 with
  |nil=>rw[ek]at t2;cases t2
  |cons n l=>
    rw[ek]at it mm;show#[p.1,[v,x],n,l.map aO.i,rfl,#[_,aa2 _ _ g3,rfl,0,rfl],it,mm,rfl]
 let#[ps,p1,p2,p3]:=afz;have HH:∀ v∈as.map Value.ref,∃ ns,rh (ao.map λq=>(key q).map aO.i) h2 v ns:=λv m=>by
  let#[a,ma,rfl]:=bc.mp m;rw[<-p1]at ma;let#[q,mq,rfl]:=bc.mp ma;show#[_,p3 q mq]
 refine ak<|eV<|qc Q2 #[_,uk,rfl] Q3 (Fo (bV<|ao.map λq=>(key q).map aO.i) uk HH (by lia) (λne=>Ba (λl m l2 m2=>by let#[x,_,rfl]:=bc.mp m;let#[y,_,rfl]:=bc.mp m2;show BI _ _) hu HH ne) (by rw[aV,hl];show dE) λout o1 o2=>#[_,rfl,ax #[_,rfl,?_]])<|Q4 _;let#[e,he]:=sortedHeap_at uk;have pm:out.toList.Perm (ps.map λq=>Value.ref q.1):=by
  rw[show (ps.map λq=>Value.ref q.1)=as.map Value.ref by rw[<-p1,cw];rfl];show o1
 let#[qs,q1,q2]:=L2.DL.Ku pm za;have aa3:h2.objs.size=h1.objs.size+1:=by rw[<-VY,Ii]
 have old:∀ b o,h1.get? b=ae o->(sortedHeap h2 h1.objs.size (as.map Value.ref) out).get? b=ae o:=λb o q=>by
  have lt:=bb q;show(Yz (bS lt) (by rw[aa3];show wD lt)).trans (aa2 b o q)
 have mem:∀ a,a∈qs.map (·.1) ↔ a∈as:=λa=>by rw[<-p1];show(q2.map (·.1)).mem_iff
 refine h _ tk _ e qs (λb o q=>#[old b o<|hk b o q,bS<|bb<|hk b o q,λz=>?_]) (λz=>(absurd (G.there<|(mem _).mp z)<|eW _)) ?_ ?_ (λq m=>?_) ?_ ?_
 .have:=G.above b<|(mem b).mp z;show absurd (bb q)<|Nat.not_lt.mpr<|kK this
 .rw[(q2.map (·.1)).nodup_iff,p1];show(G.rise.imp λr=>bS r)
 .rw[he];have:out=(qs.map λq=>Value.ref q.1).toArray:=by apply Array.toList_inj.mp;rw[q1]
  rw[<-this]
 .let#[b,vs,n,l,eb,#[o,t1,t2],t3,tm,t4]:=p3 q<|q2.mem_iff.mp m;cases eb;let#[y,_,ey]:=bc.mp tm;refine#[vs,#[o,?_,t2],Pl<|(L2.DL.code_inj (by rw[<-ey];show BI _ _) t4)▸t3];have lt:=G.there<|(mem q.1).mp<|wM m;show(Yz (bS lt) (by rw[aa3];show wD lt)).trans t1
 .rw[<-p2];show q2.map _
 .unfold uJ at o2;rw[q1,uh]at o2;show Za (λ{a b} ma mb r=>r _ _ (p3 a<|q2.mem_iff.mp ma)<|p3 b<|q2.mem_iff.mp mb) o2
end HT
namespace L2
open PySem.W
def rq (H:Hp):List (ai×HO)->Hp
 |[]=>H
 |q::l=>upd (rq H l) q.1 q.2
theorem oG:∀ {l},b∉l.map (·.1)->rq H l b=H b:=by
 intro l_;induction l_ with
 |nil=>show λ_=>rfl
 |cons q l aA=>
   intro h;rw[aQ,a9,not_or]at h;change upd _ q.1 q.2 b=_;rw[fv h.1,aA h.2]
theorem NU:∀ {l},rq H l b=ae u->(b,u)∈l \/ H b=ae u:=by
 intro l_;induction l_ with
 |nil=>show λh=>.inr h
 |cons q l aA=>
   intro h;by_cases e:b=q.1
   .subst e;rw[show rq H _=upd _ q.1 q.2 from rfl,fu]at h;cases h;show .inl<|bM ..
   .rw[show rq H _=upd _ q.1 q.2 from rfl,fv e]at h;show(aA h).imp (bC _) id
theorem cj.any (x:cj P w H h a o):∃ u,h.get? a=ae u:=by
 cases o with
 |lst xs=>let#[_,_,_,_,e]:=x;show#[_,e]
 |tup xs=>let#[_,_,_,o,e,_]:=x;show#[_,e]
 |dK ao=>let#[_,_,_,_,o,_,_,e,_]:=x;show#[_,e]
 |dT ao=>let#[_,_,_,_,o,_,_,e,_]:=x;show#[_,e]
 |set S n=>let#[o,_,_,_,e,_]:=x;show#[_,e]
 |ins C dx fs=>let#[_,_,_,e,_]:=x;show#[_,e]
 |own y=>show x
 |xd fs=>let#[_,#[_,_,_,e,_],_]:=x;show#[_,e]
 |w8 lo hi=>let#[_,_,_,e]:=x;show#[_,e]
 |bA ob u=>let#[e,_]:=x;show#[_,e]
 |qA ps=>show#[_,(x)]
 |met f y=>show#[_,(x)]
 |ext φ=>let#[_,#[_,e],_]:=x;show#[_,e]

theorem Inv.afA (I:Inv X pins σ H s) (k:∀ b u,s.heap.get? b=ae u->h'.get? b=ae u /\ b∉l.map (·.1)) (new:∀ q∈l,cj X.prog X.w (rq H l) h' q.1 q.2) :
 Inv X pins σ (rq H l) { s with heap:=h',toks:=t' }:=by
 have old:∀ b u,H b=ae u->rq H l b=ae u:=λb u e=>by
  let#[ob,eb]:=(I.ay b u e).any;rw[oG (k b ob eb).2];show e
 refine I.un #[λb u q _ _ _=>(k b u q).1,λb u q _ _ _=>#[u.slots,(k b u q).1],λb u q n _=>(oG (k b u q).2).trans n,λb u q _=>#[u,(k b u q).1],λb xs q=>old _ _ q,λb u xs q=>old _ _ q,λb ps q=>#[#[],by rw[old _ _ q];simp]] λb u e=>?_;rcases NU e with m|m
 .show new _ m
 .show(I.ay b u m).hG (λc v _ q=>(k c v q).1) (λc q=>old _ _ q) λc xs q=>old _ _ q

def afB (td:TE):TE:=λσ H Q=>td σ H λx H1=>∃ (a:ai) (ps:List<|Int×Int),x=.ref a /\ Rd H1 a (.dK<|ps.map λp=>(Sum.inl p.1,V.int p.2)) /\ ps.length<64 /\ ∀ (bs:List<|ai×List Int) (l),(∀ b∈bs,H1 b.1=ah)->H1 l=ah->l∉bs.map (·.1)->(bs.map (·.1)).Nodup->bs.map (λb=>b.2.map HT.aO.i)=DL.nP (ps.map λp=>[HT.aO.i p.1,.i p.2]) ->
 Q (.ref l) (upd (rq H1<|bs.map λb=>(b.1,.tup<|b.2.map V.int)) l<|.lst<|bs.map λb=>V.ref b.1)
noncomputable def aa4:Key×au->List Int
 |(.inl i,.int j _)=>[i,j]
 |_=>[]
theorem NV:∀ {ps:List (Int×Int)}{vs:List (Key×au)},KV (ps.map λp=>(Sum.inl p.1,V.int p.2)) vs->vs.map aa4=(ps.map λp=>[p.1,p.2]) /\ ∀ q∈vs,∃ i j t,q=(Sum.inl i,.int j t):=by
 intro l_;induction l_ with
 |nil=>(intro vs h;cases h;show#[rfl,λ_ m=>nomatch m])
 |cons p ps aA=>
   intro _ h;cases h with
   |@cons _ q _ vs h t=>
     let#[a,b]:=aA t;let#[k,x]:=q;let#[h1,t',h2]:=h;cases h1;cases h2;refine#[by rw[aQ,aQ,a];rfl,λq m=>?_];rcases a9.mp m with rfl|m
     .show#[_,_,_,rfl]
     .show b q m
theorem Am:∀ {us}{ns},IntsAre us ns->Vals (ns.map V.int) us
 |_,_,.nil=>.nil
 |_,_,.cons n t h=>.cons #[t,rfl]<|Am h
theorem GW (hc:X.calm=ag) (hu:X.A.units+8<cLine) (hg:Gl X "sorted") (hm:X.mg "sorted"=ah) (ho:PE X o td) (hb:attributeBase o "items" X.env (eval o X.env)=eval o X.env) (hl:(apos.endLine==dG.line)=ag) :
 PE X (.Call (.Name "sorted" p) [.Call (.Attribute o "items" apos) [] [] dG] [] pos) (afB td):=by
 intro pins s σ H Q I h;have st:=DL.fH (e:=.Call (.Attribute o "items" apos) [] [] dG) za [] X.env;refine rG<|ja I hg hm boot_sorted ?_ (by decide) (by decide);refine callWith_builtin1 ?_ st<|DL.gY za;rw[st];change wpAny _ _ (spliced ((af,eval (.Call (.Attribute o "items" apos) [] [] dG) X.env)::backTo pos (starEach [] X.env))) _ _ s;refine yM<|Xj hb za hl YO YY PySem.F.type_dict_items<|aX (ho pins s σ H _ I h) λu s1 x H1 I1 rx hh=>?_;let#[a,ps,ex,ea,dE,q1]:=hh;subst ex;obtain rfl:u=Value.ref a:=rx;let#[t1,t2,_]:=J4 I1<|.inl #[_,ea];refine#[t1,t2,UH za<|abB ?_];let#[zl,hd,vs,rel,dd]:=m8 I1.ay ea;let#[ep,dat]:=dd.dictAt;let#[k1,k2]:=NV rel;refine HN YY dd.typeIs PySem.F.entry_dict_items (PySem.F.args_dict_items_1 _) (meets_dict_items (dR X.prog X.w) a hd) #[#[vs,dd],?_];have I2:Inv X pins σ H1 { s1 with heap:=s1.heap.push { cls:=.type "dict_items",data:=.fields (List.toArray [.ref a]) } }:=I1.kept λb o e=>aR _ e;have lv:vs.length=ps.length:=by
  have:=congrArg List.length k1;simpa using this
 refine yL<|HT.GV aa4 (I1.ok.hd hc) hu #[_,bD _ za,rfl,rfl] (dat.push _) (by lia) (λq m v hv=>?_) λh' tk l k qs ok nl nd hL tp pm ord=>?_
 .let#[i,j,t,rfl]:=k2 q m;rcases f7 (k:=Sum.inl i) hv with⟨i',t',e1,rfl⟩|⟨y,t',e1,rfl⟩
  .cases (show (Sum.inl i)=Sum.inl i' from e1);show .cons _ _<|.cons _ _ .nil
  .cases (show (Sum.inl i)=Sum.inr y from e1)
 .have fr:∀ b,(b=l \/ b∈qs.map (·.1))->H1 b=ah:=λb z=>by
   cases q:H1 b with
   |none=>rfl
   |some w=>
     let#[ob,eb]:=(I2.ay b w q).any;let#[_,o1,o2]:=ok b ob eb;show z.elim (λz=>absurd z o1) λz=>absurd z o2
  have so:qs.map (λb=>b.2.map HT.aO.i)=DL.nP (ps.map λp=>[HT.aO.i p.1,.i p.2]):=by
   refine DL.m9 ?_ ?_ ?_
   .unfold DL.tU;rw[cb];intro a ma;rw[cb];intro b mb;let#[x,_,rfl]:=bc.mp ma;let#[y,_,rfl]:=bc.mp mb;show HT.BI [x.1,x.2] [y.1,y.2]
   .have:=(k1▸pm).map λl:List Int=>l.map HT.aO.i;rw[cw,cw]at this;show this
   .rw[uh];show ord
  have ahx:qs.length<64:=by
   have:=pm.length_eq;erw[aV]at this
   lia
  have ahy:(64)<=sizeLine:=by decide
  have I3:=I2.afA (t':=tk) (l:=(l,.lst<|qs.map λb=>V.ref b.1)::qs.map λb=>(b.1,HO.tup<|b.2.map V.int)) (λb u e=>by
   let#[o0,o1,o2]:=ok b u e;refine#[o0,?_];rw[aQ,a9,cw];show λz=>z.elim o1 o2) (λq m=>by
   rcases a9.mp m with rfl|m
   .refine#[by rw[aV];lia,_,k,?_,hL];have:∀ l:List<|ai×List Int,Vals (l.map λp=>V.ref p.1) (l.map λp=>Value.ref p.1):=λl=>by
     induction l with
     |nil=>show .nil
     |cons a l ih=>show .cons za ih
    show this qs
   .let#[q,mq,rfl]:=bc.mp m;let#[us,tu,iu]:=tp q mq;refine#[?_,us,Am iu,tu];let#[q',m3,e3]:=bc.mp<|pm.mem_iff.mp<|wM mq;let#[i,j,t,rfl]:=k2 q' m3;rw[<-e3];change (2:Nat)<=sizeLine
    lia)
  show#[.ref l,_,I3,rfl,q1 qs l (λb m=>fr b.1<|.inr<|wM m) (fr l<|.inl za) nl nd so]
end L2
namespace L2.DL
open PySem.W

noncomputable def yc:List (Key×D)->Option (List<|Int×Int)
 |[]=>ae []
 |(.inl k,.int v)::l=>(yc l).map ((k,v)::·)
 |_::_=>ah
theorem CA:∀ {l}{ao}{ps},aL F l ao->yc l=ae ps->ao=ps.map λp=>(Sum.inl p.1,V.int p.2)
 | [],_,_,h,e=>by
   cases (h);cases e;rfl
 | (.inl k,.int v)::l,_,_,h,e=>by
   let#[u,t,rfl,h1,h2]:=h;let#[ns,e1,rfl]:=Option.map_eq_some_iff.mp<|e;cases (h1);rw[aQ,CA h2 e1]
 |(.inr _,_)::_,_,_,_,e=>by cases e
 |(.inl _,.non)::_,_,_,_,e=>by cases e
 |(.inl _,.bl _)::_,_,_,_,e=>by cases e
 |(.inl _,.str _)::_,_,_,_,e=>by cases e
 |(.inl _,.tup _)::_,_,_,_,e=>by cases e
 |(.inl _,.lst _)::_,_,_,_,e=>by cases e
 |(.inl _,.az _)::_,_,_,_,e=>by cases e
theorem NW:∀ ns:List Int,aG F ((ns.map HT.aO.i).map kh) (ns.map V.int):=by
 intro l_;induction l_ with
 |nil=>show rfl
 |cons n ns aA=>show#[_,_,rfl,rfl,aA]
theorem Rel.afC:∀ {bs:List (ai×List Int)}{F},Rel T F r σ H env bx->(∀ b∈bs,H b.1=ah)->(bs.map (·.1)).Nodup->∃ F',bf F r F' r /\ Rel T F' r σ (rq H<|bs.map λb=>(b.1,.tup<|b.2.map V.int)) env bx /\ aG F' ((bs.map λb=>b.2.map HT.aO.i).map cU) (bs.map λb=>V.ref b.1):=by
 intro l_;induction l_ with
 |nil=>(intro F R _ _;show#[F,.refl F r,R,rfl])
 |cons b bs aA=>
   intro F R h nd;rw[aQ,rO]at nd;let#[F1,g1,R1,d1]:=aA R (λc m=>h c<|bC _ m) nd.2;have hn:rq H (bs.map λb=>(b.1,HO.tup<|b.2.map V.int)) b.1=ah:=by
    rw[oG (by rw[cw];show nd.1)];show h b<|bM ..
   have g2:=R1.tJ (o:=.tup<|b.2.map V.int) hn;show#[_,g1.trans g2,R1.xA hn,.cons #[b.1,_,rfl,fu,NW b.2]<|aG.mono g2.s _ d1]
def E6 (bo:Bool) (m:DE W):DE W:=λenv bx=>fC (m env bx) λx bx1=>match (pY bx1 x).bind yc with
 |some ps=>if ps.length<64 then bZ bo (ae<|.lst<|(nP<|ps.map λp=>[HT.aO.i p.1,.i p.2]).map cU) bx1 else .bad
 |none=>.bad
theorem GX (bo) (hc:X.calm=ag) (hu:X.A.units+8<cLine) (hg:Gl X "sorted") (hm:X.mg "sorted"=ah) (ho:PD X T Z o ma) (hb:attributeBase o "items" X.env (eval o X.env)=eval o X.env) (hl:(apos.endLine==dG.line)=ag) :
 PD X T Z (.Call (.Name "sorted" p) [.Call (.Attribute o "items" apos) [] [] dG] [] pos) (E6 bo ma):=by
 refine PE.imp (GW hc hu hg hm ho hb hl) λσ H Q=>bg λF r env bx R h=>#[F,r,env,bx,R,End.bind h λx bx1 F1 r1 v H1 g1 R1 d1 h1=>?_];split at h1
 .ext ps q;split at h1
  .ext dE;let#[l,q1,q2]:=Option.bind_eq_some_iff.mp q;let#[a,ao,rfl,k1,k2]:=BF R1 d1 q1;rw[CA k2 q2]at k1;refine#[a,ps,rfl,k1,dE,λbs l hb hl nl nd so=>?_];let#[F2,g2,R2,d2]:=Rel.afC R1 hb nd;rw[so]at d2;refine gP R2 (End.weak g2 h1) #[l,_,rfl,?_,rfl,d2];rw[oG (by rw[cw];show nl)];show hl
  .show h1.elim
 .show h1.elim

noncomputable def uO (l:List<|Key×D) (k:Key):List (Key×D):=l.filter λkv=>decide (kv.1≠k)
theorem aL.drop (k):∀ {l}{vs},aL F l vs->aL F (uO l k) (tO vs k)
 | [],_,h=>by
   cases (h);show rfl
 | (k',d)::l,_,h=>by
   let#[v,t,rfl,h1,h2]:=h;have ih:=aL.drop k h2;by_cases c:k'=k
   .have e1:uO ((k',d)::l) k=uO l k:=wN (by simp[c]);have e2:tO ((k',v)::t) k=tO t k:=wN (by simp[c]);rw[e1,e2];show ih
   .have e1:uO _ k=(k',d)::uO l k:=wO (by simp[c]);have e2:tO _ k=(k',v)::tO t k:=wO (by simp[c]);rw[e1,e2];show#[v,_,rfl,h1,ih]
theorem bf.at (g:bf F r F' r') {n:Nat}(h:r[n]?=ae a):r'[n]?=ae a:=by
 let#[t,e]:=g.p;rw[<-e,cR (List.getElem?_eq_some_iff.mp h).1];show h
def yd (m k:DE W):DE W:=λenv bx=>fC (m env bx) λx bx1=>match x with
 | .b n=>(match bx1[n]? with
   | some (.az _)=>fC (k env bx1) λy aq=>(match y,aq[n]? with
     |.d d,ae (.az l)=>(match qu d with|some k=>.val (.d<|(kF l k).getD .non) aq|none=>.bad)
     |_,_=>.bad)
   |_=>.bad)
 |_=>.bad
theorem NX (h:tD T Z (yd ma mb) σ H Q):aas (tD T Z ma) (tD T Z mb) σ H Q:=by
 let#[F,r,env,bx,R,h]:=h;refine#[F,r,env,bx,R,End.bind h λx bx1 F1 r1 v H1 g1 R1 d1 h1=>?_];cases x with
 |b n=>
   simp at h1;let#[a,rfl,ha]:=d1;let#[c,hc,kc]:=R1.kE ha;rw[hc]at h1;cases c with
   |az l0=>
     let#[_,xG,k0,_]:=kc;refine#[a,rfl,.inl #[xG,.inl k0],F1,r1,env,bx1,R1,End.bind h1 λy aq F2 r2 u H2 g2 R2 d2 h2=>?_];let#[c2,pN,vL]:=R2.kE<|g2.at ha;rw[pN]at h2;split at h2
     .ext d l eq;cases eq;let#[hF,vs,k1,k2]:=vL;split at h2
      .ext k e1;cases jw e1 d2;refine#[_,qX.k k1,?_];cases q:kF l k with
       |none=>
         rw[q]at h2;rw[aL.none k2 q];show h2 F2 r2 _ H2 (.refl F2 r2) R2 za
       |some w=>
         rw[q]at h2;let#[z,e3,e4]:=aL.some k2 q;rw[e3];show h2 F2 r2 _ H2 (.refl F2 r2) R2 e4
      .show h2.elim
     .show h2.elim
   |_=>show h1.elim
 |_=>show h1.elim
def ye (m k:DE W):aE:=λenv bx=>bj (m env bx) λx bx1=>bj (k env bx1) λy aq=>match x,y with
 | .b n,.d d=>(match aq[n]?,qu d with
   |some (.az l),ae k=>if (kF l k).isSome then .nx env (aq.set n<|.az<|uO l k) else .bad
   |_,_=>.bad)
 |_,_=>.bad
theorem Ti {D}(h:tS T Z (ye ma mb) D σ H):aaq (tD T Z ma) (tD T Z mb) D σ H:=by
 let#[F,r,env,bx,R,h]:=h;refine#[F,r,env,bx,R,End.bj h λx aq F2 r2 v H2 g2 R2 d2 h2=>#[F2,r2,env,aq,R2,End.bj h2 λy b9 F3 r3 u H3 g3 R3 d3 h3=>?_]];split at h3
 .let#[a,rfl,ha]:=(g3.den d2);let#[c,hc,kc]:=R3.kE ha;rw[hc]at h3;split at h3
  .ext l k e1 e2;cases e1;split at h3
   .ext hl;let#[hF,ao,k1,k2]:=kc;cases jw e2 d3;show#[a,ao,k,rfl,k1,rfl,by rw[Lh k2];show hl,h3 F3 r3 _ _ (.refl F3 r3)<|R3.write ha hF #[hF,_,fu,aL.drop k k2]]
   .show h3.elim
  .show h3.elim
 .show h3.elim
end L2.DL
namespace L2
open PySem.W

theorem Inv.aa5 (I:Inv X pins σ H s) (h:H a=ae u0) (n1:∀ xs,u0≠.tup xs) (n2:∀ o v,X.H₀ a≠ae (.bA o v)) (n3:∀ ps,u0≠.qA ps) (n4:∀ y,u0≠.own y) (new:cj X.prog X.w (upd H a u) s.heap a u):Inv X pins σ (upd H a u) s:=by
 have ne:∀ {b},H b=ah->upd H a u b=ah:=λ{b} e=>by rw[fv (λz=>by rw[z,h]at e;cases e)];show e
 have ke:∀ {b v},H b=ae v->v≠u0->upd H a u b=ae v:=λ{b v} e n=>by rw[fv (λz=>by rw[z,h]at e;cases e;show n rfl)];show e
 refine#[I.ok,I.os,I.bare,#[I.base.keep,I.base.slot,λb o e n x=>ne<|I.base.free b o e n x,I.base.there,λb xs e=>ke (I.base.kN b xs e) λz=>n1 xs z.symm,λb o v e=>?_,λb ps e=>?_],I.loc,I.cell,ne I.free,λx c e=>ne<|I.nH x c e,λp hp=>?_,λb v e=>?_,I.len]
 .rw[fv λz=>n2 o v (by rw[<-z];show e)];show I.base.k8 b o v e
 .let#[m,q]:=I.base.nX b ps e;show#[m,ke q λz=>n3 _ z.symm]
 .let#[q1,q2,q3]:=I.pin p hp;show#[q1,ne q2,q3]
 .by_cases z:b=a
  .subst z;rw[fu]at e;cases e;show new
  .rw[fv z]at e;show(I.ay b v e).hG (λ_ _ _ q=>q) (λc q=>ke q λz=>n4 _ z.symm) λc xs q=>ke q λz=>n1 _ z.symm
theorem Inv.freeze (I:Inv X pins σ H s) (h:H a=ae (.dK ao)):∃ o,s.heap.get? a=ae o /\ (∀ o v,X.H₀ a≠ae (.bA o v)) /\ Inv X pins σ (upd H a<|.bA o<|.dK ao) s:=by
 let#[z,y,vs,r,ob,es,ep,e,c]:=I.ay a _ h;have nf:∀ o v,X.H₀ a≠ae _:=λo v q=>by have:=I.base.k8 a o v q;rw[h]at this;cases this
 show#[ob,e,nf,I.aa5 h (λ_ q=>nomatch q) nf (λ_ q=>nomatch q) (λ_ q=>nomatch q) #[e,z,y,vs,r,ob,es,ep,e,c]]
theorem Inv.E7 (I:Inv X pins σ H s) (h:H a=ae (.bA o<|.dK ao)) (nf:∀ o v,X.H₀ a≠ae (.bA o v)):Inv X pins σ (upd H a<|.dK ao) s:=by
 let#[_,q]:=I.ay a _ h;show I.aa5 h (λ_ q=>nomatch q) nf (λ_ q=>nomatch q) (λ_ q=>nomatch q) q
def E8 (a:ai) (o:Obj) (ao:List<|Key×V):It:=
 #[λi H=>H a=ae (.bA o<|.dK ao) /\ i<ao.length,λi H x H'=>H'=H /\ ∃ k v,ao[i]?=ae (k,v) /\ x=kV k,λi H=>H a=ae (.bA o<|.dK ao) /\ ao.length<=i]
theorem Paired.at_:∀ {l}{m}{i:Nat}{x},Paired F l m->l[i]?=ae x->∃ y,m[i]?=ae y /\ F x y
 |_,_,_,_,.nil,e=>by simp at e
 |_,_,0,_,.cons r t,e=>by simp at e;subst e;show#[_,rfl,r]
 |_,_,i+1,_,.cons r t,e=>by let#[y,q,f]:=Paired.at_ t (by simpa using e);show#[y,by simpa using q,f]
theorem BJ (q:cj P w H h a<|.bA o<|.dK ao) (ed:o.data=.dict es ep):∃ vs,KV ao vs /\ h.DictAt (dR P w) a vs ep:=by
 let#[e,_,_,vs,r,ob,es',Iv,e',c1,c2,c3]:=q;rw[e]at e';cases e';rw[ed]at c2;cases c2;show#[vs,r,o,es,e,c1,ed,c3]
theorem GY {K} (it) (ed:o.data=.dict es ep) (ne:a≠it):Turn P w K tg (E8 a o ao) [it] it (λi h=>h.IsKeyIter it a i ao.length ep) where
 mem:=by simp
 obj:=λi h st b hb=>by
  have e:b=it:=by simpa using hb
  subst e;let#[o,e,c,d]:=st;show#[o,e,λv z=>by rw[d]at z;cases z]
 keep:=λi h h' st k=>st.at λo e=>k it (by simp) o e
 item:=by
  intro X hP hw hK hc i pins s σ H E I hf st hg;subst hP hw hK;let#[ha,hi]:=hg;let#[vs,r,da]:=BJ (I.ay a _ ha) ed;have hl:=Paired.length r;obtain⟨⟨k,v⟩,hx⟩:∃ p,ao[i]?=ae p:=#[ao[i],by simp];let#[#[k',v'],hy,e1,_]:=Paired.at_ r hx;cases (e1);let#[f0,f1,f2,f3,f4,f5]:=hf it (by simp);rw[hl]at st;refine wpAny_pyNext_dict_item st da hy λkey h' Va nZ sb=>?_;let#[o,e,c,d]:=id nZ;show#[key,rfl,Cb e c d (by decide) #[kV k,H,(I.turned (λb o hb e=>(sb.2 b hb).trans e) f0 f1 f3 f4 f5),(λh=>by
   rcases f7 h with⟨i,t,rfl,rfl⟩|⟨x,t,rfl,rfl⟩
   .show#[t,rfl]
   .show#[t,rfl]) Va,#[rfl,k,v,hx,rfl],by rw[hl];show nZ,λb hb=>(hf b hb).1]]
 done:=by
  intro X hP hw hK hc i pins s σ H E I hf st hg;subst hP hw hK;let#[ha,hi]:=hg;let#[vs,r,da]:=BJ (I.ay a _ ha) ed;have hl:=Paired.length r;let#[f0,f1,f2,f3,f4,f5]:=hf it (by simp);rw[hl]at st;show wpAny_pyNext_dict_end (I.ok.hd hc) st da (rM (by lia)) λh' eb=>#[rfl,I.turned (λb o hb e=>eb b o hb e) f0 f1 f3 f4 f5]
 self:=λ_ _ _ _ _ st h=>Xz st h
def NF (H₀:Hp) (a:ai):zb:=∀ o v,H₀ a≠ae (.bA o v)
def afD (H₀:Hp) (tl:TE):TI:=λσ H R=>tl σ H λx H1=>∃ a ao,x=.ref a /\ ((H1 a=ae (.dK ao) /\ ∀ o,NF H₀ a->R (E8 a o ao) (upd H1 a<|.bA o<|.dK ao)) \/ ∃ o,H1 a=ae (.bA o<|.dK ao) /\ R (E8 a o ao) H1)
def uP {α:Type}(H₀:Hp) (Q:α->Hp->zb):α->Hp->zb:=λx H=>Q x H \/ ∃ a o ao,H a=ae (.bA o<|.dK ao) /\ NF H₀ a /\ Q x (upd H a<|.dK ao)
noncomputable def Ends.E7 (H₀:Hp) (D:Ends):Ends:=#[uP H₀ D.nx,uP H₀ D.rt,uP H₀ D.bk,uP H₀ D.ct]
theorem BK (I:Inv X pins σ H s) (q:uP X.H₀ Q x H):∃ H',Inv X pins σ H' s /\ Q x H':=by
 rcases q with q|⟨a,o,ao,e,nf,q⟩
 .show#[H,I,q]
 .show#[_,I.E7 e nf,q]
theorem NY {st}(h:PS X st t):PS X st (λD=>t<|D.E7 X.H₀):=λpins s σ H D I q=>cJ (h pins s σ H _ I q) λf s' q'=>by
 cases f with
 |ret v=>let#[x,σ',H',I',r,q']:=q';let#[H2,I2,q2]:=BK I' q';show#[x,σ',H2,I2,r,q2]
 |_=>let#[σ',H',I',q']:=q';let#[H2,I2,q2]:=BK I' q';show#[σ',H2,I2,q2]
end L2
namespace L2.DL
open PySem.W
noncomputable def KA:Key->D
 |.inl i=>.int i
 |.inr x=>.str x
noncomputable def uQ (F:Hp) (a:ai):Hp:=λb=>if b=a then ah else F b
theorem jx (h:b≠a):uQ F a b=F b:=if_neg h

theorem FA:∀ {l}{ao}{i:Nat}{k}{v},aL F l ao->ao[i]?=ae (k,v)->∃ d,l[i]?=ae (k,d) /\ Den F d v
 |[],_,i,_,_,h,e=>by cases (h);simp at e
 | (k',d)::l,_,0,_,_,h,e=>by
   let#[u,t,rfl,h1,_]:=h;let#[rfl,rfl]:=e;show#[d,rfl,h1]
 | (k',d)::l,_,i+1,_,_,h,e=>by
   let#[u,t,rfl,_,h2]:=h;show FA (i:=i) h2 (by simpa using e)
theorem oH (h:F a=ae (.bA o<|.dK ao)):vD F (uQ F a):=λb u n e=>by
 rw[jx (λz=>by rw[z,h]at e;cases e;show n _ _ rfl)];show e
theorem bO.off (h:F a=ae (.bA o<|.dK ao)):∀ {w}{v},bO F r w v->bO (uQ F a) r w v
 |.d x,_,q=>Den.cz (oH h) x q
 |.b _,_,q=>q
 |.s _,_,q=>let ⟨b,ob,e,q⟩:=q;#[b,ob,e,by rw[jx (λz=>by rw[z,h]at q;cases q)];show q]
 |.x _,_,q=>q
 |.t _,_,q=>let ⟨c,as,e,h1,h2⟩:=q;#[c,as,e,oH h _ _ (λ_ _ z=>nomatch z) h1,h2]
 |.m _,_,q=>let ⟨c,as,e,h1,h2⟩:=q;#[c,as,e,oH h _ _ (λ_ _ z=>nomatch z) h1,h2]
theorem Rel.bA (R:Rel T F r σ H env bx) (hb:bx[n]?=ae (.az l)) (ha:r[n]?=ae a) (k0:F a=ah) (k2:aL F l ao) :
 Rel T (upd F a<|.bA o<|.dK ao) r σ (upd H a<|.bA o<|.dK ao) env (bx.set n<|.fD l):=by
 have s:=jt (o:=.bA o<|.dK ao) k0;have ma:=List.mem_iff_getElem?.mpr #[n,ha];refine#[λb u e=>?_,λi w e=>?_,by rw[qz];show R.len,R.nd,λm c b e1 e2=>?_,λb u e hn=>?_,R.new,R.n0,R.sl,λb u e=>?_]
 .by_cases z:b=a
  .subst z;rw[fu]at e ⊢;show e
  .rw[fv z]at e ⊢;show R.fh b u e
 .let#[v,e1,e2]:=R.slot i w e;show#[v,e1,e2.mono s<|eF r]
 .by_cases z:m=n
  .subst z;rw[pE (List.getElem?_eq_some_iff.mp hb).1]at e1;cases e1;rw[ha]at e2;cases e2;show#[o,ao,fu,fu,aL.mono s _ k2]
  .rw[rK λq=>z q.symm]at e1;have nb:b≠a:=λq=>z<|jS R.nd e2<|q▸ha;show(R.box m c b e1 e2).grow s (eF r) (λq=>by rw[fv nb];show q) (λu q=>by rw[fv nb];show q)
 .rw[fv λz=>hn (by rw[z];show ma)];show R.keep b u e hn
 .by_cases z:b=a
  .subst z;show .inr<|.inr<|.inr ma
  .rw[fv z]at e;show R.fs b u e
theorem Rel.afE (R:Rel T F r σ H env bx) (hb:bx[n]?=ae (.fD l)) (ha:r[n]?=ae a) :
 ∃ o ao,F a=ae (.bA o<|.dK ao) /\ H a=ae (.bA o<|.dK ao) /\ Rel T (uQ F a) r σ (upd H a<|.dK ao) env (bx.set n<|.az l):=by
 let#[o,ao,f1,h1,dk]:=R.box n _ a hb ha;have sd:=oH f1;refine#[o,ao,f1,h1,λb u e=>?_,λi w e=>?_,by rw[qz];show R.len,R.nd,λm c b e1 e2=>?_,λb u e hn=>?_,R.new,R.n0,R.sl,λb u e=>?_]
 .by_cases z:b=a
  .subst z;unfold uQ at e;rw[if_pos rfl]at e;cases e
  .rw[jx z]at e;rw[fv z];show R.fh b u e
 .let#[v,e1,e2]:=R.slot i w e;show#[v,e1,e2.off f1]
 .by_cases z:m=n
  .subst z;rw[pE (List.getElem?_eq_some_iff.mp hb).1]at e1;cases e1;rw[ha]at e2;cases e2;show#[if_pos za,ao,fu,aL.cz sd _ dk]
  .rw[rK λq=>z q.symm]at e1;have nb:b≠a:=λq=>z<|jS R.nd e2<|q▸ha;have q:=R.box m c b e1 e2;have fo:F b=ah->uQ F a b=ah:=λz=>by rw[jx nb];show z
   have ho:∀ {u},H b=ae u->upd H a (.dK ao) b=ae u:=λz=>by rw[fv nb];show z
   cases c with
   |lst _=>let#[q1,vs,q2,q3]:=q;show#[fo q1,vs,ho q2,aG.cz sd _ q3]
   |az _=>let#[q1,vs,q2,q3]:=q;show#[fo q1,vs,ho q2,aL.cz sd _ q3]
   |dead=>let#[u,q]:=q;show#[u,ho q]
   |dT _=>let#[q1,vs,q2,q3]:=q;show#[fo q1,vs,ho q2,bK.cz sd _ q3]
   |fD _=>let#[o2,vs,q1,q2,q3]:=q;show#[o2,vs,by rw[jx nb];show q1,ho q2,aL.cz sd _ q3]
   |ins _ _=>let#[q1,dx,vs,q2,q3]:=q;show#[fo q1,dx,vs,ho q2,cY.cz sd (λ_ _ _ z=>z) _ q3]
 .rw[fv λz=>hn (by rw[z];show(List.mem_iff_getElem?.mpr #[n,ha]))];show R.keep b u e hn
 .by_cases z:b=a
  .subst z;unfold uQ at e;rw[if_pos rfl]at e;cases e
  .rw[jx z]at e;show R.fs b u e
theorem bf.off (g:bf (upd F a u) r F' r') (k0:F a=ah):bf F r (uQ F' a) r':=#[λb v e=>by
 have nb:=fI e k0;rw[jx nb];show g.s b v (by rw[fv nb];show e),g.p]
def uR (l:List<|Key×D):List W:=l.map λp=>.d<|KA p.1
theorem An (g:F' a=ae (.bA o<|.dK ao)) (k2:aL F l ao):vH F' r (uR l) (E8 a o ao):=λT' i F1 r1 σ1 H1 ba bx1 g1 R1=>by
 have h:=R1.fh a _<|g1.s a _ g;have hl:=k2.length;refine#[λe=>#[h,by rw[<-hl,<-e];simp[uR]],λw e=>?_];unfold uR at e;rw[nV]at e;have hi:i<ao.length:=by
  rw[<-hl];cases q:l[i]? with
  |none=>rw[q]at e;cases e
  |some p=>show(List.getElem?_eq_some_iff.mp q).1
 refine#[#[h,hi],λx H2 ⟨e2,k,v,e3,e4⟩=>?_];subst e2 e4;let#[d,e5,_]:=FA k2 e3;rw[e5]at e;cases e;refine#[F1,.refl F1 r1,R1,?_];cases k<;>show rfl
noncomputable def qx (n:Nat) (bx:List Bx):Option (List Bx):=match bx[n]? with|some (.fD l)=>ae (bx.set n<|.az l)|_=>ah
def yf (n:Nat):O W->O W
 |.val w bx=>(match qx n bx with|some b=>.val w b|none=>.bad)
 |o=>o
theorem RP (h:qx n bx=ae b):∃ l,bx[n]?=ae (.fD l) /\ b=bx.set n (.az l):=by
 unfold qx at h;split at h
 .cases h;show#[_,by assumption,rfl]
 .cases h
theorem NZ (k0:F a=ah) (ha:r[n]?=ae a) (nf:NF H₀ a):∀ {q},End T Z bO F r σ env Q (yf n q)->End T Z bO (upd F a u) r σ env (uP H₀ Q) q
 | .val w b,h=>λF2 r2 v H2 g2 R2 dv=>by
   cases q:qx n b with
   |none=>simp[yf,q]at h;show h.elim
   |some b2=>
     simp[yf,q]at h;let#[l,hl,rfl]:=RP q;let#[o,ao,f1,h1,R3]:=R2.afE hl<|g2.at ha;show .inr #[a,o,ao,h1,nf,h _ r2 v _ (g2.off k0) R3<|dv.off f1]
 |.exc c b,h=>λF2 r2 H2 g2 R2=>h F2 r2 H2 #[(jt k0).trans g2.s,g2.p] R2
 |.bad,h=>h.elim
theorem End.E7:∀ {q},End T Z bO F r σ env Q q->End T Z bO F r σ env (uP H₀ Q) q
 |.val _ _,h=>λF2 r2 σ2 H2 g2 R2 d=>.inl<|h F2 r2 σ2 H2 g2 R2 d
 |.exc _ _,h=>h
 |.bad,h=>h
def vX (bo:Bool) (src:List<|Option Nat) (i:Nat) (g:DG) (tf:DE Bool) (te:DE W):DE W:=λenv bx=>match env[i]? with
 | some (ae<|.b n)=>(match bx[n]? with
   |some (.az l)=>yf n<|fC (bu g tf te (uR l) (eA src env) (bx.set n<|.fD l) []) λl aq=>bZ bo (ae<|.lst l) aq
   |some (.fD l)=>fC (bu g tf te (uR l) (eA src env) bx []) λl aq=>bZ bo (ae<|.lst l) aq
   |_=>.bad)
 |_=>.bad
theorem N0 (h:tD T Z (vX bo src i g tf te) σ H Q) :
 Ee src (afD H₀<|tD T Z<|dV i) (Ew g) (Ex #[E0,Z.cl] tf) (Ey #[E0,Z.cl] te) σ H (uP H₀ Q):=by
 let#[F,r,env,bx,R,h]:=h;unfold vX at h;split at h
 case h_2=>show h.elim
 ext n e;refine#[F,r,env,bx,R,(λe h=>by
  unfold dV;rw[e];intro F' r' v H' g R d;let#[a,rfl,ha]:=d;show h F' r' a H' g R ha) e λF' r' a H' g' R' ha=>?_]
 split at h
 .ext l hb;let#[k0,ao,k1,k2]:=R'.box n _ a hb ha;show#[a,ao,rfl,.inl #[k1,λo nf=>Dq (R'.bA hb ha k0 k2) (An fu k2)<|NZ k0 ha nf<|End.weak g' h]]
 .ext l hb;let#[o,ao,k0,k1,k2]:=R'.box n _ a hb ha;show#[a,ao,rfl,.inr #[o,k1,Dq R' (An k0 k2) (End.weak g' h).E7]]
 .show h.elim
theorem GZ (i) (bo) (hc:X.calm=ag) (S:sf X N src scope) (hi:PD X T Z iter<|dV j)
 (hg:∀ T cl s H C fp,qT (X.comp N scope cl s H C fp) T tg g) (hf:∀ T cl s H C fp,PF (X.comp N scope cl s H C fp) ifs<|vE T #[E0,Z.cl] tf) (he:∀ T cl s H C fp,PD (X.comp N scope cl s H C fp) T #[E0,Z.cl] elt te)
 (hN:X.N.Nodup) (nQ:X.N[i]?=ae x) (hx:Loc X.env.scope x) (EU:swapsWith (.ListComp elt [#[tg,iter,ifs,0]] scope pos) (ae<|.Name x pos') EV.line X.env=pure ag)
 (EW:X.fn x=ag \/ X.env.scope.names.lookup x=ae .local) (hs:∀ x,foldedSetIterable iter X.env x=pure x):d9 X T Z (.Assign [.Name x pos'] (.ListComp elt [#[tg,iter,ifs,0]] scope pos) EV) (fO (vX bo src j g tf te)<|ff i):=PS.imp (NY (Fp (g:=Ew g) (tf:=Ex _ tf) (te:=Ey _ te) hc S ((λhl=>by
  intro pins s σ H R I h;refine aX (hl pins s σ H _ I h) λv s1 x H1 I1 r1 q1=>?_;let#[a,ao,e,q]:=q1;subst e;cases r1;obtain⟨o,H2,I2,e2,q2⟩:∃ o H2,Inv X pins σ H2 s1 /\ H2 a=ae (.bA o _) /\ R (E8 a o ao) H2:=by
   rcases q with⟨e,q⟩|⟨o,e,q⟩
   .let#[o,_,nf,I2]:=I1.freeze e;show#[o,_,I2,fu,q o nf]
   .show#[o,H1,I1,e,q]
  let#[e3,_,y,_,_,ob,es,ep,e4,_,ed,_]:=id<|I2.ay a _ e2;rw[e3]at e4;cases e4;let#[vs,r,da]:=BJ (I2.ay a _ e2) ed;refine wpAny_pyIter_dict y da ?_;refine#[s1.heap.objs.size,[s1.heap.objs.size],_,_,H2,rfl,I2.kept λb o e=>aR _ e,GY _ ed<|bS<|I2.ay.lt e2,#[_,bD _ za,rfl,by rw[(Paired.length r)];rfl],λb hb=>?_,q2];have e:b=s1.heap.objs.size:=by simpa using hb
  subst e;show I2.xi (aB _) (I2.ay.fresh<|aB _)) hi) (λcl s H C fp pins s' σ' H' v u Q I rv ⟨T,q⟩=>hg T cl s H C fp pins s' σ' H' v u Q I rv q)
 (λcl s H C fp pins s' σ' H' Q I ⟨T,q⟩=>hf T cl s H C fp pins s' σ' H' Q I q) (λcl s H C fp pins s' σ' H' Q I ⟨T,q⟩=>he T cl s H C fp pins s' σ' H' Q I q) hN nQ hx EU EW hs)) λD σ H=>bg λF r env bx R h=>(N0 #[F,r,env,bx,R,End.bj h λw bx1 F1 r1 v H1 g1 R1 d1 h1=>h1 F1 r1 _ H1 (.refl F1 r1)<|R1.set d1 i])
end L2.DL
namespace HT
open PySem.W
def vY (h:aK) (d:ai) (vs:List au) (ep:Nat):zb:=∃ o es,h.get? d=ae o /\ o.cls=.type "dict" /\ o.data=.dict es ep /\ es.toList.map (·.key)=vs
theorem vY.at (x:vY h d vs ep) (k:∀ o,h.get? d=ae o->h'.get? d=ae o):vY h' d vs ep:=let ⟨o,es,e,r⟩:=x;#[o,es,k o e,r]

theorem N1 (y:(d==sysModules)=af) (hm:vY s.heap d vs ep)
 (q:Q (.ref s.heap.objs.size) { s with heap:=s.heap.push { cls:=.type "dict_keyiterator",data:=.fields (List.toArray [.ref d,.int 0 0,.int vs.length 0,.int ep 0]) } }):wpAny (model prog w) A (pyIter<|.ref d) Q E s:=by
 let#[o,es,e2,c2,d2,ev]:=id hm;have sz:es.size=vs.length:=by rw[<-ev];simp
 have ty:s.TypeIs (.ref d) "dict":=#[o,e2,c2];refine Xq ty YZ<|qc YZ ty PySem.F.entry_dict_iter ?_<|PySem.F.args_dict_iter_1 _;refine ak<|ak<|wpAny_notOrdered_dict ty ?_;refine ax ?_;change wpAny _ _ (Builtin.Dict.showsAll d >>= _) _ _ s;unfold Builtin.Dict.showsAll;rw[if_neg (by rw[y];show dO)];refine ak<|ax<|ak<|XA e2 d2<|ak<|XB e2 d2<|ak<|qy<|ax #[_,rfl, "dict_keyiterator",_,#[_,bD _ za,rfl],UO.lookup,?_];simpa[rawInt,sz] using q
theorem FB (hit:s.heap.IsKeyIter it d i vs.length ep) (hm:vY s.heap d vs ep) (hh:A.handled=ah)
 (q:∀ x h',vs[i]?=ae x->h'.IsKeyIter it d (i+1) vs.length ep->Heap.SameBut it s.heap h'->Q (ae x) { s with heap:=h' })
 (qe:∀ h',vs[i]?=ah->Heap.ExtBut it s.heap h'->Q ah { s with heap:=h' }):wpAny (model prog w) A (pyNext<|.ref it) Q E s:=by
 let#[o,e1,c1,d1]:=id hit;let#[od,es,e2,c2,d2,ev]:=id hm;have sz:es.size=vs.length:=by rw[<-ev];simp
 unfold pyNext;refine ak<|yB<|u9 hit.typeIs UO<|qc UO hit.typeIs PySem.F.entry_dict_keyiterator_next ?_<|PySem.F.args_dict_keyiterator_next_1 _;refine ak<|ax<|ak<|ak ?_;first|refine ak (Qx hit.typeIs<|ax<|ak<|XC e1 d1 ?_)|refine ak<|Qy hit.typeIs<|ax<|ak<|XC e1 d1 ?_
 simp only[];change wpAny _ _ (if (Value.ref d==Value.none)=ag then _ else _) _ _ s;rw[if_neg (show ¬ ((Value.ref d==Value.none)=ag) from dO)];refine ak<|ax<|ak<|XA e2 d2 ?_;rw[if_neg (by rw[sz];simp)];refine ak<|ax<|ak<|XB e2 d2 ?_;rw[if_neg (by simp)];refine ax ?_;rcases wF i vs.length with hl|hl
 .have nv:i<es.size:=by rw[sz];show hl
  simp[vq,Array.getElem?_eq_getElem nv];refine ak ?_;first|refine ak (Qx hit.typeIs<|ax<|ak<|Qz hit.typeIs ?_)|refine ak<|Qy hit.typeIs<|ax<|ak<|Qz hit.typeIs ?_
  change wpAny _ _ (setField (.ref it) 1 (rawInt<|(i)+1) >>= _) _ _ s;refine ak<|HP e1 d1 (by simp) ?_;have h2:(s.heap.update it (Obj.mapFields (·.setIfInBounds 1 (rawInt<|(i)+1)))).IsKeyIter it d (i+1) vs.length ep:=
   #[_,Ie _ e1<|Y2<|Iu d1 _,(Y3 ..).trans c1,by rw[Iu d1];simp[rawInt]]
  refine ak (eV (ak (Qz (s:={ s with heap:=s.heap.update it (Obj.mapFields (·.setIfInBounds 1 (rawInt<|(i:Int)+1))) }) h2.typeIs ?_)));change wpAny _ _ (pure es[i].key) _ _ _;show ax<|ax #[_,rfl,ax<|q _ _ (by rw[<-ev];simp[nv]) h2<|Heap.SameBut.update ..]
 .simp[show ¬ ((i:Int)<0) from by lia,if_false,vq,YD (show es.size<=i by rw[sz];show hl)];refine ak ?_;first|refine ak (Qx hit.typeIs<|ax ?_)|refine ak (Qy hit.typeIs<|ax ?_)
  change wpAny _ _ (setField (.ref it) 0 .none >>= _) _ _ s;refine ak<|HP e1 d1 (by simp) ?_;change wpAny _ _ (newExc (.type "StopIteration") [] >>= _) _ _ _;refine ak ?_;simp[newExc,newTuple];refine ak<|qy (ak (m:=firstArgMember _ _)<|uf (a:=Value.none) (by first|rfl|(simp[firstArgMember];rfl))<|qy ?_ (by size_fits)) (by size_fits);erw[raiseNew];refine ak<|Xo ?_;rw[show A.in1.handled=ah from hh];refine ak<|ax<|Xp ?_;show ak<|Xr (T:="StopIteration") (b:=ag) #[_,bD _ za,rfl] Xt<|ax<|qe _ (rM hl)<|((Heap.SameBut.update ..).extBut.push _).push _
theorem N2 (hh:A.handled=ah) (pW:d≠it) (vs) (ep):Walks prog w A it [it,d] [it] vs.length (λi v=>vs[i]?=ae v) (λi h=>h.IsKeyIter it d i vs.length ep /\ vY h d vs ep) where
 sub:=λb hb=>by simp at hb;simp[hb]
 frame:=λ_ _ _ st hk=>#[st.1.at λo e=>hk it (by simp) o e,st.2.at λo e=>hk d (by simp) o e]
 item:=λi s Q E hi st hQ=>FB st.1 st.2 hh (λx h' hx h2 sb=>hQ x h' s.toks hx #[h2,st.2.at λo e=>sb.extBut d o pW e] λb o hb e=>sb.extBut b o (λz=>hb (by simp[z])) e) λh' hx _=>by rw[List.getElem?_eq_none_iff]at hx;lia
 done:=λs Q E st hQ=>FB st.1 st.2 hh (λx h' hx _ _=>by simp at hx) λh' _ he=>hQ h' s.toks λb o hb e=>he b o (λz=>hb (by simp[z])) e
 self:=λ_ _ _ _ st hQ=>Xz st.1 hQ
theorem RQ (y:(d==sysModules)=af) (vs) (ep):KdlSrc prog w "dict" d d vs.length (λi v=>vs[i]?=ae v) (λh=>vY h d vs ep) where
 type:=λ_ hm=>let ⟨o,_,ho,hc,_⟩:=hm;#[o,ho,hc]
 there:=λ_ hm=>let ⟨_,_,ho,_⟩:=hm;#[bb ho,bb ho]
 keep:=λ_ _ hm hk=>hm.at λo e=>hk d (.inr za) o e
 notList:=rfl
 notTuple:=rfl
 hint:=λ_ _ _ _ hm hq=>kdl_hint_dict (let ⟨o,_,ho,hc,_⟩:=hm;#[o,ho,hc]) hq
 iter:=λ_ _ hh hm=>#[_,_,(λ_ _ hq=>N1 y hm hq),N2 hh (bS (let ⟨_,_,ho,_⟩:=hm;bb ho)) vs ep,#[#[_,bD _ za,rfl,rfl],hm.at λo e=>aR _ e]]
end HT
namespace L2
open PySem.W

def afF (td:TE):TE:=λσ H Q=>td σ H λx H1=>∃ a ao,x=.ref a /\ H1 a=ae (.dT ao) /\ ∀ bs,Paired (λ(q) (b)=>H1 b=ae (.tup<|q.1.map kV)) ao bs->∀ l,H1 l=ah->Q (.ref l) (upd H1 l<|.lst<|bs.map V.ref)
theorem N3 (r:KT H ao xs):Paired (λ(q) (b)=>H b=ae (.tup<|q.1.map kV)) ao (xs.map (·.2.1)):=by
 induction r with
 |nil=>show .nil
 |cons h t ih=>show .cons h.2.1 ih
theorem G0:∀ bs:List ai,Vals (bs.map V.ref) (bs.map Value.ref):=by
 intro l_;induction l_ with
 |nil=>show .nil
 |cons b bs aA=>show .cons za<|aA
theorem Lx (hc:X.calm=ag) (hg:Gl X "list") (hm:X.mg "list"=ah) (ho:PE X o td) (hs:DL.cG o=ag):PE X (.Call (.Name "list" p) [o] [] pos) (afF td):=by
 intro pins s σ H Q I h;refine rG<|ja I hg hm (by decide +kernel:bootBuiltins "list"=ae (.type "list")) ?_ (by decide)<|rfl;refine callWith_type1 ?_ (DL.fH hs [] X.env) za;rw[DL.fH hs [] X.env];change wpAny _ _ (spliced ((af,eval o X.env)::backTo pos _)) _ _ s;refine yM<|aX (ho pins s σ H _ I h) λu s1 x H1 I1 rx hh=>?_;let#[a,ao,ex,ea,q1]:=hh;subst ex;obtain rfl:u=Value.ref a:=rx;let#[zl,hd,xs,rel,dd]:=Pd I1.ay ea;let#[ob,es,ep,hq,h2,h3,h4,_,h5]:=id dd;have lx:((xs.map (·.2.1)).map Value.ref).length<=sizeLine:=by rw[aV,aV,<-Paired.length rel];show zl
 refine yL (kdl_call (HT.RQ hd _ ep) (I1.ok.hd hc) #[ob,es,hq,h2.1,h3,by rw[h4,cw,cw];rfl] lx λh' tk acc c hk hD aa6=>?_);have ev:acc.toList=(xs.map (·.2.1)).map Value.ref:=by
  apply QH;intro j;by_cases hj:j<acc.size
  .have ej:acc[j]?=ae acc[j]:=by simp
   rw[k7,ej];show(aa6.2 j _ ej).symm
  .have h3:=aa6.1;rw[k7,YD (by lia),rM (by lia)]
 show#[.ref _,_,(I1.laid (t':=tk) (o:=.lst ((xs.map (·.2.1)).map V.ref)) (λb u e=>hk b u e) (aB _) #[by rw[aV];rw[aV]at lx;show lx,acc.toList,c,(by rw[ev];show G0 _),by simpa using hD]),rfl,q1 _ (N3 rel) _<|I1.ay.fresh<|aB _]
end L2
namespace L2.DL
open PySem.W

theorem Rel.afG (R:Rel T F r σ H env bx) (hb:H b=ae (.tup vs)):∃ F',bf F r F' r /\ Rel T F' r σ H env bx /\ F' b=ae (.tup vs):=by
 cases q:F b with
 |some u=>
   have:=R.fh b u q;rw[hb]at this;cases this;show#[F,.refl F r,R,q]
 |none=>
   have s:=jt (o:=.tup vs) q;refine#[upd F b _,#[s,eF r],#[λa u e=>?_,λi w e=>?_,R.len,R.nd,λn c a e1 e2=>?_,R.keep,R.new,R.n0,R.sl,λa u e=>?_],fu]
   .by_cases z:a=b
    .subst z;rw[fu]at e;cases e;show hb
    .rw[fv z]at e;show R.fh a u e
   .let#[v,e1,e2]:=R.slot i w e;show#[v,e1,e2.mono s<|eF r]
   .have k:=R.box n c a e1 e2;have ne:∀ {u},H a=ae u->(∀ ys,u≠.tup ys)->upd F b (.tup vs) a=F a:=λ{u} z y=>fv λq=>by rw[q,hb]at z;cases z;show y _ za
    cases c with
    |lst _=>let#[q1,ws,q2,q3]:=k;show#[(ne q2 λ_ z=>nomatch z).trans q1,ws,q2,aG.mono s _ q3]
    |az _=>let#[q1,ws,q2,q3]:=k;show#[(ne q2 λ_ z=>nomatch z).trans q1,ws,q2,aL.mono s _ q3]
    |dead=>show k
    |dT _=>let#[q1,ws,q2,q3]:=k;show#[(ne q2 λ_ z=>nomatch z).trans q1,ws,q2,bK.mono s _ q3]
    |fD _=>let#[o2,ws,q1,q2,q3]:=k;show#[o2,ws,s _ _ q1,q2,aL.mono s _ q3]
    |ins _ _=>let#[q1,dx,ws,q2,q3]:=k;show#[(ne q2 λ_ z=>nomatch z).trans q1,dx,ws,q2,cY.cz s.d (λ_ _ _ z=>z) _ q3]
   .by_cases z:a=b
    .subst z;rw[fu]at e;cases e;show .inl #[_,rfl]
    .rw[fv z]at e;show R.fs a u e
theorem Ly:∀ (k:List Key),aG F (k.map KA) (k.map kV):=by
 intro l_;induction l_ with
 |nil=>show rfl
 |cons k t aA=>show#[_,_,rfl,by cases k<;>show rfl,aA]
abbrev KC (l:List<|List Key×D):List D:=l.map λq=>.tup<|q.1.map KA
theorem Rel.kN:∀ {l}{ao}{bs}{F},Rel T F r σ H env bx->bK F l ao->Paired (λ(q) (b)=>H b=ae (.tup<|q.1.map kV)) ao bs->∃ F',bf F r F' r /\ Rel T F' r σ H env bx /\ aG F' (KC l) (bs.map V.ref)
 | [],_,_,F,R,h,q=>by
   cases (h);cases q;show#[F,.refl F r,R,rfl]
 | (k,d)::l,_,_,F,R,h,q=>by
   let#[v,t,rfl,_,h2]:=h;cases q with
   |@cons _ b _ bs q1 q2=>
     let#[F1,g1,R1,e1]:=R.afG q1;let#[F2,g2,R2,d2]:=Rel.kN R1 (bK.mono g1.s _ h2) q2;show#[F2,g1.trans g2,R2,V.ref b,_,rfl,#[b,_,rfl,g2.s _ _ e1,Ly k],d2]
def KD (bo:Bool) (m:DE W):DE W:=λenv bx=>fC (m env bx) λx bx1=>match x with
 | .b n=>(match bx1[n]? with
   |some (.dT l)=>bZ bo (ae<|.lst<|KC l) bx1
   |_=>.bad)
 |_=>.bad
noncomputable def yh (l:List<|List Key×D) (k:List Key) (d:D):List (List Key×D):=
 if (l.any λkv=>decide (kv.1=k))=ag then l.map (λkv=>if kv.1=k then (kv.1,d) else kv) else l++[(k,d)]
theorem bK.any (k):∀ {l}{vs},bK F l vs->(l.any λkv=>decide (kv.1=k))=(vs.any λkv=>decide (kv.1=k))
 |[],_,h=>by cases (h);rfl
 |(k',d')::l,_,⟨v,r,e,h1,h2⟩=>by subst e;simp[vh,bK.any k h2]
theorem bK.map (hv:Den F d v):∀ {l}{vs},bK F l vs->bK F (l.map λkv=>if kv.1=k then (kv.1,d) else kv) (vs.map λkv=>if kv.1=k then (kv.1,v) else kv)
 |[],_,h=>by cases (h);rfl
 | (k',d')::l,_,⟨u,r,e,h1,h2⟩=>by
   subst e;by_cases c:k'=k
   .simp[aQ,c];show#[v,_,rfl,hv,bK.map hv h2]
   .simp[aQ,c];show#[u,_,rfl,h1,bK.map hv h2]
theorem bK.app (hm:bK F m us):∀ {l}{vs},bK F l vs->bK F (l++m) (vs++us)
 |[],_,h=>by cases (h);show hm
 |(k',d')::l,_,⟨u,r,e,h1,h2⟩=>by subst e;show#[u,_,rfl,h1,bK.app hm h2]
theorem bK.put2 (h:bK F l vs) (hv:Den F d v):bK F (yh l k d) (putK vs k v):=by
 unfold yh putK;rw[bK.any k h];split
 .show bK.map hv h
 .show bK.app (show bK F [(k,d)] _ from#[v,[],rfl,hv,rfl]) h
def KG (m k v:DE W):aE:=λenv bx=>bj (v env bx) λz bx1=>bj (m env bx1) λx aq=>bj (k env aq) λy b9=>match x,y,z with
 | .b n,.d (.tup d),.d u=>(match b9[n]?,uN d with
   |some (.dT l),ae k=>if l.length<sizeLine then .nx env (b9.set n<|.dT<|yh l k u) else .bad
   |_,_=>.bad)
 |_,_,_=>.bad
end L2.DL
namespace K1
open L2 L2.DL
def Ao:aE:=(fJ<|gR (gH "int"<|dV 0)<|Kf<|gH "bool"<|dV 0)
def iZ:List W->List Bx->O W:=aN 1<|aU Ao
def oa:aE:=(fJ<|gR (fq K1.iZ 1<|fc (dV 0) fe)<|d3 qt qt (dV 1) (dV 0)<|dV 2)
def gk:List W->List Bx->O W:=aN 3<|aU oa
def Ap:aE:=(fJ<|gR (gH "tuple"<|dV 0)<|d3 qt qt (dV 1) (dN af aS<|fc (dV 0) fe)<|dV 2)
def gC:List W->List Bx->O W:=aN 3<|aU Ap
def oh:aE:=(fJ<|dN af dW<|fc (gc af [ah,ae 0] (vI<|fc (dC<|.int 1)<|fc (dN af aS<|fc (dV 0) fe) fe) (ff 0) ge<|d2 af kX (d2 af aF (dV 1)<|d2 af eQ (dV 0)<|dC<|.int 1)<|d2 af aF (dV 1)<|dV 0) fe)
def gZ:List W->List Bx->O W:=aN 1<|aU oh
def CB:aE:=(fJ<|gR (fq K1.gC 3<|fc (dV 0)<|fc (dC<|.int 1)<|fc (dC<|.int 5) fe)<|dN af dW<|fc (gc af [ah] (bP<|dV 0) (ff 0) ge<|fq K1.gk 3<|fc (dV 0)<|fc (dC<|.int 0)<|fc (dC<|.int 3) fe) fe)
def jy:List W->List Bx->O W:=aN 1<|aU CB
def CC:aE:=(fB (aT (eO (cC<|dB<|fq K1.gC 3<|fc (dV 0)<|fc (d2 af fP (dC<|.int 3)<|dC<|.int 1)<|fc (d2 af fP (dC<|.int 3)<|dC<|.int 1) fe)<|cC<|dB<|dN af dW<|fc (gc af [ah] (bP<|dV 0) (ff 0) ge<|fq K1.gk 3<|fc (dV 0)<|fc (dC<|.int 0)<|fc (dC<|.int 9) fe) fe) (fJ<|dC<|.bl af) a8)<|fJ<|dN af dW<|fc (gc af [ah,ah] (xR<|fc (dV 0)<|fc (dX af (dV 0) (dH<|dC<|.int 1) eS) fe) (lB 2<|gF (ff 0)<|gF (ff 1) mY) ge<|d2 af qt (dV 1)<|dV 0) fe)
def jz:List W->List Bx->O W:=aN 1<|aU CC
def G1:aE:=(fJ<|gR (fq K1.gC 3<|fc (dV 0)<|fc (dC<|.int 2)<|fc (dC<|.int 2) fe)<|gR (fq K1.gk 3<|fc (d2 af aF (dV 0)<|dC<|.int 0)<|fc (dC<|.int 1)<|fc (dC<|.int 999) fe)<|fq K1.jz 1<|fc (d2 af aF (dV 0)<|dC<|.int 1) fe)
def lL:List W->List Bx->O W:=aN 1<|aU G1
def CD:aE:=(fJ<|gR (fq K1.gC 3<|fc (dV 0)<|fc (dC<|.int 1)<|fc (dC<|.int 4) fe)<|dN af dW<|fc (gc af [ah] (bP<|dV 0) (ff 0) ge<|fq K1.lL 1<|fc (dV 0) fe) fe)
def jA:List W->List Bx->O W:=aN 1<|aU CD
def oz:aE:=(fB (aT (cC<|dB<|fq K1.gC 3<|fc (dV 0)<|fc (dC<|.int 2)<|fc (dC<|.int 2) fe) (fJ<|dC<|.bl af) a8)<|fJ<|gR (dN af dW<|fc (gc af [ah,ae 1] (bP<|dV 0) (ff 0) ge<|fq K1.gk 3<|fc (dV 0)<|fc (dC<|.int 0)<|fc (d2 af eQ (dV 1)<|dC<|.int 1) fe) fe)<|d2 af kX (d2 af aF (dV 0)<|dC<|.int 0)<|d2 af aF (dV 0)<|dC<|.int 1)
def iq:List W->List Bx->O W:=aN 2<|aU oz
def CF:aE:=(fB (aT (cC<|dB<|gH "tuple"<|dV 0) (fJ<|dC<|.bl af) a8)<|fJ<|gR (dN af dW<|fc (gc af [ah,ae 1] (bP<|dV 0) (ff 0) ge<|fq K1.iq 2<|fc (dV 0)<|fc (dV 1) fe) fe)<|fq K1.gZ 1<|fc (dV 0) fe)
def jB:List W->List Bx->O W:=aN 2<|aU CF
def DD:aE:=(fB (aT (cC<|dB<|fq K1.gC 3<|fc (dV 0)<|fc (dC<|.int 4)<|fc (dC<|.int 4) fe) (fJ<|dC<|.bl af) a8)<|fB (fO (dV 0)<|lB 4<|gF (ff 1)<|gF (ff 2)<|gF (ff 3)<|gF (ff 4) mY)<|fJ<|gR (fq K1.jy 1<|fc (dV 1) fe)<|gR (fq K1.jA 1<|fc (dV 2) fe)<|gR (fq K1.jB 2<|fc (dV 3)<|fc (dN af aS<|fc (dV 2) fe) fe)<|fq K1.gk 3<|fc (dV 4)<|fc (dC<|.int 1)<|fc (dC<|.int 9) fe)
def j5:List W->List Bx->O W:=aN 5<|aU DD
def jc:aE:=(fB (aT (dB<|d2 af kX (dV 1)<|uF<|dV 0) (fJ<|EG (dV 0)<|dV 1) a8)<|fJ<|dC<|.int 0)
def g6:List W->List Bx->O W:=aN 2<|aU jc
abbrev VZ:aE:=(fB (fO (d2 af sk (d2 af pV (d2 af fP (d2 af fP (d2 af sk (dV 0)<|dC<|.int 2147483629)<|d2 af pV (dC<|.int 7919)<|dV 2)<|dC<|.int 1)<|dC<|.int 48271)<|dC<|.int 2147483647)<|ff 3)<|fB (fO (d2 af sk (d2 af fP (d2 af fP (d2 af pV (dV 3)<|dV 3)<|d2 af pV (dC<|.int 69621)<|dV 2)<|dC<|.int 7)<|dC<|.int 2147483587)<|ff 3)<|fO (d2 af fP (d2 af pV (dV 1)<|dC<|.int 2147483587)<|dV 3)<|ff 1)
def jl:aE:=(fB (aT (dB<|d2 af uE (dV 0)<|d2 af sq (dC<|.int 10)<|dC<|.int 18) (fJ<|gj ag<|fc (d2 af eQ (dV 0)<|d2 af sq (dC<|.int 10)<|dC<|.int 18) fe) a8)<|fB (fO (dC<|.int 0)<|ff 1)<|fB (jT (eP<|fc (dC<|.int 64) fe) (ff 2) VZ)<|fJ<|gj ag<|fc (dV 1) fe)
def jC:List W->List Bx->O W:=aN 4<|aU jl
def Aq:aE:=(fB (fO (d2 af sk (d2 af aF (dV 0)<|dC<|.int 0)<|dV 1)<|ff 2)<|fB (fO (d2 af EA (d2 af aF (dV 0)<|dC<|.int 0)<|dV 1)<|EF (dV 0)<|dC<|.int 0)<|fJ<|dV 2)
def fk:List W->List Bx->O W:=aN 3<|aU Aq
def oi:aE:=(fJ<|gR (gH "int"<|dV 0)<|Kf<|gH "bool"<|dV 0)
def gD:List W->List Bx->O W:=aN 1<|aU oi
def l8:aE:=(fJ<|gR (fq K1.gD 1<|fc (dV 0) fe)<|d3 qt qt (dV 1) (dV 0)<|dV 2)
def gm:List W->List Bx->O W:=aN 3<|aU l8
def Be:aE:=(fB (fO (gj af<|fc (dC .non)<|fc (dC<|.bl ag)<|fc (dC<|.bl af)<|fc (sy<|dC<|.int 1)<|fc (d2 af sq (dC<|.int 10)<|dC<|.int 30)<|fc (dC<|.str "")<|fc (dC<|.str "a")<|fc (dC<|.str "1")<|fc (fL fe)<|fc (gj af fe)<|fc (dY af [])<|fc (gj af<|fc (fL fe) fe)<|fc (fL<|fc (fL fe) fe)<|fc (fL<|fc (dC<|.int 0) fe)<|fc (gj af<|fc (dC<|.int 0) fe)<|fc (dY af [(.inl 0,.int 1)])<|fc (fL<|fc (dC<|.bl ag)<|fc (dC<|.bl ag) fe) fe)<|ff 1)<|fJ<|d2 af aF (dV 1)<|fq K1.fk 2<|fc (dV 0)<|fc (dN af aS<|fc (dV 1) fe) fe)
def fS:List W->List Bx->O W:=aN 2<|aU Be
def gG (rec:List W->List Bx->O W):aE:=(fB (aT (cC<|dB<|gH "tuple"<|dV 1) (fB (aT (qo (dB<|fq K1.gD 1<|fc (dV 1) fe)<|dB<|d2 af ph (fq K1.fk 2<|fc (dV 0)<|fc (dC<|.int 3) fe)<|dC<|.int 0) (fJ<|d2 af fP (dV 1)<|d2 af aF (gj af<|fc (dC<|.int 1)<|fc (sy<|dC<|.int 1)<|fc (dC<|.int 9)<|fc (dC<|.int 100)<|fc (dC<|.int 9999)<|fc (sy<|d2 af sq (dC<|.int 10)<|dC<|.int 4) fe)<|fq K1.fk 2<|fc (dV 0)<|fc (dC<|.int 6) fe) a8)<|fJ<|fq K1.fS 1<|fc (dV 0) fe) a8)<|fB (fO (fq K1.fk 2<|fc (dV 0)<|fc (dC<|.int 12) fe)<|ff 2)<|fB (aT (eO (dB<|d2 af aZ (dV 2)<|dC<|.int 0)<|dB<|d2 af aZ (dV 1)<|fL fe) (fJ<|d2 af aF (gj af<|fc (fq K1.fS 1<|fc (dV 0) fe)<|fc (dN af qU<|fc (dV 1) fe)<|fc (d2 af fP (dV 1)<|fL<|fc (fq K1.fS 1<|fc (dV 0) fe) fe)<|fc (d2 af fP (dV 1)<|dX af (dV 1) (dH<|sy<|dC<|.int 1) eS) fe)<|fq K1.fk 2<|fc (dV 0)<|fc (dC<|.int 4) fe) a8)<|fB (fO (fq K1.fk 2<|fc (dV 0)<|fc (dN af aS<|fc (dV 1) fe) fe)<|ff 3)<|fB (aT (dB<|d2 af aZ (dV 2)<|dC<|.int 1) (fJ<|d2 af fP (dX af (dV 1) eS<|dH<|dV 3)<|dX af (dV 1) (dH<|d2 af fP (dV 3)<|dC<|.int 1) eS) a8)<|fB (aT (dB<|d2 af aZ (dV 2)<|dC<|.int 2) (fJ<|d2 af fP (d2 af fP (dX af (dV 1) eS<|dH<|dV 3)<|dX af (dV 1) (dH<|dV 3)<|dH<|d2 af fP (dV 3)<|dC<|.int 1)<|dX af (dV 1) (dH<|dV 3) eS) a8)<|fJ<|d2 af fP (d2 af fP (dX af (dV 1) eS<|dH<|dV 3)<|fL<|fc (fq rec 2<|fc (dV 0)<|fc (d2 af aF (dV 1)<|dV 3) fe) fe)<|dX af (dV 1) (dH<|d2 af fP (dV 3)<|dC<|.int 1) eS)
def gJ:Nat->List W->List Bx->O W
 |0=>λ_ _=>.bad
 |i+1=>aN 4<|aU<|gG<|gJ i
def lC:aE:=(fB (fO (d2 af aF (gj af<|fc (dC<|.int 9)<|fc (dC<|.int 3)<|fc (dC<|.int 1)<|fc (dC<|.int 9) fe)<|fq K1.fk 2<|fc (dV 0)<|fc (dC<|.int 4) fe)<|ff 1)<|fB (fO (VF af<|dN af dF<|fc (gc af [ah,ae 0,ae 1] (eP<|fc (dC<|.int 4) fe) (ff 0) ge<|fq K1.fk 2<|fc (dV 1)<|fc (d2 af fP (dV 2)<|dC<|.int 1) fe) fe)<|ff 2)<|fJ<|fL<|fc (d2 af aF (gj af<|fc (dC<|.int 30)<|fc (d2 af fP (dC<|.int 1)<|fq K1.fk 2<|fc (dV 0)<|fc (dC<|.int 20) fe)<|fc (dC<|.int 999)<|fc (dC<|.int 8) fe)<|fq K1.fk 2<|fc (dV 0)<|fc (dC<|.int 4) fe)<|fc (dN af qp<|fc (dV 2) fe) fe)
def g9:List W->List Bx->O W:=aN 3<|aU lC
end K1
namespace K2
open L2 L2.DL
def Bf:aE:=(fJ<|gR (fq K1.iZ 1<|fc (dV 0) fe)<|d2 af uE (dV 0)<|dC<|.int 0)
def iS:List W->List Bx->O W:=aN 1<|aU Bf
def CG:aE:=(aT (cC<|dB<|fq K2.iS 1<|fc (dV 0) fe) (sI 3<|dC<|.str "an hour is a whole number from 0 on") a8)
def jD:List W->List Bx->O W:=aN 1 CG
def lD:aE:=(fJ<|gR (fq K1.gD 1<|fc (dV 0) fe)<|d2 af uE (dV 0)<|dC<|.int 0)
def ia:List W->List Bx->O W:=aN 1<|aU lD
end K2
namespace bR
open L2 L2.DL
def jE:aE:=(aT (cC<|dB<|fq K1.j5 1<|fc (dV 0) fe) cZ a8)
def iA:List W->List Bx->O W:=aN 1<|aU jE
end bR
namespace aJ
open L2 L2.DL
def CH:aE:=(fB (fO (dN af qp<|fc (gc af [ah,ae 0] (eP<|fc (d2 af fP (dC<|.int 1)<|fq K1.fk 2<|fc (dV 0)<|fc (dC<|.int 5) fe) fe) (ff 0) ge<|fq K1.fk 2<|fc (dV 1)<|fc (dC<|.int 4) fe) fe)<|ff 1)<|fB (fO (dN af qp<|fc (gc af [ah,ae 0] (eP<|fc (d2 af fP (dC<|.int 1)<|fq K1.fk 2<|fc (dV 0)<|fc (dC<|.int 4) fe) fe) (ff 0) ge<|fq K1.g9 1<|fc (dV 1) fe) fe)<|ff 2)<|fB (fO (gj af fe)<|ff 3)<|fB (jT (eP<|fc (dN af aS<|fc (dV 2) fe) fe) (ff 4)<|fO (d2 af fP (dV 3)<|gc af [ah,ae 0,ae 4] (eP<|fc (dV 4) fe) (ff 0) (dB<|d2 af aZ (fq K1.fk 2<|fc (dV 1)<|fc (dC<|.int 3) fe)<|dC<|.int 0)<|fL<|fc (dV 0)<|fc (dV 2) fe)<|ff 3)<|fJ<|fL<|fc (dV 1)<|fc (dV 2)<|fc (dN af qp<|fc (dN af dF<|fc (dV 3) fe) fe)<|fc (d2 af aF (gj af<|fc (dC<|.int 1)<|fc (dC<|.int 2)<|fc (dC<|.int 9)<|fc (d2 af fP (dC<|.int 1)<|fq K1.fk 2<|fc (dV 0)<|fc (dC<|.int 9) fe) fe)<|fq K1.fk 2<|fc (dV 0)<|fc (dC<|.int 4) fe) fe)
def iM:List W->List Bx->O W:=aN 5<|aU CH
def j6:aE:=(fB (fO (dN ag qU<|fc (dV 1) fe)<|ff 2)<|fJ<|gc af [ah,ae 0,ae 2] (bP<|dV 1) (ff 0) ge<|xT (dV 2)<|fq K1.fk 2<|fc (dV 1)<|fc (dN af aS<|fc (dV 2) fe) fe)
def jF:List W->List Bx->O W:=aN 3<|aU j6
def Ar:aE:=(fB (kg 3 4<|fc (fq K1.fk 2<|fc (dV 0)<|fc (dV 2) fe)<|fc (fq K1.fk 2<|fc (dV 0)<|fc (d2 af aF (gj af<|fc (dC<|.int 3)<|fc (dC<|.int 10) fe)<|fq K1.fk 2<|fc (dV 0)<|fc (dC<|.int 2) fe) fe) fe)<|fB (kg 5 6<|fc (fq K1.fk 2<|fc (dV 0)<|fc (dN af aS<|fc (d2 af aF (dV 1)<|dC<|.int 0) fe) fe)<|fc (fq K1.fk 2<|fc (dV 0)<|fc (dC<|.int 5) fe) fe)<|fB (aT (dB<|d2 af aZ (dV 6)<|dC<|.int 0) (fJ<|fL<|fc (dV 3)<|fc (dC<|.str "out")<|fc (dV 4) fe) a8)<|fB (aT (dB<|d2 af kX (dV 6)<|dC<|.int 3) (fJ<|fL<|fc (dV 3)<|fc (dC<|.str "to")<|fc (dV 4)<|fc (dV 5) fe) a8)<|fB (fO (d2 af aF (gj af<|fc (dC<|.int 0)<|fc (fq K1.fk 2<|fc (dV 0)<|fc (dC<|.int 9) fe)<|fc (fq K1.fk 2<|fc (dV 0)<|fc (dC<|.int 40) fe)<|fc (dC<|.int 999) fe)<|fq K1.fk 2<|fc (dV 0)<|fc (dC<|.int 4) fe)<|ff 7)<|fJ<|fL<|fc (dV 3)<|fc (dC<|.str "in")<|fc (dV 4)<|fc (fq K1.fk 2<|fc (dV 0)<|fc (dN af aS<|fc (d2 af aF (dV 1)<|dC<|.int 1) fe) fe)<|fc (dV 5)<|fc (dV 7)<|fc (fq K1.fk 2<|fc (dV 0)<|fc (dC<|.int 100) fe) fe)
def iF:List W->List Bx->O W:=aN 8<|aU Ar
abbrev gB:aE:=(fB (fO (fq aJ.iF 3<|fc (dV 0)<|fc (dV 1)<|fc (dV 3) fe)<|ff 6)<|fB (aT (qo (dB<|d2 af aZ (d2 af aF (dV 6)<|dC<|.int 1)<|dC<|.str "in")<|dB<|d2 af ph (fq K1.fk 2<|fc (dV 0)<|fc (dC<|.int 3) fe)<|dC<|.int 0) (fO (d2 af fP (fL<|fc (d2 af EA (d2 af aF (dV 6)<|dC<|.int 0)<|dC<|.int 3) fe)<|dX af (dV 6) (dH<|dC<|.int 1) eS)<|ff 6) a8)<|KG (dV 4) (dV 6)<|dC<|.bl ag)
def CI:aE:=(fB (fO yb<|ff 4)<|fB (jT (eP<|fc (fq K1.fk 2<|fc (dV 0)<|fc (d2 af fP (dV 2)<|dC<|.int 1) fe) fe) (ff 5) gB)<|fJ<|fq aJ.jF 2<|fc (dV 0)<|fc (KD af<|dV 4) fe)
def iN:List W->List Bx->O W:=aN 7<|aU CI
def jm:aE:=(fB (kg 2 3<|fc (d2 af eQ (dN af aS<|fc (d2 af aF (dV 0)<|dC<|.int 1) fe)<|dC<|.int 1)<|fc (d2 af eQ (dN af aS<|fc (d2 af aF (dV 0)<|dC<|.int 0) fe)<|dC<|.int 1) fe)<|fB (aT (dB<|d2 af aZ (dV 1)<|dC<|.str "in") (fJ<|fL<|fc (dC<|.int 9)<|fc (dV 2)<|fc (dV 3)<|fc (dC<|.int 999)<|fc (dC<|.int 99) fe) a8)<|fB (aT (dB<|d2 af aZ (dV 1)<|dC<|.str "out") (fJ<|fL<|fc (dC<|.int 9) fe) a8)<|fB (aT (dB<|d2 af aZ (dV 1)<|dC<|.str "to") (fJ<|fL<|fc (dC<|.int 9)<|fc (dV 3) fe) a8)<|fJ<|fL fe)
def ic:List W->List Bx->O W:=aN 4<|aU jm
def G2:aE:=(fB (aT (eO (cC<|dB<|gH "tuple"<|dV 1)<|eO (dB<|d2 af kX (dN af aS<|fc (dV 1) fe)<|dC<|.int 3)<|cC<|dB<|fq K2.iS 1<|fc (d2 af aF (dV 1)<|dC<|.int 0) fe) (fJ<|dC<|.bl af) a8)<|fB (fO (fq aJ.ic 2<|fc (dV 0)<|fc (d2 af aF (dV 1)<|dC<|.int 1) fe)<|ff 2)<|fB (aT (dB<|d2 af cQ (dN af aS<|fc (dV 2) fe)<|d2 af eQ (dN af aS<|fc (dV 1) fe)<|dC<|.int 2) (fJ<|dC<|.bl af) a8)<|fJ<|dN af dW<|fc (gc af [ah,ah] (xR<|fc (dX af (dV 1) (dH<|dC<|.int 2) eS)<|fc (dV 2) fe) (lB 2<|gF (ff 0)<|gF (ff 1) mY) ge<|fq K1.gk 3<|fc (dV 0)<|fc (dC<|.int 0)<|fc (dV 1) fe) fe)
def ir:List W->List Bx->O W:=aN 3<|aU G2
def oj:aE:=(fB (aT (eO (cC<|dB<|gH "list"<|dV 1)<|dB<|d2 af ph (dN af aS<|fc (dV 1) fe)<|dC<|.int 16) (fJ<|dC<|.bl af) a8)<|fJ<|gR (dN af dW<|fc (gc af [ah,ae 0] (bP<|dV 1) (ff 0) ge<|fq aJ.ir 2<|fc (dV 1)<|fc (dV 0) fe) fe)<|fq K1.gZ 1<|fc (dN af dF<|fc (dV 1) fe) fe)
def gn:List W->List Bx->O W:=aN 2<|aU oj
def j7:aE:=(fB (aT (dB<|d2 af aZ (d2 af aF (dV 0)<|dC<|.int 1)<|dC<|.str "in") (fJ<|d2 af aF (dV 0)<|dC<|.int 4) a8)<|fB (aT (dB<|d2 af aZ (d2 af aF (dV 0)<|dC<|.int 1)<|dC<|.str "to") (fJ<|d2 af aF (dV 0)<|dC<|.int 3) a8)<|fJ<|dC .non)
def fZ:List W->List Bx->O W:=aN 1<|aU j7
def CJ:aE:=(fJ<|d2 af (inD ag) (fL<|fc (dN af minD<|fc (dV 1)<|fc (dV 2) fe)<|fc (dN af maxD<|fc (dV 1)<|fc (dV 2) fe) fe)<|d2 af aF (dV 0)<|dC<|.int 2)
def iO:List W->List Bx->O W:=aN 3<|aU CJ
def lM:aE:=(fB (kg 4 5<|fc (d2 af aF (dV 3)<|dC<|.int 1)<|fc (d2 af aF (dV 3)<|dC<|.int 2) fe)<|fB (aT (qo (dB<|d2 af aZ (dV 4)<|dC<|.str "in")<|dB<|sL af (dV 5)<|dV 1) (fJ<|dC<|.str "there") a8)<|fB (aT (qo (dB<|d2 af cQ (dV 4)<|dC<|.str "in")<|dB<|sL ag (dV 5)<|dV 2) (fJ<|dC<|.str "none") a8)<|fB (aT (dB<|d2 af aZ (dV 4)<|dC<|.str "out") (fJ<|dC<|.str "takes") a8)<|fB (fO (fq aJ.fZ 1<|fc (dV 3) fe)<|ff 6)<|fB (aT (qo (dB<|d2 af aZ (dV 4)<|dC<|.str "to")<|dB<|d2 af aZ (kU (dV 2)<|dV 5)<|dV 6) (fJ<|dC<|.str "same") a8)<|fB (fO (kP (dB<|d2 af aZ (dV 4)<|dC<|.str "in") (d2 af aF (dV 3)<|dC<|.int 3)<|kU (dV 1)<|dV 5)<|ff 7)<|fB (fO (vX af [ah,ae 2,ae 6] 2 (ff 0) (dB<|d2 af aZ (kU (dV 1)<|dV 0)<|dV 2)<|dV 0)<|ff 8)<|fB (aT (dB<|dN af dW<|fc (gc af [ah,ae 0,ae 1,ae 7] (bP<|dV 8) (ff 0) ge<|fq aJ.iO 3<|fc (dV 1)<|fc (dV 3)<|fc (kU (dV 2)<|dV 0) fe) fe) (fJ<|dC<|.str "takes") a8)<|fJ<|dC<|.str "apart")
def i0:List W->List Bx->O W:=aN 9<|aU lM
abbrev rB:aE:=(fB (fO (d2 af aF (dV 5)<|dC<|.int 2)<|ff 6)<|fB (fO (fq aJ.i0 4<|fc (dV 0)<|fc (dV 3)<|fc (dV 4)<|fc (dV 5) fe)<|ff 7)<|fB (aT (dB<|d2 af cQ (dV 7)<|dC<|.str "takes") (fB (gN<|tM (dV 2)<|fL<|fc (dV 5)<|fc (dV 7)<|fc (dC .non)<|fc (dC .non) fe) Z4) a8)<|fB (gN<|tM (dV 2)<|fL<|fc (dV 5)<|fc (dV 7)<|fc (yd (dV 4)<|dV 6)<|fc (fq aJ.fZ 1<|fc (dV 5) fe) fe)<|fB (aT (dB<|d2 af aZ (d2 af aF (dV 5)<|dC<|.int 1)<|dC<|.str "in") (vU (dV 3) (dV 6)<|d2 af aF (dV 5)<|dC<|.int 3) a8)<|aT (dB<|d2 af aZ (d2 af aF (dV 5)<|dC<|.int 1)<|dC<|.str "out") (ye (dV 4)<|dV 6)<|vU (dV 4) (dV 6)<|fq aJ.fZ 1<|fc (dV 5) fe)
def Lz:aE:=(fB (fO (gj ag fe)<|ff 2)<|fB (fO (dY ag [])<|ff 3)<|fB (fO (dY ag [])<|ff 4)<|fB (jT (bP<|dN af dF<|fc (dV 1) fe) (ff 5) rB)<|fJ<|tQ 2)
def oI:List W->List Bx->O W:=aN 8<|aU Lz
end aJ
namespace kG
open L2 L2.DL
abbrev g3:DG:=(lB 3<|gF (ff 3)<|gF (ff 4)<|gF (ff 5) mY)
abbrev KH:aE:=(fB (aT (dB<|d2 af ph (d2 af aF (dV 3)<|dC<|.int 0)<|dV 1) Z3 a8)<|aT (dB<|E2 af<|dV 5) (ye (dV 2)<|d2 af aF (dV 3)<|dC<|.int 2)<|vU (dV 2) (d2 af aF (dV 3)<|dC<|.int 2)<|dV 5)
def j8:aE:=(fB (fO (dY ag [])<|ff 2)<|fB (jT (bP<|dV 0) g3 KH)<|fJ<|tQ 2)
def iH:List W->List Bx->O W:=aN 6<|aU j8
abbrev _root_.aJ.g4:DG:=(lB 4<|gF (ff 0)<|gF (ff 1)<|gF (ff 2)<|gF (ff 3) mY)
def AQ:aE:=(fJ<|gc af [ah,ah,ah,ah] (bP<|fq aJ.oI 2<|fc (dV 0)<|fc (dV 1) fe) aJ.g4 (dB<|d2 af aZ (dV 1)<|dC<|.str "takes")<|fL<|fc (dV 0)<|fc (dV 2)<|fc (dV 3) fe)
def iT:List W->List Bx->O W:=aN 2<|aU AQ
end kG
namespace K13
open L2 L2.DL
noncomputable section
def oA:aE:=(fB (kg 2 3<|fc (dN af aS<|fc (d2 af aF (dV 1)<|dC<|.int 0) fe)<|fc (dN af aS<|fc (d2 af aF (dV 1)<|dC<|.int 1) fe) fe)<|fB (fO (fL<|fc (dC<|.int 4)<|fc (dC<|.str "in")<|fc (dC<|.int 3)<|fc (dC<|.int 0)<|fc (dC<|.int 0)<|fc (dC<|.int 7)<|fc (dC<|.int 8) fe)<|ff 4)<|fB (fO (gj ag<|fc (dV 4)<|fc (fL<|fc (dC<|.int 4)<|fc (dC<|.str "out")<|fc (dC<|.int 3) fe)<|fc (fL<|fc (dC<|.int 4)<|fc (dC<|.str "to")<|fc (dC<|.int 3)<|fc (dC<|.int 0) fe)<|fc (fL<|fc (sy<|dC<|.int 1)<|fc (dC<|.str "out")<|fc (dC<|.int 3) fe)<|fc (fL<|fc (dC<|.bl ag)<|fc (dC<|.str "out")<|fc (dC<|.int 3) fe)<|fc (fL<|fc (dC<|.int 4)<|fc (dC<|.str "out")<|fc (dC<|.int 10) fe)<|fc (fL<|fc (dC<|.int 4)<|fc (dC<|.str "out")<|fc (sy<|dC<|.int 1) fe) fe)<|ff 5)<|fB (fO (d2 ag fP (dV 5)<|gj af<|fc (fL<|fc (dC<|.int 4)<|fc (dC<|.str "to")<|fc (dC<|.int 3)<|fc (dV 2) fe)<|fc (fL<|fc (dC<|.int 4)<|fc (dC<|.str "to")<|fc (dC<|.int 3)<|fc (d2 af eQ (dV 2)<|dC<|.int 1) fe)<|fc (fL<|fc (dC<|.int 4)<|fc (dC<|.str "to")<|fc (dC<|.int 3)<|fc (sy<|dC<|.int 1) fe)<|fc (fL<|fc (dC<|.int 4)<|fc (dC<|.str "out")<|fc (dC<|.int 3)<|fc (dC<|.int 0) fe)<|fc (fL<|fc (dC<|.int 4)<|fc (dC<|.str "to")<|fc (dC<|.int 3) fe) fe)<|ff 5)<|fB (fO (d2 ag fP (dV 5)<|gj af<|fc (fL<|fc (dC<|.int 4)<|fc (dC<|.str "in")<|fc (dC<|.int 3)<|fc (dV 3)<|fc (dC<|.int 0)<|fc (dC<|.int 7)<|fc (dC<|.int 8) fe)<|fc (fL<|fc (dC<|.int 4)<|fc (dC<|.str "in")<|fc (dC<|.int 3)<|fc (dC<|.int 0)<|fc (dV 2)<|fc (dC<|.int 7)<|fc (dC<|.int 8) fe)<|fc (fL<|fc (dC<|.int 4)<|fc (dC<|.str "in")<|fc (dC<|.int 3)<|fc (dC<|.int 0)<|fc (dC<|.int 0)<|fc (dC<|.int 1000)<|fc (dC<|.int 8) fe) fe)<|ff 5)<|fB (fO (d2 ag fP (dV 5)<|gj af<|fc (fL<|fc (dC<|.int 4)<|fc (dC<|.str "in")<|fc (dC<|.int 3)<|fc (dC<|.int 0)<|fc (dC<|.int 0)<|fc (dC<|.int 999)<|fc (dC<|.int 99) fe)<|fc (fL<|fc (dC<|.int 4)<|fc (dC<|.str "in")<|fc (dC<|.int 3)<|fc (dC<|.int 0)<|fc (dC<|.int 0)<|fc (dC<|.int 7)<|fc (dC<|.int 100) fe)<|fc (fL<|fc (dC<|.int 4)<|fc (dC<|.str "in")<|fc (dC<|.int 3)<|fc (dC<|.int 0)<|fc (dC<|.int 0)<|fc (sy<|dC<|.int 1)<|fc (dC<|.int 8) fe)<|fc (fL<|fc (dC<|.int 4)<|fc (dC<|.str "In")<|fc (dC<|.int 3) fe) fe)<|ff 5)<|fB (fO (d2 ag fP (dV 5)<|gj af<|fc (fL<|fc (dC<|.int 4)<|fc (dC<|.str "in")<|fc (dC<|.int 3) fe)<|fc (fL<|fc (dC<|.int 4)<|fc (dC<|.int 5)<|fc (dC<|.int 3) fe)<|fc (fL<|fc (dC<|.int 4)<|fc (dC .non)<|fc (dC<|.int 3) fe)<|fc (fL<|fc (dC<|.int 4)<|fc (dC<|.str "")<|fc (dC<|.int 3) fe)<|fc (dN af qU<|fc (dV 4) fe)<|fc (fL<|fc (dC<|.int 4)<|fc (dC<|.str "to")<|fc (dC<|.bl ag)<|fc (dC<|.int 0) fe) fe)<|ff 5)<|fB (gN<|tM (dV 5)<|fL<|fc (dC<|.int 4)<|fc (dC<|.str "to")<|fc (dC<|.int 3)<|fc (dC .non) fe)<|fB (fO (fq (K1.gJ 12) 2<|fc (dV 0)<|fc (dV 4) fe)<|ff 6)<|fJ<|d2 af fP (dV 5)<|gj af<|fc (dV 6)<|fc (fq (K1.gJ 12) 2<|fc (dV 0)<|fc (dV 6) fe)<|fc (fq K1.fS 1<|fc (dV 0) fe)<|fc (fL<|fc (d2 af eQ (d2 af sq (dC<|.int 10)<|dC<|.int 40)<|dC<|.int 1)<|fc (dC<|.str "out")<|fc (dC<|.int 9) fe) fe)
def KI:List W->List Bx->O W:=aN 7<|aU oA
def KJ (C:ai):aE:=(fB (gN<|fq bR.iA 1<|fc (dV 1) fe)<|fB (pZ C (dV 0) "home"<|dV 1)<|fB (pZ C (dV 0) "kept"<|fL fe)<|fB (pZ C (dV 0) "dark_hours"<|fL fe) a8)
noncomputable def afH (C:ai):List W->List Bx->O W:=λ_ _=>.bad
def jd:aE:=(fB (aT (eO (cC<|dB<|gH "tuple"<|dV 1)<|eO (dB<|d2 af (inD ag) (dN af aS<|fc (dV 1) fe)<|fL<|fc (dC<|.int 3)<|fc (dC<|.int 4)<|fc (dC<|.int 7) fe)<|cC<|dB<|fq K2.ia 1<|fc (d2 af aF (dV 1)<|dC<|.int 0) fe) (fJ<|dC<|.bl af) a8)<|fB (aT (eO (cC<|dB<|gH "str"<|d2 af aF (dV 1)<|dC<|.int 1)<|cC<|dB<|fq K1.gm 3<|fc (d2 af aF (dV 1)<|dC<|.int 2)<|fc (dC<|.int 0)<|fc (dC<|.int 9) fe) (fJ<|dC<|.bl af) a8)<|fB (aT (dB<|d2 af cQ (kU (dY ag [(.inl 3,.str "out"),(.inl 4,.str "to"),(.inl 7,.str "in")])<|dN af aS<|fc (dV 1) fe)<|d2 af aF (dV 1)<|dC<|.int 1) (fJ<|dC<|.bl af) a8)<|fB (aT (dB<|d2 af aZ (dN af aS<|fc (dV 1) fe)<|dC<|.int 4) (fJ<|fq K1.gm 3<|fc (d2 af aF (dV 1)<|dC<|.int 3)<|fc (dC<|.int 0)<|fc (d2 af eQ (dN af aS<|fc (d2 af aF (dV 0)<|dC<|.int 0) fe)<|dC<|.int 1) fe) a8)<|fB (aT (qo (dB<|d2 af aZ (dN af aS<|fc (dV 1) fe)<|dC<|.int 7)<|cC<|dB<|fq K1.gm 3<|fc (d2 af aF (dV 1)<|dC<|.int 3)<|fc (dC<|.int 0)<|fc (d2 af eQ (dN af aS<|fc (d2 af aF (dV 0)<|dC<|.int 1) fe)<|dC<|.int 1) fe) (fJ<|dC<|.bl af) a8)<|fB (aT (qo (dB<|d2 af aZ (dN af aS<|fc (dV 1) fe)<|dC<|.int 7)<|cC<|dB<|fq K1.gm 3<|fc (d2 af aF (dV 1)<|dC<|.int 4)<|fc (dC<|.int 0)<|fc (d2 af eQ (dN af aS<|fc (d2 af aF (dV 0)<|dC<|.int 0) fe)<|dC<|.int 1) fe) (fJ<|dC<|.bl af) a8)<|fJ<|Eu (d2 af aZ (dN af aS<|fc (dV 1) fe)<|dC<|.int 3)<|gR (fq K1.gm 3<|fc (d2 af aF (dV 1)<|dC<|.int 5)<|fc (dC<|.int 0)<|fc (dC<|.int 999) fe)<|fq K1.gm 3<|fc (d2 af aF (dV 1)<|dC<|.int 6)<|fc (dC<|.int 0)<|fc (dC<|.int 99) fe)
def uS:List W->List Bx->O W:=aN 2<|aU jd
def jN:aE:=(fB (aT (eO (cC<|dB<|gH "list"<|dV 1)<|eO (dB<|d2 af ph (dN af aS<|fc (dV 1) fe)<|dC<|.int 16)<|cC<|dB<|dN af dW<|fc (gc af [ah,ae 0] (bP<|dV 1) (ff 0) ge<|fq K13.uS 2<|fc (dV 1)<|fc (dV 0) fe) fe) (fJ<|dC<|.bl af) a8)<|fJ<|d2 af aZ (dN af E5<|fc (dV 1) fe)<|dN af aS<|fc (dV 1) fe)
def sM:List W->List Bx->O W:=aN 2<|aU jN
def G3 (C:ai):aE:=(fJ<|dN af qU<|fc (dq C (dV 0) "kept") fe)
def E9 (C:ai):List W->List Bx->O W:=aN 1<|aU<|G3 C
def BL:aE:=(fB (gN<|fq bR.iA 1<|fc (dV 0) fe)<|aT (cC<|dB<|fq aJ.gn 2<|fc (dV 0)<|fc (dV 1) fe) (sI 4<|dC<|.str "pages are a list of at most sixteen unlike pages of the house") a8)
def Ha:List W->List Bx->O W:=aN 2<|BL
def DH:aE:=(fB (gN<|fq K13.Ha 2<|fc (dV 0)<|fc (dV 1) fe)<|fJ<|gc af [ah,ah,ah,ah] (bP<|fq aJ.oI 2<|fc (dV 0)<|fc (dV 1) fe) aJ.g4 ge<|fL<|fc (dV 0)<|fc (dV 1) fe)
def V0:List W->List Bx->O W:=aN 2<|DH
def LA:aE:=(fB (gN<|fq K13.Ha 2<|fc (dV 0)<|fc (dV 1) fe)<|fB (gN<|fq K2.jD 1<|fc (dV 2) fe)<|fB (fO (fq kG.iH 2<|fc (fq kG.iT 2<|fc (dV 0)<|fc (dV 1) fe)<|fc (dV 2) fe)<|ff 3)<|fJ<|E6 af<|dV 3)
def V1:List W->List Bx->O W:=aN 4<|LA
def DI:aE:=(fB (sJ<|aT (dB<|d2 af aZ (dV 0)<|dC<|.int 0) (gN<|fq K13.V0 2<|fc (dV 1)<|fc (dV 2) fe)<|gN<|fq K13.V1 3<|fc (dV 1)<|fc (dV 2)<|fc (dC<|.int 5) fe)<|fJ<|dC<|.str "")
def Hb:List W->List Bx->O W:=aN 4<|aU DI
def AR (C:ai):aE:=(aT (cC<|dB<|fq aJ.ir 2<|fc (dq C (dV 0) "home")<|fc (dV 1) fe) (sI 11<|dC<|.str "a page is a tuple of the house's own numbers") a8)
def KL (C:ai):List W->List Bx->O W:=aN 2<|AR C
def LB (C:ai):aE:=(fB (gN<|tM (dq C (dV 0) "earlier")<|fL<|fc (dq C (dV 0) "kept")<|fc (dq C (dV 0) "dark_hours") fe)<|fB (pZ C (dV 0) "kept"<|dN af qp<|fc (dN af dF<|fc (dV 1) fe) fe)<|pZ C (dV 0) "dark_hours"<|dN af qp<|fc (dN af dF<|fc (dV 2) fe) fe)
def KN (C:ai):List W->List Bx->O W:=aN 3<|aU<|LB C
def LC (C:ai):aE:=(fB (gN<|nR C (K13.KL C) "need_page" 2 (dV 0)<|fc (dV 1) fe)<|fB (aT (dB<|d2 af (inD af) (dV 1)<|dq C (dV 0) "kept") (sI 13<|dC<|.str "this page is there already") a8)<|fB (aT (dB<|d2 af uE (dN af aS<|fc (dq C (dV 0) "kept") fe)<|dC<|.int 16) (sI 15<|dC<|.str "sixteen pages are there already") a8)<|gN<|nR C (K13.KN C) "keep" 3 (dV 0)<|fc (d2 af fP (dq C (dV 0) "kept")<|fL<|fc (dV 1) fe)<|fc (dq C (dV 0) "dark_hours") fe)
def Hc (C:ai):List W->List Bx->O W:=aN 2<|LC C
def G4:aE:=(fJ<|dN af qp<|fc (gc af [ah,ae 1] (bP<|dV 0) (ff 0) (dB<|d2 af cQ (dV 0)<|dV 1)<|dV 0) fe)
def V2:List W->List Bx->O W:=aN 2<|aU G4
def DJ (C:ai):aE:=(fB (gN<|nR C (K13.KL C) "need_page" 2 (dV 0)<|fc (dV 1) fe)<|fB (aT (dB<|d2 af (inD ag) (dV 1)<|dq C (dV 0) "kept") (sI 14<|dC<|.str "this page isn't there") a8)<|gN<|nR C (K13.KN C) "keep" 3 (dV 0)<|fc (fq K13.V2 2<|fc (dq C (dV 0) "kept")<|fc (dV 1) fe)<|fc (dq C (dV 0) "dark_hours") fe)
def Hd (C:ai):List W->List Bx->O W:=aN 2<|DJ C
def G5 (C:ai):aE:=(fB (sJ<|aT (dB<|d2 af aZ (dV 1)<|dC<|.int 0) (gN<|nR C (K13.Hc C) "tell" 2 (dV 0)<|fc (dV 2) fe)<|gN<|nR C (K13.Hd C) "strike" 2 (dV 0)<|fc (dV 2) fe)<|fJ<|dC<|.str "")
def sN (C:ai):List W->List Bx->O W:=aN 4<|aU<|G5 C
def Pm (C:ai):aE:=(fB (jT (eP<|fc (dN af maxD<|fc (dC<|.int 1)<|fc (dN af minD<|fc (uF<|dV 0)<|fc (dC<|.int 5) fe) fe) fe) (ff 1)<|fB (fO (fq K1.jC 1<|fc (fq K1.g6 2<|fc (dV 0)<|fc (dV 1) fe) fe)<|ff 2)<|fB (fO (fq aJ.iM 1<|fc (dV 2) fe)<|ff 3)<|fB (kg 4 5<|fc (fq aJ.iN 4<|fc (dV 2)<|fc (dV 3)<|fc (dC<|.int 14)<|fc (dC<|.int 30) fe)<|fc (xY C "earlier" (K13.KJ C)<|fc (dV 3) fe) fe)<|fB (jT (bP<|fq K13.KI 2<|fc (dV 2)<|fc (dV 3) fe) (ff 6)<|fB (kg 7 8<|fc (fq K1.fk 2<|fc (dV 2)<|fc (d2 af fP (dN af aS<|fc (dV 4) fe)<|dC<|.int 1) fe)<|fc (vP<|dV 6) fe)<|fB (jT (bP<|gj af<|fc (d2 af fP (d2 af fP (dX af (dV 4) eS<|dH<|dV 7)<|gj af<|fc (dV 6) fe)<|dX af (dV 4) (dH<|dV 7) eS)<|fc (gj af<|fc (dV 6) fe)<|fc (dN af qp<|fc (dV 4) fe) fe) (ff 9)<|fB (fO (kP (dB<|fq K13.sM 2<|fc (dV 3)<|fc (dV 9) fe) (dC<|.str "")<|dC<|.str "pages")<|ff 10)<|aT (dB<|d2 af cQ (gc af [ah,ae 3,ae 9] (bP<|fL<|fc (dC<|.int 0)<|fc (dC<|.int 1) fe) (ff 0) ge<|fq K13.Hb 3<|fc (dV 0)<|fc (dV 1)<|fc (dV 2) fe)<|gj af<|fc (dV 10)<|fc (dV 10) fe) (fJ<|dC<|.bl af) a8)<|fB (fO (kP (dB<|fq K13.uS 2<|fc (dV 3)<|fc (dV 6) fe) (gj af<|fc (dC<|.str "")<|fc (dC<|.str "") fe)<|gj af<|fc (dC<|.str "page")<|fc (dC<|.str "page") fe)<|ff 10)<|aT (eO (dB<|d2 af cQ (gc af [ah,ae 5,ae 6] (bP<|fL<|fc (dC<|.int 0)<|fc (dC<|.int 1) fe) (ff 0) ge<|fq (K13.sN C) 3<|fc (dV 1)<|fc (dV 0)<|fc (dV 2) fe)<|dV 10)<|eO (dB<|d2 af cQ (nR C (K13.E9 C) "pages" 1 (dV 5) fe)<|gj af fe)<|dB<|d2 af cQ (vP<|dV 6)<|dV 8) (fJ<|dC<|.bl af) a8)<|fB (fO (gc af [ah] (eP<|fc (dC<|.int 16) fe) (ff 0) ge<|fL<|fc (dV 0)<|fc (dC<|.str "out")<|fc (dC<|.int 0) fe)<|ff 11)<|jT (bP<|gj af<|fc (dV 11)<|fc (d2 af fP (dV 11)<|gj af<|fc (fL<|fc (dC<|.int 16)<|fc (dC<|.str "out")<|fc (dC<|.int 0) fe) fe)<|fc (d2 af fP (dV 4)<|dX af (dV 4) eS<|dH<|dC<|.int 1)<|fc (xV af 0 4)<|fc (dC .non)<|fc (fq K1.fS 1<|fc (dV 2) fe)<|fc (gj af fe) fe) (ff 9)<|fB (fO (kP (dB<|fq K13.sM 2<|fc (dV 3)<|fc (dV 9) fe) (dC<|.str "")<|dC<|.str "pages")<|ff 10)<|aT (dB<|d2 af cQ (gc af [ah,ae 3,ae 9] (bP<|fL<|fc (dC<|.int 0)<|fc (dC<|.int 1) fe) (ff 0) ge<|fq K13.Hb 3<|fc (dV 0)<|fc (dV 1)<|fc (dV 2) fe)<|gj af<|fc (dV 10)<|fc (dV 10) fe) (fJ<|dC<|.bl af) a8)<|fJ<|dC<|.bl ag)
def fn_law (C:ai):List W->List Bx->O W:=aN 12<|aU<|Pm C
end
end K13
namespace L2.DL

@[simp] theorem fX {k:α->List Bx->O β}:fC (.val a bx) k=k a bx:=rfl
@[simp] theorem Uy {k:α->List Bx->O β}:fC .bad k=.bad:=rfl
@[simp] theorem iI:bj (.val a bx) k=k a bx:=rfl
@[simp] theorem Uz:bj (.bad) k=.bad:=rfl
@[simp] theorem mO {k:α->List Bx->O β}:bindB (.val a bx) k=k a bx:=rfl

@[simp] theorem iG:dV i env bx=match env[i]? with|some (ae w)=>.val w bx|_=>.bad:=rfl
@[simp] theorem Tj:dC d env bx=.val (.d d) bx:=rfl
@[simp] theorem RR:fe env bx=.val [] bx:=rfl
@[simp] theorem FC:fc m k env bx=fC (m env bx) λw bx1=>fC (k env bx1) λl aq=>.val (w::l) aq:=rfl
@[simp] theorem FD:fq fn n k env bx=fC (k env bx) λws bx1=>if ws.length=n then fn ws bx1 else .bad:=rfl
@[simp] theorem Ud:dB m env bx=fC (m env bx) λw bx1=>match w with|.d (.bl k)=>.val k bx1|_=>.bad:=rfl
@[simp] theorem LD:qo m k env bx=fC (m env bx) λb bx1=>match b with|true=>k env bx1|false=>.val af bx1:=rfl
@[simp] theorem Pn:eO m k env bx=fC (m env bx) λb bx1=>match b with|true=>.val ag bx1|false=>k env bx1:=rfl
@[simp] theorem RS:cC m env bx=fC (m env bx) λb bx1=>.val (!b) bx1:=rfl
@[simp] theorem N4:gR m k env bx=fC (m env bx) λw bx1=>match w with|.d (.bl ag)=>k env bx1|.d (.bl af)=>.val (.d<|.bl af) bx1|_=>.bad:=rfl
@[simp] theorem LF:Eu m k env bx=fC (m env bx) λw bx1=>match w with|.d (.bl ag)=>.val (.d<|.bl ag) bx1|.d (.bl af)=>k env bx1|_=>.bad:=rfl
@[simp] theorem T5:Kf m env bx=fC (m env bx) λw bx1=>match w with|.d (.bl k)=>.val (.d<|.bl<|!k) bx1|_=>.bad:=rfl
@[simp] theorem oJ:ge env bx=.val ag bx:=rfl
@[simp] theorem T6:gH n m env bx=fC (m env bx) λw bx1=>match bF bx1 w with|some d=>.val (.d<|.bl<|sr (pT d) n) bx1|none=>.bad:=rfl
@[simp] theorem G6:d2 b g ma mb env bx=fC (ma env bx) λx bx1=>fC (mb env bx1) λy aq=>bZ b ((bF aq x).bind λp=>(bF aq y).bind λq=>g p q) aq:=rfl
@[simp] theorem N5:dN b g k env bx=fC (k env bx) λws bx1=>bZ b ((nM bx1 ws).bind g) bx1:=rfl
@[simp] theorem UA:d3 g g' ma mb mc env bx=fC (ma env bx) λx bx1=>fC (mb env bx1) λy aq=>
 fC (bZ af ((bF aq x).bind λp=>(bF aq y).bind λq=>g p q) aq) λz b9=>match z with
  |.d (.bl ag)=>fC (mc env b9) λw eN=>bZ af ((bF eN y).bind λp=>(bF eN w).bind λq=>g' p q) eN
  |.d (.bl af)=>.val (.d<|.bl af) b9
  |_=>.bad:=rfl
@[simp] theorem om:bF bx (.d d)=ae d:=rfl
@[simp] theorem LG:nM bx []=ae []:=rfl
@[simp] theorem LH:nM bx (.d d::l)=(nM bx l).map λt=>d::t:=by
 erw[nM];cases nM bx l<;>rfl
@[simp] theorem SW:bZ b ah bx=.bad:=rfl
@[simp] theorem iU:bZ af (ae q) bx=.val (.d q.toD) bx:=by cases q<;>rfl
@[simp] theorem Ue:bZ ag (ae<|.lst l) bx=.val (.b bx.length) (bx++[.lst l]):=rfl
@[simp] theorem FE:(Res.old d).toD=d:=rfl
@[simp] theorem N6:(Res.tup l).toD=.tup l:=rfl
@[simp] theorem l9:(Res.lst l).toD=.lst l:=rfl
@[simp] theorem T7:(Res.az l).toD=.az l:=rfl
@[simp] theorem Uf:a8 env bx=.nx env bx:=rfl
@[simp] theorem mP:fB m k env bx=match m env bx with|.nx ba bx1=>k ba bx1|o=>o:=rfl
@[simp] theorem FF:gN m env bx=bj (m env bx) λ_ bx1=>.nx env bx1:=rfl
@[simp] theorem LJ:fJ m env bx=bj (m env bx) λw bx1=>.rt w bx1:=rfl
@[simp] theorem Po:aT t m k env bx=bj (t env bx) λb bx1=>match b with|true=>m env bx1|false=>k env bx1:=rfl
@[simp] theorem DM:fO m g env bx=bj (m env bx) λw bx1=>match g w env bx1 with|some (ba,aq)=>.nx ba aq|none=>.bad:=rfl
@[simp] theorem RT:jT m g body env bx=bj (m env bx) λds bx1=>eu g body ds env bx1:=rfl
@[simp] theorem CK:ff i w env bx=ae (env.set i<|ae w,bx):=rfl
@[simp] theorem T8:mY [] env bx=ae (env,bx):=rfl
@[simp] theorem Tk:gF g k (w::l) env bx=(g w env bx).bind λ(ba,bx1)=>k l ba bx1:=rfl
@[simp] theorem T9:lB n k (.d<|.tup l) env bx=if l.length=n then k (l.map W.d) env bx else ah:=rfl
@[simp] theorem BM:gc bo src mi g tf te env bx=fC (mi env bx) λds bx1=>fC (bu g tf te ds (eA src env) bx1 []) λl aq=>bZ bo (ae<|.lst l) aq:=rfl
@[simp] theorem As:eA [] env=[]:=rfl
@[simp] theorem oo:eA (ah::l) env=ah::eA l env:=rfl
@[simp] theorem oq:eA (ae i::l) env=((env[i]?).bind id)::eA l env:=rfl
@[simp] theorem FG:bP m env bx=fC (m env bx) λw bx1=>match w with|.d (.lst l)=>.val (l.map W.d) bx1|.d (.tup l)=>.val (l.map W.d) bx1|_=>.bad:=rfl
@[simp] theorem RU:fL k env bx=fC (k env bx) λws bx1=>bZ af ((pf ws).bind λl=>if l.length<=sizeLine then ae (.tup l) else ah) bx1:=rfl
@[simp] theorem LK:gj bo k env bx=fC (k env bx) λws bx1=>bZ bo ((pf ws).bind λl=>if l.length<=sizeLine then ae (.lst l) else ah) bx1:=rfl
@[simp] theorem Tl:pf []=ae []:=rfl
@[simp] theorem RV:pf (.d d::l)=(pf l).map λt=>d::t:=rfl
@[simp] theorem Ug:sy m env bx=fC (m env bx) λw bx1=>match w with|.d (.int i)=>.val (.d<|.int<|-i) bx1|_=>.bad:=rfl
@[simp] theorem Tn:dX bo m l u env bx=fC (m env bx) λx bx1=>fC (l env bx1) λi aq=>fC (u env aq) λj b9=>bZ bo ((bF b9 x).bind λd=>qr d i j) b9:=rfl
@[simp] theorem Ux:eS env bx=.val ah bx:=rfl
@[simp] theorem N7:dH m env bx=fC (m env bx) λw bx1=>match w with|.d (.int i)=>.val (ae i) bx1|_=>.bad:=rfl
@[simp] theorem Uh:VF bo m env bx=fC (m env bx) λx bx1=>bZ bo ((bF bx1 x).bind λd=>match d with|.lst l=>ae (.lst l.reverse)|_=>ah) bx1:=rfl
theorem gi (h:m (ws.map ae++List.replicate (n-ws.length) ah) bx=.rt (.d d) bx):aN n (aU m) ws bx=.val (.d d) bx:=by
 simp[aN,aU,DL.envOf,h,pQ,pR,rN]
end L2.DL
namespace K1
open L2 L2.DL
noncomputable def wh:D->Bool
 |.int _=>ag
 |_=>af
noncomputable def wi (d:D) (lo hi:Int):Bool:=match d with
 |.int i=>decide (lo<=i)&&decide (i<=hi)
 |_=>af
noncomputable def tl (d:D) (lo hi:Int):Bool:=match d with
 |.tup l=>decide (lo<=(l.length))&&decide ((l.length)<=hi)
 |_=>af
theorem LL (d):sr (pT d) "int"=(match d with|.int _=>ag|.bl _=>ag|_=>af):=by cases d<;>rfl
theorem FH (d):sr (pT d) "bool"=(match d with|.bl _=>ag|_=>af):=by cases d<;>rfl
theorem RW (d):sr (pT d) "tuple"=(match d with|.tup _=>ag|_=>af):=by cases d<;>rfl
theorem CL (d) (bx):iZ [.d d] bx=.val (.d<|.bl<|wh d) bx:=
 gi (by cases d<;>simp[Ao,LL,FH,wh])
theorem mQ (d) (bx):gD [.d d] bx=.val (.d<|.bl<|wh d) bx:=
 gi (by cases d<;>simp[oi,LL,FH,wh])
theorem Bg (d) (lo hi) (bx):gk [.d d,.d<|.int lo,.d<|.int hi] bx=.val (.d<|.bl<|wi d lo hi) bx:=
 gi (by
  cases d<;>simp[oa,CL,wh,wi,qt];ext i;by_cases h:lo<=i<;>simp[h])
theorem DN (d) (lo hi) (bx):gm [.d d,.d<|.int lo,.d<|.int hi] bx=.val (.d<|.bl<|wi d lo hi) bx:=
 gi (by
  cases d<;>simp[l8,mQ,wh,wi,qt];ext i;by_cases h:lo<=i<;>simp[h])
theorem LM (d) (lo hi) (bx):gC [.d d,.d<|.int lo,.d<|.int hi] bx=.val (.d<|.bl<|tl d lo hi) bx:=
 gi (by
  cases d<;>simp[Ap,RW,tl,qt,aS];ext l;by_cases h:lo<=(l.length)<;>simp[h])
theorem N8 (J:bt->zb) (p) (f):∀ (l:List D) (env) (acc),J env ->
 (∀ d∈l,∀ env,J env->∃ aP,g (.d d) env bx=ae (aP,bx) /\ J aP /\ tf aP bx=.val (p d) bx /\ (p d=ag->te aP bx=.val (.d<|f d) bx))->acc.length+l.length<=sizeLine ->
 bu g tf te (l.map W.d) env bx acc=.val (acc++(l.filter p).map f) bx:=by
 intro l_;induction l_ with
 |nil=>(intro env acc _ _ _;simp[bu])
 |cons d l aA=>
   intro env acc j h n;let#[aP,e1,j',e2,e3]:=h d (bM ..) env j;have n':acc.length<sizeLine:=by erw[a6]at n;lia
   erw[aQ,bu,e1,e2];have h':=λx (m)=>h x<|bC _ m;cases q:p d with
   |false=>
     erw[HZ,q];show aA aP acc j' h' (by erw[a6]at n;lia)
   |true=>
     erw[HZ,q,e3 q,mO,if_pos n'];rw[aA aP (acc++[f d]) j' h' (by erw[bG,a6,nW]at n ⊢;lia)];simp
theorem CM (J:bt->zb) (f) {l:List D}{env}(j:J env) (h:∀ d∈l,∀ env,J env->∃ aP,g (.d d) env bx=ae (aP,bx) /\ J aP /\ te aP bx=.val (.d<|f d) bx) (n:l.length<=sizeLine) :
 bu g ge te (l.map W.d) env bx []=.val (l.map f) bx:=by
 rw[N8 (tf:=ge) J _ f l env [] j (λd m e je=>let ⟨e',a,b,c⟩:=h d m e je;#[e',a,b,rfl,λ_=>c]) (by simpa using n)];rw[List.filter_eq_self.mpr λ_ _=>rfl];rfl
theorem LN (l:List D) (p):sx (l.map λd=>D.bl<|p d)=ae (l.map p):=by
 induction l with
 |nil=>rfl
 |cons d l ih=>simp[sx,ih]
@[simp] theorem all_map (l:List D) (p):dW [.lst<|l.map λd=>D.bl<|p d]=ae (.old<|.bl<|l.all p):=by
 simp[dW,LN]
def rooms (d:D):Bool:=match d with
 |.tup l=>tl (.tup l) 1 5&&l.all λx=>wi x 0 3
 |_=>af
theorem Au {lo}(h:tl (.tup l) lo hi=ag):lo<=(l.length) /\ (l.length)<=hi:=by simpa[tl] using h
noncomputable def vZ:List D->Bool
 |x::y::l=>(match x,y with|.int i,.int j=>decide (j<=i)|_,_=>af)&&vZ (y::l)
 |_=>ag
def He (d:D):Bool:=match d with
 |.tup l=>tl (.tup l) 4 4&&(l.all (λx=>wi x 0 9)&&vZ l)
 |_=>af
theorem afI (h:tl (.tup l) 2 2=ag):∃ a b,l=[a,b]:=by
 have n:=Au h;obtain⟨a,l,rfl⟩:∃ a t,l=a::t:=wQ (by lia);obtain⟨b,l,rfl⟩:∃ a t,l=a::t:=wQ (by simp at n;lia);have:l.length=0:=by simp at n;lia
 show#[a,b,by rw[Ia this]]
theorem afJ (h:tl (.tup l) 4 4=ag):∃ a b c e,l=[a,b,c,e]:=by
 have n:=Au h;obtain⟨a,l,rfl⟩:∃ a t,l=a::t:=wQ (by lia);obtain⟨b,l,rfl⟩:∃ a t,l=a::t:=wQ (by simp at n;lia);obtain⟨c,l,rfl⟩:∃ a t,l=a::t:=wQ (by simp at n;lia);obtain⟨e,l,rfl⟩:∃ a t,l=a::t:=wQ (by simp at n;lia);have:l.length=0:=by simp at n;lia
 show#[a,b,c,e,by rw[Ia this]]
theorem iJ {lo}(h:wi x lo hi=ag):∃ i,x=.int i /\ lo<=i /\ i<=hi:=by
 cases x<;>simp[wi]at h;show#[_,rfl,h]
def kind (d:D):Bool:=match d with
 |.tup l=>tl (.tup l) 2 2&&(match l with|[a,b]=>wi a 1 999&&He b|_=>af)
 |_=>af
def kinds (d:D):Bool:=match d with
 |.tup l=>tl (.tup l) 1 4&&l.all kind
 |_=>af
def yi (n:Int) (d:D):Bool:=match d with
 |.tup l=>tl (.tup l) 2 2&&(match l with|[.int a,.int b]=>decide (0<=a)&&decide (a<b)&&decide (b<=n-1)|_=>af)
 |_=>af
noncomputable abbrev dP (p:Int×Int):D:=.tup [.int p.1,.int p.2]
abbrev xP (l:List<|Int×Int):Option W:=ae<|.d<|.lst<|l.map dP
def p8 (p q:Int×Int):Bool:=HT.lexLt [p.1,p.2] [q.1,q.2]
noncomputable def rP (p:Int×Int):List HT.aO:=[.i p.1,.i p.2]
theorem To (p q):HT.cA (rP p) (rP q)=p8 p q:=by simp[rP,p8,HT.cA,HT.lexLt,HT.aO.lt]
theorem Tp (p q):kX (dP p) (dP q)=ae (.old<|.bl<|p8 p q):=by
 rw[<-To];change (if HT.eB (rP p) (rP q)=ag then ae _ else ah)=_;show if_pos za
def incr:List (Int×Int)->Bool
 |p::q::r=>p8 p q&&incr (q::r)
 |_=>ag
theorem Av:∀ ps,incr ps=(List.range<|ps.length-1).all λi=>p8 (ps.getD i (0,0)) (ps.getD (i+1) (0,0))
 |[]=>rfl
 |[p]=>rfl
 | p::q::r=>by
   rw[incr,Av _];simp[a6,XI];rw[List.range_succ_eq_map,nE,wR];rfl
theorem FJ {ps:List _}(h:i<ps.length):bU (ps.map dP) (i)=ae (dP<|ps.getD i (0,0)):=by
 unfold bU cT;simp[h]
theorem LO (e:k env bx=.val [.d<|.int i,.d<|.int j] bx1):vI k env bx=.val (f9 i (j-i).toNat) bx1:=by
 unfold vI;rw[e,fX]
theorem Aw (e:k env bx=.val [.d<|.int j] bx1) (h:-(2 ^ 62)<=j /\ j<2 ^ 62):eP k env bx=.val (f9 0 j.toNat) bx1:=by
 unfold eP;rw[e,fX];show if_pos h
theorem N9 (lo) (n):f9 lo n=((List.range n).map λ(i:Nat)=>D.int<|lo+(i)).map W.d:=by
 rw[cw];rfl
theorem G7 (ps) (n:ps.length<=sizeLine) (bx):gZ [.d<|.tup<|ps.map dP] bx=.val (.d<|.bl<|incr ps) bx:=
 gi (by
  have s2:sizeLine=16777216:=bB;have r:vI (fc (dC<|.int 1)<|fc (dN af aS<|fc (dV 0) fe) fe) [ae<|.d<|.tup<|ps.map dP] bx=.val (f9 1 (((ps.length):Int)-1).toNat) bx:=LO (by simp[aS]);erw[oh,LJ,N5,FC,BM,aQ,QO,a6,nW,k6,List.replicate_zero,rL,r,fX,N9,oo,oq,As,Yb,bI,id];rw[CM (λe=>∃ w,e=[w,ae _]) _ #[ah,rfl] ?_ (by rw[aV,HY];lia)]
  .erw[fX,RR,iU,l9,LH,LG,vp,bI];rw[all_map,iU,FE,iI,wR,show ((ps.length:Int)-1).toNat=ps.length-1 by lia];have z:((λx:D=>match x with|.int i=>p8 (ps.getD (i.toNat-1) (0,0)) (ps.getD i.toNat (0,0))|_=>af)∘λ(i:Nat)=>D.int<|1+(i:Int))=λi=>p8 (ps.getD i (0,0)) (ps.getD (i+1) (0,0)):=by
    funext i;change p8 (ps.getD ((1+(i:Int)).toNat-1) (0,0)) (ps.getD (1+(i:Int)).toNat (0,0))=_;rw[show (1+(i:Int)).toNat=i+1 by lia,XI]
   rw[z,<-Av]
  .intro x m e ⟨w,je⟩;let#[i,mi,rfl]:=bc.mp m;have hi:i<((ps.length:Int)-1).toNat:=List.mem_range.mp mi;refine#[[xN<|1+(i:Int),ae<|.d<|.tup<|ps.map dP],by simp[je],#[_,rfl],?_];have a2:=FJ (ps:=ps) (i:=i+1) (by lia);rw[show ((i+1:Nat):Int)=1+(i:Int) by lia]at a2;erw[G6,iG,Tj,Yb,List.getElem?_cons_succ,fX,om,bI,aF,eQ,iU,FE,show 1+(i:Int)-1=(i:Int) by lia,(FJ (ps:=ps) (i:=i) (by lia)),a2,vp,Tp];rw[show (1+(i:Int)).toNat=i+1 by lia];rfl)
noncomputable def toP:D->Option (Int×Int)
 |.tup [.int a,.int b]=>ae (a,b)
 |_=>ah
theorem FK (ps:List _):(ps.map dP).filterMap toP=ps:=by
 induction ps with
 |nil=>rfl
 |cons p ps ih=>rw[aQ,qg,ih];rfl
def apart (n:Int) (d:D):Bool:=match d with
 |.tup l=>l.all (yi n)&&incr (l.filterMap toP)
 |_=>af
noncomputable def lenOf:D->Int
 |.tup l=>l.length
 |_=>0
def house (d:D):Bool:=match d with
 |.tup [r,k,p,h]=>rooms r&&(kinds k&&(apart (lenOf k) p&&wi h 1 9))
 |_=>af
end K1
namespace L2.DL
noncomputable def aa7:Key->Nat
 |.inl _=>1921
 |.inr x=>(reprText x).length
mutual
noncomputable def wt:D->Nat
 |.non=>4
 |.bl _=>5
 |.int _=>1921
 |.str x=>(reprText x).length
 |.tup l=>3+dr l
 |.lst l=>3+dr l
 |.az l=>3+Hf l
noncomputable def dr:List D->Nat
 |[]=>0
 |d::l=>wt d+2+dr l
noncomputable def Hf:List (Key×D)->Nat
 |[]=>0
 |(k,d)::l=>aa7 k+wt d+4+Hf l
end
theorem FL (ts):(Str.join ", " ts).length<=piled ts:=by
 by_cases h:ts=[]
 .subst h;show aB _
 .have:=join_length_add ts h;lia
theorem BN (ts):(tupleText ts).length<=3+piled ts:=by
 unfold tupleText;have h:=FL ts;have e1:(("("):Str).length=1:=rfl;have e2:((",)"):Str).length=2:=rfl;have e3:((")"):Str).length=1:=rfl;rw[pC,pC];split<;>lia
theorem CN:∀ (ts) (k) (acc),(textFrom k acc ts).length<=acc.length+piled ts:=by
 intro l_;induction l_ with
 |nil=>(intro k acc;change acc.length<=_;lia)
 |cons t r aA=>
   intro k acc;have h:=aA (k+1)<|acc++(if k>0 then ", " else "")++t;have e1:((", "):Str).length=2:=rfl;have e2:((""):Str).length=0:=rfl;rw[pC,pC]at h;rw[QA];change (textFrom _ _ r).length<=_;split at h<;>ext hk<;>simp[hk,if_false]at h ⊢<;>lia
theorem CO (ts):(listText ts).length<=3+piled ts:=by
 unfold listText;have h:=CN ts 0 "[";have e1:(("["):Str).length=1:=rfl;have e2:(("]"):Str).length=1:=rfl;rw[pC];lia
theorem CP (ts):(dictText ts).length<=3+piled ts:=by
 unfold dictText;have h:=FL ts;have e1:(("{"):Str).length=1:=rfl;have e2:(("}"):Str).length=1:=rfl;rw[pC,pC];lia
theorem CQ {i:Int}(h:i.natAbs.log2<1920):(Str.ofString<|toString i).length<=1921:=by
 have:=int_text_length_le (by decide) h;rw[PySem.ofString_length];show this
mutual
theorem Ax:∀ (d:D),(toPy d).showable=ag->(toPy d).shown.length<=wt d
 |.non,_=>by erw[toPy,PyData.shown,wt];decide
 |.bl b,_=>by cases b<;>erw[toPy,PyData.shown,wt]<;>decide
 | .int i,h=>by
   erw[toPy,PyData.shown,wt];show CQ (by simpa[toPy,PyData.showable] using h)
 |.str x,_=>by erw[toPy,PyData.shown,wt];show aB _
 | .tup l,h=>by
   erw[toPy,PyData.shown,wt];have:=mS l (by simpa[toPy,PyData.showable] using h);have:=BN<|PyData.shownAll<|bq l
   lia
 | .lst l,h=>by
   erw[toPy,PyData.shown,wt];have:=mS l (by simpa[toPy,PyData.showable] using h);have:=CO<|PyData.shownAll<|bq l
   lia
 | .az l,h=>by
   erw[toPy,PyData.shown,wt];have:=CS l (by simpa[toPy,PyData.showable] using h);have:=CP<|PyData.shownKv<|bQ l
   lia
theorem mS:∀ (l:List D),PyData.showableAll (bq l)=ag->piled (PyData.shownAll<|bq l)<=dr l
 |[],_=>by erw[bq,PyData.shownAll,dr];show aB _
 | d::l,h=>by
   erw[bq,PyData.showableAll,aH]at h;have h1:=Ax d h.1;have h2:=mS l h.2;erw[bq,PyData.shownAll,dr,QA]
   lia
theorem CS:∀ (l:List<|Key×D),PyData.showableKv (bQ l)=ag->piled (PyData.shownKv<|bQ l)<=Hf l
 |[],_=>by erw[bQ,PyData.shownKv,Hf];show aB _
 | (k,d)::l,h=>by
   erw[bQ,PyData.showableKv,aH]at h;have h1:=Ax d h.1.2;have h2:=CS l h.2;have e1:((": ":String):Str).length=2:=rfl;have hk:(PyData.shown<|cE k).length<=aa7 k:=by
    cases k with
    |inl i=>show CQ (by simpa[cE,PyData.showable] using h.1.1)
    |inr x=>show aB _
   erw[bQ,PyData.shownKv,Hf,QA];rw[pC,pC]
   lia
end
mutual
noncomputable def ib (B:Nat):D->Bool
 |.int i=>decide (i.natAbs<=B)
 |.tup l=>kY B l
 |.lst l=>kY B l
 |.az l=>uT B l
 |_=>ag
noncomputable def kY (B:Nat):List D->Bool
 |[]=>ag
 |d::l=>ib B d&&kY B l
noncomputable def uT (B:Nat):List (Key×D)->Bool
 |[]=>ag
 |(k,d)::l=>(match k with|.inl i=>decide (i.natAbs<=B)|_=>ag)&&ib B d&&uT B l
end
theorem LP (hB:B<2 ^ 1900) {i:Int}(h:i.natAbs<=B):i.natAbs.log2<1920:=by
 by_cases h0:i.natAbs=0
 .rw[h0];decide
 .show(XJ h0).mpr (dM (vd h hB)<|Nat.pow_le_pow_right (by decide) (by decide))
mutual
theorem BO {B:Nat}(hB:B<2 ^ 1900):∀ (d:D),ib B d=ag->(toPy d).showable=ag
 |.non,_=>by simp[toPy,PyData.showable]
 |.bl b,_=>by simp[toPy,PyData.showable]
 | .int i,h=>by
   erw[toPy,PyData.showable,decide_eq_true_eq];show LP hB (by simpa[ib] using h)
 |.str x,_=>by simp[toPy,PyData.showable]
 | .tup l,h=>by
   erw[toPy,PyData.showable];show Ay hB l (by simpa[ib] using h)
 | .lst l,h=>by
   erw[toPy,PyData.showable];show Ay hB l (by simpa[ib] using h)
 | .az l,h=>by
   erw[toPy,PyData.showable];show CT hB l (by simpa[ib] using h)
theorem Ay {B:Nat}(hB:B<2 ^ 1900):∀ (l:List D),kY B l=ag->PyData.showableAll (bq l)=ag
 |[],_=>by simp[bq,PyData.showableAll]
 | d::l,h=>by
   erw[kY,aH]at h;erw[bq,PyData.showableAll,BO hB d h.1,Ay hB l h.2,HU]
theorem CT {B:Nat}(hB:B<2 ^ 1900):∀ (l:List<|Key×D),uT B l=ag->PyData.showableKv (bQ l)=ag
 |[],_=>by simp[bQ,PyData.showableKv]
 | (k,d)::l,h=>by
   erw[uT,aH]at h;have hk:(cE k).showable=ag:=by
    cases k with
    |inl i=>
      erw[cE,PyData.showable,decide_eq_true_eq];show LP hB (by simpa using h.1.1)
    |inr x=>simp[cE,PyData.showable]
   erw[bQ,PyData.showableKv,hk,BO hB d h.1.2,CT hB l h.2,HU]
end
mutual
theorem LQ {B B':Nat}(h:B<=B'):∀ (d:D),ib B d=ag->ib B' d=ag
 |.non,_=>by simp[ib]
 |.bl b,_=>by simp[ib]
 | .int i,q=>by
   erw[ib,decide_eq_true_eq]at q ⊢
   lia
 |.str x,_=>by simp[ib]
 | .tup l,q=>by
   erw[ib]at q ⊢;show BP h l q
 | .lst l,q=>by
   erw[ib]at q ⊢;show BP h l q
 | .az l,q=>by
   erw[ib]at q ⊢;show LR h l q
theorem BP {B B':Nat}(h:B<=B'):∀ (l:List D),kY B l=ag->kY B' l=ag
 |[],_=>by simp[kY]
 | d::l,q=>by
   erw[kY,aH]at q ⊢;show#[LQ h d q.1,BP h l q.2]
theorem LR {B B':Nat}(h:B<=B'):∀ (l:List<|Key×D),uT B l=ag->uT B' l=ag
 |[],_=>by simp[uT]
 | (k,d)::l,q=>by
   erw[uT,aH]at q ⊢;refine#[#[?_,LQ h d q.1.2],LR h l q.2];have:=q.1.1;cases k with
   |inl i=>erw[decide_eq_true_eq]at this ⊢;lia
   |inr x=>rfl
end
structure Sm (B a b:Nat) (d:D):zb where
 s:ib B d=ag
 e:(toPy d).depth<=a
 w:wt d<=b
structure bh (B a b:Nat) (l:List D):zb where
 s:kY B l=ag
 e:PyData.depthAll (bq l)<=a
 w:dr l<=b
theorem iV (h:Sm B a b d) (hB:B<2 ^ 1900) (ha:a<=60) (hb:b<=sizeLine):vO d=ag:=by
 have hs:=BO hB d h.s;have:=Ax d hs;have h1:=h.e;have h2:=h.w;unfold vO;rw[hs,decide_eq_true (by lia),decide_eq_true (by lia)];rfl
theorem Sm.mono (h:Sm B a b d) (ha:a<=a') (hb:b<=b'):Sm B a' b' d:=#[h.s,cu h.e ha,cu h.w hb]
theorem bh.mono (h:bh B a b l) (ha:a<=a') (hb:b<=b'):bh B a' b' l:=#[h.s,cu h.e ha,cu h.w hb]
theorem Sm.up (h:Sm B a b d) (q:B<=B'):Sm B' a b d:=#[LQ q d h.s,h.e,h.w]
theorem bh.up (h:bh B a b d) (q:B<=B'):bh B' a b d:=#[BP q d h.s,h.e,h.w]
theorem bh.nil:bh B a 0 []:=#[rfl,by simp[bq,PyData.depthAll],aB _]
theorem bh.cons {B a b c}{d}{l}(h:Sm B a b d) (t:bh B a c l):bh B a (b+2+c) (d::l):=
 #[by simp[kY,h.s,t.s],Nat.max_le.mpr #[h.e,t.e],by simp[dr];have:=h.w;have:=t.w;lia]
theorem Sm.tup {B a b}{l}(h:bh B a b l):Sm B (a+1) (3+b) (.tup l):=
 #[by simp[ib,h.s],by simp[toPy,PyData.depth];have:=h.e;lia,by simp[wt];have:=h.w;lia]
theorem Sm.lst {B a b}{l}(h:bh B a b l):Sm B (a+1) (3+b) (.lst l):=
 #[by simp[ib,h.s],by simp[toPy,PyData.depth];have:=h.e;lia,by simp[wt];have:=h.w;lia]
theorem Sm.int (h:i.natAbs<=B):Sm B a 1921 (.int i):=
 #[by simp[ib,h],by simp[toPy,PyData.depth],aB _]
theorem jG (l m):dr (l++m)=dr l+dr m:=by
 induction l with
 |nil=>simp[dr]
 |cons d l ih=>simp[vj,dr];lia
theorem bh.append:∀ {l m},bh B a b l->bh B a c m->bh B a (b+c) (l++m):=by
 intro l m h t;refine#[?_,?_,by rw[jG];have:=h.w;have:=t.w;lia]
 .have h1:=h.s;clear h;induction l with
  |nil=>show t.s
  |cons d l ih=>
    simp[kY,aH,vj]at h1 ⊢;show#[h1.1,ih h1.2]
 .have h1:=h.e;clear h;induction l with
  |nil=>show t.e
  |cons d l ih=>
    show Nat.max_le.mpr #[(Nat.max_le.mp h1).1,ih (Nat.max_le.mp h1).2]
theorem bh.left (h:bh B a b<|l++m):bh B a b l:=by
 refine#[?_,?_,by have:=h.w;rw[jG]at this;lia]
 .have h1:=h.s;clear h;induction l with
  |nil=>rfl
  |cons d l ih=>
    simp[kY,aH,vj]at h1 ⊢;show#[h1.1,ih h1.2]
 .have h1:=h.e;clear h;induction l with
  |nil=>show dA _
  |cons d l ih=>
    show Nat.max_le.mpr #[(Nat.max_le.mp h1).1,ih (Nat.max_le.mp h1).2]
theorem bh.right (h:bh B a b<|l++m):bh B a b m:=by
 refine#[?_,?_,by have:=h.w;rw[jG]at this;lia]
 .have h1:=h.s;clear h;induction l with
  |nil=>show h1
  |cons d l ih=>
    simp[kY,aH,vj]at h1;show ih h1.2
 .have h1:=h.e;clear h;induction l with
  |nil=>show h1
  |cons d l ih=>
    show ih (Nat.max_le.mp h1).2
theorem bh.take (n) (h:bh B a b l):bh B a b (l.take n):=bh.left (by rw[vn];show h)
theorem bh.drop (n) (h:bh B a b l):bh B a b (l.drop n):=bh.right (by rw[vn];show h)
theorem bh.cut (x y) (h:bh B a b l):bh B a b (cutD l x y):=bh.take _<|bh.drop _ h
theorem bh.mem (h:bh B a b l) (m:d∈l):Sm B a b d:=by
 let#[s,t,rfl]:=List.append_of_mem m;have h1:=h.right;have:=h1.w;have hs:=h1.s;have hd:=h1.e;simp[kY,aH]at hs;simp[dr]at this;show#[hs.1,(Nat.max_le.mp hd).1,by lia]
theorem Sm.afK (h:Sm B a b<|.tup l):1<=a /\ bh B (a-1) (b-3) l /\ 3<=b:=by
 have h1:=h.e;have h2:=h.w;simp[toPy,PyData.depth]at h1;simp[wt]at h2;show#[by lia,#[by have:=h.s;simpa[ib] using this,by lia,by lia],by lia]

theorem fj (h1:m env bx=.val w bx1) (h2:ks env bx1=.val l aq):fc m ks env bx=.val (w::l) aq:=by rw[FC,h1,fX,h2,fX]
theorem Oa:∀ {ds},nM bx (ds.map W.d)=ae ds:=by
 intro l_;induction l_ with
 |nil=>show rfl
 |cons d ds aA=>(rw[aQ,LH,aA];rfl)
theorem BQ:∀ {ds},pf (ds.map W.d)=ae ds:=by
 intro l_;induction l_ with
 |nil=>show rfl
 |cons d ds aA=>(rw[aQ,RV,aA];rfl)
theorem ie (ds) (h:ks env bx=.val (ds.map W.d) bx1) (hg:g ds=ae r):dN af g ks env bx=.val (.d r.toD) bx1:=by rw[N5,h,fX,Oa,bI,hg,iU]
theorem gM (ds) (h:ks env bx=.val (ds.map W.d) bx1) (hl:ds.length<=sizeLine):fL ks env bx=.val (.d<|.tup ds) bx1:=by rw[RU,h,fX,BQ,bI,if_pos hl,iU,N6]
theorem ig (ds) (h:ks env bx=.val (ds.map W.d) bx1) (hl:ds.length<=sizeLine):gj af ks env bx=.val (.d<|.lst ds) bx1:=by rw[LK,h,fX,BQ,bI,if_pos hl,iU,l9]
theorem DO (ds) (h:ks env bx=.val (ds.map W.d) bx1) (hl:ds.length<=sizeLine):gj ag ks env bx=.val (.b bx1.length) (bx1++[.lst ds]):=by rw[LK,h,fX,BQ,bI,if_pos hl];rfl
theorem fQ (h1:m env bx=.val (.d x) bx1) (h2:k env bx1=.val (.d y) aq) (hg:g x y=ae r):d2 af g m k env bx=.val (.d r.toD) aq:=by rw[G6,h1,fX,h2,fX,om,om,bI,bI,hg,iU]
theorem fM (h:ks env bx=.val l bx1) (hn:l.length=n) (hf:fn l bx1=.val w aq):fq fn n ks env bx=.val w aq:=by rw[FD,h,fX,if_pos hn,hf]
theorem fT (h:m env bx=.val (.d<|.bl b) bx1):dB m env bx=.val b bx1:=by rw[Ud,h,fX]
theorem fY (h:t env bx=.val b bx1):cC t env bx=.val (!b) bx1:=by rw[RS,h,fX]
theorem lF (h:t env bx=.val ag bx1):eO t s env bx=.val ag bx1:=by rw[Pn,h,fX]
theorem gL (h:t env bx=.val af bx1) (h2:s env bx1=.val b aq):eO t s env bx=.val b aq:=by rw[Pn,h,fX,h2]
theorem lN (h:t env bx=.val af bx1):qo t s env bx=.val af bx1:=by rw[LD,h,fX]
theorem jf (h:t env bx=.val ag bx1) (h2:s env bx1=.val b aq):qo t s env bx=.val b aq:=by rw[LD,h,fX,h2]
theorem oK (h:m env bx=.val (.d<|.bl b) bx1):gR m k env bx=if b then k env bx1 else .val (.d<|.bl af) bx1:=by rw[N4,h];cases b<;>rfl
theorem iP (h1:mi env bx=.val l bx1) (he:eA src env=e2) (h2:bu g tf te l e2 bx1 []=.val ds aq):gc af src mi g tf te env bx=.val (.d<|.lst ds) aq:=by
 subst he;rw[BM,h1,fX,h2,fX,iU,l9]
theorem FM {lo:DE _}(h1:m env bx=.val (.d x) bx1) (h2:lo env bx1=.val i aq) (h3:hi env aq=.val j b9) (hs:qr x i j=ae r):dX af m lo hi env bx=.val (.d r.toD) b9:=by
 rw[Tn,h1,fX,h2,fX,h3,fX,om,bI,hs,iU]
theorem oM (h:m env bx=.val (.d<|.int i) bx1):dH m env bx=.val (ae i) bx1:=by rw[N7,h,fX]
theorem iB (h:m env bx=.val (.d<|.lst ds) bx1):bP m env bx=.val (ds.map W.d) bx1:=by rw[FG,h,fX]
theorem i8 (h:m env bx=.val (.d<|.tup ds) bx1):bP m env bx=.val (ds.map W.d) bx1:=by rw[FG,h,fX]
theorem FN (h:m env bx=.val (.d d) bx1) (c:vO d=ag):vP m env bx=.val (.d<|.str (toPy d).shown) bx1:=by
 unfold vP;rw[h,fX];show if_pos c
theorem fE (h:a env bx=.nx ba bx1):fB a b env bx=b ba bx1:=by rw[mP,h]
theorem jH (h:a env bx=.rt w bx1):fB a b env bx=.rt w bx1:=by rw[mP,h]
theorem ik (h:m env bx=.val w bx1):fO m (ff i) env bx=.nx (env.set i<|ae w) bx1:=by rw[DM,h,iI,CK]
theorem gx (h:m env bx=.val w bx1):fJ m env bx=.rt w bx1:=by rw[LJ,h,iI]
theorem mT (h:m env bx=.val w bx1):gN m env bx=.nx env bx1:=by rw[FF,h,iI]
theorem jI (h:t env bx=.val ag bx1):aT t a b env bx=a env bx1:=by rw[Po,h,iI]
theorem gU (h:t env bx=.val af bx1):aT t a b env bx=b env bx1:=by rw[Po,h,iI]
theorem mf (h:mi env bx=.val l bx1):jT mi g body env bx=eu g body l env bx1:=by rw[RT,h,iI]
theorem BR (h1:g w env bx=ae (ba,bx1)) (h2:body ba bx1=.nx cD aq):eu g body (w::l) env bx=eu g body l cD aq:=by
 rw[eu,h1];simp[h2]
theorem mh (I:Nat->bt->List Bx->zb):∀ (l) (k) (env) (bx),I k env bx ->
 (∀ i w env bx,l[i]?=ae w->I (k+i) env bx->∃ ba bx1 cD aq,g w env bx=ae (ba,bx1) /\ body ba bx1=.nx cD aq /\ I (k+i+1) cD aq) ->
 ∃ aP bx',eu g body l env bx=.nx aP bx' /\ I (k+l.length) aP bx':=by
 intro l;induction l with
 |nil=>intro k env bx h _;show#[env,bx,rfl,h]
 |cons w l ih=>
   intro k env bx h st;let#[ba,bx1,cD,aq,e1,e2,h2]:=st 0 w env bx za h;let#[aP,bx',e3,h3]:=ih _ cD aq h2 λi x env bx e hi=>by
    have:=st (i+1) x env bx (by simpa using e) (by rw[show k+(i+1)=k+1+i by lia];show hi);rw[show k+(i+1)+1=k+1+i+1 by lia]at this;show this
   show#[aP,bx',by rw[BR e1 e2,e3],by rw[a6,show k+(l.length+1)=k+1+l.length by lia];show h3]

theorem qS (h:m env bx=.val w bx1) (k:b (env.set i<|ae w) bx1=o):fB (fO m<|ff i) b env bx=o:=(fE<|ik h).trans k
theorem qG (h:m env bx=.val w bx1) (hg:g w env bx1=ae (cD,aq)) (k:b cD aq=o):fB (fO m g) b env bx=o:=by
 rw[mP,DM,h,iI,hg];show k
theorem qF (h:t env bx=.val af bx1) (k:b env bx1=o):fB (aT t c a8) b env bx=o:=(fE<|(gU h)).trans k
theorem qR (h:t env bx=.val ag bx1) (k:m env bx1=.val w aq):fB (aT t (fJ m) a8) b env bx=.rt w aq:=jH<|(jI h).trans<|gx k
theorem qE (h:m env bx=.val w bx1) (k:b env bx1=o):fB (gN m) b env bx=o:=(fE<|mT h).trans k
theorem cV (hf:fn l bx1=.val w aq) (h:ks env bx=.val l bx1:=by rfl) (hn:l.length=n:=by rfl):fq fn n ks env bx=.val w aq:=fM h hn hf
theorem KO {α:Type}{e}{E:α->bt}{J:bt->zb} (p) (f) (hJ:∀ a,J<|E a):∀ (l:List α) (env:bt) (acc:List D),acc.length+l.length<=sizeLine->J env ->
 (∀ a∈l,∀ env,J env->g (.d<|e a) env B=ae (E a,B))->(∀ a∈l,tf (E a) B=.val (p a) B /\ (p a=ag->te (E a) B=.val (.d<|f a) B))->bu g tf te ((l.map e).map W.d) env B acc=.val (acc++(l.filter p).map f) B
 |[],_,_,_,_,_,_=>by simp[bu]
 | a::l,env,acc,n,j,hg,h=>by
   let#[h1,h2]:=h a<|bM ..;rw[a6]at n;have n':acc.length<sizeLine:=by lia
   have e0:=hg a (bM ..) env j;cases c:p a with
   |false=>
     rw[c]at h1;rw[wN (by simp[c]),<-(KO p f hJ l _ acc (by lia) (hJ a) (λx m=>hg x<|bC _ m) λx m=>h x<|bC _ m)];simp[aQ,bu,e0,h1,mO]
   |true=>
     rw[c]at h1;rw[wO c];erw[aQ,bu,e0,h1,h2 c,mO,if_pos n',(KO p f hJ l _ (acc++[f a]) (by simp;lia) (hJ a) (λx m=>hg x<|bC _ m) λx m=>h x<|bC _ m)];simp
end L2.DL
namespace aJ
open L2 L2.DL K1
open HT (aO a7 eB cA lexLt)
inductive Pg where
 |cy (h l k r p w:Int)|to (h l r:Int)|out (h l:Int)
noncomputable def bV:Pg->List aO
 |.cy h l k r p w=>[.i h,.s "in",.i l,.i k,.i r,.i p,.i w]
 |.to h l r=>[.i h,.s "to",.i l,.i r]
 |.out h l=>[.i h,.s "out",.i l]
def enc (g:Pg):D:=cU<|bV g
theorem BS (g):rowOf (enc g)=ae (bV g):=by cases g<;>rfl
theorem LS:∀ gs:List Pg,rowsOf (gs.map enc)=ae (gs.map bV):=by
 intro l_;induction l_ with
 |nil=>show rfl
 |cons g gs aA=>(simp[rowsOf,BS,aA])
theorem FO (h:bV a=bV b):a=b:=by
 cases a<;>cases b<;>simp[bV]at h<;>simp_all
theorem Ob (h:enc a=enc b):a=b:=by
 have:=BS a;rw[h,BS]at this;show(FO<|Option.some.inj this).symm
theorem ly (a b):eB (bV a) (bV b)=ag:=by cases a<;>cases b<;>rfl
theorem LU (gs:List Pg):tU (gs.map bV)=ag:=by
 erw[tU,cb,bc];rintro _ ⟨a,_,rfl⟩ _ ⟨b,_,rfl⟩;show ly a b
theorem LV (h:(g::gs).length<64):dF [.lst<|(g::gs).map enc]=ae (.lst<|(nP<|(g::gs).map bV).map cU):=by
 have e:tL [.lst<|(g::gs).map enc]=ah:=by cases g<;>rfl
 unfold dF;rw[e];erw[LS,bI,LU,aV,and_true,if_pos h]
abbrev V3 (gs:List Pg):zb:=gs.Pairwise λa b=>cA (bV a) (bV b)=ag
theorem RX (nd:gs.Nodup) (h:(gs.map bV).Pairwise λa b=>lexLt (a7 b) (a7 a)=af):V3 gs:=by
 rw[uh]at h;refine List.Pairwise.imp₂ (λ{a b} (x) (y)=>?_) h nd;rw[<-HT.lj _ _ (ly a b)];cases e:lexLt _ (a7 _) with
 |true=>rfl
 |false=>show absurd (FO<|code_inj (ly a b)<|HT.iQ _ _ e x) y
theorem RY (a b):kX (enc a) (enc b)=ae (.old<|.bl<|cA (bV a)<|bV b):=by
 have:∀ g,∃ l,enc g=.tup l /\ sH l=ae (bV g):=λg=>by cases g<;>show#[_,rfl,rfl]
 let#[l,e1,e3]:=this a;let#[m,f1,f3]:=this b;rw[e1,f1];unfold kX;simp[e3,f3,ly,if_true]
end aJ
namespace K1
open L2 L2.DL
theorem LW:∀ ns,intsOf (ns.map D.int)=ae ns:=by
 intro l_;induction l_ with
 |nil=>show rfl
 |cons n ns aA=>(rw[aQ,intsOf,aA];rfl)
theorem FP:∀ ns:List Int,vZ (ns.map D.int)=ag ↔ ns.Pairwise (λa b=>b<=a)
 |[]=>by simp[vZ]
 |[x]=>by simp[vZ]
 | x::y::l=>by
   have ih:=FP (y::l);erw[aQ]at ih ⊢;erw[vZ,aH,decide_eq_true_eq,ih];constructor
   .intro ⟨h,p⟩;refine List.pairwise_cons.mpr #[λz m=>?_,p];rcases a9.mp m with rfl|m
    .show h
    .show Int.le_trans ((List.pairwise_cons.mp p).1 z m) h
   .intro p;have q:=List.pairwise_cons.mp p;show#[q.1 y<|bM ..,q.2]
noncomputable def rC:D->Bool
 |.tup _=>ag
 |_=>af
theorem j9 (d):sr (pT d) "tuple"=rC d:=by cases d<;>rfl
theorem RZ (h:rC r=ag):∃ l,r=.tup l:=by
 cases r with
 |tup l=>show#[l,rfl]
 |_=>simp[rC]at h
noncomputable def pt (bx:List Bx) (n:Nat) (p:Int):List Bx:=bx.set n<|.lst [.int p]
theorem fN:(pt bx n p).length=bx.length:=qz ..
theorem R6 (h:n<bx.length):(pt bx n p)[n]?=ae (.lst [.int p]):=by simp[pt,h]
theorem jO (h:m (ws.map ae++List.replicate (n-ws.length) ah) bx=.rt (.d d) bx') (l:bx'.length<=bx.length):aN n (aU m) ws bx=.val (.d d) bx':=by
 simp[aN,aU,DL.envOf,h,pQ,pR,QM l]
theorem LX (h:n<bx.length) (p k) (hk:0<k) (uH:k<10 ^ 40):fk [.b n,.d<|.int k] (pt bx n p)=.val (.d<|.int<|p % k) (pt bx n<|p / k):=by
 refine jO ?_ (by rw[fN,fN];show aB _);have c:xF p k:=#[hk,uH];simp[Aq,bF,(R6 (p:=p) h),aF,bU,cT,sk,EA,hk,c,EF];rw[pt,pt,Yc]
theorem gO (h:n<bx.length) (p k) (hk:0<k) (uH:k<1073741824):fk [.b n,.d<|.int k] (pt bx n p)=.val (.d<|.int<|p % k) (pt bx n<|p / k):=LX h p k hk (by lia)
theorem i9 (h0:0<=i) (h1:i<l.length):∃ d,bU l i=ae d /\ d∈l:=by
 refine#[l[i.toNat],?_,yH (by lia)];simp[bU,cT,h0,h1]
def Dr (o:O W) (bx:List Bx) (n:Nat) (P:D->zb):zb:=∃ d p,o=.val (.d d) (pt bx n p) /\ P d
theorem jg (p:Int) (h:0<k):0<=p % k:=Int.emod_nonneg _ (by lia)
theorem jh (p:Int) (h:0<k):p % k<k:=Int.emod_lt_of_pos _ h
noncomputable def Hg:List D:=[.non,.bl ag,.bl af,.int<|-1,.int<|10 ^ 30,.str "",.str "a",.str "1",.tup [],.lst [],.az [],.lst [.tup []],.tup [.tup []],.tup [.int 0],.lst [.int 0],.az [(.inl 0,.int 1)],.tup [.bl ag,.bl ag]]
theorem oN:∀ d∈Hg,Sm (10 ^ 30) 2 3850 d:=by
 intro d m;have c:∀ x∈Hg,(ib (10 ^ 30) x&&decide ((toPy x).depth<=2)&&decide (wt x<=3850))=ag:=by
  decide +kernel
 have:=c d m;simp[aH,decide_eq_true_eq]at this;show#[this.1.1,this.1.2,this.2]
theorem Az (h:n<bx.length) (p):Dr (fS [.b n]<|pt bx n p) bx n (λd=>d∈Hg):=by
 let#[d,e,m]:=i9 (l:=Hg) (jg p (k:=17) (by decide)) (by change _<(17);show(jh p (k:=17) (by decide)));refine#[d,p / 17,jO ?_ (by rw[fN,fN];show aB _),m];have t:=gO h p 17 (by decide) (by decide);have c:xk 10 30:=by decide
 have afL:(17)<=sizeLine:=by decide
 have s0:(1)<=sizeLine:=by decide
 have s2:(2)<=sizeLine:=by decide
 unfold Be;generalize fk=ft at t ⊢;unfold Hg at e;simp[sq,c,dY,aS,t,aF,afL,s0,s2]at e ⊢;simp[e]
theorem R7 (l) (i:Nat) (h:i<=l.length):DL.cutD l ah (ae<|i)=l.take i:=by
 unfold DL.cutD;rw[HT.oC,HT.Cd,X1,wI h,HR]
theorem AA (l) (i:Nat) (h:i<=l.length):DL.cutD l (ae<|i) ah=l.drop i:=by
 unfold DL.cutD;rw[HT.oC,HT.Cd,wI h];show QM (by rw[pG];show aB _)
theorem R8 (l) (i:Nat) (h):DL.cutD l (ae<|i) (ae<|(i)+1)=[l[i]]:=by
 unfold DL.cutD;rw[show (i)+1=((i+1:Nat):Int) by lia,HT.oC,HT.oC,wI (by lia),wI (by lia),QD,QP h];rfl
theorem LY (l:List α) (i) (h:i<l.length):bU l (i)=ae l[i]:=by
 simp[bU,cT,h]
theorem Oc:∀ l,l.length<=dr l:=by
 intro l_;induction l_ with
 |nil=>show aB _
 |cons d l aA=>(simp[a6,dr];lia)
theorem LZ (rec) (h:n<bx.length) (d) (hd:rC d=af) (p) (hB:10 ^ 30<=B) (s:Sm B a b d) :
 Dr (aN 4 (aU<|gG rec) [.b n,.d d]<|pt bx n p) bx n (λd'=>Sm (B+10 ^ 4) (a+2) (2*b+4000) d'):=by
 have t3:=gO h p 3 (by decide) (by decide);have t6:=gO h (p / 3) 6 (by decide) (by decide);have lo:=jg (p / 3) (k:=6) (by decide);have hi:=jh (p / 3) (k:=6) (by decide);have w:=mQ d<|pt bx n p;have fin:∀ q,Dr (fS [.b n]<|pt bx n q) bx n (λd'=>Sm (B+10 ^ 4) (a+2) (2*b+4000) d'):=λq=>by
  let#[o,q',e,m]:=Az h q;show#[o,q',e,((oN o m).up (by lia)).mono (by lia) (by lia)]
 cases hw:wh d with
 |false=>
   let#[o,q',e,m]:=fin p;refine#[o,q',jO ?_ (by rw[fN,fN];show aB _),m];rw[hw]at w;unfold gG;generalize fS=fo at e ⊢;generalize gD=fw at w ⊢;simp[j9,hd,w,e]
 |true=>
   rw[hw]at w;by_cases g:0<p % 3
   .obtain⟨x,rfl⟩:∃ x,d=.int x:=by
     cases d<;>simp[wh]at hw;show#[_,rfl]
    let#[y,e,m]:=i9 (l:=[D.int 1,.int<|-1,.int 9,.int 100,.int 9999,.int<|-10000]) lo (by change _<(6);show hi);obtain⟨y,rfl,hy⟩:∃ i:Int,y=.int i /\ i.natAbs<=10 ^ 4:=by
     simp at m;rcases m with rfl|rfl|rfl|rfl|rfl|rfl<;>show#[_,rfl,by decide]
    have hx:x.natAbs<=B:=by have:=s.s;simpa[ib] using this
    refine#[.int<|x+y,p / 3 / 6,jO ?_ (by rw[fN,fN];show aB _),(Sm.int (a:=0) (by lia)).mono (by lia) (by lia)];have c:xk 10 4:=by decide
    have s6:(6)<=sizeLine:=by decide
    unfold gG;generalize fS=fo at fin ⊢;generalize gD=fw at w ⊢;generalize fk=ft at t3 t6 ⊢;simp[j9,rC,w,t3,ph,g,t6,sq,c,s6,aF,e,fP]
   .let#[o,q',e,m]:=fin<|p / 3;refine#[o,q',jO ?_ (by rw[fN,fN];show aB _),m];unfold gG;generalize fS=fo at e ⊢;generalize gD=fw at w ⊢;generalize fk=ft at t3 ⊢;simp[j9,hd,w,e,t3,ph,g]
theorem FQ (h:n<bx.length):∀ (i) (d) (p) (B a b),10 ^ 30<=B->Sm B a b d->a<i->b<=1000000 ->
 Dr (gJ i [.b n,.d d]<|pt bx n p) bx n (λd'=>Sm (B+10 ^ 4) (a+2) (2*b+4000) d'):=by
 intro l_;induction l_ with
 |zero=>(intro d p B a b _ _ z _;lia)
 |succ i aA=>
   intro d p B a b hB s hi hb;change Dr (aN 4 (aU<|gG<|gJ i) [.b n,.d d]<|pt bx n p) bx n _;cases ht:rC d with
   |false=>show LZ _ h d ht p hB s
   |true=>
     let#[l,rfl]:=RZ ht;let#[a1,sl,b3]:=s.afK;have k9:=sl.up (B':=B+10 ^ 4) (by lia);have ln:=Oc l;have lw:=sl.w;have sz:=bB;have ih:=λc (m:c∈l) (q:Int)=>aA c q B (a-1) (wt c) hB (let z:=sl.mem m;#[z.s,z.e,aB _]) (by lia) (by have:=(sl.mem m).w;lia);have tY:=gO h p 12 (by decide) (by decide);by_cases g:p % 12=0 \/ l=[]
     .let#[o1,q1,e1,m1]:=Az h<|p / 12;let#[o2,q2,e2,m2]:=Az h q1;have t4:=gO h q2 4 (by decide) (by decide);have lo:=jg q2 (k:=4) (by decide);have afM:=jh q2 (k:=4) (by decide);have s1:=((oN o1 m1).up (B':=B+10 ^ 4) (by lia));have s2:=((oN o2 m2).up (B':=B+10 ^ 4) (by lia));have cl:(DL.cutD l (ae<|-1) ah).length<=l.length:=by
       unfold DL.cutD;rw[pF,pG]
       lia
      let#[y,e,m]:=i9 (l:=[o1,.lst l,.tup<|l++[o2],.tup<|l++DL.cutD l (ae<|-1) ah]) lo (by change _<(4:Int);show afM);refine#[y,q2 / 4,jO ?_ (by rw[fN,fN];show aB _),?_]
      .have t:(p % 12=0) \/ (l.isEmpty=ag):=by
        rcases g with g|g
        .show .inl g
        .show .inr (by rw[g];rfl)
       have z1:l.length+1<=sizeLine:=by lia
       have z2:l.length+(DL.cutD l (ae<|-1) ah).length<=sizeLine:=by lia
       have z4:(4:Nat)<=sizeLine:=by lia
       have z0:(1:Nat)<=sizeLine:=by lia
       unfold gG;generalize fS=fo at e1 e2 ⊢;generalize fk=ft at tY t4 ⊢;by_cases g0:p % 12=0
       .simp[j9,rC,tY,aZ,g0,e1,e2,qU,fP,qr,z1,z2,z4,z0,t4,aF,e]
       .have g1:l.isEmpty=ag:=by
         rcases t with t|t
         .show absurd t g0
         .show t
        simp[j9,rC,tY,aZ,g0,g1,e1,e2,qU,fP,qr,z1,z2,z4,z0,t4,aF,e]
      .simp at m;rcases m with rfl|rfl|rfl|rfl
       .show s1.mono (by lia) (by lia)
       .show(Sm.lst k9).mono (by lia) (by lia)
       .show(Sm.tup (a:=a+1)<|(k9.mono (by lia)<|aB _).append<|bh.cons (s2.mono (by lia)<|aB _) bh.nil).mono (by lia) (by lia)
       .show(Sm.tup<|k9.append<|k9.cut _ _).mono (by lia) (by lia)
     .have g0:¬ p % 12=0:=λz=>g<|.inl z;have g1:l≠[]:=λz=>g<|.inr z;have V4:l.isEmpty=af:=by cases l<;>simp at g1 ⊢
      have lp:0<l.length:=List.length_pos_iff.mpr g1;have tl:=gO h (p / 12) (l.length:Int) (by lia) (by lia);have lo:=jg (p / 12) (k:=(l.length:Int)) (by lia);have afN:=jh (p / 12) (k:=(l.length:Int)) (by lia);let#[j,ej]:=Io lo;rw[ej]at tl afN;have hj:j<l.length:=by lia
      have w3:dr l=dr (l.take j)+(wt l[j]+2+dr (l.drop<|j+1)):=by
       have e:l.take j++l[j]::l.drop (j+1)=l:=by
        rw[<-QP hj,vn]
       have e2:=congrArg dr e;rw[jG]at e2;erw[dr]at e2
       lia
      have st:bh (B+10 ^ 4) (a-1) (dr<|l.take j) (l.take j):=#[(k9.take j).s,(k9.take j).e,aB _];have sd:bh (B+10 ^ 4) (a-1) (dr<|l.drop<|j+1) (l.drop<|j+1):=#[(k9.drop<|j+1).s,(k9.drop<|j+1).e,aB _];have c1:=R7 l j (by lia);have c2:=AA l (j+1) (by lia);rw[show ((j+1:Nat):Int)=(j:Int)+1 by lia]at c2;have c3:=R8 l j hj;have c4:=AA l j (by lia);have aj:=LY l j hj;have n1:(l.take j).length=j:=by rw[pF];lia
      have n2:(l.drop<|j+1).length=l.length-(j+1):=pG ..;have n3:(l.drop j).length=l.length-j:=pG ..;have y1:j+(l.length-(j+1))<=sizeLine:=by lia
      have y2:j+1<=sizeLine:=by lia
      have y3:j+1+(l.length-j)<=sizeLine:=by lia
      have y4:j+1+(l.length-(j+1))<=sizeLine:=by lia
      have y5:(1:Nat)<=sizeLine:=by lia
      have y6:min (j+1) l.length+(l.length-j)<=sizeLine:=by lia
      have mj:l[j]∈l:=yH hj;have sj:Sm (B+10 ^ 4) (a-1) (wt l[j]) l[j]:=let z:=k9.mem mj;#[z.s,z.e,aB _]
      let#[o1,q1,e1,m1]:=ih l[j] mj<|p / 12 / (l.length:Int);by_cases k1:p % 12=1
      .refine#[.tup<|l.take j++l.drop (j+1),p / 12 / (l.length:Int),jO ?_ (by rw[fN,fN];show aB _),(Sm.tup<|st.append sd).mono (by lia) (by lia)];unfold gG;generalize fS=fo;generalize fk=ft at tY tl ⊢;simp[j9,rC,tY,aZ,g0,V4,aS,tl,k1,qr,c1,c2,fP,n1,n2,y1]
      .by_cases k2:p % 12=2
       .refine#[.tup<|l.take j++[l[j]]++l.drop j,p / 12 / (l.length:Int),jO ?_ (by rw[fN,fN];show aB _),?_]
        .unfold gG;generalize fS=fo;generalize fk=ft at tY tl ⊢;simp[j9,rC,tY,aZ,g0,V4,aS,tl,k1,k2,qr,c1,c3,c4,fP,n1,n3,y2,y3,y6]
        .rw[QP hj];show(Sm.tup<|(st.append<|bh.cons sj bh.nil).append<|bh.cons sj sd).mono (by lia) (by lia)
       .refine#[.tup<|l.take j++[o1]++l.drop (j+1),q1,jO ?_ (by rw[fN,fN];show aB _),?_]
        .unfold gG;generalize fS=fo;generalize fk=ft at tY tl ⊢;generalize gJ i=fb at e1 ⊢;simp[j9,rC,tY,aZ,g0,V4,aS,tl,k1,k2,qr,c1,c2,fP,n1,n2,y2,y4,y5,aF,aj,e1]
        .show(Sm.tup (a:=a+1)<|((st.mono (by lia)<|aB _).append<|bh.cons (m1.mono (by lia)<|aB _) bh.nil).append<|sd.mono (by lia)<|aB _).mono (by lia) (by lia)
theorem FR (J:bt->zb) (P):∀ (l) (env) (p) (acc),J env ->
 (∀ w∈l,∀ env p,J env->∃ aP,g w env (pt bx n p)=ae (aP,pt bx n p) /\ J aP /\ Dr (te aP<|pt bx n p) bx n P)->acc.length+l.length<=sizeLine ->
 ∃ ds p',bu g ge te l env (pt bx n p) acc=.val (acc++ds) (pt bx n p') /\ ds.length=l.length /\ ∀ d∈ds,P d:=by
 intro l_;induction l_ with
 |nil=>show λenv p acc _ _ _=>#[[],p,by simp[bu],rfl,λd m=>by cases m]
 |cons w l aA=>
   intro env p acc j h z;let#[aP,e1,j',d,q,e2,hd]:=h w (bM ..) env p j;have z':acc.length<sizeLine:=by erw[a6]at z;lia
   let#[ds,p',e3,e4,e5]:=aA aP q (acc++[d]) j' (λx m=>h x<|bC _ m) (by erw[bG,a6,nW]at z ⊢;lia);refine#[d::ds,p',?_,by simp[e4],λx m=>?_]
   .erw[bu,e1,oJ,mO,e2,if_pos z',e3];simp
   .rcases a9.mp m with rfl|m
    .show hd
    .show e5 x m
theorem L3 (J:bt->zb) (f):∀ (l) (env) (p) (acc),J env ->
 (∀ w∈l,∀ env p,J env->∃ aP b q,g w env (pt bx n p)=ae (aP,pt bx n p) /\ J aP /\ tf aP (pt bx n p)=.val b (pt bx n q) /\ te aP (pt bx n q)=.val (.d<|f w) (pt bx n q))->acc.length+l.length<=sizeLine ->
 ∃ l' p',bu g tf te l env (pt bx n p) acc=.val (acc++l'.map f) (pt bx n p') /\ List.Sublist l' l:=by
 intro l_;induction l_ with
 |nil=>show λenv p acc _ _ _=>#[[],p,by simp[bu],.slnil]
 |cons w l aA=>
   intro env p acc j h z;let#[aP,b,q,e1,j',e2,e3]:=h w (bM ..) env p j;have z':acc.length<sizeLine:=by erw[a6]at z;lia
   cases b with
   |false=>
     let#[ds,p',e4,e5]:=aA aP q acc j' (λx m=>h x<|bC _ m) (by erw[a6]at z;lia);show#[ds,p',by erw[bu,e1,e2,mO,e4],.cons _ e5]
   |true=>
     let#[ds,p',e4,e5]:=aA aP q (acc++[f w]) j' (λx m=>h x<|bC _ m) (by erw[bG,a6,nW]at z ⊢;lia);refine#[w::ds,p',?_,.cons_cons _ e5];erw[bu,e1,e2,mO,e3,if_pos z',e4];simp
def digit (d:D):zb:=∃ i,d=.int i /\ 0<=i /\ i<=9
theorem G8:∀ {l},(∀ d∈l,digit d)->∃ ns:List Int,l=ns.map D.int /\ ∀ i∈ns,0<=i /\ i<=9:=by
 intro l_;induction l_ with
 |nil=>show λ_=>#[[],rfl,λ_ m=>by cases m]
 |cons d l aA=>
   intro h;let#[i,rfl,h1]:=h d<|bM ..;let#[ns,rfl,h2]:=aA λx m=>h x<|bC _ m;show#[i::ns,rfl,λx m=>by
    rcases a9.mp m with rfl|m
    .show h1
    .show h2 x m]
theorem L4 (h4:ns.length=4) (h:∀ i∈ns,0<=i /\ i<=9):He (.tup ((sortI ns).map D.int).reverse)=ag:=by
 have l4:(sortI ns).length=4:=by rw[(ju ns).length_eq,h4]
 rw[<-List.map_reverse];have a1:tl (.tup<|(sortI ns).reverse.map D.int) 4 4=ag:=by simp[tl,l4]
 have a2:(((sortI ns).reverse.map D.int).all λx=>wi x 0 9)=ag:=by
  rw[wR,cb];intro i m;have:=h i<|(ju ns).mem_iff.mp<|List.mem_reverse.mp m;simp[wi,this.1,this.2]
 erw[He,a1,a2,((FP _).mpr<|List.pairwise_reverse.mpr<|lY ns),HU]
theorem Oe (h:n<bx.length) (p):Dr (g9 [.b n]<|pt bx n p) bx n (λd=>kind d=ag):=by
 have t4:=gO h p 4 (by decide) (by decide);let#[y,e,m]:=i9 (l:=[D.int 9,.int 3,.int 1,.int 9]) (jg p (k:=4) (by decide)) (by change _<(4);show jh p (by decide));obtain⟨top,rfl,h0,h9⟩:∃ i:Int,y=.int i /\ 0<=i /\ i<=9:=by
  simp at m;rcases m with rfl|rfl|rfl|rfl<;>show#[_,rfl,by decide,by decide]
 have z4:(4)<=sizeLine:=by decide
 let#[ds,q,e1,e2,e3]:=FR (g:=ff 0) (te:=fq fk 2<|fc (dV 1)<|fc (d2 af fP (dV 2)<|dC<|.int 1) fe) (λe=>∃ w,e=[w,xB n,xN top]) digit (bx:=bx) (n:=n) (f9 0 4) [ah,xB n,xN top] (p / 4) [] #[ah,rfl] (by
  intro w _ env p ⟨w0,je⟩;show#[[ae w,xB n,xN top],by simp[je],#[_,rfl],(#[.int<|p % (top+1),p / (top+1),by simp[fP,(gO h p (top+1) (by lia) (by lia))],_,rfl,jg _ (by lia),by have:=jh p (k:=top+1) (by lia);lia])]) (by
  simp;show z4)
 let#[ns,rfl,cB]:=G8 e3;have n4:ns.length=4:=by
  rw[aV]at e2;rw[e2];simp[f9]
 have so:dF [.lst<|ns.map D.int]=ae (.lst<|(sortI ns).map D.int):=by simp[dF,tL,LW,n4]
 have aa8:=gO h q 20 (by decide) (by decide);have tx:=gO h (q / 20) 4 (by decide) (by decide);have b0:=jg q (k:=20) (by decide);have b1:=jh q (k:=20) (by decide);let#[y,ey,my]:=i9 (l:=[D.int 30,.int<|1+q % 20,.int 999,.int 8]) (jg (q / 20) (k:=4) (by decide)) (by change _<(4:Int);show jh _ (by decide));have hy:wi y 1 999=ag:=by
  simp at my;rcases my with rfl|rfl|rfl|rfl
  .rfl
  .simp[wi];lia
  .rfl
  .rfl
 refine#[.tup [y,.tup ((sortI ns).map D.int).reverse],q / 20 / 4,jO ?_ (by rw[fN,fN];show aB _),by simp[kind,tl,hy,(L4 n4 cB)]];have rg:∀ env bx,eP (fc (dC<|.int 4) fe) env bx=.val (f9 0 4) bx:=λenv bx=>Aw (j:=4) (bx1:=bx) (by simp) (by decide);have z2:(2:Nat)<=sizeLine:=by decide
 unfold lC;generalize fk=ft at t4 aa8 tx e1 ⊢;erw[vo]at e1;simp[z4,z2,t4,aF,e,rg,e1,so,aa8,tx,fP,ey,qp]
noncomputable def KR:List HT.aO->Int×Int
 |[.i a,.i b]=>(a,b)
 |_=>(0,0)
theorem DP:∀ ps:List _,rowsOf (ps.map dP)=ae (ps.map rP):=by
 intro l_;induction l_ with
 |nil=>show rfl
 |cons p ps aA=>(simp[rowsOf,rowOf,sH,Kt,aA,rP])
theorem Of (ps) (h:ps.length<64):∃ qs:List (Int×Int),qs.Perm ps /\ qs.Pairwise (λa b=>p8 b a=af) /\ dF [.lst<|ps.map dP]=ae (.lst<|qs.map dP):=by
 cases ps with
 |nil=>show#[[],.refl _,.nil,by simp[dF,tL,intsOf,sortI]]
 |cons p ps=>
   have pe:=iY<|(p::ps).map rP;have e:(nP<|(p::ps).map rP).map (rP∘KR)=nP ((p::ps).map rP):=by
    conv=>rhs;rw[<-Yd (nP _)]
    refine vm λx m=>?_;let#[p,_,rfl]:=bc.mp<|pe.mem_iff.mp m;rfl
   refine#[(nP<|(p::ps).map rP).map KR,?_,?_,?_]
   .have:=pe.map KR;rw[cw]at this
    rwa [show (KR∘rP)=id from rfl,Yd]at this
   .have so:=jb<|(p::ps).map rP;rw[<-e,<-cw]at so;show(uh.mp so).imp λ{a b} h=>h
   .change ((rowsOf _).bind λrs=>if rs.length<64 /\ tU rs=ag then ae _ else ah)=_;rw[DP,bI,if_pos #[by rw[aV];show h,by erw[tU,cb,bc];rintro _ ⟨a,_,rfl⟩ _ ⟨b,_,rfl⟩;rfl],cw]
    conv=>lhs;rw[<-e]
    rw[cw];rfl
theorem Tq (h:p8 q p=af) (n:p≠q):p8 p q=ag:=by
 cases e:p8 p q with
 |true=>rfl
 |false=>
   have:=HT.iQ _ _ e h;simp[List.cons.injEq,and_true]at this;show absurd (Prod.ext this.1 this.2) n
theorem FS:∀ {qs},qs.Pairwise (λa b=>p8 b a=af)->qs.Nodup->incr qs=ag
 |[],_,_=>rfl
 |[p],_,_=>rfl
 | p::q::r,h,n=>by
   have h1:=List.pairwise_cons.mp h;have n1:=rO.mp n;simp[incr,aH];show#[Tq (h1.1 q<|bM ..) λe=>n1.1 (by rw[e];show bM ..),FS h1.2 n1.2]
structure Hh (k:Nat) (ps:List<|Int×Int):zb where
 nd:ps.Nodup
 b:∀ p∈ps,0<=p.1 /\ p.1<p.2 /\ p.2<(k:Int)
 l:ps.length<=4*k
theorem Hh.more {is:List Nat}(s:Hh k ps) (s1:is.Sublist<|List.range k) (hk:k<=4):Hh (k+1) (ps++is.map λ(i:Nat)=>((i:Int),(k:Int))):=by
 have li:is.length<=k:=by have:=s1.length_le;simpa using this
 refine#[sW.mpr #[s.nd,(uh.mpr<|(s1.nodup X7).imp λ{a b} h e=>h (by have z:=congrArg Prod.fst e;lia)),?_],?_,?_]
 .intro a ma b mb e;subst e;let#[i,_,rfl]:=bc.mp mb;have:=(s.b _ ma).2.2;simp at this
 .intro a ma;rcases dZ.mp ma with m|m
  .have:=s.b a m
   lia
  .let#[i,mi,rfl]:=bc.mp m;have:=List.mem_range.mp (s1.subset mi)
   lia
 .have:=s.l;simp
  lia
theorem BU (e:m env bx=.val [.d<|.int<|k] bx) (hk:k<=1000000):eP m env bx=.val (f9 0 k) bx:=by
 rw[Aw e (by lia),vq]
theorem Og (h:n<bx.length) (p) (x1 x2 x3 x4):∃ (d:D) (q:Int),wi d 1 9=ag /\
 d2 af aF (gj af<|fc (dC<|.int 1)<|fc (dC<|.int 2)<|fc (dC<|.int 9)<|fc (d2 af fP (dC<|.int 1)<|fq fk 2<|fc (dV 0)<|fc (dC<|.int 9) fe) fe) (fq fk 2<|fc (dV 0)<|fc (dC<|.int 4) fe) [xB n,x1,x2,x3,x4] (pt bx n p)=.val (.d d) (pt bx n q):=by
 let#[y,ey,my]:=i9 (l:=[D.int 1,.int 2,.int 9,.int<|1+p % 9]) (jg (p / 9) (k:=4) (by decide))<|jh _ (by decide);have z4:(4)<=sizeLine:=by decide
 refine#[y,p / 9 / 4,?_,?_]
 .simp at my;rcases my with rfl|rfl|rfl|rfl
  .rfl
  .rfl
  .rfl
  .simp[wi];lia
 .simp[(gO h p 9 (by decide) (by decide)),fP,z4,(gO h _ 4 (by decide) (by decide)),aF,ey]
theorem Oh (h:(kY B l&&decide (PyData.depthAll (bq l)<=a)&&decide (dr l<=b))=ag):bh B a b l:=by
 simp[aH,decide_eq_true_eq]at h;show#[h.1.1,h.1.2,h.2]

theorem FT (h1:m env bx=.val (.b i) bx1) (afO:bx1[i]?=ae (.lst l0)) (h2:k env bx1=.val (.d d) aq) (hb:aq[i]?=ae (.lst l)) (hl:l.length<sizeLine):tM m k env bx=.val (.d .non) (aq.set i<|.lst<|l++[d]):=by
 unfold tM;rw[h1,fX];simp[afO,h2,fX,hb,if_pos hl]

theorem BV (l) (x y):(DL.cutD l x y).length<=l.length:=by
 unfold DL.cutD;rw[pF,pG]
 lia
theorem lc (h:m (ws.map ae++List.replicate (n-ws.length) ah) bx=.rt (.d d) bx'):aN n (aU m) ws bx=.val (.d d) (bx'.take bx.length):=by
 simp[aN,aU,DL.envOf,h,pQ,pR]
theorem Tr (h:env[k]?=ae (xB i)) (hb:bx[i]?=ae (.lst l)):tQ k env bx=.val (.d<|.lst l) (bx.set i .dead):=by
 unfold tQ;simp[h,hb]
theorem R9 (l) (k:Nat) (bx):∃ c,g6 [.s l,.d<|.int<|k] bx=.val (.d<|.int c) bx:=by
 by_cases h:k<l.length
 .refine#[l[k],gi ?_];have h':(k)<(l.length):=by lia
  simp[jc,uF,kX,h',EG,(LY l k h)]
 .refine#[0,gi ?_];have h':¬ (k)<(l.length):=by lia
  simp[jc,uF,kX,h']
theorem L5 (h1:-(2 ^ 64)<i) (h2:i<2 ^ 64):pV (.int i) (.int j)=ae (.old<|.int<|i*j):=if_pos<|.inl #[h1,h2]
theorem Pp (h1:-(2 ^ 64)<j) (h2:j<2 ^ 64):pV (.int i) (.int j)=ae (.old<|.int<|i*j):=if_pos<|.inr #[h1,h2]
theorem L6 (h1:0<j):sk (.int i) (.int j)=ae (.old<|.int<|i % j):=if_pos h1
theorem Pq (h1:xk i j):sq (.int i) (.int j)=ae (.old<|.int<|i ^ j.toNat):=if_pos h1
theorem G9 (c x j) (w) (bx):∃ x' y,VZ [xN c,xN x,xN j,w] bx=.nx [xN c,xN x',xN j,xN y] bx:=by
 let a:=(c % 2147483629+7919*j+1)*48271 % 2147483647
 let b:=(a*a+69621*j+7) % 2147483587
 have e1:fO (d2 af sk (d2 af pV (d2 af fP (d2 af fP (d2 af sk (dV 0)<|dC _)<|d2 af pV (dC _)<|dV 2)<|dC<|.int 1)<|dC _)<|dC _) (ff 3) [ae _,ae _,ae _,w] bx=.nx [ae _,xN x,xN j,xN a] bx:=
  ik (fQ (fQ (fQ (r:=.old _) (fQ (fQ za za<|L6 (by decide)) (fQ za za<|L5 (by decide) (by decide)) za) za za) za<|Pp (by decide) (by decide)) za<|L6 (by decide))
 have e2:fO (d2 af sk (d2 af fP (d2 af fP (d2 af pV (dV 3)<|dV 3)<|d2 af pV (dC<|.int 69621)<|dV 2)<|dC<|.int 7)<|dC<|.int 2147483587) (ff 3) [xN c,xN x,xN j,xN a] bx=.nx [xN c,xN x,xN j,xN b] bx:=
  ik (fQ (fQ (r:=.old _) (fQ (fQ za za<|L5 (by lia) (by lia)) (fQ za za<|L5 (by decide) (by decide)) za) za za) za<|L6 (by decide))
 have e3:fO (d2 af fP (d2 af pV (dV 1)<|dC<|.int 2147483587)<|dV 3) (ff 1) [xN c,xN x,xN j,xN b] bx=.nx [xN c,xN<|x*2147483587+b,xN j,xN b] bx:=
  ik (fQ (r:=.old _) (fQ za za<|Pp (by decide) (by decide)) za za)
 show#[_,_,by unfold VZ;rw[fE e1,fE e2,e3]]
theorem L7 (h:m (ws.map ae++List.replicate (n-ws.length) ah) bx=.rt (.b i) bx'):aN n (aU m) ws bx=.val (.b i) bx':=by
 simp[aN,aU,DL.envOf,h,pQ,pR]
theorem Ts (c) (bx):∃ p,jC [.d<|.int c] bx=.val (.b bx.length) (bx++[.lst [.int p]]):=by
 have sz:=bB;have aa9:∀ e b,d2 af sq (dC _) (dC<|.int 18) e b=.val (.d<|.int<|10 ^ 18) b:=λe b=>fQ (r:=.old _) za za<|Pq (by decide);have t:dB (d2 af uE (dV 0) _) [xN c,ah,ah,ah] bx=.val (decide (10 ^ 18<=c)) bx:=fT<|fQ (r:=.old _) za (aa9 _ _) za;by_cases h:10 ^ 18<=c
 .rw[decide_eq_true h]at t;refine#[c-10 ^ 18,L7 ?_];change jl [xN c,ah,ah,ah] bx=_;unfold jl;refine(jH<|(jI t).trans<|gx<|DO [.int<|c-10 ^ 18] (fj (fQ (r:=.old _) za (aa9 _ _) za) za) (show (1)<=sizeLine by lia))
 .rw[decide_eq_false h]at t;have rg:=BU (env:=[xN c,xN 0,ah,ah]) (bx:=bx) (m:=fc (dC<|.int 64) fe) za (by decide);let#[aP,bx',e,x,w2,w3,rfl,rfl]:=mh (g:=ff 2) (λ_ env b=>∃ (x:Int) (w2 w3:Option W),env=[xN c,xN x,w2,w3] /\ b=bx) (f9 0 64) 0 [xN c,xN 0,ah,ah] bx #[0,ah,ah,rfl,rfl] (by
   rintro i w env b hw ⟨x,w2,w3,rfl,rfl⟩;let#[j,_,rfl]:=bc.mp<|eD hw;let#[x',y,e]:=G9 c x (0+(j)) w3 b;show#[_,_,_,_,rfl,e,x',_,_,rfl,rfl])
  refine#[x,L7 ?_];change jl [xN c,ah,ah,ah] bx'=_;unfold jl;show(fE<|gU t).trans ((fE<|ik za).trans<|(fE<|(mf rg).trans e).trans<|gx<|DO [.int x] za (show (1)<=sizeLine by lia))
theorem Oi (x):cQ (.str x) (.str x)=ae (.old<|.bl af):=by simp[cQ]
end K1
namespace K2
open L2 L2.DL K1
noncomputable def hr (d:D):Bool:=match d with
 |.int i=>decide (0<=i)
 |_=>af
theorem FU (d) (bx):iS [.d d] bx=.val (.d<|.bl<|hr d) bx:=
 gi (by cases d<;>simp[Bf,CL,wh,uE,hr])
theorem L8 (d) (bx):ia [.d d] bx=.val (.d<|.bl<|hr d) bx:=
 gi (by cases d<;>simp[lD,mQ,wh,uE,hr])
theorem Sa (h:hr d=ag):∃ i,d=.int i /\ 0<=i:=by
 cases d<;>simp[hr]at h;show#[_,rfl,h]
end K2
namespace L2.DL

theorem oO (h:ks env bx=.val l bx1) (hn:l.length=n) (hf:fn l bx1=.exc c aq):fq fn n ks env bx=.exc c aq:=by rw[FD,h,fX,if_pos hn,hf]
theorem AB (h:m env bx=.exc c bx1):gN m env bx=.exc c bx1:=by rw[FF,h];rfl
theorem FV (h:a env bx=.exc c bx1):fB a b env bx=.exc c bx1:=by rw[mP,h]
theorem BW (h:m env bx=.val w bx1):sI c m env bx=.exc c bx1:=by unfold sI;rw[h];rfl
theorem AC {m:aE}(h:m (ws.map ae++List.replicate (n-ws.length) ah) bx=.exc c bx):aN n m ws bx=.exc c bx:=by
 simp[aN,DL.envOf,h,pQ,pR,rN]
theorem L9 {m:aE}(h:m (ws.map ae++List.replicate (n-ws.length) ah) bx=.nx e bx):aN n m ws bx=.val (.d .non) bx:=by
 simp[aN,DL.envOf,h,pQ,pR,rN]
theorem Pr {m:aE}(h:m (ws.map ae++List.replicate (n-ws.length) ah) bx=.rt (.d d) bx):aN n m ws bx=.val (.d d) bx:=by
 simp[aN,DL.envOf,h,pQ,pR,rN]
theorem Ps (h:t env bx=.val ag bx1) (h2:m env bx1=.val w aq):kP t m k env bx=.val w aq:=by unfold kP;rw[h,fX];show h2
theorem Pt (h:t env bx=.val af bx1) (h2:k env bx1=.val w aq):kP t m k env bx=.val w aq:=by unfold kP;rw[h,fX];show h2
end L2.DL
namespace K2
open L2 L2.DL K1

theorem CU (t):jD [.d t] bx=if hr t then .val (.d .non) bx else .exc 3 bx:=by
 have e:=FU t bx;cases q:hr t with
 |true=>
   rw[q]at e;show L9<|gU<|fY<|fT<|fM (fj za za) za e
 |false=>
   rw[q]at e;show AC<|(jI<|fY<|fT<|fM (fj za za) za e).trans<|BW za
end K2
namespace K1
open L2 L2.DL

theorem iW (h:n<bx.length):pt bx n p++E=pt (bx++E) n p:=by
 unfold pt;rw[List.set_append_left _ _ h]
theorem oP (h:n<bx.length):(pt (bx++[x]) n p)[bx.length]?=ae x:=by
 rw[<-iW h,<-fN];show Ye
theorem FW (h:n<bx.length):(pt (bx++[x]) n p).set bx.length y=pt (bx++[y]) n p:=by
 rw[<-iW h,<-iW h,<-fN,QQ _ _<|aB _,k6];rfl
theorem CV (h:n<bx.length):(pt (bx++E) n p).take bx.length=pt bx n p:=by
 rw[<-iW h,<-fN,Yf]
theorem FX (h:n<bx.length) (p k) (hk:0<k) (uH:k<1073741824):∃ r q,fk [.b n,.d<|.int k] (pt bx n p)=.val (.d<|.int r) (pt bx n q) /\ 0<=r /\ r<k:=
 #[_,_,gO h p k hk uH,jg p hk,jh p hk]
end K1
namespace bR
open L2 L2.DL K1

theorem DQ (h:n<bx.length) (he:env[i]?=ae (xB n)) (hm:m env (pt bx n p)=.val (.d<|.int k) (pt bx n p1)) (h0:0<k) (h1:k<1073741824) :
 ∃ r q,fq K1.fk 2 (fc (dV i)<|fc m fe) env (pt bx n p)=.val (.d<|.int r) (pt bx n q) /\ 0<=r /\ r<k:=by
 let#[r,q,t,a,b]:=FX h p1 k h0 h1;show#[r,q,(fM (fj (by unfold dV;rw[he])<|fj hm za) za t),a,b]
theorem afP (h:n<bx.length) (p) (he:env[i]?=ae (xB n)) (k) (h0:0<k) (h1:k<1073741824) :
 ∃ r q,fq K1.fk 2 (fc (dV i)<|fc (dC<|.int k) fe) env (pt bx n p)=.val (.d<|.int r) (pt bx n q) /\ 0<=r /\ r<k:=
 DQ h he za h0 h1
theorem p9 (h:n<bx.length) (p k) (h0:0<k) (h1:k<1073741824):∃ r q,(∀ {env}{i}{m}{p0},env[i]?=ae (xB n)->m env (pt bx n p0)=.val (.d<|.int k) (pt bx n p)->fq K1.fk 2 (fc (dV i)<|fc m fe) env (pt bx n p0)=.val (.d<|.int r) (pt bx n q)) /\ 0<=r /\ r<k:=by
 let#[r,q,t,a,b]:=FX h p k h0 h1;show#[r,q,λhe hm=>fM (fj (by rw[iG,he])<|fj hm za) za t,a,b]
theorem afQ (h:n<bx.length) (p) (l:List Int) (ks) (hk:∀ e b,ks e b=.val ((l.map D.int).map W.d) b) (hl:(l.length:Int)=k) (h0:0<k) (h1:k<1000) :
 ∃ v q,(∀ (env) (i),env[i]?=ae (xB n)->d2 af aF (gj af ks) (fq K1.fk 2<|fc (dV i)<|fc (dC<|.int k) fe) env (pt bx n p)=.val (.d<|.int v) (pt bx n q)) /\ v∈l:=by
 let#[r,q,t,a,b]:=p9 h p k h0 (by lia);let#[d,e,m]:=i9 (l:=l.map D.int) a (by rw[aV,hl];show b);let#[v,mv,rfl]:=bc.mp m;have sz:=bB;show#[v,q,λenv i he=>fQ (r:=.old _) (ig _ (hk _ _) (by rw[aV];lia)) (t he za) (by simp[aF,e,vp]),mv]
theorem Sb (h:m env bx=.val (.b j) bx1) (g:bx1[j]?=ae (.lst l)):dN af aS (fc m fe) env bx=.val (.d<|.int l.length) bx1:=by
 rw[N5,fj h rfl,fX];have:nM bx1 [.b j]=ae [.lst l]:=by simp[nM,bF,g,bI,vp]
 rw[this];rfl
theorem DR {lo}(h:(f9 lo m)[j]?=ae w):w=.d (.int<|lo+j) /\ j<m:=by
 have hm:j<m:=by simpa[f9] using (List.getElem?_eq_some_iff.mp h).1
 simp[f9,hm]at h;show#[h.symm,hm]

theorem lG (h1:a env bx=.val x bx1) (h2:b env bx1=.val y aq):kg i j (fc a<|fc b fe) env bx=.nx ((env.set i<|ae x).set j<|ae y) aq:=by
 unfold kg;rw[fj h1<|fj h2 rfl,iI]

theorem Oj (h1:m env bx=.val (.b j) bx1) (g0:bx1[j]?=ae (.lst l0)) (h2:k env bx1=.val (.d<|.int i) aq) (g:aq[j]?=ae (.lst l)) (hi:-(2 ^ 63)<=i /\ i<2 ^ 63) (hx:cT l.length i=ae t) (hd:l[t]?=ae d) :
 xT m k env bx=.val (.d d) (aq.set j<|.lst<|l.eraseIdx t):=by
 unfold xT;rw[h1,fX];erw[g0,h2,fX,g,if_pos hi,hx,hd]
open K2
theorem jJ (h:m env bx=.val (.d<|.bl ag) bx1) (h2:k env bx1=r):gR m k env bx=r:=by rw[oK h];show h2
theorem Ma (is:List Int) (b):nD (.int b) (is.map D.int)=is.any λz=>decide (z=b):=by
 unfold nD;rw[QL];rfl
end bR
namespace pk
open L2 L2.DL K1 bR
section
variable {α:Type}
theorem aba (p) (f):∀ (l:List α) (w) (acc),acc.length+l.length<=sizeLine->(∀ a∈l,tf (ae (.d<|enc a)::r) bx=.val (p a) bx /\ (p a=ag->te (ae (.d<|enc a)::r) bx=.val (.d<|f a) bx)) ->
 bu (ff 0) tf te ((l.map enc).map W.d) (w::r) bx acc=.val (acc++(l.filter p).map f) bx:=by
 intro l_;induction l_ with
 |nil=>(intro w acc _ _;simp[bu])
 |cons a l aA=>
   intro w acc n h;let#[h1,h2]:=h a<|bM ..;rw[a6]at n;have n':acc.length<sizeLine:=by lia
   have e0:ff 0 (W.d<|enc a) (w::r) bx=ae (ae (W.d<|enc a)::r,bx):=rfl;cases c:p a with
   |false=>
     rw[wN (by simp[c]),<-aA (ae<|W.d<|enc a) acc (by lia) λx m=>h x<|bC _ m];rw[c]at h1;erw[aQ,bu,e0,h1,mO]
   |true=>
     rw[wO c];have ih:=aA (ae<|W.d<|enc a) (acc++[f a]) (by simp;lia) λx m=>h x<|bC _ m;rw[c]at h1;erw[aQ,bu,e0,h1,h2 c,mO,if_pos n',ih];simp
theorem abb {v7}{l:List α}(p:α->Bool) (f:α->D) (h1:mi env v7=.val ((l.map enc).map W.d) bx) (he:eA src env=ah::r) (n:l.length<=sizeLine)
 (h:∀ a∈l,tf (ae (.d<|enc a)::r) bx=.val (p a) bx /\ (p a=ag->te (ae (.d<|enc a)::r) bx=.val (.d<|f a) bx)):gc af src mi (ff 0) tf te env v7=.val (.d<|.lst<|(l.filter p).map f) bx:=
 iP h1 he (by rw[aba p f l ah [] (by simpa using n) h];rfl)
theorem V5 {v7}{l:List α} (f) (h1:mi env v7=.val ((l.map enc).map W.d) bx) (he:eA src env=ah::r) (n:l.length<=sizeLine)
 (h:∀ a∈l,te (ae (.d<|enc a)::r) bx=.val (.d<|f a) bx):gc af src mi (ff 0) ge te env v7=.val (.d<|.lst<|l.map f) bx:=by
 have:=abb (tf:=ge) _ f h1 he n λa m=>#[rfl,λ_=>h a m]
 rwa [List.filter_eq_self.mpr λ_ _=>rfl]at this
theorem Bh (l:List α) (p):sx (l.map λd=>D.bl<|p d)=ae (l.map p):=by
 induction l with
 |nil=>rfl
 |cons d l ih=>simp[sx,ih]
theorem V6 {l:List α} (p) (h1:mi env v7=.val ((l.map enc).map W.d) bx) (he:eA src env=ah::r) (n:l.length<=sizeLine)
 (h:∀ a∈l,te (ae (.d<|enc a)::r) bx=.val (.d<|.bl<|p a) bx):dN af dW (fc (gc af src mi (ff 0) ge te) fe) env v7=.val (.d<|.bl<|l.all p) bx:=
 ie (r:=.old _) [.lst _] (fj (V5 _ h1 he n h) za) (by simp[dW,Bh])
end
noncomputable abbrev tupI (l:List Int):D:=.tup<|l.map D.int
abbrev xU (l:List Int):Option W:=ae<|.d<|tupI l
theorem CW:∀ l:List Int,PyData.canLayAll0 (bq<|l.map D.int)=ag /\ PyData.depthAll (bq<|l.map D.int)=0:=by
 intro l_;induction l_ with
 |nil=>show#[rfl,rfl]
 |cons i l aA=>
   let#[a,b]:=aA;simp[bq,toPy,PyData.canLayAll0,PyData.canLay0,PyData.depthAll,PyData.depth,a,b]
theorem Mb:∀ l:List _,PyData.canLayAll0 (bq<|l.map tupI)=ag /\ PyData.depthAll (bq<|l.map tupI)<=1:=by
 intro l_;induction l_ with
 |nil=>show#[rfl,dA _]
 |cons i l aA=>
   let#[a,b]:=aA;let#[c,d]:=CW i;erw[aQ,bq,toPy,PyData.canLayAll0,PyData.canLay0,PyData.depthAll,PyData.depth,a,c];show#[rfl,by lia]
theorem Ol (l):dI (tupI l)=ag:=by
 let#[c,d]:=CW l;simp[dI,toPy,PyData.canLay0,PyData.depth,c,d]
theorem Md (l:List _):dI (.lst<|l.map tupI)=ag:=by
 let#[c,d]:=Mb l;unfold dI;simp[toPy,PyData.canLay0,PyData.depth,c,HS,decide_eq_true_eq]
 lia
theorem DS (ps:List _):ps.map dP=(ps.map λq=>[q.1,q.2]).map tupI:=by rw[cw];rfl
theorem Me (a b):eqv (dP a) (dP b)=decide (a=b):=by
 rw[qf];let#[a1,a2]:=a;let#[b1,b2]:=b;simp[eqv,toPy,bq,PyData.eqv,PyData.eqvAll]
theorem Sc (ps:List _) (q):((ps.map dP).any λz=>eqv z<|dP q)=decide (q∈ps):=by
 rw[qf,List.any_eq_true,decide_eq_true_eq];constructor
 .rintro⟨z,m,e⟩;let#[x,mx,rfl]:=bc.mp m;rw[Me,decide_eq_true_eq]at e;show e▸mx
 .intro m;show#[dP q,bc.mpr #[q,m,rfl],by rw[Me,decide_eq_true_eq]]
theorem Om (neg) (is:List Int) (b):inD neg (.int b) (.tup<|is.map D.int)=ae (.old<|.bl (if neg then !decide (b∈is) else decide (b∈is))):=by
 change (if kT _=ag /\ (is.map D.int).all kT=ag then ae _ else tV neg _ _ _)=_;rw[if_pos #[rfl,(λis=>by rw[wR];show cb.mpr λ_ _=>rfl) is],Ma];have:(is.any λz=>decide (z=b))=decide (b∈is):=by
  rw[qf];simp
 rw[this]
end pk
namespace aJ
open L2 L2.DL K1 pk
open HT (cA)
abbrev hs (rs ks:List D) (ps:List<|Int×Int) (hd:D):D:=.tup [.tup rs,.tup ks,.tup<|ps.map dP,hd]
structure Hs (rs ks:List D) (ps:List<|Int×Int) (hd:D):zb where
 r1:1<=rs.length
 r5:rs.length<=5
 k1:1<=ks.length
 k4:ks.length<=4
 b:∀ p∈ps,p.1<p.2
 l:ps.length<=1000
 hh:house (hs rs ks ps hd)=ag
noncomputable def uU (nr nk:Nat):Pg->zb
 |.cy h l k r p w=>0<=h /\ (0<=l /\ l<=9) /\ (0<=k /\ k<(nk)) /\ (0<=r /\ r<(nr)) /\ (0<=p /\ p<=999) /\ 0<=w /\ w<=99
 |.to h l r=>0<=h /\ (0<=l /\ l<=9) /\ 0<=r /\ r<(nr)
 |.out h l=>0<=h /\ 0<=l /\ l<=9
theorem eq_str (a b):aZ (.str a) (.str b)=ae (.old<|.bl<|decide (a=b)):=rfl
theorem ne_str (a b):cQ (.str a) (.str b)=ae (.old<|.bl<|!decide (a=b)):=rfl

theorem Tt:(("in":Str)="out")=False:=eq_false (by decide)
theorem Ui:(("in":Str)="to")=False:=eq_false (by decide)
theorem Mf:(("out":Str)="in")=False:=eq_false (by decide)
theorem Uj:(("out":Str)="to")=False:=eq_false (by decide)
theorem DT:(("to":Str)="in")=False:=eq_false (by decide)
theorem Oo:(("to":Str)="out")=False:=eq_false (by decide)
noncomputable def dg:Pg->Str
 |.cy ..=>"in"
 |.to ..=>"to"
 |.out ..=>"out"
theorem Tu {qs:List Pg}{i:Nat}(h:qs[i]?=ae g):bU (qs.map enc) (i)=ae (enc g):=Bs (by rw[nV,h];rfl)
theorem CY {l:List D}{te}(hm:mi env bx=.val (l.map W.d) bx) (he:eA s env=ah::e2) (n:l.length<=1000) (h:∀ x∈l,te (ae (.d x)::e2) bx=.val (.d<|.bl ag) bx):dN af dW (fc (gc af s mi (ff 0) ge te) fe) env bx=.val (.d<|.bl ag) bx:=by
 have z:=bB;show(ie _ (fj (iP hm he<|CM (λe=>∃ w,e=w::e2) _ #[_,rfl] (λx m e ⟨w,je⟩=>#[ae _::e2,by rw[je];rfl,#[_,rfl],h x m]) (by lia)) za)<|all_map l λ_=>ag).trans (by simp)
theorem AD {lo}(h:wi d lo hi=ag):K1.gk [.d d,.d<|.int lo,.d<|.int hi] bx=.val (.d<|.bl ag) bx:=by rw[Bg,h]
theorem Bi {lo}(h:tl (.tup l) lo hi=ag):K1.gC [.d<|.tup l,.d<|.int lo,.d<|.int hi] bx=.val (.d<|.bl ag) bx:=by rw[LM,h]
theorem Op (h:He d=ag):K1.jz [.d d] bx=.val (.d<|.bl ag) bx:=by
 have z:=bB;cases d with
 |tup l=>
   simp[He,aH,cb]at h;let#[t,a,f]:=h;refine gi<|qF (gL (fY<|fT<|cV<|Bi t)<|fY<|fT<|CY (i8 za) za (by have:=Au t;lia) λx m=>cV<|AD<|a x m)<|gx ?_;let#[p,q,r,s,rfl]:=afJ t;let#[p,rfl,_]:=iJ<|a p (by simp);let#[q,rfl,_]:=iJ<|a q (by simp);let#[r,rfl,_]:=iJ<|a r (by simp);let#[s,rfl,_]:=iJ<|a s (by simp);simp[vZ,aH,decide_eq_true_eq]at f;refine(ie (r:=.old _) [.lst _] (fj (iP (l:=([(p,q),(q,r),(r,s)].map λa:Int×Int=>D.tup [.int a.1,.int a.2]).map W.d) za za<|(KO (J:=λe=>∃ a b,e=[a,b]) _ _ (λ_=>#[_,_,rfl]) _ _ [] (by simp;lia) #[_,_,rfl] (λx _ env ⟨a,b,e⟩=>by subst e;rfl) λx m=>#[rfl,λ_=>(fQ (r:=.old<|.bl ag) za za (by simp at m;simp[qt];rcases m with rfl|rfl|rfl<;>lia))])) za) za)
 |_=>cases h
theorem Sd (h:kind d=ag):K1.lL [.d d] bx=.val (.d<|.bl ag) bx:=by
 cases d with
 |tup l=>
   simp[kind,aH]at h;let#[t,h]:=h;let#[a,b,rfl]:=afI t;simp[aH]at h;show gi<|gx<|bR.jJ (cV<|Bi t)<|bR.jJ (cV<|AD h.1)<|cV<|Op h.2
 |_=>cases h
theorem Se (h:yi n d=ag):K1.iq [.d d,.d<|.int n] bx=.val (.d<|.bl ag) bx:=by
 cases d with
 |tup l=>
   simp[yi,aH]at h;let#[t,h]:=h;split at h
   .simp[aH,decide_eq_true_eq]at h;show gi<|qF (fY<|fT<|cV<|Bi t)<|gx<|bR.jJ (CY (i8 za) za (by simp) λx m=>cV<|AD (d:=x) (lo:=0) (hi:=n-1) (by simp at m;rcases m with rfl|rfl<;>(simp[wi,aH,decide_eq_true_eq];lia)))<|fQ (r:=.old _) za za (by simp[kX];show h.1.2)
   .cases h
 |_=>cases h
theorem Oq (h:Hs rs ks ps hd):K1.j5 [.d<|hs rs ks ps hd] bx=.val (.d<|.bl ag) bx:=by
 have z:=bB;have l:=h.l;have q:=h.hh;erw[house,aH,rooms,kinds,apart,cb]at q;let#[#[t1,q1],#[t2,q2],#[q3,i],q4]:=q;rw[FK]at i;have ri:=G7 ps (by lia) bx;rw[i]at ri;have e1:K1.jy [.d _] bx=.val _ bx:=gi<|gx<|bR.jJ (cV<|Bi t1)<|CY (i8 za) za (by have:=Au t1;lia) λx m=>cV<|AD<|q1 x m;have e2:K1.jA [.d _] bx=.val _ bx:=gi<|gx<|bR.jJ (cV<|Bi t2)<|CY (i8 za) za (by have:=Au t2;lia) λx m=>cV<|Sd<|q2 x m;have e3:K1.jB [.d _,.d _] bx=.val _ bx:=gi<|qF za<|gx<|bR.jJ (CY (i8 za) za (by rw[aV];lia) λx m=>cV<|Se<|q3 x m)<|cV ri;show gi<|qF (fY<|fT<|cV<|Bi za)<|qG za za<|gx<|bR.jJ (cV e1)<|bR.jJ (cV e2)<|bR.jJ (cV e3)<|cV<|AD q4
theorem jK (h:Hs rs ks ps hd):bR.iA [.d<|hs rs ks ps hd] bx=.val (.d .non) bx:=by
 have b:bR.jE _ bx=.nx [ae _] bx:=
  (gU<|fY<|fT<|fM za za<|Oq (bx:=bx) h)
 change pR bx.length (pQ<|aU bR.jE [ae _] bx)=_;unfold aU;rw[b];simp[pQ,pR]
structure Gs (nr nk:Nat) (gs:List Pg):zb where
 ok:∀ g∈gs,uU nr nk g
 nd:gs.Nodup
 l:gs.length<=16
end aJ
namespace K13
open L2 L2.DL K1 K2 pk bR aJ
noncomputable def bz (nr nk:Int) (b:D):List Int:=match b with
 |.str x=>if x="in" then [9,nk-1,nr-1,999,99] else if x="out" then [9] else if x="to" then [9,nr-1] else []
 |_=>[]
def KS (nr nk:Int) (l:List D):Bool:=match l with
 | a::l=>(match l with
   |b::r=>hr a&&(decide ((bz nr nk b).length=r.length /\ 1<=r.length)&&(r.zip<|bz nr nk b).all λq=>wi q.1 0 q.2)
   |[]=>af)
 |[]=>af
def cM (nr nk:Int) (d:D):Bool:=match d with
 |.tup l=>KS nr nk l
 |_=>af
theorem Ja (j:Nat) (h:l[j]?=ae x):aF (.tup l) (.int<|j)=ae (.old x):=by
 change (bU l<|j).map Res.old=_;rw[Bs h];rfl
theorem FY:∀ (l) (is),pX l (is.map D.int)=((l.zip is).map λq=>D.tup [q.1,.int q.2]).map W.d
 |[],_=>rfl
 |_::_,[]=>rfl
 |x::l,i::is=>by simp[pX,FY l is]
theorem FZ {nr nk} (g) (ok:uU nr nk g):cM nr nk (enc g)=ag:=by
 cases g with
 |cy h l k r p w=>let#[a,#[b,c],#[d,e],#[f,g],#[i,j],m,n]:=ok;simp[cM,KS,enc,cU,bV,kh,bz,hr,wi];and_intros<;>lia
 |to h l r=>let#[a,#[b,c],d,e]:=ok;simp[cM,KS,enc,cU,bV,kh,bz,hr,wi,DT,Oo];lia
 |out h l=>let#[a,b,c]:=ok;simp[cM,KS,enc,cU,bV,kh,bz,hr,wi,Mf];lia
theorem Pu {nr nk:Nat}(h:cM nr nk d=ag):∃ g,d=enc g /\ uU nr nk g:=by
 cases d<;>try (cases h;done)
 ext l;rcases l with _|⟨a,_|⟨b,r⟩⟩<;>try (cases h;done)
 have h:(hr a&&(decide ((bz nr nk b).length=r.length /\ 1<=r.length)&&(r.zip<|bz nr nk b).all λq=>wi q.1 0 q.2))=ag:=h;erw[aH,decide_eq_true_eq]at h;let#[h1,#[h2,h3],h4]:=h;let#[hh,rfl,h0]:=Sa h1;cases b<;>try (erw[bz,nW]at h2;lia)
 ext x;unfold bz at h2 h4;dsimp only at h2 h4;by_cases e1:x="in"
 .subst e1;rw[if_pos rfl]at h2 h4;rcases r with _|⟨l,_|⟨k,_|⟨p,_|⟨q,_|⟨w,_|_⟩⟩⟩⟩⟩<;>try (simp at h2;done)
  erw[qi,Ic,nE,QR,QE,aH]at h4;let#[a1,a2,a3,a4,a5]:=h4;let#[l,rfl,l1,l2]:=iJ a1;let#[k,rfl,k1,k2]:=iJ a2;let#[p,rfl,p1,p2]:=iJ a3;let#[q,rfl,q1,q2]:=iJ a4;let#[w,rfl,w1,w2]:=iJ a5;show#[.cy hh l k p q w,rfl,h0,#[l1,l2],#[k1,by lia],#[p1,by lia],#[q1,q2],w1,w2]
 .rw[if_neg e1]at h2 h4;by_cases e2:x="out"
  .subst e2;rw[if_pos rfl]at h2 h4;rcases r with _|⟨l,_|_⟩<;>try (simp at h2;done)
   erw[qi,Ic,nE,QR,QE]at h4;let#[l,rfl,l1,l2]:=iJ h4;show#[.out hh l,rfl,h0,l1,l2]
  .rw[if_neg e2]at h2 h4;by_cases e3:x="to"
   .subst e3;rw[if_pos rfl]at h2 h4;rcases r with _|⟨l,_|⟨p,_|_⟩⟩<;>try (simp at h2;done)
    erw[qi,Ic,nE,QR,QE,aH]at h4;let#[a1,a2]:=h4;let#[l,rfl,l1,l2]:=iJ a1;let#[p,rfl,p1,p2]:=iJ a2;show#[.to hh l p,rfl,h0,#[l1,l2],p1,by lia]
   .rw[if_neg e3,nW]at h2
    lia

theorem Os (w):ic [.d<|hs rs ks ps hd,.d w] bx=.val (.d<|.tup<|(bz rs.length ks.length w).map D.int) bx:=
 gi (by
  have s5:(5)<=sizeLine:=by decide
  have s1:(1)<=sizeLine:=by decide
  have s2:(2)<=sizeLine:=by decide
  cases w with
  |str x=>
    by_cases e1:x="in"
    .subst e1;rfl
    .by_cases e2:x="out"
     .subst e2;rfl
     .by_cases e3:x="to"
      .subst e3;rfl
      .simp[jm,kg,aS,aF,bU,cT,eQ,aJ.eq_str,bz,e1,e2,e3]
  |_=>rfl)
theorem Mg (d):aJ.ir [.d<|hs rs ks ps hd,.d d] bx=.val (.d<|.bl<|cM rs.length ks.length d) bx:=by
 have no:∀ {d:D},sr (pT d) "tuple"=af->cM rs.length ks.length d=af->aJ.ir [.d<|hs rs ks ps hd,.d d] bx=.val (.d<|.bl<|cM rs.length ks.length d) bx:=λ{d} h e=>by
  rw[e];show gi<|qR (lF<|fY (b:=af)<|fT (by simp[h])) za
 cases d<;>try show no za za
 ext l;have ti:∀ {e:bt},e[1]?=ae (ae<|.d<|.tup l)->cC (dB<|gH "tuple"<|dV 1) e bx=.val af bx:=λh=>fY (b:=ag)<|fT (by unfold gH;rw[iG,h];rfl);have ln:∀ {e:bt},e[1]?=ae (ae<|.d<|.tup l)->dN af aS (fc (dV 1) fe) e bx=.val (.d<|.int l.length) bx:=λh=>ie (r:=.old<|.int l.length) [.tup l] (fj (by rw[iG,h]) za) za;have lt:∀ {e:bt}{b:Bool},e[1]?=ae (ae<|.d<|.tup l)->decide ((l.length:Int)<3)=b->dB (d2 af kX (dN af aS<|fc (dV 1) fe)<|dC<|.int 3) e bx=.val b bx:=λh q=>fT<|fQ (r:=.old<|.bl _) (ln h) za (by rw[<-q];rfl);rcases l with _|⟨a,_|⟨b,r⟩⟩
 .show gi<|qR (gL (ti za)<|lF<|lt za za) za
 .show gi<|qR (gL (ti za)<|lF<|lt za za) za
 change _=O.val (W.d<|.bl<|hr a&&(decide ((bz rs.length ks.length b).length=r.length /\ 1<=r.length)&&(r.zip<|bz rs.length ks.length b).all λq=>wi q.1 0 q.2)) bx;by_cases r1:1<=r.length
 case neg=>
  rw[decide_eq_false λz=>r1 z.2,pD,vg];show gi<|qR (gL (ti za)<|lF<|lt za (by simp;lia)) za
 have hv:=FU a bx;cases q1:hr a with
 |false=>
   rw[q1]at hv;show gi<|qR (gL (ti za)<|gL (lt za<|decide_eq_false (by rw[a6,a6];lia))<|fY<|fT<|fM (fj (fQ za za<|Ja 0 za) za) za hv) za
 |true=>
   rw[q1]at hv;have h0:(eO (cC<|dB<|gH "tuple"<|dV 1)<|eO (dB<|d2 af kX (dN af aS<|fc (dV 1) fe)<|dC<|.int 3)<|cC<|dB<|fq K2.iS 1<|fc (d2 af aF (dV 1)<|dC<|.int 0) fe) [ae<|.d<|hs rs ks ps hd,ae<|.d<|.tup (a::b::r),ah] bx=.val af bx:=gL (ti za)<|gL (lt za<|decide_eq_false (by rw[a6,a6];lia))<|fY<|fT<|fM (fj (fQ za za<|Ja 0 za) za) za hv;have h1:=fM (fj (m:=dV 0) (env:=[ae<|.d<|hs rs ks ps hd,ae<|.d<|.tup (a::b::r),ah]) za<|fj (m:=d2 af aF (dV 1)<|dC<|.int 1) (ks:=fe) (fQ (x:=.tup (a::b::r)) (y:=.int 1) (r:=.old b) za za<|Ja 1 za) za) za<|Os (rs:=rs) (ks:=ks) (ps:=ps) (hd:=hd) (bx:=bx) b;have ne:∀ {c:Bool},(!decide (((bz rs.length ks.length b).length:Int)=(r.length:Int)))=c->dB (d2 af cQ (dN af aS<|fc (dV 2) fe)<|d2 af eQ (dN af aS<|fc (dV 1) fe)<|dC<|.int 2) [ae<|.d<|hs rs ks ps hd,ae<|.d<|.tup (a::b::r),ae<|.d<|.tup<|(bz rs.length ks.length b).map D.int] bx=.val c bx:=λ{c} h=>
    fT (fQ (x:=.int (bz rs.length ks.length b).length) (y:=.int r.length) (r:=.old<|.bl c) (ie (r:=.old<|.int (bz rs.length ks.length b).length) [.tup<|(bz rs.length ks.length b).map D.int] (fj za za) (by simp[aS])) (fQ (x:=.int (a::b::r).length) (y:=.int 2) (r:=.old<|.int r.length) (ln za) za (by simp[eQ];lia)) (by rw[<-h];rfl))
   by_cases e:(bz rs.length ks.length b).length=r.length
   case neg=>
    rw[decide_eq_false λz=>e z.1,pD];show gi<|qF h0<|qS h1<|qR (ne (by rw[decide_eq_false λz=>e (by lia)];rfl)) za
   rw[decide_eq_true #[e,r1],HS,HS];have gl:(bz rs.length ks.length b).length<=5:=by
    unfold bz;split
    .split
     .show aB _
     .split
      .show XM 1 4
      .split
       .show XM 2 3
       .show dA _
    .show dA _
   have sz:=bB;have cut:DL.cutD (a::b::r) (ae 2) ah=r:=by
    have:=K1.AA (a::b::r) 2 (by simp);simpa using this
   have z:xR (fc (dX af (dV 1) (dH<|dC<|.int 2) eS)<|fc (dV 2) fe) [ae<|.d<|hs rs ks ps hd,ae<|.d<|.tup (a::b::r),ae<|.d<|.tup<|(bz rs.length ks.length b).map D.int] bx=.val (((r.zip<|bz rs.length ks.length b).map λq=>D.tup [q.1,.int q.2]).map W.d) bx:=by
    unfold xR;rw[fj (w:=.d<|.tup r) (l:=[.d<|.tup<|(bz rs.length ks.length b).map D.int]) (FM (r:=.tup r) rfl (oM rfl) rfl (by rw[qr,cut]))<|fj rfl rfl,fX,<-FY]
   have c:=KO (e:=λq:D×Int=>D.tup [q.1,.int q.2]) (g:=lB 2<|gF (ff 0)<|gF (ff 1) mY) (tf:=ge) (te:=fq K1.gk 3<|fc (dV 0)<|fc (dC<|.int 0)<|fc (dV 1) fe) (B:=bx) (E:=λq=>[ae<|.d q.1,xN q.2]) (J:=λe=>∃ a b,e=[a,b]) (λ_=>ag) (λq=>.bl<|wi q.1 0 q.2) (λ_=>#[_,_,rfl]) (r.zip<|bz rs.length ks.length b) [ah,ah] [] (by rw[QS];simp;lia) #[_,_,rfl] (λx _ env ⟨a,b,e⟩=>by subst e;rfl) λx m=>#[rfl,λ_=>cV<|Bg x.1 0 x.2 bx];rw[List.filter_eq_self.mpr λ_ _=>rfl,vo]at c;have al:dW [.lst<|(r.zip<|bz rs.length ks.length b).map λq=>D.bl<|wi q.1 0 q.2]=ae (.old<|.bl<|(r.zip<|bz rs.length ks.length b).all λq=>wi q.1 0 q.2):=by simp[dW,Bh,wR]
   show gi<|qF h0<|qS h1<|qF (ne (by rw[decide_eq_true (by lia)];rfl))<|gx<|ie (r:=.old<|.bl _) [.lst ((r.zip<|bz rs.length ks.length b).map λq:D×Int=>D.bl<|wi q.1 0 q.2)] (fj (iP (bx1:=bx) z za c) za) al
end K13
namespace tZ
open L2 L2.DL
noncomputable section
end
end tZ
namespace aJ
open L2 L2.DL K1 pk
noncomputable abbrev Al:=List<|Int×Int
noncomputable def look (l:Al) (x:Int):Option Int:=(l.find? λq=>decide (q.1=x)).map (·.2)
noncomputable def put {α:Type}(l:List<|Int×α) (x:Int) (v:α):List (Int×α):=if (l.any λq=>decide (q.1=x))=ag then l.map (λq=>if q.1=x then (q.1,v) else q) else l++[(x,v)]
noncomputable def yj {α:Type}(l:List<|Int×α) (x:Int):List (Int×α):=l.filter λq=>decide (q.1≠x)
def kk (K:Al) (l:Int):Int:=(look K l).getD 0
noncomputable def Hi (ps:Al) (a b:Int):Bool:=decide ((a,b)∈ps)||decide ((b,a)∈ps)
def sO (ps K R:Al) (k r:Int):Bool:=R.any λq=>decide (q.2=r)&&Hi ps k (kk K q.1)
def word (ps K R:Al):Pg->Str
 |.cy _ l k r _ _=>if (look K l).isSome then "there" else if sO ps K R k r then "apart" else "takes"
 | .to _ l r=>match look R l with
   |none=>"none"
   |some r0=>if r0=r then "same" else if sO ps K R (kk K l) r then "apart" else "takes"
 | .out _ l=>match look R l with
   |none=>"none"
   |some _=>"takes"
noncomputable def bX:Pg->Int
 |.cy _ l ..=>l
 |.to _ l _=>l
 |.out _ l=>l
def stK (K:Al):Pg->Al
 |.cy _ l k ..=>put K l k
 |_=>K
def rD (R:Al):Pg->Al
 |.cy _ l _ r ..=>put R l r
 |.to _ l r=>put R l r
 |.out _ l=>yj R l
def wordsOf (ps:Al):Al->Al->List Pg->List Str
 |_,_,[]=>[]
 |K,R,g::gs=>word ps K R g::(if word ps K R g="takes" then wordsOf ps (stK K g) (rD R g) gs else wordsOf ps K R gs)
structure kn (K R:Al) (n:Nat):zb where
 nd:(R.map (·.1)).Nodup
 sub:∀ q∈R,(look K q.1).isSome=ag
 lk:K.length<=n
 lr:R.length<=n
section
variable {α:Type}
noncomputable def kH (e:α->D) (l:List<|Int×α):List (Key×D):=l.map λq=>(.inl q.1,e q.2)
abbrev bw (l:Al):List (Key×D):=kH D.int l
theorem F6 (a b):decide ((Sum.inl a:Key)=Sum.inl b)=decide (a=b):=by
 by_cases h:a=b
 .simp
 .rw[decide_eq_false h];show decide_eq_false λz=>h<|Sum.inl.inj z
theorem oQ (l:List<|Int×α) (x):kF (kH e l) (.inl x)=((l.find? λq=>decide (q.1=x)).map (·.2)).map e:=by
 unfold kF kH;rw[List.find?_map];have:((λkv:Key×D=>decide (kv.1=Sum.inl x))∘λq:Int×α=>((Sum.inl q.1),e q.2))=λq=>decide (q.1=x):=by
  funext q;show F6 q.1 x
 rw[this];cases l.find? λq=>decide (q.1=x)<;>rfl
theorem Ot (l) (x):((kH e l).any λkv=>decide (kv.1=Sum.inl x))=l.any λq=>decide (q.1=x):=by
 unfold kH;rw[QL];congr 1;funext q;show F6 q.1 x
theorem Ou (l) (x) (v):EZ (kH e l) (.inl x) (e v)=kH e (put l x v):=by
 unfold EZ put;rw[Ot];split
 .unfold kH;rw[cw,cw];refine vm λq _=>?_;by_cases h:q.1=x
  .simp[h]
  .simp[h]
 .unfold kH;simp
theorem Mh (l) (x):uO (kH e l) (.inl x)=kH e (yj l x):=by
 unfold uO yj kH;rw[List.filter_map];congr 1;congr 1;funext q;by_cases h:q.1=x<;>simp
theorem BX (l) (x) (v:α):(put l x v).length<=l.length+1:=by
 unfold put;split<;>simp
end
theorem Mi (nd:(R.map (·.1)).Nodup) (m:q∈R):look R q.1=ae q.2:=by
 induction R with
 |nil=>cases m
 |cons a R ih=>
   rw[aQ,rO]at nd;unfold look;rw[yJ];rcases a9.mp m with rfl|m
   .simp
   .have:¬ a.1=q.1:=λz=>nd.1 (by rw[z];show wM m);rw[decide_eq_false this];show ih nd.2 m
theorem DU (ps:Al):dI (.tup<|ps.map dP)=ag:=by
 have h:=Md<|ps.map λq=>[q.1,q.2];rw[<-DS]at h;unfold dI at h ⊢;simpa[toPy,PyData.canLay0,PyData.depth] using h
theorem Mj (neg) (q) (ps:Al):inD neg (dP q) (.tup<|ps.map dP)=ae (.old<|.bl (if neg then !decide (q∈ps) else decide (q∈ps))):=by
 change (if kT (dP q)=ag /\ (ps.map dP).all kT=ag then ae (Res.old<|.bl (if neg then !nD (dP q) (ps.map dP) else nD (dP q) (ps.map dP))) else tV neg _ _ _)=_;unfold tV;rw[show dI (dP q)=ag from Ol [q.1,q.2],DU,Sc];rfl

theorem Ov (h:Hs rs ks ps hd) (a b):iO [.d<|hs rs ks ps hd,.d<|.int a,.d<|.int b] bx=.val (.d<|.bl<|!Hi ps a b) bx:=by
 have z:(2)<=sizeLine:=by decide
 refine gi<|gx ?_;have e1:fL (fc (dN af minD<|fc (dV 1)<|fc (dV 2) fe)<|fc (dN af maxD<|fc (dV 1)<|fc (dV 2) fe) fe) [ae<|.d<|hs rs ks ps hd,xN a,xN b] bx=.val (.d<|dP (if b<a then b else a,if b>a then b else a)) bx:=rfl;refine(fQ e1 za<|Mj ag _ ps).trans ?_;have:decide ((if b<a then b else a,if b>a then b else a)∈ps)=Hi ps a b:=by
  unfold Hi;rw[qf];simp[sV,decide_eq_true_eq];by_cases c:b<a
  .rw[if_pos c,if_neg (by lia)];show#[.inr,λz=>z.elim (λz=>absurd (h.b _ z) (by simp;lia)) id]
  .rw[if_neg c];by_cases d:b>a
   .rw[if_pos d];show#[.inl,λz=>z.elim id λz=>absurd (h.b _ z) (by simp;lia)]
   .rw[if_neg d];have:a=b:=by lia
    subst this;show#[.inl,λz=>z.elim id id]
 rw[this];rfl
theorem BY (g):fZ [.d<|enc g] bx=.val (.d (match g with|.cy _ _ _ r _ _=>.int r|.to _ _ r=>.int r|.out ..=>.non)) bx:=
 gi (by cases g<;>simp[j7,enc,cU,bV,kh,aF,bU,cT,eq_str,DT,Mf,Uj])
section
variable {L:List (Int × α)}
theorem Pw (neg) (hk:k env bx=.val (.d<|.int l) bx) (hm:m env bx=.val (.b i) bx) (hb:pY bx (.b i)=ae (kH e L)) :
 sL neg k m env bx=.val (.d (.bl (if neg then !((L.find? λq=>decide (q.1=l)).map (·.2)).isSome else ((L.find? λq=>decide (q.1=l)).map (·.2)).isSome))) bx:=by
 unfold sL;rw[hk,fX,hm,fX,hb];change O.val _ bx=_;rw[oQ,wU]
theorem BZ (hk:k env bx=.val (.d<|.int l) bx) (hm:m env bx=.val (.b i) bx) (hb:pY bx (.b i)=ae (kH e L)) (hf:(L.find? λq=>decide (q.1=l)).map (·.2)=ae v):kU m k env bx=.val (.d<|e v) bx:=by
 unfold kU;rw[hm,fX,hk,fX,hb];change (match kF _ _ with|some u=>O.val _ bx|none=>.bad)=_;rw[oQ,hf];rfl
theorem CZ {l}(h:bx[i]?=ae (.az l)):pY bx (.b i)=ae l:=by unfold pY;simp[h]
theorem Tv {l}(h:bx[i]?=ae (.fD l)):pY bx (.b i)=ae l:=by unfold pY;simp[h]
theorem Ml:uR (kH e L)=(L.map λq=>D.int q.1).map W.d:=by
 unfold uR kH;rw[cw,cw];rfl
end
theorem Mm {bx:List Bx}(h:bx[j]?=ae x):(bx.set j y).set j x=bx:=by
 rw[Yc];apply QH;intro n;by_cases e:j=n
 .subst e;rw[pE (List.getElem?_eq_some_iff.mp h).1,h]
 .rw[rK e]
theorem Tw (h:bx[j]?=ae (.az l)):qx j (bx.set j<|.fD l)=ae bx:=by
 unfold qx;rw[pE (List.getElem?_eq_some_iff.mp h).1];simp[Mm h]
section
variable {K:List (Int × Int)}
abbrev V7:DE W:=vX af [ah,ae 2,ae 6] 2 (ff 0) (dB<|d2 af aZ (kU (dV 1)<|dV 0)<|dV 2)<|dV 0
theorem Uk (J:kn K R n) (hn:n<=100) (hj:bx[j]?=ae (.az<|bw R)) (h2:env[2]?=ae (xB j)) (h6:env[6]?=ae (xN r)) :
 V7 env bx=.val (.d<|.lst<|(R.filter λq=>decide (q.2=r)).map λq=>D.int q.1) bx:=by
 have z:sizeLine=16777216:=bB;have lr:=J.lr;unfold V7 vX;erw[h2,hj];have s:eA [ah,ae 2,ae 6] env=[ah,xB j,xN r]:=by simp[h2,h6]
 rw[s,show uR (bw R)=(R.map λq=>D.int q.1).map W.d from Ml,(aba (tf:=dB _) (te:=dV 0) (r:=[ae _,ae _]) _ _ R ah [] (by simp;lia) λq m=>
  #[fT<|fQ (r:=.old _) (BZ za za (Tv<|pE (a:=.fD<|bw R) (List.getElem?_eq_some_iff.mp hj).1)<|Mi J.nd m) za<|rfl,λ_=>rfl]),fX]
 change yf j (.val _ _)=_;unfold yf;erw[Tw hj];rfl
abbrev abd:DE W:=dN af dW<|fc (gc af [ah,ae 0,ae 1,ae 7] (bP<|dV 8) (ff 0) ge<|fq aJ.iO 3<|fc (dV 1)<|fc (dV 3)<|fc (kU (dV 2)<|dV 0) fe) fe
theorem Ul (h:Hs rs ks ps hd) (J:kn K R n) (hn:n<=100) (hi:bx[i]?=ae (.az<|bw K)) (h0:env[0]?=ae (ae<|.d<|hs rs ks ps hd)) (h1:env[1]?=ae (xB i)) (h7:env[7]?=ae (xN k))
 (h8:env[8]?=ae (ae<|.d<|.lst<|(R.filter λq=>decide (q.2=r)).map λq=>D.int q.1)):abd env bx=.val (.d<|.bl<|!sO ps K R k r) bx:=by
 have z:sizeLine=16777216:=bB;have lr:=J.lr;have fl:=QI (λq:Int×Int=>decide (q.2=r)) R;have it:bP (dV 8) env bx=.val _ bx:=iB (by unfold dV;rw[h8]);have s:eA [ah,ae 0,ae 1,ae 7] env=ah::[ae<|.d<|hs rs ks ps hd,xB i,xN k]:=by simp[h0,h1,h7]
 refine(V6 (λq=>!Hi ps k (kk K q.1)) it s (by lia) λq m=>?_).trans ?_
 .let#[v,hv]:=Option.isSome_iff_exists.mp<|J.sub q (List.mem_filter.mp m).1;have e:kk K q.1=v:=by unfold kk;rw[hv];rfl
  rw[e];show fM (fj za<|fj za<|fj (BZ za za (CZ hi) hv) za) za<|Ov h k v
 .congr 3;unfold sO;rw[qf];erw[cb,List.mem_filter,kL,QF,aH,decide_eq_true_eq,not_and,XS];show#[λa q m c=>a q #[m,c],λa q m=>a q m.1 m.2]
def afR:aE:=(fB (fO V7<|ff 8)<|fB (aT (dB abd) (fJ<|dC<|.str "takes") a8)<|fJ<|dC<|.str "apart")
theorem Tz (h:Hs rs ks ps hd) (J:kn K R n) (hn:n<=100) (hi:bx[i]?=ae (.az<|bw K)) (hj:bx[j]?=ae (.az<|bw R)) (x3 x4 x5 x8) (k r) :
 afR [ae<|.d<|hs rs ks ps hd,xB i,xB j,x3,x4,x5,xN r,xN k,x8] bx=.rt (.d<|.str (if sO ps K R k r then "apart" else "takes")) bx:=by
 have b:=Ul (env:=[ae _,ae _,xB j,x3,x4,x5,xN r,xN k,ae<|.d<|.lst<|(R.filter λq=>decide (q.2=r)).map λq=>D.int q.1]) h J hn hi za za za za;refine(fE<|ik<|Uk (env:=[ae _,ae _,ae _,x3,x4,x5,ae _,ae _,x8]) J hn hj za za).trans ?_;cases c:sO ps K R k r with
 |true=>
   rw[c]at b;show(fE<|gU<|fT b)
 |false=>
   rw[c]at b;show jH<|(jI<|fT b)
theorem Sf (h:Hs rs ks ps hd) (J:kn K R n) (hn:n<=100) (hi:bx[i]?=ae (.az<|bw K)) (hj:bx[j]?=ae (.az<|bw R)) (g) :
 i0 [.d<|hs rs ks ps hd,.b i,.b j,.d<|enc g] bx=.val (.d<|.str<|word ps K R g) bx:=by
 refine gi ?_;change lM _ bx=_;have eM:lM=(fB _ _):=rfl;rw[eM];have p1:kg 4 5 (fc (d2 af aF (dV 3)<|dC<|.int 1)<|fc (d2 af aF (dV 3)<|dC<|.int 2) fe) [ae<|.d<|hs rs ks ps hd,xB i,xB j,ae<|.d<|enc g,ah,ah,ah,ah,ah] bx=.nx [ae<|.d<|hs rs ks ps hd,xB i,xB j,ae<|.d<|enc g,ae<|.d<|.str<|dg g,xN<|bX g,ah,ah,ah] bx:=by
  cases g<;>simp[kg,enc,cU,bV,kh,aF,bU,cT,dg,bX]
 refine(fE p1).trans ?_;have tE:∀ (w:Str) (x6 x7:Option W),dB (d2 af aZ (dV 4)<|dC<|.str w) [ae<|.d<|hs rs ks ps hd,xB i,xB j,ae<|.d<|enc g,ae<|.d<|.str<|dg g,xN<|bX g,x6,x7,ah] bx=.val (decide (dg g=w)) bx:=λw x6 x7=>fT<|fQ za za<|eq_str _ _;have tN:dB (d2 af cQ (dV 4)<|dC<|.str "in") [ae<|.d<|hs rs ks ps hd,xB i,xB j,ae<|.d<|enc g,ae<|.d<|.str<|dg g,xN<|bX g,ah,ah,ah] bx=.val (!decide (dg g="in")) bx:=fT<|fQ za za<|ne_str _ _;have iK:dB (sL af (dV 5)<|dV 1) [ae<|.d<|hs rs ks ps hd,xB i,xB j,ae<|.d<|enc g,ae<|.d<|.str<|dg g,xN<|bX g,ah,ah,ah] bx=.val (look K<|bX g).isSome bx:=fT<|Pw af za za<|CZ hi;have iR:dB (sL ag (dV 5)<|dV 2) [ae<|.d<|hs rs ks ps hd,xB i,xB j,ae<|.d<|enc g,ae<|.d<|.str<|dg g,xN<|bX g,ah,ah,ah] bx=.val (!(look R<|bX g).isSome) bx:=fT<|Pw ag za za<|CZ hj;cases g with
 |cy h' l k r p w=>
   change _=OS.rt (W.d<|.str (if (look K l).isSome then "there" else if sO ps K R k r then "apart" else "takes")) bx;have t1:=jf (tE "in" ah ah) iK;cases c:(look K l).isSome with
   |true=>
     rw[show (look K<|bX<|.cy h' l k r p w).isSome=ag from c]at t1;show jH<|(jI t1).trans za
   |false=>
     rw[show (look K<|bX<|.cy h' l k r p w).isSome=af from c]at t1;refine(fE<|(gU t1).trans za).trans ?_;refine(fE<|(gU<|lN tN).trans za).trans ?_;have t3:=tE "out" ah ah;rw[decide_eq_false (show ¬ dg (.cy h' l k r p w)="out" by change ¬ ("in":Str)="out";rw[Tt];show id)]at t3;refine(fE<|(gU t3).trans za).trans ?_;refine(fE<|ik<|fM (l:=[.d<|enc<|.cy h' l k r p w]) za za<|BY _).trans ?_;have t4:=tE "to" (xN r) ah;rw[decide_eq_false (show ¬ dg (.cy h' l k r p w)="to" by change ¬ ("in":Str)="to";rw[Ui];show id)]at t4;refine(fE<|(gU<|lN t4).trans za).trans ?_;have kv:kP (dB<|d2 af aZ (dV 4)<|dC<|.str "in") (d2 af aF (dV 3)<|dC<|.int 3) (kU (dV 1)<|dV 5) [ae<|.d<|hs rs ks ps hd,xB i,xB j,ae<|.d<|enc<|.cy h' l k r p w,ae<|.d<|.str<|dg<|.cy h' l k r p w,xN<|bX<|.cy h' l k r p w,xN r,ah,ah] bx=.val (.d<|.int k) bx:=by
      unfold kP;rw[(tE "in" (xN r) ah),fX];rfl
     show(fE<|ik kv).trans (Tz h J hn hi hj _ _ _ _ k r)
 |to h' l r=>
   have t1:=tE "in" ah ah;rw[decide_eq_false (show ¬ dg (.to h' l r)="in" by change ¬ ("to":Str)="in";rw[DT];show id)]at t1 tN;refine(fE<|(gU<|lN t1).trans za).trans ?_;have t2:=jf tN iR;change _=OS.rt (W.d<|.str (match look R l with|none=>"none"|some r0=>if r0=r then "same" else if sO ps K R (kk K l) r then "apart" else "takes")) bx;cases c:look R l with
   |none=>
     rw[show look R (bX<|.to h' l r)=ah from c]at t2;show jH<|(jI t2).trans za
   |some r0=>
     rw[show look R (bX<|.to h' l r)=ae r0 from c]at t2;refine(fE<|(gU t2).trans za).trans ?_;have t3:=tE "out" ah ah;rw[decide_eq_false (show ¬ dg (.to h' l r)="out" by change ¬ ("to":Str)="out";rw[Oo];show id)]at t3;refine(fE<|(gU t3).trans za).trans ?_;refine(fE<|ik<|fM (l:=[.d<|enc<|.to h' l r]) za za<|BY _).trans ?_;have t4:qo (dB<|d2 af aZ (dV 4)<|dC<|.str "to") (dB<|d2 af aZ (kU (dV 2)<|dV 5)<|dV 6) [ae<|.d<|hs rs ks ps hd,xB i,xB j,ae<|.d<|enc<|.to h' l r,ae<|.d<|.str<|dg<|.to h' l r,xN<|bX<|.to h' l r,xN r,ah,ah] bx=.val (decide (r0=r)) bx:=
      jf (tE "to" (xN r) ah) (fT<|fQ (r:=.old<|.bl<|decide (r0=r)) (x:=.int r0) (y:=.int r) (BZ (e:=D.int) (L:=R) za za (CZ hj) c) za<|rfl)
     by_cases d:r0=r
     .rw[decide_eq_true d]at t4;change _=OS.rt (W.d<|.str (if r0=r then "same" else if sO ps K R (kk K l) r then "apart" else "takes")) bx;rw[if_pos d];show jH<|(jI t4).trans za
     .rw[decide_eq_false d]at t4;change _=OS.rt (W.d<|.str (if r0=r then "same" else if sO ps K R (kk K l) r then "apart" else "takes")) bx;rw[if_neg d];refine(fE<|(gU t4).trans za).trans ?_;obtain⟨q,mq,eq⟩:∃ q∈R,q.1=l:=by
       unfold look at c;cases f:R.find? λq=>decide (q.1=l) with
       |none=>rw[f]at c;cases c
       |some q=>show#[q,Yg f,by have:=Yh f;simpa using this]
      let#[v,hv]:=Option.isSome_iff_exists.mp<|J.sub q mq;rw[eq]at hv;have ev:kk K l=v:=by unfold kk;rw[hv];rfl
      have t5:=tE "in" (xN r) ah;rw[decide_eq_false (show ¬ dg (.to h' l r)="in" by change ¬ ("to":Str)="in";rw[DT];show id)]at t5;have kv:kP (dB<|d2 af aZ (dV 4)<|dC<|.str "in") (d2 af aF (dV 3)<|dC<|.int 3) (kU (dV 1)<|dV 5) [ae<|.d<|hs rs ks ps hd,xB i,xB j,ae<|.d<|enc<|.to h' l r,ae<|.d<|.str<|dg<|.to h' l r,xN<|bX<|.to h' l r,xN r,ah,ah] bx=.val (.d<|.int<|kk K l) bx:=by
       unfold kP;rw[t5,fX,ev];show BZ (e:=D.int) (L:=K) za za (CZ hi) hv
      show(fE<|ik kv).trans (Tz h J hn hi hj _ _ _ _ (kk K l) r)
 |out h' l=>
   have t1:=tE "in" ah ah;rw[decide_eq_false (show ¬ dg (.out h' l)="in" by change ¬ ("out":Str)="in";rw[Mf];show id)]at t1 tN;refine(fE<|(gU<|lN t1).trans za).trans ?_;have t2:=jf tN iR;change _=OS.rt (W.d<|.str (match look R l with|none=>"none"|some _=>"takes")) bx;cases c:look R l with
   |none=>
     rw[show look R (bX<|.out h' l)=ah from c]at t2;show jH<|(jI t2).trans za
   |some r0=>
     rw[show look R (bX<|.out h' l)=ae r0 from c]at t2;show(fE<|(gU t2).trans za).trans (jH<|(jI<|tE "out" ah ah).trans za)
end
open bR

theorem F7 {q}(m:q∈put L x v):(q.1=x /\ q.2=v) \/ q∈L:=by
 unfold put at m;split at m
 .let#[p,mp,rfl]:=bc.mp m;by_cases h:p.1=x
  .rw[if_pos h];show .inl #[h,rfl]
  .rw[if_neg h];show .inr mp
 .rcases dZ.mp m with m|m
  .show .inr m
  .cases eY.mp m;show .inl #[rfl,rfl]
theorem Mn {v:α}(nd:(L.map (·.1)).Nodup):((put L x v).map (·.1)).Nodup:=by
 unfold put;split
 .rw[cw];have:((λq:Int×α=>q.1)∘λq=>if q.1=x then (q.1,v) else q)=λq=>q.1:=by
   funext q;by_cases h:q.1=x<;>simp[h]
  rw[this];show nd
 .ext h;rw[Ib,sW];refine#[nd,by simp,λa ma b mb=>?_];cases (eY.mp mb);let#[q,mq,rfl]:=bc.mp ma;show λz=>h<|List.any_eq_true.mpr #[q,mq,decide_eq_true z]
theorem Bj (h:look L x=ae v):∃ q∈L,q.1=x:=by
 unfold look at h;cases f:L.find? λq=>decide (q.1=x) with
 |none=>rw[f]at h;cases h
 |some q=>show#[q,Yg f,by have:=Yh f;simpa using this]
theorem oR:(look L x).isSome=ag ↔ ∃ q∈L,q.1=x:=by
 constructor
 .intro h;let#[v,h]:=Option.isSome_iff_exists.mp h;show Bj h
 .rintro⟨q,m,rfl⟩;unfold look;rw[wU,List.find?_isSome];show#[q,m,by simp]
theorem Mo (h:y=x \/ (look L y).isSome=ag):(look (put L x v) y).isSome=ag:=by
 rw[oR];have key:∀ z,(∃ q∈L,q.1=z)->∃ q∈put L x v,q.1=z:=λz ⟨q,m,e⟩=>by
  unfold put;split
  .refine#[if q.1=x then (q.1,v) else q,wM m,?_];split<;>show e
  .show#[q,nU _ m,e]
 rcases h with rfl|h
 .by_cases c:(look L y).isSome=ag
  .show key y<|oR.mp c
  .unfold put;rw[if_neg]
   .show#[(y,v),by simp,rfl]
   .intro z;let#[q,m,e]:=List.any_eq_true.mp z;show c<|oR.mpr #[q,m,of_decide_eq_true e]
 .show key y<|oR.mp h
theorem kn.step {K}(J:kn K R n) (h:word ps K R g="takes"):kn (stK K g) (rD R g) (n+1):=by
 have lk:=J.lk;have lr:=J.lr;cases g with
 |cy h' l k r p w=>
   have a:=BX K l k;have b:=BX R l r;refine#[Mn J.nd,λq m=>?_,by change (put K l k).length<=_;lia,by change (put R l r).length<=_;lia];rcases F7 m with m|m
   .show Mo<|.inl m.1
   .show Mo<|.inr<|J.sub q m
 |to h' l r=>
   have b:=BX R l r;refine#[Mn J.nd,λq m=>?_,by change K.length<=_;lia,by change (put R l r).length<=_;lia];rcases F7 m with m|m
   .rw[m.1];cases c:look R l with
    |none=>
      simp[word,c]at h;show absurd h (by decide)
    |some v=>
      let#[q0,m0,e0]:=Bj c;rw[<-e0];show J.sub q0 m0
   .show J.sub q m
 |out h' l=>
   refine#[(λnd=>nd.sublist<|(List.filter_sublist).map _) J.nd,λq m=>J.sub q (List.mem_filter.mp m).1,by change K.length<=_;lia,?_];have:=QI (λq:Int×Int=>decide (q.1≠l)) R;change (yj R l).length<=_;unfold yj
   lia
def tq (x:Pg×Str×D×D):D:=.tup [enc x.1,.str x.2.1,x.2.2.1,x.2.2.2]
section

def Bk (bx:List Bx) (T:List<|Pg×Str×D×D) (K R:Al):List Bx:=bx++[.lst<|T.map tq,.az<|bw K,.az<|bw R]
variable {K:Al}
theorem Hj:(Bk bx T K R)[bx.length]?=ae (.lst<|T.map tq):=by simp[Bk]
theorem abe:(Bk bx T K R)[bx.length+1]?=ae (.az<|bw K):=by simp[Bk]
theorem Hk:(Bk bx T K R)[bx.length+2]?=ae (.az<|bw R):=by simp[Bk]
theorem abf:(Bk bx T K R).set bx.length (.lst<|T'.map tq)=Bk bx T' K R:=by simp[Bk]
theorem afS:(Bk bx T K R).set (bx.length+1) (.az<|bw K')=Bk bx T K' R:=by simp[Bk]
theorem V8:(Bk bx T K R).set (bx.length+2) (.az<|bw R')=Bk bx T K R':=by simp[Bk]
theorem Sg (h1:g w env bx=ae (ba,bx1)) (h2:body ba bx1=.ct cD aq):eu g body (w::l) env bx=eu g body l cD aq:=by
 rw[eu,h1];simp[h2]
noncomputable abbrev rE (H P:D) (t:Nat) (x5 x6 x7:Option W):bt:=[ae<|.d H,ae<|.d P,ae<|.b t,ae<|.b<|t+1,ae<|.b<|t+2,x5,x6,x7]

theorem Px (g) (w) (h:env[5]?=ae (ae<|.d<|enc g)):dB (d2 af aZ (d2 af aF (dV 5)<|dC<|.int 1)<|dC<|.str w) env B=.val (decide (dg g=w)) B:=by
 refine fT<|fQ ?_ za<|eq_str _ _;cases g<;>simp[h,enc,cU,bV,kh,aF,bU,cT,dg]
theorem Mp (h:Hs rs ks ps hd) (J:kn K R n) (hn:n<=100) (g) (x6 x7) :
 fB (fO (d2 af aF (dV 5)<|dC<|.int 2)<|ff 6) (fB (fO (fq aJ.i0 4<|fc (dV 0)<|fc (dV 3)<|fc (dV 4)<|fc (dV 5) fe)<|ff 7) k) (rE (hs rs ks ps hd) P bx.length (ae<|.d<|enc g) x6 x7) (Bk bx T K R) =
  k (rE (hs rs ks ps hd) P bx.length (ae<|.d<|enc g) (xN<|bX g)<|ae<|.d<|.str<|word ps K R g) (Bk bx T K R):=
 (fE<|ik<|(λg h=>by
  cases g<;>simp[h,enc,cU,bV,kh,aF,bU,cT,bX]) g za).trans (fE<|ik<|fM za za<|Sf h J hn abe Hk g)
theorem Py (w:Str) (h:env[7]?=ae (ae<|.d<|.str w)):dB (d2 af cQ (dV 7)<|dC<|.str "takes") env B=.val (!decide (w="takes")) B:=
 fT (fQ (by unfold dV;rw[h]) za<|ne_str _ _)
theorem TB (h:Hs rs ks ps hd) (J:kn K R n) (hn:n<=100) (hT:T.length<=100) (g) (x6 x7) (c:¬ word ps K R g="takes") :
 rB (rE (hs rs ks ps hd) P bx.length (ae<|.d<|enc g) x6 x7) (Bk bx T K R)=.ct (rE (hs rs ks ps hd) P bx.length (ae<|.d<|enc g) (xN<|bX g)<|ae<|.d<|.str<|word ps K R g) (Bk bx (T++[(g,word ps K R g,.non,.non)]) K R):=by
 have z:=bB;refine(Mp h J hn g x6 x7).trans ?_;have t:=Py _ (env:=rE (hs rs ks ps hd) P bx.length (ae<|.d<|enc g) (xN<|bX g)<|ae<|.d<|.str<|word ps K R g) (B:=Bk bx T K R) za;rw[decide_eq_false c]at t;have a:=FT (m:=dV 2) (k:=fL<|fc (dV 5)<|fc (dV 7)<|fc (dC .non)<|fc (dC .non) fe) (env:=rE (hs rs ks ps hd) P bx.length (ae<|.d<|enc g) (xN<|bX g)<|ae<|.d<|.str<|word ps K R g) (bx:=Bk bx T K R) (d:=tq (g,word ps K R g,.non,.non)) za Hj (gM [enc g,.str<|word ps K R g,.non,.non] za (by simp;lia)) Hj (by simp;lia);rw[show T.map tq++[tq (g,word ps K R g,D.non,D.non)]=(T++[(g,word ps K R g,D.non,D.non)]).map tq by simp,abf]at a;rw[mP,jI t,fE<|mT a];rfl
noncomputable def dt:Pg->D
 |.cy _ _ _ r _ _=>.int r
 |.to _ _ r=>.int r
 |.out ..=>.non
theorem C0 (hv:v env B=.val (.d<|.int x) B) (hm:m env B=.val (.b i) B) (hk:k env B=.val (.d<|.int l) B) (hb:B[i]?=ae (.az<|bw L)) (hl:L.length<=1000):vU m k v env B=.nx env (B.set i<|.az<|bw<|put L l x):=by
 have z:=bB;unfold vU;rw[hv,iI,hm,iI,hk,iI];simp[hb,qu];rw[if_pos (by unfold bw kH;simp;lia),Ou]
theorem Pz (hm:m env B=.val (.b i) B) (hk:k env B=.val (.d<|.int l) B) (hb:B[i]?=ae (.az<|bw L)) (hs:(look L l).isSome=ag):ye m k env B=.nx env (B.set i<|.az<|bw<|yj L l):=by
 unfold ye;rw[hm,iI,hk,iI];simp[hb,qu];rw[if_pos (by rw[oQ,wU];show hs),Mh]
theorem Sh (hm:m env B=.val (.b i) B) (hk:k env B=.val (.d<|.int l) B) (hb:B[i]?=ae (.az<|bw L)):yd m k env B=.val (.d<|((look L l).map D.int).getD .non) B:=by
 unfold yd;rw[hm,fX];simp[hb,hk,fX,qu];rw[oQ];rfl
theorem C2 (c:word ps K R (.out h' l)="takes"):(look R l).isSome=ag:=by
 simp[word]at c;cases e:look R l with
 |none=>rw[e]at c;show absurd c (by decide)
 |some v=>rfl
theorem Si (h:Hs rs ks ps hd) (J:kn K R n) (hn:n<=100) (hT:T.length<=100) (g) (x6 x7) (c:word ps K R g="takes") :
 rB (rE (hs rs ks ps hd) P bx.length (ae<|.d<|enc g) x6 x7) (Bk bx T K R)=.nx (rE (hs rs ks ps hd) P bx.length (ae<|.d<|enc g) (xN<|bX g)<|ae<|.d<|.str<|word ps K R g) (Bk bx (T++[(g,word ps K R g,((look R<|bX g).map D.int).getD .non,dt g)]) (stK K g)<|rD R g):=by
 have z:sizeLine=16777216:=bB;have lk:=J.lk;have lr:=J.lr;refine(Mp h J hn g x6 x7).trans ?_;generalize hE:rE _ P bx.length _ _ _=E;have e2:∀ B,dV 2 E B=.val _ B:=λB=>by subst hE;rfl
 have e3:∀ B,dV 3 E B=.val _ B:=λB=>by subst hE;rfl
 have e4:∀ B,dV 4 E B=.val _ B:=λB=>by subst hE;rfl
 have e5:E[5]?=ae (ae<|.d<|enc g):=by subst hE;rfl
 have v5:∀ B,dV 5 E B=.val _ B:=λB=>by subst hE;rfl
 have e6:∀ B,dV 6 E B=.val _ B:=λB=>by subst hE;rfl
 have e7:∀ B,dV 7 E B=.val _ B:=λB=>by subst hE;rfl
 have t:=Py _ (env:=E) (B:=Bk bx T K R) (by subst hE;rfl);rw[decide_eq_true c]at t;refine(fE<|(gU t).trans za).trans ?_;have en:∀ B,fq aJ.fZ 1 (fc _ fe) E B=.val (.d<|dt g) B:=λB=>(fM (fj (v5 B) za) za<|BY g).trans (by cases g<;>rfl);have a:=FT (k:=fL<|fc (dV 5)<|fc (dV 7)<|fc (yd (dV 4)<|dV 6)<|fc (fq aJ.fZ 1<|fc (dV 5) fe) fe) (bx:=Bk bx T K R) (d:=tq (g,word ps K R g,((look R<|bX g).map D.int).getD .non,dt g)) (e2 _) Hj
  (gM [enc g,.str<|word ps K R g,((look R<|bX g).map D.int).getD .non,dt g] (fj (v5 _)<|fj (e7 _)<|fj (Sh (e4 _) (e6 _) Hk)<|fj (en _) za) (by simp;lia)) Hj (by simp;lia)
 rw[show T.map tq++[tq (g,word ps K R g,((look R<|bX g).map D.int).getD .non,dt g)]=(T++[(g,word ps K R g,((look R<|bX g).map D.int).getD .non,dt g)]).map tq by simp,abf]at a;refine(fE<|mT a).trans ?_;generalize T++[(g,word ps K R g,((look R<|bX g).map D.int).getD .non,dt g)]=T2;have ti:=Px g "in" (B:=Bk bx T2 K R) e5;have to:=λK2=>Px g "out" (B:=Bk bx T2 K2 R) e5;cases g with
 |cy h' l k r p w=>
   have p1:=C0 (v:=d2 af aF (dV 5)<|dC<|.int 3) (B:=Bk bx T2 K R) (env:=E) (by rw[G6,v5];rfl) (e3 _) (e6 _) abe (by lia);rw[afS]at p1;refine(fE<|(jI ti).trans p1).trans ?_;have to:=to<|put K l k;rw[decide_eq_false (show ¬ dg (.cy h' l k r p w)="out" by change ¬ ("in":Str)="out";rw[Tt];show id)]at to;have p2:=C0 (v:=fq aJ.fZ 1<|fc (dV 5) fe) (x:=r) (B:=Bk bx T2 (put K l k) R) (env:=E) (en _) (e4 _) (e6 _) Hk (by lia);rw[V8]at p2;show(gU to).trans p2
 |to h' l r=>
   rw[decide_eq_false (show ¬ dg (.to h' l r)="in" by change ¬ ("to":Str)="in";rw[DT];show id)]at ti;refine(fE<|(gU ti).trans za).trans ?_;have to:=to K;rw[decide_eq_false (show ¬ dg (.to h' l r)="out" by change ¬ ("to":Str)="out";rw[Oo];show id)]at to;have p2:=C0 (v:=fq aJ.fZ 1<|fc (dV 5) fe) (x:=r) (B:=Bk bx T2 K R) (env:=E) (en _) (e4 _) (e6 _) Hk (by lia);rw[V8]at p2;show(gU to).trans p2
 |out h' l=>
   rw[decide_eq_false (show ¬ dg (.out h' l)="in" by change ¬ ("out":Str)="in";rw[Mf];show id)]at ti;refine(fE<|(gU ti).trans za).trans ?_;have p2:=Pz (B:=Bk bx T2 K R) (env:=E) (e4 _) (e6 _) Hk<|C2 c;rw[show bX (.out h' l)=l from rfl,V8]at p2;show(jI<|to K).trans p2
def uV (ps:Al):Al->Al->List Pg->List D
 |_,_,[]=>[]
 |K,R,g::gs=>if word ps K R g="takes" then dt g::uV ps (stK K g) (rD R g) gs else .non::uV ps K R gs
theorem Jb (h:Hs rs ks ps hd):∀ (gs) (T) (K R) (n) (x5 x6 x7),kn K R n->n+gs.length<=100->T.length+gs.length<=100 ->
 ∃ T' K' R' y5 y6 y7,eu (ff 5) rB ((gs.map enc).map W.d) (rE (hs rs ks ps hd) P bx.length x5 x6 x7) (Bk bx T K R)=.nx (rE (hs rs ks ps hd) P bx.length y5 y6 y7) (Bk bx (T++T') K' R') /\ T'.map (λx=>(x.1,x.2.1))=gs.zip (wordsOf ps K R gs) /\ T'.map (λx=>x.2.2.2)=uV ps K R gs:=by
 intro l_;induction l_ with
 |nil=>show λT K R n x5 x6 x7 _ _ _=>#[[],K,R,x5,x6,x7,by simp[eu],rfl,rfl]
 |cons g gs aA=>
   intro T K R n x5 x6 x7 J hn hT;rw[a6]at hn hT;have g1:ff 5 (W.d<|enc g) (rE (hs rs ks ps hd) P bx.length x5 x6 x7) (Bk bx T K R)=ae (rE (hs rs ks ps hd) P bx.length (ae<|.d<|enc g) x6 x7,Bk bx T K R):=rfl;by_cases c:word ps K R g="takes"
   .have e:=Si (P:=P) (bx:=bx) (T:=T) h J (by lia) (by lia) g x6 x7 c;generalize ((look R<|bX g).map D.int).getD .non=x at e;let#[T',K',R',y5,y6,y7,e2,z,z2]:=aA (T++[(g,word ps K R g,x,dt g)]) (stK K g) (rD R g) (n+1) (ae<|.d<|enc g) (xN<|bX g) (ae<|.d<|.str<|word ps K R g) (J.step c) (by lia) (by simp;lia);refine#[(g,word ps K R g,x,dt g)::T',K',R',y5,y6,y7,?_,?_,?_]
    .rw[aQ,aQ,BR g1 e,e2,vi];rfl
    .unfold wordsOf;rw[if_pos c,qi,aQ,z]
    .unfold uV;rw[if_pos c,aQ,z2]
   .have e:=TB (P:=P) (bx:=bx) h J (by lia) (by lia) (T:=T) g x6 x7 c;let#[T',K',R',y5,y6,y7,e2,z,z2]:=aA (T++[(g,word ps K R g,.non,.non)]) K R n (ae<|.d<|enc g) (xN<|bX g) (ae<|.d<|.str<|word ps K R g) J (by lia) (by simp;lia);refine#[(g,word ps K R g,.non,.non)::T',K',R',y5,y6,y7,?_,?_,?_]
    .rw[aQ,aQ,Sg g1 e,e2,vi];rfl
    .unfold wordsOf;rw[if_neg c,qi,aQ,z]
    .unfold uV;rw[if_neg c,aQ,z2]
theorem V9:kn [] [] 0:=#[by simp,(λq m=>nomatch m),aB _,aB _]
theorem Mq (h:Hs rs ks ps hd) {gs:List Pg}(hl:qs.length<=16) (so:dF [.lst<|gs.map enc]=ae (.lst<|qs.map enc)) :
 ∃ T':List (Pg×Str×D×D),oI [.d<|hs rs ks ps hd,.d<|.lst<|gs.map enc] bx=.val (.d<|.lst<|T'.map tq) bx /\ T'.map (λx=>(x.1,x.2.1))=qs.zip (wordsOf ps [] [] qs) /\ T'.map (λx=>x.2.2.2)=uV ps [] [] qs:=by
 let#[T',K',R',y5,y6,y7,e,z,z2]:=Jb h qs [] [] [] 0 ah ah ah V9 (by lia) (by simp;lia);refine#[T',?_,z,z2];have s1:fO (gj ag fe) (ff 2) [ae<|.d<|hs rs ks ps hd,ae<|.d<|.lst<|gs.map enc,ah,ah,ah,ah,ah,ah] bx=.nx [ae<|.d<|hs rs ks ps hd,ae<|.d<|.lst<|gs.map enc,xB bx.length,ah,ah,ah,ah,ah] (bx++[.lst []]):=ik<|DO [] za<|dA _;have s2:fO (dY ag []) (ff 3) [ae<|.d<|hs rs ks ps hd,ae<|.d<|.lst<|gs.map enc,xB bx.length,ah,ah,ah,ah,ah] (bx++[.lst []])=.nx [ae<|.d<|hs rs ks ps hd,ae<|.d<|.lst<|gs.map enc,xB bx.length,xB<|bx.length+1,ah,ah,ah,ah] (bx++[.lst [],.az []]):=by
  have:dY ag [] [ae<|.d<|hs rs ks ps hd,ae<|.d<|.lst<|gs.map enc,xB bx.length,ah,ah,ah,ah,ah] (bx++[.lst []])=.val (.b<|bx.length+1) (bx++[.lst [],.az []]):=by
   simp[dY,bZ]
  show ik this
 have s3:fO (dY ag []) (ff 4) [ae<|.d<|hs rs ks ps hd,ae<|.d<|.lst<|gs.map enc,xB bx.length,xB<|bx.length+1,ah,ah,ah,ah] (bx++[.lst [],.az []])=.nx (rE (hs rs ks ps hd) (.lst<|gs.map enc) bx.length ah ah ah) (Bk bx [] [] []):=by
  have:dY ag [] [ae<|.d<|hs rs ks ps hd,ae<|.d<|.lst<|gs.map enc,xB bx.length,xB<|bx.length+1,ah,ah,ah,ah] (bx++[.lst [],.az []])=.val (.b<|bx.length+2) (Bk bx [] [] []):=by
   simp[dY,bZ,Bk,kH]
  show ik this
 have it:bP (dN af dF<|fc (dV 1) fe) (rE (hs rs ks ps hd) (.lst<|gs.map enc) bx.length ah ah ah) (Bk bx [] [] [])=.val ((qs.map enc).map W.d) (Bk bx [] [] []):=
  iB (ie (r:=.lst<|qs.map enc) [.lst<|gs.map enc] (fj za za) so)
 have b:Lz [ae<|.d<|hs rs ks ps hd,ae<|.d<|.lst<|gs.map enc,ah,ah,ah,ah,ah,ah] bx=.rt (.d<|.lst<|T'.map tq) ((Bk bx T' K' R').set bx.length .dead):=by
  refine(fE s1).trans ((fE s2).trans<|(fE s3).trans<|(fE<|(mf it).trans e).trans ?_);rw[vo];show gx<|Tr za Hj
 refine(lc (ws:=[.d<|hs rs ks ps hd,.d<|.lst<|gs.map enc]) b).trans ?_;simp[Bk,List.take_append]
theorem afT:∀ (T:List _) (w0 w1 w2 w3) (acc),acc.length+T.length<=1000 ->
 bu g4 ge (fL<|fc (dV 0)<|fc (dV 1) fe) ((T.map tq).map W.d) [w0,w1,w2,w3] B acc=.val (acc++T.map λx=>.tup [enc x.1,.str x.2.1]) B:=by
 intro l_;induction l_ with
 |nil=>(intro _ _ _ _ acc _;simp[bu])
 |cons x T aA=>
   intro w0 w1 w2 w3 acc hl;have z:=bB;rw[a6]at hl;have ih:=aA (ae<|.d<|enc x.1) (ae<|.d<|.str x.2.1) (ae<|.d x.2.2.1) (ae<|.d x.2.2.2) (acc++[.tup [enc x.1,.str x.2.1]]) (by simp;lia);have e0:g4 (W.d<|tq x) [w0,w1,w2,w3] B=ae ([ae<|.d<|enc x.1,ae<|.d<|.str x.2.1,ae<|.d x.2.2.1,ae<|.d x.2.2.2],B):=rfl;have e1:fL (fc (dV 0)<|fc (dV 1) fe) [ae<|.d<|enc x.1,ae<|.d<|.str x.2.1,ae<|.d x.2.2.1,ae<|.d x.2.2.2] B=.val (.d<|.tup [enc x.1,.str x.2.1]) B:=gM [enc x.1,.str x.2.1] za (by simp;lia);erw[aQ,bu,e0,oJ,mO,e1];rw[if_pos (by lia),ih];simp
end
noncomputable abbrev At:=List<|Int×(Int×Int)
noncomputable abbrev ml (n:Nat):List (Str×Nat):=[("there",n),("came",n+1),("gone",n+2),("doors",n+3),("at",n+4),("words",n+5)]
noncomputable def rF:Pg->Int
 |.cy h ..=>h
 |.to h ..=>h
 |.out h _=>h
end aJ
namespace bR
open L2 L2.DL K1 K2

theorem Sj (h1:m env bx=.val (.b j) bx1) (h2:k env bx1=.val (.d<|.lst r) aq) (g:aq[j]?=ae (.lst l)) (hl:l.length+r.length<=sizeLine):d2 ag fP m k env bx=.val (.b aq.length) (aq++[.lst<|l++r]):=by
 rw[G6,h1,fX,h2,fX];have r1:bF aq (.b j)=ae (.lst l):=by simp[bF,g]
 rw[r1,om,bI,bI,show fP (.lst l) (.lst r)=ae _ from if_pos hl];rfl
end bR
namespace aJ
open L2 L2.DL K1 pk bR
def yk (ps K R:Al) (g:Pg):Al:=if word ps K R g="takes" then stK K g else K
def ym (ps K R:Al) (g:Pg):Al:=if word ps K R g="takes" then rD R g else R
theorem F8 {K}(h:¬ word ps K R g="takes"):yk ps K R g=K /\ ym ps K R g=R:=#[if_neg h,if_neg h]
theorem B3 {K}(h:word ps K R g="takes"):yk ps K R g=stK K g /\ ym ps K R g=rD R g:=#[if_pos h,if_pos h]
theorem kn.nx {K}(J:kn K R n) (g):kn (yk ps K R g) (ym ps K R g) (n+1):=by
 by_cases c:word ps K R g="takes"
 .rw[(B3 c).1,(B3 c).2];show J.step c
 .rw[(F8 c).1,(F8 c).2];show#[J.nd,J.sub,XO J.lk,XO J.lr]

theorem TC (g) (h:env[3]?=ae (ae<|.d<|enc g)):d2 af aF (dV 3) (dC<|.int 0) env B=.val (.d<|.int<|rF g) B:=by
 cases g<;>simp[h,enc,cU,bV,kh,aF,bU,cT,rF]
abbrev Wa (ft:List W->List Bx->O W):aE:=(fO (d2 af fP (dV 3)<|gc af [ah,ae 0,ae 4] (eP<|fc (dV 4) fe) (ff 0) (dB<|d2 af aZ (fq ft 2<|fc (dV 1)<|fc (dC<|.int 3) fe)<|dC<|.int 0)<|fL<|fc (dV 0)<|fc (dV 2) fe)<|ff 3)
theorem Jc (h:n<bx.length) (k) (hk:k<=4) (p):∃ is:List Nat,∃ q,is.Sublist (List.range k) /\
 bu (ff 0) (dB<|d2 af aZ (fq K1.fk 2<|fc (dV 1)<|fc (dC<|.int 3) fe)<|dC<|.int 0) (fL<|fc (dV 0)<|fc (dV 2) fe) (f9 0 k) [ah,xB n,xN k] (pt bx n p) []=.val (is.map λ(i:Nat)=>dP ((i),(k))) (pt bx n q):=by
 have z2:(2)<=sizeLine:=by decide
 have sz:=bB
 let#[l',q,e,s]:=L3 (g:=ff 0) (tf:=dB<|d2 af aZ (fq K1.fk 2<|fc (dV 1)<|fc (dC<|.int 3) fe)<|dC<|.int 0) (te:=fL<|fc (dV 0)<|fc (dV 2) fe) (λe=>∃ w,e=[w,xB n,xN k]) (λw=>.tup [match w with|.d x=>x|_=>.non,.int k]) (bx:=bx) (n:=n) (f9 0 k) [ah,xB n,xN k] p [] #[ah,rfl] (by
  intro w mw env p ⟨w0,je⟩;let#[i,_,rfl]:=bc.mp mw;show#[[xN<|0+(i),xB n,xN k],decide (p % 3=0),p / 3,by simp[je],#[_,rfl],by simp[(gO h p 3 (by decide) (by decide)),aZ],rfl]) (by simp[f9];lia)
 let#[is,s1,rfl]:=List.sublist_map_iff.mp s;refine#[is,q,s1,?_];rw[e,vo,cw];congr 1;refine vm λi _=>?_;simp
theorem Mr (x1 x2:Option W) {ps:List (Int×Int)}{is:List Nat}(hk:k<=4) (y:ps.length+is.length<=sizeLine)
 (e:bu (ff 0) (dB<|d2 af aZ (fq ft 2<|fc (dV 1)<|fc (dC<|.int 3) fe)<|dC<|.int 0) (fL<|fc (dV 0)<|fc (dV 2) fe) (f9 0 k) [ah,xB n,xN k] (pt bx n p) []=.val (is.map λ(i:Nat)=>dP ((i),(k))) (pt bx n q)) :
 Wa ft [xB n,x1,x2,xP ps,xN<|k] (pt bx n p)=.nx [xB n,x1,x2,xP<|ps++is.map λ(i:Nat)=>((i:Int),(k:Int)),xN<|k] (pt bx n q):=by
 have ad:fP (.lst<|ps.map dP) (.lst<|is.map λ(i:Nat)=>dP ((i),(k)))=ae (.lst<|(ps++is.map λ(i:Nat)=>((i:Int),(k:Int))).map dP):=by
  refine(if_pos (by rw[aV,aV];show y)).trans ?_;rw[Ib,cw];rfl
 unfold Wa
 rw[DM,G6,show dV 3 _ _=.val _ _ from rfl,fX,BM,(BU (env:=[ae _,x1,x2,ae _,ae _]) (bx:=pt bx n p) (k:=k) (m:=fc _ fe) (rfl) (by lia)),fX,
  show eA _ _=[ah,ae _,ae _] from rfl,e,fX,iU,fX,l9,om,om,bI,bI,ad,iU,l9,iI,CK]
 rfl
theorem Ms (h:n<bx.length) (x1 x2):∀ (c k) (p) (ps) (w),k+c<=4->Hh k ps ->
 ∃ uK w' q,eu (ff 4) (Wa K1.fk) ((List.range' k c).map λ(i:Nat)=>W.d<|.int<|0+(i)) [xB n,x1,x2,xP ps,w] (pt bx n p)=.nx [xB n,x1,x2,xP uK,w'] (pt bx n q) /\ Hh (k+c) uK:=by
 intro c;induction c with
 |zero=>intro k p ps w _ s;show#[ps,w,p,rfl,s]
 |succ c ih=>
   intro k p ps w hk s;let#[is,q,s1,e]:=Jc h k (by lia) p;have li:is.length<=k:=by have:=s1.length_le;simpa using this
   let#[uK,w',q',e2,s2]:=ih _ q _ _ (by lia)<|s.more s1 (by lia);refine#[uK,w',q',?_,by rw[show k+(c+1)=k+1+c by lia];show s2];have sz:=bB;have pl:=s.l;have g1:ff 4 (W.d<|.int<|0+(k)) [xB n,x1,x2,xP ps,w] (pt bx n p)=ae ([xB n,x1,x2,xP ps,xN<|k],pt bx n p):=by
    rw[YJ];rfl
   rw[List.range'_succ,aQ,BR g1<|Mr x1 x2 (ps:=ps) (by lia) (by lia) e];show e2
theorem F9 (h:n<bx.length) (p) {P:D->zb}(k0:0<k) (k5:k<=5) (ht:∀ (w) (p),∃ d q,te [ae w,xB n] (pt bx n p)=.val (.d d) (pt bx n q) /\ P d):∃ ds q,(∀ d∈ds,P d) /\ 1<=ds.length /\ (ds.length)<=k /\ ∀ {env},env[0]?=ae (xB n)->dN af qp (fc (gc af [ah,ae 0] (eP<|fc (d2 af fP (dC<|.int 1)<|fq K1.fk 2<|fc (dV 0)<|fc (dC<|.int k) fe) fe) (ff 0) ge te) fe) env (pt bx n p)=.val (.d<|.tup ds) (pt bx n q):=by
 have sz:=bB;let#[r,q1,t,r0,r1]:=bR.p9 h p k k0 (by lia);let#[j,rfl]:=Io r0
 let#[ds,q,e1,e2,e3]:=FR (g:=ff 0) (λe=>∃ w,e=[w,xB n]) P (f9 0<|1+j) _ q1 [] #[ah,rfl] (by
  intro w _ env p ⟨w0,je⟩;let#[d,q,e,m]:=ht w p;show#[[ae w,xB n],by simp[je],#[_,rfl],d,q,e,m]) (by simp[f9];lia)
 have n5:ds.length=1+j:=by rw[e2];simp[f9]
 simp[vo]at e1;refine#[ds,q,e3,by lia,by lia,λ{env} he=>?_];have rg:=Aw (fj (ks:=fe) (fQ (g:=fP) (m:=dC<|.int 1) za (t (env:=env) he (m:=dC<|.int k) za) za) za) (by lia);rw[show (1+(j:Int)).toNat=1+j by lia]at rg;show ie (r:=.tup ds) [.lst ds] (fj (iP rg (by simp[oo,oq,As,he,bI,id]) e1) za) za
theorem Mu (h:n<bx.length) (p):∃ rs ks ps hd q,iM [.b n] (pt bx n p)=.val (.d<|hs rs ks ps hd) (pt bx n q) /\ Hs rs ks ps hd:=by
 let#[rs,q1,hr,r1,r5,e1]:=F9 h p (te:=fq K1.fk 2<|fc (dV 1)<|fc (dC<|.int 4) fe) (P:=λd=>wi d 0 3=ag) (k:=5) (by decide) (by decide) (λw p=>by
  let#[r,q,t,a,b]:=bR.p9 h p 4 (by decide) (by decide);show#[.int r,q,t za za,by simp[wi];lia])
 let#[ks,q2,hk,k1,k4,e2]:=F9 h q1 (te:=fq K1.g9 1<|fc (dV 1) fe) (k:=4) (by decide) (by decide) (λw p=>by
  let#[d,q,e,m]:=Oe h p;show#[d,q,fM za za e,m])
 let#[ps,w',q3,e3,s3]:=Ms h (ae<|.d<|.tup rs) (ae<|.d<|.tup ks) ks.length 0 q2 [] ah (by lia) #[.nil,(λp m=>nomatch m),aB _];rw[wH]at s3;have pl:=s3.l;let#[qs,pq,so,e4]:=Of ps (by lia);let#[hd,q4,hh,e5]:=Og h q3 (ae<|.d<|.tup rs) (ae<|.d<|.tup ks) (xP ps) w';have hb:∀ p∈qs,0<=p.1 /\ p.1<p.2 /\ p.2<(ks.length):=λp m=>s3.b p<|pq.mem_iff.mp m;have lq:qs.length<=16:=by rw[pq.length_eq];lia
 refine#[rs,ks,qs,hd,q4,jO ?_ (by rw[fN,fN];show aB _),#[by lia,by lia,by lia,by lia,λp m=>(hb p m).2.1,by lia,?_]]
 .have sz:=bB;show qS (e1 za)<|qS (e2 za)<|qS (ig [] za<|dA _)<|(fE<|(mf<|BU (env:=[xB n,ae<|.d<|.tup rs,ae<|.d<|.tup ks,xP<|[],ah]) (bx:=pt bx n q2) (k:=ks.length) (m:=fc (dN af aS<|fc (dV 2) fe) fe) (rfl) (by lia)).trans (by unfold f9;rw[List.range_eq_range'];show e3)).trans<|gx<|gM [.tup rs,.tup ks,.tup<|qs.map dP,hd] (fj za<|fj za<|fj (ie (r:=.tup<|qs.map dP) [.lst<|qs.map dP] (fj (ie (r:=.lst<|qs.map dP) [.lst<|ps.map dP] (fj za za) e4) za) za)<|fj e5 za) (show (4:Nat)<=sizeLine by lia)
 .have a:apart (ks.length:Int) (.tup<|qs.map dP)=ag:=by
   have b1:(qs.map dP).all (yi (ks.length:Int))=ag:=by
    rw[wR,cb];intro p m;have:=hb p m;simp[yi,tl]
    lia
   change (((qs.map dP).all<|yi (ks.length:Int))&&incr ((qs.map dP).filterMap toP))=ag;rw[FK,b1,(FS so<|pq.nodup_iff.mpr s3.nd)];rfl
  have afU:rooms (.tup rs)=ag:=by simp[rooms,tl,cb.mpr hr];lia
  have qL:kinds (.tup ks)=ag:=by simp[kinds,tl,cb.mpr hk];lia
  simp[house,lenOf,afU,qL,a,hh,HU]
theorem AE {α:Type}:∀ {l:List α}{c} (h),(l[c]::l.eraseIdx c).Perm l
 |a::l,0,_=>.refl _
 |a::l,c+1,h=>(List.Perm.swap _ _ _).trans<|(AE<|Nat.lt_of_succ_lt_succ h).cons a
abbrev afV:DE W:=xT (dV 2)<|fq K1.fk 2<|fc (dV 1)<|fc (dN af aS<|fc (dV 2) fe) fe
theorem DV (h:n<bx.length):∀ (l) (left) (w) (p) (acc),left.length=l.length->left.length<=1000->acc.length+l.length<=sizeLine ->
 ∃ ds q,bu (ff 0) ge afV l [w,xB n,xB bx.length] (pt (bx++[.lst left]) n p) acc=.val (acc++ds) (pt (bx++[.lst []]) n q) /\ ds.Perm left:=by
 intro l_;induction l_ with
 |nil=>
   intro left w p acc hl _ _;cases left with
   |nil=>show#[[],p,by simp[bu],.refl _]
   |cons a b=>simp at hl
 |cons u l aA=>
   intro left w p acc hl ahz z;have h1:n<(bx++[Bx.lst left]).length:=by simp;lia
   have b0:=oP (p:=p) (x:=.lst left) h;have ln:dN af aS (fc (dV 2) fe) [ae u,xB n,xB bx.length] (pt (bx++[.lst left]) n p)=.val (.d<|.int left.length) (pt (bx++[.lst left]) n p):=Sb za b0;have lp:0<left.length:=by rw[hl];simp
   let#[r,q,t,r0,r1]:=DQ h1 (i:=1) za ln (by lia) (by lia);let#[c,rfl]:=Io r0;have hc:c<left.length:=by lia
   have b1:=oP (p:=q) (x:=.lst left) h;have pv:=Oj (m:=dV 2) za b0 t b1 #[by lia,by lia] ((λh=>by
    unfold cT;simp
    lia) hc)<|cW hc
   rw[FW h]at pv;have z':acc.length<sizeLine:=by erw[a6]at z;lia
   have el:(left.eraseIdx c).length=l.length:=by rw[List.length_eraseIdx_of_lt hc,hl];simp
   let#[ds,q',e3,e4]:=aA (left.eraseIdx c) (ae u) q (acc++[left[c]]) el (by rw[el];simp at hl;lia) (by erw[bG,a6,nW]at z ⊢;lia);refine#[left[c]::ds,q',?_,?_]
   .have g0:ff 0 u [w,xB n,xB bx.length] (pt (bx++[.lst left]) n p)=ae ([ae u,xB n,xB bx.length],pt (bx++[.lst left]) n p):=rfl;erw[bu,g0,oJ,mO,pv,if_pos z',e3];simp
   .show(e4.cons _).trans (AE hc)
theorem Ox (h:n<bx.length) (p) (l) (hl:l.length<=1000):∃ ds q,jF [.b n,.d<|.lst l] (pt bx n p)=.val (.d<|.lst ds) (pt bx n q) /\ ds.Perm l:=by
 have sz:=bB;let#[ds,q,e1,e2]:=DV h (l.map W.d) l ah p [] (by simp) hl (by simp;lia);have s1:fO (dN ag qU<|fc (dV 1) fe) (ff 2) [xB n,ae<|.d<|.lst l,ah] (pt bx n p)=.nx [xB n,ae<|.d<|.lst l,xB bx.length] (pt (bx++[.lst l]) n p):=by
  have a:dN ag qU (fc (dV 1) fe) [xB n,ae<|.d<|.lst l,ah] (pt bx n p)=.val (.b bx.length) (pt (bx++[.lst l]) n p):=by
   rw[N5,fj rfl rfl,fX,<-iW h];have:=fN (bx:=bx) (n:=n) (p:=p);change O.val (W.b (pt bx n p).length) _=_;rw[this]
  show ik a
 have M:j6 [xB n,ae<|.d<|.lst l,ah] (pt bx n p)=.rt (.d<|.lst ds) (pt (bx++[.lst []]) n q):=by
  unfold j6;show(fE s1).trans (gx<|iP (iB za) za e1)
 refine#[ds,q,(lc M).trans ?_,e2];rw[fN,CV h]

theorem B4 (h:env[i]?=ae (ae<|.d<|hs rs ks ps hd)):dN af aS (fc (d2 af aF (dV i)<|dC<|.int 0) fe) env B=.val (.d<|.int<|rs.length) B:=ie (r:=.old<|.int<|rs.length) [.tup rs] (fj (fQ (r:=.old<|.tup rs) (by unfold dV;rw[h]) za za) za)<|rfl
theorem Mv (h:env[i]?=ae (ae<|.d<|hs rs ks ps hd)):dN af aS (fc (d2 af aF (dV i)<|dC<|.int 1) fe) env B=.val (.d<|.int<|ks.length) B:=ie (r:=.old<|.int<|ks.length) [.tup ks] (fj (fQ (r:=.old<|.tup ks) (by unfold dV;rw[h]) za za) za)<|rfl
theorem Oy (h:n<bx.length) (H:Hs rs ks ps hd) (p near) (h0:0<near) (h1:near<=40):∃ g q,iF [.b n,.d<|hs rs ks ps hd,.d<|.int near] (pt bx n p)=.val (.d<|enc g) (pt bx n q) /\ uU rs.length ks.length g /\ rF g<near:=by
 have sz:=bB;have r1:=H.r1;have r5:=H.r5;have k1:=H.k1;have k4:=H.k4;let#[a,q1,t1,a0,a1]:=p9 h p near h0 (by lia);let#[v,q2,t2,mv]:=afQ h q1 [3,10] (fc (dC<|.int 3)<|fc (dC<|.int 10) fe) (λ_ _=>rfl) za (by decide) (by decide);have hv:0<v /\ v<=10:=by simp at mv;lia
 let#[l,q3,t3,l0,l1]:=p9 h q2 v hv.1 (by lia);let#[r,q4,t4,c0,c1]:=p9 h q3 rs.length (by lia) (by lia);let#[w,q5,t5,w0,w1]:=p9 h q4 5 (by decide) (by decide);have fin:∀ {g:Pg}{q:Int},Ar [xB n,ae<|.d<|hs rs ks ps hd,xN near,ah,ah,ah,ah,ah] (pt bx n p)=.rt (.d<|enc g) (pt bx n q)->iF [.b n,.d<|hs rs ks ps hd,.d<|.int near] (pt bx n p)=.val (.d<|enc g) (pt bx n q):=λe=>jO e (by rw[fN,fN];show aB _);have tz:∀ {e:bt},e[6]?=ae (xN w)->dB (d2 af aZ (dV 6)<|dC<|.int 0) e (pt bx n q5)=.val (decide (w=0)) (pt bx n q5):=λe=>fT<|fQ (r:=.old<|.bl<|decide (w=0)) (by rw[iG,e]) za<|rfl;have tt:∀ {e:bt},e[6]?=ae (xN w)->dB (d2 af kX (dV 6)<|dC<|.int 3) e (pt bx n q5)=.val (decide (w<3)) (pt bx n q5):=λe=>fT<|fQ (r:=.old<|.bl<|decide (w<3)) (by rw[iG,e]) za<|rfl;by_cases abg:w=0
 .rw[decide_eq_true abg]at tz;show#[.out a l,q5,fin<|(fE<|lG (t1 za za)<|t3 za<|t2 _ _ za).trans<|(fE<|lG (t4 za<|B4 za)<|t5 za za).trans<|qR (tz za)<|gM [.int a,.str "out",.int l] za (by simp;lia),#[a0,l0,by lia],a1]
 .rw[decide_eq_false abg]at tz;by_cases c2:w<3
  .rw[decide_eq_true c2]at tt;show#[.to a l r,q5,fin<|(fE<|lG (t1 za za)<|t3 za<|t2 _ _ za).trans<|(fE<|lG (t4 za<|B4 za)<|t5 za za).trans<|qF (tz za)<|qR (tt za)<|gM [.int a,.str "to",.int l,.int r] za (by simp;lia),#[a0,#[l0,by lia],c0,c1],a1]
  .rw[decide_eq_false c2]at tt;let#[x,q6,t6,x0,x1]:=p9 h q5 9 (by decide) (by decide);let#[y,q7,t7,y0,y1]:=p9 h q6 40 (by decide) (by decide);let#[c,q8,t8,e0,e1]:=p9 h q7 4 (by decide) (by decide);let#[d,ed,md]:=i9 (l:=[D.int 0,.int x,.int y,.int 999]) e0 (by simpa using e1);obtain⟨z,rfl,z0,z1⟩:∃ z,d=.int z /\ 0<=z /\ z<=999:=by
    simp at md;rcases md with rfl|rfl|rfl|rfl<;>show#[_,rfl,by lia,by lia]
   let#[k,q9,t9,f0,f1]:=p9 h q8 ks.length (by lia) (by lia);let#[u,qa,ta,u0,u1]:=p9 h q9 100 (by decide) (by decide);show#[.cy a l k r z u,qa,fin<|(fE<|lG (t1 za za)<|t3 za<|t2 _ _ za).trans<|(fE<|lG (t4 za<|B4 za)<|t5 za za).trans<|qF (tz za)<|qF (tt za)<|qS (fQ (r:=.old<|.int z) (ig [.int 0,.int x,.int y,.int 999] (fj za<|fj (t6 za za)<|fj (t7 za za)<|fj za za) (by simp;lia)) (t8 za za) (by erw[aF,ed,vp]))<|gx<|gM [.int a,.str "in",.int l,.int k,.int r,.int z,.int u] (fj za<|fj za<|fj za<|fj (t9 za<|Mv za)<|fj za<|fj za<|fj (ta za za) za) (by simp;lia),#[a0,#[l0,by lia],#[f0,f1],#[c0,c1],#[z0,z1],u0,by lia],a1]
noncomputable def cE:Pg->List Key
 |.cy h l k r p w=>[.inl h,.inr "in",.inl l,.inl k,.inl r,.inl p,.inl w]
 |.to h l r=>[.inl h,.inr "to",.inl l,.inl r]
 |.out h l=>[.inl h,.inr "out",.inl l]
def ke (g:Pg):List Key×D:=(cE g,.bl ag)
theorem B5 (g):D.tup ((cE g).map KA)=enc g:=by cases g<;>rfl
theorem C3 (g):∃ l,enc g=.tup l /\ uN l=ae (cE g):=by cases g<;>show#[_,rfl,rfl]
theorem C4 (h:cE a=cE b):a=b:=Ob (by rw[<-B5,<-B5,h])
theorem Oz (gs:List Pg):KC (gs.map ke)=gs.map enc:=by
 unfold KC;rw[cw];show vm λg _=>B5 g
theorem Sk {gs:List Pg}:∃ g2:List Pg,yh (gs.map ke) (cE g) (.bl ag)=g2.map ke /\ (gs.Nodup->g2.Nodup) /\ (∀ x∈g2,x∈gs \/ x=g) /\ g2.length<=gs.length+1:=by
 by_cases m:g∈gs
 .refine#[gs,?_,id,λx m=>.inl m,by lia];unfold yh;rw[if_pos]
  .rw[cw];refine vm λx _=>?_;change (if cE x=cE g then (cE x,D.bl ag) else ke x)=ke x;split<;>rfl
  .show List.any_eq_true.mpr #[ke g,wM m,by simp[ke]]
 .refine#[gs++[g],?_,λnd=>?_,λx mx=>?_,by simp]
  .unfold yh;rw[if_neg]
   .simp[ke]
   .intro z;let#[x,mx,e]:=List.any_eq_true.mp z;let#[y,my,rfl]:=bc.mp mx;show m<|C4 (of_decide_eq_true e)▸my
  .rw[sW];show#[nd,by simp,λa ma b mb=>by cases eY.mp mb;show λz=>m<|z▸ma]
  .rcases dZ.mp mx with z|z
   .show .inl z
   .show .inr<|eY.mp z

noncomputable abbrev gE (n b:Nat) (H:D) (mo near:Int) (x5 x6:Option W):bt:=[ae<|.b n,ae<|.d H,ae<|.d<|.int mo,ae<|.d<|.int near,ae<|.b b,x5,x6]
def Gd (nr nk:Nat) (near:Int) (g:Pg):zb:=uU nr nk g /\ rF g<near
theorem Um (g) (near:Int) (h:env[6]?=ae (ae<|.d<|enc g)):dB (d2 af aZ (d2 af aF (dV 6)<|dC<|.int 1)<|dC<|.str "in") env B=.val (decide (dg g="in")) B:=by
 refine fT<|fQ ?_ za<|eq_str _ _;cases g<;>simp[h,enc,cU,bV,kh,aF,bU,cT,dg]
theorem Uo (h:n<bx.length) (H:Hs rs ks ps hd) (near:Int) (h0:0<near) (h1:near<=40) {gs:List Pg}(nd:gs.Nodup) (ok:∀ g∈gs,Gd rs.length ks.length near g) (hl:gs.length<=100) (q:Int) (x5 x6:Option W) :
 ∃ (g2:List Pg) (q':Int) (y6:Option W),gB (gE n bx.length (hs rs ks ps hd) mo near x5 x6) (pt (bx++[.dT<|gs.map ke]) n q)=.nx (gE n bx.length (hs rs ks ps hd) mo near x5 y6) (pt (bx++[.dT<|g2.map ke]) n q') /\ g2.Nodup /\ (∀ g∈g2,Gd rs.length ks.length near g) /\ g2.length<=gs.length+1:=by
 have sz:=bB;have hn:n<(bx++[Bx.dT<|gs.map ke]).length:=by simp;lia
 let#[g,q1,e,og,hg]:=Oy hn H q near h0 h1;have s1:fO (fq aJ.iF 3<|fc (dV 0)<|fc (dV 1)<|fc (dV 3) fe) (ff 6) (gE n bx.length (hs rs ks ps hd) mo near x5 x6) (pt (bx++[.dT<|gs.map ke]) n q)=.nx (gE n bx.length (hs rs ks ps hd) mo near x5<|ae<|.d<|enc g) (pt (bx++[.dT<|gs.map ke]) n q1):=
  ik (fM za za e)
 have pu:∀ (g:Pg) (q2:Int),Gd rs.length ks.length near g->∃ g2:List Pg,KG (dV 4) (dV 6) (dC<|.bl ag) (gE n bx.length (hs rs ks ps hd) mo near x5<|ae<|.d<|enc g) (pt (bx++[.dT<|gs.map ke]) n q2)=.nx (gE n bx.length (hs rs ks ps hd) mo near x5<|ae<|.d<|enc g) (pt (bx++[.dT<|g2.map ke]) n q2) /\ g2.Nodup /\ (∀ g∈g2,Gd rs.length ks.length near g) /\ g2.length<=gs.length+1:=λg q2 og=>by
  let#[g2,e2,n2,m2,l2]:=Sk;let#[l,el,kl]:=C3 g;refine#[g2,?_,n2 nd,λx mx=>(m2 x mx).elim (ok x) λz=>z▸og,l2];unfold KG;have v6:dV 6 (gE n bx.length (hs rs ks ps hd) mo near x5<|ae<|.d<|enc g) (pt (bx++[.dT<|gs.map ke]) n q2)=.val (.d<|.tup l) (pt (bx++[.dT<|gs.map ke]) n q2):=by rw[<-el];rfl
  have v4:dV 4 (gE n bx.length (hs rs ks ps hd) mo near x5<|ae<|.d<|enc g) (pt (bx++[.dT<|gs.map ke]) n q2)=.val (.b bx.length) (pt (bx++[.dT<|gs.map ke]) n q2):=rfl;rw[Tj,iI,v4,iI,v6,iI];erw[(oP (p:=q2) (x:=.dT<|gs.map ke) h),kl];rw[if_pos (by simp;lia),e2,FW h]
 have tg:=Um g near (env:=gE n bx.length (hs rs ks ps hd) mo near x5<|ae<|.d<|enc g) (B:=pt (bx++[.dT<|gs.map ke]) n q1) za;by_cases c:dg g="in"
 .rw[decide_eq_true c]at tg;let#[r,q2,t,r0,r1]:=afP hn q1 (env:=gE n bx.length (hs rs ks ps hd) mo near x5<|ae<|.d<|enc g) (i:=0) za 3 (by decide) (by decide);have tt:=jf tg<|fT<|fQ (g:=ph) (r:=.old<|.bl<|decide (0<r)) (x:=.int r) (y:=.int 0) (m:=fq K1.fk 2<|fc (dV 0)<|fc (dC<|.int 3) fe) (k:=dC<|.int 0) t za<|rfl;by_cases d:0<r
  .rw[decide_eq_true d]at tt;cases g with
   |cy h' l k r' p w=>
     let#[o1,o2]:=og;have xC:h'<near:=hg;let#[g2,e2,n2,m2,l2]:=pu (.cy (h' / 3) l k r' p w) q2 #[#[by lia,o2],by change h' / 3<near;lia];show#[g2,q2,_,(fE s1).trans<|(fE<|(jI tt).trans<|(λx5=>by
      have c:xF h' 3:=by unfold xF;lia
      simp[enc,cU,bV,kh,aF,bU,cT,EA,c,qr,DL.cutD,HT.aY,fP,bB]) x5).trans e2,n2,m2,l2]
   |to _ _ _=>show absurd c (by change ¬ ("to":Str)="in";rw[DT];show id)
   |out _ _=>show absurd c (by change ¬ ("out":Str)="in";rw[Mf];show id)
  .rw[decide_eq_false d]at tt;let#[g2,e2,n2,m2,l2]:=pu g q2 #[og,hg];show#[g2,q2,_,(fE s1).trans<|(fE<|(gU tt).trans za).trans e2,n2,m2,l2]
 .rw[decide_eq_false c]at tg;let#[g2,e2,n2,m2,l2]:=pu g q1 #[og,hg];show#[g2,q1,_,(fE s1).trans<|(fE<|(gU<|lN tg).trans za).trans e2,n2,m2,l2]
theorem Mw (h:n<bx.length) (H:Hs rs ks ps hd) (p near) (h0:0<near) (h1:near<=40) (m0:0<=mo) (m1:mo<=16):∃ (gs:List Pg) (q:Int),iN [.b n,.d<|hs rs ks ps hd,.d<|.int mo,.d<|.int near] (pt bx n p)=.val (.d<|.lst<|gs.map enc) (pt bx n q) /\ gs.Nodup /\ (∀ g∈gs,Gd rs.length ks.length near g) /\ gs.length<=16:=by
 have sz:=bB;have hn:n<(bx++[Bx.dT []]).length:=by simp;lia
 have s1:fO yb (ff 4) [xB n,ae<|.d<|hs rs ks ps hd,xN mo,xN near,ah,ah,ah] (pt bx n p)=.nx (gE n bx.length (hs rs ks ps hd) mo near ah ah) (pt (bx++[.dT<|([]).map ke]) n p):=by
  have:yb [xB n,ae<|.d<|hs rs ks ps hd,xN mo,xN near,ah,ah,ah] (pt bx n p)=.val (.b bx.length) (pt (bx++[.dT []]) n p):=by
   unfold yb;rw[fN,iW h]
  show ik this
 let#[c,q1,t,c0,c1]:=DQ hn (env:=gE n bx.length (hs rs ks ps hd) mo near ah ah) (i:=0) (m:=d2 af fP (dV 2)<|dC<|.int 1) za (fQ (r:=.old<|.int<|mo+1) za za<|rfl) (by lia) (by lia);let#[c,rfl]:=Io c0;have rg:eP (fc (fq K1.fk 2<|fc (dV 0)<|fc (d2 af fP (dV 2)<|dC<|.int 1) fe) fe) (gE n bx.length (hs rs ks ps hd) mo near ah ah) (pt (bx++[.dT []]) n p)=.val (f9 0 c) (pt (bx++[.dT []]) n q1):=by
  rw[Aw (fj t rfl) (by lia),vq]
 let#[aP,bx',e,gs,q,w5,w6,rfl,rfl,nd,ok,l]:=mh (g:=ff 5) (body:=gB) (λi env b=>∃ (gs:List Pg) (q:Int) (w5 w6:Option W),env=gE n bx.length (hs rs ks ps hd) mo near w5 w6 /\ b=pt (bx++[.dT<|gs.map ke]) n q /\ gs.Nodup /\ (∀ g∈gs,Gd rs.length ks.length near g) /\ gs.length<=i) (f9 0 c) 0 (gE n bx.length (hs rs ks ps hd) mo near ah ah) (pt (bx++[.dT<|([]:List Pg).map ke]) n q1) #[[],q1,ah,ah,rfl,rfl,.nil,(λg m=>nomatch m),aB _] (by
  rintro i w env b hw ⟨gs,q,w5,w6,rfl,rfl,nd,ok,l⟩;let#[_,hi]:=DR hw;let#[g2,q',y6,e2,n2,m2,l2]:=Uo h H near h0 h1 nd ok (by lia) q (ae w) w6;show#[gE n bx.length (hs rs ks ps hd) mo near (ae w) w6,_,gE n bx.length (hs rs ks ps hd) mo near (ae w) y6,_,rfl,e2,g2,q',_,y6,rfl,rfl,n2,m2,by lia])
 have lr:(f9 0 c).length=c:=by simp[f9]
 rw[lr]at l;let#[ds,q2,e3,pm]:=Ox (bx:=bx++[.dT<|gs.map ke]) (n:=n) (by simp;lia) q (gs.map enc) (by simp;lia);let#[g2,rfl,pg]:=Ku pm za;have lt:KD af (dV 4) (gE n bx.length (hs rs ks ps hd) mo near w5 w6) (pt (bx++[.dT<|gs.map ke]) n q)=.val (.d<|.lst<|gs.map enc) (pt (bx++[.dT<|gs.map ke]) n q):=by
  have v4:dV 4 (gE n bx.length (hs rs ks ps hd) mo near w5 w6) (pt (bx++[.dT<|gs.map ke]) n q)=.val (.b bx.length) (pt (bx++[.dT<|gs.map ke]) n q):=rfl;unfold KD;rw[v4,fX];erw[(oP (p:=q) (x:=.dT<|gs.map ke) h),Oz];rfl
 refine#[g2,q2,?_,pg.nodup_iff.mpr nd,λg m=>ok g<|pg.mem_iff.mp m,by rw[pg.length_eq];lia];refine(lc (ws:=[.b n,.d<|hs rs ks ps hd,.d<|.int mo,.d<|.int near])<|(fE s1).trans<|(fE<|(mf rg).trans e).trans<|gx<|fM (l:=[.b n,.d<|.lst<|gs.map enc]) (fj za<|fj lt za) za e3).trans ?_;rw[fN,CV h]
end aJ
namespace kG
open L2 L2.DL K1 pk bR aJ
def pre (h:Int) (ps:Al):Al->Al->List Pg->Al×Al
 |K,R,[]=>(K,R)
 |K,R,g::gs=>if rF g<=h then pre h ps (yk ps K R g) (ym ps K R g) gs else (K,R)
abbrev abh (gs:List Pg):zb:=gs.Pairwise λa b=>rF a<=rF b
theorem Mx {K}:∀ {gs},(∀ g∈gs,¬ rF g<=h)->pre h ps K R gs=(K,R)
 |[],_=>rfl
 |g::gs,l=>by unfold pre;rw[if_neg<|l g<|bM ..]
def taken (ps:Al):Al->Al->List Pg->List Pg
 |_,_,[]=>[]
 |K,R,g::gs=>if word ps K R g="takes" then g::taken ps (stK K g) (rD R g) gs else taken ps K R gs
theorem My:∀ {gs}{K R}{T:List (Pg×Str×D×D)},T.map (λx=>(x.1,x.2.1))=gs.zip (aJ.wordsOf ps K R gs)->T.map (λx=>x.2.2.2)=uV ps K R gs ->
 (T.filter λx=>decide (x.2.1=("takes":Str))).map (λx=>(x.1,x.2.2.2))=(taken ps K R gs).map λg=>(g,dt g):=by
 intro l_;induction l_ with
 |nil=>
   intro K R T h _;have:=List.map_eq_nil_iff.mp h;subst this;rfl
 |cons g gs aA=>
   intro K R T h1 h2;unfold aJ.wordsOf at h1;unfold uV at h2;cases T with
   |nil=>cases h1
   |cons x T=>
     injection h1 with a b;let#[a1,a2]:=Prod.mk.inj a;unfold taken;by_cases c:word ps K R g="takes"
     .rw[if_pos c]at b h2 ⊢;rw[aQ]at h2;injection h2 with c1 c2;rw[wO (by rw[a2,c];decide),aQ,aQ,aA b c2,a1,c1]
     .rw[if_neg c]at b h2 ⊢;injection h2 with c1 c2;rw[wN (by rw[a2];simpa using c),aA b c2]
abbrev uW (q:Pg×D):D:=.tup [enc q.1,q.2,dt q.1]
theorem Wb (g) (h:env[3]?=ae (ae<|.d<|enc g)):d2 af aF (dV 3) (dC<|.int 2) env B=.val (.d<|.int<|bX g) B:=by
 cases g<;>simp[h,enc,cU,bV,kh,aF,bU,cT,bX]
theorem Sl (h1:g w env bx=ae (ba,bx1)) (h2:body ba bx1=.bk cD aq):eu g body (w::l) env bx=.nx cD aq:=by
 rw[eu,h1];simp[h2]
theorem Sn (h:a env bx=.bk ba bx1):fB a b env bx=.bk ba bx1:=by rw[mP,h]

theorem So {K}(J:kn K R n) (hn:n<=100) (c:word ps K R g="takes") (t:rF g<=h) (x:D) :
 KH [x0,xN h,xB bx.length,ae<|.d<|enc g,ae<|.d x,ae<|.d<|dt g] (bx++[.az<|bw R])=.nx [x0,xN h,xB bx.length,ae<|.d<|enc g,ae<|.d x,ae<|.d<|dt g] (bx++[.az<|bw<|rD R g]):=by
 have lr:=J.lr;refine(fE<|(gU<|fT<|fQ (r:=.old<|.bl af) (TC g za) za (by simp[ph];lia)).trans za).trans ?_;have b0:(bx++[Bx.az<|bw R])[bx.length]?=ae (.az<|bw R):=by simp
 have st:∀ L:Al,(bx++[Bx.az<|bw R]).set bx.length (.az<|bw L)=bx++[.az<|bw L]:=λL=>by simp
 cases g with
 |cy h' l k r p w=>
   have p2:=C0 (m:=dV 2) (v:=dV 5) (env:=[x0,xN h,xB bx.length,ae<|.d<|enc<|.cy h' l k r p w,ae<|.d x,ae<|.d<|dt<|.cy h' l k r p w]) za za (Wb (.cy h' l k r p w) za) b0 (by lia);rw[st]at p2;show(gU za).trans p2
 |to h' l r=>
   have p2:=C0 (L:=R) (m:=dV 2) (k:=d2 af aF (dV 3)<|dC<|.int 2) (v:=dV 5) (x:=r) (l:=l) (i:=bx.length) (B:=bx++[.az<|bw R]) (env:=[x0,xN h,xB bx.length,ae<|.d<|enc<|.to h' l r,ae<|.d x,ae<|.d<|dt<|.to h' l r]) za za (Wb (.to h' l r) za) b0 (by lia);rw[st]at p2;show(gU (t:=dB<|E2 af<|dV 5) za).trans p2
 |out h' l=>
   have p2:=Pz (L:=R) (m:=dV 2) (k:=d2 af aF (dV 3)<|dC<|.int 2) (l:=l) (i:=bx.length) (B:=bx++[.az<|bw R]) (env:=[x0,xN h,xB bx.length,ae<|.d<|enc<|.out h' l,ae<|.d x,ae<|.d<|dt<|.out h' l]) za (Wb (.out h' l) za) b0<|C2 c;rw[st]at p2;show(jI (t:=dB<|E2 af<|dV 5) za).trans p2
theorem OA:∀ (gs) (K R) (n:Nat) (S:List<|Pg×D) (y3 y4 y5:Option W),abh gs->kn K R n->n+gs.length<=100->S.map (·.1)=taken ps K R gs ->
 ∃ z3 z4 z5,eu g3 KH ((S.map uW).map W.d) [x0,xN h,xB bx.length,y3,y4,y5] (bx++[.az<|bw R])=.nx [x0,xN h,xB bx.length,z3,z4,z5] (bx++[.az<|bw (pre h ps K R gs).2]):=by
 intro l_;induction l_ with
 |nil=>
   intro K R n S y3 y4 y5 _ _ _ e;have:=List.map_eq_nil_iff.mp e;subst this;show#[y3,y4,y5,rfl]
 |cons g gs aA=>
   intro K R n S y3 y4 y5 s J hn e;let#[s1,s2]:=List.pairwise_cons.mp s;rw[a6]at hn;by_cases c:word ps K R g="takes"
   .rw[show taken ps K R (g::gs)=g::taken ps (stK K g) (rD R g) gs from if_pos c]at e;cases S with
    |nil=>cases e
    |cons q S=>
      let#[q1,x]:=q;rw[aQ]at e;injection e with e1 e2;have nK:=e1;subst nK;have g1:g3 (W.d<|uW (q1,x)) [x0,xN h,xB bx.length,y3,y4,y5] (bx++[.az<|bw R])=ae ([x0,xN h,xB bx.length,ae<|.d<|enc q1,ae<|.d x,ae<|.d<|dt q1],bx++[.az<|bw R]):=rfl;by_cases t:rF q1<=h
      .let#[z3,z4,z5,ih]:=aA (stK K q1) (rD R q1) (n+1) S (ae<|.d<|enc q1) (ae<|.d x) (ae<|.d<|dt q1) s2 (J.step c) (by lia) e2;refine#[z3,z4,z5,?_];rw[aQ,aQ,BR g1<|So J (by lia) c t x,ih,show pre h ps K R (q1::gs)=pre h ps (yk ps K R q1) (ym ps K R q1) gs from if_pos t,(B3 c).1,(B3 c).2]
      .have tt:dB (d2 af ph (d2 af aF (dV 3)<|dC<|.int 0)<|dV 1) [x0,xN h,xB bx.length,ae<|.d<|enc q1,ae<|.d x,ae<|.d<|dt q1] (bx++[.az<|bw R])=.val ag (bx++[.az<|bw R]):=
        fT (fQ (r:=.old<|.bl ag) (TC q1 za) za (by simp[ph];lia))
       refine#[ae<|.d<|enc q1,ae<|.d x,ae<|.d<|dt q1,?_];have bk:KH [x0,xN h,xB bx.length,ae<|.d<|enc q1,ae<|.d x,ae<|.d<|dt q1] (bx++[.az<|bw R])=.bk [x0,xN h,xB bx.length,ae<|.d<|enc q1,ae<|.d x,ae<|.d<|dt q1] (bx++[.az<|bw R]):=Sn<|(jI tt).trans za;rw[aQ,aQ,Sl g1 bk,show pre h ps K R (q1::gs)=(K,R) from if_neg t]
   .rw[show taken ps K R (g::gs)=taken ps K R gs from if_neg c]at e;let#[z3,z4,z5,ih]:=aA K R n S y3 y4 y5 s2 J (by lia) e;refine#[z3,z4,z5,ih.trans ?_];by_cases t:rF g<=h
    .rw[show pre h ps K R (g::gs)=pre h ps (yk ps K R g) (ym ps K R g) gs from if_pos t,(F8 c).1,(F8 c).2]
    .rw[show pre h ps K R (g::gs)=(K,R) from if_neg t,Mx λg' m=>by have:=s1 g' m;lia]
theorem TD (h:env[k]?=ae (xB i)) (hb:bx[i]?=ae (.az l)):tQ k env bx=.val (.d<|.az l) (bx.set i .dead):=by
 unfold tQ;simp[h,hb]

theorem OB {S:List _}(s:abh qs) (hl:qs.length<=16) (e:S.map (·.1)=taken ps [] [] qs) :
 iH [.d<|.lst<|S.map uW,.d<|.int h] bx=.val (.d<|.az<|bw (pre h ps [] [] qs).2) bx:=by
 let#[z3,z4,z5,f]:=OA qs [] [] 0 S ah ah ah s V9 (by lia) e;have s1:fO (dY ag []) (ff 2) [ae<|.d<|.lst<|S.map uW,xN h,ah,ah,ah,ah] bx=.nx [ae<|.d<|.lst<|S.map uW,xN h,xB bx.length,ah,ah,ah] (bx++[.az<|bw []]):=by
  have:dY ag [] [ae<|.d<|.lst<|S.map uW,xN h,ah,ah,ah,ah] bx=.val (.b bx.length) (bx++[.az<|bw []]):=rfl;show ik this
 have b:j8 [ae<|.d<|.lst<|S.map uW,xN h,ah,ah,ah,ah] bx=.rt (.d<|.az<|bw (pre h ps [] [] qs).2) ((bx++[Bx.az<|bw (pre h ps [] [] qs).2]).set bx.length .dead):=
  (fE s1).trans ((fE<|(mf<|iB za).trans f).trans<|gx<|TD za (by simp))
 refine(lc b).trans ?_;simp
theorem afW:∀ (T:List _) (w0 w1 w2 w3) (acc),acc.length+T.length<=1000 ->
 bu g4 (dB<|d2 af aZ (dV 1)<|dC<|.str "takes") (fL<|fc (dV 0)<|fc (dV 2)<|fc (dV 3) fe) ((T.map tq).map W.d) [w0,w1,w2,w3] B acc=.val (acc++(T.filter λx=>decide (x.2.1=("takes":Str))).map λx=>.tup [enc x.1,x.2.2.1,x.2.2.2]) B:=by
 intro l_;induction l_ with
 |nil=>(intro _ _ _ _ acc _;simp[bu])
 |cons x T aA=>
   intro w0 w1 w2 w3 acc hl;have z:sizeLine=16777216:=bB;rw[a6]at hl;have e0:g4 (W.d<|tq x) [w0,w1,w2,w3] B=ae ([ae<|.d<|enc x.1,ae<|.d<|.str x.2.1,ae<|.d x.2.2.1,ae<|.d x.2.2.2],B):=rfl;have t:dB (d2 af aZ (dV 1)<|dC<|.str "takes") [ae<|.d<|enc x.1,ae<|.d<|.str x.2.1,ae<|.d x.2.2.1,ae<|.d x.2.2.2] B=.val (decide (x.2.1="takes")) B:=fT<|fQ za za<|eq_str _ _;have e1:fL (fc (dV 0)<|fc (dV 2)<|fc (dV 3) fe) [ae<|.d<|enc x.1,ae<|.d<|.str x.2.1,ae<|.d x.2.2.1,ae<|.d x.2.2.2] B=.val (.d<|.tup [enc x.1,x.2.2.1,x.2.2.2]) B:=gM [enc x.1,x.2.2.1,x.2.2.2] za (by simp;lia);by_cases c:x.2.1=("takes")
   .have ih:=aA (ae<|.d<|enc x.1) (ae<|.d<|.str x.2.1) (ae<|.d x.2.2.1) (ae<|.d x.2.2.2) (acc++[.tup [enc x.1,x.2.2.1,x.2.2.2]]) (by simp;lia);rw[decide_eq_true c]at t;erw[aQ,bu,e0,t,mO,e1];rw[if_pos (by lia),ih,wO (by simpa using c)];simp
   .have ih:=aA (ae<|.d<|enc x.1) (ae<|.d<|.str x.2.1) (ae<|.d x.2.2.1) (ae<|.d x.2.2.2) acc (by lia);rw[decide_eq_false c]at t;erw[aQ,bu,e0,t,mO];rw[ih,wN (by simpa using c)]
theorem OC (H:Hs rs ks ps hd) {gs:List Pg}(hl:qs.length<=16) (so:dF [.lst<|gs.map enc]=ae (.lst<|qs.map enc)) :
 ∃ S:List (Pg×D),iT [.d<|hs rs ks ps hd,.d<|.lst<|gs.map enc] bx=.val (.d<|.lst<|S.map uW) bx /\ S.map (·.1)=taken ps [] [] qs:=by
 let#[T',e,z,z2]:=Mq H hl so;have tl:T'.length<=16:=by
  have:=congrArg List.length z;rw[aV,QS]at this
  lia
 have c:=afW (B:=bx) T' ah ah ah ah [] (by simp;lia);have tk:=My z z2;generalize hF:(T'.filter λx=>decide (x.2.1=("takes":Str)))=F at c tk;refine#[F.map λx=>(x.1,x.2.2.1),gi<|gx<|iP (iB<|fM za za e) za<|c.trans ?_,?_]
 .rw[vo,cw];congr 1;refine vm λx m=>?_;have:(x.1,x.2.2.2)∈(taken ps [] [] qs).map λg=>(g,dt g):=by rw[<-tk];show bc.mpr #[x,m,rfl]
  let#[g,_,eg]:=bc.mp this;let#[e1,e2]:=Prod.mk.inj eg;change D.tup [enc x.1,x.2.2.1,x.2.2.2]=D.tup [enc x.1,x.2.2.1,dt x.1];rw[<-e2,e1]
 .have:=congrArg (List.map (·.1)) tk;rw[cw,cw]at this;rw[cw];show this.trans (Yi _)
end kG
namespace tZ
open L2 L2.DL K1 K2 pk bR aJ kG
theorem TF (i j):minD [.int i,.int j]=ae (.old<|.int<|min i j):=by
 change ae _=_;congr 3;split<;>lia
end tZ
namespace kG
open L2 L2.DL K1 pk bR aJ
theorem lG (h:m env B=.val [x,y] B1):kg i j m env B=.nx ((env.set i<|ae x).set j<|ae y) B1:=by
 unfold kg;rw[h,iI]
end kG
namespace tZ
open L2 L2.DL K1 K2 pk bR aJ kG

theorem Sq (h:m env B=.val (.d<|.bl ag) B1):Eu m k env B=.val (.d<|.bl ag) B1:=by rw[LF,h];rfl
theorem Sr (h:m env B=.val (.d<|.bl af) B1) (h2:k env B1=r):Eu m k env B=r:=by rw[LF,h];show h2
end tZ
namespace K13
open L2 L2.DL K1 K2 pk bR aJ tZ
theorem mn:(bz nr nk<|.str x).length=if x="in" then 5 else if x="out" then 1 else if x="to" then 2 else 0:=by
 unfold bz;dsimp only;split
 .rfl
 .split
  .rfl
  .split<;>rfl
theorem Ss (h:EE b=af):bz nr nk b=[]:=by
 cases b<;>first|rfl|cases h
noncomputable abbrev d3:List (Key×D):=[(.inl 3,.str "out"),(.inl 4,.str "to"),(.inl 7,.str "in")]

theorem Ga (d):K13.uS [.d<|hs rs ks ps hd,.d d] bx=.val (.d<|.bl<|cM rs.length ks.length d) bx:=by
 obtain⟨E,hE⟩:∃ E:bt,E=[ae<|.d<|hs rs ks ps hd,ae<|.d d]:=#[_,rfl];have e0:E[0]?=ae (ae<|.d<|hs rs ks ps hd):=by rw[hE];rfl
 have e1:E[1]?=ae (ae<|.d d):=by rw[hE];rfl
 have fin:∀ {b:Bool}{B:List Bx},jd E bx=.rt (.d<|.bl b) B->B.take bx.length=bx->b=cM rs.length ks.length d->K13.uS [.d<|hs rs ks ps hd,.d d] bx=.val (.d<|.bl<|cM rs.length ks.length d) bx:=λ{b B} h hB hb=>by
  rw[<-hb];rw[hE]at h;have:=lc (n:=2) (ws:=[.d<|hs rs ks ps hd,.d d]) h;rw[hB]at this;show this
 have no:∀ {b:Bool},jd E bx=.rt (.d<|.bl b) bx->b=cM rs.length ks.length d->K13.uS [.d<|hs rs ks ps hd,.d d] bx=.val (.d<|.bl<|cM rs.length ks.length d) bx:=λh=>fin h<|rN ..;cases d<;>try show no (b:=af) (qR (lF<|fY (b:=af)<|fT (by unfold gH;rw[iG,e1];rfl)) za) za
 ext l;have ti:cC (dB<|gH "tuple"<|dV 1) E bx=.val af bx:=fY (b:=ag)<|fT (by unfold gH;rw[iG,e1];rfl);have ln:∀ {B:List Bx},dN af aS (fc (dV 1) fe) E B=.val (.d<|.int l.length) B:=ie (r:=.old<|.int l.length) [.tup l] (fj (by rw[iG,e1]) za) za;have at_:∀ {B:List Bx}{x:D}(j:Nat),l[j]?=ae x->d2 af aF (dV 1) (dC<|.int (j:Nat)) E B=.val (.d x) B:=λj h=>fQ (x:=.tup l) (y:=.int (j:Nat)) (r:=.old _) (by rw[iG,e1]) za<|Ja j h;have three:fL (fc (dC<|.int 3)<|fc (dC<|.int 4)<|fc (dC<|.int 7) fe) E bx=.val (.d<|.tup [.int 3,.int 4,.int 7]) bx:=gM [.int 3,.int 4,.int 7] za (by have:=bB;simp;lia);have ni:∀ {c:Bool},(!decide ((l.length:Int)∈[(3:Int),4,7]))=c->dB (d2 af (inD ag) (dN af aS<|fc (dV 1) fe)<|fL<|fc (dC<|.int 3)<|fc (dC<|.int 4)<|fc (dC<|.int 7) fe) E bx=.val c bx:=λ{c} h=>fT<|fQ (x:=.int l.length) (y:=.tup [.int 3,.int 4,.int 7]) (r:=.old<|.bl c) ln three (by rw[<-h];show Om ag [3,4,7] l.length);have wt:∀ {B:List Bx}{x:D}{m:DE W}{hi:Int}(j:Nat),l[j]?=ae x->m E B=.val (.d<|.int hi) B->fq K1.gm 3 (fc (d2 af aF (dV 1)<|dC<|.int (j:Nat))<|fc (dC<|.int 0)<|fc m fe) E B=.val (.d<|.bl<|wi x 0 hi) B:=λ{B x m hi} j h hm=>fM (l:=[.d x,.d<|.int 0,.d<|.int hi]) (fj (at_ j h)<|fj (m:=dC<|.int 0) za<|fj hm za) za<|DN x 0 hi B;have nr:∀ {B:List Bx},d2 af eQ (dN af aS<|fc (d2 af aF (dV 0)<|dC<|.int 0) fe) (dC<|.int 1) E B=.val (.d<|.int<|(rs.length:Int)-1) B:=fQ (x:=.int rs.length) (y:=.int 1) (r:=.old<|.int<|(rs.length:Int)-1) (ie (r:=.old<|.int rs.length) [.tup rs] (fj (fQ (x:=hs rs ks ps hd) (y:=.int 0) (r:=.old<|.tup rs) (by rw[iG,e0]) za<|Ja 0 za) za) za) za za;have nk:∀ {B:List Bx},d2 af eQ (dN af aS<|fc (d2 af aF (dV 0)<|dC<|.int 1) fe) (dC<|.int 1) E B=.val (.d<|.int<|(ks.length:Int)-1) B:=fQ (x:=.int ks.length) (y:=.int 1) (r:=.old<|.int<|(ks.length:Int)-1) (ie (r:=.old<|.int ks.length) [.tup ks] (fj (fQ (x:=hs rs ks ps hd) (y:=.int 1) (r:=.old<|.tup ks) (by rw[iG,e0]) za<|Ja 1 za) za) za) za za;have uX:∀ {B:List Bx}{c:Bool}(j:Nat),decide ((l.length:Int)=(j:Nat))=c->d2 af aZ (dN af aS<|fc (dV 1) fe) (dC<|.int (j:Nat)) E B=.val (.d<|.bl c) B:=λ{B c} j h=>fQ (x:=.int l.length) (y:=.int (j:Nat)) (r:=.old<|.bl c) ln za (by rw[<-h];rfl);have sP:∀ {a b:D}{r:List D},l=a::b::r->cM rs.length ks.length (.tup l)=(hr a&&(decide ((bz rs.length ks.length b).length=r.length /\ 1<=r.length)&&(r.zip<|bz rs.length ks.length b).all λq=>wi q.1 0 q.2)):=λh=>by rw[h];rfl
 have ci:((l.length:Int)∈[(3:Int),4,7]) ↔ (l.length=3 \/ l.length=4 \/ l.length=7):=by erw[a9,pJ,or_false];lia
 by_cases c:l.length=3 \/ l.length=4 \/ l.length=7
 case neg=>
  refine no (b:=af) (qR (gL ti<|lF<|ni (by rw[decide_eq_false λz=>c<|ci.mp z];rfl)) za) ?_;rcases l with _|⟨a,_|⟨b,r⟩⟩<;>try rfl
  rw[sP rfl,decide_eq_false,pD,vg];rintro⟨h1,h2⟩;have:(bz rs.length ks.length b).length=0 \/ (bz rs.length ks.length b).length=1 \/ (bz rs.length ks.length b).length=2 \/ (bz rs.length ks.length b).length=5:=by
   cases b with
   |str x=>rw[mn];split<;>(try split)<;>(try split)<;>decide
   |_=>show .inl za
  rw[a6,a6]at c
  lia
 have c3:3<=l.length:=by lia
 obtain⟨a,b,x,r,hl⟩:∃ a b x r,l=a::b::x::r:=by
  rcases l with _|⟨a,_|⟨b,_|⟨x,r⟩⟩⟩<;>simp at c3;show#[a,b,x,r,rfl]
 have n1:=ni (c:=af) (by rw[decide_eq_true<|ci.mpr c];rfl);have ha:l[0]?=ae a:=by rw[hl];rfl
 have hb:l[1]?=ae b:=by rw[hl];rfl
 have hx:l[2]?=ae x:=by rw[hl];rfl
 have hv:=L8 a bx;have KU:dB (fq K2.ia 1<|fc (d2 af aF (dV 1)<|dC<|.int 0) fe) E bx=.val (hr a) bx:=fT<|fM (l:=[.d a]) (fj (at_ 0 ha) za) za hv;cases q1:hr a with
 |false=>
   rw[q1]at KU;show no (b:=af) (qR (gL ti<|gL n1<|fY KU) za) (by rw[sP hl,q1,pD])
 |true=>
 rw[q1]at KU;have s1:=gL ti<|gL n1<|fY KU;have iv:dB (gH "str"<|d2 af aF (dV 1)<|dC<|.int 1) E bx=.val (EE b) bx:=fT (by unfold gH;rw[show d2 af aF (dV 1) (dC<|.int 1) E bx=.val (.d b) bx from at_ 1 hb];cases b<;>rfl);cases q2:EE b with
 |false=>
   rw[q2]at iv;show no (b:=af) (qF s1<|qR (lF<|fY iv) za) (by rw[sP hl,Ss q2,decide_eq_false (λz=>by have:=z.1;have:=z.2;simp at *),pD,vg])
 |true=>
 rw[q2]at iv;obtain⟨y,rfl⟩:∃ y,b=.str y:=by
  cases b<;>first|show#[_,rfl]|cases q2
 have w2:=wt (B:=bx) (m:=dC<|.int 9) 2 hx za;have KW:decide ((bz rs.length ks.length<|.str y).length=(x::r).length /\ 1<=(x::r).length)=ag->((x::r).zip<|bz rs.length ks.length<|.str y).all (λq=>wi q.1 0 q.2)=(wi x 0 9&&(r.zip (bz rs.length ks.length<|.str y).tail).all λq=>wi q.1 0 q.2):=λh=>by
  rw[decide_eq_true_eq,mn]at h;unfold bz;dsimp only;split
  .rfl
  .split
   .rfl
   .split
    .rfl
    .ext z1 z2 z3;rw[if_neg z1,if_neg z2,if_neg z3]at h;have:=h.1;simp at this
 cases q3:wi x 0 9 with
 |false=>
   rw[q3]at w2;refine no (b:=af) (qF s1<|qR (gL (fY iv)<|fY<|fT w2) za) ?_;rw[sP hl];cases q:decide ((bz rs.length ks.length<|.str y).length=(x::r).length /\ 1<=(x::r).length) with
   |false=>rw[pD,vg]
   |true=>rw[KW q,q3];simp
 |true=>
 rw[q3]at w2;have s2:=gL (fY iv)<|fY<|fT w2;have tk:(bx++[Bx.az d3]).take bx.length=bx:=by simp
 have s3:∀ (wd:Str),kF d3 (.inl (l.length:Int))=ae (.str wd)->dB (d2 af cQ (kU (dY ag d3)<|dN af aS<|fc (dV 1) fe)<|d2 af aF (dV 1)<|dC<|.int 1) E bx=.val (!decide (wd=y)) (bx++[.az d3]):=λwd h=>by
  refine fT<|fQ (x:=.str wd) (y:=.str y) (r:=.old<|.bl<|!decide (wd=y)) ?_ (at_ 1 hb)<|ne_str _ _;unfold kU;have:dY ag d3 E bx=.val (.b bx.length) (bx++[.az d3]):=rfl;rw[this,fX,ln,fX];have e:(bx++[Bx.az d3])[bx.length]?=ae (.az d3):=by simp
  erw[pY,e];simp[qu,h]
 have rl:l.length=r.length+3:=by rw[hl];rfl
 rcases c with c|c|c
 .obtain rfl:r=[]:=List.length_eq_zero_iff.mp (by lia);have h3:=s3 "out" (by rw[c];rfl);by_cases ey:y="out"
  .subst ey;refine fin (b:=ag) (B:=bx++[.az d3]) (qF s1<|qF s2<|qF h3<|qF (fT<|uX 4 (by rw[c];rfl))<|qF (lN<|fT<|uX 7 (by rw[c];rfl))<|qF (lN<|fT<|uX 7 (by rw[c];rfl))<|gx<|Sq<|uX 3 (by rw[c];rfl)) tk ?_;rw[sP hl,q1,KW rfl,q3];rfl
  .rw[decide_eq_false λz=>ey z.symm]at h3;refine fin (b:=af) (B:=bx++[.az d3]) (qF s1<|qF s2<|qR h3 za) tk ?_;rw[sP hl,decide_eq_false,pD,vg];rw[mn,if_neg ey];intro z;have:=z.1;split at this
   .cases this
   .split at this<;>cases this
 .obtain⟨u,rfl⟩:∃ u,r=[u]:=List.length_eq_one_iff.mp (by lia);have h3:=s3 "to" (by rw[c];rfl);by_cases ey:y="to"
  .subst ey;refine fin (b:=wi u 0<|(rs.length:Int)-1) (B:=bx++[.az d3]) (qF s1<|qF s2<|qF h3<|qR (fT<|uX 4 (by rw[c];rfl))<|wt 3 (by rw[hl];rfl) nr) tk ?_;rw[sP hl,q1,KW rfl,q3];simp[bz,DT,Oo]
  .rw[decide_eq_false λz=>ey z.symm]at h3;refine fin (b:=af) (B:=bx++[.az d3]) (qF s1<|qF s2<|qR h3 za) tk ?_;rw[sP hl,decide_eq_false,pD,vg];rw[mn,if_neg ey];intro z;have:=z.1;split at this
   .cases this
   .split at this<;>cases this
 .obtain⟨k,p,q,w,rfl⟩:∃ k p q w,r=[k,p,q,w]:=by
   rcases r with _|⟨k,_|⟨p,_|⟨q,_|⟨w,_|_⟩⟩⟩⟩<;>simp at rl c<;>first|lia|show#[_,_,_,_,rfl]
  have h3:=s3 "in" (by rw[c];rfl);by_cases ey:y="in"
  .subst ey;have vk:=wt (B:=bx++[.az d3]) (x:=k) 3 (by rw[hl];rfl) nk;have vr:=wt (B:=bx++[.az d3]) (x:=p) 4 (by rw[hl];rfl) nr;have v5:=wt (B:=bx++[.az d3]) (x:=q) (m:=dC<|.int 999) (hi:=999) 5 (by rw[hl];rfl) za;have v6:=wt (B:=bx++[.az d3]) (x:=w) (m:=dC<|.int 99) (hi:=99) 6 (by rw[hl];rfl) za;have pe:cM rs.length ks.length (.tup l)=(wi k 0 ((ks.length:Int)-1)&&(wi p 0 ((rs.length:Int)-1)&&(wi q 0 999&&wi w 0 99))):=by
    rw[sP hl,q1,KW rfl,q3];simp[bz]
   have four:=fT<|uX (B:=bx++[.az d3]) (c:=af) 4 (by rw[c];rfl);have Hl:=fT<|uX (B:=bx++[.az d3]) (c:=ag) 7 (by rw[c];rfl);rw[pe]at fin ⊢;cases k1:wi k 0 ((ks.length:Int)-1) with
   |false=>
     rw[k1]at vk fin;show fin (B:=bx++[.az d3]) (qF s1<|qF s2<|qF h3<|qF four<|qR (jf Hl<|fY<|fT vk) za) tk za
   |true=>
   rw[k1]at vk fin;cases k2:wi p 0 ((rs.length:Int)-1) with
   |false=>
     rw[k2]at vr fin;show fin (B:=bx++[.az d3]) (qF s1<|qF s2<|qF h3<|qF four<|qF (jf Hl<|fY<|fT vk)<|qR (jf Hl<|fY<|fT vr) za) tk za
   |true=>
   rw[k2]at vr fin;refine fin (b:=wi q 0 999&&wi w 0 99) (B:=bx++[.az d3]) (qF s1<|qF s2<|qF h3<|qF four<|qF (jf Hl<|fY<|fT vk)<|qF (jf Hl<|fY<|fT vr)<|gx<|Sr (uX 3 (by rw[c];rfl)) ?_) tk za;refine(oK v5).trans ?_;cases wi q 0 999 with
   |false=>rfl
   |true=>show v6
  .rw[decide_eq_false λz=>ey z.symm]at h3;refine fin (b:=af) (B:=bx++[.az d3]) (qF s1<|qF s2<|qR h3 za) tk ?_;rw[sP hl,decide_eq_false,pD,vg];rw[mn,if_neg ey];intro z;have:=z.1;split at this
   .cases this
   .split at this<;>cases this
end K13
namespace HT
section
variable {K:Type} [DecidableEq K] {f:Nat -> List K}
theorem TH:dk f (i+1)=if f i∈dk f i then dk f i else dk f i++[f i]:=rfl
theorem Mz:∀ {i},k∈dk f i ↔ ∃ j,j<i /\ f j=k:=by
 intro l_;induction l_ with
 |zero=>show#[λm=>(nomatch m),λ⟨_,z,_⟩=>absurd z<|vf _]
 |succ i aA=>
   have st:(∃ j,j<i+1 /\ f j=k) ↔ (∃ j,j<i /\ f j=k) \/ f i=k:=by
    constructor
    .rintro⟨j,hj,e⟩;by_cases z:j<i
     .show .inl #[j,z,e]
     .obtain rfl:j=i:=by lia
      show .inr e
    .rintro(⟨j,hj,e⟩|e)
     .show#[j,by lia,e]
     .show#[i,by lia,e]
   rw[st,<-aA,TH];split
   .ext m;show#[.inl,λz=>z.elim id λe=>e▸m]
   .rw[dZ,eY];show#[λz=>z.imp id Eq.symm,λz=>z.imp id Eq.symm]
theorem MA:∀ {i},(dk f i).length=i ↔ ∀ a b,a<b->b<i->f a≠f b:=by
 intro l_;induction l_ with
 |zero=>show#[λ_ a b _ z=>absurd z<|vf _,λ_=>rfl]
 |succ i aA=>
   have ih:=aA;have le:=Fy f i;rw[TH];split
   .ext m;let#[j,hj,e]:=Mz.mp m;show#[λz=>by lia,λz=>absurd e<|z j i hj<|qd i]
   .ext m;rw[bG,yG];constructor
    .intro z a b ab bi;by_cases q:b<i
     .show ih.mp (by lia) a b ab q
     .obtain rfl:b=i:=by lia
      show λe=>m<|Mz.mpr #[a,ab,e]
    .intro z;rw[ih.mpr λa b ab bi=>z a b ab (by lia)]
end
end HT
namespace K13
open L2 L2.DL K1 K2 pk bR aJ tZ
open HT (jk ip a7 lj MA)
theorem TJ {nr nk:Nat}:∀ {l},(l.all<|cM nr nk)=ag->∃ gs:List Pg,l=gs.map enc /\ ∀ g∈gs,uU nr nk g:=by
 intro l_;induction l_ with
 |nil=>show λ_=>#[[],rfl,λg m=>(nomatch m)]
 |cons d l aA=>
   intro h;rw[nE,aH]at h;let#[g,rfl,o]:=Pu h.1;let#[gs,rfl,os]:=aA h.2;show#[g::gs,rfl,λx m=>(a9.mp m).elim (λe=>e▸o)<|os x]
def cd (qs:List Pg) (i:Nat):List Int:=a7<|(qs.map bV).getD i []
theorem Bl (h:i<qs.length):cd qs i=a7 (bV qs[i]):=by simp[cd,h]
theorem PB (h:∀ i,i<qs.length-1->HT.lexLt (cd qs i) (cd qs<|i+1)=ag):∀ d i,i+d+1<qs.length->HT.lexLt (cd qs i) (cd qs<|i+d+1)=ag
 |0,i,z=>h i (by lia)
 |d+1,i,z=>jk _ _ _ (PB h d i (by lia))<|h _ (by lia)
theorem Su (r:V3 qs) (i) (h:i<qs.length-1):HT.lexLt (cd qs i) (cd qs<|i+1)=ag:=by
 rw[Bl (by lia),Bl (by lia),lj _ _<|ly _ _];show List.pairwise_iff_getElem.mp r i _ (by lia) (by lia) (by lia)

theorem TL (qs) (hl:qs.length<=16):K1.gZ [.d<|.lst<|qs.map enc] bx=.val (.d<|.bl<|(List.range<|qs.length-1).all λi=>HT.lexLt (cd qs i)<|cd qs<|i+1) bx:=by
 have z:sizeLine=16777216:=bB;refine gi<|gx ?_;have rg:vI (fc (dC<|.int 1)<|fc (dN af aS<|fc (dV 0) fe) fe) [ae<|.d<|.lst<|qs.map enc] bx=.val (((List.range<|qs.length-1).map λ(i:Nat)=>D.int<|1+(i)).map W.d) bx:=by
  rw[LO (i:=1) (j:=(qs.length)) (bx1:=bx) (by simp[aS]),show ((qs.length:Int)-1).toNat=qs.length-1 by lia,cw];rfl
 refine V6 (enc:=λ(i:Nat)=>D.int<|1+(i:Int)) (r:=[ae<|.d<|.lst<|qs.map enc]) (te:=d2 af kX (d2 af aF (dV 1)<|d2 af eQ (dV 0)<|dC<|.int 1)<|d2 af aF (dV 1)<|dV 0) (src:=[ah,ae 0]) (λi=>HT.lexLt (cd qs i)<|cd qs<|i+1) rg za (by simp;lia) λi m=>?_;have hi:=List.mem_range.mp m;have e1:qs[i]?=ae qs[i]:=cW (by lia);have e2:qs[i+1]?=ae qs[i+1]:=cW (by lia);have lt:=RY qs[i] qs[i+1];rw[<-lj _ _ (ly _ _),<-Bl,<-Bl]at lt;refine fQ (r:=.old<|.bl _) (x:=enc qs[i]) (y:=enc qs[i+1]) (fQ (r:=.old<|enc qs[i]) (x:=.lst<|qs.map enc) (y:=.int (i:Int)) za (fQ (r:=.old<|.int (i:Int)) (x:=.int<|1+(i:Int)) (y:=.int 1) za za ?_) ?_) (fQ (r:=.old<|enc qs[i+1]) (x:=.lst<|qs.map enc) (y:=.int<|1+(i:Int)) za za ?_) lt
 .simp[eQ];lia
 .simp[aF,Tu e1]
 .have:=Tu e2;rw[show ((i+1:Nat):Int)=1+(i:Int) by lia]at this;simp[aF,this]
theorem OD:∀ gs:List Pg,tW (gs.map enc)=ae (gs.map aJ.cE):=by
 intro l_;induction l_ with
 |nil=>show rfl
 |cons g gs aA=>
   let#[l,e,k]:=C3 g;rw[aQ,e];unfold tW;rw[k,aA];rfl
theorem mB (hl:gs.length<=16):∃ qs,qs.Perm gs /\ dF [.lst<|gs.map enc]=ae (.lst<|qs.map enc) /\ (gs.Nodup->V3 qs):=by
 let#[qs,e,p]:=Ku (iY _) za;refine#[qs,p,?_,λnd=>RX (p.nodup_iff.mpr nd) (by rw[<-e];show jb _)];cases gs with
 |nil=>
   have:=List.length_eq_zero_iff.mp p.length_eq;subst this;simp[dF,tL,intsOf,sortI]
 |cons g gs=>rw[LV (by lia),e,cw];rfl
theorem TM (d):∃ b,aJ.gn [.d<|hs rs ks ps hd,.d d] bx=.val (.d<|.bl b) bx /\ K13.sM [.d<|hs rs ks ps hd,.d d] bx=.val (.d<|.bl b) bx /\ (b=ag->∃ gs,d=.lst (gs.map enc) /\ Gs rs.length ks.length gs):=by
 obtain⟨E,hE⟩:∃ E:bt,E=[ae<|.d<|hs rs ks ps hd,ae<|.d d]:=#[_,rfl];have e0:E[0]?=ae (ae<|.d<|hs rs ks ps hd):=by rw[hE];rfl
 have e1:E[1]?=ae (ae<|.d d):=by rw[hE];rfl
 have f1:∀ {b:Bool},oj E bx=.rt (.d<|.bl b) bx->aJ.gn [.d<|hs rs ks ps hd,.d d] bx=.val (.d<|.bl b) bx:=λh=>gi (by rw[hE]at h;show h);have f2:∀ {b:Bool},jN E bx=.rt (.d<|.bl b) bx->K13.sM [.d<|hs rs ks ps hd,.d d] bx=.val (.d<|.bl b) bx:=λh=>gi (by rw[hE]at h;show h);have no:sr (pT d) "list"=af->∃ b,aJ.gn [.d<|hs rs ks ps hd,.d d] bx=.val (.d<|.bl b) bx /\ K13.sM [.d<|hs rs ks ps hd,.d d] bx=.val (.d<|.bl b) bx /\ (b=ag->∃ gs,d=.lst (gs.map enc) /\ Gs rs.length ks.length gs):=λh=>
  have i:cC (dB<|gH "list"<|dV 1) E bx=.val ag bx:=fY (b:=af)<|fT (by unfold gH;rw[iG,e1,<-h];rfl)
  #[af,f1<|qR (lF i) za,f2<|qR (lF i) za,λz=>(nomatch z)]
 cases d<;>try show no za
 ext l;have i:cC (dB<|gH "list"<|dV 1) E bx=.val af bx:=fY (b:=ag)<|fT (by unfold gH;rw[iG,e1];rfl);have ln:dN af aS (fc (dV 1) fe) E bx=.val (.d<|.int l.length) bx:=ie (r:=.old<|.int l.length) [.lst l] (fj (by rw[iG,e1]) za) za;have gt:∀ {c:Bool},decide ((16)<(l.length:Int))=c->dB (d2 af ph (dN af aS<|fc (dV 1) fe)<|dC<|.int 16) E bx=.val c bx:=λh=>fT<|fQ (r:=.old<|.bl _) ln za (by rw[<-h];simp[ph]);have z:sizeLine=16777216:=bB;by_cases hl:l.length<=16
 case neg=>
  have g:=gt<|decide_eq_true (by lia);show#[af,f1<|qR (gL i g) za,f2<|qR (gL i<|lF g) za,λz=>(nomatch z)]
 have g:=gt<|decide_eq_false (by lia);have al:∀ {fn:List W->List Bx->O W},(∀ x,fn [.d<|hs rs ks ps hd,.d x] bx=.val (.d<|.bl<|cM rs.length ks.length x) bx)->dN af dW (fc (gc af [ah,ae 0] (bP<|dV 1) (ff 0) ge<|fq fn 2<|fc (dV 1)<|fc (dV 0) fe) fe) E bx=.val (.d<|.bl<|l.all<|cM rs.length ks.length) bx:=λhf=>
  V6 _ (by rw[Yi];show iB (by rw[iG,e1])) (by rw[hE];rfl) (by lia) λx m=>fM za za<|hf x
 have a1:=al λx=>Mg x;have a2:=al λx=>Ga x;cases q:l.all (cM rs.length ks.length) with
 |false=>
   rw[q]at a1 a2;show#[af,f1<|qF (gL i g)<|gx<|oK a1,f2<|qR (gL i<|gL g<|fY<|fT a2) za,λz=>(nomatch z)]
 |true=>
 rw[q]at a1 a2;let#[gs,rfl,ok]:=TJ q;rw[aV]at hl;let#[qs,p,so,ri]:=mB hl;have ql:=p.length_eq;have rb:=TL (bx:=bx) qs (by lia);have ex:∀ {b:Bool},(b=ag ↔ gs.Nodup)->((List.range<|qs.length-1).all λi=>HT.lexLt (cd qs i)<|cd qs<|i+1)=b:=λ{b} h=>by
  rw[qf,h,cb]
  show#[λz=>p.nodup_iff.mp<|(λh=>List.pairwise_iff_getElem.mpr λi j hi hj ij e=>by
   have:=PB h (j-i-1) i (by lia);rw[show i+(j-i-1)+1=j by lia,Bl hi,Bl hj,e,ip]at this;cases this) λi m=>z i<|List.mem_range.mpr m,λz i m=>Su (ri z) i<|List.mem_range.mp m]
 have dl:∀ {b:Bool},(b=ag ↔ gs.Nodup)->decide (((HT.dk (λi=>(gs.map aJ.cE).getD i []) (gs.map aJ.cE).length).length:Int)=(gs.map enc).length)=b:=λ{b} h=>by
  rw[qf,h,decide_eq_true_eq,aV,aV];have:=MA (f:=λi=>(gs.map aJ.cE).getD i []) (i:=gs.length);constructor
  .intro z;have d:=this.mp (by lia);show List.pairwise_iff_getElem.mpr λi j hi hj ij e=>d i j ij hj (by simp[hi,hj,e])
  .intro z;have:=this.mpr λi j ij hj e=>by
    have hi:i<gs.length:=by lia
    simp[hi,hj]at e;show List.pairwise_iff_getElem.mp z i j hi hj ij<|C4 e
   lia
 have fin:∀ b:Bool,(b=ag ↔ gs.Nodup)->∃ b,aJ.gn [.d<|hs rs ks ps hd,.d<|.lst<|gs.map enc] bx=.val (.d<|.bl b) bx /\ K13.sM [.d<|hs rs ks ps hd,.d<|.lst<|gs.map enc] bx=.val (.d<|.bl b) bx /\ (b=ag->∃ g2,D.lst (gs.map enc)=.lst (g2.map enc) /\ Gs rs.length ks.length g2):=λb h=>by
  rw[ex h]at rb;have s:=ie (r:=.old<|.int (HT.dk (λi=>(gs.map aJ.cE).getD i []) (gs.map aJ.cE).length).length) (g:=E5) (env:=E) (bx:=bx) [.lst<|gs.map enc] (fj (m:=dV 1) (ks:=fe) (by rw[iG,e1]) za) (by change (tW<|gs.map enc).bind _=_;rw[OD,bI,if_pos (by rw[aV];lia)]);refine#[b,f1<|qF (gL i g)<|gx ?_,f2<|qF (gL i<|gL g<|fY<|fT a2)<|gx<|fQ (r:=.old<|.bl b) s ln<|congrArg (λc=>ae<|Res.old<|.bl c)<|dl h,λz=>#[gs,rfl,ok,h.mp z,hl]];rw[oK a1,if_pos rfl];show fM (l:=[.d<|.lst<|qs.map enc]) (fj (ie (r:=.lst<|qs.map enc) [.lst<|gs.map enc] (fj (by rw[iG,e1]) za) so) za) za rb
 by_cases nd:gs.Nodup
 .show fin ag #[λ_=>nd,λ_=>rfl]
 .show fin af #[λz=>(nomatch z),λz=>absurd z nd]
end K13
namespace abi
open L2 L2.DL
noncomputable section
end
end abi
namespace Hm
open L2 L2.DL
noncomputable section
end
open K1 K2 pk bR aJ kG tZ abi
theorem OE:∀ {gs}{K R}{n},kn K R n->∃ m,kn (pre h ps K R gs).1 (pre h ps K R gs).2 m /\ m<=n+gs.length:=by
 intro l_;induction l_ with
 |nil=>(intro K R n J;show#[n,J,aB _])
 |cons g gs aA=>
   intro K R n J;unfold pre;split
   .let#[m,j,l]:=aA<|J.nx g;show#[m,j,by rw[a6];lia]
   .show#[n,J,rJ _ _]

theorem Bm:∀ R,yc (bw R)=ae R
 |[]=>rfl
 | (a,b)::R=>by
   change (yc<|bw R).map _=_;rw[Bm R];rfl
theorem MB (h:m env B=.val (.d<|.az<|bw R) B) (l:R.length<64):E6 af m env B=.val (.d<|.lst<|(nP<|R.map λp=>[HT.aO.i p.1,.i p.2]).map cU) B:=by
 unfold E6;rw[h,fX];have:(pY B<|.d<|.az _).bind yc=ae R:=(Bm R);erw[this];rw[if_pos l];rfl
end Hm
namespace K13
open L2 L2.DL K1 K2 pk bR aJ kG tZ

theorem OF (H:Hs rs ks ps hd) (h:aJ.gn [.d<|hs rs ks ps hd,.d d] bx=.val (.d<|.bl af) bx):K13.Ha [.d<|hs rs ks ps hd,.d d] bx=.exc 4 bx:=
 AC (qE (cV<|aJ.jK H)<|(jI<|fY<|fT<|cV h).trans<|BW za)
theorem Gb (H:Hs rs ks ps hd) (h:aJ.gn [.d<|hs rs ks ps hd,.d d] bx=.val (.d<|.bl ag) bx):K13.Ha [.d<|hs rs ks ps hd,.d d] bx=.val (.d .non) bx:=
 L9 (qE (cV<|aJ.jK H)<|(gU<|fY<|fT<|cV h))
theorem Sv (H:Hs rs ks ps hd) (G:Gs rs.length ks.length gs) (h:aJ.gn [.d<|hs rs ks ps hd,.d<|.lst<|gs.map enc] bx=.val (.d<|.bl ag) bx):∃ x,K13.V0 [.d<|hs rs ks ps hd,.d<|.lst<|gs.map enc] bx=.val (.d x) bx:=by
 have gl:=G.l;let#[qs,p,so,_]:=mB gl;have ql:=p.length_eq;let#[T',e,z,_]:=aJ.Mq H (by lia) so;have tl:T'.length<=16:=by
  have:=congrArg List.length z;rw[aV,QS]at this
  lia
 show#[_,Pr<|qE (cV<|Gb H h)<|gx<|iP (iB<|cV e) za<|afT T' ah ah ah ah [] (by simp;lia)]
theorem Sw (H:Hs rs ks ps hd) (G:Gs rs.length ks.length gs) (h:aJ.gn [.d<|hs rs ks ps hd,.d<|.lst<|gs.map enc] bx=.val (.d<|.bl ag) bx):∃ x,K13.V1 [.d<|hs rs ks ps hd,.d<|.lst<|gs.map enc,.d<|.int 5] bx=.val (.d x) bx:=by
 have gl:=G.l;let#[qs,p,so,ri]:=mB gl;have ql:=p.length_eq;let#[S,sv,st]:=kG.OC H (by lia) so;let#[m,J,ml]:=Hm.OE (h:=5) (ps:=ps) (gs:=qs) V9;have lr:=J.lr;show#[_,Pr<|qE (cV<|Gb H h)<|qE (cV<|K2.CU (bx:=bx) _)<|qS (fM (fj (fM za za sv) za) za<|kG.OB (bx:=bx) (h:=5) ((λr=>by
  refine r.imp λ{a b} h=>?_;have:∀ {l m}{i j},HT.cA (.i i::l) (.i j::m)=ag->i<=j:=λ{l m i j} h=>by
   unfold HT.cA at h;split at h
   .ext e;cases e;show Int.le_refl _
   .have:decide _=ag:=h;simp at this
    lia
  cases a<;>cases b<;>show this h)<|ri G.nd) (by lia) st)<|gx<|Hm.MB za (by lia)]
theorem Gc (hc:c<17) (hb:b env bx=gN m env bx) (h:m env bx=.exc c bx):fB (sJ b) (fJ<|dC<|.str "") env bx=.rt (.d<|.str<|wordOf c) bx:=
 jH (by unfold sJ;rw[hb,AB h];show if_pos hc)
theorem Ge (hb:b env bx=gN m env bx) (h:m env bx=.val w B):fB (sJ b) (fJ<|dC<|.str "") env bx=.rt (.d<|.str "") B:=
 (fE (by unfold sJ;rw[hb,mT h]))
noncomputable abbrev pw (b:Bool):Str:=if b then "" else "pages"
theorem Sx (H:Hs rs ks ps hd) (d):∃ b,K13.sM [.d<|hs rs ks ps hd,.d d] bx=.val (.d<|.bl b) bx /\ ∀ i,K13.Hb [.d<|.int i,.d<|hs rs ks ps hd,.d d] bx=.val (.d<|.str<|pw b) bx:=by
 let#[b,h1,h2,h3]:=TM d;refine#[b,h2,λi=>?_];have t0:∀ {c:Bool}{s r:aE},decide (i=0)=c->aT (dB<|d2 af aZ (dV 0)<|dC<|.int 0) s r [xN i,ae<|.d<|hs rs ks ps hd,ae<|.d d,ah] bx=if c then s [xN i,ae<|.d<|hs rs ks ps hd,ae<|.d d,ah] bx else r [xN i,ae<|.d<|hs rs ks ps hd,ae<|.d d,ah] bx:=λ{c s r} h=>by
  have t:=fT<|fQ (g:=aZ) (r:=.old<|.bl c) (env:=[xN i,ae<|.d<|hs rs ks ps hd,ae<|.d d,ah]) (bx:=bx) (m:=dV 0) (k:=dC<|.int 0) za za (by rw[<-h];rfl);cases c with
  |true=>show jI t
  |false=>show gU t
 cases b with
 |false=>
   have nn:=OF H h1;by_cases c:i=0
   .show gi<|Gc (by decide) (t0<|decide_eq_true c)<|oO (l:=[.d<|hs rs ks ps hd,.d d]) za za<|AC<|FV<|AB<|oO (l:=[.d<|hs rs ks ps hd,.d d]) za za nn
   .show gi<|Gc (c:=4) (by decide) (t0<|decide_eq_false c)<|oO (l:=[.d<|hs rs ks ps hd,.d d,.d<|.int 5]) za za<|AC<|FV<|AB<|oO (l:=[.d<|hs rs ks ps hd,.d d]) za za nn
 |true=>
   let#[gs,rfl,G]:=h3 za;by_cases c:i=0
   .let#[x,e]:=Sv H G h1;show gi<|Ge (t0<|decide_eq_true c)<|cV e
   .let#[x,e]:=Sw H G h1;show gi<|Ge (t0<|decide_eq_false c)<|cV e
noncomputable abbrev fld (h K Od:D) (e:Nat):List (Str×(D ⊕ Nat)):=[("home",.inl h),("kept",.inl K),("dark_hours",.inl Od),("earlier",.inr e)]
abbrev bk (L:List Bx) (C:ai) (h K Od:D) (er:List D):List Bx:=L++[.lst er,.ins C<|fld h K Od L.length]
section
variable {K:D}
theorem DW:(bk L C h K Od er)[L.length+1]?=ae (.ins C<|fld h K Od L.length):=by simp
theorem TN:(bk L C h K Od er)[L.length]?=ae (.lst er):=by simp
theorem TQ:(bk L C h K Od er).set L.length (.lst nS)=bk L C h K Od nS:=by simp
theorem PH:(bk L C h K Od er).set (L.length+1) (.ins C fs)=L++[.lst er,.ins C fs]:=by simp
theorem AF:(bk L C h K' v8 nS).length=(bk L C h K Od er).length:=by simp
theorem Sy (he:env[i]?=ae (xB<|L.length+1)):dq C (dV i) "home" env (bk L C h K Od er)=.val (.d h) (bk L C h K Od er):=by
 unfold dq;rw[iG,he,fX];erw[DW];rfl
theorem lO (he:env[i]?=ae (xB<|L.length+1)):dq C (dV i) "kept" env (bk L C h K Od er)=.val (.d K) (bk L C h K Od er):=by
 unfold dq;rw[iG,he,fX];erw[DW];rfl
theorem DY (he:env[i]?=ae (xB<|L.length+1)):dq C (dV i) "dark_hours" env (bk L C h K Od er)=.val (.d Od) (bk L C h K Od er):=by
 unfold dq;rw[iG,he,fX];erw[DW];rfl
theorem Sz (he:env[i]?=ae (xB<|L.length+1)):dq C (dV i) "earlier" env (bk L C h K Od er)=.val (.b L.length) (bk L C h K Od er):=by
 unfold dq;rw[iG,he,fX];erw[DW];rfl
theorem SA (he:env[i]?=ae (xB<|L.length+1)) (hv:v env (bk L C h K Od er)=.val (.d K') (bk L C h K Od er)):pZ C (dV i) "kept" v env (bk L C h K Od er)=.nx env (bk L C h K' Od er):=by
 unfold pZ;rw[hv,iI,iG,he,iI];erw[DW];show congrArg _ PH
theorem SC (he:env[i]?=ae (xB<|L.length+1)) (hv:v env (bk L C h K Od er)=.val (.d v8) (bk L C h K Od er)):pZ C (dV i) "dark_hours" v env (bk L C h K Od er)=.nx env (bk L C h K v8 er):=by
 unfold pZ;rw[hv,iI,iG,he,iI];erw[DW];show congrArg _ PH
theorem iX (he:env[i]?=ae (xB<|L.length+1)) (hk:k env (bk L C h K Od er)=.val ws (bk L C h K Od er)) (hf:fn (.b (L.length+1)::ws) (bk L C h K Od er)=o) (hn:((fld h K Od L.length).lookup nm).isNone=ag:=by rfl) (hl:ws.length+1=n:=by rfl):nR C fn nm n (dV i) k env (bk L C h K Od er)=o:=by
 unfold nR;rw[iG,he,fX];erw[DW];rw[if_pos #[trivial,hn],hk,fX,if_pos hl,hf]
theorem TR (h:m (ws.map ae++List.replicate (n-ws.length) ah) bx=.nx e bx') (l:bx'.length=bx.length):aN n (aU m) ws bx=.val (.d .non) bx':=by
 simp[aN,aU,DL.envOf,h,pQ,pR];rw[<-l,rN]
theorem OG:E9 C [.b<|L.length+1] (bk L C h (.tup l) Od er)=.val (.d<|.lst l) (bk L C h (.tup l) Od er):=
 gi (gx<|ie (r:=.lst l) [.tup l] (fj (lO za) za) za)
theorem MC (hp:dF [P]=ae (.lst K')) (hq:dF [Q]=ae (.lst v8)) (hl:er.length<1000) :
 KN C [.b<|L.length+1,.d P,.d Q] (bk L C h K Od er)=.val (.d .non) (bk L C h (.tup K') (.tup v8)<|er++[.tup [K,Od]]):=by
 have sz:=bB;have a:=FT (k:=fL<|fc (dq C (dV 0) "kept")<|fc (dq C (dV 0) "dark_hours") fe) (Sz (h:=h) (er:=er) (env:=[xB<|L.length+1,ae<|.d P,ae<|.d Q]) (i:=0) za) TN (gM [K,Od] (fj (lO za)<|fj (DY za) za) (by simp;lia)) TN (by lia);rw[TQ]at a;show TR (qE a<|(fE<|SA za<|ie [.lst K'] (fj (ie [P] za hp) za) za).trans<|SC za<|ie (r:=.tup v8) [.lst v8] (fj (ie (r:=.lst v8) [Q] za hq) za) za) AF
theorem afX (h:a.length<=1000):fP (.tup a) (.tup [x])=ae (.tup<|a++[x]):=by
 have sz:=bB;change (if a.length+1<=sizeLine then ae _ else ah)=_;rw[if_pos (by lia)]
end
theorem SD (g):(toPy<|enc g).canLay0=ag /\ (toPy<|enc g).depth<=1:=by
 have a:PyData.strOk (Str.ofString "out")=ag:=by decide +kernel
 have b:PyData.strOk (Str.ofString "in")=ag:=by decide +kernel
 have c:PyData.strOk (Str.ofString "to")=ag:=by decide +kernel
 cases g<;>simp[a,b,c,enc,cU,kh,bV,toPy,bq,PyData.canLay0,PyData.canLayAll0,PyData.depth,PyData.depthAll]
theorem OH:∀ l:List Pg,PyData.canLayAll0 (bq<|l.map enc)=ag /\ PyData.depthAll (bq<|l.map enc)<=1:=by
 intro l_;induction l_ with
 |nil=>show#[rfl,dA _]
 |cons q l aA=>
   let#[a,b]:=SD q;let#[c,d]:=aA;erw[aQ,bq,PyData.canLayAll0,PyData.depthAll,a,c];show#[rfl,by lia]
theorem MD (h:m (ws.map ae++List.replicate (n-ws.length) ah) bx=.nx e B) (l:B.length=bx.length):aN n m ws bx=.val (.d .non) B:=by
 simp[aN,DL.envOf,h,pQ,pR];rw[<-l,rN]
theorem Gf (h:m (ws.map ae++List.replicate (n-ws.length) ah) bx=.rt (.d d) B) (l:B.length=bx.length):aN n (aU m) ws bx=.val (.d d) B:=by
 rw[lc h,<-l,rN]

theorem fset (he:env[0]?=ae (xB bx.length)) (hv:v env (bx++[.ins C fs])=.val (.d d) (bx++[.ins C fs])) (hl:fs.length<1000) :
 pZ C (dV 0) f v env (bx++[.ins C fs])=.nx env (bx++[.ins C<|uL f (.inl d) fs]):=by
 unfold pZ;rw[hv,iI,iG,he,iI];erw[Ye];rw[if_pos #[trivial,hl],QQ _ _<|aB _,k6];rfl
theorem SE (H:Hs rs ks ps hd) (hk:k env bx=.val [.d<|hs rs ks ps hd] L):xY C "earlier" (KJ C) k env bx=.val (.b<|L.length+1) (bk L C (hs rs ks ps hd) (.tup []) (.tup []) []):=by
 have et:∀ b,fL fe (xW L.length<|hs rs ks ps hd) b=.val (.d<|.tup []) b:=λb=>gM [] za<|dA _;have m:KJ C (xW L.length<|hs rs ks ps hd) (L++[.ins C []])=.nx (xW L.length<|hs rs ks ps hd) (L++[.ins C [("home",.inl<|hs rs ks ps hd),("kept",.inl<|.tup []),("dark_hours",.inl<|.tup [])]]):=
  qE (cV<|aJ.jK H) ((fE<|fset za za (by simp)).trans<|(fE<|fset (fs:=[("home",.inl<|hs rs ks ps hd)]) za (et _) (by simp)).trans<|(fE<|fset (fs:=[("home",.inl<|hs rs ks ps hd),("kept",.inl<|.tup [])]) za (et _) (by simp)))
 unfold xY;rw[hk,fX];erw[m,List.getLast?_concat];rw[if_pos #[rfl,rfl,by simp]];rfl
theorem B6 {K}:K13.KL C [.b<|L.length+1,.d d] (bk L C (hs rs ks ps hd) K (.tup []) er)=if cM rs.length ks.length d then .val (.d .non) (bk L C (hs rs ks ps hd) K (.tup []) er) else .exc 11 (bk L C (hs rs ks ps hd) K (.tup []) er):=by
 have t:dB (fq aJ.ir 2<|fc (dq C (dV 0) "home")<|fc (dV 1) fe) [ae _,ae _] _=.val _ (bk L C _ K (.tup []) er):=fT<|fM (fj (Sy za)<|fj za za) za<|Mg (rs:=rs) (ks:=ks) (ps:=ps) (hd:=hd) (bx:=bk L C _ K _ er) d;cases q:cM rs.length ks.length d with
 |true=>
   rw[q]at t;show L9<|(gU<|fY t)
 |false=>
   rw[q]at t;show AC<|(jI<|fY t).trans<|BW za
theorem TU (neg) (g) (l) (hl:l=[] \/ l=[g]):inD neg (enc g) (.tup<|l.map enc)=ae (.old<|.bl (if neg then decide (l=[]) else !decide (l=[]))):=by
 change (if kT (enc g)=ag /\ (l.map enc).all kT=ag then ae (Res.old<|.bl (if neg=ag then !nD (enc g) (l.map enc) else nD (enc g) (l.map enc))) else tV neg _ _ _)=_;rw[if_neg (λz=>by cases z.1)];unfold tV;let#[a1,a2]:=SD g;have q1:dI (enc g)=ag:=by unfold dI;lia
 let#[b1,b2]:=OH l;have q2:dI (.tup<|l.map enc)=ag:=by unfold dI;simp[toPy,PyData.canLay0,PyData.depth,decide_eq_true_eq];lia
 rw[q1,q2];have r:eqv (enc g) (enc g)=ag:=Zb _ a1;rcases hl with rfl|rfl
 .cases neg<;>rfl
 .simp[r]
theorem afY (g):dF [.tup [enc g]]=ae (.lst [enc g]):=by
 let#[qs,p,so,_]:=mB (gs:=[g]) (by simp);rw[List.perm_singleton.mp p]at so;show so
theorem Wc:dF [.tup []]=ae (.lst []):=by simp[dF,tL,intsOf,sortI]
theorem SF (g) (ok:uU rs.length ks.length g) (he:er.length<900):K13.Hc C [.b<|L.length+1,.d<|enc g] (bk L C (hs rs ks ps hd) (.tup []) (.tup []) er)=.val (.d .non) (bk L C (hs rs ks ps hd) (.tup [enc g]) (.tup [])<|er++[.tup [.tup [],.tup []]]):=by
 have np:=B6 (L:=L) (C:=C) (rs:=rs) (ks:=ks) (ps:=ps) (hd:=hd) (er:=er) (K:=.tup []) (d:=enc g);rw[FZ g ok,if_pos rfl]at np;have sz:=bB;have kv:=MC (C:=C) (h:=hs rs ks ps hd) (K:=.tup []) (Od:=.tup []) (L:=L) (er:=er) (afY g) Wc (by lia);show MD (qE (iX za (fj za za) np)<|qF (fT<|fQ za (lO za)<|TU af g []<|.inl za)<|qF (fT<|fQ (r:=.old<|.bl af) (ie [.tup []] (fj (lO za) za) za) za za)<|mT<|iX za (fj (fQ (x:=.tup []) (y:=.tup [enc g]) (r:=.tup [enc g]) (lO za) (gM [enc g] za (by simp;lia))<|afX (a:=[]) (by simp))<|fj (DY za) za) kv) AF
theorem Jd (g):K13.V2 [.d<|.tup [enc g],.d<|enc g] B=.val (.d<|.tup []) B:=by
 let#[a1,a2]:=SD g;have q1:dI (enc g)=ag:=by unfold dI;lia
 have r:eqv _ _=ag:=Zb _ a1;have ne:cQ (enc g) (enc g)=ae (.old<|.bl af):=by
  have:cQ (enc g) (enc g)=tP ag (enc g) (enc g):=by cases g<;>rfl
  rw[this];unfold tP;rw[q1,r];rfl
 show gi<|gx<|ie (r:=.tup []) [.lst []] (fj (abb (l:=[g]) (r:=[ae _]) _ (λ_=>.non) (i8 za) za (by simp;have:=bB;lia) λx m=>#[fT<|fQ (r:=.old<|.bl af) za za (by rw[eY.mp m];show ne),λz=>(nomatch z)]) za) za
theorem ME (g) (ok:uU rs.length ks.length g) (he:er.length<900):K13.Hd C [.b<|L.length+1,.d<|enc g] (bk L C (hs rs ks ps hd) (.tup [enc g]) (.tup []) er)=.val (.d .non) (bk L C (hs rs ks ps hd) (.tup []) (.tup [])<|er++[.tup [.tup [enc g],.tup []]]):=by
 have np:=B6 (L:=L) (C:=C) (rs:=rs) (ks:=ks) (ps:=ps) (hd:=hd) (er:=er) (K:=.tup [enc g]) (d:=enc g);rw[FZ g ok,if_pos rfl]at np;have kv:=MC (C:=C) (h:=hs rs ks ps hd) (K:=.tup [enc g]) (Od:=.tup []) (L:=L) (er:=er) Wc Wc (by lia);show MD (qE (iX za (fj za za) np)<|qF (fT<|fQ za (lO za)<|TU ag g [g]<|.inr za)<|mT<|iX za (fj (fM (fj (lO za)<|fj za za) za<|Jd g)<|fj (DY za) za) kv) AF
noncomputable abbrev pg (b:Bool):Str:=if b then "" else "page"
theorem TV (d) (he:er.length<800):∃ nS,nS.length<=er.length+2 /\ ∀ {e2:bt}{w},e2=[w,xB<|L.length+1,ae<|.d d] ->
 bu (ff 0) ge (fq (K13.sN C) 3<|fc (dV 1)<|fc (dV 0)<|fc (dV 2) fe) ([D.int 0,.int 1].map W.d) e2 (bk L C (hs rs ks ps hd) (.tup []) (.tup []) er) []=.val [.str<|pg<|cM rs.length ks.length d,.str<|pg<|cM rs.length ks.length d] (bk L C (hs rs ks ps hd) (.tup []) (.tup []) nS):=by
 have sz:=bB;have t0:∀ {i:Int}{c:Bool}{s r:aE}{B:List Bx},decide (i=0)=c->aT (dB<|d2 af aZ (dV 1)<|dC<|.int 0) s r [xB<|L.length+1,xN i,ae<|.d d,ah] B=if c then s [xB<|L.length+1,xN i,ae<|.d d,ah] B else r [xB<|L.length+1,xN i,ae<|.d d,ah] B:=λ{i c s r B} h=>by
  have t:=fT<|fQ (g:=aZ) (r:=.old<|.bl c) (env:=[xB<|L.length+1,xN i,ae<|.d d,ah]) (bx:=B) (m:=dV 1) (k:=dC<|.int 0) za za (by rw[<-h];rfl);cases c with
  |true=>show jI t
  |false=>show gU t
 have two:∀ {x y:Str}{B1 B2:List Bx},K13.sN C [.b<|L.length+1,.d<|.int 0,.d d] (bk L C (hs rs ks ps hd) (.tup []) (.tup []) er)=.val (.d<|.str x) B1->K13.sN C [.b<|L.length+1,.d<|.int 1,.d d] B1=.val (.d<|.str y) B2->∀ {e2:bt}{w:Option W},e2=[w,xB<|L.length+1,ae<|.d d] ->
  bu (ff 0) ge (fq (K13.sN C) 3<|fc (dV 1)<|fc (dV 0)<|fc (dV 2) fe) ([D.int 0,.int 1].map W.d) e2 (bk L C (hs rs ks ps hd) (.tup []) (.tup []) er) []=.val [.str x,.str y] B2:=λ{x y B1 B2} h1 h2 e2 w h=>by
  subst h;have c1:fq (K13.sN C) 3 (fc (dV 1)<|fc (dV 0)<|fc (dV 2) fe) [xN 0,xB<|L.length+1,ae<|.d d] (bk L C (hs rs ks ps hd) (.tup []) (.tup []) er)=.val (.d<|.str x) B1:=cV h1;have c2:fq (K13.sN C) 3 (fc (dV 1)<|fc (dV 0)<|fc (dV 2) fe) [xN 1,xB<|L.length+1,ae<|.d d] B1=.val (.d<|.str y) B2:=cV h2;have g0:∀ {i:Int}{w:Option W}{B:List Bx},ff 0 (.d<|.int i) [w,xB<|L.length+1,ae<|.d d] B=ae ([xN i,xB<|L.length+1,ae<|.d d],B):=rfl;have l0:([]:List D).length<sizeLine:=by simp;lia
  have l1:([]++[D.str x]).length<sizeLine:=by simp;lia
  erw[aQ,QO,bu,g0,c1,c2,oJ,mO,if_pos l0,if_pos l1];rfl
 cases q:cM rs.length ks.length d with
 |false=>
   have np:=B6 (L:=L) (C:=C) (rs:=rs) (ks:=ks) (ps:=ps) (hd:=hd) (er:=er) (K:=.tup []) (d:=d);rw[q,if_neg (by decide)]at np;have f:∀ i:Int,K13.sN C [.b<|L.length+1,.d<|.int i,.d d] (bk L C (hs rs ks ps hd) (.tup []) (.tup []) er)=.val (.d<|.str "page") (bk L C (hs rs ks ps hd) (.tup []) (.tup []) er):=λi=>by
    by_cases c:i=0
    .show Gf (Gc (c:=11) (by decide) (t0<|decide_eq_true c)<|iX (fn:=K13.Hc C) (nm:="tell") (k:=fc (dV 2) fe) (n:=2) (ws:=[.d d]) za (fj za za)<|AC<|FV<|AB<|iX za (fj za za) np) za
    .show Gf (Gc (c:=11) (by decide) (t0<|decide_eq_false c)<|iX (fn:=K13.Hd C) (nm:="strike") (k:=fc (dV 2) fe) (n:=2) (ws:=[.d d]) za (fj za za)<|AC<|FV<|AB<|iX za (fj za za) np) za
   show#[er,by lia,two (f 0)<|f 1]
 |true=>
   let#[g,rfl,ok]:=Pu q;have t:=SF (L:=L) (C:=C) (ps:=ps) (hd:=hd) (er:=er) g ok (by lia);have s:=ME (L:=L) (C:=C) (ps:=ps) (hd:=hd) (er:=er++[.tup [.tup [],.tup []]]) g ok (by rw[bG];change er.length+1<900;lia);refine#[_,?_,two (Gf (Ge (t0 za)<|iX (fn:=K13.Hc C) (nm:="tell") (k:=fc (dV 2) fe) (n:=2) (ws:=[.d<|enc g]) za (fj za za) t) AF)<|Gf (Ge (t0 za)<|iX (fn:=K13.Hd C) (nm:="strike") (k:=fc (dV 2) fe) (n:=2) (ws:=[.d<|enc g]) za (fj za za) s) AF];rw[bG,bG];show aB _
noncomputable abbrev pH:List D:=[.int 4,.str "in",.int 3,.int 0,.int 0,.int 7,.int 8]
abbrev o1:List D:=[.tup pH,.tup [.int 4,.str "out",.int 3],.tup [.int 4,.str "to",.int 3,.int 0],.tup [.int<|-1,.str "out",.int 3],.tup [.bl ag,.str "out",.int 3],.tup [.int 4,.str "out",.int 10],.tup [.int 4,.str "out",.int<|-1]]
noncomputable abbrev o2 (r:Int):List D:=[.tup [.int 4,.str "to",.int 3,.int r],.tup [.int 4,.str "to",.int 3,.int<|r-1],.tup [.int 4,.str "to",.int 3,.int<|-1],.tup [.int 4,.str "out",.int 3,.int 0],.tup [.int 4,.str "to",.int 3]]
noncomputable abbrev o3 (r k:Int):List D:=[.tup [.int 4,.str "in",.int 3,.int k,.int 0,.int 7,.int 8],.tup [.int 4,.str "in",.int 3,.int 0,.int r,.int 7,.int 8],.tup [.int 4,.str "in",.int 3,.int 0,.int 0,.int 1000,.int 8]]
noncomputable abbrev o4:List D:=[.tup [.int 4,.str "in",.int 3,.int 0,.int 0,.int 999,.int 99],.tup [.int 4,.str "in",.int 3,.int 0,.int 0,.int 7,.int 100],.tup [.int 4,.str "in",.int 3,.int 0,.int 0,.int<|-1,.int 8],.tup [.int 4,.str "In",.int 3]]
abbrev o5:List D:=[.tup [.int 4,.str "in",.int 3],.tup [.int 4,.int 5,.int 3],.tup [.int 4,.non,.int 3],.tup [.int 4,.str "",.int 3],.lst pH,.tup [.int 4,.str "to",.bl ag,.int 0]]
noncomputable abbrev o6:D:=.tup [.int 4,.str "to",.int 3,.non]
noncomputable abbrev o7:D:=.tup [.int<|10 ^ 40-1,.str "out",.int 9]
abbrev oL (r k:Int):List D:=o1++o2 r++o3 r k++o4++o5++[o6]
abbrev bE (r k:Int):List Bx:=[.lst o1,.lst<|o1++o2 r,.lst<|o1++o2 r++o3 r k,.lst<|o1++o2 r++o3 r k++o4,.lst<|oL r k]
def afZ (r k:Nat):Bool:=let l:=oL r k
 kY (10 ^ 30) l&&decide (PyData.depthAll (bq l)<=1)&&decide (dr l<=400000)
theorem OI:∀ r,r<6->∀ k,k<6->afZ r k=ag:=by decide +kernel
section
variable {ls:List Bx}
theorem KY:(B0++ls)[B0.length+i]?=ls[i]?:=by rw[dD (by lia),QD]
theorem KZ (h1:m env (B0++ls)=.val (.b<|B0.length+i) (B0++ls)) (h2:k env (B0++ls)=.val (.d<|.lst r) (B0++ls)) (g:ls[i]?=ae (.lst l)) (hl:l.length+r.length<=sizeLine):d2 ag fP m k env (B0++ls)=.val (.b<|B0.length+ls.length) (B0++(ls++[.lst<|l++r])):=by
 rw[Sj h1 h2 (KY.trans g) hl,bG,vi]
theorem af0 (h1:m env (B0++ls)=.val (.b<|B0.length+i) (B0++ls)) (h2:k env (B0++ls)=.val (.d d) (B0++ls)) (g:ls[i]?=ae (.lst l)) (hl:l.length<sizeLine):tM m k env (B0++ls)=.val (.d .non) (B0++ls.set i (.lst<|l++[d])):=by
 rw[FT h1 (KY.trans g) h2 (KY.trans g) hl,QQ _ _ (by lia),QD]
theorem af1 (h1:m env B=.val (.b j) B1) (h2:k env B1=.val (.d<|.lst r) B2) (g:B2[j]?=ae (.lst l)) (hl:l.length+r.length<=sizeLine):d2 af fP m k env B=.val (.d<|.lst<|l++r) B2:=by
 rw[G6,h1,fX,h2,fX];have r1:bF B2 (.b j)=ae (.lst l):=by simp[bF,g]
 rw[r1,om,bI,bI,show fP (.lst l) (.lst r)=ae _ from if_pos hl];rfl
end

theorem TW (h:n<bx.length) (H:Hs rs ks ps hd) (p):∃ os q,KI [.b n,.d<|hs rs ks ps hd] (pt bx n p)=.val (.d<|.lst os) (pt bx n q) /\ os.length<=100 /\ ∀ o∈os,vO o=ag:=by
 have sz:=bB;have sm:=OI rs.length (by have:=H.r5;lia) ks.length (by have:=H.k4;lia);have SL:=Oh sm;have hB:n<(bx++bE rs.length ks.length).length:=by rw[bG];lia
 have sp:Sm (10 ^ 30) 1 20000 (.tup pH):=by
  have:=(SL.mem (d:=.tup pH) (by simp));show#[this.s,this.e,by decide +kernel]
 let#[d1,q1,b1,s1]:=FQ hB 12 (.tup pH) p _ _ _ (aB _) sp (by decide) (by decide);let#[Et,q2,b2,s2]:=FQ hB 12 d1 q1 _ _ _ (by decide) s1 (by decide) (by decide);let#[o,q3,b3,mo]:=Az hB q2;refine#[oL rs.length ks.length++[d1,Et,o,o7],q3,?_,by simp,λx m=>?_]
 .have eE:=(iW (E:=bE rs.length ks.length) (p:=p) h).symm;refine(lc (bx':=pt (bx++bE rs.length ks.length) n q3) ?_).trans (by rw[<-iW h,fN,<-fN,Yf]);have bl:(pt bx n p).length=bx.length:=fN;rw[eE]at b1;generalize pt bx n p=B0 at *;refine(fE<|kG.lG<|fj (B4 za)<|fj (Mv za) za).trans ?_;refine qS (gM pH za (by decide)) ?_;refine qS (w:=.b B0.length) (bx1:=B0++[.lst o1]) (by kernel_rfl) ?_;refine qS (KZ (i:=0) (l:=o1) (r:=o2 rs.length) za (by kernel_rfl) za (by rw[sz];simp)) ?_;refine qS (KZ (i:=1) (l:=o1++o2 rs.length) (r:=o3 rs.length ks.length) za (by kernel_rfl) za (by rw[sz];simp)) ?_;refine qS (KZ (i:=2) (l:=o1++o2 rs.length++o3 rs.length ks.length) (r:=o4) za (by kernel_rfl) za (by rw[sz];simp)) ?_;refine qS (KZ (i:=3) (l:=o1++o2 rs.length++o3 rs.length ks.length++o4) (r:=o5) za (by kernel_rfl) za (by rw[sz];simp)) ?_;refine qE (af0 (i:=4) (d:=o6) (l:=o1++o2 rs.length++o3 rs.length ks.length++o4++o5) za (by kernel_rfl) za (by rw[sz];simp)) ?_;refine qS (cV (l:=[.b n,.d<|.tup pH]) b1) ?_;refine gx (af1 (j:=B0.length+4) (r:=[d1,Et,o,o7]) za (ig [d1,Et,o,o7] (fj za<|fj (cV (l:=[.b n,.d d1]) b2)<|fj (cV (l:=[.b n]) b3)<|fj (gM [.int<|10 ^ 40-1,.str "out",.int 9] (fj (fQ (x:=.int<|10 ^ 40) (y:=.int 1) (r:=.old<|.int<|10 ^ 40-1) (fQ (r:=.old _) za za<|Pq (by decide)) za za) za) (by decide)) za) (by rw[sz];simp)) ?_ ?_)
  .rw[<-iW h,bl,<-fN (bx:=bx) (n:=n) (p:=q3),KY];rfl
  .rw[sz];simp
 .rcases dZ.mp m with m|m
  .show iV (SL.mem m) (by decide) (by decide) (by rw[sz];decide)
  .erw[a9,pJ,or_false]at m;rcases m with rfl|rfl|rfl|rfl
   .show iV s1 (by decide) (by decide) (by rw[sz];decide)
   .show iV s2 (by decide) (by decide) (by rw[sz];decide)
   .show iV (oN _ mo) (by decide) (by decide) (by rw[sz];decide)
   .show iV (B:=10 ^ 40) (a:=1) (b:=10000) #[by decide +kernel,by decide +kernel,by decide +kernel] (by decide) (by decide) (by rw[sz];decide)
abbrev qx:aE:=(fB (fO (kP (dB<|fq K13.sM 2<|fc (dV 3)<|fc (dV 9) fe) (dC<|.str "")<|dC<|.str "pages")<|ff 10)<|aT (dB<|d2 af cQ (gc af [ah,ae 3,ae 9] (bP<|fL<|fc (dC<|.int 0)<|fc (dC<|.int 1) fe) (ff 0) ge<|fq K13.Hb 3<|fc (dV 0)<|fc (dV 1)<|fc (dV 2) fe)<|gj af<|fc (dV 10)<|fc (dV 10) fe) (fJ<|dC<|.bl af) a8)
abbrev abj (C:ai):aE:=(fB (kg 7 8<|fc (fq K1.fk 2<|fc (dV 2)<|fc (d2 af fP (dN af aS<|fc (dV 4) fe)<|dC<|.int 1) fe)<|fc (vP<|dV 6) fe)<|fB (jT (bP<|gj af<|fc (d2 af fP (d2 af fP (dX af (dV 4) eS<|dH<|dV 7)<|gj af<|fc (dV 6) fe)<|dX af (dV 4) (dH<|dV 7) eS)<|fc (gj af<|fc (dV 6) fe)<|fc (dN af qp<|fc (dV 4) fe) fe) (ff 9) qx)<|fB (fO (kP (dB<|fq K13.uS 2<|fc (dV 3)<|fc (dV 6) fe) (gj af<|fc (dC<|.str "")<|fc (dC<|.str "") fe)<|gj af<|fc (dC<|.str "page")<|fc (dC<|.str "page") fe)<|ff 10)<|aT (eO (dB<|d2 af cQ (gc af [ah,ae 5,ae 6] (bP<|fL<|fc (dC<|.int 0)<|fc (dC<|.int 1) fe) (ff 0) ge<|fq (K13.sN C) 3<|fc (dV 1)<|fc (dV 0)<|fc (dV 2) fe)<|dV 10)<|eO (dB<|d2 af cQ (nR C (K13.E9 C) "pages" 1 (dV 5) fe)<|gj af fe)<|dB<|d2 af cQ (vP<|dV 6)<|dV 8) (fJ<|dC<|.bl af) a8)
abbrev abk (C:ai):aE:=(fB (fO (fq K1.jC 1<|fc (fq K1.g6 2<|fc (dV 0)<|fc (dV 1) fe) fe)<|ff 2)<|fB (fO (fq aJ.iM 1<|fc (dV 2) fe)<|ff 3)<|fB (kg 4 5<|fc (fq aJ.iN 4<|fc (dV 2)<|fc (dV 3)<|fc (dC<|.int 14)<|fc (dC<|.int 30) fe)<|fc (xY C "earlier" (K13.KJ C)<|fc (dV 3) fe) fe)<|fB (jT (bP<|fq K13.KI 2<|fc (dV 2)<|fc (dV 3) fe) (ff 6)<|abj C)<|fB (fO (gc af [ah] (eP<|fc (dC<|.int 16) fe) (ff 0) ge<|fL<|fc (dV 0)<|fc (dC<|.str "out")<|fc (dC<|.int 0) fe)<|ff 11)<|jT (bP<|gj af<|fc (dV 11)<|fc (d2 af fP (dV 11)<|gj af<|fc (fL<|fc (dC<|.int 16)<|fc (dC<|.str "out")<|fc (dC<|.int 0) fe) fe)<|fc (d2 af fP (dV 4)<|dX af (dV 4) eS<|dH<|dC<|.int 1)<|fc (xV af 0 4)<|fc (dC .non)<|fc (fq K1.fS 1<|fc (dV 2) fe)<|fc (gj af fe) fe) (ff 9) qx)
theorem Uq (C):Pm C=fB (jT (eP<|fc (dN af maxD<|fc (dC<|.int 1)<|fc (dN af minD<|fc (uF<|dV 0)<|fc (dC<|.int 5) fe) fe) fe) (ff 1)<|abk C) (fJ<|dC<|.bl ag):=rfl
noncomputable abbrev lE (l:List Int) (k:Int) (n:Nat) (H P:D) (j:Nat) (x6 x7 x8 x9 x10 x11:Option W):bt:=[ae<|.s l,ae<|.d<|.int k,ae<|.b n,ae<|.d H,ae<|.d P,ae<|.b j,x6,x7,x8,x9,x10,x11]
theorem Ur (b):cQ (.lst [.str<|pw b,.str<|pw b]) (.lst [.str<|pw b,.str<|pw b])=ae (.old<|.bl af):=by cases b<;>kernel_rfl
theorem Us (b):cQ (.lst [.str<|pg b,.str<|pg b]) (.lst [.str<|pg b,.str<|pg b])=ae (.old<|.bl af):=by cases b<;>kernel_rfl

theorem Ut (H:Hs rs ks ps hd) (d):∃ y,qx (lE l k n (hs rs ks ps hd) P j x6 x7 x8 (ae<|.d d) x10 x11) B=.nx (lE l k n (hs rs ks ps hd) P j x6 x7 x8 (ae<|.d d) y x11) B:=by
 have sz:=bB;let#[b,h1,h2]:=Sx H d;have s:kP (dB<|fq K13.sM 2<|fc (dV 3)<|fc (dV 9) fe) (dC<|.str "") (dC<|.str "pages") (lE l k n (hs rs ks ps hd) P j x6 x7 x8 (ae<|.d d) x10 x11) B=.val (.d<|.str<|pw b) B:=by
  have t:=fT<|fM (ks:=fc (dV 3)<|fc (dV 9) fe) (env:=lE l k n (hs rs ks ps hd) P j x6 x7 x8 (ae<|.d d) x10 x11) za za h1;cases b with
  |true=>show Ps t za
  |false=>show Pt t za
 refine#[ae<|.d<|.str<|pw b,qS s<|(gU<|fT<|fQ (V5 (l:=[0,1]) (λ_=>.str<|pw b) (i8<|gM [.int 0,.int 1] za (by rw[sz];simp)) za (by rw[sz];simp) λi _=>cV<|h2 i) (ig [.str<|pw b,.str<|pw b] za (by rw[sz];simp))<|Ur b)]
theorem PJ (H:Hs rs ks ps hd) (ds:List D):∃ y9 kZ,eu (ff 9) qx (ds.map W.d) (lE l k n (hs rs ks ps hd) P j x6 x7 x8 x9 x10 x11) B=.nx (lE l k n (hs rs ks ps hd) P j x6 x7 x8 y9 kZ x11) B:=by
 let#[aP,b',f,y9,kZ,rfl,rfl]:=mh (g:=ff 9) (body:=qx) (λ_ env b=>∃ y9 kZ,env=lE l k n _ P j x6 x7 x8 y9 kZ x11 /\ b=B) (ds.map W.d) 0 (lE l k n (hs rs ks ps hd) P j x6 x7 x8 x9 x10 x11) B #[_,_,rfl,rfl] (by
  rintro i w env b hw ⟨y9,kZ,rfl,rfl⟩;let#[d,_,rfl]:=bc.mp<|eD hw;let#[y,e]:=Ut H d;show#[_,_,_,_,rfl,e,_,_,rfl,rfl])
 show#[y9,kZ,f]
theorem Uu (hn:n<A.length) (H:Hs rs ks ps hd) (hl:gl.length<=100) (he:er.length<800) (d) (rT:vO d=ag) (q) :
 ∃ nS q' y7 y8 y9 kZ,nS.length<=er.length+2 /\ abj C (lE l k n (hs rs ks ps hd) (.lst gl) (A.length+1) (ae<|.d d) x7 x8 x9 x10 x11) (pt (bk A C (hs rs ks ps hd) (.tup []) (.tup []) er) n q)=.nx (lE l k n (hs rs ks ps hd) (.lst gl) (A.length+1) (ae<|.d d) y7 y8 y9 kZ x11) (pt (bk A C (hs rs ks ps hd) (.tup []) (.tup []) nS) n q'):=by
 have sz:=bB;have hB:n<(bk A C (hs rs ks ps hd) (.tup []) (.tup []) er).length:=by simp;lia
 let#[r,q1,t,r0,r1]:=p9 hB q ((gl.length)+1) (by lia) (by lia);have eb:∀ er,bk (pt A n q1) C (hs rs ks ps hd) (.tup []) (.tup []) er=pt (bk A C (hs rs ks ps hd) (.tup []) (.tup []) er) n q1:=λer=>by unfold bk;rw[fN,iW hn]
 let#[nS,el,mt]:=TV d he;have pv:=OG (L:=pt A n q1) (C:=C) (h:=hs rs ks ps hd) (l:=[]) (Od:=.tup []) (er:=nS);rw[fN,eb er,eb nS]at mt;obtain⟨B1,abl⟩:∃ B1,B1=pt (bk A C (hs rs ks ps hd) (.tup []) (.tup []) er) n q1:=#[_,rfl];rw[<-abl]at mt;let#[y9,kZ,f]:=PJ H [.lst<|DL.cutD gl ah (ae r)++[d]++DL.cutD gl (ae r) ah,.lst [d],.tup gl];have c1:=BV gl ah<|ae r;have c2:=BV gl (ae r) ah;have lp:=Ga (rs:=rs) (ks:=ks) (ps:=ps) (hd:=hd) (bx:=B1) d;have due:kP (dB<|fq K13.uS 2<|fc (dV 3)<|fc (dV 6) fe) (gj af<|fc (dC<|.str "")<|fc (dC<|.str "") fe) (gj af<|fc (dC<|.str "page")<|fc (dC<|.str "page") fe) (lE l k n (hs rs ks ps hd) (.lst gl) (A.length+1) (ae<|.d d) (xN r) (ae<|.d<|.str (toPy d).shown) y9 kZ x11) B1=.val (.d<|.lst [.str<|pg<|cM rs.length ks.length d,.str<|pg<|cM rs.length ks.length d]) B1:=by
  have t:=fT<|fM (ks:=fc (dV 3)<|fc (dV 6) fe) (env:=lE l k n (hs rs ks ps hd) (.lst gl) (A.length+1) (ae<|.d d) (xN r) (ae<|.d<|.str (toPy d).shown) y9 kZ x11) za za lp;cases q:cM rs.length ks.length d with
  |true=>
    rw[q]at t;show Ps t<|ig [.str "",.str ""] za (by rw[sz];simp)
  |false=>
    rw[q]at t;show Pt t<|ig [.str "page",.str "page"] za (by rw[sz];simp)
 refine#[nS,q1,_,_,_,_,el,(fE<|kG.lG<|fj (t za<|fQ (r:=.old<|.int<|(gl.length:Int)+1) (ie (r:=.old<|.int gl.length) [.lst gl] (fj za za) za) za za)<|fj (FN za rT) za).trans<|(fE<|(mf<|iB<|ig [.lst<|DL.cutD gl ah (ae r)++[d]++DL.cutD gl (ae r) ah,.lst [d],.tup gl] (fj (fQ (x:=.lst<|DL.cutD gl ah (ae r)++[d]) (y:=.lst<|DL.cutD gl (ae r) ah) (r:=.lst _) (fQ (x:=.lst<|DL.cutD gl ah<|ae r) (y:=.lst [d]) (r:=.lst _) (FM (r:=.lst _) za za (oM za) za) (ig [d] za (by rw[sz];simp))<|if_pos (by simp;lia)) (FM (r:=.lst _) za (oM za) za za)<|if_pos (by simp;lia))<|fj (ig [d] za (by rw[sz];simp))<|fj (ie (r:=.tup gl) [.lst gl] (fj za za) za) za) (by rw[sz];simp)).trans (by rw[<-abl];show f)).trans<|qS due<|(gU<|gL (fT<|fQ (r:=.old<|.bl af) (iP (bx1:=B1) (l:=[D.int 0,.int 1].map W.d) (i8<|gM [.int 0,.int 1] za (by rw[sz];simp)) za<|mt za) za<|Us _)<|gL (fT<|fQ (x:=.lst []) (y:=.lst []) (r:=.old<|.bl af) ?_ (ig [] za (by rw[sz];simp)) za)<|fT<|fQ (r:=.old<|.bl af) (FN za rT) za<|Oi _).trans za];have:=iX (fn:=K13.E9 C) (nm:="pages") (n:=1) (i:=5) (k:=fe) (ws:=[]) (L:=pt A n q1) (C:=C) (h:=hs rs ks ps hd) (K:=.tup []) (Od:=.tup []) (er:=nS) (env:=lE l k n (hs rs ks ps hd) (.lst gl) (A.length+1) (ae<|.d d) (xN r) (ae<|.d<|.str (toPy d).shown) y9 (ae<|.d<|.lst [.str<|pg<|cM rs.length ks.length d,.str<|pg<|cM rs.length ks.length d]) x11) (by rw[fN];rfl) za pv;rw[eb nS]at this;show this
theorem iC {α:Type}{l:List α}(h:l.length=n+1):∃ x t,l=x::t /\ t.length=n:=by
 cases l with
 |nil=>cases h
 |cons x t=>show#[x,t,rfl,Nat.succ.inj h]
theorem abm (h:a.length+b.length<=sizeLine):fP (.lst a) (.lst b)=ae (.lst<|a++b):=if_pos h
noncomputable def uY:List D:=(List.range 16).map λ(i:Nat)=>.tup [.int i,.str "out",.int 0]
theorem TX (C) (l) (k:Nat) (bx) (xs:bt) (hx:xs.length=10):∃ (ys:bt) (bx':List Bx),ys.length=11 /\ abk C (ae (.s l)::xN (k)::xs) bx=.nx (ae (.s l)::ys) bx':=by
 iterate 2 (have h:=iC hx;clear hx;let#[_,xs,rfl,hx]:=h)
 have h:=iC hx;clear hx;let#[x4,xs,rfl,hx]:=h;have h:=iC hx;clear hx;let#[x5,xs,rfl,hx]:=h;have h:=iC hx;clear hx;let#[x6,xs,rfl,hx]:=h;have h:=iC hx;clear hx;let#[x7,xs,rfl,hx]:=h;have h:=iC hx;clear hx;let#[x8,xs,rfl,hx]:=h;have h:=iC hx;clear hx;let#[x9,xs,rfl,hx]:=h;have h:=iC hx;clear hx;let#[x10,xs,rfl,hx]:=h;have h:=iC hx;clear hx;let#[x11,xs,rfl,hx]:=h;cases Ia hx;have sz:=bB;let#[c,ec]:=R9 l k bx;let#[p,ep]:=Ts c bx;obtain⟨A,hn,pA⟩:∃ A:List Bx,bx.length<A.length /\ bx++[Bx.lst [D.int p]]=pt A bx.length p:=
  #[bx++[.lst [.int p]],by simp,by unfold pt;simp]
 rw[pA]at ep;generalize bx.length=n at *;let#[rs,ks,ps,hd,q,eh,H]:=aJ.Mu hn p;let#[gs,q2,e3,nd,ok,gl]:=Mw (mo:=14) hn H q 30 (by decide) (by decide) (by decide) (by decide);have mk:=SE (C:=C) H (k:=fc (dV 3) fe) (env:=[ae<|.s l,xN<|k,xB n,ae<|.d<|hs rs ks ps hd,x4,x5,x6,x7,x8,x9,x10,x11]) (bx:=pt A n q2) za;have eb:bk (pt A n q2) C (hs rs ks ps hd) (.tup []) (.tup []) []=pt (bk A C (hs rs ks ps hd) (.tup []) (.tup []) []) n q2:=by unfold bk;rw[fN,iW hn]
 rw[fN,eb]at mk;have hB:∀ er,n<(bk A C (hs rs ks ps hd) (.tup []) (.tup []) er).length:=λer=>by simp;lia
 let#[os,q3,e4,ol,sh]:=TW (hB []) H q2;let#[aP,b',f1,y6,y7,y8,y9,kZ,er,q4,rfl,rfl,_]:=mh (g:=ff 6) (λi env b=>∃ y6 y7 y8 y9 kZ er q,env=lE l k n (hs rs ks ps hd) (.lst<|gs.map enc) (A.length+1) y6 y7 y8 y9 kZ x11 /\ b=pt (bk A C (hs rs ks ps hd) (.tup []) (.tup []) er) n q /\ er.length<=2*i) (os.map W.d) 0 (lE l k n (hs rs ks ps hd) (.lst<|gs.map enc) (A.length+1) x6 x7 x8 x9 x10 x11) (pt (bk A C (hs rs ks ps hd) (.tup []) (.tup []) []) n q3) #[_,_,_,_,_,[],_,rfl,rfl,aB _] (by
  rintro i w env b hw ⟨y6,y7,y8,y9,kZ,er,q,rfl,rfl,el⟩;have hi:=(List.getElem?_eq_some_iff.mp hw).1;rw[aV]at hi;let#[d,md,rfl]:=bc.mp<|eD hw;let#[nS,q',z7,z8,z9,af2,le,e]:=Uu (er:=er) hn H (gl:=gs.map enc) (by rw[aV];lia) (by lia) d (sh d md) q;show#[_,_,_,_,rfl,e,_,_,_,_,_,_,_,rfl,rfl,by lia])
 let#[o,q5,e5,_]:=Az (hB er) q4;let#[z9,af2,f2]:=PJ (l:=l) (k:=k) (n:=n) (P:=.lst<|gs.map enc) (j:=A.length+1) (x6:=y6) (x7:=y7) (x8:=y8) (x9:=y9) (x10:=kZ) (x11:=ae<|.d<|.lst uY) (B:=pt (bk A C (hs rs ks ps hd) (.tup []) (.tup []) er) n q5) H [.lst uY,.lst<|uY++[.tup [.int 16,.str "out",.int 0]],.lst<|gs.map enc++DL.cutD (gs.map enc) ah (ae 1),.az [(.inl 0,.lst<|gs.map enc)],.non,o,.lst []];have c1:=BV (gs.map enc) ah<|ae 1;have ahA:(gs.map enc).length=gs.length:=aV ..;have things:gj af (fc (dV 11)<|fc (d2 af fP (dV 11)<|gj af<|fc (fL<|fc (dC<|.int 16)<|fc (dC<|.str "out")<|fc (dC<|.int 0) fe) fe)<|fc (d2 af fP (dV 4)<|dX af (dV 4) eS<|dH<|dC<|.int 1)<|fc (xV af 0 4)<|fc (dC .non)<|fc (fq K1.fS 1<|fc (dV 2) fe)<|fc (gj af fe) fe) (lE l k n (hs rs ks ps hd) (.lst<|gs.map enc) (A.length+1) y6 y7 y8 y9 kZ<|ae<|.d<|.lst uY) (pt (bk A C (hs rs ks ps hd) (.tup []) (.tup []) er) n q4)=.val (.d<|.lst [.lst uY,.lst<|uY++[.tup [.int 16,.str "out",.int 0]],.lst<|gs.map enc++DL.cutD (gs.map enc) ah (ae 1),.az [(.inl 0,.lst<|gs.map enc)],.non,o,.lst []]) (pt (bk A C (hs rs ks ps hd) (.tup []) (.tup []) er) n q5):=
  ig _ (fj za<|fj (fQ (x:=.lst uY) (y:=.lst [.tup [.int 16,.str "out",.int 0]]) (r:=.lst _) za (ig [.tup [.int 16,.str "out",.int 0]] (fj (gM [.int 16,.str "out",.int 0] za (by rw[sz];simp)) za) (by rw[sz];simp))<|abm (by rw[sz];simp[uY]))<|fj (fQ (x:=.lst<|gs.map enc) (y:=.lst<|DL.cutD (gs.map enc) ah<|ae 1) (r:=.lst _) za (FM (r:=.lst _) za za (oM za) za)<|abm (by lia))<|fj za<|fj za<|fj (cV (l:=[.b n]) e5)<|fj (ig [] za (by rw[sz];simp)) za) (by rw[sz];simp)
 refine#[_,_,?_,qS (fM (fj (fM (fj za<|fj za za) za ec) za) za ep)<|qS (fM (fj za za) za eh)<|(fE<|kG.lG<|fj (fM (l:=[.b n,.d<|hs rs ks ps hd,.d<|.int 14,.d<|.int 30]) za za e3)<|fj mk za).trans<|(fE<|(mf<|iB<|fM (l:=[.b n,.d<|hs rs ks ps hd]) za za e4).trans f1).trans<|qS (by
  have sz:=bB;refine V5 _ ?_ za (by rw[sz];simp) λi _=>gM _ za (by rw[sz];simp);rfl)<|(mf<|iB things).trans f2]
 rfl
theorem af3 (l) (bx) (xs:bt):∃ c,eP (fc (dN af maxD<|fc (dC<|.int 1)<|fc (dN af minD<|fc (uF<|dV 0)<|fc (dC<|.int 5) fe) fe) fe) (ae (.s l)::xs) bx=.val (f9 0 c) bx:=by
 have e3:=ie [.int 1,.int<|min (l.length) 5] (g:=maxD) (fj (m:=dC _) za<|fj (ie (env:=ae (.s l)::xs) (bx:=bx) _ (fj (m:=uF<|dV 0) za<|fj (m:=dC _) (ks:=fe) za za)<|TF _ _) (ks:=fe) za) za;generalize hz:(if min (l.length:Int) 5>1 then min (l.length:Int) 5 else 1)=z at e3;show#[z.toNat,Aw (fj e3 za) (by lia)]
theorem law_true (C) (l) (hl:l.length<=1000):∃ bx',K13.fn_law C [.s l] []=.val (.d<|.bl ag) bx':=by
 let#[c,ec]:=af3 l [] _;let#[aP,bx',e,ys,rfl,hy]:=mh (g:=ff 1) (λ_ env b=>∃ ys,env=ae _::ys /\ ys.length=11) (f9 0 c) 0 (ae _::List.replicate 11 ah) [] #[_,rfl,rfl] (by
  rintro i w env b hw ⟨ys,rfl,hy⟩;let#[k,_,rfl]:=bc.mp<|eD hw;let#[x,ys,rfl,h]:=iC hy;let#[zs,bx',hz,e]:=TX C l k b ys h;show#[ae _::ae _::ys,b,_,_,by rw[YJ];rfl,e,zs,rfl,hz])
 refine#[_,lc (bx':=bx') ?_];show(fE<|(mf ec).trans e).trans (gx za)
end K13
namespace L2.DL
open PySem.W

theorem OJ (bo) (h:k1≠k2 /\ k1≠k3 /\ k2≠k3) :
 PD X T Z (.Dict [ae<|.Constant (.int k1) a1 p1,ae<|.Constant (.int k2) a2 p2,ae<|.Constant (.int k3) a3 p3] [.Constant (.str v1) b1 q1,.Constant (.str v2) b2 q2,.Constant (.str v3) b3 q3] pos) (dY bo [(.inl k1,.str v1),(.inl k2,.str v2),(.inl k3,.str v3)]):=by
 refine PE.imp (BD (jW jo mE<|jW jo mE<|jW jo mE BC) za za (by simp) (by simp)) λσ H Q=>bg λF r env bx R h0=>?_;intro p hp;let#[h1,h2,h3]:=h;have e:vN [] [((.inl k1),V.str v1),(.inl k2,V.str v2),(.inl k3,V.str v3)]=[(.inl k1,V.str v1),(.inl k2,V.str v2),(.inl k3,V.str v3)]:=by
  simp[vN,putK,h1,h2,h3]
 refine#[fu,[(.inl k1,.str v1),(.inl k2,.str v2),(.inl k3,.str v3)],rfl,by simp,?_];rw[Bn,e];show gP R h0 #[p,_,rfl,hp,rfl,#[_,_,rfl,rfl,#[_,_,rfl,rfl,#[_,_,rfl,rfl,rfl]]]]
structure Cf where
 N:List Str
 nm:List (Str×NameKind)
 f:Bool
 bx:List Str
 dc:List Str
 wk:List (Str×Nat)   -- 1: a tuple of ahB,2: a box that is walked,3: a dict with tuple keys
 K0:Str
 fs:List (Str×(Nat×(List W->List Bx->O W)))
 gl:List (Str×Int)
 bl:List Str
 rb:Bool
 rx:Bool
 tr:Bool
 ow:List Str
 C:ai:=0          -- the class of ack own,its attributes,its methods,how it is made
 fl:List Str:=[]
 ms:List (Str×(Nat×(List W->List Bx->O W))):=[]
 mc:Option (Str×(Str×aE)):=ah
structure K3 (P:cS) (w:cg) (K:PySem.W.Frag) (mg:Str->Option au) (base:aK) (cl:Nat->ai) (C:ai) (fl:List Str) (ms:List<|Str×(Nat×(List W->List Bx->O W))) (mk:Option<|Str×(Str×aE)) (k:Nat):zb where
 cls:fl≠[]->kB K C
 na:∀ f,f∈fl->qH K C f
 ms:∀ x n fn,ms.lookup x=ae (n,fn)->∃ kk ps,E3 P w K mg base cl C kk x ps fn /\ ps.length=n /\ kk<=k
 mc:∀ x f m,mk=ae (x,(f,m))->mg x=ae (.ref C) /\ ∃ g fd ps kk,Mk K C g /\ cP P w K mg base (dn P w) kk g fd ps (Kx C f m) /\ Binds K fd ps [] /\ kk+1<=k
structure bL (c:Cf) (k:Nat) (X:Cx) (Z:Xs):zb where
 N:X.N=c.N
 nm:X.env.scope.names=c.nm
 kd:X.env.scope.kind=.function
 calm:X.calm=ag
 fn:c.f=ag->∀ x,X.fn x=ag
 ow:∀ x,x∈c.ow->X.fn x=ag
 nd:c.N.Nodup
 room:bH k X.A
 fs:∀ x n fn,c.fs.lookup x=ae (n,fn)->∃ kk ps,rf X.prog X.w X.K X.mg X.base Z.cl kk x ps fn /\ ps.length=n /\ kk<=k
 gl:∀ x v,c.gl.lookup x=ae v->∃ t,X.mg x=ae (.int v t)
 bl:∀ x,x∈c.bl->X.mg x=ah
 K4:Passes (dn X.prog X.w) X Z.E
 ti:pU X.K "int"
 tb:pU X.K "bool"
 tt:pU X.K "tuple"
 tl:pU X.K "list"
 ts:pU X.K "str"
 own:c.rx=af->PassesOwn (model X.prog X.w) X.A X.env X.xe
 af4:c.rx=ag->uB X Z.E /\ ∃ R,kS X.K X.mg R Z.cl
 abn:c.tr=ag->(∃ R,kS X.K X.mg R Z.cl) /\ EY X.prog X.w X.K X.mg X.base Z.cl /\ 1<=k /\ X.stack=X.env::X.outer /\ X.env.frame=ae X.env.locals
 ob:K3 X.prog X.w X.K X.mg X.base Z.cl c.C c.fl c.ms c.mc k
noncomputable def aM {α}:DE α:=λ_ _=>.bad

theorem fF:PD X T Z e aM:=λ_ _ _ _ _ _ h=>by
 let#[_,_,_,_,_,h]:=h;show h.elim
theorem im:vF X T Z e aM:=λ_ _ _ _ _ _ h=>by
 let#[_,_,_,_,_,h]:=h;show h.elim
theorem Gg:Ke X T Z e aM:=λ_ _ _ _ _ _ _ h=>by
 let#[_,_,_,_,_,h]:=h;show h.elim
theorem B7:xE X T Z tg e aM:=λ_ _ _ _ _ _ h=>by
 let#[_,_,_,_,_,h]:=h;show h.elim
noncomputable def v9:DG:=λ_ _ _=>ah
noncomputable def af5:uD:=λ_ _ _=>ah
theorem lz:qT X T e v9:=λ_ _ _ _ _ _ _ _ _ h=>by
 let#[_,_,_,_,_,_,_,h]:=h;show h.elim
noncomputable def Cf.kd (c:Cf) (x:Str) (n:Nat):Bool:=match c.wk.lookup x with|some k=>k==n|none=>af
def abo (c:Cf) (n:Nat):aD->Bool
 |.Name x _=>c.kd x n
 |.Subscript _ (.Constant (.str x) _ _) _=>c.kd x n
 |_=>af
noncomputable def wa (c:Cf):aD->Bool
 |.Name x _=>c.dc.contains x
 |.Subscript _ (.Constant (.str x) _ _) _=>c.dc.contains x
 |.Call (.Name x _) _ _ _=>c.dc.contains x
 |_=>af
noncomputable def Cf.ix (c:Cf) (x:Str):Option Nat:=c.N.findIdx? λy=>decide (y=x)
theorem Cf.Wf {c:Cf}(h:c.ix x=ae i):c.N[i]?=ae x:=by
 let#[h1,h2,_]:=List.findIdx?_eq_some_iff_getElem.mp h;rw[cW h1,of_decide_eq_true h2]
noncomputable def Cf.wb (c:Cf) (x:Str):Bool:=(decide (c.nm.lookup x=ae .local)||decide (c.nm.lookup x=ae .cell)||decide (c.nm.lookup x=ae .free))&&!(x==("__debug__"))&&!(x==("__classdict__"))
noncomputable def Cf.ua (c:Cf) (x:Str):Bool:=decide (c.nm.lookup x=ae .globalImplicit)&&!(x==("__debug__"))&&decide (x≠("__name__"))
noncomputable def Cf.yn (c:Cf) (x:Str):Bool:=(decide (c.nm.lookup x=ae .local)||decide (c.nm.lookup x=ae .cell))&&(c.f||decide (x∈c.ow)||decide (c.nm.lookup x=ae .local))
def Cf.pz (c:Cf) (x:Str):Bool:=c.ua x&&decide (x∈c.bl)

theorem bL.Wg (O:bL c k X Z) (h:c.wb x=ag):qB X.env.scope x /\ (x==("__debug__"))=af /\ (x==("__classdict__"))=af:=by
 erw[Cf.wb,aH,sV,decide_eq_true_eq,kL]at h;unfold qB;rw[O.nm];show#[or_assoc.mp h.1.1,h.1.2,h.2]
theorem bL.gb (O:bL c k X Z) (h:c.ua x=ag):Gl X x /\ (x==("__debug__"))=af /\ x≠("__name__"):=by
 erw[Cf.ua,aH,decide_eq_true_eq,kL]at h;unfold Gl Env.kindOf;rw[O.nm];show#[h.1.1,h.1.2,h.2]
theorem bL.lo (O:bL c k X Z) (h:c.yn x=ag):Loc X.env.scope x /\ (X.fn x=ag \/ X.env.scope.names.lookup x=ae .local):=by
 simp[Cf.yn,aH,sV,decide_eq_true_eq]at h;unfold Loc;rw[O.nm];show#[h.1,h.2.imp (λz=>z.elim (λz=>O.fn z x)<|O.ow x) id]
theorem bL.blt (O:bL c k X Z) (h:c.pz x=ag):Gl X x /\ (x==("__debug__"))=af /\ x≠("__name__") /\ X.mg x=ah:=by
 simp[Cf.pz,aH,decide_eq_true_eq]at h;let#[a,b,d]:=O.gb h.1;show#[a,b,d,O.bl x h.2]
theorem bL.at (O:bL c k X Z) (h:c.ix x=ae i):X.N[i]?=ae x:=by rw[O.N];show c.Wf h
theorem bL.wc (O:bL c k X Z):X.N.Nodup:=by rw[O.N];show O.nd
theorem bL.u0 (O:bL c k X Z):X.A.units+100<cLine:=by have:=O.room.un;lia
theorem bL.u1 (O:bL c k X Z):X.A.units+1<cLine:=by have:=O.room.un;lia
def Wh (c:Cf) (fz:Bool) (x:Str):DE W:=match c.ix x with
 |some i=>if c.wb x then (if fz&&c.bx.contains x then tQ i else dV i) else aM
 | none=>match c.gl.lookup x with
   |some v=>if c.ua x then dC (.int v) else aM
   |none=>aM
theorem MF (O:bL c k X Z) (fz):PD X T Z (.Name x pos) (Wh c fz x):=by
 unfold Wh;split
 .ext i e;split
  .ext h;let#[a,b,d]:=O.Wg h;split
   .show Rz i (O.at e) a b d
   .show JS i (O.at e) a b d
  .show fF
 .split
  .ext v e;split
   .ext h;let#[a,b,_]:=O.gb h;show(λhg hm hd=>by
     let#[t,hm]:=hm;show Cn (gq (v:=.int v) hg hm #[t,rfl] hd) λ_=>rfl) a (O.gl x v e) b
   .show fF
  .show fF

def ub (f:aD->DE W):List aD->DE (List W)
 |[]=>fe
 |e::es=>if cG e then fc (f e) (ub f es) else aM
theorem lf (h:∀ e,PD X T Z e<|f e):∀ es,pd X T Z es (ub f es)
 |[]=>lg
 | e::es=>by
   unfold ub;split
   .ext n;show l7 (h e) (lf h es) n
   .show(λ_ _ _ _ _ _ _ h=>by
    let#[_,_,_,_,_,h]:=h;show h.elim)
def Wi (f:aD->DE W):List aD->DE W
 |[]=>aM
 |[a]=>f a
 |a::r=>gR (f a)<|Wi f r
theorem Gh (h:∀ e,PD X T Z e<|f e):∀ es,PD X T Z (.BoolOp .And es pos) (Wi f es)
 |[]=>fF
 |[a]=>JU<|h a
 | a::b::r=>(λha hb=>by
   refine PE.imp (PY ha hb) λσ H Q=>bg λF r env bx R h=>?_;refine#[F,r,env,bx,R,End.bind h λw bx1 F1 r1 v H1 g1 R1 d1 h1=>?_];split at h1
   .show#[ag,d1,(#[F1,r1,env,bx1,R1,h1])]
   .show#[af,d1,(h1 F1 r1 _ H1 (.refl F1 r1) R1 za)]
   .show h1.elim) (h a)<|Gh h _
def Wj (f:aD->DE Bool):List aD->DE Bool
 |[]=>aM
 |[a]=>f a
 |a::r=>qo (f a)<|Wj f r
theorem C5 (h:∀ e,vF X T Z e<|t e):∀ es,Ke X T Z (.BoolOp .And es pos) (Wj t es)
 |[]=>Gg
 |[a]=>(λh=>MU h)<|h a
 | a::b::r=>(λha hb=>by
   refine PW.imp (PU ha hb) λσ H Q=>bg λF r env bx R h=>?_;refine#[F,r,env,bx,R,End.bind h λk bx1 F1 r1 v H1 g1 R1 d1 h1=>?_];subst d1;cases k with
   |true=>show#[F1,r1,env,bx1,R1,h1]
   |false=>show h1 F1 r1 _ H1 (.refl F1 r1) R1 za) (h a)<|C5 h _
def Wk (f:aD->DE Bool):List aD->DE Bool
 |[]=>aM
 |[a]=>f a
 |a::r=>eO (f a)<|Wk f r
theorem Gi (h:∀ e,vF X T Z e<|t e):∀ es,Ke X T Z (.BoolOp .Or es pos) (Wk t es)
 |[]=>Gg
 |[a]=>(λh=>Jk h)<|h a
 | a::b::r=>(λha hb=>by
   refine PW.imp (O5 ha hb) λσ H Q=>bg λF r env bx R h=>?_;refine#[F,r,env,bx,R,End.bind h λk bx1 F1 r1 v H1 g1 R1 d1 h1=>?_];subst d1;cases k with
   |false=>show#[F1,r1,env,bx1,R1,h1]
   |true=>show h1 F1 r1 _ H1 (.refl F1 r1) R1 za) (h a)<|Gi h _
def Wl (f:aD->DE W):List aD->DE W
 |[]=>aM
 |[a]=>f a
 |a::r=>Eu (f a)<|Wl f r
theorem MG (h:∀ e,PD X T Z e<|f e):∀ es,PD X T Z (.BoolOp .Or es pos) (Wl f es)
 |[]=>fF
 |[a]=>JU<|h a
 | a::b::r=>(λha hb=>by
   refine PE.imp (SY ha hb) λσ H Q=>bg λF r env bx R h=>?_;refine#[F,r,env,bx,R,End.bind h λw bx1 F1 r1 v H1 g1 R1 d1 h1=>?_];split at h1
   .show#[ag,d1,(h1 F1 r1 _ H1 (.refl F1 r1) R1 za)]
   .show#[af,d1,(#[F1,r1,env,bx1,R1,h1])]
   .show h1.elim) (h a)<|MG h _
def K5 (g:aD->DG):List aD->uD
 |[]=>mY
 |e::es=>if cG e then gF (g e) (K5 g es) else af5
theorem MH (h:∀ e,qT X T e<|g e):∀ es,Kg X T es (K5 g es)
 | []=>(rY.imp D5 λv σ H Q=>Ep λF r env bx w R d h=>by
   cases w with
   |nil=>show#[d,h F r σ H (.refl F r) R]
   |cons _ _=>show h.elim)
 | e::es=>by
   unfold K5;split
   .ext n;show(λh1 h2 hn=>Gz h1 h2 (by rw[j0 hn];rfl)) (h e) (MH h es) n
   .show(λ_ _ _ _ _ _ _ _ _ h=>by
    let#[_,_,_,_,_,_,_,h]:=h;show h.elim)
def abp:Operator->Option (D->D->Option Res)
 |.Add=>ae fP|.Sub=>ae eQ|.Mult=>ae pV|.FloorDiv=>ae EA|.Mod=>ae sk|.Pow=>ae sq
 |_=>ah
def uZ:CmpOp->Option (D->D->Option Res)
 |.Eq=>ae aZ|.NotEq=>ae cQ|.Lt=>ae kX|.LtE=>ae qt|.Gt=>ae ph|.GtE=>ae uE|.In=>ae (inD af)|.NotIn=>ae<|inD ag
 |_=>ah
theorem OK (h:abp op=ae g):∃ q,bT X (binaryOp op) q /\ nz q g:=by
 cases op<;>cases h
 .show#[_,(P5.or<|M4.or<|JY.or<|o8.or Dc),aea]
 .show#[_,(Zr λ_ _ _ _ _ _ _ q=>sub_int q),(Kk λ_ _ _=>rfl)]
 .show#[_,(P6),(Kj λ_ _ _=>rfl)]
 .show#[_,(IH λi j _ _ _ _ _ hc q=>by
  show mod_int' (by lia) (by rw[Int.fmod_eq_emod_of_nonneg i (by lia)];show q)),(Kj λ_ _ _=>rfl)]
 .show#[_,(IH λ_ _ _ _ _ _ _ hc q=>pow_int_small hc.1 hc.2.1 hc.2.2 q),(Kj λ_ _ _=>rfl)]
 .show#[_,(IH λi j _ _ _ _ _ hc q=>by
  have h1:=hc.1;have h2:=hc.2;refine floordiv_int (by lia) (by rw[Int.fdiv_eq_ediv_of_nonneg i (by lia)];show q)<|.inl<|PyProof.noPylong_of_log2 ?_;have h3:j.natAbs.log2<133:=(XJ (by lia)).mpr (by lia)
  lia),(Kj λ_ _ _=>rfl)]
theorem lA (hu:X.A.units+100<cLine) (h:uZ op=ae g):∃ q,bT X (compareOp op) q /\ nz q g:=by
 cases op<;>cases h
 .show#[_,(λhu=>((Nf (by lia)).or<|Rt hu).or<|Rv hu) hu,(λF H x y v w Q s sub rx ry e k=>(Rw e).imp (λe=>e.imp (λe=>aee F H x y v w Q s sub rx ry e k) λe=>aau af F H x y v w Q s sub rx ry e k) λe=>aez F H x y v w Q s sub rx ry e k)]
 .show#[_,(λhu=>(Ng (by lia)).or<|Ru hu) hu,(λF H x y v w Q s sub rx ry e k=>(Rx e).imp (λe=>aeg F H x y v w Q s sub rx ry e k) λe=>aau ag F H x y v w Q s sub rx ry e k)]
 .show#[_,(λhu=>S0.or<|RN hu) (by lia),(by
  intro F H x y v w Q s sub rx ry e k;unfold kX at e;split at e
  .cases e;show .inl #[_,_,rx,ry,k _ _ #[rfl,rfl]]
  .split at e
   .ext l m e1 e2;split at e
    .ext c;cases e;rw[Ah e1]at rx;rw[Ah e2]at ry;let#[p,vs,rfl,h1,h2]:=rx;let#[q,us,rfl,h3,h4]:=ry;show .inr #[F,p,q,vs,us,l,m,rfl,rfl,sub,h1,h3,h2,h4,c,k _ _ #[rfl,rfl]]
    .cases e
   .cases e
  .cases e)]
 .show#[_,Ry (by lia),(Kk λ_ _ _=>rfl)]
 .show#[_,(II λ_ _ _ _ _ _ _ q=>gt_int q),(Kk λ_ _ _=>rfl)]
 .show#[_,(II λ_ _ _ _ _ _ _ q=>ge_int q),(Kk λ_ _ _=>rfl)]
 .show#[_,Gv.or<|(λhu=>by
  intro pins s σ H x y v u Q I rx ry h;let#[F,dx,dy,sub,hx,hy,ox,oy,l,hl,q]:=h;let#[as,ra]:=gQ I sub hx rx;let#[bs,rb]:=gQ I sub hy ry;let#[x1,x2]:=jZ ox;let#[y1,y2]:=jZ oy;rcases hl with rfl|rfl
  .show SeqAt.in_list_reads rb ra y1 x1 (by lia) (by rw[lm];show#[.bl _,H,I,rfl,q])
  .show SeqAt.in_tuple_reads rb ra y1 x1 (by lia) (by rw[lm];show#[.bl _,H,I,rfl,q])) hu,okIn af]
 .show#[_,Bv.or<|(λhu=>by
  intro pins s σ H x y v u Q I rx ry h;let#[F,dx,dy,sub,hx,hy,ox,oy,l,hl,q]:=h;let#[as,ra]:=gQ I sub hx rx;let#[bs,rb]:=gQ I sub hy ry;let#[x1,x2]:=jZ ox;let#[y1,y2]:=jZ oy;rcases hl with rfl|rfl
  .show SeqAt.notIn_list_reads rb ra y1 x1 (by lia) (by rw[lm];show#[.bl _,H,I,rfl,q])
  .show SeqAt.notIn_tuple_reads rb ra y1 x1 (by lia) (by rw[lm];show#[.bl _,H,I,rfl,q])) hu,okIn ag]
def Wm:List (Str×(Bool×(String×(List D->Option Res)))):=
 [("len",af, "len",aS),("all",af, "all",dW),("sorted",af, "sorted",dF),("max",af, "max",maxD),("min",af, "min",minD),
  ("tuple",ag, "tuple",qp),("list",ag, "list",qU)]
def af6 (X:Cx) (x:Str) (p:Bool×(String×(List D->Option Res))):zb:=
 match p with
 |(af,id,g)=>bootBuiltins x=ae (.builtin id) /\ ∃ q,pK X (.builtin id) q /\ qP q g
 |(ag,id,g)=>bootBuiltins x=ae (.type id) /\ ∃ q,pK X (.type id) q /\ qP q g
theorem iz {α:Type}{P:Str->α->zb}:∀ {l:List _}{x}{a},(∀ p∈l,P p.1 p.2)->l.lookup x=ae a->P x a
 |[],_,_,_,e=>by cases e
 | (y,b)::r,x,a,h,e=>by
   rw[eX]at e;cases hx:x==y with
   |true=>
     rw[hx]at e;cases e;have:x=y:=by simpa using hx
     subst this;show h _<|bM ..
   |false=>
     rw[hx]at e;show iz (λp m=>h p<|bC _ m) e
theorem OL (hc:X.calm=ag) (hu:X.A.units+100<cLine) (h:Wm.lookup x=ae p):af6 X x p:=by
 refine iz (λp m=>?_) h;simp[Wm,a9,pJ,or_false]at m;rcases m with rfl|rfl|rfl|rfl|rfl|rfl|rfl
 .show#[rfl,_,lU,(by
  intro F H xs vs Q s sub rx e k;unfold aS at e;split at e
  .cases e;let#[v,t,rfl,#[a,us,rfl,h1,h2],rt]:=rx;cases (rt);show#[a,us,rfl,.inl<|.of h1,k _ _ #[rfl,by rw[<-h2.length];rfl]]
  .cases e;let#[v,t,rfl,#[a,us,rfl,h1,h2],rt]:=rx;cases (rt);show#[a,us,rfl,.inr<|.of<|sub _ _ h1,k _ _ #[rfl,by rw[<-h2.length];rfl]]
  .cases e)]
 .show#[rfl,_,GE hc,(by
  intro F H xs vs Q s sub rx e k;unfold dW at e;split at e
  .ext l;let#[v,t,rfl,#[a,us,rfl,h1,h2],rt]:=rx;cases (rt);cases e1:sx l with
   |none=>rw[e1]at e;cases e
   |some bs=>
     rw[e1]at e;cases e;have q1:=h2.aai e1;subst q1;show#[a,bs,rfl,h1,k _ _ #[rfl,rfl]]
  .cases e)]
 .show#[rfl,_,DC hu,(by
  intro F H xs vs Q s sub rx e k;unfold dF at e;cases er:tL xs with
  |some r=>
    rw[er]at e;cases e;show .inl<|aer F H xs vs Q s sub rx er k
  |none=>
    rw[er]at e;dsimp only at e;split at e
    .ext l;cases e1:rowsOf l with
     |none=>rw[e1]at e;cases e
     |some rs=>
       rw[e1]at e;erw[bI]at e;split at e
       .ext hc;cases e;let#[v,t,rfl,#[a,us,rfl,h1,h2],rt]:=rx;cases (rt);let#[b1,b2]:=Bb e1;subst b1;show .inr #[F,a,us,rs,rfl,sub,.inl<|.of h1,h2,b2,hc.1,hc.2,λq ys hq hy=>k _ _ #[q,ys,rfl,hq,rfl,hy]]
       .cases e
    .ext l;cases e1:rowsOf l with
     |none=>rw[e1]at e;cases e
     |some rs=>
       rw[e1]at e;erw[bI]at e;split at e
       .ext hc;cases e;let#[v,t,rfl,#[a,us,rfl,h1,h2],rt]:=rx;cases (rt);let#[b1,b2]:=Bb e1;subst b1;show .inr #[F,a,us,rs,rfl,sub,.inr<|.of<|sub _ _ h1,h2,b2,hc.1,hc.2,λq ys hq hy=>k _ _ #[q,ys,rfl,hq,rfl,hy]]
       .cases e
    .cases e)]
 .show#[rfl,_,(λhc=>by
  intro pins s σ H xs us Q I r h;let#[i,j,rfl,q]:=h;let#[u,w',rfl,#[t,rfl],#[t',rfl]]:=vals2 r;refine max_two_ints (I.ok.hd hc) λh' tk k=>#[_,H,I.kept k,?_,q];by_cases hj:j>i
  .rw[if_pos hj,if_pos hj];show#[_,rfl]
  .rw[if_neg hj,if_neg hj];show#[_,rfl]) hc,aek]
 .show#[rfl,_,(λhc=>by
  intro pins s σ H xs us Q I r h;let#[i,j,rfl,q]:=h;let#[u,w',rfl,#[t,rfl],#[t',rfl]]:=vals2 r;refine min_two_ints (I.ok.hd hc) λh' tk k=>#[_,H,I.kept k,?_,q];by_cases hj:j<i
  .rw[if_pos hj,if_pos hj];show#[_,rfl]
  .rw[if_neg hj,if_neg hj];show#[_,rfl]) hc,ael]
 .show#[rfl,_,(by
  intro pins s σ H xs us Q I r h;let#[p,ys,rfl,h]:=h;let#[u,rfl,rx]:=vals1 r;cases rx;rcases h with⟨hq,q⟩|⟨hq,q⟩
  .let#[its,r',pl,hz]:=I.list hq;have hlen:=r'.length;refine call_tuple_list pl.isList (λh' kp=>?_) (by simp[bY]<;>lia);have I1:Inv X pins σ H { s with heap:=h' }:=I.kept kp;have I2:Inv X pins σ (upd H h'.objs.size<|.tup ys) { s with heap:=h'.push { cls:=.type "tuple",data:=.seq its.toArray } }:=
    I1.laid (λb o e=>aR _ e) (aB _) (#[hz,its,r',IsTup.new _ _])
   show#[.ref h'.objs.size,_,I2,rfl,q _<|I1.ay.fresh<|aB _]
  .let#[its,r',pl,hz]:=I.tuple hq;show call_tuple_same pl #[.ref p,H,I,rfl,q]),aei]
 .show#[rfl,_,(by
  intro pins s σ H xs us Q I r h;let#[p,ys,rfl,hq,q]:=h;let#[u,rfl,rx]:=vals1 r;cases rx
  have fin:∀ (its),Vals ys its->ys.length<=sizeLine->∀ (h') (c'),(∀ b o',s.heap.get? b=ae o'->h'.get? b=ae o') ->
   h'.get? s.heap.objs.size=ae { cls:=.type "list",dict:=ah,data:=.seq its.toArray c',slots:=#[] }->EP X pins σ Q _ { s with heap:=h' }:=λits r' hz h' c' kp e=>
   #[.ref s.heap.objs.size,_,I.laid kp (aB _) (show cj X.prog X.w _ h' _ (.lst ys) from#[hz,its,c',r',e]),rfl,q _<|I.ay.fresh<|aB _]
  rcases hq with hq|hq
  .let#[its,r',pl,hz]:=I.list hq;have hlen:=r'.length;let#[o,ho,hc,n,hd]:=pl.isList;show XD p (.inl za) ho hc hd (λh' c' kp e=>fin its r' hz h' c' kp e) (by simp[bY]<;>lia)
  .let#[its,r',pl,hz]:=I.tuple hq;have hlen:=r'.length;let#[o,ho,hc,n,hd]:=pl;show XD p (.inr za) ho hc hd (λh' c' kp e=>fin its r' hz h' c' kp e) (by simp[bY]<;>lia)),aej]
noncomputable def abq:List (Str×String):=[("int","int"),("bool","bool"),("tuple","tuple"),("list","list"),("str","str")]
noncomputable def yo:aD->Bool
 |.Call ..=>af
 |_=>ag
theorem iD (h:yo o=ag):attributeBase o a env whole=whole:=by
 cases o<;>first|rfl|cases h
noncomputable def plainT:aD->Bool
 |.BoolOp ..|.UnaryOp ..|.IfExp ..|.Compare ..=>af
 |_=>ag
theorem Je (h:plainT e=ag) (whole):PySem.isTrue e env whole=(do let v <-whole;standAt e.pos;holding [v] (truthy v)):=by
 cases e<;>first|rfl|cases h
noncomputable def K6:aD->Bool
 |.Set ..=>af
 |_=>ag
theorem mC (h:K6 e=ag) (x):foldedSetIterable e env x=pure x:=by
 cases e<;>first|rfl|cases h
noncomputable def u7:aD->Bool
 |.ListComp ..|.SetComp ..|.DictComp ..=>ag
 |_=>af
theorem jn (h:u7 e=af):swapsWith e t l env=pure af:=by
 cases e<;>first|rfl|cases h
noncomputable def Hn:aD->Bool
 |.Slice ..=>af
 |_=>ag

theorem AG (h:Hn b=ag):Vi b:=λ_ _=>by
 cases b<;>first|rfl|cases h
theorem OM (h:Hn b=ag):VH b:=λ_ _=>by
 cases b<;>first|rfl|cases h
theorem Wn (h:cG e=ag):((backTo pos<|starEach [e] env).all (λx=>!x.1)&&(backToKw pos<|keywordEach [] env).all (λx=>x.1.isSome)&&decide ([e].length+([]:List Keyword).length+(if ([]:List Keyword).isEmpty then 0 else 1)<30))=ag:=by
 rw[fH h];rfl

def Wo (c:Cf) (f:aD->DE W) (x:Str) (es:List aD):DE W:=match c.mc with
 | some (y,(fl,m))=>(match es with
   |[]=>aM
   |e::es=>if x=y /\ (c.ua x&&eT (e::es))=ag then xY c.C fl m (ub f (e::es)) else aM)
 |none=>aM
theorem SG (O:bL c k X Z) (h:∀ e,PD X T Z e<|f e) (es):PD X T Z (.Call (.Name x p) es [] pos) (Wo c f x es):=by
 unfold Wo;split
 .ext y fl m e;split
  .show fF
  .split
   .ext q;let#[rfl,q]:=q;rw[aH]at q;let#[g1,g2,_]:=O.gb q.1;let#[hm,g,fd,ps,kk,M,G,hb,hk]:=O.ob.mc _ _ _ e;show NB M G O.room hk g1 hm hb O.K4 (lf h _) q.2 g2
   .show fF
 .show fF
def yq (c:Cf) (f:aD->DE W) (bo:Bool) (x:Str) (es:List aD):DE W:=
 match c.fs.lookup x with
 | some (n,fn)=>(match es with
   |[]=>aM
   |e::es=>if c.ua x&&eT (e::es) then fq fn n (ub f (e::es)) else aM)
 | none=>match Wm.lookup x with
   | some (_,_,g)=>(match es with
     |[]=>aM
     |e::es=>if c.pz x&&eT (e::es) then dN bo g (ub f (e::es)) else aM)
   |none=>Wo c f x es
theorem oS (O:bL c k X Z) (h:∀ e,PD X T Z e<|f e) (bo) (es):PD X T Z (.Call (.Name x p) es [] pos) (yq c f bo x es):=by
 unfold yq;split
 .ext n fn e;split
  .show fF
  .split
   .ext a as q;rw[aH]at q;let#[g1,g2,_]:=O.gb q.1;let#[kk,ps,hh,hn,hk]:=O.fs x n fn e;show Te hh O.room hk g1 O.K4 (lf h _) q.2 hn g2
   .show fF
 .split
  .ext ty id g e;split
   .show fF
   .split
    .ext a as q;rw[aH]at q;let#[g1,g2,g3,g4]:=O.blt q.1;have b:=OL O.calm O.u0 e;cases ty with
     |false=>
       let#[b1,qq,b2,b3]:=b;show Td bo b2 b3 g1 g4 b1 (lf h _) q.2 g3 g2
     |true=>
       let#[b1,qq,b2,b3]:=b;show RI bo b2 b3 g1 g4 b1 (lf h _) q.2 g3 g2
    .show fF
  .show SG O h _
noncomputable def Wq (c:Cf):aD->Bool
 |.Name x _=>decide (x=c.K0)
 |_=>af
def yr (c:Cf) (f:aD->DE W) (bo:Bool) (x:Str) (es:List aD):DE W:=match es with
 | [a]=>if x="repr" then (if c.pz "repr"&&cG a then vP (f a) else aM) else if x="len" /\ Wq c a=ag then (if c.pz "len"&&cG a then uF (f a) else aM)
   else if x="list" /\ abo c 3 a=ag then (if c.pz "list"&&cG a then KD bo (f a) else aM) else yq c f bo x es
 |_=>yq c f bo x es
def Wr (c:Cf) (f:aD->DE W) (bo:Bool) (x:Str) (es:List aD):DE W:=
 if x="isinstance" then (match es with
  | [a,.Name t _]=>(match abq.lookup t with
    |some n=>if c.pz "isinstance"&&c.pz t&&cG a then gH n (f a) else aM
    |none=>aM)
  |_=>aM)
 else match es with
  | [.Call g as [] cp]=>(match g with
    | .Name y _=>(match as with
      |[a]=>if x="len" /\ y="set" then (if c.pz "len"&&c.pz "set"&&cG a then dN af E5 (fc (f a) fe) else aM) else yq c f bo x es
      |_=>yr c f bo x es)
    | .Attribute o n ap=>(match as with
      |[]=>if x="sorted" /\ n="items" then (if c.pz "sorted"&&yo o&&(ap.endLine==cp.line) then E6 bo (f o) else aM) else yq c f bo x es
      |_=>yr c f bo x es)
    |_=>yr c f bo x es)
  |_=>yr c f bo x es
theorem B8 (O:bL c k X Z) (h:∀ e,PD X T Z e<|f e) (bo) (es):PD X T Z (.Call (.Name x p) es [] pos) (yr c f bo x es):=by
 unfold yr;split
 .ext a;split
  .ext hx;subst hx;split
   .ext q;rw[aH]at q;let#[g1,g2,g3,g4]:=O.blt q.1;show(λhr hg hm ha he=>by
     refine PE.imp (fV (GK hr) hg hm (by decide +kernel) (fA ha fR he) (by decide) (rfl) he (by rfl)) λσ H Q=>bg λF r env bx R h=>?_;refine#[F,r,env,bx,R,End.bind h λw bx1 F1 r1 v H1 g1 R1 d1 h1=>?_];split at h1
     .ext d er;let#[F2,sub,d2]:=Nm R1.fh<|R1.qO d1 er;split at h1
      .ext hc;unfold vO at hc;rw[aH,aH]at hc;show#[F2,d,v,rfl,sub,d2,hc.1.1,of_decide_eq_true hc.1.2,of_decide_eq_true hc.2,h1 F1 r1 _ H1 (.refl F1 r1) R1 za]
      .show h1.elim
     .show h1.elim) O.room g1 g4 (h a) (fH q.2 _ _)
   .show fF
  split
  .ext hx;let#[rfl,_]:=hx;split
   .ext q;rw[aH]at q;let#[g1,g2,g3,g4]:=O.blt q.1;show(λhg hm ha he=>by
     refine PE.imp (fV lU hg hm Xy (fA ha fR he) (by decide) (rfl) he (by rfl)) λσ H Q=>bg λF r env bx R h=>?_;refine#[F,r,env,bx,R,End.bind h λw bx1 F1 r1 v H1 g1 R1 d1 h1=>?_];cases w with
     |b _=>show h1.elim
     |d _=>show h1.elim
     |x _=>show h1.elim
     |t _=>show h1.elim
     |m _=>show h1.elim
     |s l=>
       let#[q,o,rfl,k]:=d1;refine#[q,_,rfl,.inl<|.inl<|.inr #[o,R1.fh _ _ k],?_];rw[aV];show h1 F1 r1 _ H1 (.refl F1 r1) R1 za) g1 g4 (h a) (fH q.2 _ _)
   .show fF
  .split
   .ext hx;let#[rfl,_]:=hx;split
    .ext q;rw[aH]at q;let#[g1,g2,g3,g4]:=O.blt q.1;show(λbo hc hg hm ho hs=>by
      refine PE.imp (Lx hc hg hm ho hs) λσ H Q=>bg λF r env bx R h=>#[F,r,env,bx,R,End.bind h λx bx1 F1 r1 v H1 g1 R1 d1 h1=>?_];split at h1
      case h_2=>show h1.elim
      let#[a,rfl,ha]:=d1;let#[c,hc,kc]:=R1.kE ha;rw[hc]at h1;split at h1
      case h_2=>show h1.elim
      ext l0 e0;cases e0;let#[_,ao,k1,k2]:=kc;refine#[a,ao,rfl,k1,λbs hb l hl=>?_];let#[F2,g2,R2,d2]:=Rel.kN R1 k2 hb;show gP R2 (End.weak g2 h1) #[l,_,rfl,hl,rfl,d2]) bo O.calm g1 g4 (h a) q.2
    .show fF
   .show oS O h bo _
 .show oS O h bo _
theorem MI (O:bL c k X Z) (h:∀ e,PD X T Z e<|f e) (bo) (es):PD X T Z (.Call (.Name x p) es [] pos) (Wr c f bo x es):=by
 unfold Wr;split
 .ext hx;subst hx;split
  .ext a t tp;split
   .ext n e;split
    .ext q;erw[aH]at q;let#[g1,g2,g3,g4]:=O.blt q.1.1;let#[j1,j2,j3,j4]:=O.blt q.1.2;let#[y1,y2]:=(λO h=>by
      refine iz (P:=λx n=>pU X.K n /\ bootBuiltins x=ae (.type n)) (λp m=>?_) h;simp[abq,a9,pJ,or_false]at m;rcases m with rfl|rfl|rfl|rfl|rfl
      .show#[O.ti,rfl]
      .show#[O.tb,rfl]
      .show#[O.tt,rfl]
      .show#[O.tl,rfl]
      .show#[O.ts,rfl]) O e
     show(λhT hg hm vJ vK hv ha hs hn cL=>Nd hT hg hm vJ vK hv ha hn cL (fH hs _ X.env) (fH za _ X.env)<|gY za) y1 g1 g4 j1 j4 y2 (h a) q.2 j3 j2
    .show fF
   .show fF
  .show fF
 .split
  .ext g as cp;cases g<;>try show B8 O h bo _
   case Name y q1=>
    rcases as with _|⟨a,_|_⟩<;>try show B8 O h bo _
    dsimp only;split
    .ext hx;let#[rfl,rfl]:=hx;split
     .ext q;erw[aH]at q;let#[g1,g2,g3,g4]:=O.blt q.1.1;let#[j1,j2,j3,j4]:=O.blt q.1.2;show(λhu hc hg hm vJ vK ha hs=>PE.imp (NQ hu hc hg hm vJ vK ha hs)<|JT afu) O.u0 O.calm g1 g4 j1 j4 (l7 (h a) lg q.2) q.2
     .show fF
    .show oS O h bo _
   case Attribute o n ap=>
    cases as<;>try show B8 O h bo _
    dsimp only;split
    .ext hx;let#[rfl,rfl]:=hx;split
     .ext q;erw[aH]at q;let#[g1,g2,g3,g4]:=O.blt q.1.1;show GX bo O.calm (by have:=O.u0;lia) g1 g4 (h o) (iD q.1.2) q.2
     .show fF
    .show oS O h bo _
  .show B8 O h bo _
def Ws (dd:Bool) (f:aD->DE W) (o:aD) (m:Str) (es:List aD):DE W:=match es with
 |[e]=>if cG e then (if dd then (if m="get" then yd (f o) (f e) else aM) else if m="append" then tM (f o) (f e) else if m="pop" then xT (f o) (f e) else aM) else aM
 |_=>aM
theorem ON (hu:X.A.units+1<cLine) (dd) (h:∀ e,PD X T Z e<|f e) (es) (hb:yo o=ag) (hl:(apos.endLine==pos.line)=ag):PD X T Z (.Call (.Attribute o m apos) es [] pos) (Ws dd f o m es):=by
 unfold Ws;split
 .ext e;split
  .ext n;split
   .split
    .ext z;subst z;show(λhu ho ha m=>PE.imp (J5 hu ho ha m) λσ H Q h=>NX h) hu (h o) (h e) #[iD hb,Wn n,hl,by rw[fH n];rfl]
    .show fF
   .split
    .ext z;subst z;show(λho ha vC Ed qJ hs=>PE.imp (Ce yO Y0 Y1 mH ho (fA ha fR hs) vC Ed qJ hs (by rfl)) λσ H Q h=>Ta h) (h o) (h e) (iD hb) (Wn n) hl (fH n _ _)
    .split
     .ext z;subst z;show(λho ha cB vC Ed qJ=>PE.imp (Ce yO PySem.F.slot_list_pop PySem.F.type_list_pop JG ho (fA ha fR<|fH cB [] X.env) vC Ed qJ (fH cB [] X.env) (by rfl)) λσ H Q h=>Nw h) (h o) (h e) n (iD hb) (Wn n) hl
     .show fF
  .show fF
 .show fF
def Wt (c:Cf) (f:aD->DE W) (o:aD) (x:Str) (n:Nat) (fn:List W->List Bx->O W) (es:List aD):DE W:=if c.fl≠[] then (match es with
 |[]=>nR c.C fn x n (f o) fe
 |e::es=>if eT (e::es)=ag /\ (e::es).length<30 then nR c.C fn x n (f o) (ub f (e::es)) else aM) else aM
theorem SH (O:bL c k X Z) (h:∀ e,PD X T Z e<|f e) (e:c.ms.lookup m=ae (n,fn)) (es) (hb:yo o=ag) (hl:(apos.endLine==pos.line)=ag):PD X T Z (.Call (.Attribute o m apos) es [] pos) (Wt c f o m n fn es):=by
 unfold Wt;split
 .ext hf;let#[kk,ps,H,hn,hk]:=O.ob.ms _ _ _ e;split
  .show Ll (O.ob.cls hf) H O.room hk O.K4 (h o) (iD hb) hl hn
  .split
   .ext q;show Nz (O.ob.cls hf) H O.room hk O.K4 (h o) (lf h _) (iD hb) hl q.1 q.2 hn
   .show fF
 .show fF
noncomputable def Wu (on names:List<|Str×NameKind):List (Str×NameKind):=names.map λ(n,k)=>if k==NameKind.free&&on.lookup n==ae .cell then (n,NameKind.cell) else (n,k)
noncomputable def K7:Nat->aD->List Str
 |_,.Name x _=>[x]
 |n+1,.Tuple es _ _=>es.flatMap<|K7 n
 |_,_=>[]
def Cf.cN (c:Cf) (tg:aD) (sc:eZ):List Str:=K7 4 tg++c.N.filter λx=>decide (sc.names.lookup x=ae .free)
def Cf.src (c:Cf) (tg:aD) (sc:eZ):List (Option Nat):=(K7 4 tg).map (λ_=>ah)++(c.N.filter λx=>decide (sc.names.lookup x=ae .free)).map c.ix
def Cf.inner (c:Cf) (tg:aD) (sc:eZ):Cf:={ c with N:=c.cN tg sc,nm:=Wu c.nm sc.names,f:=af,bx:=[],rx:=af,tr:=af,ow:=(K7 4 tg).filter λx=>decide (sc.names.lookup x=ae .cell) }
def Cf.K8 (c:Cf) (tg:aD) (sc:eZ):Bool:=VP c.N { kind:=.function,names:=c.nm,isGenerator:=af,isCoroutine:=af } sc (c.cN tg sc) (c.src tg sc)&&decide (c.cN tg sc).Nodup

theorem bL.inner (O:bL c k X Z) (h:c.K8 tg sc=ag):sf X (c.cN tg sc) (c.src tg sc) sc /\ ∀ cl s H C fp,bL (c.inner tg sc) k (X.comp (c.cN tg sc) sc cl s H C fp) #[E0,Z.cl]:=by
 unfold Cf.K8 at h;rw[aH,decide_eq_true_eq]at h;have S:=Dy (λx=>by unfold Env.kindOf;rw[O.nm]) O.N h.1;refine#[S,λcl s H C fp=>#[rfl,?_,S.kind,O.calm,λz=>(by cases z),λx m=>(List.mem_filter.mp m).2,h.2,O.room,O.fs,O.gl,O.bl,BB,O.ti,O.tb,O.tt,O.tl,O.ts,λ_=>PassesOwn.never,λz=>(by cases z),λz=>(by cases z),O.ob]];change (relabel sc X.env).names=Wu c.nm sc.names;unfold relabel Wu Env.kindOf;rw[O.kd,O.nm];simp
structure Cm where
 e:Cf->Bool->Bool->aD->DE W
 t:Cf->aD->DE Bool
 g:Cf->aD->DG
 s:Cf->bJ->aE
structure Good (m:Cm):zb where
 e:∀ {c:Cf}{k:Nat}{X:Cx}{Z:Xs},bL c k X Z->∀ {T:Fr}(bo fz:Bool) (e:aD),PD X T Z e (m.e c bo fz e)
 t:∀ {c:Cf}{k:Nat}{X:Cx}{Z:Xs},bL c k X Z->∀ {T:Fr}(e:aD),vF X T Z e (m.t c e)
 g:∀ {c:Cf}{k:Nat}{X:Cx}{Z:Xs},bL c k X Z->∀ {T:Fr}(e:aD),qT X T e (m.g c e)
 s:∀ {c:Cf}{k:Nat}{X:Cx}{Z:Xs},bL c k X Z->∀ {T:Fr}(st:bJ),d9 X T Z st (m.s c st)
section
variable (m:Cm) (c:Cf)
def cI (tg it:aD):DE (List W):=match it with
 |.Call (.Name x _) [a] [] _=>
   if x="range" then (if c.pz "range"&&cG a then eP (fc (m.e c af af a) fe) else aM)
   else bP (m.e c af ag it)
 |.Call (.Name x _) [a,b] [] _=>
   if x="range" then (if c.pz "range"&&cG a&&cG b then vI (fc (m.e c af af a)<|fc (m.e c af af b) fe) else aM)
   else if x="zip" then (if c.pz "zip"&&cG a&&cG b then xR (fc (m.e c af af a)<|fc (m.e c af af b) fe) else aM)
   else bP (m.e c af ag it)
 |_=>bP<|m.e c af ag it
def cF (ifs:List aD):DE Bool:=match ifs with
 |[]=>ge
 |[t]=>m.t c t
 |_=>aM
def Wv (e:aD):Option Nat:=match e with
 |.Name x _=>if c.dc.contains x&&c.wb x then c.ix x else ah
 |_=>ah
def Ww (bo:Bool) (elt tg it:aD) (ifs:List aD) (sc:eZ):DE W:=
 if c.K8 tg sc&&K6 it then gc bo (c.src tg sc) (cI m c tg it) (m.g (c.inner tg sc) tg) (cF m (c.inner tg sc) ifs) (m.e (c.inner tg sc) af af elt) else aM
def cO (o:Option aD):DE (Option Int):=match o with
 |none=>eS
 |some e=>dH<|m.e c af af e
def Ho (a:aD) (op:CmpOp) (b:aD):DE W:=
 if wa c b then (match op with
  |.In=>if behindInMarks .In b=af then sL af (m.e c af af a) (m.e c af af b) else aM
  |.NotIn=>if behindInMarks .NotIn b=af then sL ag (m.e c af af a) (m.e c af af b) else aM
  |_=>aM)
 else match op,b with
  |.Is,.Constant .none _ _=>E2 af<|m.e c af af a
  | _,_=>match uZ op with
    |some g=>if behindInMarks op b=af then d2 af g (m.e c af af a) (m.e c af af b) else aM
    |none=>aM
def Wx (a:aD) (op kz:CmpOp) (b d:aD):DE W:=match uZ op,uZ kz with
 |some g,ae g'=>if lastMarks [op,kz] [b,d]=af then d3 g g' (m.e c af af a) (m.e c af af b) (m.e c af af d) else aM
 |_,_=>aM
noncomputable def K9:aD->Bool
 |.Dict ..=>ag
 |_=>af
def Wy (bo:Bool) (a b:aD):DE W:=match b with
 |.Slice lo hi ah _=>dX bo (m.e c af af a) (cO m c lo)<|cO m c hi
 |.Slice ah ah (ae<|.UnaryOp .USub (.Constant (.int i) _ _) _) _=>if i=1 then VF bo (m.e c af af a) else aM
 |b=>if Hn b then (if Wq c a then EG (m.e c af af a) (m.e c af af b) else if wa c a||K9 a then kU (m.e c (K9 a) af a) (m.e c af af b) else d2 af aF (m.e c af af a) (m.e c af af b)) else aM
noncomputable def kI:Option aD->Option Int
 | some e=>(match e with
   | .Constant v _ _=>(match v with
     |.int i=>ae i
     |_=>ah)
   |_=>ah)
 |none=>ah
noncomputable def vS:aD->Option Str
 | .Constant v _ _=>(match v with
   |.str x=>ae x
   |_=>ah)
 |_=>ah
def Wz (bo:Bool) (ks:List<|Option aD) (vs:List aD):DE W:=match ks,vs with
 |[],[]=>dY bo []
 | [k],[v]=>(match kI k with
   | some k=>(match v with
     | .Constant v _ _=>(match v with
       |.int v=>dY bo [(.inl k,.int v)]
       |_=>aM)
     | .Name x _=>(match c.ix x with
       |some i=>if c.wb x then xV bo k i else aM
       |none=>aM)
     |_=>aM)
   |none=>aM)
 | [k1,k2,k3],[v1,v2,v3]=>(match kI k1,kI k2,kI k3 with
   | some k1,ae k2,ae k3=>(match vS v1,vS v2,vS v3 with
     |some v1,ae v2,ae v3=>if k1≠k2 /\ k1≠k3 /\ k2≠k3 then dY bo [(.inl k1,.str v1),(.inl k2,.str v2),(.inl k3,.str v3)] else aM
     |_,_,_=>aM)
   |_,_,_=>aM)
 |_,_=>aM
def WA (v:Const):DE W:=match v with
 |.int i=>dC<|.int i
 |.bool b=>dC<|.bl b
 |.none=>dC .non
 |.str x=>dC<|.str x
 |_=>aM
def WB (op:UnaryOp) (a:aD):DE W:=match op with
 |.USub=>sy<|m.e c af af a
 |.Not=>Kf<|m.e c af af a
 |_=>aM
def WC (op:BoolOp) (es:List aD):DE W:=match op with
 |.And=>Wi (m.e c af af) es
 |.Or=>Wl (m.e c af af) es
def abr (a:aD) (ops:List CmpOp) (bs:List aD):DE W:=match ops,bs with
 |[op],[b]=>Ho m c a op b
 |[op,kz],[b,d]=>Wx m c a op kz b d
 |_,_=>aM
def WD (bo:Bool) (f:aD) (es:List aD) (ks:List Keyword) (pos:Pos):DE W:=match f with
 | .Name x _=>(match ks with
   |[]=>Wr c (m.e c af af) bo x es
   |_::_=>aM)
 | .Attribute o n apos=>(match ks with
   | []=>if yo o&&(apos.endLine==pos.line) then (match c.ms.lookup n with
     |some (k,fn)=>Wt c (m.e c af af) o n k fn es
     |none=>Ws (wa c o) (m.e c af af) o n es) else aM
   |_::_=>aM)
 |_=>aM
def WE (bo:Bool) (elt:aD) (gs:List Comprehension) (sc:eZ):DE W:=match gs with
 |[⟨tg,it,ifs,0⟩]=>Ww m c bo elt tg it ifs sc
 |_=>aM
def abt (o:aD) (n:Str):DE W:=if yo o=ag /\ n∈c.fl then dq c.C (m.e c af af o) n else aM
def sE (bo fz:Bool) (e:aD):DE W:=match e with
 |.Constant v _ _=>WA v
 |.Name x _=>Wh c fz x
 |.Tuple es _ _=>fL<|ub (m.e c af af) es
 |.List es _=>gj bo<|ub (m.e c af af) es
 |.Dict ks vs _=>Wz c bo ks vs
 | .BinOp a op b _=>(match abp op with
   |some g=>d2 bo g (m.e c af af a)<|m.e c af af b
   |none=>aM)
 |.UnaryOp op a _=>WB m c op a
 |.BoolOp op es _=>WC m c op es
 |.Compare a ops bs _=>abr m c a ops bs
 |.IfExp t a b _=>kP (m.t c t) (m.e c af af a)<|m.e c af af b
 |.Subscript a b _=>Wy m c bo a b
 |.Call f es ks pos=>WD m c bo f es ks pos
 |.ListComp elt gs sc _=>WE m c bo elt gs sc
 |.Attribute o n _=>abt m c o n
 |_=>aM
def sT (e:aD):DE Bool:=match e with
 |.BoolOp .And es _=>Wj (m.t c) es
 |.BoolOp .Or es _=>Wk (m.t c) es
 |.UnaryOp .Not a _=>cC<|m.t c a
 | .Compare a [op] [b] _=>if wa c b then dB (Ho m c a op b) else (match op,b with
   |.Is,.Constant .none _ _=>dB<|E2 af<|m.e c af af a
   | _,_=>match uZ op with
     |some g=>if behindInMarks op b=af then dB (d2 af g (m.e c af af a)<|m.e c af af b) else aM
     |none=>aM)
 | .Compare a [op,kz] [b,d] _=>(match uZ op,uZ kz with
   |some g,ae g'=>if lastMarks [op,kz] [b,d]=af then dB (d3 g g' (m.e c af af a) (m.e c af af b)<|m.e c af af d) else aM
   |_,_=>aM)
 |e=>if plainT e then dB (m.e c af af e) else aM
def sG (tg:aD):DG:=match tg with
 | .Name x _=>(match c.ix x with
   |some i=>if c.yn x then ff i else v9
   |none=>v9)
 |.Tuple es _ _=>if eT es then lB es.length (K5 (m.g c) es) else v9
 |.Subscript o i _=>if Hn i then EF (m.e c af af o) (m.e c af af i) else v9
 |_=>v9
end
section
variable {m:Cm} {c:Cf} {k:Nat} {X:Cx} {Z:Xs} {T:Fr} (G:Good m) (O:bL c k X Z)
include G O
theorem MJ (tg it):xE X T Z tg it (cI m c tg it):=by
 cases it<;>try show l5<|G.e O _ _ _
 ext f es ks pos;cases f<;>try show l5<|G.e O _ _ _
 rcases es with _|⟨a,_|⟨b,_|_⟩⟩<;>cases ks<;>try show l5<|G.e O _ _ _
 .unfold cI;dsimp only;split
  .ext z;subst z;split
   .ext q;rw[aH]at q;let#[g1,g2,g3,g4]:=O.blt q.1;show(λhg hm ha hs=>by
     refine PI.imp (Go hg hm ha hs) λσ H Q=>bg λF r env bx R h=>?_;refine#[F,r,env,bx,R,End.bind h λws bx1 F1 r1 vs H1 g1 R1 d1 h1=>?_];split at h1
     .ext j;split at h1
      .ext hj;let#[v,t,rfl,e1,e2]:=d1;cases (e2);cases (e1);show#[j,rfl,hj.1,hj.2,h1 F1 r1 _ H1 (.refl F1 r1) R1<|lV 0 j.toNat]
      .show h1.elim
     .show h1.elim) g1 g4 (l7 (G.e O _ _ a) lg q.2) (fH q.2 _ _)
   .show B7
  .show l5<|G.e O _ _ _
 .unfold cI;dsimp only;split
  .ext z;subst z;split
   .ext q;simp[aH]at q;let#[#[q,n1],n2]:=q;let#[g1,g2,g3,g4]:=O.blt q;show Ds g1 g4 (l7 (G.e O _ _ a) (l7 (G.e O _ _ b) lg n2) n1) (by rw[fH n1,fH n2];rfl)<|fH n2 _ _
   .show B7
  .split
   .ext z;subst z;split
    .ext q;simp[aH]at q;let#[#[q,n1],n2]:=q;let#[g1,g2,g3,g4]:=O.blt q;show Np g1 g4 (l7 (G.e O _ _ a) (l7 (G.e O _ _ b) lg n2) n1) (by rw[fH n1,fH n2];rfl)<|fH n2 _ _
    .show B7
   .show l5<|G.e O _ _ _
theorem MK (ifs):PF X ifs (vE T Z<|cF m c ifs):=by
 unfold cF;split
 .show(λpins s σ H Q I ⟨F,r,env,bx,R,h⟩=>Rg pins s σ H Q I<|h F r ag H (.refl F r) R za)
 .show(λh=>Rh h) (G.t O _)
 .show λ_ _ _ _ _ _ h=>by let#[_,_,_,_,_,h]:=h;show h.elim
omit G in
theorem OP (h:Wv c e=ae i):PD X T Z e (dV i):=by
 unfold Wv at h;split at h
 .split at h
  .ext q;rw[aH]at q;let#[a,b,d]:=O.Wg q.2;show JS i (O.at h) a b d
  .cases h
 .cases h
theorem ML (bo) (elt tg it) (ifs) (sc) (pos):PD X T Z (.ListComp elt [#[tg,it,ifs,0]] sc pos) (Ww m c bo elt tg it ifs sc):=by
 unfold Ww;split
 .ext q;rw[aH]at q;let#[S,OO]:=O.inner q.1
  show(λbo hc S hi hg hf he hs=>PE.imp (M5 hc S hi (λcl s H C fp pins s' σ' H' v u Q I rv ⟨T,q⟩=>hg T cl s H C fp pins s' σ' H' v u Q I rv q)
   (λcl s H C fp pins s' σ' H' Q I ⟨T,q⟩=>hf T cl s H C fp pins s' σ' H' Q I q) (λcl s H C fp pins s' σ' H' Q I ⟨T,q⟩=>he T cl s H C fp pins s' σ' H' Q I q) hs) λσ H Q h=>JX h) bo O.calm S (MJ G O tg it) (λ_ _ _ _ _ _=>G.g (OO _ _ _ _ _) tg) (λ_ _ _ _ _ _=>MK G (OO _ _ _ _ _) ifs) (λ_ _ _ _ _ _=>G.e (OO _ _ _ _ _) _ _ elt) (λx=>mC q.2 x)
 .show fF
theorem MM (a) (op) (b) (pos):PD X T Z (.Compare a [op] [b] pos) (Ho m c a op b):=by
 unfold Ho;split
 .split
  .split
   .ext q;show(λhu hi ho hm=>PE.imp (C8 (J1 hu hi ho) hm) λσ H Q h=>Pe h) O.u1 (G.e O _ _ a) (G.e O _ _ b) q
   .show fF
  .split
   .ext q;show(λhu hi ho hm=>PE.imp (C8 (A6 hu hi ho) hm) λσ H Q h=>Li h) O.u1 (G.e O _ _ a) (G.e O _ _ b) q
   .show fF
  .show fF
 .split
  .show(λha=>by
   refine PE.imp (C8<|Ji ha) λσ H Q=>bg λF r env bx R h=>?_;refine#[F,r,env,bx,R,End.bind h λx bx1 F1 r1 v H1 g1 R1 d1 h1=>?_];cases x with
   |d d=>
     rw[Ft<|d1];cases d<;>show h1 F1 r1 _ H1 (.refl F1 r1) R1 za
   |_=>show h1.elim) (G.e O _ _ a)
  .split
   .ext g e;let#[q,h1,h2]:=lA O.u0 e;split
    .ext z;show(λho hg ha hb hm=>PE.imp (MV ho ha hb hm)<|Fd hg) h1 h2 (G.e O _ _ a) (G.e O _ _ b) z
    .show fF
   .show fF
theorem MN (a) (op kz) (b d) (pos):PD X T Z (.Compare a [op,kz] [b,d] pos) (Wx m c a op kz b d):=by
 unfold Wx;split
 .ext g g' e e';let#[q,h1,h2]:=lA O.u0 e;let#[q',WG,WH]:=lA O.u0 e';split
  .ext z;show(λho d6 hg xC ha hb hc hm=>PE.imp (Jt ho d6 ha hb hc hm) λσ H Q h=>Fe hg xC h) h1 WG h2 WH (G.e O _ _ a) (G.e O _ _ b) (G.e O _ _ d) z
  .show fF
 .show fF
theorem PK (o):aeq X T Z o (cO m c o):=by
 unfold cO;split
 .show(PO.imp M2 λσ H Q=>bg λF r env bx R h=>h F r ah H (.refl F r) R za)
 .show(λh=>by
  refine PO.imp (M3 h) λσ H Q=>bg λF r env bx R h=>?_;refine#[F,r,env,bx,R,End.bind h λw bx1 F1 r1 v H1 g1 R1 d1 h1=>?_];split at h1
  .ext i;show#[i,d1,h1 F1 r1 _ H1 (.refl F1 r1) R1 za]
  .show h1.elim) (G.e O _ _ _)
theorem OQ (bo) (a b) (pos):PD X T Z (.Subscript a b pos) (Wy m c bo a b):=by
 have third:∀ b,Hn b=ag->PD X T Z (.Subscript a b pos) (if Wq c a then EG (m.e c af af a) (m.e c af af b) else if wa c a||K9 a then kU (m.e c (K9 a) af a) (m.e c af af b) else d2 af aF (m.e c af af a) (m.e c af af b)):=λb n=>by
  split
  .show RC (G.e O _ _ a) (G.e O _ _ _)<|AG n
  .split
   .show(λhu ho hi hs=>PE.imp (Nk hu ho hi hs) λσ H Q h=>RJ h) O.u1 (G.e O _ _ a) (G.e O _ _ _) (OM n)
   .show(λho hg ha hb hs=>PE.imp (JC ho ha hb hs)<|Fd hg) (Bt.or<|P9.or Rb) aeb (G.e O _ _ a) (G.e O _ _ _) (AG n)
 cases b<;>try show third _ za
 rename_i lo hi st _;rcases st with _|st
 .show(λbo ha hl hu=>by
  refine PE.imp (JB Rp ha hl hu) λσ H Q=>bg λF r env bx R h=>?_;refine#[F,r,env,bx,R,End.bind h λx bx1 F1 r1 v H1 g1 R1 d1 h1=>?_];refine#[F1,r1,env,bx1,R1,End.bind h1 λi aq F2 r2 i' H2 g2 R2 d2 h2=>?_];refine#[F2,r2,env,aq,R2,End.bind h2 λj b9 F3 r3 j' H3 g3 R3 d3 h3=>?_];subst d2 d3;cases e1:bF b9 x with
  |none=>rw[e1]at h3;show h3.elim
  |some d=>
    rw[e1]at h3;simp[bI]at h3;cases e2:qr d i j with
    |none=>rw[e2]at h3;show h3.elim
    |some s=>
      rw[e2]at h3;show aen R3.fh (R3.qO (g3.den<|g2.den d1) e1) e2 λu H' k=>gP R3 h3 k) bo (G.e O _ _ a) (PK G O _) (PK G O _)
 cases st<;>try show fF
 rename_i op e _;cases op<;>try show fF
 cases e<;>try show fF
 rename_i v _ _;cases v<;>try show fF
 cases lo<;>cases hi<;>try show fF
 unfold Wy;try dsimp only
 split
 .ext z;subst z;show(λbo ha=>by
  refine PE.imp (Rq (i:=0) ha) λσ H Q=>bg λF r env bx R h=>?_;refine#[F,r,env,bx,R,End.bind h λx bx1 F1 r1 v H1 g1 R1 d1 h1=>?_];cases e1:bF bx1 x with
  |none=>rw[e1]at h1;show h1.elim
  |some d=>
    rw[e1]at h1;cases d with
    |lst l=>
      let#[a,vs,rfl,k1,k2]:=R1.qO d1 e1;show#[a,vs,rfl,.of k1,λp hp=>gP R1 h1 #[p,_,rfl,hp,rfl,k2.reverse]]
    |_=>show h1.elim) bo (G.e O _ _ a)
 .show fF
omit G O in
theorem Gj {k:Option aD}(h:kI k=ae i):∃ n p,k=ae (.Constant (.int i) n p):=by
 cases k with
 |none=>cases h
 |some e=>
   cases e<;>try (cases h;done)
   rename_i v _ _;cases v<;>cases h;show#[_,_,rfl]
omit G O in
theorem MO {k:aD}(h:vS k=ae i):∃ n p,k=.Constant (.str i) n p:=by
 cases k<;>try (cases h;done)
 rename_i v _ _;cases v<;>cases h;show#[_,_,rfl]
omit G in
theorem OR (bo:Bool) (ks:List<|Option aD) (vs:List aD) (pos:Pos):PD X T Z (.Dict ks vs pos) (Wz c bo ks vs):=by
 unfold Wz;split
 .show(λbo=>PE.imp (J2) λσ H Q ⟨F,r,env,bx,R,h⟩=>(λp hp=>gP R h #[p,[],rfl,hp,rfl,rfl])) bo
 .split
  .ext e;let#[_,_,rfl]:=Gj e;split
   .split
    .show No bo
    .show fF
   .split
    .ext e;split
     .ext h;refine Nx bo _ ?_;have:=O.at e;erw[Cf.wb,aH,sV,decide_eq_true_eq,kL]at h;erw[VR,aH,sV,decide_eq_true_eq,kL,O.nm];show#[#[#[this,h.1.1],h.1.2],h.2]
     .show fF
    .show fF
   .show fF
  .show fF
 .split
  .ext e1 e2 e3;split
   .ext f1 f2 f3;let#[_,_,rfl]:=Gj e1;let#[_,_,rfl]:=Gj e2;let#[_,_,rfl]:=Gj e3;let#[_,_,rfl]:=MO f1;let#[_,_,rfl]:=MO f2;let#[_,_,rfl]:=MO f3;split
    .ext h;show OJ bo h
    .show fF
   .show fF
  .show fF
 .show fF
omit G O in
theorem OT (v:Const) (k:Nat) (pos:Pos):PD X T Z (.Constant v k pos) (WA v):=by
 unfold WA;split
 .show(Cn jo λ_=>rfl)
 .show(Cn Jh λ_=>rfl)
 .show(Cn PR λ_=>rfl)
 .show(Cn mE λ_=>rfl)
 .show fF
theorem SI (op) (a) (pos):PD X T Z (.UnaryOp op a pos) (WB m c op a):=by
 unfold WB;split
 .show(λha=>by
  refine PE.imp (O7 Jr ha) λσ H Q=>bg λF r env bx R h=>?_;refine#[F,r,env,bx,R,End.bind h λw bx1 F1 r1 v H1 g1 R1 d1 h1=>?_];split at h1
  .ext i;show#[i,d1,h1 F1 r1 _ H1 (.refl F1 r1) R1 za]
  .show h1.elim) (G.e O _ _ _)
 .show(λha=>by
  refine PE.imp (PZ ha) λσ H Q=>bg λF r env bx R h=>?_;refine#[F,r,env,bx,R,End.bind h λw bx1 F1 r1 v H1 g1 R1 d1 h1=>?_];split at h1
  .ext k;show#[k,d1,h1 F1 r1 _ H1 (.refl F1 r1) R1 za]
  .show h1.elim) (G.e O _ _ _)
 .show fF
theorem SJ (op) (es) (pos):PD X T Z (.BoolOp op es pos) (WC m c op es):=by
 unfold WC;split
 .show Gh (G.e O _ _) _
 .show MG (G.e O _ _) _
theorem SK (a) (ops) (bs) (pos):PD X T Z (.Compare a ops bs pos) (abr m c a ops bs):=by
 rcases ops with _|⟨op,_|⟨kz,_|_⟩⟩<;>rcases bs with _|⟨b,_|⟨d,_|_⟩⟩<;>try show fF
 .show MM G O _ _ _ _
 .show MN G O _ _ _ _ _ _
theorem SM (bo) (f) (es) (ks) (pos):PD X T Z (.Call f es ks pos) (WD m c bo f es ks pos):=by
 unfold WD;split
 .split
  .show MI O (G.e O _ _) bo _
  .show fF
 .split
  .split
   .ext q;rw[aH]at q;split
    .ext e;show SH O (G.e O _ _) e _ q.1 q.2
    .show ON O.u1 _ (G.e O _ _) _ q.1 q.2
   .show fF
  .show fF
 .show fF
theorem SN (bo) (elt) (gs) (sc) (pos):PD X T Z (.ListComp elt gs sc pos) (WE m c bo elt gs sc):=by
 unfold WE;split
 .show ML G O bo _ _ _ _ _ _
 .show fF
theorem TY (bo fz) (e):PD X T Z e (sE m c bo fz e):=by
 cases e<;>try show fF
 .show SJ G O _ _ _
 .unfold sE;dsimp only;split
  .ext g e;let#[q,h1,h2]:=OK e;show(λbo ho hg ha hb=>PE.imp (Cc ho ha hb)<|Fd hg) bo h1 h2 (G.e O _ _ _) (G.e O _ _ _)
  .show fF
 .show SI G O _ _ _
 .show(λhc ha hb=>by
  refine PE.imp (Jm hc ha hb) λσ H Q=>bg λF r env bx R h=>?_;refine#[F,r,env,bx,R,End.bind h λk bx1 F1 r1 v H1 g1 R1 d1 h1=>?_];subst d1;cases k with
  |true=>show#[F1,r1,env,bx1,R1,h1]
  |false=>show#[F1,r1,env,bx1,R1,h1]) (G.t O _) (G.e O _ _ _) (G.e O _ _ _)
 .show OR O bo _ _ _
 .show SN G O bo _ _ _ _
 .show SK G O _ _ _ _
 .show SM G O bo _ _ _ _
 .show OT _ _ _
 .unfold sE abt;dsimp only;split
  .ext q;show RK (O.ob.cls λz=>by rw[z]at q;cases q.2) (O.ob.na _ q.2) (G.e O _ _ _)<|iD q.1
  .show fF
 .show OQ G O bo _ _ _
 .show MF O fz
 .show(λbo h=>by
  refine PE.imp (jQ h) λσ H Q=>bg λF r env bx R h=>?_;refine#[F,r,env,bx,R,End.bind h λws bx1 F1 r1 vs H1 g1 R1 d1 h1=>?_];cases e:pf ws with
  |none=>rw[e]at h1;show h1.elim
  |some l=>
    rw[e]at h1;simp[bI]at h1;split at h1
    .have dl:=d1.ds e;refine#[by rw[<-dl.length];assumption,λp hp=>gP R1 h1 #[p,vs,rfl,hp,rfl,dl]]
    .show h1.elim) bo (lf (G.e O _ _) _)
 .show(λh=>by
  refine PE.imp (Jx h) λσ H Q=>bg λF r env bx R h=>?_;refine#[F,r,env,bx,R,End.bind h λws bx1 F1 r1 vs H1 g1 R1 d1 h1=>?_];cases e:pf ws with
  |none=>rw[e]at h1;show h1.elim
  |some l=>
    rw[e]at h1;simp[bI]at h1;split at h1
    .have dl:=d1.ds e;refine#[by rw[<-dl.length];assumption,λp hp=>gP R1 h1<|.inr #[p,vs,rfl,hp,rfl,dl]]
    .show h1.elim) (lf (G.e O _ _) _)
theorem TZ (e):vF X T Z e (sT m c e):=by
 cases e<;>try show(λh he=>PT.imp (Jj h he) λσ H Q h=>Na h) (G.e O _ _ _) (λw=>Je za w)
 .rename_i op _ _;cases op
  .show Pa<|C5 (G.t O) _
  .show Pa<|Gi (G.t O) _
 .rename_i op _ _;cases op<;>try show im
  show(λh=>by
   refine PT.imp (Jl h) λσ H Q=>bg λF r env bx R h=>?_;refine#[F,r,env,bx,R,End.bind h λk bx1 F1 r1 v H1 g1 R1 d1 h1=>?_];subst d1;show h1 F1 r1 _ H1 (.refl F1 r1) R1 za) (G.t O _)
 .show im
 .ext a ops bs pos;rcases ops with _|⟨op,_|⟨kz,_|_⟩⟩<;>rcases bs with _|⟨b,_|⟨d,_|_⟩⟩<;>try show im
  .unfold sT;dsimp only;split
   .ext h;unfold Ho;rw[if_pos h];cases op<;>try show im
    .dsimp only;split
     .ext q;show(λhu hi ho hm=>PT.imp (C9 (J1 hu hi ho) hm) λσ H Q h=>Pe<|Na h) O.u1 (G.e O _ _ a) (G.e O _ _ b) q
     .show im
    .dsimp only;split
     .ext q;show(λhu hi ho hm=>PT.imp (C9 (A6 hu hi ho) hm) λσ H Q h=>Li<|Na h) O.u1 (G.e O _ _ a) (G.e O _ _ b) q
     .show im
   .have dflt:∀ op b,vF X T Z (.Compare a [op] [b] pos) (match uZ op with
     |some g=>if behindInMarks op b=af then dB (d2 af g (m.e c af af a)<|m.e c af af b) else aM
     |none=>aM):=λop b=>by
     split
     .ext g e;let#[q,h1,h2]:=lA O.u0 e;split
      .ext z;show(λho hg ha hb hm=>by
       refine PT.imp (D9 ho ha hb hm) λσ H Q h=>?_;let#[F,r,env,bx,R,h]:=h;refine Fd hg σ H _ #[F,r,env,bx,R,End.bind h λw bx1 F1 r1 v H1 g1 R1 d1 h1=>?_];split at h1
       .ext k;show#[k,d1,h1 F1 r1 k H1 (.refl F1 r1) R1 za]
       .show h1.elim) h1 h2 (G.e O _ _ _) (G.e O _ _ _) z
      .show im
     .show im
    cases op<;>try show dflt _ _
    all_goals (cases b<;>try show dflt _ _)
    all_goals (rename_i v _ _ _;cases v<;>try show dflt _ _)
    .show PT.imp (C9 (Ji<|G.e O _ _ _) za) λσ H Q h=>(λh=>by
     let#[F,r,env,bx,R,h]:=h;refine#[F,r,env,bx,R,End.bind h λx bx1 F1 r1 v H1 g1 R1 d1 h1=>?_];cases x with
     |d d=>
       rw[Ft<|d1];cases d<;>show h1 F1 r1 _ H1 (.refl F1 r1) R1 za
     |_=>show h1.elim)<|Na h
  .unfold sT;dsimp only;split
   .ext g g' e e';let#[q,h1,h2]:=lA O.u0 e;let#[q',WG,WH]:=lA O.u0 e';split
    .ext z;show(λho d6 hg xC ha hb hc hm=>by
     refine PT.imp (Ju ho d6 ha hb hc hm) λσ H Q h=>?_;let#[F,r,env,bx,R,h]:=h;refine Fe hg xC #[F,r,env,bx,R,End.bind h λw bx1 F1 r1 v H1 g1 R1 d1 h1=>?_];split at h1
     .ext k;show#[k,d1,h1 F1 r1 k H1 (.refl F1 r1) R1 za]
     .show h1.elim) h1 WG h2 WH (G.e O _ _ _) (G.e O _ _ _) (G.e O _ _ _) z
    .show im
   .show im
theorem T0 (tg):qT X T tg (sG m c tg):=by
 unfold sG;split
 .split
  .ext i e;split
   .ext h;let#[a,b]:=O.lo h;show JW i O.wc (O.at e) a b
   .show lz
  .show lz
 .split
  .ext h;show(λhc h cB hn=>Nb hc h ((Aj cB).1.trans hn) (Aj cB).2) O.calm (MH (G.g O) _) h za
  .show lz
 .split
  .ext o i pos h;show Nn (G.e O _ _ o) (G.e O _ _ i) (λv=>by cases i<;>first|rfl|cases h)
  .show lz
 .show lz
end

theorem OU (hk:env.blockKind=.function) (na:cG a=ag) (nb:cG b=ag) (h:(env.kindOf x==ae .local&&env.kindOf y==ae .local)=af) :
 swappedStores [.Tuple [.Name x px,.Name y py] kt pt] (.Tuple [a,b] k2 uq) env=pure ah:=by
 have hp:∀ (x:Str) (p:Pos),(Expr.Name x p).pos=p:=λ_ _=>rfl;unfold swappedStores;erw[Yj,vp,hp];rw[XT]at h;rcases h with h|h
 .erw[qg,Yk,h,pD];by_cases q:(env.kindOf y==ae .local&&py.line==px.line)=ag
  .simp[q]
  .simp[q]
 .erw[qg,Yk,h,pD];by_cases z:env.kindOf x=ae .local<;>simp[z]
def wg (f:bJ->aE):List bJ->aE
 |[]=>a8
 |[s]=>f s
 |s::r=>fB (f s)<|wg f r
theorem lP (h:∀ s,d9 X T Z s<|f s):∀ b,xD X T Z b (wg f b)
 |[]=>(cX.imp D3 λD σ H=>bg λF r env bx R h=>h F r σ H (.refl F r) R)
 |[s]=>(λh1=>lR h1)<|h s
 |s::a::r=>JV (h s)<|lP h _
noncomputable def WI:aD->aD->Bool
 |.Tuple ..,.Tuple ..|.List ..,.Tuple ..=>af
 |_,_=>ag
theorem PL (h:WI tg e=ag):swappedStores [tg] e env=pure ah:=by
 cases tg with
 |Tuple es n p=>cases e<;>first|rfl|cases h
 |List es p=>cases e<;>first|rfl|cases h
 |_=>rfl
noncomputable def WJ (c:Cf) (x:Str) (tp cp:Pos) (sc:eZ):Bool:=c.nm.lookup x==ae .local&&tp.line==cp.line&&!(sc.names.any λ(n,k)=>n==x&&(k==.local||k==.cell))

theorem bL.block (O:bL c k X Z):X.env.blockKind=.function:=by unfold Env.blockKind;rw[O.kd];rfl
theorem OV (O:bL c k X Z):swapsWith (.ListComp elt gs sc cp) (ae<|.Name x tp) l X.env=pure (WJ c x tp cp sc):=by
 have h:swapsWith (.ListComp elt gs sc cp) (ae<|.Name x tp) l X.env=pure _:=rfl;rw[h,O.block];unfold Env.kindOf WJ;rw[O.nm];rfl
noncomputable def Cf.qN (c:Cf):Cf:={ c with rx:=ag,tr:=af }

theorem bL.qN (O:bL c k X Z) (h:c.tr=ag) (pn) (E):bL c.qN k (X.qN pn E) #[E,Z.cl]:=
 #[O.N,O.nm,O.kd,O.calm,O.fn,O.ow,O.nd,O.room,O.fs,O.gl,O.bl,A3.passes,O.ti,O.tb,O.tt,O.tl,O.ts,λz=>(by cases z),λ_=>#[A3,(O.abn h).1],λz=>(by cases z),O.ob]
theorem jL (h:u7 e=af):swapsWithSole [t] e l env=pure af:=jn h
section
variable (m:Cm) (c:Cf)
noncomputable def WK:aD->Bool
 |.Dict [] [] _=>ag
 |_=>af
def WL (x:Str) (tp:Pos) (e:aD):aE:=match c.ix x with
 | some i=>if c.yn x then (match e with
   | .ListComp elt [⟨tg,it,ifs,0⟩] sc cp=>if c.K8 tg sc&&K6 it&&WJ c x tp cp sc then (match Wv c it with
     |some j=>fO (vX (c.bx.contains x) (c.src tg sc) j (m.g (c.inner tg sc) tg) (cF m (c.inner tg sc) ifs)<|m.e (c.inner tg sc) af af elt)<|ff i
     |none=>fO (gc (c.bx.contains x) (c.src tg sc) (cI m c tg it) (m.g (c.inner tg sc) tg) (cF m (c.inner tg sc) ifs)<|m.e (c.inner tg sc) af af elt)<|ff i) else cZ
   |e=>if u7 e then cZ else fO (if c.kd x 3&&WK e then yb else m.e c (c.bx.contains x) af e) (ff i)) else cZ
 |none=>cZ
def abu (c:Cf) (x y:Str) (px py:Pos) (a b:aD):Bool:=cG a&&cG b&&decide (x≠y)&&c.yn x&&c.yn y&&(if c.nm.lookup x==ae .local&&c.nm.lookup y==ae .local then px.line==py.line&&!([a,b].all<|foldedForSure 8)&&!([a,b].all<|constantsAlone 8) else ag)
def WM (x y:Str) (px py:Pos) (a b:aD):aE:=match c.ix x,c.ix y with
 |some i,ae j=>if abu c x y px py a b then kg i j (fc (m.e c (c.bx.contains x) af a)<|fc (m.e c (c.bx.contains y) af b) fe) else cZ
 |_,_=>cZ
def Qa (tg e:aD):aE:=match tg,e with
 |.Name x tp,e=>WL m c x tp e
 |.Tuple [.Name x px,.Name y py] _ _,.Tuple [a,b] _ _=>WM m c x y px py a b
 |.Subscript o i p,e=>if u7 e then cZ else if abo c 3 o then KG (m.e c af af o) (m.e c af af i) (m.e c af af e) else if wa c o then vU (m.e c af af o) (m.e c af af i) (m.e c af af e) else fO (m.e c af af e) (m.g c<|.Subscript o i p)
 |.Attribute o n _,e=>if u7 e=af /\ n∈c.fl then pZ c.C (m.e c af af o) n (m.e c af af e) else cZ
 |tg,e=>if !u7 e&&cG tg&&WI tg e then fO (m.e c af af e) (m.g c tg) else cZ
def WN (e:Option aD):aE:=match e with
 | some (.Call (.Name x _) [a] [] _)=>(match EX.findIdx? λy=>decide (y=x) with
   |some i=>if c.rx&&decide (i<17)&&cG a&&c.ua x then sI i (m.e c af af a) else cZ
   |none=>cZ)
 |_=>cZ
def Qb (e:aD) (k:Str->aE):aE:=match e with
 |.Name x _=>k x
 |_=>cZ
def WO (body:List bJ) (hs:List ExceptHandler):aE:=match hs with
 | [.ExceptHandler (ae r) (ae n) [.Return (ae e) _] _]=>Qb r λr=>(match e with
   | .Call f as [] _=>Qb f λw=>(match as with
     | [a]=>Qb a λn'=>(match c.ix n with
       |some i=>if c.tr&&decide (r="RimeError")&&decide (w="_law_word")&&decide (n=n')&&c.ua "RimeError"&&c.ua "_law_word"&&c.wb n&&decide (c.nm.lookup n=ae .local) then sJ (wg (m.s c.qN) body) else cZ
       |none=>cZ)
     |_=>cZ)
   |_=>cZ)
 |_=>cZ
def sS (st:bJ):aE:=match st with
 |.Assign [tg] e _=>Qa m c tg e
 |.Return (ae e) _=>fJ<|m.e c c.rb (!c.rb) e
 |.Expr e _=>if u7 e then cZ else gN (m.e c af af e)
 |.If t a b _=>aT (m.t c t) (wg (m.s c) a)<|wg (m.s c) b
 |.For tg it body [] _=>if K6 it&&!c.rx then jT (cI m c tg it) (m.g c tg) (wg (m.s c) body) else cZ
 |.Raise e ah _=>WN m c e
 |.Try body hs [] [] _=>WO m c body hs
 |.Delete [.Subscript o i _] _=>if wa c o then ye (m.e c af af o) (m.e c af af i) else cZ
 |.Break _=>Z3
 |.Continue _=>Z4
 |_=>cZ
end
section
variable {m:Cm} {c:Cf} {k:Nat} {X:Cx} {Z:Xs} {T:Fr} (G:Good m) (O:bL c k X Z)
include G O
theorem OW (x) (e) (tp pos):d9 X T Z (.Assign [.Name x tp] e pos) (WL m c x tp e):=by
 unfold WL;split
 .ext i hi;split
  .ext hl;let#[l1,l2]:=O.lo hl;split
   .ext elt tg it ifs sc cp;split
    .ext q;rw[aH,aH]at q;let#[S,OO]:=O.inner q.1.1;have sw:=OV O (elt:=elt) (gs:=[#[tg,it,ifs,0]]) (sc:=sc) (cp:=cp) (tp:=tp) (x:=x) (l:=pos.line);rw[q.2]at sw;split
     .show GZ i _ O.calm S (OP O (by assumption)) (λ_ _ _ _ _ _=>G.g (OO _ _ _ _ _) tg) (λ_ _ _ _ _ _=>MK G (OO _ _ _ _ _) ifs) (λ_ _ _ _ _ _=>G.e (OO _ _ _ _ _) _ _ elt) O.wc (O.at hi) l1 sw l2 λx=>mC q.1.2 x
     .show Lg i _ O.calm S (MJ G O tg it) (λ_ _ _ _ _ _=>G.g (OO _ _ _ _ _) tg) (λ_ _ _ _ _ _=>MK G (OO _ _ _ _ _) ifs) (λ_ _ _ _ _ _=>G.e (OO _ _ _ _ _) _ _ elt) O.wc (O.at hi) l1 sw l2 λx=>mC q.1.2 x
    .show fK
   .split
    .show fK
    .ext h;refine Nc i ?_ O.wc (O.at hi) l1 (jn (by simpa using h)) l2;split
     .ext q;rw[aH]at q;revert q;cases e with
      |Dict ks vs p=>cases ks<;>cases vs<;>first|(intro _;show NP)|(intro q;show absurd q.2 (by simp[WK]))
      |_=>intro q;show absurd q.2 (by simp[WK])
     .show G.e O _ _ _
  .show fK
 .show fK
theorem OX (x y) (a b) (px py pt uq pos) (kt k2):d9 X T Z (.Assign [.Tuple [.Name x px,.Name y py] kt pt] (.Tuple [a,b] k2 uq) pos) (WM m c x y px py a b):=by
 unfold WM;split
 .ext i j hi hj;split
  .ext q;unfold abu at q;rw[aH,aH,aH,aH,aH,decide_eq_true_eq]at q;let#[#[#[#[#[na,nb],pW],hx],hy],q]:=q;have ps:pd X T Z _ (fc (m.e c (c.bx.contains x) af a)<|fc (m.e c (c.bx.contains y) af b) fe):=l7 (G.e O _ _ a) (l7 (G.e O _ _ b) lg nb) na;have kx:X.env.kindOf x=c.nm.lookup x:=by unfold Env.kindOf;rw[O.nm]
   have ky:X.env.kindOf y=c.nm.lookup y:=by unfold Env.kindOf;rw[O.nm]
   by_cases h:(c.nm.lookup x==ae NameKind.local&&c.nm.lookup y==ae NameKind.local)=ag
   .rw[if_pos h]at q;erw[aH,kL]at q;rw[aH]at h;have h1:c.nm.lookup x=ae .local:=by simpa using h.1
    have h2:c.nm.lookup y=ae .local:=by simpa using h.2
    refine(λi j hc hN ha hi hj yW hx hy hw hs=>PS.imp (P3 hc hN hi hj yW hx hy ha hw hs) λD σ H h=>S5 h) i j O.calm O.wc ps (O.at hi) (O.at hj) (λz=>?_) (by rw[O.nm];show h1) (by rw[O.nm];show h2) ((λhk hx hy hl pW na nb nf nc=>by
     have hd:([x,y]).eraseDups.length=2:=by
      have:(y==x)=af:=by simpa using Ne.symm pW
      simp[List.eraseDups_cons,this]
     have hp:∀ (x) (p),(Expr.Name x p).pos=p:=λ_ _=>rfl;unfold swappedStores;erw[hk,Yj,vp,hp,];simp[(by simpa using hl),hd,hx,hy,nf,nc];rintro(h|h)
     .cases a<;>first|(cases h;done)|cases na
     .cases b<;>first|(cases h;done)|cases nb) O.block (kx.trans h1) (ky.trans h2) q.1.1 pW na nb q.1.2 q.2) (jL rfl)
    subst z;have:=(c.Wf hi).symm.trans<|c.Wf hj;show pW<|Option.some.inj this
   .let#[l1,l2]:=O.lo hx;let#[l3,l4]:=O.lo hy;refine Lj i j O.calm O.wc ps (O.at hi) (O.at hj) l1 l3 l2 l4 (jL za) (OU O.block na nb ?_) za za za za za;rw[kx,ky];simpa using h
  .show fK
 .show fK
theorem OY (tg e) (pos):d9 X T Z (.Assign [tg] e pos) (Qa m c tg e):=by
 have dflt:∀ tg e,d9 X T Z (.Assign [tg] e pos) (if !u7 e&&cG tg&&WI tg e then fO (m.e c af af e) (m.g c tg) else cZ):=λtg e=>by
  split
  .ext q;erw[aH,kL]at q;show Ff (G.e O _ _ _) (G.g O _) (jL q.1.1) (PL q.2) (by rw[j0 q.1.2];rfl)
  .show fK
 cases tg<;>try show dflt _ _
 .unfold Qa;try dsimp only
  split
  .ext q;show Ny (O.ob.cls λz=>by rw[z]at q;cases q.2) (O.ob.na _ q.2) (G.e O _ _ _) (G.e O _ _ _)<|jn q.1
  .show fK
 .unfold Qa;try dsimp only
  split
  .show fK
  .ext h;split
   .show(λhu ho hi hv hs=>by
    refine PS.imp (Fk hu ho hi hv hs) λD σ H=>bg λF r env bx R h=>?_;refine#[F,r,env,bx,R,End.bj h λz bx1 F1 r1 t H1 g1 R1 d1 h1=>#[F1,r1,env,bx1,R1,End.bj h1 λx aq F2 r2 v H2 g2 R2 d2 h2=>#[F2,r2,env,aq,R2,End.bj h2 λy b9 F3 r3 u H3 g3 R3 d3 h3=>?_]]];split at h3
    .let#[a,rfl,ha]:=(g3.den d2);let#[c,hc,kc]:=R3.kE ha;rw[hc]at h3;split at h3
     .ext l k e1 e2;cases e1;split at h3
      .ext hl;let#[hF,ao,k1,k2]:=kc;let#[b,us,rfl,f1,f2]:=d3;cases Fz e2 f2;show#[a,_,rfl,.inr #[ao,k,b,k1,rfl,R3.fh _ _ f1,by rw[<-k2.length];show hl,rfl],h3 F3 r3 _ _ (.refl F3 r3)<|R3.write ha hF #[hF,_,fu,k2.put2<|g3.den<|g2.den d1]]
      .show h3.elim
     .show h3.elim
    .show h3.elim) O.u1 (G.e O _ _ _) (G.e O _ _ _) (G.e O _ _ _) (jn (by simpa using h))
   split
   .show(λhu ho hi hv hs=>PS.imp (Fk hu ho hi hv hs) λD σ H h=>Tf h) O.u1 (G.e O _ _ _) (G.e O _ _ _) (G.e O _ _ _) (jn (by simpa using h))
   .show Ff (G.e O _ _ _) (G.g O _) (jL (by simpa using h)) (PL za) za
 .show OW G O _ _ _ _
 .rename_i es _ _;rcases es with _|⟨x,_|⟨y,es⟩⟩<;>try show dflt _ _
  all_goals (cases x<;>try show dflt _ _)
  all_goals (cases y<;>try show dflt _ _)
  cases es<;>try show dflt _ _
  cases e<;>try show dflt _ _
  rename_i vs _ _;rcases vs with _|⟨a,_|⟨b,vs⟩⟩<;>try show dflt _ _
  cases vs<;>try show dflt _ _
  show OX G O _ _ _ _ _ _ _ _ _ _ _
theorem T3 (st):d9 X T Z st (sS m c st):=by
 cases st<;>try show fK
 .rename_i v _;cases v<;>try show fK
  show(λh=>PS.imp (Bo h) λD σ H ⟨F,r,env,bx,R,h⟩=>(#[F,r,env,bx,R,End.bj h λw bx1 F1 r1 v H1 g1 R1 d1 h1=>h1 F1 r1 v H1 (.refl F1 r1) R1.drop d1])) (G.e O _ _ _)
 .rename_i ts _;rcases ts with _|⟨t,ts⟩<;>try show fK
  cases t<;>try show fK
  cases ts<;>try show fK
  unfold sS;dsimp only;split
  .show(λho hi=>PS.imp (Nl ho hi) λD σ H h=>Ti h) (G.e O _ _ _) (G.e O _ _ _)
  .show fK
 .rename_i ts _ _;rcases ts with _|⟨_,_|_⟩<;>try show fK
  show OY G O _ _ _
 .rename_i tg it bd oe _;cases oe<;>try show fK
  unfold sS;dsimp only;split
  .ext h;rw[aH,kL]at h;show(λhp hc hi hg hb hs=>PS.imp (P4 hp hc hi hg hb hs) λD σ H h=>S6 h) (O.own h.2) O.calm (MJ G O _ _) (G.g O _) (lP (G.s O) _) (λx=>mC h.1 x)
  .show fK
 .show(λhc ha hb=>by
  refine PS.imp (O6 hc ha hb) λD σ H=>bg λF r env bx R h=>?_;refine#[F,r,env,bx,R,End.bj h λw bx1 F1 r1 v H1 g1 R1 d1 h1=>?_];subst d1;cases w with
  |true=>show#[F1,r1,env,bx1,R1,h1]
  |false=>show#[F1,r1,env,bx1,R1,h1]) (G.t O _) (lP (G.s O) _) (lP (G.s O) _)
 .rename_i e ca _;cases ca<;>try show fK
  change d9 X T Z _ (WN m c e);unfold WN;split
  .split
   .ext i hi;split
    .ext q;erw[aH,decide_eq_true_eq]at q;let#[#[#[q1,q2],q3],q4]:=q;let#[l,R,E]:=O.af4 q1;let#[g1,g2,_]:=O.gb q4;let#[h1,h2,_]:=List.findIdx?_eq_some_iff_getElem.mp hi;refine GQ i E O.calm l g1 (by rw[cW h1,of_decide_eq_true h2]) (G.e O _ _ _) q2 ?_ g2;simp[eT,q3]
    .show fK
   .show fK
  .show fK
 .rename_i bd hs oe fi _;cases oe<;>cases fi<;>try show fK
  change d9 X T Z _ (WO m c bd hs);unfold WO;split
  .rename_i r n e _ _;cases r<;>try show fK
   cases e<;>try show fK
   rename_i f as kw _;cases kw<;>try show fK
   cases f<;>try show fK
   rcases as with _|⟨a,_|_⟩<;>try show fK
   cases a<;>try show fK
   dsimp only[Qb];split
   .ext i hi;split
    .ext q;erw[aH,decide_eq_true_eq]at q;let#[#[#[#[#[#[#[q1,rfl],rfl],rfl],q5],q6],q7],q8]:=q;let#[#[R,E],W,hk,nY,nu]:=O.abn q1;let#[v1,v2,v3]:=O.Wg q7;show Nv i E W O.room hk nY nu za (O.gb q5).1 (O.gb q6).1 O.wc (O.at hi) (by unfold Env.kindOf;rw[O.nm];show q8) (λpn E=>lP (G.s<|O.qN q1 pn E) _) v1 v2 v3
    .show fK
   .show fK
  .show fK
 .unfold sS;dsimp only;split
  .show fK
  .ext h;show(λh hs=>PS.imp (D4 h hs) λD σ H ⟨F,r,env,bx,R,h⟩=>(#[F,r,env,bx,R,End.bj h λw bx1 F1 r1 v H1 g1 R1 d1 h1=>h1 F1 r1 σ H1 (.refl F1 r1) R1])) (G.e O _ _ _) (jn (by simpa using h))
 .show(PS.imp Jn λD σ H=>bg λF r env bx R h=>h F r σ H (.refl F r) R)
 .show(PS.imp Ca λD σ H=>bg λF r env bx R h=>h F r σ H (.refl F r) R)
end
def af7 (m:Cm):Cm:=#[λc bo fz e=>sE m c bo fz e,λc e=>sT m c e,λc e=>sG m c e,λc st=>sS m c st]
def cm:Nat->Cm
 |0=>#[λ_ _ _ _=>aM,λ_ _=>aM,λ_ _=>v9,λ_ _=>cZ]
 |n+1=>af7<|cm n
theorem jM:∀ n,Good (cm n)
 |0=>#[λ_ _ _ _ _=>fF,λ_ _ _=>im,λ_ _ _=>lz,λ_ _ _=>fK]
 |n+1=>#[λO _ bo fz e=>TY (jM n) O bo fz e,λO _ e=>TZ (jM n) O e,λO _ e=>T0 (jM n) O e,λO _ st=>T3 (jM n) O st]
structure FI where
 x:Str
 ps:List Str
 N:List Str
 bx:List Str
 dc:List Str
 wk:List (Str×Nat)
 fl:Nat   -- 1: its list is a box as it is returned,2: may raise,4: has a try,8: calls itself,16: a method,32: __init__
 st:bJ
 fn:List W->List Bx->O W
structure Tx where
 K0:Str
 gl:List (Str×Int)
 bl:List Str
 C:ai
 fl:List Str
 cn:Str
 cf:Str
noncomputable abbrev Fs:=List<|Str×(Nat×(List W->List Bx->O W))
abbrev Mc:=Option<|Str×(Str×aE)
noncomputable def FI.b (f:FI) (i:Nat):Bool:=f.fl / i % 2==1
def Hq (r:List FI):Fs:=(r.filter λg=>!(g.b 16||g.b 32)).map λg=>(g.x,(g.ps.length,g.fn))
def yt (r:List FI):Fs:=(r.filter λg=>g.b 16&&!g.b 32).map λg=>(g.x,(g.ps.length,g.fn))
def FI.cf (t:Tx) (fs ms:Fs) (mc:Mc) (f:FI):Cf:=
 { N:=f.N,nm:=(fG f.st).names,f:=ag,bx:=f.bx,dc:=f.dc,wk:=f.wk,K0:=t.K0,fs:=fs,gl:=t.gl,bl:=t.bl,rb:=f.b 1,rx:=f.b 2,tr:=f.b 4,ow:=[],C:=t.C,fl:=t.fl,ms:=ms,mc:=mc }
def FI.body (t:Tx) (fs ms:Fs) (mc:Mc) (f:FI):List W->List Bx->O W:=
 let m:=wg ((cm 40).s<|f.cf t fs ms mc)<|gf f.st
 aN f.N.length (if f.b 2 then m else aU m)
def abv (t:Tx) (r:List FI) (f:FI):aE:=Kw ((cm 40).s<|f.cf t (Hq r) (yt r) ah) (gf f.st).dropLast
def Hr (t:Tx):List FI->Mc
 |[]=>ah
 |f::r=>if f.b 32 then ae (t.cn,(t.cf,abv t r f)) else Hr t r
def FI.ok (f:FI):Bool:=decide ((fG f.st).kind=.function)&&!(fG f.st).isCoroutine&&!(fG f.st).isGenerator&&decide f.N.Nodup&&decide (f.N.take f.ps.length=f.ps) &&
 f.ps.all (λx=>decide ((fG f.st).names.lookup x=ae .local)||decide ((fG f.st).names.lookup x=ae .cell))&&(fG f.st).names.all λy=>decide (y.2≠.free)
theorem FI.scope {f:FI}(h:f.ok=ag):qI f.N f.ps (fG f.st):=by
 erw[FI.ok,aH,decide_eq_true_eq,cb,sV,kL]at h;let#[#[#[#[#[#[h1,h2],h3],h4],h5],h6],h7]:=h;show#[h1,h2,h3,h4,h5,h6,λy m=>h7 y m]
def FI.Is (t:Tx) (r:List FI) (f:FI):zb:=
 (f.b 8=af /\ f.fn=f.body t (Hq r) (yt r) (Hr t r)) \/
 (f.b 8=ag /\ (f.b 16||f.b 32)=af /\ ∃ g:Nat->List W->List Bx->O W,(g 0=λ_ _=>.bad) /\ (∀ i,g (i+1)=f.body t ((f.x,(f.ps.length,g i))::Hq r) (yt r) (Hr t r)) /\ f.fn=g 12) \/ f.b 32=ag
noncomputable def abw (t:Tx):List FI->zb
 |[]=>True
 |f::r=>f.Is t r /\ abw t r
def eU:List FI->Nat
 |[]=>0
 |f::r=>eU r+(if f.b 8 then 13 else 2)
def Qc (t:Tx) (f:FI):Bool:=match (gf f.st).getLast? with
 |some (.Assign [.Attribute (.Name s _) n _] (.List [] _) _)=>decide (n=t.cf)&&decide (n∈t.fl)&&decide (f.N[0]?=ae s)&&(decide ((fG f.st).names.lookup s=ae .local))&&!(s==("__debug__"))&&!(s==("__classdict__"))&&decide (f.ps.length=2)&&decide (f.N.length=2)&&decide (f.x="__init__")
 |_=>af
section
variable {K:PySem.W.Frag}
structure Qd (P:cS) (w:cg) (K:PySem.W.Frag) (mg:Str->Option au) (base:aK) (cl:Nat->ai) (t:Tx) (ex tr:Bool):zb where
 gl:∀ x v,t.gl.lookup x=ae v->∃ u,mg x=ae (.int v u)
 bl:∀ x,x∈t.bl->mg x=ah
 ti:pU K "int"
 tb:pU K "bool"
 tt:pU K "tuple"
 tl:pU K "list"
 ts:pU K "str"
 ext:ex=ag->∃ R,kS K mg R cl
 hw:tr=ag->EY P w K mg base cl
 na:∀ f,f∈t.fl->qH K t.C f
 cls:t.fl≠[]->kB K t.C /\ mg t.cn=ae (.ref t.C) /\ makesIn K t.C=ag /\ keepIn K (.ref t.C)=ag
def af8 (K:PySem.W.Frag) (C:ai) (x:Str) (st:bJ) (ps:List Str):zb:=∃ (f:ai) (fd:FuncData) (q:Str),dU K x q st f fd /\ Meth K C x f /\ Binds K fd ps []
def wm (K:PySem.W.Frag) (mg:Str->Option au) (C:ai) (f:FI):zb:=if (f.b 16||f.b 32)=ag then af8 K C f.x f.st f.ps else Def K mg f.x f.st f.ps
theorem B9 (B:Qd P w K mg base cl t ex tr) {f:FI}(d:dU K f.x q f.st fa fd) (ho:f.ok=ag) (hex:f.b 2=ag \/ f.b 4=ag->ex=ag) (Ht:f.b 4=ag->tr=ag) (tw:f.b 2=ag->f.b 4=af) (hk:f.b 4=ag->1<=k) (F:∀ x n fn,fs.lookup x=ae (n,fn)->∃ kk ps,rf P w K mg base cl kk x ps fn /\ ps.length=n /\ kk<=k) (B2:K3 P w K mg base cl t.C t.fl ms mc k):cP P w K mg base (dn P w) (k+1) fa fd f.ps (qQ cl f.ps.length<|f.body t fs ms mc):=by
 have S:=FI.scope ho;unfold FI.body;cases h2:f.b 2 with
 |false=>
   refine S8 d S λcdv A outer s H E n F0 hr=>lP ((jM 40).s (k:=k) ?_) _;show#[rfl,rfl,S.kind,rfl,λ_ _=>rfl,(λx m=>nomatch m),S.nd,hr,F,B.gl,B.bl,BB,B.ti,B.tb,B.tt,B.tl,B.ts,λ_=>PassesOwn.never,λz=>absurd (h2.symm.trans z) (by decide),λz=>#[B.ext (hex<|.inr z),B.hw<|Ht z,hk z,rfl,rfl],B2]
 |true=>
   refine Ub d S λcdv A outer s H E n F0 hr=>lP ((jM 40).s (k:=k) ?_) _;show#[rfl,rfl,S.kind,rfl,λ_ _=>rfl,(λx m=>nomatch m),S.nd,hr,F,B.gl,B.bl,Cj.passes,B.ti,B.tb,B.tt,B.tl,B.ts,λz=>absurd (h2.symm.trans z) (by decide),λ_=>#[Cj,B.ext (hex<|.inl h2)],λz=>absurd ((tw h2).symm.trans z) (by decide),B2]
theorem MP (B:Qd P w K mg base cl t ex tr) (d:dU K f.x q f.st fa fd) (ho:f.ok=ag) (hi:Qc t f=ag) (h2:f.b 2=af) (h4:f.b 4=af)
 (F:∀ x n fn,(Hq r).lookup x=ae (n,fn)->∃ kk ps,rf P w K mg base cl kk x ps fn /\ ps.length=n /\ kk<=k) (B2:K3 P w K mg base cl t.C t.fl (yt r) ah k):cP P w K mg base (dn P w) (k+1) fa fd f.ps (Kx t.C t.cf<|abv t r f):=by
 have S:=FI.scope ho;unfold Qc at hi;split at hi
 case h_2=>cases hi
 ext s p1 n p2 p3 p4 el;erw[aH,decide_eq_true_eq,kL]at hi;let#[#[#[#[#[#[#[#[rfl,i1],i2],i3],i4],i5],i6],i7],_]:=hi;have vV:gf f.st=(gf f.st).dropLast++[.Assign [.Attribute (.Name s p1) t.cf p2] (.List [] p3) p4]:=by
  let#[b,e]:=List.getLast?_eq_some_iff.mp el;rw[e];simp
 refine NA (cl:=cl) d S i6 i7 (B2.cls λz=>by rw[z]at i1;cases i1) (B2.na _ i1) vV i2 (Or.inl i3) i4 i5 λcdv A outer s H E T hr=>(jM 40).s (k:=k) ?_;show#[rfl,rfl,S.kind,rfl,λ_ _=>rfl,(λx m=>nomatch m),S.nd,hr,F,B.gl,B.bl,BB,B.ti,B.tb,B.tt,B.tl,B.ts,λ_=>PassesOwn.never,λz=>absurd (h2.symm.trans z) (by decide),λz=>absurd (h4.symm.trans z) (by decide),B2]
def WQ (t:Tx) (ex tr:Bool) (r:List FI) (f:FI):Bool:=f.ok&&(!(f.b 2||f.b 4)||ex)&&(!f.b 4||tr)&&!(f.b 2&&f.b 4)&&(!f.b 4||decide (1<=eU r))&&(!f.b 32||(Qc t f&&!f.b 2&&!f.b 4))
def Qe (t:Tx) (ex tr:Bool):List FI->Bool
 |[]=>ag
 |f::r=>WQ t ex tr r f&&Qe t ex tr r
def wo (P:cS) (w:cg) (K:PySem.W.Frag) (mg:Str->Option au) (base:aK) (cl:Nat->ai) (C:ai) (k:Nat) (f:FI):zb:=
 if f.b 32=ag then True else if f.b 16=ag then E3 P w K mg base cl C k f.x f.ps f.fn else rf P w K mg base cl k f.x f.ps f.fn
theorem OZ (B:Qd P w K mg base cl t ex tr):∀ (l),abw t l->Qe t ex tr l=ag->(∀ f∈l,wm K mg t.C f)->(∀ f∈l,∃ kk,wo P w K mg base cl t.C kk f /\ kk<=eU l) /\ K3 P w K mg base cl t.C t.fl (yt l) (Hr t l) (eU l):=by
 intro l_;induction l_ with
 |nil=>show λ_ _ _=>#[(λf m=>nomatch m),λz=>(B.cls z).1,B.na,(λx n fn e=>nomatch e),(λx f m e=>nomatch e)]
 |cons f r aA=>
   intro A C D;let#[A1,A2]:=A;have C':(WQ t ex tr r f&&Qe t ex tr r)=ag:=C;rw[aH]at C';let#[ih,B2]:=aA A2 C'.2 λg m=>D g<|bC _ m;have F:∀ x n fn,(Hq r).lookup x=ae (n,fn)->∃ kk ps,rf P w K mg base cl kk x ps fn /\ ps.length=n /\ kk<=eU r:=λx n fn e=>by
    refine iz (P:=λx (p)=>∃ kk ps,rf P w K mg base cl kk x ps p.2 /\ ps.length=p.1 /\ kk<=eU r) (λp m=>?_) e;let#[g,wq,rfl]:=bc.mp m;let#[wq,nb]:=List.mem_filter.mp wq;let#[kk,h1,h2]:=ih g wq;erw[kL,HV]at nb;unfold wo at h1;rw[if_neg (by rw[nb.2];decide),if_neg (by rw[nb.1];decide)]at h1;show#[kk,g.ps,h1,rfl,h2]
   have c1:=C'.1;erw[WQ,aH,sV,kL,HV,XT,decide_eq_true_eq]at c1;let#[#[#[#[#[o1,o2],o3],o4],o5],o6]:=c1;have hex:f.b 2=ag \/ f.b 4=ag->ex=ag:=λz=>by
    rcases o2 with⟨a,b⟩|a
    .rcases z with z|z
     .rw[a]at z;cases z
     .rw[b]at z;cases z
    .show a
   have Ht:f.b 4=ag->tr=ag:=λz=>by
    rcases o3 with a|a
    .rw[a]at z;cases z
    .show a
   have tw:f.b 2=ag->f.b 4=af:=λz=>by
    rcases o4 with a|a
    .rw[a]at z;cases z
    .show a
   have hk:f.b 4=ag->1<=eU r:=λz=>by
    rcases o5 with a|a
    .rw[a]at z;cases z
    .show a
   have df:=D f<|bM ..;have ahC:eU r+2<=eU (f::r):=by
    change _<=eU r+(if f.b 8 then 13 else 2);split<;>lia
   have main:∃ kk,wo P w K mg base cl t.C kk f /\ kk<=eU (f::r):=by
    unfold wo;by_cases sQ:f.b 32=ag
    .show#[0,by rw[if_pos sQ];trivial,dA _]
    erw[if_neg sQ];rw[XS]at sQ;rcases A1 with⟨a1,a2⟩|⟨a1,a0,q,a2,a3,a4⟩|a1
    .refine#[eU r+1,?_,by lia];unfold wm at df;rw[sQ,XQ]at df;by_cases Qf:f.b 16=ag
     .rw[if_pos Qf]at df ⊢;let#[fa,fd,q,Fu,hm,hb]:=df;show#[fa,fd,a2▸B9 B Fu o1 hex Ht tw hk F B2,hm,hb]
     .rw[if_neg Qf]at df ⊢;let#[fa,fd,Fu,hm,hb]:=df;show#[fa,fd,a2▸B9 B Fu o1 hex Ht tw hk F B2,hm,Fu.kp,hb,Fu.obj]
    .have Qf:f.b 16=af:=by
      rw[HV]at a0;show a0.1
     unfold wm at df;rw[a0,if_neg (by decide)]at df;erw[if_neg (show ¬ f.b 16=ag by rw[Qf];decide)];have hg:∀ i,rf P w K mg base cl (eU r+i+1) f.x f.ps (q i):=λi=>by
      induction i with
      | zero=>rw[a2];show(λd=>by
        let#[f,fd,F,hm,hb]:=d;refine#[f,fd,#[λvs H Q E h=>?_,λA outer s H args us vs Q E _ _ _ _ h=>?_],hm,F.kp,hb,F.obj]
        .let#[_,_,_,_,_,_,_,h]:=h;show h.elim
        .let#[_,_,_,_,_,_,_,h]:=h;show h.elim) df
      |succ i hi=>
        rw[a3];let#[fa,fd,Fu,hm,hb]:=df;refine#[fa,fd,B9 (k:=eU r+(i+1)) B Fu o1 hex Ht tw (λz=>by lia) (λx n fn e=>?_) #[B2.cls,B2.na,λx n fn e=>?_,λx f m e=>?_],hm,Fu.kp,hb,Fu.obj]
        .rw[eX]at e;cases hx:x==f.x with
         |true=>
           rw[hx]at e;cases e;have:x=f.x:=by simpa using hx
           subst this;show#[_,_,hi,rfl,by lia]
         |false=>
           rw[hx]at e;let#[kk,ps,h1,h2,h3]:=F x n fn e;show#[kk,ps,h1,h2,by lia]
        .let#[kk,ps,h1,h2,h3]:=B2.ms x n fn e;show#[kk,ps,h1,h2,by lia]
        .let#[y,g,fd,ps,kk,M,G,b,h3]:=B2.mc x f m e;show#[y,g,fd,ps,kk,M,G,b,by lia]
     refine#[eU r+12+1,a4▸hg 12,?_];change _<=eU r+(if f.b 8 then 13 else 2);rw[a1,if_pos rfl]
     lia
    .rw[a1]at sQ;cases sQ
   refine#[λg m=>?_,B2.cls,B2.na,λx n fn e=>?_,λx fl m e=>?_]
   .rcases a9.mp m with rfl|m
    .show main
    .let#[kk,h1,h2]:=ih g m;show#[kk,h1,by lia]
   .refine iz (P:=λx (p:Nat×(List W->List Bx->O W))=>∃ kk ps,E3 P w K mg base cl t.C kk x ps p.2 /\ ps.length=p.1 /\ kk<=eU (f::r)) (l:=yt (f::r)) (λp m=>?_) e;let#[g,wq,rfl]:=bc.mp m;let#[wq,nb]:=List.mem_filter.mp wq;rw[aH,kL]at nb;have key:∃ kk,wo P w K mg base cl t.C kk g /\ kk<=eU (f::r):=by
     rcases a9.mp wq with rfl|mm
     .show main
     .let#[kk,h1,h2]:=ih g mm;show#[kk,h1,by lia]
    let#[kk,h1,h2]:=key;unfold wo at h1;rw[nb.2,if_neg (by decide),if_pos nb.1]at h1;show#[kk,g.ps,h1,rfl,h2]
   .unfold Hr at e;split at e
    .ext sQ;cases e;rcases o6 with a|⟨⟨i1,i2⟩,i3⟩
     .rw[a]at sQ;cases sQ
     have yu:=i1;unfold Qc at yu;split at yu
     case h_2=>cases yu
     ext s p1 n p2 p3 p4 el;erw[aH,decide_eq_true_eq]at yu;have af9:t.fl≠[]:=λz=>by have:=yu.1.1.1.1.1.1.1.2;rw[z]at this;cases this
     let#[cc,mm,aga,agb]:=B.cls af9;unfold wm at df;rw[sQ,XR,if_pos rfl]at df;let#[fa,fd,q,Fu,hm,hb]:=df;refine#[mm,fa,fd,f.ps,eU r+1,#[aga,yu.2▸hm.at_,hm.fn,agb],MP B Fu o1 i1 i2 i3 F #[B2.cls,B2.na,B2.ms,λx f m e=>nomatch e],hb,by lia]
    .let#[y,g,fd,ps,kk,M,G,b,h3]:=B2.mc x fl m e;show#[y,g,fd,ps,kk,M,G,b,by lia]
end
noncomputable def abx (o:Obj):Bool:=match o.cls with|.type n=>n == "list"|_=>af
def WR (K:PySem.W.Frag):Bool:=K.all λp=>!abx p.2
theorem Jf {K}(h:WR K=ag) (e:K.lookup a=ae o):o.cls≠.type "list":=by
 intro c;unfold WR at h;rw[cb]at h;have m:(a,o)∈K:=by
  clear h;induction K with
  |nil=>cases e
  |cons p K ih=>
    rw[eX]at e;cases q:a==p.1 with
    |true=>
      rw[q]at e;cases e;have:a=p.1:=by simpa using q
      subst this;show bM ..
    |false=>
      rw[q]at e;show bC _<|ih e
 have:=h _ m;simp[abx,c]at this
noncomputable def tys:List String:=["NoneType","bool","int","str","tuple","list","dict"]
def Qg (K:PySem.W.Frag):Bool:=tys.all λS=>["int","bool","tuple","list","str"].all λT=>PySem.W.kitOne K (.type S) (.type T)==ae (sr S T)
theorem AH {K}(h:Qg K=ag) (m:T∈["int","bool","tuple","list","str"]):pU K T:=by
 intro d;unfold Qg at h;rw[cb]at h;have m1:pT d∈tys:=by cases d<;>simp[pT,tys]
 have z:=h _ m1;rw[cb]at z;show beq_iff_eq.mp<|z _ m
theorem SO {K:PySem.W.Frag}{st}{kV}(X:K.In h) (G:h.Ns mainGlobals mg)
 (a:PySem.W.nsIn K mainGlobals x=ae (ae<|.ref f)) (l:K.lookup f=ae #[oc,od,.func<|PySem.W.fnOf x x (gX st) (gf st) (fG st) .none kV doc pm an cdv ct,pL])
 (c:PySem.W.codeIn K cdv x=ag) (k:PySem.W.keepIn K (.ref f)=ag) (hb:∀ fd,dU K x x st f fd->Binds K fd ps []):Def K mg x st ps:=
 #[f,_,Bw l c k,PySem.W.mg_of X G a,hb _<|Bw l c k]
theorem SQ {l:PySem.W.OpenLaw}{K:PySem.W.Frag}{st:bJ}(cl:Nat->ai) (yx:mg "law"=ae (.ref fa)) (D:Def K mg "law" st ["_law_script"])
 (hB:∀ (fd:FuncData) (f:ai),dU K "law" "law" st f fd->∀ (s:aI) (u:au),BindsTo s fd #[[u],[]] [("_law_script",u)])
 (H:∀ base:aK,K.In base->base.Ns mainGlobals mg->rf l.prog w K mg base cl k "law" ["_law_script"] fn) :
 ∃ (cl:Nat->ai) (fd:FuncData),(∀ (s:aI) (u:au),BindsTo s fd #[[u],[]] [("_law_script",u)]) /\ ∀ base:aK,K.In base->base.Ns mainGlobals mg->cP l.prog w K mg base (dn l.prog w) k fa fd ["_law_script"] (qQ cl 1 fn):=by
 let#[f,fd,F,hm,_]:=D;rw[yx]at hm;cases hm;refine#[cl,fd,hB fd fa F,λbase hK hN=>?_];let#[f',ahD,ok,aby,_,_,o,hl,hd]:=H base hK hN;rw[yx]at aby;cases aby;let#[o2,se,hd2]:=F.obj;rw[hl]at se;cases se;rw[hd]at hd2;cases hd2;show ok
open PySem.W in
def Qh (K:Frag) (R C:ai):Bool:=excIn K C Vs "ValueError.__new__"&&(findIn K (.ref C) "__getattribute__"==ae (ae<|.builtin "BaseException.__getattribute__"))&&(findIn K (.ref C) "__getattr__"==ae ah) &&
 (findIn K (.ref C) "__class__"==ae (ae<|.builtin "object.__class__"))&&(mroIn K C (.type "object")==ae ag)&&(mroIn K C (.type "BaseException")==ae ag)&&(clsIn K C).isSome&&(kitOne K (.ref C) (.type "ValueError")==ae ag)&&(kitCls K (.ref C) (.ref R)==ae ag)
open PySem.W in
noncomputable def WS (K:Frag) (cs:List ai):Bool:=(List.range 17).all λi=>(List.range 17).all λj=>kitOne K (.ref<|cs.getD i 0) (.ref<|cs.getD j 0)==ae (decide (i=j))
open PySem.W in
noncomputable def WT (K:Frag) (R:ai):Bool:=(mroIn K R (.type "BaseException")==ae ag)&&(specialIn K (.builtin "object.__class__") "__get__"==ae (ae<|.builtin "getset_descriptor.__get__"))&&(takesIn K (.builtin "object.__class__")==ae ag)
theorem MQ {l:List ai}(h:i<l.length):l.getD i 0∈l:=by
 rw[List.getD,cW h];show yH h
open PySem.W in
theorem SR {K:Frag}(X:K.In h) (G:h.Ns mainGlobals mg) (hl:cs.length=17) (eR:nsIn K mainGlobals "RimeError"=ae (ae<|.ref R))
 (e:∀ i x,EX[i]?=ae x->nsIn K mainGlobals x=ae (ae<|.ref<|cs.getD i 0)) (zi:nsIn K mainGlobals "isinstance"=ae ah) (zv:nsIn K mainGlobals "ValueError"=ae ah)
 (h1:cs.all (Qh K R)=ag) (h2:WS K cs=ag) (h3:WT K R=ag):kS K mg R (λi=>cs.getD i 0):=by
 unfold WT at h3;simp[aH,beq_iff_eq]at h3;let#[#[q1,q3],q4]:=h3;have hc:∀ i,i<17->Qh K R _=ag:=λi hi=>by
  rw[cb]at h1;show h1 _<|MQ (by rw[hl];show hi)
 erw[Qh,aH,beq_iff_eq]at hc;refine#[λi x hx=>mg_of X G<|e i x hx,mg_of X G eR,UG X G zi,UG X G zv,λi hi=>(hc i hi).1.1.1.1.1.1.1.1,λi hi=>?_,λi j hi hj=>?_,λi hi=>(hc i hi).1.2,λi hi=>(hc i hi).2,q1]
 .let#[#[#[#[#[#[#[#[_,y2],y3],y4],y5],y6],y7],_],_]:=hc i hi;show#[y2,y3,y4,q3,q4,y5,y6,y7]
 .unfold WS at h2;rw[cb]at h2;have z:=h2 i<|List.mem_range.mpr hi;rw[cb]at z;show beq_iff_eq.mp<|z j<|List.mem_range.mpr hj
noncomputable def WU (K:Frag) (bl:List Str):Bool:=bl.all λx=>match nsIn K mainGlobals x with|some ah=>ag|_=>af
noncomputable def Qi (K:Frag) (gl:List<|Str×Int):Bool:=gl.all λp=>match nsIn K mainGlobals p.1 with|some (ae<|.int v _)=>v==p.2|_=>af
theorem MR {K:Frag}(X:K.In h) (G:h.Ns mainGlobals mg) (c:Qi K gl=ag):∀ x v,gl.lookup x=ae v->∃ u,mg x=ae (.int v u):=λx v e=>by
 unfold Qi at c;rw[cb]at c;refine iz (P:=λx (v)=>∃ u,mg x=ae (.int v u)) (λp m=>?_) e;have z:=c p m;split at z
 .next v u e=>
  have:v=p.2:=by simpa using z
  subst this;show#[u,mg_of X G e]
 .cases z
theorem T4 {K:Frag}(X:K.In h) (G:h.Ns mainGlobals mg) (z:WU K t.bl=ag) (g:Qi K t.gl=ag) (y:Qg K=ag)
 (e:ex=ag->∃ R,kS K mg R cl) (hw:tr=ag->EY P w K mg base cl) (na:(t.fl.all λf=>findIn K (.ref t.C) f==ae ah)=ag) (c:t.fl≠[]->kB K t.C /\ nsIn K mainGlobals t.cn=ae (ae<|.ref t.C) /\ makesIn K t.C=ag /\ keepIn K (.ref t.C)=ag):Qd P w K mg base cl t ex tr:=
 #[MR X G g,(λX G c=>λx m=>by
  unfold WU at c;rw[cb]at c;have z:=c x m;split at z
  .next e=>show UG X G e
  .cases z) X G z,AH y (by simp),AH y (by simp),AH y (by simp),AH y (by simp),AH y (by simp),e,hw,λf m=>beq_iff_eq.mp<|cb.mp na f m,λz=>#[(c z).1,mg_of X G (c z).2.1,(c z).2.2]]
theorem O2 {l:PySem.W.OpenLaw}{K}{st} (cl) (yx:mg "law"=ae (.ref fa)) (D:Def K mg "law" st ["_law_script"])
 (hB:∀ (fd:FuncData) (f:ai),dU K "law" "law" st f fd->∀ (s:aI) (u:au),BindsTo s fd #[[u],[]] [("_law_script",u)])
 (H:∀ base:aK,K.In base->base.Ns mainGlobals mg->∃ kk,rf l.prog w K mg base cl kk "law" ["_law_script"] fn /\ kk<=k) :
 ∃ (cl:Nat->ai) (fd:FuncData),(∀ (s:aI) (u:au),BindsTo s fd #[[u],[]] [("_law_script",u)]) /\ ∀ base:aK,K.In base->base.Ns mainGlobals mg->cP l.prog w K mg base (dn l.prog w) k fa fd ["_law_script"] (qQ cl 1 fn):=
 SQ cl yx D hB λbase a b=>by
  let#[kk,#[f,fd,ok,r],le]:=H base a b;show#[f,fd,ok.mono le,r]
def Hu (K:Frag) (x:Str) (st:bJ):zb:=∃ (f:ai) (oc:au) (od:Option ai) (kV dc pm:au) (an:Option ai) (cd ct:au) (sl:Array _),nsIn K mainGlobals x=ae (ae<|.ref f) /\
 K.lookup f=ae #[oc,od,.func<|fnOf x x (gX st) (gf st) (fG st) .none kV dc pm an cd ct,sl] /\ codeIn K cd x=ag /\ keepIn K (.ref f)=ag
theorem dIn_mk {K}{st}{kV}(a:nsIn K mainGlobals x=ae (ae<|.ref f))
 (l:K.lookup f=ae #[oc,od,.func<|fnOf x x (gX st) (gf st) (fG st) .none kV dc pm an cd ct,sl]) (c:codeIn K cd x=ag) (k:keepIn K (.ref f)=ag):Hu K x st:=#[f,oc,od,kV,dc,pm,an,cd,ct,sl,a,l,c,k]
noncomputable def WV (a:Arguments) (ps:List Str):Bool:=a.posonlyargs.isEmpty&&a.vararg.isNone&&a.kwonlyargs.isEmpty&&a.kwarg.isNone&&decide (a.args.map (·.arg)=ps)&&decide ps.Nodup
theorem Ab {β:Type}{f g:Str->Option β}:∀ {l:List Str},(∀ n∈l,f n=g n)->l.filterMap f=l.filterMap g:=by
 intro l_;induction l_ with
 |nil=>show λ_=>rfl
 |cons n l aA=>(intro h;rw[qg,qg,h n<|bM ..,aA λm q=>h m<|bC _ q])
theorem C6:∀ {ps:List Str}{us:List au},us.length=ps.length->ps.Nodup->(∀ n∈ps,((ps.zip us).lookup n).isNone=af) /\ ps.filterMap (λn=>((ps.zip us).lookup n).map (n,·))=ps.zip us
 |[],_,_,_=>#[(λ_ h=>nomatch h),rfl]
 |p::ps,[],h,_=>by cases h
 | p::ps,u::us,h,nd=>by
   let#[n1,n2]:=rO.mp nd;let#[a,b]:=C6 (by simpa using h) n2;have ne:∀ n∈ps,(n==p)=af:=λn m=>beq_eq_false_iff_ne.mpr λz=>n1<|z▸m;refine#[λn m=>?_,?_]
   .rw[qi,eX];cases q:n==p with
    |true=>rfl
    |false=>
      rcases a9.mp m with z|z
      .rw[z]at q;simp at q
      .show a n z
   .rw[qi,List.filterMap_cons_some (b:=(p,u)) (by simp)];congr 1;show Eq.trans (Ab λn m=>by rw[eX,ne n m]) b
theorem AI (h:WV a ps=ag) (kV doc pm) (an) (cdv ct) (us) (hl:us.length=ps.length) :
 bindArgs (fnOf x y a b sc .none kV doc pm an cdv ct) #[us,[]]=pure (ps.zip us):=by
 let#[po,ar,va,ko,kd,kw,df]:=a;erw[WV,aH,decide_eq_true_eq,List.isEmpty_iff,Option.isNone_iff_eq_none]at h;let#[#[#[#[#[rfl,rfl],rfl],rfl],rfl],nd]:=h;let#[z1,z2]:=C6 hl nd;erw[bindArgs];have m0:∀ l:List Str,(∀ n∈l,n∈ar.map (·.arg))->l.filter (λn=>(((ar.map (·.arg)).zip us).lookup n).isNone)=[]:=λl h=>List.filter_eq_nil_iff.mpr λn m=>by rw[z1 n<|h n m];decide
 have n0:(do notAStandIn Value.none;pure (ah:Option<|Array au))=pure ah:=rfl;erw[QO,vo,rL,yI,pure_bind,seqItems?,n0,hl,eW,decide_false,pD,wJ,if_false,QU,List.drop_nil,nW,HR,rN,List.drop_length,Ya,m0 _ λ_ h=>h,List.isEmpty_nil,Bool.not_true,z2]
def Hv (K:Frag) (C:ai) (x:Str) (st:bJ):zb:=∃ (q:Str) (f:ai) (oc:au) (od:Option ai) (kV dc pm:au) (an:Option ai) (cd ct:au) (sl:Array _),findIn K (.ref C) x=ae (ae<|.ref f) /\ isFn K (.ref f)=ag /\
 K.lookup f=ae #[oc,od,.func<|fnOf x q (gX st) (gf st) (fG st) .none kV dc pm an cd ct,sl] /\ codeIn K cd q=ag /\ keepIn K (.ref f)=ag
theorem dInM_mk {K}{st}{kV}(a:findIn K (.ref C) x=ae (ae<|.ref f)) (i:isFn K (.ref f)=ag)
 (l:K.lookup f=ae #[oc,od,.func<|fnOf x q (gX st) (gf st) (fG st) .none kV dc pm an cd ct,sl]) (c:codeIn K cd q=ag) (k:keepIn K (.ref f)=ag):Hv K C x st:=#[q,f,oc,od,kV,dc,pm,an,cd,ct,sl,a,i,l,c,k]
def AllIn (K:Frag) (C:ai):List FI->zb
 |[]=>True
 |f::r=>(if (f.b 16||f.b 32)=ag then Hv K C f.x f.st else Hu K f.x f.st) /\ AllIn K C r
theorem abz {K:Frag}(X:K.In h) (G:h.Ns mainGlobals mg):∀ {l},AllIn K C l->(l.all λf=>WV (gX f.st) f.ps)=ag->∀ f∈l,wm K mg C f
 |[],_,_=>λ_ m=>nomatch m
 | g::r,d,q=>λf m=>by
   rw[nE,aH]at q;rcases a9.mp m with rfl|m
   .have d1:=d.1;unfold wm;split at d1
    .ext b;rw[if_pos b];let#[qn,fa,oc,od,kV,dc,pm,an,cd,ct,sl,a,i,l,c,k]:=d1;have F:=Bw l c k;show#[fa,_,qn,F,#[a,i,k],F.binds<|AI q.1]
    .ext b;rw[if_neg b];let#[f,oc,od,kV,dc,pm,an,cd,ct,sl,a,l,c,k]:=d1;show SO X G a l c k λfd F=>F.binds<|AI q.1
   .show abz X G d.2 q.2 f m
section
variable {K:Frag}
abbrev DX (K:Frag) (C:ai) (f:FI):zb:=if (f.b 16||f.b 32)=ag then Hv K C f.x f.st else Hu K f.x f.st
theorem Uv (h:(f.b 16||f.b 32)=af) (d:Hu K f.x f.st):DX K C f:=by unfold DX;rw[if_neg (by rw[h];decide)];show d
theorem Uw (h:(f.b 16||f.b 32)=ag) (d:Hv K C f.x f.st):DX K C f:=by unfold DX;rw[if_pos h];show d
end
noncomputable def Hw (K:Frag) (C:ai):List (Bool×Str×bJ)->zb
 |[]=>True
 |(af,x,st)::r=>Hu K x st /\ Hw K C r
 |(ag,x,st)::r=>Hv K C x st /\ Hw K C r
def FI.key (f:FI):Bool×Str×bJ:=(f.b 16||f.b 32,f.x,f.st)
theorem O3 {K}:∀ {r},Hw K C (r.map FI.key)->AllIn K C r:=by
 intro l_;induction l_ with
 |nil=>show λ_=>trivial
 |cons f r aA=>
   intro h;have h:Hw K C (f.key::r.map FI.key):=h;unfold FI.key at h;cases a:f.b 16||f.b 32 with
   |true=>rw[a]at h;show#[Uw a h.1,aA h.2]
   |false=>rw[a]at h;show#[Uv a h.1,aA h.2]
theorem walk_o {l:PySem.W.OpenLaw}{K:Params->PySem.W.Frag}{fn:ai->List W->List Bx->O W}(hk:bH k callerA) (hn:l.most=ae 63) (Vl:d.params.defaults=[])
 (hY:∀ (w:cg) (h:aK),YP w h->(K w.params).In h) (nl:∀ w:cg,WR (K w.params)=ag) (hf:∀ (C:ai) (ns:List Int),ns.length<=63->∃ bx',fn C [.s ns] []=.val (.d<|.bl ag) bx')
 (F:∀ (w:cg) (mg:Str->Option au) (fa:ai) (h:aK),(K w.params).In h->h.Ns mainGlobals mg->mg d.name=ae (.ref fa) ->
  ∃ (C:ai) (cl:Nat->ai) (fd:FuncData),(∀ (s:aI) (u:au),BindsTo s fd #[[u],[]] [("_law_script",u)]) /\ ∀ base:aK,(K w.params).In base->base.Ns mainGlobals mg->cP l.prog w (K w.params) mg base (dn l.prog w) k fa fd ["_law_script"] (qQ cl 1<|fn C)) :
 PySem.W.WalkO q loose XP YP l.row.toRowW d [] (λf vs=>PySem.call f vs):=by
 refine ZL.adg hn Vl λw s0 s1 mg mb fa o pm cd doc a vs ns G Y ho hd dj hmg Vm hints hlen hg=>?_;have KX:=hY w _ Y;let#[C,cl,fd,hb,hF]:=F w mg fa _ KX G.T.g hmg;show JH KX G.T.g G.T.b G.T.builtins G.T.nolimit hg Vm hints (cu hlen (by decide)) hk hF hb (λH hO hS=>(λnl hO hS hf=>by
  rcases hS with hS|⟨o,its,n,e1,e2,_⟩
  .rcases hS with hS|⟨o,hS⟩
   .rcases hO a with z|⟨o,xs,z⟩
    .rw[hS]at z;cases z
    .rw[hS]at z;cases z
   .let#[bx',hf]:=hf;refine#[H,[],[.s ns],[],#[Sub.refl H,λi w e=>by simp at e,rfl,.nil,λn c a e=>by simp,λa u e _=>e,λn a _ e=>by simp at e,aB _,aB _,λa u e=>.inr<|.inl e],#[.ref a,[],rfl,#[a,o,rfl,hS],rfl],rfl,?_];rw[hf];intro F' r' v H' _ _ d;show d
  .show absurd e2 (Jf nl e1)) (nl w) hO hS<|hf C ns hlen) λH e s' z=>by
  let#[_,_,_,_,_,_,_,_,_,_,_,_,_,z]:=z;show z
end L2.DL
namespace K13
open L2 L2.DL
noncomputable section
def top (i:Nat):bJ:=PySem.Challenge.pw_rimehold_k13_what_are_no_pages.main.body.getD i<|.Pass #[0,0,0,0]
noncomputable def tx (C:ai):Tx:=#["_law_script",[("COLDEST",3),("MOST_PAGES",16),("LAST_LOT",9)],["all","bool","int","isinstance","len","list","max","min","range","repr","set","sorted","str","tuple","zip"],C,["dark_hours","earlier","home","kept"], "Ledger","earlier"]
noncomputable def r0 (C:ai):List FI:=[]
def r1 (C:ai):List FI:=#["_law_pot",["_law_cell"],["_law_cell","_law_number","_law_j","_law_more"],[],[],[],1,top 57,K1.jC]::r0 C
def r2 (C:ai):List FI:=#["_law_take",["_law_pot_here","_law_far"],["_law_pot_here","_law_far","_law_found"],[],[],[],0,top 58,K1.fk]::r1 C
def r3 (C:ai):List FI:=#["_law_kind_of",["_law_pot_here"],["_law_pot_here","_law_top","_law_rates"],[],[],[],0,top 64,K1.g9]::r2 C
def r4 (C:ai):List FI:=#["_law_house",["_law_pot_here"],["_law_pot_here","_law_rooms","_law_kinds","_law_pairs","_law_other"],[],[],[],0,top 65,aJ.iM]::r3 C
def r5 (C:ai):List FI:=#["_law_odd",["_law_pot_here"],["_law_pot_here","_law_some"],[],[],[],0,top 62,K1.fS]::r4 C
def r6 (C:ai):List FI:=#["_law_whole",["_law_thing"],["_law_thing"],[],[],[],0,top 59,K1.gD]::r5 C
def r7 (C:ai):List FI:=#["_law_bent",["_law_pot_here","_law_thing"],["_law_pot_here","_law_thing","_law_way","_law_at"],[],[],[],8,top 63,K1.gJ 12]::r6 C
def r8 (C:ai):List FI:=#["_law_odd_pages",["_law_pot_here","_law_house_here"],["_law_pot_here","_law_house_here","_law_rooms","_law_kinds","_law_page_here","_law_found","_law_bad"],["_law_found"],[],[],0,top 74,K13.KI]::r7 C
def r9 (C:ai):List FI:=#["_law_cell_at",["_law_script","_law_k"],["_law_script","_law_k"],[],[],[],0,top 56,K1.g6]::r8 C
def VL (C:ai):List FI:=#["_law_mixed",["_law_pot_here","_law_some"],["_law_pot_here","_law_some","_law_left"],["_law_left"],[],[],0,top 61,aJ.jF]::r9 C
def agc (C:ai):List FI:=#["_law_page",["_law_pot_here","_law_house_here","_law_near"],["_law_pot_here","_law_house_here","_law_near","_law_hour","_law_lot","_law_room","_law_way","_law_ripe"],[],[],[],0,top 66,aJ.iF]::VL C
def agd (C:ai):List FI:=#["_law_pages",["_law_pot_here","_law_house_here","_law_most","_law_near"],["_law_pot_here","_law_house_here","_law_most","_law_near","_law_found","_law_turn","_law_page_here"],["_law_found"],[],[("_law_found",3)],0,top 67,aJ.iN]::agc C
def age (C:ai):List FI:=#["is_tuple",["thing","fewest","most"],["thing","fewest","most"],[],[],[],0,top 24,K1.gC]::agd C
def agf (C:ai):List FI:=#["is_whole",["thing"],["thing"],[],[],[],0,top 21,K1.iZ]::age C
def agg (C:ai):List FI:=#["is_within",["thing","least","greatest"],["thing","least","greatest"],[],[],[],0,top 22,K1.gk]::agf C
def agh (C:ai):List FI:=#["are_rooms",["thing"],["thing"],[],[],[],0,top 30,K1.jy]::agg C
def agi (C:ai):List FI:=#["are_rates",["thing"],["thing"],[],[],[],0,top 33,K1.jz]::agh C
def agj (C:ai):List FI:=#["is_kind",["thing"],["thing"],[],[],[],0,top 32,K1.lL]::agi C
def agk (C:ai):List FI:=#["are_kinds",["thing"],["thing"],[],[],[],0,top 31,K1.jA]::agj C
def agl (C:ai):List FI:=#["is_rising",["things"],["things"],[],[],[],0,top 25,K1.gZ]::agk C
def agm (C:ai):List FI:=#["is_pair_apart",["thing","many"],["thing","many"],[],[],[],0,top 35,K1.iq]::agl C
def agn (C:ai):List FI:=#["are_apart",["thing","many"],["thing","many"],[],[],[],0,top 34,K1.jB]::agm C
def ago (C:ai):List FI:=#["is_house",["thing"],["thing","rooms","kinds","apart","hold"],[],[],[],0,top 29,K1.j5]::agn C
def agp (C:ai):List FI:=#["need_house",["thing"],["thing"],[],[],[],0,top 36,bR.iA]::ago C
def agq (C:ai):List FI:=#["__init__",["self","house"],["self","house"],[],[],[],32,inClass (top 53) 0,K13.afH C]::agp C
def agr (C:ai):List FI:=#["_law_within",["_law_thing","_law_low","_law_high"],["_law_thing","_law_low","_law_high"],[],[],[],0,top 60,K1.gm]::agq C
def ags (C:ai):List FI:=#["_law_is_hour",["_law_thing"],["_law_thing"],[],[],[],0,top 68,K2.ia]::agr C
def agt (C:ai):List FI:=#["_law_is_page",["_law_house_here","_law_thing"],["_law_house_here","_law_thing"],[],[],[],0,top 69,K13.uS]::ags C
def agu (C:ai):List FI:=#["_law_are_pages",["_law_house_here","_law_thing"],["_law_house_here","_law_thing"],[],[],[],0,top 70,K13.sM]::agt C
def agv (C:ai):List FI:=#["pages",["self"],["self"],[],[],[],16,inClass (top 53) 8,K13.E9 C]::agu C
def agw (C:ai):List FI:=#["greatest_parts",["house","word"],["house","word","last_kind","last_room"],[],[],[],0,top 41,aJ.ic]::agv C
def agx (C:ai):List FI:=#["is_hour",["thing"],["thing"],[],[],[],0,top 23,K2.iS]::agw C
def agy (C:ai):List FI:=#["is_page",["house","thing"],["house","thing","greatest"],[],[],[],0,top 42,aJ.ir]::agx C
def agz (C:ai):List FI:=#["are_pages",["house","thing"],["house","thing"],[],[],[],0,top 43,aJ.gn]::agy C
def agA (C:ai):List FI:=#["need_pages",["house","thing"],["house","thing"],[],[],[],2,top 44,K13.Ha]::agz C
def agB (C:ai):List FI:=#["room_entered",["page"],["page"],[],[],[],0,top 48,aJ.fZ]::agA C
def agC (C:ai):List FI:=#["may_share",["house","kind","other"],["house","kind","other"],[],[],[],0,top 37,aJ.iO]::agB C
def agD (C:ai):List FI:=#["word_for",["house","kinds","rooms","page"],["house","kinds","rooms","page","deed","lot","room","kind","neighbours"],[],["kinds","rooms"],[],0,top 49,aJ.i0]::agC C
def agE (C:ai):List FI:=#["read",["house","pages"],["house","pages","told","kinds","rooms","page","lot","word"],["kinds","rooms","told"],["kinds","rooms"],[],0,top 47,aJ.oI]::agD C
def agF (C:ai):List FI:=#["outcomes",["house","pages"],["house","pages"],[],[],[],2,top 45,K13.V0]::agE C
def agG (C:ai):List FI:=#["need_hour",["thing"],["thing"],[],[],[],2,top 26,K2.jD]::agF C
def agH (C:ai):List FI:=#["rooms_behind",["steps","hour"],["steps","hour","rooms","page","left","entered"],["rooms"],["rooms"],[],0,top 51,kG.iH]::agG C
def agI (C:ai):List FI:=#["steps_taken",["house","pages"],["house","pages"],[],[],[],0,top 50,kG.iT]::agH C
def agJ (C:ai):List FI:=#["places",["house","pages","hour"],["house","pages","hour","rooms"],[],[],[],2,top 46,K13.V1]::agI C
def agK (C:ai):List FI:=#["_law_told",["_law_way","_law_house_here","_law_thing"],["_law_way","_law_house_here","_law_thing","_law_e"],[],[],[],4,top 72,K13.Hb]::agJ C
def agL (C:ai):List FI:=#["need_page",["self","page"],["self","page"],[],[],[],18,inClass (top 53) 15,K13.KL C]::agK C
def agM (C:ai):List FI:=#["keep",["self","pages","outs"],["self","pages","outs"],[],[],[],16,inClass (top 53) 16,K13.KN C]::agL C
def agN (C:ai):List FI:=#["tell",["self","page"],["self","page"],[],[],[],18,inClass (top 53) 1,K13.Hc C]::agM C
def agO (C:ai):List FI:=#["without",["things","thing"],["things","thing"],[],[],[],0,top 54,K13.V2]::agN C
def agP (C:ai):List FI:=#["strike",["self","page"],["self","page"],[],[],[],18,inClass (top 53) 2,K13.Hd C]::agO C
def agQ (C:ai):List FI:=#["_law_met",["_law_book","_law_way","_law_thing"],["_law_book","_law_way","_law_thing","_law_e"],[],[],[],4,top 73,K13.sN C]::agP C
def iL (C:ai):FI:=#["law",["_law_script"],["_law_script","_law_k","_law_pot_here","_law_house_here","_law_some","_law_book","_law_bad","_law_at","_law_kept","_law_thing","_law_due","_law_long"],[],[],[],0,top 75,K13.fn_law C]
def Qj (C:ai):List FI:=iL C::agQ C
theorem SS (C):Qe (tx C) ag ag (Qj C)=ag:=by kernel_rfl
end
end K13
namespace K13.Wd
open L2 L2.DL PySem.W
abbrev uc:bJ:=PySem.Challenge.pw_rimehold_k13_what_are_no_pages.main.body.getD 71<|.Pass #[0,0,0,0]
theorem MS (h:H l=ah):eJ H (upd H l o):=λb u e=>by rw[fv<|fI e h];show e
noncomputable def ud (i n:Nat):List V:=(List.range n).map λj=>V.bl<|decide (i=j)
theorem C7 (i n):(ud i n).all eI=ag:=by
 rw[cb];intro x hx;let#[j,_,rfl]:=bc.mp hx;rfl
theorem Jg:∀ i,i<17->(ud i 17).countP (λz=>d8 z<|.bl ag)=1:=by decide
theorem SU:∀ i,i<17->(ud i 17)[i]?=ae (.bl ag):=by decide
theorem SV:∀ i,i<17->∀ m,m<i->(ud i 17)[m]?=ae (.bl af):=by decide
theorem yy:qI ["_law_e","_law_some","_law_words"] ["_law_e"] (fG uc):=#[rfl,rfl,rfl,by decide +kernel,rfl,by decide +kernel,by decide +kernel]
def dz (i:Nat):bJ:=(gf uc).getD i<|.Pass #[0,0,0,0]
theorem DZ (es) (p pos') (line):swapsWith (.List es p) (ae<|.Name x pos') line env=pure af:=by rfl
section
variable {K:Frag}
abbrev XW (P:cS) (w:cg) (K:Frag) (mg:Str->Option au) (base:aK) (f:ai) (cdv:au) (A:di) (outer:List Env) (s:aI) (H:Hp) (E:XK):Cx:=(Kd qK P w K mg base ["_law_e","_law_some","_law_words"] "_law_word" (fG uc) f cdv A outer s H E).sZ
theorem iE (s:eJ H0 H) (h:H0 l=ah):eJ H0 (upd H l o):=λb u e=>by rw[fv<|fI e h];show s b u e
theorem w0 (T:kS K mg R c) (hi:i<17) (ha:H0 a=ae (.ext (kC a<|c i))):∃ t,PS (XW P w K mg base f cdv A outer s Hx E) (dz 0) t /\ ∀ D,
 (∀ l H',H0 l=ah->eJ H0 H'->H' l=ae (.lst [.bl<|decide (i=0),.bl<|decide (i=1),.bl<|decide (i=2),.bl<|decide (i=3)])->D.nx [ae<|.ref a,ae<|.ref l,ah] H')->t D [ae<|.ref a,ah,ah] H0:=#[_,mF (i:=1) yy.nd za (Or.inl za)<|jQ<|fA (fV fU (by rfl) T.inst ku<|fA (pv 0)<|fA (gq (v:=.ref<|c 0) za (T.m 0 _ za) za) fR)<|fA (fV fU (by rfl) T.inst ku<|fA (pv 0)<|fA (gq (v:=.ref<|c 1) za (T.m 1 _ za) za) fR)<|fA (fV fU (by rfl) T.inst ku<|fA (pv 0)<|fA (gq (v:=.ref<|c 2) za (T.m 2 _ za) za) fR)<|fA (fV fU (by rfl) T.inst ku<|fA (pv 0)<|fA (gq (v:=.ref<|c 3) za (T.m 3 _ za) za) fR) fR,λD k=>(#[_,rfl,_,_,_,_,_,rfl,.exc ha<|T.ek i hi,rfl,T.kt i 0 hi (by decide),_,rfl,_,_,_,_,_,rfl,.exc ha<|T.ek i hi,rfl,T.kt i 1 hi (by decide),_,rfl,_,_,_,_,_,rfl,.exc ha<|T.ek i hi,rfl,T.kt i 2 hi (by decide),_,rfl,_,_,_,_,_,rfl,.exc ha<|T.ek i hi,rfl,T.kt i 3 hi (by decide),by change 4<=sizeLine;decide,λl n=>k l _ n (MS n) fu])]
theorem w1 (T:kS K mg R c) (hi:i<17) (ha:H0 a=ae (.ext (kC a<|c i))):∃ t,PS (XW P w K mg base f cdv A outer s Hx E) (dz 1) t /\ ∀ D H l xs,eJ H0 H->H0 l=ah->H l=ae (.lst xs)->xs.length<=100 ->
 (∀ p H',H0 p=ah->eJ H0 H'->H' p=ae (.lst<|xs++[.bl<|decide (i=4),.bl<|decide (i=5),.bl<|decide (i=6),.bl<|decide (i=7)])->D.nx [ae<|.ref a,ae<|.ref p,ah] H')->t D [ae<|.ref a,ae<|.ref l,ah] H:=by
 refine#[_,mF (i:=1) yy.nd za (Or.inl za)<|Cc o8 (pv 1)<|jQ<|fA (fV fU (by rfl) T.inst ku<|fA (pv 0)<|fA (gq (v:=.ref<|c 4) za (T.m 4 _ za) za) fR)<|fA (fV fU (by rfl) T.inst ku<|fA (pv 0)<|fA (gq (v:=.ref<|c 5) za (T.m 5 _ za) za) fR)<|fA (fV fU (by rfl) T.inst ku<|fA (pv 0)<|fA (gq (v:=.ref<|c 6) za (T.m 6 _ za) za) fR)<|fA (fV fU (by rfl) T.inst ku<|fA (pv 0)<|fA (gq (v:=.ref<|c 7) za (T.m 7 _ za) za) fR) fR,λD H l xs sm hn hl hx k=>?_];have pB:=sm _ _ ha;refine#[_,rfl,_,rfl,_,_,_,_,_,rfl,.exc pB<|T.ek i hi,rfl,T.kt i 4 hi (by decide),_,rfl,_,_,_,_,_,rfl,.exc pB<|T.ek i hi,rfl,T.kt i 5 hi (by decide),_,rfl,_,_,_,_,_,rfl,.exc pB<|T.ek i hi,rfl,T.kt i 6 hi (by decide),_,rfl,_,_,_,_,_,rfl,.exc pB<|T.ek i hi,rfl,T.kt i 7 hi (by decide),by change 4<=sizeLine;decide,λl2 n2=>?_];refine#[l,l2,xs,_,rfl,rfl,by rw[fv<|fI hl n2];show hl,fu,IX (by simp;lia) |> kK,λp np=>?_];have s2:=iE (o:=.lst [.bl<|decide (i=4),.bl<|decide (i=5),.bl<|decide (i=6),.bl<|decide (i=7)]) sm<|sm.free n2;have mp:H0 p=ah:=s2.free np;show k p _ mp (iE s2 mp) fu
theorem w2 (T:kS K mg R c) (hi:i<17) (ha:H0 a=ae (.ext (kC a<|c i))):∃ t,PS (XW P w K mg base f cdv A outer s Hx E) (dz 2) t /\ ∀ D H l xs,eJ H0 H->H0 l=ah->H l=ae (.lst xs)->xs.length<=100 ->
 (∀ p H',H0 p=ah->eJ H0 H'->H' p=ae (.lst<|xs++[.bl<|decide (i=8),.bl<|decide (i=9),.bl<|decide (i=10),.bl<|decide (i=11)])->D.nx [ae<|.ref a,ae<|.ref p,ah] H')->t D [ae<|.ref a,ae<|.ref l,ah] H:=by
 refine#[_,mF (i:=1) yy.nd za (Or.inl za)<|Cc o8 (pv 1)<|jQ<|fA (fV fU (by rfl) T.inst ku<|fA (pv 0)<|fA (gq (v:=.ref<|c 8) za (T.m 8 _ za) za) fR)<|fA (fV fU (by rfl) T.inst ku<|fA (pv 0)<|fA (gq (v:=.ref<|c 9) za (T.m 9 _ za) za) fR)<|fA (fV fU (by rfl) T.inst ku<|fA (pv 0)<|fA (gq (v:=.ref<|c 10) za (T.m 10 _ za) za) fR)<|fA (fV fU (by rfl) T.inst ku<|fA (pv 0)<|fA (gq (v:=.ref<|c 11) za (T.m 11 _ za) za) fR) fR,λD H l xs sm hn hl hx k=>?_];have pB:=sm _ _ ha;refine#[_,rfl,_,rfl,_,_,_,_,_,rfl,.exc pB<|T.ek i hi,rfl,T.kt i 8 hi (by decide),_,rfl,_,_,_,_,_,rfl,.exc pB<|T.ek i hi,rfl,T.kt i 9 hi (by decide),_,rfl,_,_,_,_,_,rfl,.exc pB<|T.ek i hi,rfl,T.kt i 10 hi (by decide),_,rfl,_,_,_,_,_,rfl,.exc pB<|T.ek i hi,rfl,T.kt i 11 hi (by decide),by change 4<=sizeLine;decide,λl2 n2=>?_];refine#[l,l2,xs,_,rfl,rfl,by rw[fv<|fI hl n2];show hl,fu,IX (by simp;lia) |> kK,λp np=>?_];have s2:=iE (o:=.lst [.bl<|decide (i=8),.bl<|decide (i=9),.bl<|decide (i=10),.bl<|decide (i=11)]) sm<|sm.free n2;have mp:H0 p=ah:=s2.free np;show k p _ mp (iE s2 mp) fu
theorem w3 (T:kS K mg R c) (hi:i<17) (ha:H0 a=ae (.ext (kC a<|c i))):∃ t,PS (XW P w K mg base f cdv A outer s Hx E) (dz 3) t /\ ∀ D H l xs,eJ H0 H->H0 l=ah->H l=ae (.lst xs)->xs.length<=100 ->
 (∀ p H',H0 p=ah->eJ H0 H'->H' p=ae (.lst<|xs++[.bl<|decide (i=12),.bl<|decide (i=13),.bl<|decide (i=14),.bl<|decide (i=15)])->D.nx [ae<|.ref a,ae<|.ref p,ah] H')->t D [ae<|.ref a,ae<|.ref l,ah] H:=by
 refine#[_,mF (i:=1) yy.nd za (Or.inl za)<|Cc o8 (pv 1)<|jQ<|fA (fV fU (by rfl) T.inst ku<|fA (pv 0)<|fA (gq (v:=.ref<|c 12) za (T.m 12 _ za) za) fR)<|fA (fV fU (by rfl) T.inst ku<|fA (pv 0)<|fA (gq (v:=.ref<|c 13) za (T.m 13 _ za) za) fR)<|fA (fV fU (by rfl) T.inst ku<|fA (pv 0)<|fA (gq (v:=.ref<|c 14) za (T.m 14 _ za) za) fR)<|fA (fV fU (by rfl) T.inst ku<|fA (pv 0)<|fA (gq (v:=.ref<|c 15) za (T.m 15 _ za) za) fR) fR,λD H l xs sm hn hl hx k=>?_];have pB:=sm _ _ ha;refine#[_,rfl,_,rfl,_,_,_,_,_,rfl,.exc pB<|T.ek i hi,rfl,T.kt i 12 hi (by decide),_,rfl,_,_,_,_,_,rfl,.exc pB<|T.ek i hi,rfl,T.kt i 13 hi (by decide),_,rfl,_,_,_,_,_,rfl,.exc pB<|T.ek i hi,rfl,T.kt i 14 hi (by decide),_,rfl,_,_,_,_,_,rfl,.exc pB<|T.ek i hi,rfl,T.kt i 15 hi (by decide),by change 4<=sizeLine;decide,λl2 n2=>?_];refine#[l,l2,xs,_,rfl,rfl,by rw[fv<|fI hl n2];show hl,fu,IX (by simp;lia) |> kK,λp np=>?_];have s2:=iE (o:=.lst [.bl<|decide (i=12),.bl<|decide (i=13),.bl<|decide (i=14),.bl<|decide (i=15)]) sm<|sm.free n2;have mp:H0 p=ah:=s2.free np;show k p _ mp (iE s2 mp) fu
theorem w4 (T:kS K mg R c) (hi:i<17) (ha:H0 a=ae (.ext (kC a<|c i))):∃ t,PS (XW P w K mg base f cdv A outer s Hx E) (dz 4) t /\ ∀ D H l xs,eJ H0 H->H0 l=ah->H l=ae (.lst xs)->xs.length<=100 ->
 (∀ H',eJ H0 H'->H' l=ae (.lst<|xs++[.bl<|decide (i=16)])->D.nx [ae<|.ref a,ae<|.ref l,ah] H')->t D [ae<|.ref a,ae<|.ref l,ah] H:=#[_,D4<|Ce yO Y0 Y1 mH (pv 1)<|fA (fV fU (by rfl) T.inst ku<|fA (pv 0)<|fA (gq (v:=.ref<|c 16) za (T.m 16 _ za) za) fR) fR,λD H l xs sm hn hl hx k=>(#[_,rfl,.inl #[rfl,_,bN.of hl],_,rfl,_,_,_,_,_,rfl,.exc (sm _ _ ha)<|T.ek i hi,rfl,T.kt i 16 hi (by decide),l,xs,_,rfl,rfl,hl,IX (by lia),k _ (iE sm hn) fu])]
theorem w5 (T:kS K mg R c) (hi:i<17) (ha:H0 a=ae (.ext (kC a<|c i))):∃ t,PS (XW P w K mg base f cdv A outer s Hx E) (dz 5) t /\ ∀ D H l,eJ H0 H->H l=ae (.lst<|ud i 17) ->
 D.nx [ae<|.ref a,ae<|.ref l,ah] H->t D [ae<|.ref a,ae<|.ref l,ah] H:=by
 refine#[_,(O6 (PW.pt<|O5 (D9 O8 (Ce yO PySem.F.slot_list_count PySem.F.type_list_count JQ (pv 1)<|fA Jh fR) jo<|acS _)<|Jk<|Jl<|Jj<|fV fU (by rfl) T.inst ku<|fA (pv 0)<|fA (D0 (v:=.ty "ValueError") za T.aeR (by decide +kernel) za) fR) (lR<|Bo mE) D3),λD H l sm hl k=>?_];refine#[_,rfl,.inl #[rfl,_,bN.of hl],l,_,_,rfl,rfl,hl,C7 i 17,rfl,rfl,_,rfl,?_];rw[Jg i hi];show ZO<|#[_,rfl,_,_,_,_,_,rfl,.exc (sm _ _ ha)<|T.ek i hi,rfl,T.kv i hi,_,rfl,ZO k]
theorem w6 (T:kS K mg R c):∃ t,PS (XW P w K mg base f cdv A outer s Hx E) (dz 6) t /\ ∀ D H l,eJ H0 H ->
 (∀ l2 H',H l2=ah->H'=upd H l2 (.lst<|(rm.take 12).map V.str)->D.nx [ae<|.ref a,ae<|.ref l,ae<|.ref l2] H')->t D [ae<|.ref a,ae<|.ref l,ah] H:=by
 have e:∃ p es q r,dz 6=.Assign [.Name "_law_words" p] (.List es q) r /\ es.map Z0=(rm.take 12).map ae:=#[_,_,_,_,rfl,rfl];let#[p,es,q,r,h,he]:=e;rw[h];show#[_,mF (i:=2) yy.nd za (Or.inl za) (jQ<|BA he)<|DZ _ _ _ _,λD H l sm k=>(#[by decide,λl2 n2=>k l2 _ n2 za])]
theorem w7 (T:kS K mg R c) (hi:i<17):∃ t,PS (XW P w K mg base f cdv A outer s Hx E) (dz 7) t /\ ∀ D H l l2,eJ H0 H->H l=ae (.lst<|ud i 17)->H l2=ae (.lst<|(rm.take 12).map V.str) ->
 (∀ H',eJ H0 H'->D.rt (.str<|wordOf i) H')->t D [ae<|.ref a,ae<|.ref l,ae<|.ref l2] H:=by
 refine#[_,(Bo<|JC Bt (Cc o8 (pv 2)<|jQ<|BA (xs:=rm.drop 12) za) (Ce yO PySem.F.slot_list_index PySem.F.type_list_index JR (pv 1)<|fA Jh fR) λ_ _=>rfl),λD H l l2 sm hl h2 k=>?_];refine#[_,rfl,by decide,λl3 n3=>?_];refine#[l2,l3,_,_,rfl,rfl,by rw[fv<|fI h2 n3];show h2,fu,by decide,λp np=>?_];have s3:=iE (o:=.lst<|(rm.drop 12).map V.str) sm<|sm.free n3;have lp:l≠p:=by
  intro z;rw[<-z,fv<|fI hl n3,hl]at np;cases np
 have nv:(upd (upd H l3<|.lst<|(rm.drop 12).map V.str) p<|.lst<|(rm.take 12).map V.str++(rm.drop 12).map V.str) l=ae (.lst<|ud i 17):=by rw[fv lp,fv<|fI hl n3];show hl
 refine#[_,rfl,.inl #[rfl,_,bN.of nv],l,_,_,i,rfl,rfl,nv,C7 i 17,rfl,(hi),?_,?_,p,_,_,_,rfl,rfl,bN.of fu,Bs ?_,k _<|iE s3<|s3.free np]
 .intro z e;rw[SU i hi]at e;cases e;rfl
 .intro m z hm e;rw[SV i hi m hm]at e;cases e;rfl
 .have:∀ i,i<17->((rm.take 12).map V.str++(rm.drop 12).map V.str)[i]?=ae (.str<|wordOf i):=by decide
  show this i hi
theorem agR:gf uc=[dz 0,dz 1,dz 2,dz 3,dz 4,dz 5,dz 6,dz 7]:=rfl
end
section
variable {K:Frag}
theorem agS (i:Nat):(([.bl<|decide (i=0),.bl<|decide (i=1),.bl<|decide (i=2),.bl<|decide (i=3)]++[.bl<|decide (i=4),.bl<|decide (i=5),.bl<|decide (i=6),.bl<|decide (i=7)]++[.bl<|decide (i=8),.bl<|decide (i=9),.bl<|decide (i=10),.bl<|decide (i=11)]++[.bl<|decide (i=12),.bl<|decide (i=13),.bl<|decide (i=14),.bl<|decide (i=15)]++[.bl<|decide (i=16)]))=ud i 17:=rfl
theorem O4 (F:dU K "_law_word" "_law_word" uc f fd) (T:kS K mg R c):El P w K mg base qK 1 f fd ["_law_e"] (aaI c):=by
 refine F.adS yy (λvs H Q E h=>?_) λcdv A outer s H vs Q E hr h=>?_
 .let#[a,i,rfl,_]:=h;rfl
 .let#[a,i,rfl,hi,ha,q]:=h;rw[agR];let#[t0,p0,r0]:=w0 T hi ha;let#[t1,p1,r1]:=w1 (P:=P) (w:=w) (base:=base) (f:=f) (cdv:=cdv) (A:=A) (outer:=outer) (s:=s) (Hx:=H) (E:=E) T hi ha;let#[t2,p2,r2]:=w2 (P:=P) (w:=w) (K:=K) (mg:=mg) (base:=base) (f:=f) (cdv:=cdv) (A:=A) (outer:=outer) (s:=s) (Hx:=H) (E:=E) T hi ha;let#[t3,p3,r3]:=w3 (P:=P) (w:=w) (K:=K) (mg:=mg) (base:=base) (f:=f) (cdv:=cdv) (A:=A) (outer:=outer) (s:=s) (Hx:=H) (E:=E) T hi ha;let#[t4,p4,r4]:=w4 (P:=P) (w:=w) (K:=K) (mg:=mg) (base:=base) (f:=f) (cdv:=cdv) (A:=A) (outer:=outer) (s:=s) (Hx:=H) (E:=E) T hi ha;let#[t5,p5,r5]:=w5 (P:=P) (w:=w) (K:=K) (mg:=mg) (base:=base) (f:=f) (cdv:=cdv) (A:=A) (outer:=outer) (s:=s) (Hx:=H) (E:=E) T hi ha;let#[t6,p6,r6]:=w6 (P:=P) (w:=w) (K:=K) (mg:=mg) (base:=base) (f:=f) (cdv:=cdv) (A:=A) (outer:=outer) (s:=s) (Hx:=H) (E:=E) (a:=a) (H0:=H) T;let#[t7,p7,r7]:=w7 (P:=P) (w:=w) (K:=K) (mg:=mg) (base:=base) (f:=f) (cdv:=cdv) (A:=A) (outer:=outer) (s:=s) (Hx:=H) (E:=E) (a:=a) (H0:=H) T hi;generalize dz 0=x0 at p0 ⊢;generalize dz 1=x1 at p1 ⊢;generalize dz 2=x2 at p2 ⊢;generalize dz 3=x3 at p3 ⊢;generalize dz 4=x4 at p4 ⊢;generalize dz 5=x5 at p5 ⊢;generalize dz 6=x6 at p6 ⊢;generalize dz 7=x7 at p7 ⊢;refine#[_,gV p0<|gV p1<|gV p2<|gV p3<|gV p4<|gV p5<|gV p6<|lR p7,?_];refine r0 _ λl1 H1 n1 s1 e1=>?_;refine r1 _ _ _ _ s1 n1 e1 (by simp) λl2 H2 n2 s2 e2=>?_;refine r2 _ _ _ _ s2 n2 e2 (by simp) λl3 H3 n3 s3 e3=>?_;refine r3 _ _ _ _ s3 n3 e3 (by simp) λl4 H4 n4 s4 e4=>?_;refine r4 _ _ _ _ s4 n4 e4 (by simp) λH5 s5 e5=>?_;have WW:H5 l4=ae (.lst<|ud i 17):=by rw[<-agS i];show e5
  refine r5 _ _ _ s5 WW ?_;refine r6 _ _ _ s5 λl6 H6 n6 e6=>?_;subst e6;refine r7 _ _ _ _ (iE s5<|s5.free n6) (by rw[fv<|fI WW n6];show WW) fu λH7 s7=>q H7 s7
end
end K13.Wd
namespace K13
open L2 L2.DL PySem.W
abbrev nl:List (Bool×Str×bJ):=(af, "law",top 75)::(af, "_law_met",top 73)::(ag, "strike",inClass (top 53) 2)::(af, "without",top 54)::(ag, "tell",inClass (top 53) 1)::(ag, "keep",inClass (top 53) 16)::(ag, "need_page",inClass (top 53) 15)::(af, "_law_told",top 72)::(af, "places",top 46)::(af, "steps_taken",top 50)::(af, "rooms_behind",top 51)::(af, "need_hour",top 26)::(af, "outcomes",top 45)::(af, "read",top 47)::(af, "word_for",top 49)::(af, "may_share",top 37)::(af, "room_entered",top 48)::(af, "need_pages",top 44)::(af, "are_pages",top 43)::(af, "is_page",top 42)::(af, "is_hour",top 23)::(af, "greatest_parts",top 41)::(ag, "pages",inClass (top 53) 8)::(af, "_law_are_pages",top 70)::(af, "_law_is_page",top 69)::(af, "_law_is_hour",top 68)::(af, "_law_within",top 60)::(ag, "__init__",inClass (top 53) 0)::(af, "need_house",top 36)::(af, "is_house",top 29)::(af, "are_apart",top 34)::(af, "is_pair_apart",top 35)::(af, "is_rising",top 25)::(af, "are_kinds",top 31)::(af, "is_kind",top 32)::(af, "are_rates",top 33)::(af, "are_rooms",top 30)::(af, "is_within",top 22)::(af, "is_whole",top 21)::(af, "is_tuple",top 24)::(af, "_law_pages",top 67)::(af, "_law_page",top 66)::(af, "_law_mixed",top 61)::(af, "_law_cell_at",top 56)::(af, "_law_odd_pages",top 74)::(af, "_law_bent",top 63)::(af, "_law_whole",top 59)::(af, "_law_odd",top 62)::(af, "_law_house",top 65)::(af, "_law_kind_of",top 64)::(af, "_law_take",top 58)::(af, "_law_pot",top 57)::[]
theorem all_mk {l:PySem.W.OpenLaw}{K:Frag}(X:K.In h) (G:h.Ns mainGlobals mg) (yx:mg "law"=ae (.ref fa)) (aC:nsIn K mainGlobals "Ledger"=ae (ae<|.ref C)) (z0:WU K (tx C).bl=ag) (g0:Qi K (tx C).gl=ag) (y1:Qg K=ag) (cp:plainGet K C Str.empty=ag) (cd:hasDictIn K C=ag) (co:plainOver K C=ag) (cs:findIn K (.ref C) "__setattr__"=ae (ae<|.builtin "object.__setattr__")) (cm:makesIn K C=ag) (ck:keepIn K (.ref C)=ag) (cn:((tx C).fl.all λf=>findIn K (.ref C) f==ae ah)=ag)
 (D:Hw K C nl)
 (eR:nsIn K mainGlobals "RimeError"=ae (ae<|.ref R))
 (e0:nsIn K mainGlobals "NoHouse"=ae (ae<|.ref c0))
 (e1:nsIn K mainGlobals "NoOuts"=ae (ae<|.ref c1))
 (e2:nsIn K mainGlobals "NoRoom"=ae (ae<|.ref c2))
 (e3:nsIn K mainGlobals "NoHour"=ae (ae<|.ref c3))
 (e4:nsIn K mainGlobals "NoPages"=ae (ae<|.ref c4))
 (e5:nsIn K mainGlobals "NoLot"=ae (ae<|.ref c5))
 (e6:nsIn K mainGlobals "NoAsks"=ae (ae<|.ref c6))
 (e7:nsIn K mainGlobals "NoNumber"=ae (ae<|.ref c7))
 (e8:nsIn K mainGlobals "NoMoves"=ae (ae<|.ref c8))
 (e9:nsIn K mainGlobals "NoEach"=ae (ae<|.ref c9))
 (agT:nsIn K mainGlobals "NoOrder"=ae (ae<|.ref Hy))
 (agU:nsIn K mainGlobals "NoPage"=ae (ae<|.ref Hz))
 (agV:nsIn K mainGlobals "NoOut"=ae (ae<|.ref HC))
 (agW:nsIn K mainGlobals "Twice"=ae (ae<|.ref HD))
 (agX:nsIn K mainGlobals "Missing"=ae (ae<|.ref HE))
 (agY:nsIn K mainGlobals "TooMany"=ae (ae<|.ref HF))
 (agZ:nsIn K mainGlobals "NoDeed"=ae (ae<|.ref HG))
 (zi:nsIn K mainGlobals "isinstance"=ae ah) (zv:nsIn K mainGlobals "ValueError"=ae ah)
 (h1:([c0,c1,c2,c3,c4,c5,c6,c7,c8,c9,Hy,Hz,HC,HD,HE,HF,HG]).all (Qh K R)=ag) (h2:WS K ([c0,c1,c2,c3,c4,c5,c6,c7,c8,c9,Hy,Hz,HC,HD,HE,HF,HG])=ag) (h3:WT K R=ag) (aW:nsIn K mainGlobals "_law_word"=ae (ae<|.ref fW)) (lW:K.lookup fW=ae #[ahE,ahF,.func<|fnOf "_law_word" "_law_word" (gX Wd.uc) (gf Wd.uc) (fG Wd.uc) .none ahG ahH ahI ahJ ag0 ahK,ahL]) (gW:codeIn K ag0 "_law_word"=ag) (kW:keepIn K (.ref fW)=ag) :
 ∃ (C:ai) (cl:Nat->ai) (fd:FuncData),(∀ (s:aI) (u:au),BindsTo s fd #[[u],[]] [("_law_script",u)]) /\ ∀ base:aK,K.In base->base.Ns mainGlobals mg->cP l.prog w K mg base (dn l.prog w) 115 fa fd ["_law_script"] (qQ cl 1<|K13.fn_law C):=by
 have DF:=abz X G (O3<|(show (Qj C).map FI.key=nl by kernel_rfl)▸D) (by kernel_rfl);have nm:((iL C).b 16||(iL C).b 32)=af:=by kernel_rfl
 refine#[C,O2 (λi=>([c0,c1,c2,c3,c4,c5,c6,c7,c8,c9,Hy,Hz,HC,HD,HE,HF,HG]).getD i 0) yx ((λh d=>by
  unfold wm at d;rw[if_neg (by rw[h];decide)]at d;show d) nm<|DF (iL C)<|bM ..) (λfd f F s u=>?_) λbase _ _=>?_]
 .let#[#[oc,od,kV,doc,pm,an,cdv,ct,pL,rfl,_,_],_]:=F;show .of_eq za
 .have ext:kS K mg R (λi=>([c0,c1,c2,c3,c4,c5,c6,c7,c8,c9,Hy,Hz,HC,HD,HE,HF,HG]).getD i 0):=SR X G za eR (λi x hx=>by
   match i,hx with
   |0,hx=>cases hx;show e0
   |1,hx=>cases hx;show e1
   |2,hx=>cases hx;show e2
   |3,hx=>cases hx;show e3
   |4,hx=>cases hx;show e4
   |5,hx=>cases hx;show e5
   |6,hx=>cases hx;show e6
   |7,hx=>cases hx;show e7
   |8,hx=>cases hx;show e8
   |9,hx=>cases hx;show e9
   |10,hx=>cases hx;show agT
   |11,hx=>cases hx;show agU
   |12,hx=>cases hx;show agV
   |13,hx=>cases hx;show agW
   |14,hx=>cases hx;show agX
   |15,hx=>cases hx;show agY
   |16,hx=>cases hx;show agZ
   |n+17,hx=>simp[EX]at hx) zi zv h1 h2 h3
  have hw:EY l.prog w K mg base (λi=>([c0,c1,c2,c3,c4,c5,c6,c7,c8,c9,Hy,Hz,HC,HD,HE,HF,HG]:List ai).getD i 0):=by
   have F:=Bw (st:=Wd.uc) lW gW kW;show#[fW,_,Wd.O4 F ext,mg_of X G aW,kW,F.binds (ps:=["_law_e"]) λ_ _ _ _ _ _ us hl=>match us,hl with|[_],_=>rfl]
  let#[kk,h1,h2]:=(OZ (T4 X G z0 g0 y1 (λ_=>#[R,ext]) (λ_=>hw) cn λ_=>#[#[cp,cd,co,cs],aC,cm,ck]) (Qj C) ((λC=>by
   iterate 52 refine And.intro (by first|(refine .inr<|.inr ?_;simp[FI.b];done)|(refine .inl ⟨?_,by kernel_rfl⟩;simp[FI.b,iL];done)|(refine .inr (.inl ⟨?_,?_,K1.gJ,rfl,λ_=>by kernel_rfl,rfl⟩)<;>simp[FI.b]<;>done)) ?_
   trivial) C) (SS C) DF).1 (iL C)<|bM ..
  have lv:eU (Qj C)=115:=by kernel_rfl
  show#[kk,(λh d=>by
   rw[HV]at h;unfold wo at d;rw[if_neg (by rw[h.2];decide),if_neg (by rw[h.1];decide)]at d;show d) nm h1,lv▸h2]
end K13
end
structure PySem.W.Fast:Prop where(tw9092321131299576469 tw12472803509106841921 tw14101722254871028056 tw1353710762102830407 tw8398529801104201926 tw6342060503477785051 tw16317717634300321789 tw17412285471598292673 tw11004684373621616845 tw16134638026195634582 tw7829146602744212591 tw5701752782995110084 tw8576568750206802965 tw2868716461355830683 tw5979483432239994113 tw7312406278073898451 tw4795767626054815955 tw282508884457673873 tw12207503837984587953 tw16921471932606653336 tw13135322477106434844 tw6099930445204033030 tw16488416788328678942 tw5507522817191920308 tw1972874114520604400 tw5207205069833064282 tw3155433242616244686 tw1168224355337179221 tw1947127842799075160 tw2934056466709035730 tw14354622633008295663 tw14445973788057585 tw5951607940069512281 tw11391956686293800639 tw17031077359968555482 tw8314463722032433069 tw2041928436759240811 tw5466873800159156168 tw3903305610641280905 tw5493343401816595821 tw10846224222864619540 tw10257087362399302967 tw1029120451052701831 tw16906141154248046727 tw15129739391649215881 tw16470049138672077887 tw14514903551992568271 tw2840385876920476638 tw8300597371252533010 tw14381236078780712940 tw11413280553963849690 tw3943103966442199563 tw111083743846104601 tw2184216921159724509 tw5165993456830009897 tw483258239157283923 tw17195493742316423560 tw6181278205065702386 tw2452090478318313594 tw2200833017630571502 tw16642310685504912344 tw6384606245739047060 tw839552161114365722 tw2795265841990126806 tw7844313910091013906 tw12429469656860932632 tw1146552163882043262 tw14562820084883095406 tw15679566102696790001 tw5717837225555817279 tw8681098063180537763 tw16892803848956650632 tw16562588282633773739 tw174745753688999062 tw2067467978142247051 tw9036948925594399945 tw11825990546962331419 tw4896817230727172017 tw1229175294377518412 tw18326912656125559742 tw5186309320967207212 tw1308195237366525165 tw10332313841228648094 tw9575211272882384990 tw10938461257509333572 tw14884899976393942273 tw6221221868316988973 tw2857752018200395156 tw14761021489849701904 tw7196947970865146314 tw10025783311478969338 tw15656548748437003518 tw15380386847795934514 tw9512329437539977561 tw6943686319990263914 tw7597317067163371151 tw12840078323568088285 tw7732830239189614531 tw164852887509144929 tw14227790358493234820 tw1989166881540767248 tw11008346043707219190 tw5688478882519178748 tw16818651957978391211 tw7617030978336267967 tw14577835151072231225 tw16567990020278169274 tw4330153729879895173 tw18009931042327445789 tw14891578427081744568 tw18052625332584917621 tw10653194496657638126 tw11251162491748489806 tw15532448285687799908 tw15514473694225502049 tw5723053870435289927 tw7063897247772929332 tw890523579636261239 tw4521864355992114668 tw10784577459020067296 tw14158422598387379141 tw6123490160987864013 tw7377883063304354173 tw1210436501622003903 tw2649855576165360109 tw16646904075929552151 tw4043481263173748608 tw1107081392731457670 tw10802384548664615933 tw881707585931193853 tw10787126878955604550 tw4958925882008808156 tw5056559156744633895 tw13843264539640763900 tw8490019342792544167 tw16100435593996568437 tw13739995083509900595 tw14750364133395508976 tw11540248507977712652 tw16168098469676701239 tw16173810989085281515 tw5488035628905586366 tw14865058403199011097 tw12585754997881678604 tw11214123707869098304 tw489760499720909147 tw4033639393952420727 tw15603760161926066335 tw1148955382884364664 tw8585750601789670104 tw11579627323905678742 tw11442794521728546298 tw4301862152383603823 tw9879330493944288126 tw13874042550820488690 tw13818735641391099734 tw15131996726416101418 tw9558453091306229726 tw15071267588697940325 tw2139746592879757362 tw13451379020400289778 tw3163647354322165152 tw15849995890872765762 tw16043383507976635478 tw10550786212387091369 tw11282167025775964520 tw3462118318916669516 tw12285888592382324168 tw4171189516252943398 tw1238705550308948384 tw9704977938762763619 tw2242324208094449459 tw8231738509279800242 tw17589598870796169237 tw16189357439134160877 tw3243123563151937195 tw1952797063700310287 tw17984044777822299656 tw11294275626275325895 tw9429345876259784345 tw8435041215820462611 tw6968713223151226130 tw11787862233249021212 tw15730460479700963580 tw8703782305942300789 tw7660133583258282088 tw747678472759383043 tw3352923544899409497 tw16612085179678597031 tw12906479931920792122 tw6293788559135637256 tw3615132707344990552 tw6843786636077690945 tw1487709007155388829 tw6585674611291578599 tw16511126620846006315 tw13905315388291461334 tw8490961113072086164 tw7016746252771549131 tw6869006171710627853 tw3528015954962254246 tw15252019853973007345 tw17905624004565248241 tw2072473328639942767 tw2198145726533096705 tw10509135844571252541 tw3130329493978707080 tw571598792121502392 tw10808709613093945059 tw14289971583034911726 tw374524781994508877 tw9701450303247019064 tw8861083384082881860 tw2012177900043028155 tw4974183501175596029 tw1293868968839709317 tw92210656121953203 tw7895073147550732337 tw5365374822040881888 tw6751625882531522973 tw4290357020545090330 tw4143702382755921028 tw13491145417124742643 tw6579561883904515394 tw12606847122662723611 tw13944059966308383410 tw11502214972347633942 tw9893042411265483885 tw13676240736664240434 tw7961333578557745763 tw12014015147677248681 tw4775123938526185603 tw13267403758505403379 tw9226176514463252700 tw2327421784902150576 tw3481926017972608715 tw16354870437995951614 tw8951600110905555381 tw14168616397467743457 tw4315875173919000212 tw14726756464351619035 tw12554776572582136065 tw10575856358563431466 tw8474390746373678339 tw4273834580609423811 tw17512334889517536589 tw2848236430942234629 tw14339523887343037742 tw10049523634927052697 tw10023665195313954643 tw17726288927783341766 tw2034587899135552436 tw18290126880305118747 tw14861691682079598382 tw7931085711447348336 tw13059162006649960563 tw17667845917526386589 tw4507524048976114041 tw10175356758511479469 tw17459742953369542921 tw3865312952902734800 tw11029250942257014372 tw936665686749882983 tw17369181712837850522 tw4843120496949095923 tw9451726454829200695 tw16973792891879826949 tw15895244604302853127 tw10443920707520554022 tw11649004733215678668 tw8977198316195585597 tw12493777934297700845 tw17640148817793081420 tw4794486459850930138 tw9531765350969153796 tw1494288957231027244 tw3578525211374112838 tw2013913306582335804 tw4063431859398674170 tw12058592195223408951 tw14227461966285425250 tw13779205020001481331 tw18221194653225518508 tw2086237472729549830 tw11430886994430916585 tw8409736881046356722 tw15003499092970274125 tw4570308250831113525 tw9334445159513057311 tw2535742257663741167 tw11648817787483999590 tw16745326927953824641 tw7046828268605908068 tw14844311444276257911 tw14509460387708133375 tw17773521337916120619 tw15742121108063948115 tw10629604347647229009 tw10382210947435093685 tw17295577291136768073 tw364462309180587554 tw15988968898964685358 tw8903546460455666369 tw1581994772179428633 tw804955545533073271 tw9647233788299364061 tw9480130473246116875 tw5363403807044608222 tw3594556732574633366 tw10082537748374767708 tw2160590034334948339 tw10516648540266196806 tw11149677900086314741 tw8201320369740526267 tw4583914652502705198 tw10783589132990874187 tw13983809587689578140 tw18012839991852459863 tw11804088875507438154 tw13963767319397550068 tw3519701050936504739 tw13329622274415442534 tw12700292673186071880 tw1257407412627092519 tw4157238585137911538 tw277959303952639102 tw10081350921048735208 tw10731085072569683877 tw17668052090301875536 tw11105452294072549471 tw18126240149931684938 tw9024560850021120122 tw8459375714537813144 tw10270367422689541377 tw4766243817834036355 tw14155874254427952621 tw11069110942867138819 tw3028917741632783058 tw14590961034963072266 tw10669325187393767351 tw9923439411430597989 tw11480765424373379863 tw4868668260947631088 tw6592513703411959643 tw9764888301959999492 tw7007350465404231859 tw9182230511794930797 tw9709857311798032664 tw6166658097298320100 tw16721643807568693911 tw6813031864867288483 tw11558212567653276951 tw14501751118475765613 tw3382094641250976710 tw7548404054080511159 tw5082924639736577748 tw8058955636124053035 tw12967452959349976850 tw17992425987103532228 tw13050547544928542957 tw8319455048118015617 tw436573115064959246 tw3537553749654447245 tw1225031240113073270 tw8817636178625746456 tw6081168835524376480 tw5637079807702136541 tw13733205521487650485 tw15321055200249631354 tw7367978120976694015 tw1863330277614026952 tw1658755119856346230 tw12890340108082327922 tw1553307181334253562 tw15412523691267163600 tw3305883314443020481 tw3256800979376951039 tw7134558714786109403 tw17895211046531404428 tw9732840512939872392 tw11387221081237560852 tw831178900017958340 tw7300880472013628319 tw15698494973806718520 tw8494346575255503608 tw10508260269828698821 tw12529763972672762507 tw5460556536891014645 tw9581843199793136910 tw13689360943958432031 tw1399717027797216378 tw106018471683899743 tw251371626647819162 tw16231370704464804252 tw4745045813531479768 tw8693556322752988978 tw7665528426667540683 tw13118865428255318640 tw2343648495946446381 tw12440382178035418881 tw6503832783588980380 tw7270265692858546267 tw575129364058524394 tw5115967792504605416 tw17218967286490800482 tw10765047610904745722 tw13412154837716633512 tw13007721840627991655 tw5166749362413134088 tw2602143536825035920 tw17565291254564126460 tw4894948307249396131 tw3711044122905138208 tw9449068938096291867 tw11721442764608790978 tw2540481365351298701 tw17498967847585041225 tw2731618778257361085 tw4990186199467124077 tw17049453430877086459 tw9790741129670563966 tw3420375509059040801 tw8956408700077536404 tw5476792069202850280 tw4229993465331474131 tw6679164105173373269 tw1704411966232323028 tw8220618154071914831 tw15281116162264981496 tw3436132781963076806 tw6082992999348799978 tw16981230096937120996 tw1371211636543737204 tw15028123820317277787 tw1626400638751533428 tw4082547082873712534 tw15376039146272555274 tw11670614961883111492 tw6093990671678352268 tw16576450443390673172 tw10717204665032894784 tw7003698581273609881 tw12663401872408047077 tw18402621417122509281 tw12216592263345786214 tw8349309418644030184 tw77740687651838747 tw10698442522869740374 tw13805157804824066538 tw5018045668791490192 tw13526636978019582284 tw18017579138799161208 tw8806415987060565324 tw1109852420838606766 tw9540075081980044072 tw15441764017619447014 tw10931924940108029059 tw5303648174758825596 tw4187755906792093471 tw13238741387263226058 tw10859326390602569721 tw10762217223945950185 tw16318591947158208344 tw5130143031416223721 tw5437526456563453474 tw666188771409471739 tw1167000766512083753 tw9926897684090094125 tw12131358263685034353 tw16330607691279871167 tw12611297246731532373 tw15161197003531228529 tw17821627084554123515 tw17319682172791343366 tw11695670795445807509 tw7473175743974969431 tw18060516835907658261 tw1214370938769958764 tw14369054451619499841 tw2099799529056473965 tw5754220733750777382 tw4194253359458380775 tw12873011915385473683 tw1440290267571289289 tw8649987118943893036 tw664911414040595512 tw1371080067482016298 tw14212412549668044617 tw7143503635544774468 tw16287828370864016226 tw6542259951448807058 tw11044881447891968589 tw6011764506124604071 tw15043976929605540453 tw9440887208895192952 tw12233746991009086604 tw9037625530664836842 tw4236414174550276507 tw848658859442081896 tw9490421056101848965 tw18401639541237484763 tw10791023613762104635 tw10725849744714635533 tw9714988304097191556 tw8714210130927996882 tw17766854140635877518 tw9435335700539807464 tw12117399292704942583 tw7501749394758215917 tw1803379110292256877 tw360515599395763518 tw12848187319188318687 tw5712756070572643825 tw15066198638302418791 tw9682990514291201559 tw17510120180704567860 tw10297205686710322920 tw12048150755352260996 tw13483051140675380667 tw13945693281695980944 tw4924655321207395281 tw781420079204490381 tw3778738553667860119 tw9612051045446762465 tw8694097264378942454 tw4805154704802282968:True)
open_top hdk13 for PySem.Challenge.rw_rimehold_k13_what_are_no_pages

set_option maxRecDepth 100000 in
set_option maxHeartbeats 0 in
theorem PySem.Challenge.cw_rimehold_k13_what_are_no_pages_holds : PySem.Challenge.rw_rimehold_k13_what_are_no_pages.Holds :=
 hdk13 (by
 k_fill
 refine L2.DL.walk_o (l:=PySem.Challenge.rw_rimehold_k13_what_are_no_pages) (k:=115) (fn:=K13.fn_law) ⟨rfl,by decide,by decide,rfl⟩ rfl rfl (λw h Y=>PySem.W.kIn_of Y) ?kq_nl (λC ns h=>K13.law_true C ns (by lia)) ?kq_F
 case kq_nl =>
  intro w;kernel_rfl
 case kq_F =>
  intro w mg fa h KX G hmg
  refine' K13.all_mk KX G hmg ?kq_aC ?kq_z0 ?kq_g0 ?kq_y1 ?kq_cp ?kq_cd ?kq_co ?kq_cs ?kq_cm ?kq_ck ?kq_cn ?kq_D ?kq_eR ?kq_e0 ?kq_e1 ?kq_e2 ?kq_e3 ?kq_e4 ?kq_e5 ?kq_e6 ?kq_e7 ?kq_e8 ?kq_e9 ?kq_e10 ?kq_e11 ?kq_e12 ?kq_e13 ?kq_e14 ?kq_e15 ?kq_e16 ?kq_zi ?kq_zv ?kq_h1 ?kq_h2 ?kq_h3 ?kq_aW ?kq_lW ?kq_gW ?kq_kW
  (case kq_aC=>k_is)
  (case kq_z0=>kernel_rfl)
  (case kq_g0=>kernel_rfl)
  (case kq_y1=>kernel_rfl)
  (case kq_cp=>k_is)
  (case kq_cd=>k_is)
  (case kq_co=>k_is)
  (case kq_cs=>k_is)
  (case kq_cm=>k_is)
  (case kq_ck=>k_is)
  (case kq_cn=>kernel_rfl)
  (case kq_D=>(iterate 52 refine And.intro (by first|exact L2.DL.dIn_mk (by k_is) (by k_is) (by k_is) (by k_is)|exact L2.DL.dInM_mk (by k_is) (by k_is) (by k_is) (by k_is) (by k_is)) ?_);exact trivial)
  (case kq_eR=>k_is)
  (case kq_e0=>k_is)
  (case kq_e1=>k_is)
  (case kq_e2=>k_is)
  (case kq_e3=>k_is)
  (case kq_e4=>k_is)
  (case kq_e5=>k_is)
  (case kq_e6=>k_is)
  (case kq_e7=>k_is)
  (case kq_e8=>k_is)
  (case kq_e9=>k_is)
  (case kq_e10=>k_is)
  (case kq_e11=>k_is)
  (case kq_e12=>k_is)
  (case kq_e13=>k_is)
  (case kq_e14=>k_is)
  (case kq_e15=>k_is)
  (case kq_e16=>k_is)
  (case kq_zi=>k_is)
  (case kq_zv=>k_is)
  (case kq_h1=>kernel_rfl)
  (case kq_h2=>kernel_rfl)
  (case kq_h3=>kernel_rfl)
  (case kq_aW=>k_is)
  (case kq_lW=>k_is)
  (case kq_gW=>k_is)
  (case kq_kW=>k_is)
 )
