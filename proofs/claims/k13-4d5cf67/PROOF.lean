import PyProof.Rows.All
import Wide.All
import OpenK.AllK
import Wide.FinOn
import Lean
import PyProof.EqAt
import PyProof.EqKinds
import PyProof.TupleCall
import PyProof.LongRange
import PyProof.Walks
import PyProof.ListMulRoad
import PyProof.ReprRoads
import PyProof.NeData
import PyProof.P3In
import PyProof.ZipIter
import PyProof.Draws
import PyProof.TupleIter
import PyProof.Rows.StrRules
import PyProof.CompUse
import PyProof.ListRange
import KE.KDictLaws
import PyProof.EnumFor
import PyProof.EnumMake
import PyProof.EnumStmt
import PyProof.ConsumeWalk
import KE.KMinKey
import PyProof.ListNew
import PyProof.Rows.SetFrom
import PyProof.WalksMore
import KE.KDictList
import KE.KDictSum
import KE.KItemsList
import PyProof.DictWalks
import KE.KDictOf
import PyProof.AttrMissSeq
import PySem.Challenge.RW_rimehold_k13_what_are_no_pages
set_option Elab.async false
set_option linter.all false
set_option maxRecDepth 100000
set_option maxHeartbeats 4000000
set_option exponentiation.threshold 3000
set_option hygiene false
set_option compiler.extract_closed false
set_option genSizeOf false
local macro_rules|`(zo)=>`((SetTable.below t.place j))
local macro_rules|`(zm)=>`((fc (dV 1) fe))
local macro_rules|`(zh)=>`((dC (.int 0)))
local macro_rules|`(zg)=>`((by simp))
local macro_rules|`(zf)=>`((model prog w))
local macro_rules|`(ze)=>`((dC (.int 1)))
local macro_rules|`(zd)=>`((model X.prog X.w))
local macro_rules|`(zc)=>`((by decide))
local macro_rules|`(zb)=>`((by lia))
local macro_rules|`(za)=>`((hs rs ks ps hd))
local macro_rules|`(zj)=>`(rfl)
local macro_rules|`(zk)=>`(Prop)
open Lean Parser.Tactic in
def zP:Nat->Syntax->MacroM (TSyntax `rcasesPat)
|0,_=>Macro.throwUnsupported
|n+1,s=>match s with
|`(#[$xs,*])=>do
  let ys<-xs.getElems.mapM fun x=>do`(rcasesPatLo|$(<-zP n x):rcasesPat)
  `(rcasesPat|⟨$ys,*⟩)
|`(_)=>`(rcasesPat|_)
|`($i:ident)=>if i.getId==`rfl then`(rcasesPat|rfl)else`(rcasesPat|$i:ident)
|_=>Macro.throwUnsupported
local macro_rules|`(tactic|let#[$xs,*]:=$e)=>do let p<-zP 9 (<-`(#[$xs,*]));`(tactic|obtain $p:rcasesPat:=$e)
local macro_rules|`(#[$x,$xs,*])=>`(⟨$x,$xs,*⟩)
local macro_rules|`(tactic|erw[$[$r:term],*]$[$l:location]?)=>`(tactic|simp only[$[$r:term],*]$[$l]?)
local macro_rules|`(tactic|ext $[$r:ident]*)=>`(tactic|rename_i $[$r:ident]*)
set_option hygiene true
noncomputable section
local macro_rules|`(tactic|show $a:term)=>`(tactic|exact $a)
open PySem renaming wpAny_bind->ak,wpAny_pure->ax,sizeLine_eq->bB,wpAny_mono->eX,wpAny_holding->eY,wpAny_field->kL,mem_of_lookup->nW,strLen_append->pF,wpAny_truthy_bool->qf,wpAny_newObj_type->qg,wpAny_call_entry->qh,wpAny_Call_Name_kw->rJ,wpAny_seqItems->rK,wpAny_rule->sR,codeAny_mono->ug,wpAny_of_eq->uh,wpAny_setField_rec->ui,wpAny_callSpecial?_slot->vc,codeAny_builtin->vd,wpAny_typeOf->wK,call_meets->wL,tupleKind_room_in1->wM,not_mem_of_deeper->wN,wpAny_passesOwn->yM,wpAny_attempt->yO,wpAny_newList->yP,wpAny_onRaise->yQ,wpAny_setState_of->yR,wpAny_execs_nil->HS,wpAny_standAt->HU,wpAny_load->HV,wpAny_call->HW,typeIs_str->HX,pushCells_keeps->HY,call_meetsIn->HZ,wpAny_setField->Ia,wpAny_forIn_list->Ib,wpAny_Name->Qr,concat_meets->Qs,noFill_tuple_add->Qt,seq_tuple_add->Qu,seqIndex_of->Qv,codeAny_call_builtin->Qw,wpAny_pyIter_list->Qx,call_repr_slot->Qy,wpAny_updateSeq_pair->Qz,wpAny_letGo->QA,wpAny_newTuple->QB,wpAny_pyIter_tuple->QC,wpAny_typeNameOfWhole_keyiter->QD,wpAny_typeNameOf_keyiter->QE,wpAny_isOneOf_keyiter->QF,piled_cons->QG,wpAny_eqBool_int->W9,wpAny_Compare1->Xa,wpAny_isTrue_Compare1->Xb,wpAny_execs_cons->Xc,wpAny_assign_Name->Xd,wpAny_bindName->Xe,wpAny_pyIter_range->Xf,rangeSize_one->Xg,intBits_le_64->Xh,wpAny_loadPart->Xi,name_of_addr->Xj,codeAny_call_function->Xk,wpAny_newFunctionEnv_cells->Xl,codeAny_func->Xm,wpAny_sequenceKey->Xn,wpAny_Slice->Xo,wpAny_alloc->Xp,wpAny_comprehension_free->Xq,codeAny_compStart_list->Xr,wpAny_getItem_list_slice->Xt,wpAny_runValue->Xu,wpAny_specialOf->Xv,wpAny_Dict_empty->Xw,wpAny_Call_method->Xx,tupleText_mem_le->Xy,listText_mem_le->Xz,listText_nil->XA,dictText_mem_le->XB,wpAny_handled->XC,wpAny_throw->XD,wpAny_pyIter_slot->XF,wpAny_isInstance->XG,isSubtype_stop->XH,wpAny_eqIsQuiet_tuple->XI,wpAny_storeSet_of->XJ,codeAny_of_tree->XM,plainId_quiet->XO,boot_len->XQ,wpAny_pyIter_keyiter->XR,wpAny_dictEntries->XS,wpAny_dictEpoch->XT,wpAny_fieldsOf->XU,call_list_seq->XX
open Nat renaming le_refl->aA,ne_of_lt->bN,le_trans->cw,zero_le->di,lt_of_lt_of_le->dR,lt_irrefl->eZ,le_of_lt->kM,sub_self->k8,lt_succ_self->qi,le_add_right->rL,le_succ->sU,le_of_eq->ve,le_of_not_lt->vf,lt_of_le_of_lt->vg,lt_trans->vh,lt_succ_of_lt->vi,not_lt_zero->vj,lt_or_ge->wO,succ_pos->wQ,zero_add->wR,min_eq_left->wU,ne_of_gt->yS,sub_zero->Ic,le_of_lt_succ->QH,mod_lt->QI,add_sub_cancel_left->QJ,max_eq_right->XY,add_right_comm->XZ,div_le_self->X0,add_sub_cancel->X1,log2_lt->X2,le_add_left->X3,le_succ_of_le->X4
open Bool renaming and_eq_true->aH,false_ne_true->dS,not_eq_true'->kN,false_and->pG,eq_iff_iff->qj,or_eq_true->sV,and_false->vm,false_eq_true->wV,true_and->Ie,and_self->Ig,or_eq_false_iff->Ih,and_true->QK,or_false->X5,or_true->X6,not_eq_true->X7,and_eq_false_iff->X8
open PySem.Heap renaming get?_push_of_some->aR,lt_size->ba,get?_push_size->bC,size_push->qB,get?_update_self->Ii,get?_none_of_le->QL,get?_update_other->X9,size_update->Ya
open List renaming map_cons->aS,length_map->aX,length_cons->a6,mem_cons_of_mem->bD,length_append->bH,mem_cons_self->bO,size_toArray->bZ,map_map->cx,getElem?_append_left->cS,getElem?_eq_getElem->cW,getElem?_append_right->dD,all_eq_true->cg,mem_cons->a9,mem_of_getElem?->eI,prefix_refl->eJ,lookup_cons->hG,mem_append_right->k9,all_cons->nG,mem_append_left->nX,getElem?_map->nY,length_nil->nZ,getElem?_set_self->pI,length_take->pJ,length_drop->pK,prefix_append->pL,not_mem_nil->pM,filterMap_cons->qk,zip_cons_cons->qm,length_set->qC,getElem?_set_ne->rM,append_nil->rN,getElem?_eq_none->rO,take_length->rQ,mem_singleton->hV,mem_append->d8,any_cons->vn,append_assoc->vo,cons_append->vp,map_congr_left->vq,take_append_drop->vt,nil_append->vv,forIn_cons->wW,nodup_append->sW,pairwise_map->uj,getElem_of_mem->wX,mem_map_of_mem->wY,filter_cons_of_neg->wZ,filter_cons_of_pos->w8,exists_cons_of_length_pos->w9,all_map->xa,length_singleton->yT,getElem_mem->yU,forIn_nil->yV,find?_cons->yW,of_mem_zip->Ij,reverse_cons->Ik,length_range->Il,filter_cons->Im,eq_nil_of_length_eq_zero->Io,map_append->Ip,zip_nil_right->Iq,any_eq_false->QM,length_replicate->QN,nodup_cons->rR,ext_getElem?->QO,length_filter_le->QP,zipIdx_cons->QQ,map_snd_zip->QR,any_map->QS,take_of_length_le->QT,zip_append->QU,mem_map->bc,map_nil->QV,drop_eq_getElem_cons->QW,set_append_right->QX,all_nil->QY,length_zip->QZ,getElem?_replicate->Yb,getElem?_take_of_lt->Yc,take_sublist->Yd,filterMap_map->Ye,countP_cons->Yf,drop_zero->Yg,mergeSort_perm->Yh,pairwise_mergeSort->Yi,zipIdx_nil->Yj,forIn_toArray->Yk,mapM_toArray->Yl,nodup_range->Ym,mem_of_mem_take->Yn,mem_of_mem_drop->Yo,getElem?_zip_eq_some->Q0,zip_nil_left->Yp,getElem?_cons_zero->Yq,set_set->Yr,map_id->Ys,getElem?_concat_length->Yt,take_left->Yu,mem_of_find?_eq_some->Yv,find?_some->Yw,map_id'->Yx,head?_cons->Yy,filterMap_nil->Yz
open Option renaming bind_some->bJ,map_some->vw,isSome_map->xb,getD_none->Q2
open PyProof.Rows renaming wpS_bind->cy,wpS_pure->dU,boot_isinstance->ku,listItems_at->xc,wpS_get->xf,wpS_forRange->xg,callWith_type1->Ir,slot_tuple_getitem->xh,listUpdate_at->Iu,size_push'->Iv,mirror_perm->Iw,wpS_reverse->Iy,wpS_mono->Iz,assignInOrder_cons->Q3,tail_any->Q4,kind_sorted->Q5,plain_sorted->Q6,entry_sorted->Q7,args_sorted1->Q8,slot_list_sort->Q9,entry_list_sort->UA,args_list_sort->UB,wpS_lift->UC,wpS_modify->UD,mem_zip_self->UE,seqEpoch_at->UG,pairsOf_size->UH,assignInOrder_nil->YA,slicePart_none->YB,entry_tuple_getitem->YC,args_tuple_getitem->YD,tupleItemsOf_->YE,subscriptTail_builtinR->YF,get?_update_seq->YG,sortedAll_at->YH,sortedAll_old->YI,lt_int->YJ,pairsOf_toList->YK,sortedHeap_old->YL,callWith_builtin1->abH,evalArgs_empty->abI
open Array renaming getElem?_toList->nq,length_toList->nH,getElem_toList->YM,toList_extract->YN,forIn_toList->YO,getElem?_eq_none->YQ
open PySem.W renaming kia_one->qo,callWith_K->IC,plainGet_of->UI,cellsFrom_some->UJ,looks_findIn->UK,looks_mroIn->UL,mg_none_of->UM,kitx_list->YR,kitx_dict->YS,methodCall_KW->YT,codeRec_of->YU
open Int renaming toNat_natCast->vz,eq_ofNat_of_zero_le->ID,mul_one->YV,zero_add->YW
open PyProof.Rows.KeyOrd renaming kle_refl->xi,kle_trans->IE,kle_of_klt->IG,kle_antisymm->YX
open PySem.Calls renaming spliced_nil->yX,spliced_cons->yY,callWith_builtin->UN,evalArgs_plain->UO,call_function_entry->UQ
open PySem.F renaming plainAttrs_list->yZ,slot_tuple_iterator_next->IH,slot_zip_next->Ea,slot_tuple_add->UR,entry_tuple_add->US,args_tuple_add_2->UT,slot_dict_get->UU,slot_dict_delitem->YY,entry_dict_get->YZ,args_dict_get_2->Y0,plainAttrs_dict->Y1,sub_str_dict->Y2,slot_dict_eq->Y3,slot_str_eq_refl->Y4,entry_tuple_iterator_next->Y5,args_tuple_iterator_next_1->Y6,slot_zip_iter->Y7,entry_zip_next->Y8,args_zip_next_1->Y9,slot_dict_items->Za,slot_dict_iter->Zb,slot_dict_keyiterator_next->UW,slot_list_append->Zc,type_list_append->Zd
open PySem.Obj renaming data_mapFields->II,isFreed_of_fields->Ze,cls_mapFields->Zf
open PySem.SeqAt.EqAt renaming int_int->UX,str_str->UY,int_str->Zg,str_int->Zh,none_bool->abJ,none_int->abK,none_str->abL,bool_none->abM,bool_bool->abN,bool_int->abO,bool_str->abP,int_none->abQ,int_bool->abR,str_none->abS,str_bool->abT
open PySem.Code renaming quiet_builtin->UZ
open PySem.PyData renaming shownKv_eq->U0
open PyProof.Rows.F renaming plain_set_update_loop->U1,entry_set_update_loop->Zi
open PySem.Around renaming frames_deeper->Zj,under_plainId->Zk
open PySem.ReprEntriesK renaming of_two->Zl
open List.Pairwise renaming imp_of_mem->Zm
open PySem.SeqAt renaming eqv_refl->Zn
open PySem.EqNone renaming eq_none_none->abU,eq_none_bool->abV,eq_none_int->abW,eq_none_str->abX,eq_bool_none->abY,eq_int_none->abZ,eq_str_none->ab0,ne_none_none->ab1,ne_none_bool->ab2,ne_none_int->ab3,ne_none_str->ab4,ne_bool_none->ab5,ne_int_none->ab6,ne_str_none->ab7
open PySem.EqMixed renaming eq_bool_str->ab8,eq_int_str->ab9,eq_str_bool->aca,eq_str_int->acb,ne_bool_str->acd,ne_int_str->ace,ne_str_bool->acf,ne_str_int->acg
open PySem.Heap.Ns1 renaming of_empty->ach
open PySem.MeetsSeq renaming list_pop_at->aci
open PySem.SeqAt.RcNeAt renaming lists_lengths->acj
open PySem.SeqAt.RcAt renaming none_str->ack,bool_str->acm,int_str->acn,tuple_str->aco,list_str->acp
open PySem.AutoSeq1 renaming sub_tuple_tuple->acq
open Option renaming some->ae,none->ah
open Bool renaming true->ag,false->af
open PySem renaming Value->au,Shared->aI,Heap->aK,Addr->ai,Expr->aD,Around->dj,Stmt->bK,Program->cT,World->cj,Scope->kz
open PySem PySem.Spec PyProof.Rows
namespace L2
noncomputable abbrev Key:=Sum Int Str
noncomputable def vA:Key->au->Bool
 |.inl k,v=>Value.isInt k v
 |.inr x,v=>Value.isStrOf x v
noncomputable def acr (w:cj):Key->Int
 |.inl k=>hashInt k
 |.inr x=>hashStr w x
theorem f7:∀ {k}{v},vA k v=ag->(∃ i t,k=Sum.inl i /\ v=Value.int i t) \/ (∃ x t,k=Sum.inr x /\ v=Value.str x t)
 | .inl i,v,h=>by
   let#[t,e]:=Value.isInt_shape h;show .inl #[i,t,rfl,e]
 | .inr x,v,h=>by
   let#[t,e]:=Value.isStrOf_shape h;show .inr #[x,t,rfl,e]
theorem Gk (i) (t):vA (.inl i) (.int i t)=ag:=by simp[vA,Value.isInt]
theorem Gm (x) (t):vA (.inr x) (.str x t)=ag:=by simp[vA,Value.isStrOf]
theorem PL (a b):decide ((Sum.inl a:Key)=Sum.inl b)=(a==b):=by
 by_cases e:a=b
 .subst e;simp
 .rw[decide_eq_false λq=>e<|Sum.inl.inj q];show(beq_eq_false_iff_ne.mpr e).symm
theorem PM (a b):decide ((Sum.inr a:Key)=Sum.inr b)=decide (a=b):=by
 by_cases e:a=b
 .simp
 .rw[decide_eq_false λq=>e<|Sum.inr.inj q,decide_eq_false e]
theorem PN (a:Int) (b:Str):decide ((Sum.inl a)=Sum.inr b)=af:=decide_eq_false λq=>nomatch q
theorem PP (a:Str) (b:Int):decide ((Sum.inr a)=Sum.inl b)=af:=decide_eq_false λq=>nomatch q
def dW (prog) (w):PySem.KeyKind prog w Key where
 is:=vA
 hash:=acr w
 inj:=λv a b ha hb=>by
  rcases f7 ha with⟨i,t,rfl,rfl⟩|⟨x,t,rfl,rfl⟩
  .rcases f7 hb with⟨j,u,rfl,e⟩|⟨y,u,rfl,e⟩
   .injection e with e1 _;rw[e1]
   .show nomatch e
  .rcases f7 hb with⟨j,u,rfl,e⟩|⟨y,u,rfl,e⟩
   .show nomatch e
   .injection e with e1 _;rw[e1]
 byValue:=λk v h=>by
  rcases f7 h with⟨i,t,rfl,rfl⟩|⟨x,t,rfl,rfl⟩<;>rfl
 pyHash:=λhv h=>by
  rcases f7 hv with⟨i,t,rfl,rfl⟩|⟨x,t,rfl,rfl⟩
  .show wpAny_pyHash_int h
  .show wpAny_pyHash_str h
 eqBool:=λhu hv h=>by
  rcases f7 hu with⟨i,t,rfl,rfl⟩|⟨x,t,rfl,rfl⟩
  .rcases f7 hv with⟨j,u,rfl,rfl⟩|⟨y,u,rfl,rfl⟩
   .rw[PL]at h;show W9 h
   .rw[PN]at h;show Zg i t y u _ _ _ _ h
  .rcases f7 hv with⟨j,u,rfl,rfl⟩|⟨y,u,rfl,rfl⟩
   .rw[PP]at h;show Zh x t j u _ _ _ _ h
   .rw[PM]at h;show wpAny_eqBool_str h
 «strs»:=λk x t v h=>by
  rcases f7 h with⟨i,u,rfl,e⟩|⟨y,u,rfl,e⟩
  .show nomatch e
  .injection e with e1 _;subst e1;cases v<;>rfl
inductive V where
 |non|bl (b:Bool)|int (i:Int)|str (x:Str)|nI (b:Array UInt8)|rS (b:UInt64)|ref (a:ai)|ty (n:String)
 deriving DecidableEq
noncomputable def RelV:V->au->zk
 |.non,u=>u=Value.none
 |.bl b,u=>u=Value.bool b
 |.int i,u=>∃ t,u=Value.int i t
 |.str x,u=>∃ t,u=Value.str x t
 |.nI b,u=>∃ t,u=Value.bytes b t
 |.rS b,u=>∃ t,u=Value.float b t
 |.ref a,u=>u=Value.ref a
 |.ty n,u=>u=Value.type n
abbrev Vals:List V->List au->zk:=Paired RelV
theorem Vals.length (r:Vals xs us):xs.length=us.length:=Paired.length r
theorem Vals.get:∀ {xs}{us}{i:Nat}{x},Vals xs us->xs[i]?=ae x->∃ u,us[i]?=ae u /\ RelV x u
 |_,_,_,_,.nil,e=>by simp at e
 |_,_,0,_,.cons r _,e=>by simp at e;subst e;show#[_,rfl,r]
 | _,_,i+1,x,.cons _ t,e=>by
   let#[u,h1,h2]:=Vals.get t (by simpa using e);show#[u,by simpa using h1,h2]
theorem Vals.set (r:RelV x u):∀ {xs}{us} (i),Vals xs us->Vals (xs.set i x) (us.set i u)
 |_,_,_,.nil=>.nil
 |_,_,0,.cons _ t=>.cons r t
 |_,_,i+1,.cons q t=>.cons q<|Vals.set r i t
theorem Vals.append:∀ {xs ys}{us ws},Vals xs us->Vals ys ws->Vals (xs++ys) (us++ws)
 |_,_,_,_,.nil,s=>s
 |_,_,_,_,.cons r t,s=>.cons r<|Vals.append t s
theorem Vals.take:∀ {xs}{us} (n),Vals xs us->Vals (xs.take n) (us.take n)
 |_,_,0,_=>.nil
 |_,_,_+1,.nil=>.nil
 |_,_,n+1,.cons r t=>.cons r<|Vals.take n t
theorem Vals.drop:∀ {xs}{us} (n),Vals xs us->Vals (xs.drop n) (us.drop n)
 |_,_,0,r=>r
 |_,_,_+1,.nil=>.nil
 |_,_,n+1,.cons _ t=>Vals.drop n t
def kO:Option V->Option au->zk
 |some v,ae u=>RelV v u
 |none,ah=>True
 |_,_=>False
def KV {κ}:List (κ×V)->List (κ×au)->zk:=Paired λ(p) (q)=>p.1=q.1 /\ RelV p.2 q.2
noncomputable def kV:Key->V
 |.inl i=>.int i
 |.inr x=>.str x
inductive HO where
 /-- a list -/
 |lst (xs:List V)
 /-- a tuple (never changes) -/
 |tup (xs:List V)
 /-- a dict whose keys are ints and texts;one whose keys are tuples of ints and texts (the empty one is both) -/
 |dK (ao:List<|Key×V)|dT (ao:List<|List Key×V)
 /-- a set of ints: its members,its size -/
 |set (S:Int->Bool) (n:Nat)
 /-- an instance of the class at C,its dict at dx,its attributes -/
 |ins (C dx:ai) (fs:List<|Str×V)
 /-- the dict of the instance at x -/
 |own (x:ai)
 /-- the dict of an exception -/
 |xd (fs:List<|Str×V)
 /-- a bound method,f of x -/
 |met (f x:ai)
 /-- a range object lo,lo+1,.. below hi -/
 |xj (lo hi:Int)
 /-- a thing that is known to the object (the ag0;a dict while a loop walks it): read,never written while it is so -/
 |bA (o:Obj) (u:HO)
 /-- a code object's table -/
 |qD (ps:Array au)
 /-- any other thing,by what is ag of its one object (a def of acs own: ag1 a S n:=HO.ext λh=>..) -/
 |ext (φ:aK->zk)
noncomputable abbrev Hp:=ai->Option HO
noncomputable def upd (H:Hp) (a:ai) (o:HO):Hp:=λb=>if b=a then ae o else H b
theorem fu:upd H a o a=ae o:=by unfold upd;rw[if_pos rfl]
theorem fv (h:b≠a):upd H a o b=H b:=by unfold upd;rw[if_neg h]
theorem Bp:upd (upd H a o) a u=upd H a u:=by
 funext b;unfold upd;split<;>rfl
theorem SW {H:Hp}(h:H a=ae o) (h':H b=ae u) (d:o≠u):a≠b:=by
 intro e;subst e;rw[h]at h';show d<|Option.some.inj h'
theorem fI {H:Hp}(h:H a=ae o) (h':H b=ah):a≠b:=by
 intro e;subst e;rw[h]at h';cases h'
section
variable (P:cT) (w:cj)
noncomputable def cq (H:Hp) (h:aK) (a:ai):HO->zk
 |.lst xs=>xs.length<=sizeLine /\ ∃ (its:List au) (n:Nat),Vals xs its /\ h.get? a=ae { cls:=.type "list",data:=.seq its.toArray n }
 |.tup xs=>xs.length<=sizeLine /\ ∃ its,Vals xs its /\ IsTup h a its.toArray
 |.dK ao=>ao.length<=sizeLine /\ (a==sysModules)=af /\ ∃ vs,KV ao vs /\ h.DictOf (dW P w) a vs
 |.dT ao=>ao.length<=sizeLine /\ (a==sysModules)=af /\ ∃ xs,
  Paired (λ(p) (q)=>p.1=q.1 /\ H q.2.1=ae (.tup<|p.1.map kV) /\ RelV p.2 q.2.2) ao xs /\
  ∃ o es ep,h.get? a=ae o /\ o.ExactDict /\ o.data=.dict es ep /\ es.toList=xs.map (entryOfKey<|tupleKind<|dW P w) /\ (xs.map (·.1)).Nodup
 |.set S n=>h.SetOf (intKind P w) a S n
 |.ins C dx fs=>H dx=ae (.own a) /\ fs.length<=1000 /\ dx≠a /\ h.get? a=ae (PySem.W.instObj C dx) /\
  ∃ mA,h.Ns1 dx mA /\ (∀ f,kO (fs.lookup f)<|mA f) /\ PySem.Within mA (fs.map (·.1))
 |.own _=>∃ o,h.get? a=ae o
 |.xd fs=>∃ mA,h.Ns1 a mA /\ ∀ f,kO (fs.lookup f) (mA f)
 |.xj lo hi=>∃ t u v,h.get? a=ae { cls:=.type "range",data:=.fields (List.toArray [.int lo t,.int hi u,.int 1 v]) }
 |.bA o u=>h.get? a=ae o /\ cq H h a u
 |.qD ps=>h.get? a=ae { cls:=.none,data:=.fields ps }
 |.met f x=>h.get? a=ae (PySem.W.methodObj (.ref f)<|.ref x)
 |.ext φ=>φ h /\ (∃ o,h.get? a=ae o) /\ ∀ h1 h2,φ h1->(∀ o,h1.get? a=ae o->h2.get? a=ae o)->φ h2
def cu (H:Hp) (h:aK):zk:=∀ a o,H a=ae o->cq P w H h a o
end

theorem cq.lt (x:cq P w H h a o):a<h.objs.size:=by
 cases o with
 |lst xs=>let#[_,_,_,_,e]:=x;show ba e
 |tup xs=>let#[_,_,_,p]:=x;show p.lt
 |dK ao=>let#[_,_,_,_,o,_,_,e,_]:=x;show ba e
 |dT ao=>let#[_,_,_,_,o,_,_,e,_]:=x;show ba e
 |set S n=>let#[o,_,_,_,e,_]:=x;show ba e
 |ins C dx fs=>let#[_,_,_,e,_]:=x;show ba e
 |own y=>let#[_,e]:=x;show ba e
 |xd fs=>let#[_,#[_,_,_,e,_],_]:=x;show ba e
 |xj lo hi=>let#[_,_,_,e]:=x;show ba e
 |bA ob u=>let#[e,_]:=x;show ba e
 |qD ps=>show ba<|x
 |met f y=>show ba<|x
 |ext φ=>let#[_,#[_,e],_]:=x;show ba e
theorem Paired.U2:∀ {l₁}{l₂},Paired F l₁ l₂->(∀ a b,F a b->G a b)->Paired G l₁ l₂
 |_,_,.nil,_=>.nil
 |_,_,.cons r t,f=>.cons (f _ _ r)<|Paired.U2 t f
theorem cq.eK (x:cq P w H h a o) (k:∀ b u,(b=a \/ H b=ae (.own a))->h.get? b=ae u->h'.get? b=ae u)
 (ho:∀ b,H b=ae (.own a)->H' b=ae (.own a)) (ht:∀ b xs,H b=ae (.tup xs)->H' b=ae (.tup xs)):cq P w H' h' a o:=by
 induction o with
 |lst xs=>let#[z,its,n,r,e]:=x;show#[z,its,n,r,k _ _ (.inl zj) e]
 |tup xs=>let#[z,its,r,ob,e,c]:=x;show#[z,its,r,ob,k _ _ (.inl zj) e,c]
 |dK ao=>let#[z,y,vs,r,ob,es,ep,e,c]:=x;show#[z,y,vs,r,ob,es,ep,k _ _ (.inl zj) e,c]
 |dT ao=>
   let#[z,y,xs,r,ob,es,ep,e,c]:=x;show#[z,y,xs,Paired.U2 r λp q z=>#[z.1,ht _ _ z.2.1,z.2.2],ob,es,ep,k _ _ (.inl zj) e,c]
 |set S n=>let#[ob,es,ep,t,e,c]:=x;show#[ob,es,ep,t,k _ _ (.inl zj) e,c]
 |ins C dx fs=>
   let#[d,z,ne,e,mA,#[od,es,ep,e2,c],r]:=x;show#[ho _ d,z,ne,k _ _ (.inl zj) e,mA,#[od,es,ep,k _ _ (.inr d) e2,c],r]
 |own y=>let#[ob,e]:=x;show#[ob,k _ _ (.inl zj) e]
 |xd fs=>let#[mA,#[od,es,ep,e,c],r]:=x;show#[mA,#[od,es,ep,k _ _ (.inl zj) e,c],r]
 |xj lo hi=>let#[t,u,v,e]:=x;show#[t,u,v,k _ _ (.inl zj) e]
 |bA ob u ih=>let#[e,q]:=x;show#[k _ _ (.inl zj) e,ih q]
 |qD ps=>
   show k a _ (.inl zj) x
 |met f y=>
   show k a _ (.inl zj) x
 |ext φ=>let#[p,#[o,e],st]:=x;show#[st _ _ p λo q=>k _ _ (.inl zj) q,#[o,k _ _ (.inl zj) e],st]
theorem cu.lt (x:cu P w H h) (e:H a=ae o):a<h.objs.size:=(x a o e).lt
theorem cu.fresh (x:cu P w H h) (e:h.objs.size<=a):H a=ah:=by
 cases q:H a with
 |none=>rfl
 |some u=>show absurd (dR (x.lt q) e)<|eZ _
theorem cu.kept (x:cu P w H h) (k:∀ b u,h.get? b=ae u->h'.get? b=ae u):cu P w H h':=λa o e=>
 (x a o e).eK (λb u _ q=>k b u q) (λ_ q=>q) λ_ _ q=>q
theorem cu.laid (x:cu P w H h) (k:∀ b u,h.get? b=ae u->h'.get? b=ae u) (hp:h.objs.size<=a) (new:cq P w (upd H a o) h' a o):cu P w (upd H a o) h':=λb u e=>by
 have hn:=x.fresh hp;by_cases hb:b=a
 .subst hb;rw[fu]at e;cases e;show new
 .rw[fv hb]at e;show(x b u e).eK (λc v _ q=>k c v q) (λc q=>by rw[fv<|fI q hn];show q) λc xs q=>by rw[fv<|fI q hn];show q
def Rd (H:Hp) (a:ai) (u:HO):zk:=H a=ae u \/ ∃ o,H a=ae (.bA o u)
theorem Rd.ok (r:Rd H a u) (x:cu P w H h):cq P w H h a u:=by
 rcases r with r|⟨o,r⟩
 .show x a u r
 .let#[_,q]:=x a _ r;show q
noncomputable def Eb:Option HO->zk
 |some (.lst _)=>True
 |some (.dK _)=>True
 |some (.dT _)=>True
 |some (.set _ _)=>True
 |some (.ins _ _ _)=>True
 |some (.ext _)=>True
 |_=>False

theorem cu.write (ok:cu P w H h) (mu:Eb<|H x) (he:e=x \/ H e=ae (.own x)) (k:∀ b u,b≠e->h.get? b=ae u->h'.get? b=ae u) (xk:∃ u,h'.get? e=ae u)
 (new:cq P w (upd H x o') h' x o'):cu P w (upd H x o') h':=λb u q=>by
 have Zo:∀ c y,H c=ae (.own y)->c≠x:=λc y r z=>by subst z;rw[r]at mu;show mu
 by_cases hb:b=x
 .subst hb;rw[fu]at q;cases q;show new
 .rw[fv hb]at q;by_cases vB:b=e
  .have q':H b=ae (.own x):=by
    rcases he with z|z
    .show absurd (vB.trans z) hb
    .rw[vB];show z
   rw[q]at q';cases q';let#[v,hv]:=xk;show#[v,by rw[vB];show hv]
  .refine(ok b u q).eK (λc v hc r=>k c v ?_ r) (λc r=>by rw[fv<|Zo c b r];show r) λc xs r=>by rw[fv<|(λc xs r z=>by subst z;rw[r]at mu;show mu) c xs r];show r
   rcases hc with rfl|hc
   .show vB
   .rintro rfl;rcases he with z|z
    .show Zo c b hc z
    .rw[hc]at z;cases z;show hb zj
structure Un (fs ex:List ai) (H H':Hp) (h h':aK):zk where
 keep:∀ b o,h.get? b=ae o->H b=ah->b∉fs->b∉ex->h'.get? b=ae o
 slot:∀ b o,h.get? b=ae o->H b=ah->b∈fs->b∉ex->∃ sl,h'.get? b=ae { o with slots:=sl }
 free:∀ b o,h.get? b=ae o->H b=ah->b∉ex->H' b=ah
 there:∀ b o,h.get? b=ae o->b∉ex->∃ o',h'.get? b=ae o'
 kA:∀ b xs,H b=ae (.tup xs)->H' b=ae (.tup xs)
 kP:∀ b o u,H b=ae (.bA o u)->H' b=ae (.bA o u)
 nJ:∀ b ps,H b=ae (.qD ps)->∃ more,H' b=ae (.qD<|ps++more)

theorem Un.any (u:Un fs ex H H1 h h1) (q:h.get? b=ae ob) (n:H b=ah) (hx:b∉ex):∃ sl,h1.get? b=ae { ob with slots:=sl }:=by
 by_cases hb:b∈fs
 .show u.slot b ob q n hb hx
 .show#[ob.slots,u.keep b ob q n hb hx]
theorem Un.kept (k:∀ b u,h.get? b=ae u->h'.get? b=ae u):Un fs ex H H h h' :=
 #[λb ob q _ _ _=>k b ob q,λb ob q _ _ _=>#[ob.slots,k b ob q],λ_ _ _ n _=>n,λb ob q _=>#[ob,k b ob q],λ_ _ q=>q,λ_ _ _ q=>q,λ_ ps q=>#[#[],by rw[q];simp]]
theorem Un.refl:Un fs ex H H h h:=Un.kept λ_ _ q=>q
theorem Un.laid (k:∀ b u,h.get? b=ae u->h'.get? b=ae u) (hp:h.objs.size<=a) (hn:H a=ah):Un fs ex H (upd H a o) h h' where
 keep:=λb u q _ _ _=>k b u q
 slot:=λb u q _ _ _=>#[u.slots,k b u q]
 free:=λb u q n _=>by rw[fv<|bN<|dR (ba q) hp];show n
 there:=λb u q _=>#[u,k b u q]
 kA:=λb xs q=>by rw[fv<|fI q hn];show q
 kP:=λb u xs q=>by rw[fv<|fI q hn];show q
 nJ:=λb ps q=>#[#[],by rw[fv<|fI q hn,q];simp]
theorem Un.write (mu:Eb<|H x) (he:e=x \/ H e=ae (.own x)) (k:∀ b u,b≠e->h.get? b=ae u->h'.get? b=ae u) (xk:∃ u,h'.get? e=ae u):Un fs ex H (upd H x o) h h':=by
 have hx:∀ b,H b=ah->b≠x:=λb n z=>by subst z;rw[n]at mu;show mu
 have hb:∀ b,H b=ah->b≠e:=λb n z=>by
  subst z;rcases he with r|r
  .show hx b n r
  .rw[n]at r;cases r
 have hm:∀ b u,H b=ae u->¬ Eb (ae u)->b≠x:=λb u q nm z=>by subst z;rw[q]at mu;show nm mu
 refine#[λb u q n _ _=>k b u (hb b n) q,λb u q n _ _=>#[u.slots,k b u (hb b n) q],λb u q n _=>by rw[fv<|hx b n];show n,λb u q _=>?_,
  λb xs q=>by rw[fv<|hm b _ q λz=>z];show q,λb u xs q=>by rw[fv<|hm b _ q λz=>z];show q,λb ps q=>#[#[],by rw[fv<|hm b _ q λz=>z,q];simp]]
 by_cases vB:b=e
 .subst vB;show xk
 .show#[u,k b u vB q]
noncomputable def acu (h:aK) (H:Hp):List ai:=(List.range h.objs.size).filter λa=>(H a).isSome
def xm (h:aK) (H:Hp):aK:=PySem.W.hideAll h<|acu h H
theorem MT (e:(xm h H).get? b=ae o):h.get? b=ae o /\ H b=ah:=by
 have e':=PySem.W.of_hideAll _ e;refine#[e',?_];cases q:H b with
 |none=>rfl
 |some x=>
   have z:(xm h H).get? b=ah:=PySem.W.hideAll_none _ (List.mem_filter.mpr #[List.mem_range.mpr<|ba e',by simp[q]]);rw[z]at e;cases e
structure Mod (K:PySem.W.Frag) (mg:Str->Option au) (base:aK):zk where
 uk:K.In base
 glob:base.Ns mainGlobals mg
 blt:∃ mb,base.Ns builtinsNs mb /\ ∀ x:Str,x ≠ "__name__"->mb x=bootBuiltins x
 nolimit:base.NoLimit
structure Cx where
 prog:cT
 w:cj
 K:PySem.W.Frag
 mg:Str->Option au
 base:aK
 A:dj
 N:List Str
 s₀:aI
 H₀:Hp
 env:Env
 outer:List Env
 stack:List Env
 ex:List ai
 fn:Str->Bool
 calm:Bool
 pn:List (ai×Obj)
 xe:au->aI->zk
noncomputable def hZ (l:List Env):List ai:=l.filterMap (·.frame)
abbrev Cx.fs (X:Cx):List ai:=hZ X.outer
def qH (sc:kz) (x:Str):zk:=sc.names.lookup x=ae .local \/ sc.names.lookup x=ae .cell \/ sc.names.lookup x=ae .free
def Loc (sc:kz) (x:Str):zk:=sc.names.lookup x=ae .local \/ sc.names.lookup x=ae .cell
def Look (env:Env) (h:aK) (m:Str->Option au) (x:Str) (u:au):zk:=
 (env.kindOf x=ae .local /\ m x=ae u) \/ ((env.kindOf x=ae .cell \/ env.kindOf x=ae .free) /\ ∃ c,env.cells.lookup x=ae c /\ h.IsCell c (ae u))
structure Cx.Ok (X:Cx):zk where
 mod:Mod X.K X.mg X.base
 kind:X.env.scope.kind=.function
 glob:X.env.globals=mainGlobals
 blt:X.env.builtins=builtinsNs
 above:X.s₀.heap.objs.size<=X.env.locals
 inj:∀ x y c,X.env.cells.lookup x=ae c->X.env.cells.lookup y=ae c->x=y
 has:∀ x,(X.env.kindOf x=ae .cell \/ X.env.kindOf x=ae .free)->∃ c,X.env.cells.lookup x=ae c
 xn:∀ x c,X.fn x=ag->X.env.cells.lookup x=ae c->X.s₀.heap.objs.size<=c
 hd:X.calm=ag->X.A.handled=ah
 frames:X.A.frames=ae X.stack
 Ec:X.stack=X.outer \/ (X.stack=X.env::X.outer /\ X.env.frame=ae X.env.locals)
 vC:∀ b∈X.ex,b≠X.env.locals /\ ∀ x c,X.env.cells.lookup x=ae c->c≠b
 bs:∀ b o,X.base.get? b=ae o->X.s₀.heap.get? b=ae o /\ X.H₀ b=ah
 rT:X.base.objs.size<=X.s₀.heap.objs.size
 xo:∀ b o,X.base.get? b=ae o->b∉X.ex
 vD:∀ b∈X.ex,b∉X.fs
 kQ:X.s₀.heap.FunFrames X.base X.outer
 qI:∀ b∈X.fs,X.H₀ b=ah
structure Inv (X:Cx) (pins:List<|ai×Obj) (σ:List<|Option V) (H:Hp) (s:aI):zk where
 ok:X.Ok
 os:s.os=X.s₀.os
 bare:AllBare s.gens
 base:Un X.fs X.ex X.H₀ H X.s₀.heap s.heap
 loc:∃ m,s.heap.Ns X.env.locals m /\ ∀ (i:Nat) (x:Str) (v:V),X.N[i]?=ae x->σ[i]?=ae (ae v)->qH X.env.scope x->∃ u,RelV v u /\ Look X.env s.heap m x u
 cell:∀ x c,X.env.cells.lookup x=ae c->∃ v,s.heap.IsCell c v
 free:H X.env.locals=ah
 nK:∀ x c,X.env.cells.lookup x=ae c->H c=ah
 pin:∀ p∈X.pn++pins,s.heap.get? p.1=ae p.2 /\ H p.1=ah /\ p.1≠X.env.locals /\ p.1∉X.fs /\ ∀ v,p.2.data≠.cell v
 ay:cu X.prog X.w H s.heap
 len:σ.length=X.N.length
section
variable {X:Cx}
theorem Cx.Ok.acv (ok:X.Ok) (e:X.base.get? b=ae o):b∉X.fs:=λhb=>by
 have:=(ok.kQ.mem hb).1;rw[e]at this;cases this
theorem Inv.bs (I:Inv X pins σ H s):∀ b o,X.base.get? b=ae o->s.heap.get? b=ae o /\ H b=ah:=λb o e=>
 #[I.base.keep b o (I.ok.bs b o e).1 (I.ok.bs b o e).2 (I.ok.acv e)<|I.ok.xo b o e,I.base.free b o (I.ok.bs b o e).1 (I.ok.bs b o e).2<|I.ok.xo b o e]
theorem Inv.bk (I:Inv X pins σ H s):∀ b o,X.base.get? b=ae o->s.heap.get? b=ae o:=λb o e=>(I.bs b o e).1
theorem Inv.mod (I:Inv X pins σ H s):Mod X.K X.mg X.base:=I.ok.mod
theorem Inv.cK (I:Inv X pins σ H s):X.K.In s.heap:=I.ok.mod.uk.keeps I.bk
theorem Inv.lt (I:Inv X pins σ H s):X.env.locals<s.heap.objs.size:=let ⟨_,hn,_⟩:=I.loc;hn.lt
theorem Inv.sz (I:Inv X pins σ H s):X.s₀.heap.objs.size<=s.heap.objs.size:=cw I.ok.above<|kM I.lt
theorem Inv.acw (I:Inv X pins σ H s) (h:s.heap.objs.size<=a):a∉X.fs:=λhb=>by
 let#[_,o,ho,_]:=I.ok.kQ.mem hb;show absurd (dR (ba ho)<|cw I.sz h)<|eZ _
theorem Inv.sX (I:Inv X pins σ H s):∀ x c,X.env.cells.lookup x=ae c->c≠X.env.locals:=λx c e z=>by
 let#[v,o,ho,hd]:=I.cell x c e;let#[m,#[o',es,ep,d9,rV,_],_]:=I.loc;rw[z,d9]at ho;cases ho;rw[rV]at hd;cases hd
theorem Inv.kQ (I:Inv X pins σ H s):s.heap.FunFrames X.base X.outer:=by
 have all:∀ (l),(∀ b∈hZ l,b∈X.fs)->X.s₀.heap.FunFrames X.base l->s.heap.FunFrames X.base l:=by
  intro l;induction l with
  |nil=>intro _ _;trivial
  |cons env r ih=>
    intro hs hl;let#[hk,#[L,o,hf,hn,ho,hd],hr]:=hl;have hL:=hs L (by unfold hZ;rw[qk,hf];show bO);let#[sl,e]:=I.base.slot L o ho (I.ok.qI L hL) hL λz=>I.ok.vD L z hL;show#[hk,#[L,_,hf,hn,e,hd],ih (λb hb=>hs b (by unfold hZ;rw[qk,hf];show bD _ hb)) hr]
 show all X.outer (λ_ hb=>hb) I.ok.kQ
theorem Inv.stack (I:Inv X pins σ H s):s.heap.FunFrames X.base X.stack:=by
 rcases I.ok.Ec with e|⟨e,hf⟩
 .rw[e];show I.kQ
 .rw[e];let#[m,hn,_]:=I.loc;show .cons (by rw[I.ok.kind];decide) hf hn (QL<|cw I.ok.rT I.ok.above) I.kQ
theorem Inv.xp (I:Inv X pins σ H s):∀ b∈hZ X.stack,b∈X.env.locals::X.fs:=λb hb=>by
 rcases I.ok.Ec with e|⟨e,hf⟩
 .rw[e]at hb;show bD _ hb
 .rw[e]at hb;unfold hZ at hb;rw[qk,hf]at hb;show hb
theorem Inv.U3 (I:Inv X pins σ H s):∀ b∈hZ X.stack,H b=ah:=λb hb=>by
 rcases a9.mp (I.xp b hb) with e|hb
 .rw[e];show I.free
 .let#[_,o,ho,_]:=I.ok.kQ.mem hb;show I.base.free b o ho (I.ok.qI b hb) λz=>I.ok.vD b z hb
theorem Inv.step {ch:List ai}(I:Inv X pins σ H s)
 (rW:∀ b∈ch,(b∈X.ex \/ X.s₀.heap.objs.size<=b) /\ b≠X.env.locals /\ (∀ x c,X.env.cells.lookup x=ae c->c≠b) /\ ∀ p∈X.pn++pins,p.1≠b)
 (keep:∀ b o,b≠X.env.locals->b∉X.fs->b∉ch->s.heap.get? b=ae o->H b=ah->h'.get? b=ae o)
 (slot:∀ b o,b≠X.env.locals->b∈X.fs->b∉ch->s.heap.get? b=ae o->H b=ah->∃ sl,h'.get? b=ae { o with slots:=sl }) (free:∀ b o,b∉ch->s.heap.get? b=ae o->H b=ah->H' b=ah)
 (there:∀ b o,b∉ch->s.heap.get? b=ae o->∃ o',h'.get? b=ae o')
 (kA:∀ b xs,H b=ae (.tup xs)->H' b=ae (.tup xs)) (kP:∀ b o u,H b=ae (.bA o u)->H' b=ae (.bA o u)) (nJ:∀ b ps,H b=ae (.qD ps)->∃ more,H' b=ae (.qD<|ps++more))
 (ns:∀ m,s.heap.Ns X.env.locals m->h'.Ns X.env.locals m) (ay:cu X.prog X.w H' h') (hg:AllBare g') :
 Inv X pins σ H' { s with heap:=h',gens:=g',drawn:=d',toks:=t' }:=by
 have Zp:∀ b o,X.s₀.heap.get? b=ae o->b≠X.env.locals:=λb o e=>bN<|dR (ba e) I.ok.above;have qp:∀ b o,X.s₀.heap.get? b=ae o->b∉X.ex->b∉ch:=λb o e hx hb=>by
  rcases(rW b hb).1 with z|z
  .show hx z
  .show absurd (dR (ba e) z)<|eZ _
 have cellK:∀ x c,X.env.cells.lookup x=ae c->∀ v,s.heap.IsCell c v->h'.IsCell c v:=λx c e v ⟨o,ho,hd⟩=>by
  have qJ:=λz=>(rW c z).2.2.1 x c e zj;by_cases hc:c∈X.fs
  .let#[sl,q]:=slot c o (I.sX x c e) hc qJ ho<|I.nK x c e;show#[_,q,hd]
  .show#[o,keep c o (I.sX x c e) hc qJ ho<|I.nK x c e,hd]
 refine#[I.ok,I.os,hg,#[λb o e n hb hx=>(keep b o (Zp b o e) hb (qp b o e hx) (I.base.keep b o e n hb hx)<|I.base.free b o e n hx),λb o e n hb hx=>?_,λb o e n hx=>?_,λb o e hx=>?_,λb xs e=>kA b xs<|I.base.kA b xs e,λb o xs e=>kP b o xs<|I.base.kP b o xs e,λb ps e=>?_],?_,λx c e=>?_,?_,λx c e=>?_,λp hp=>?_,ay,I.len]
 .let#[sl,e1]:=I.base.slot b o e n hb hx;let#[nu,e2]:=slot b _ (Zp b o e) hb (qp b o e hx) e1<|I.base.free b o e n hx;show#[nu,e2]
 .let#[o',e1]:=I.base.there b o e hx;show free b o' (qp b o e hx) e1<|I.base.free b o e n hx
 .let#[o',e1]:=I.base.there b o e hx;show there b o' (qp b o e hx) e1
 .let#[m1,e1]:=I.base.nJ b ps e;let#[m2,e2]:=nJ b _ e1;show#[m1++m2,by rw[e2,Array.append_assoc]]
 .let#[m,hn,hl]:=I.loc;refine#[m,ns m hn,λi x v e1 e2 e3=>?_];let#[u,r,l]:=hl i x v e1 e2 e3;refine#[u,r,?_];rcases l with l|⟨k,c,e,z⟩
  .show .inl l
  .show .inr #[k,c,e,cellK x c e _ z]
 .let#[v,z]:=I.cell x c e;show#[v,cellK x c e v z]
 .let#[m,#[o,_,_,ho,_],_]:=I.loc;show free _ o (λz=>(rW _ z).2.1 zj) ho I.free
 .let#[v,o,ho,hd]:=I.cell x c e;show free c o (λz=>(rW c z).2.2.1 x c e zj) ho<|I.nK x c e
 .let#[e,n,ne,nf,d]:=I.pin p hp;have qJ:=λz=>(rW p.1 z).2.2.2 p hp zj;show#[keep p.1 p.2 ne nf qJ e n,free p.1 p.2 qJ e n,ne,nf,d]
theorem Inv.un (I:Inv X pins σ H s) (u:Un X.fs [] H H' s.heap h') (ay:cu X.prog X.w H' h'):Inv X pins σ H' { s with heap:=h',toks:=t' }:=by
 let#[m,#[o,es,ep,ho,r],_]:=id I.loc;let#[sl,hL]:=u.any ho I.free zg;show I.step (ch:=[]) (λ_ z=>nomatch z) (λb o _ hb _ e n=>u.keep b o e n hb zg) (λb o _ hb _ e n=>u.slot b o e n hb zg) (λb o _ e n=>u.free b o e n zg) (λb o _ e=>u.there b o e zg) u.kA u.kP u.nJ (λm' hm=>by
  let#[o',es',IJ,d9,r']:=hm;rw[ho]at d9;cases d9;show#[_,es',IJ,hL,r']) ay I.bare
theorem Inv.call (I:Inv X pins σ H s) (u:Un (hZ X.stack) ch H H' s.heap h') (ay:cu X.prog X.w H' h') (hg:AllBare g')
 (rW:∀ b∈ch,(b∈X.ex \/ X.s₀.heap.objs.size<=b) /\ b≠X.env.locals /\ (∀ x c,X.env.cells.lookup x=ae c->c≠b) /\ ∀ p∈X.pn++pins,p.1≠b) :
 Inv X pins σ H' { s with heap:=h',gens:=g',drawn:=d',toks:=t' }:=by
 let#[m,#[o,es,ep,ho,r],_]:=id I.loc;let#[sl,hL]:=u.any ho I.free λz=>(rW _ z).2.1 zj;show I.step rW (λb o hL hb hc e n=>u.keep b o e n (λz=>(a9.mp<|I.xp b z).elim hL hb) hc) (λb o _ _ hc e n=>u.any e n hc) (λb o hc e n=>u.free b o e n hc) (λb o hc e=>u.there b o e hc) u.kA u.kP u.nJ (λm' hm=>by
  let#[o',es',IJ,d9,r']:=hm;rw[ho]at d9;cases d9;show#[_,es',IJ,hL,r']) ay hg
theorem Inv.turned (I:Inv X pins σ H s) (k:∀ b o,b≠it->s.heap.get? b=ae o->h'.get? b=ae o) (hn:H it=ah) (hL:it≠X.env.locals)
 (h1:it∈X.ex \/ X.s₀.heap.objs.size<=it) (h2:∀ x c,X.env.cells.lookup x=ae c->c≠it) (h3:∀ p∈X.pn++pins,p.1≠it):Inv X pins σ H { s with heap:=h',toks:=t' }:=by
 have Zq:∀ b u,H b=ae u->b≠it:=λb u e z=>by rw[z,hn]at e;cases e
 refine I.step (ch:=[it]) (λb hb=>?_) (λb o _ _ hc e _=>k b o (λz=>hc (by simp[z])) e) (λb o _ _ hc e _=>#[o.slots,k b o (λz=>hc (by simp[z])) e]) (λ_ _ _ _ n=>n)
  (λb o hc e=>#[o,k b o (λz=>hc (by simp[z])) e]) (λ_ _ e=>e) (λ_ _ _ e=>e) (λb ps e=>#[#[],by rw[e];simp]) (λm hm=>?_) (λb u e=>?_) I.bare
 .have e:b=it:=by simpa using hb
  subst e;show#[h1,hL,h2,h3]
 .let#[o,es,ep,ho,r]:=hm;show#[o,es,ep,k _ o (Ne.symm hL) ho,r]
 .refine(I.ay b u e).eK (λc v hc q=>k c v ?_ q) (λ_ q=>q) λ_ _ q=>q;rcases hc with z|z
  .rw[z];show Zq b u e
  .show Zq c _ z
theorem Inv.tok (I:Inv X pins σ H s) (t):Inv X pins σ H { s with toks:=t }:=I.un Un.refl I.ay
theorem Inv.kept (I:Inv X pins σ H s) (k:∀ b u,s.heap.get? b=ae u->h'.get? b=ae u):Inv X pins σ H { s with heap:=h',toks:=t' }:=I.un (Un.kept k)<|I.ay.kept k
theorem Inv.laid (I:Inv X pins σ H s) (k:∀ b u,s.heap.get? b=ae u->h'.get? b=ae u) (hp:s.heap.objs.size<=a) (new:cq X.prog X.w (upd H a o) h' a o) :
 Inv X pins σ (upd H a o) { s with heap:=h',toks:=t' }:=I.un (Un.laid k hp<|I.ay.fresh hp)<|I.ay.laid k hp new
theorem Inv.write (I:Inv X pins σ H s) (mu:Eb<|H x) (he:e=x \/ H e=ae (.own x)) (k:∀ b u,b≠e->s.heap.get? b=ae u->h'.get? b=ae u) (xk:∃ u,h'.get? e=ae u)
 (new:cq X.prog X.w (upd H x o) h' x o):Inv X pins σ (upd H x o) { s with heap:=h',toks:=t' }:=I.un (Un.write mu he k xk)<|I.ay.write mu he k xk new
theorem Inv.U4 (I:Inv X pins σ H s) (h:∀ p∈Ed,s.heap.get? p.1=ae p.2 /\ H p.1=ah /\ p.1≠X.env.locals /\ p.1∉X.fs /\ ∀ v,p.2.data≠.cell v):Inv X Ed σ H s:=
 #[I.ok,I.os,I.bare,I.base,I.loc,I.cell,I.free,I.nK,λp hp=>(d8.mp hp).elim (λz=>I.pin p<|nX _ z)<|h p,I.ay,I.len]
theorem oU {N:List Str}(hN:N.Nodup) {j:Nat}(a:N[i]?=ae x) (b:N[j]?=ae x):i=j:=by
 let#[h1,e1]:=List.getElem?_eq_some_iff.mp a;let#[h2,e2]:=List.getElem?_eq_some_iff.mp b;show(List.getElem_inj hN).mp (e1.trans e2.symm)
theorem AV (I:Inv X pins σ H s) (hN:X.N.Nodup) (hi:X.N[i]?=ae x) (hx:Loc X.env.scope x) (r:RelV v u)
 (h:∀ s',Inv X pins (σ.set i<|ae v) H s'->(∃ a,Heap.SameBut a s.heap s'.heap /\ (a=X.env.locals \/ X.env.cells.lookup x=ae a))->Q () s') (hf:X.fn x=ag \/ X.env.scope.names.lookup x=ae .local:=by first|show .inl zj|show .inr zj|assumption):wpAny M A (storeName X.env x u) Q E s:=by
 let#[m,hn,hl]:=id I.loc;have acx:(X.env.scope.kind==.class||(X.env.scope.kind==.module&&X.env.locals != X.env.globals))=af:=by rw[I.ok.kind];rfl
 have Zr:i<σ.length:=by rw[I.len];show(List.getElem?_eq_some_iff.mp hi).1
 have sX:=I.sX;have tracked:∀ {a}{h'},(∃ o,s.heap.get? a=ae o /\ H a=ah)->Heap.SameBut a s.heap h'->cu X.prog X.w H h':=λ{a h'} ha hs b ob e=>by
  let#[_,_,Zs]:=ha;refine(I.ay b ob e).eK (λc w' hc q=>(hs.2 c ?_).trans q) (λ_ q=>q) λ_ _ q=>q;rintro rfl;rcases hc with rfl|hc
  .rw[Zs]at e;cases e
  .rw[Zs]at hc;cases hc
 rcases hx with hk|hk
 .refine wpAny_storeName_local hk hn (λh' sY hs=>?_) acx;let#[oL,_,_,uo,_]:=id hn;refine h _ #[I.ok,I.os,I.bare,#[λb o e n hb hx=>?_,λb o e n hb hx=>?_,I.base.free,λb o e hx=>?_,I.base.kA,I.base.kP,I.base.nJ],#[_,sY,λj y v' e1 e2 e3=>?_],λy c e=>?_,I.free,I.nK,λp hp=>?_,tracked #[oL,uo,I.free] hs,by simpa using I.len] #[_,hs,.inl zj]
  .show(hs.2 b<|bN<|dR (ba e) I.ok.above).trans (I.base.keep b o e n hb hx)
  .let#[sl,e1]:=I.base.slot b o e n hb hx;show#[sl,(hs.2 b<|bN<|dR (ba e) I.ok.above).trans e1]
  .let#[o',e1]:=I.base.there b o e hx;show#[o',(hs.2 b<|bN<|dR (ba e) I.ok.above).trans e1]
  .by_cases hj:j=i
   .subst hj;rw[hi]at e1;cases e1;rw[pI Zr]at e2;cases e2;show#[u,r,.inl #[hk,by simp]]
   .rw[rM<|Ne.symm hj]at e2;let#[u',r',q]:=hl j y v' e1 e2 e3;refine#[u',r',?_];rcases q with⟨k,e⟩|⟨k,c,e,z⟩
    .refine .inl #[k,?_];have:y≠x:=λe=>hj<|oU hN e1<|e▸hi;simp[this,e]
    .show .inr #[k,c,e,z.sameBut hs<|sX y c e]
  .let#[w',z]:=I.cell y c e;show#[w',z.sameBut hs<|sX y c e]
  .let#[e,n,ne,nf,d]:=I.pin p hp;show#[(hs.2 p.1 ne).trans e,n,ne,nf,d]
 .have U5:X.fn x=ag:=by
   rcases hf with z|z
   .show z
   .rw[z]at hk;cases hk
  let#[c,hc]:=I.ok.has x<|.inl hk;let#[w',z]:=I.cell x c hc;refine wpAny_storeName_cell I.ok.kind hk hc z λh' Ee hs=>?_;let#[oc,IK,acy]:=id z;refine h { s with heap:=h' } #[I.ok,I.os,I.bare,#[λb o e n hb hx=>?_,λb o e n hb hx=>?_,I.base.free,λb o e hx=>?_,I.base.kA,I.base.kP,I.base.nJ],#[m,hn.sameBut hs<|Ne.symm<|sX x c hc,λj y v' e1 e2 e3=>?_],λy c' e=>?_,I.free,I.nK,λp hp=>?_,tracked #[oc,IK,I.nK x c hc] hs,by simpa using I.len] #[c,hs,.inr hc]
  .show(hs.2 b<|bN<|dR (ba e)<|I.ok.xn x c U5 hc).trans (I.base.keep b o e n hb hx)
  .let#[sl,e1]:=I.base.slot b o e n hb hx;show#[sl,(hs.2 b<|bN<|dR (ba e)<|I.ok.xn x c U5 hc).trans e1]
  .let#[o',e1]:=I.base.there b o e hx;show#[o',(hs.2 b<|bN<|dR (ba e)<|I.ok.xn x c U5 hc).trans e1]
  .by_cases hj:j=i
   .subst hj;rw[hi]at e1;cases e1;rw[pI Zr]at e2;cases e2;show#[u,r,.inr #[.inl hk,c,hc,Ee]]
   .rw[rM<|Ne.symm hj]at e2;let#[u',r',q]:=hl j y v' e1 e2 e3;refine#[u',r',?_];rcases q with q|⟨k,c',e,z'⟩
    .show .inl q
    .refine .inr #[k,c',e,z'.sameBut hs ?_];rintro rfl;show hj<|oU hN e1<|I.ok.inj _ _ _ e hc▸hi
  .by_cases dH:c'=c
   .subst dH;show#[_,Ee]
   .let#[w2,z2]:=I.cell y c' e;show#[w2,z2.sameBut hs dH]
  .let#[e,n,ne,nf,d]:=I.pin p hp;refine#[(hs.2 p.1 ?_).trans e,n,ne,nf,d];intro q;rw[q,IK]at e;have q':=Option.some.inj e;show d w' (by rw[<-q'];show acy)
theorem jP (I:Inv X pins σ H s) (hN:X.N.Nodup) (hi:X.N[i]?=ae x) (hx:Loc X.env.scope x) (r:RelV v u)
 (h:∀ s',Inv X pins (σ.set i<|ae v) H s'->Q () s') (hf:X.fn x=ag \/ X.env.scope.names.lookup x=ae .local:=by first|show .inl zj|show .inr zj|assumption):wpAny M A (storeName X.env x u) Q E s:=
 AV I hN hi hx r (λs' I' _=>h s' I') hf
theorem Inv.U6 (I:Inv X pins σ H s) (ho:s'.os=s.os) (u:Un (hZ X.stack) ch H H' s.heap s'.heap) (ay:cu X.prog X.w H' s'.heap) (hg:AllBare s'.gens)
 (rW:∀ b∈ch,(b∈X.ex \/ X.s₀.heap.objs.size<=b) /\ b≠X.env.locals /\ (∀ x c,X.env.cells.lookup x=ae c->c≠b) /\ ∀ p∈X.pn++pins,p.1≠b):Inv X pins σ H' s':=by
 let#[h',g',d',t',o']:=s';subst ho;show I.call u ay hg rW
end
abbrev XK:=au->Option ai->Hp->zk
noncomputable abbrev St:=List<|Option V
abbrev VK:=V->Hp->zk
abbrev TE:=St->Hp->VK->zk
abbrev TT:=St->Hp->(Bool->Hp->zk)->zk
abbrev TA:=St->Hp->(List V->Hp->zk)->zk
structure Ends where
 nx:St->Hp->zk
 rt:VK
 bk:St->Hp->zk:=λ_ _=>False
 ct:St->Hp->zk:=λ_ _=>False
abbrev TS:=Ends->St->Hp->zk
def EP (X:Cx) (pins:List<|ai×Obj) (σ:St) (Q:VK) (u:au) (s':aI):zk:=∃ v H',Inv X pins σ H' s' /\ RelV v u /\ Q v H'
def TP (X:Cx) (pins:List<|ai×Obj) (σ:St) (Q:Bool->Hp->zk) (b:Bool) (s':aI):zk:=∃ H',Inv X pins σ H' s' /\ Q b H'
def AP (X:Cx) (pins:List<|ai×Obj) (σ:St) (Q:List V->Hp->zk) (us:List au) (s':aI):zk:=∃ vs H',Inv X pins σ H' s' /\ Vals vs us /\ Q vs H'
def SP (X:Cx) (pins:List<|ai×Obj) (D:Ends) (f:Flow) (s':aI):zk:=
 match f with
 |.next=>∃ σ' H',Inv X pins σ' H' s' /\ D.nx σ' H'
 |.brk=>∃ σ' H',Inv X pins σ' H' s' /\ D.bk σ' H'
 |.cont=>∃ σ' H',Inv X pins σ' H' s' /\ D.ct σ' H'
 |.ret u=>∃ v σ' H',Inv X pins σ' H' s' /\ RelV v u /\ D.rt v H'
def PE (X:Cx) (e:aD) (t:TE):zk:=
 ∀ (pins) (s) (σ:St) (H) (Q),Inv X pins σ H s->t σ H Q->wpAny zd X.A (eval e X.env) (EP X pins σ Q) X.xe s
def PT (X:Cx) (e:aD) (t:TT):zk:=
 ∀ (pins) (s) (σ:St) (H) (Q),Inv X pins σ H s->t σ H Q->wpAny zd X.A (isTrue e X.env<|eval e X.env) (TP X pins σ Q) X.xe s
def PW (X:Cx) (e:aD) (t:TT):zk:=
 ∀ (whole) (pins) (s) (σ:St) (H) (Q),Inv X pins σ H s->t σ H Q->wpAny zd X.A (isTrue e X.env whole) (TP X pins σ Q) X.xe s
theorem PW.pt (h:PW X e t):PT X e t:=h _
def PA (X:Cx) (es:List aD) (t:TA):zk:=
 ∀ (pos) (pins) (s) (σ:St) (H) (Q),Inv X pins σ H s->t σ H Q->wpAny zd X.A (spliced<|backTo pos<|starEach es X.env) (AP X pins σ Q) X.xe s
def PS (X:Cx) (st:bK) (t:TS):zk:=
 ∀ (pins) (s) (σ:St) (H) (D),Inv X pins σ H s->t D σ H->wpAny zd X.A (exec st X.env) (SP X pins D) X.xe s
def cX (X:Cx) (st:List bK) (t:TS):zk:=
 ∀ (pins) (s) (σ:St) (H) (D),Inv X pins σ H s->t D σ H->wpAny zd X.A (execs st X.env) (SP X pins D) X.xe s
theorem bP (h:wpAny M A t Q E s) (hQ:∀ a s,Q a s->Q' a s):wpAny M A t Q' E s:=eX h hQ λ_ _ x=>x
theorem aV {X:Cx}{pins:List (ai×Obj)}{σ:St}{Q:VK}{t:Sem au}{Q':au->aI->zk}{M:Model}{A:dj}{E:au->aI->zk}{s:aI}(h:wpAny M A t (EP X pins σ Q) E s) (k:∀ v s x H,Inv X pins σ H s->RelV x v->Q x H->Q' v s):wpAny M A t Q' E s:=bP h λv s ⟨x,H,I,r,q⟩=>k v s x H I r q
theorem nv {X:Cx}{pins:List (ai×Obj)}{σ:St}{Q:List V->Hp->zk}{t:Sem (List au)}{Q':List au->aI->zk}{M:Model}{A:dj}{E:au->aI->zk}{s:aI}(h:wpAny M A t (AP X pins σ Q) E s) (k:∀ v s x H,Inv X pins σ H s->Vals x v->Q x H->Q' v s):wpAny M A t Q' E s:=bP h λv s ⟨x,H,I,r,q⟩=>k v s x H I r q
theorem IL {α β:Type}{X:Cx}{pins:List (ai×Obj)}{σ:St}{Q:β->Hp->zk}{R:β->α->zk}{t:Sem α}{Q':α->aI->zk}{M:Model}{A:dj}{E:au->aI->zk}{s:aI}(h:wpAny M A t (λv s=>∃ x H,Inv X pins σ H s /\ R x v /\ Q x H) E s) (k:∀ v s x H,Inv X pins σ H s->R x v->Q x H->Q' v s):wpAny M A t Q' E s:=bP h λv s ⟨x,H,I,r,q⟩=>k v s x H I r q
theorem xq {X:Cx}{pins:List (ai×Obj)}{σ:St}{Q:Bool->Hp->zk}{t:Sem Bool}{Q':Bool->aI->zk}{M:Model}{A:dj}{E:au->aI->zk}{s:aI}(h:wpAny M A t (TP X pins σ Q) E s) (k:∀ v s H,Inv X pins σ H s->Q v H->Q' v s):wpAny M A t Q' E s:=bP h λv s ⟨H,I,q⟩=>k v s H I q

def Zt (i:Nat):TE:=λσ H Q=>∃ v,σ[i]?=ae (ae v) /\ Q v H
def tC (v:V):TE:=λ_ H Q=>Q v H
theorem mF (hN:X.N[i]?=ae x) (hv:qH X.env.scope x) (hd:(x==("__debug__"))=af:=by decide) (dn:(x==("__classdict__"))=af:=by decide):PE X (.Name x pos) (Zt i):=by
 intro pins s σ H Q I h;let#[v,e,h]:=h;let#[m,hn,hl]:=I.loc;let#[u,r,l]:=hl i x v hN e hv;have fin:EP X pins σ Q u s:=#[v,H,I,r,h];rcases l with⟨hk,hm⟩|⟨hk,c,hc,IM⟩
 .show Qr (wpAny_loadName_local I.ok.kind hk hn hm fin) hd
 .rcases hk with hk|hk
  .show Qr (wpAny_loadName_cell I.ok.kind hk hc IM fin) hd
  .show Qr (wpAny_loadName_free I.ok.kind hk hc IM fin dn) hd
theorem jp:PE X (.Constant (.int i) j pos) (tC<|.int i):=λ_ _ _ H _ I h=>wpAny_Constant_int #[.int i,H,I.tok _,#[_,rfl],h]
theorem Ji:PE X (.Constant (.bool b) j pos) (tC<|.bl b):=λ_ _ _ H _ I h=>Constant_bool #[.bl b,H,I,rfl,h]
theorem PQ:PE X (.Constant .none j pos) (tC .non):=λ_ _ _ H _ I h=>Constant_none #[.non,H,I,rfl,h]
theorem mG:PE X (.Constant (.str x) j pos) (tC<|.str x):=λ_ _ _ H _ I h=>Calls.Constant_str #[.str x,H,I.tok _,#[_,rfl],h]
def Gl (X:Cx) (x:Str):zk:=X.env.kindOf x=ae .globalImplicit
theorem lR (I:Inv X pins σ H s) (hg:Gl X x) (hm:X.mg x=ae u) (h:Q u s)
 (hd:(x==("__debug__"))=af:=by decide):wpAny zd X.A (eval (.Name x pos) X.env) Q E s:=
 Calls.Name_function_global I.ok.kind hg (Calls.loadGlobal_global (by rw[I.ok.glob];show I.mod.glob.keeps I.bk) hm h) hd
theorem jc (I:Inv X pins σ H s) (hg:Gl X x) (hm:X.mg x=ah) (hv:bootBuiltins x=ae u) (h:Q u s)
 (hn:x ≠ "__name__":=by decide) (hd:(x==("__debug__"))=af:=by decide):wpAny zd X.A (eval (.Name x pos) X.env) Q E s:=by
 let#[mb,h1,h2]:=I.mod.blt;show Calls.Name_function_global I.ok.kind hg (Calls.loadGlobal_builtin (by rw[I.ok.glob];show I.mod.glob.keeps I.bk) hm (by rw[I.ok.blt];show h1.keeps I.bk) ((h2 x hn).trans hv) h) hd
theorem gq (hg:Gl X x) (hm:X.mg x=ae u) (r:RelV v u) (hd:(x==("__debug__"))=af:=by decide):PE X (.Name x pos) (tC v):=
 λ_ _ _ H _ I h=>lR I hg hm #[v,H,I,r,h] hd
theorem D0 (hg:Gl X x) (hm:X.mg x=ah) (hv:bootBuiltins x=ae u) (r:RelV v u) (hn:x ≠ "__name__":=by decide) (hd:(x==("__debug__"))=af:=by decide):PE X (.Name x pos) (tC v):=
 λ_ _ _ H _ I h=>jc I hg hm hv #[v,H,I,r,h] hn hd

def PC (X:Cx) (op:CmpOp) (a b:aD) (t:TE):zk:=
 ∀ (pins) (s) (σ:St) (H) (Q),Inv X pins σ H s->t σ H Q ->
  wpAny zd X.A (eval a X.env) (λv s₁=>wpAny zd X.A (eval b X.env) (λu s₂=>wpAny zd X.A (compareOp op v u) (EP X pins σ Q) X.xe s₂) X.xe s₁) X.xe s
theorem Zu (b) (h:op≠.In) (h2:op≠.NotIn):behindInMarks op b=af:=by
 have e1:(op==CmpOp.In)=af:=by cases op<;>first|rfl|show absurd zj h
 have e2:(op==CmpOp.NotIn)=af:=by cases op<;>first|rfl|show absurd zj h2
 cases b<;>simp[behindInMarks,e1,e2]
def acz (ta:TE):TE:=λσ H Q=>ta σ H λx H1=>Q (.bl<|decide (x=.non)) H1
theorem RelV.acA (r:RelV x v):(v==Value.none)=decide (x=.non):=by
 cases x with
 |int _=>let#[t,rfl]:=r;rfl
 |str _=>let#[t,rfl]:=r;rfl
 |nI _=>let#[t,rfl]:=r;rfl
 |rS _=>let#[t,rfl]:=r;rfl
 |_=>cases r;rfl
theorem Jj (ha:PE X a ta):PC X .Is a (.Constant .none j pos') (acz ta):=by
 intro pins s σ H Q I h;show aV (ha pins s σ H _ I h) λv s1 x H1 I1 r1 q1=>(Constant_none (is_none_gen #[.bl _,H1,I1,by rw[r1.acA];rfl,q1]))
noncomputable def tB (t:TE):TT:=λσ H Q=>t σ H λx H1=>∃ c,x=.bl c /\ Q c H1
theorem Dc (h:PC X op a b t) (h1:behindInMarks op b=af:=by first|show Zu _ (by decide) (by decide)|rfl):PE X (.Compare a [op] [b] pos) t:=λpins s σ H Q I hw=>Xa (h pins s σ H Q I hw) h1
theorem Dd (h:PC X op a b t) (h1:behindInMarks op b=af:=by first|show Zu _ zc zc|rfl):PT X (.Compare a [op] [b] pos) (tB t):=by
 intro pins s σ H Q I hw;refine Xb (bP (h pins s σ H _ I hw) λv s1 h1=>bP h1 λu s2 h2=>aV h2 λc s3 x H1 I1 r1 q1=>?_) h1;let#[d,rfl,q]:=q1;cases r1;show qf #[H1,I1,q]
theorem Jk (h:PE X e t) (he:∀ whole,isTrue e X.env whole=(do let v <-whole;standAt e.pos;holding [v] (truthy v)):=by intro _;rfl):PT X e (tB t):=by
 intro pins s σ H Q I hw;refine isTrue_plain (aV (h pins s σ H _ I hw) λv s1 x H1 I1 r1 q1=>?_)<|he _;let#[d,rfl,q]:=q1;cases r1;show qf #[H1,I1,q]

noncomputable def acB (t u:TT):TT:=λσ H Q=>t σ H λc H1=>if c=ag then u σ H1 Q else Q af H1
noncomputable def acC (t u:TT):TT:=λσ H Q=>t σ H λc H1=>if c=ag then Q ag H1 else u σ H1 Q
noncomputable def acD (t:TT):TT:=λσ H Q=>t σ H λc H1=>Q (!c) H1
theorem MU (ha:PT X a tA):PW X (.BoolOp .And [a] pos) tA:=by
 intro wh pins s σ H Q I h;refine isTrue_and<|bP (ha pins s σ H Q I h) λc s1 e=>?_;cases c with
 |true=>show isTrue_and_nil e
 |false=>show e
theorem Jl (ha:PT X a tA):PW X (.BoolOp .Or [a] pos) tA:=by
 intro wh pins s σ H Q I h;refine isTrue_or<|bP (ha pins s σ H Q I h) λc s1 e=>?_;cases c with
 |false=>show isTrue_or_nil e
 |true=>show e
theorem PR (ha:PT X a tA) (hb:PW X (.BoolOp .And (b::rest) pos) U7):PW X (.BoolOp .And (a::b::rest) pos) (acB tA U7):=by
 intro wh pins s σ H Q I h;refine isTrue_and<|xq (ha pins s σ H _ I h) λc s1 H1 I1 q1=>?_;cases c with
 |true=>show hb wh pins s1 σ H1 Q I1 q1
 |false=>show#[H1,I1,q1]
theorem O4 (ha:PT X a tA) (hb:PW X (.BoolOp .Or (b::rest) pos) U7):PW X (.BoolOp .Or (a::b::rest) pos) (acC tA U7):=by
 intro wh pins s σ H Q I h;refine isTrue_or<|xq (ha pins s σ H _ I h) λc s1 H1 I1 q1=>?_;cases c with
 |true=>show#[H1,I1,q1]
 |false=>show hb wh pins s1 σ H1 Q I1 q1
theorem Jm (ha:PT X a tA):PT X (.UnaryOp .Not a pos) (acD tA):=by
 intro pins s σ H Q I h;show isTrue_not<|ha pins s σ H _ I h
def acE (ta tb:TE):TE:=λσ H Q=>ta σ H λx H1=>∃ c,x=.bl c /\ if c=ag then tb σ H1 Q else Q (.bl af) H1
def acF (ta tb:TE):TE:=λσ H Q=>ta σ H λx H1=>∃ c,x=.bl c /\ if c=ag then Q (.bl ag) H1 else tb σ H1 Q
def acG (ta:TE):TE:=λσ H Q=>ta σ H λx H1=>∃ c,x=.bl c /\ Q (.bl<|!c) H1
theorem PU (h:PE X a t):PE X (.BoolOp op [a] pos) t:=λpins s σ H Q I hw=>BoolOp_one<|h pins s σ H Q I hw
theorem PV (ha:PE X a ta) (hb:PE X (.BoolOp .And (b::rest) pos) tb):PE X (.BoolOp .And (a::b::rest) pos) (acE ta tb):=by
 intro pins s σ H Q I h;refine BoolOp_and<|aV (ha pins s σ H _ I h) λv s1 x H1 I1 r1 q1=>?_;let#[c,rfl,q1]:=q1;cases r1;refine qf ?_;cases c with
 |true=>show hb pins s1 σ H1 Q I1 q1
 |false=>show#[.bl af,H1,I1,rfl,q1]
theorem SX (ha:PE X a ta) (hb:PE X (.BoolOp .Or (b::rest) pos) tb):PE X (.BoolOp .Or (a::b::rest) pos) (acF ta tb):=by
 intro pins s σ H Q I h;refine BoolOp_or<|aV (ha pins s σ H _ I h) λv s1 x H1 I1 r1 q1=>?_;let#[c,rfl,q1]:=q1;cases r1;refine qf ?_;cases c with
 |false=>show hb pins s1 σ H1 Q I1 q1
 |true=>show#[.bl ag,H1,I1,rfl,q1]
theorem PY (ha:PE X a ta):PE X (.UnaryOp .Not a pos) (acG ta):=by
 intro pins s σ H Q I h;refine UnaryOp_<|aV (ha pins s σ H _ I h) λv s1 x H1 I1 r1 q1=>?_;let#[c,rfl,q1]:=q1;cases r1;show not_of<|qf #[.bl<|!c,H1,I1,rfl,q1]
def acH (t:TT) (ta tb:TE):TE:=λσ H Q=>t σ H λc H1=>if c=ag then ta σ H1 Q else tb σ H1 Q
theorem Jn (hc:PT X c tA) (ha:PE X a ta) (hb:PE X b tb):PE X (.IfExp c a b pos) (acH tA ta tb):=by
 intro pins s σ H Q I h;refine wpAny_IfExp<|xq (hc pins s σ H _ I h) λd s1 H1 I1 q1=>?_;cases d with
 |true=>show ha pins s1 σ H1 Q I1 q1
 |false=>show hb pins s1 σ H1 Q I1 q1
def bQ (K:PySem.W.Frag) (H:Hp) (a:ai) (xs:List V):zk:=
 Rd H a (.lst xs) \/
  ∃ (o:Obj) (its:Array au) (n:Nat),K.lookup a=ae o /\ o.cls=.type "list" /\ o.dict=ah /\ o.data=.seq its n /\ its.size<=sizeLine /\ Vals xs its.toList
def cL (K:PySem.W.Frag) (H:Hp) (a:ai) (xs:List V):zk:=
 Rd H a (.tup xs) \/
  ∃ (o:Obj) (its:Array au) (n:Nat),K.lookup a=ae o /\ o.cls=.type "tuple" /\ o.data=.seq its n /\ its.size<=sizeLine /\ Vals xs its.toList
noncomputable def acI:au->Option V
 |.none=>ae .non
 |.bool b=>ae<|.bl b
 |.int i _=>ae<|.int i
 |.str x _=>ae<|.str x
 |.bytes b _=>ae<|.nI b
 |.float b _=>ae<|.rS b
 |.ref a=>ae<|.ref a
 |.type n=>ae<|.ty n
 |_=>ah
theorem RelV.abs (r:RelV x u):acI u=ae x:=by
 cases x with
 |int _=>let#[t,rfl]:=r;rfl
 |str _=>let#[t,rfl]:=r;rfl
 |nI _=>let#[t,rfl]:=r;rfl
 |rS _=>let#[t,rfl]:=r;rfl
 |_=>cases r;rfl
theorem RelV.inj (r:RelV x u) (q:RelV y u):x=y:=Option.some.inj<|r.abs.symm.trans q.abs
theorem Vals.inj:∀ {xs ys}{us},Vals xs us->Vals ys us->xs=ys
 |_,_,_,.nil,.nil=>rfl
 |_,_,_,.cons r t,.cons r' t'=>by rw[r.inj r',Vals.inj t t']

theorem bQ.of {K}(h:H a=ae (.lst xs)):bQ K H a xs:=.inl<|.inl h
theorem cL.of {K}(h:H a=ae (.tup xs)):cL K H a xs:=.inl<|.inl h
theorem Inv.list (I:Inv X pins σ H s) (h:bQ X.K H a xs):∃ its,Vals xs its /\ PlainL s.heap a its.toArray /\ xs.length<=sizeLine:=by
 rcases h with h|⟨o,its,n,hk,hc,hd,hs,hz,r⟩
 .let#[z,its,n,r,e]:=h.ok I.ay;show#[its,r,#[_,n,e,rfl,rfl,rfl],z]
 .refine#[its.toList,r,#[o,n,I.cK a o hk,hc,hd,by simpa using hs],?_];have e:=r.length;simp[nH]at e
  lia
theorem Inv.tuple (I:Inv X pins σ H s) (h:cL X.K H a xs):∃ its,Vals xs its /\ IsTup s.heap a its.toArray /\ xs.length<=sizeLine:=by
 rcases h with h|⟨o,its,n,hk,hc,hs,hz,r⟩
 .let#[z,its,r,p]:=h.ok I.ay;show#[its,r,p,z]
 .refine#[its.toList,r,#[o,I.cK a o hk,hc,n,by simpa using hs],?_];have e:=r.length;simp[nH]at e
  lia
theorem Inv.Zv (I:Inv X pins σ H s) (h:bQ X.K H a xs) (h':bQ X.K H a ys):xs=ys:=by
 let#[its,r,#[o,n,e,_,_,d],_]:=I.list h;let#[rX,r',#[o',n',e',_,_,d'],_]:=I.list h';rw[e]at e';cases e';rw[d]at d';injection d' with d1 _;have:its=rX:=by simpa using congrArg Array.toList d1
 subst this;show r.inj r'
theorem Inv.Zw (I:Inv X pins σ H s) (h:cL X.K H a xs) (h':cL X.K H a ys):xs=ys:=by
 let#[its,r,#[o,e,_,n,d],_]:=I.tuple h;let#[rX,r',#[o',e',_,n',d'],_]:=I.tuple h';rw[e]at e';cases e';rw[d]at d';injection d' with d1 _;have:its=rX:=by simpa using congrArg Array.toList d1
 subst this;show r.inj r'
noncomputable abbrev Cx.rY (X:Cx) (E:au->aI->zk):Cx:={ X with xe:=E }
abbrev Cx.sZ (X:Cx):Cx:=X.rY λ_ _=>False
theorem Cx.Ok.rY {X:Cx}(ok:X.Ok) (E):(X.rY E).Ok:=
 #[ok.mod,ok.kind,ok.glob,ok.blt,ok.above,ok.inj,ok.has,ok.xn,ok.hd,ok.frames,ok.Ec,ok.vC,ok.bs,ok.rT,ok.xo,ok.vD,ok.kQ,ok.qI]
theorem Cx.Ok.uq {X:Cx}(ok:(X.rY E).Ok):X.Ok:=
 #[ok.mod,ok.kind,ok.glob,ok.blt,ok.above,ok.inj,ok.has,ok.xn,ok.hd,ok.frames,ok.Ec,ok.vC,ok.bs,ok.rT,ok.xo,ok.vD,ok.kQ,ok.qI]

theorem Inv.rY (I:Inv X pins σ H s) (E):Inv (X.rY E) pins σ H s:=#[I.ok.rY E,I.os,I.bare,I.base,I.loc,I.cell,I.free,I.nK,I.pin,I.ay,I.len]
theorem Inv.uq (I:Inv (X.rY E) pins σ H s):Inv X pins σ H s:=#[I.ok.uq,I.os,I.bare,I.base,I.loc,I.cell,I.free,I.nK,I.pin,I.ay,I.len]
theorem SP.uq (h:SP (X.rY E) pins D f s'):SP X pins D f s':=by
 cases f with
 |ret u=>let#[v,σ',H',I,r,q]:=h;show#[v,σ',H',I.uq,r,q]
 |_=>let#[σ',H',I,q]:=h;show#[σ',H',I.uq,q]
theorem cX.sZ {st}(h:cX X.sZ st t):cX X st t:=λpins s σ H D I hw=>
 eX (h pins s σ H D (I.rY _) hw) (λ_ _ q=>q.uq) λ_ _ z=>False.elim z
section
variable {st:bK}
def acJ:TS:=λD σ H=>D.nx σ H
def acK (t u:TS):TS:=λD σ H=>t { D with nx:=u D } σ H
theorem D3:cX X [] acJ:=λ_ _ σ H _ I h=>HS #[σ,H,I,h]
theorem gX (h1:PS X st t) (h2:cX X rest u):cX X (st::rest) (acK t u):=by
 intro pins s σ H D I h;refine Xc<|bP (h1 pins s σ H { D with nx:=u D } I h) λf s1 q=>?_;cases f with
 |next=>
   let#[σ',H',I',q]:=q;show h2 pins s1 σ' H' D I' q
 |ret v=>show q
 |_=>show q
theorem lS (h1:PS X st t):cX X [st] t:=by
 intro pins s σ H D I h;refine Xc<|bP (h1 pins s σ H D I h) λf s1 q=>?_;cases f with
 |next=>show HS q
 |ret v=>show q
 |_=>show q
def acL:TS:=λD σ H=>D.bk σ H
def acM:TS:=λD σ H=>D.ct σ H
theorem Jo:PS X (.Break pos) acL:=λ_ _ σ H _ I h=>wpAny_Break #[σ,H,I,h]
theorem Cb:PS X (.Continue pos) acM:=λ_ _ σ H _ I h=>wpAny_Continue #[σ,H,I,h]
theorem Inv.quiet (I:Inv X pins σ H s):interactive X.env=af:=by simp[interactive,I.ok.kind]
def acN (te:TE):TS:=λD σ H=>te σ H λ_ H1=>D.nx σ H1
theorem D4 (he:PE X e te) (hs:swapsWith e ah pos.line X.env=pure af:=by rfl):PS X (.Expr e pos) (acN te):=by
 intro pins s σ H D I h;show wpAny_Expr_any (aV (he pins s σ H _ I h) λv s1 x H1 I1 r1 q1=>#[σ,H1,I1,q1]) I.quiet hs
def acO (te:TE):TS:=λD σ H=>te σ H D.rt
theorem Bq (he:PE X e te):PS X (.Return (ae e) pos) (acO te):=by
 intro pins s σ H D I h;show wpAny_Return_some<|aV (he pins s σ H _ I h) λv s1 x H1 I1 r1 q1=>#[x,σ,H1,I1,r1,q1]
def acP (c:TT) (t u:TS):TS:=λD σ H=>c σ H λb H1=>if b=ag then t D σ H1 else u D σ H1
theorem O5 (hc:PT X c tc) (ha:cX X a t) (hb:cX X b u):PS X (.If c a b pos) (acP tc t u):=by
 intro pins s σ H D I h;refine wpAny_If<|xq (hc pins s σ H _ I h) λd s1 H1 I1 q1=>?_;cases d with
 |true=>show ha pins s1 σ H1 D I1 q1
 |false=>show hb pins s1 σ H1 D I1 q1
end
abbrev TG:=V->St->Hp->(St->Hp->zk)->zk
abbrev xr:=List V->St->Hp->(St->Hp->zk)->zk
def PG (X:Cx) (target:aD) (t:TG):zk:=
 ∀ (pins) (s) (σ:St) (H) (v) (u) (Q),Inv X pins σ H s->RelV v u->t v σ H Q ->
  wpAny zd X.A (assign target X.env u) (λ_ s'=>∃ σ' H',Inv X pins σ' H' s' /\ Q σ' H') X.xe s
def rZ (X:Cx) (ts:List aD) (t:xr):zk:=
 ∀ (pins) (s) (σ:St) (H) (vs) (us) (Q),Inv X pins σ H s->Vals vs us->t vs σ H Q ->
  wpAny zd X.A (assignInOrder ((assignEach ts X.env).map (·.2)) us) (λ_ s'=>∃ σ' H',Inv X pins σ' H' s' /\ Q σ' H') X.xe s
abbrev Zx:=V->V->V->Hp->(Hp->zk)->zk
def Zy (X:Cx) (t:Zx):zk:=
 ∀ (pins) (s) (σ:St) (H) (o i v) (ov iv u) (Q),Inv X pins σ H s->RelV o ov->RelV i iv->RelV v u->t o i v H Q ->
  wpAny zd X.A (setItem ov iv u) (λ_ s'=>∃ H',Inv X pins σ H' s' /\ Q H') X.xe s

def U8 (i:Nat):TG:=λv σ H Q=>Q (σ.set i<|ae v) H
theorem Br (hN:X.N.Nodup) (hi:X.N[i]?=ae x) (hx:Loc X.env.scope x) (hf:X.fn x=ag \/ X.env.scope.names.lookup x=ae .local:=by first|show .inl zj|show .inr zj|assumption):PG X (.Name x pos) (U8 i):=by
 intro pins s σ H v u Q I r h;show Xd<|jP I hN hi hx r (λs' I'=>#[_,H,I',h]) hf
noncomputable def acQ:xr:=λvs σ H Q=>vs=[] /\ Q σ H
noncomputable def acR (t:TG) (u:xr):xr:=λvs σ H Q=>∃ v r,vs=v::r /\ t v σ H λσ' H'=>u r σ' H' Q
theorem D5:rZ X [] acQ:=by
 intro pins s σ H vs us Q I r h;let#[e,h]:=h;subst e;cases r;show YA #[σ,H,I,h]
theorem oV (h1:PG X e t) (h2:rZ X es u)
 (hs:(assignEach (e::es) X.env).map (·.2)=assign e X.env::(assignEach es X.env).map (·.2):=by rfl):rZ X (e::es) (acR t u):=by
 intro pins s σ H vs us Q I r h;let#[v,vr,e1,h]:=h;subst e1;cases r with
 |cons r rr=>
   rw[hs];show Q3<|bP (h1 pins s σ H _ _ _ I r h) λ_ s1 ⟨σ1,H1,I1,q1⟩=>(h2 pins s1 σ1 H1 _ _ Q I1 rr q1)
def acS (K:PySem.W.Frag) (n:Nat) (t:xr):TG:=λv σ H Q=>∃ a xs,v=.ref a /\ cL K H a xs /\ xs.length=n /\ t xs σ H Q
theorem Jp (hc:X.calm=ag) (h:rZ X es t)
 (hn:(assignEach es X.env).length=n:=by rfl) (n8:(assignEach es X.env).findIdx? (·.1)=ah:=by rfl):PG X (.Tuple es k pos) (acS X.K n t):=by
 intro pins s σ H v u Q I r hw;let#[a,xs,e1,hq,hl,hw]:=hw;subst e1;cases r;let#[its,rv,ht,hz]:=I.tuple hq;refine assign_Tuple_tuple (I.ok.hd hc) ht (by simp[hn,<-hl,rv.length]) n8 λh' hx=>?_;show h pins _ σ H xs _ Q (I.kept λb o e=>hx b o (bN<|ba e) e) (by simpa using rv) hw
def acT (to ti:TE) (t:Zx):TG:=λv σ H Q=>to σ H λo H1=>ti σ H1 λi H2=>t o i v H2 λH3=>Q σ H3
theorem PZ (ho:PE X o to) (hi:PE X i ti) (hs:Zy X t)
 (ha:∀ v,assign (.Subscript o i pos) X.env v=(do
  let ov <-holding [v] (eval o X.env)
  let iv <-holding [v,ov] (eval i X.env)
  standAt pos
  holding [v,ov,iv] (setItem ov iv v)
  release [v,ov,iv] []):=by intro _;rfl):PG X (.Subscript o i pos) (acT to ti t):=by
 intro pins s σ H v u Q I r h;refine ak<|eY<|aV (ho pins s σ H _ I h) λov s1 x H1 I1 r1 q1=>?_;refine ak<|eY<|aV (hi pins s1 σ H1 _ I1 q1) λiv s2 y H2 I2 r2 q2=>?_;show ak<|HU<|ak<|eY<|bP (hs pins s2 σ H2 x y v ov iv u _ I2 r1 r2 r q2) λ_ s3 ⟨H3,I3,q3⟩=>(wpAny_release #[σ,H3,I3,q3])
def U9 (te:TE) (g:TG):TS:=λD σ H=>te σ H λx H1=>g x σ H1 D.nx
theorem Jq (he:PE X e te) (hg:PG X tg g) (hs:swapsWithSole [tg] e pos.line X.env=pure af:=by rfl) (hw:swappedStores [tg] e X.env=pure ah:=by rfl)
 (h1:(assignEach [tg] X.env).map (·.2)=[assign tg X.env]:=by rfl):PS X (.Assign [tg] e pos) (U9 te g):=by
 intro pins s σ H D I h;refine wpAny_Assign_stores (aV (he pins s σ H _ I h) λv s1 x H1 I1 r1 q1=>?_) hs hw;rw[h1];show bP (hg pins s1 σ H1 x v _ I1 r1 q1) λ_ s2 q=>q
theorem mH (hN:X.N.Nodup) (hi:X.N[i]?=ae x) (hx:Loc X.env.scope x) (he:PE X e te) (hs:swapsWith e (ae<|.Name x pos') pos.line X.env=pure af:=by rfl) (hf:X.fn x=ag \/ X.env.scope.names.lookup x=ae .local:=by first|show .inl zj|show .inr zj|assumption) :
 PS X (.Assign [.Name x pos'] e pos) (U9 te<|U8 i):=by
 intro pins s σ H D I h;show wpAny_Assign_Name (aV (he pins s σ H _ I h) λv s1 y H1 I1 r1 q1=>(jP I1 hN hi hx r1 (λs2 I2=>#[_,H1,I2,q1]) hf)) hs
def Zz (i j:Nat) (ta:TA):TS:=λD σ H=>ta σ H λvs H1=>∃ v w,vs=[v,w] /\ D.nx ((σ.set i<|ae v).set j<|ae w) H1
theorem P0 (hc:X.calm=ag) (hN:X.N.Nodup) (hi:X.N[i]?=ae x) (hj:X.N[j]?=ae y) (Ef:i≠j)
 (hx:X.env.scope.names.lookup x=ae .local) (hy:X.env.scope.names.lookup y=ae .local) (ha:PA X [a,b] ta)
 (hw:swappedStores [.Tuple [.Name x px,.Name y py] kt pt] (.Tuple [a,b] k2 ur) X.env=pure (ae [x,y]))
 (hs:swapsWithSole [.Tuple [.Name x px,.Name y py] kt pt] (.Tuple [a,b] k2 ur) pos.line X.env=pure af:=by rfl) :
 PS X (.Assign [.Tuple [.Name x px,.Name y py] kt pt] (.Tuple [a,b] k2 ur) pos) (Zz i j ta):=by
 intro pins s σ H D I h;refine ak<|HU ?_;refine ak<|ax ?_;refine ak<|Tuple_<|nv (ha _ pins s σ H _ I h) λus s1 vs H1 I1 r1 q1=>?_;let#[v,w,e1,q1]:=q1;subst e1;obtain⟨u1,u2,rfl,rv,nL⟩:∃ u1 u2,us=[u1,u2] /\ RelV v u1 /\ RelV w u2:=by
  cases r1 with
  |cons p q=>
    cases q with
    |cons p' q'=>
      cases q';show#[_,_,rfl,p,p']
 refine qg ?_ (by change 2<=sizeLine;decide);have I2:Inv X pins σ H1 { s1 with heap:=s1.heap.push { cls:=.type "tuple",data:=.seq [u1,u2].toArray } }:=I1.kept λb o e=>aR _ e;rw[hw];refine ak<|ax ?_;refine ak<|sR<|ak<|unpackItems_tuple (items:=(List.toArray [u1,u2])) (I.ok.hd hc) (IsTup.new s1.heap _) λh' acU=>?_;have I3:=I2.kept (t':=s1.toks) λb o e=>acU b o (bN<|ba e) e;change wpAny _ _ (assignInOrder [λv=>bindName X.env y v,λv=>bindName X.env x v] [u2,u1] >>= λ_=>pure Flow.next) _ _ _;refine ak<|Q3<|Xe<|jP I3 hN hj (.inl hy) nL (λs2 I4=>?_)<|.inr hy;refine Q3<|Xe<|jP I4 hN hi (.inl hx) rv (λs3 I5=>YA<|ax ?_)<|.inr hx;rw[List.set_comm _ _<|Ne.symm Ef]at I5;show#[_,H1,I5,q1]
structure It where
 go:Nat->Hp->zk
 IP:Nat->Hp->V->Hp->zk
 stop:Nat->Hp->zk
def n9 (X:Cx) (pins:List<|ai×Obj) (H:Hp) (b:ai):zk:=
 H b=ah /\ b≠X.env.locals /\ b∉X.fs /\ (b∈X.ex \/ X.s₀.heap.objs.size<=b) /\ (∀ x c,X.env.cells.lookup x=ae c->c≠b) /\ ∀ p∈X.pn++pins,p.1≠b
theorem Inv.xt (I:Inv X pins σ H s) (hb:s.heap.objs.size<=b) (hn:H' b=ah):n9 X pins H' b:=by
 refine#[hn,yS<|dR I.lt hb,I.acw hb,.inr<|cw I.sz hb,λx c e z=>?_,λp hp z=>(absurd (dR (ba (I.pin p hp).1) (by rw[z];show hb))<|eZ _)]
 .let#[v,q]:=I.cell x c e;show absurd (dR q.lt (by rw[z];show hb))<|eZ _
structure Turn (P:cT) (w:cj) (K:PySem.W.Frag) (tg:aD) (J:It) (fp:List ai) (it:ai) (tn:Nat->aK->zk):zk where
 mem:it∈fp
 obj:∀ i h,tn i h->∀ b∈fp,∃ o,h.get? b=ae o /\ ∀ v,o.data≠.cell v
 keep:∀ i h h',tn i h->(∀ b∈fp,∀ o,h.get? b=ae o->h'.get? b=ae o)->tn i h'
 item:∀ (X:Cx),X.prog=P->X.w=w->X.K=K->X.calm=ag->∀ (i:Nat) (pins:List<|ai×Obj) (s:aI) (σ:St) (H:Hp) (E:au->aI->zk),Inv X pins σ H s->(∀ b∈fp,n9 X pins H b)->tn i s.heap->J.go i H ->
  wpAny (model P w) X.A (pyNext<|.ref it) (λr s1=>∃ u,r=ae u /\
   wpAny (model P w) X.A (letOwnedTupleGo tg (.ref it) u) (λ_ s2=>∃ x H',Inv X pins σ H' s2 /\ RelV x u /\ J.IP i H x H' /\ tn (i+1) s2.heap /\ ∀ b∈fp,H' b=ah) E s1) E s
 done:∀ (X:Cx),X.prog=P->X.w=w->X.K=K->X.calm=ag->∀ (i:Nat) (pins:List<|ai×Obj) (s:aI) (σ:St) (H:Hp) (E:au->aI->zk),Inv X pins σ H s->(∀ b∈fp,n9 X pins H b)->tn i s.heap->J.stop i H ->
  wpAny (model P w) X.A (pyNext<|.ref it) (λr s1=>r=ah /\ Inv X pins σ H s1) E s
 self:∀ (A:dj) (i:Nat) (s:aI) (Q:au->aI->zk) (E:au->aI->zk),tn i s.heap->Q (.ref it) s->wpAny (model P w) A (pyIter<|.ref it) Q E s
abbrev TI:=St->Hp->(It->Hp->zk)->zk
def Va (X:Cx) (pins:List<|ai×Obj) (σ:St) (tg:aD) (R:It->Hp->zk) (IQ:au) (s2:aI):zk:=
 ∃ (it:ai) (fp:List ai) (tn:Nat->aK->zk) (J:It) (H':Hp),IQ=.ref it /\ Inv X pins σ H' s2 /\ Turn X.prog X.w X.K tg J fp it tn /\ tn 0 s2.heap /\ (∀ b∈fp,n9 X pins H' b) /\ R J H'
def PI (X:Cx) (tg iter:aD) (wi:TI):zk:=
 ∀ (pins) (s) (σ:St) (H) (R),Inv X pins σ H s->wi σ H R ->
  wpAny zd X.A (eval iter X.env) (λv s1=>wpAny zd X.A (pyIter v) (Va X pins σ tg R) X.xe s1) X.xe s
theorem Cc (ho:s.heap.get? it=ae o) (hc:o.cls=.type n) (hd:o.data=.fields vs)
 (hn:["enumerate","zip","dict_itemiterator","dict_reverseitemiterator","odict_iterator","itertools.zip_longest","itertools.pairwise"].contains n=af) (hQ:Q () s):wpAny M A (letOwnedTupleGo tg (.ref it) u) Q E s:=by
 cases tg<;>first
  |show ax hQ
  |(cases u<;>first
   |show ax hQ
   | (refine ak (HV ho ?_)
      rw[hc,hd];change wpAny M A (if (["enumerate","zip","dict_itemiterator","dict_reverseitemiterator","odict_iterator","itertools.zip_longest","itertools.pairwise"].contains n&&vs[0]?==ae _)=ag then _ else _) Q E s;rw[if_neg (by intro h;rw[hn,pG]at h;cases h)];show ax hQ))
noncomputable def Vb (K:PySem.W.Frag) (a:ai):It:=
 #[λi H=>∃ xs x,bQ K H a xs /\ xs[i]?=ae x,λi H x H'=>H'=H /\ ∀ xs,bQ K H a xs->xs[i]?=ae x,λi H=>∃ xs,bQ K H a xs /\ xs.length<=i]
noncomputable def Vc (K:PySem.W.Frag) (a:ai):It:=
 #[λi H=>∃ xs x,cL K H a xs /\ xs[i]?=ae x,λi H x H'=>H'=H /\ ∀ xs,cL K H a xs->xs[i]?=ae x,λi H=>∃ xs,cL K H a xs /\ xs.length<=i]
noncomputable def vE (lo:Int) (n:Nat):It:=#[λi _=>i<n,λi H x H'=>H'=H /\ x=.int (lo+i),λi _=>n<=i]
theorem Gn {K} (a it):Turn P w K tg (Vb K a) [it] it (λi h=>h.IsListIter it a i) where
 mem:=by simp
 obj:=λi h st b hb=>by
  have e:b=it:=by simpa using hb
  subst e;let#[o,e,c,d]:=st;show#[o,e,λv z=>by rw[d]at z;cases z]
 keep:=λi h h' st k=>st.at λo e=>k it zg o e
 item:=by
  intro X hP hw hK hc i pins s σ H E I hf st hg;subst hP hw hK;let#[xs,x,hq,hx]:=hg;let#[its,rv,p,hz]:=I.list hq;let#[u,hu,ru]:=rv.get hx;let#[f0,f1,f2,f3,f4,f5]:=hf it zg;refine wpAny_pyNext_list_item st p.isList (by simpa using hu) λh' pd sb=>?_;have I1:Inv X pins σ H { s with heap:=h' }:=I.turned (λb o hb e=>(sb.2 b hb).trans e) f0 f1 f3 f4 f5;let#[o,e,c,d]:=id pd;show#[u,rfl,Cc e c d zc #[x,H,I1,ru,#[rfl,λys hy=>by rw[I.Zv hy hq];show hx],pd,λb hb=>(hf b hb).1]]
 done:=by
  intro X hP hw hK hc i pins s σ H E I hf st hg;subst hP hw hK;let#[xs,hq,hx]:=hg;let#[its,rv,p,hz]:=I.list hq;let#[f0,f1,f2,f3,f4,f5]:=hf it zg;have hl:=rv.length;show wpAny_pyNext_list_end (I.ok.hd hc) st p.isList (by simp;lia) λh' eb=>#[rfl,I.turned (λb o hb e=>eb b o hb e) f0 f1 f3 f4 f5]
 self:=λ_ _ _ _ _ st h=>wpAny_pyIter_listiter st h
theorem De {K} (a it):Turn P w K tg (Vc K a) [it] it (λi h=>h.IsTupleIter it a i) where
 mem:=by simp
 obj:=λi h st b hb=>by
  have e:b=it:=by simpa using hb
  subst e;let#[o,e,c,d]:=st;show#[o,e,λv z=>by rw[d]at z;cases z]
 keep:=λi h h' st k=>st.at λo e=>k it zg o e
 item:=by
  intro X hP hw hK hc i pins s σ H E I hf st hg;subst hP hw hK;let#[xs,x,hq,hx]:=hg;let#[its,rv,p,hz]:=I.tuple hq;let#[u,hu,ru]:=rv.get hx;let#[f0,f1,f2,f3,f4,f5]:=hf it zg;refine wpAny_pyNext_tuple_item st (p) (by simpa using hu) λh' pd sb=>?_;have I1:Inv X pins σ H { s with heap:=h' }:=I.turned (λb o hb e=>(sb.2 b hb).trans e) f0 f1 f3 f4 f5;let#[o,e,c,d]:=id pd;show#[u,rfl,Cc e c d zc #[x,H,I1,ru,#[rfl,λys hy=>by rw[I.Zw hy hq];show hx],pd,λb hb=>(hf b hb).1]]
 done:=by
  intro X hP hw hK hc i pins s σ H E I hf st hg;subst hP hw hK;let#[xs,hq,hx]:=hg;let#[its,rv,p,hz]:=I.tuple hq;let#[f0,f1,f2,f3,f4,f5]:=hf it zg;have hl:=rv.length;show wpAny_pyNext_tuple_end (I.ok.hd hc) st (p) (by simp;lia) λh' eb=>#[rfl,I.turned (λb o hb e=>eb b o hb e) f0 f1 f3 f4 f5]
 self:=λ_ _ _ _ _ st h=>wpAny_pyIter_tupleiter st h
theorem oW {K} (it) (lo) (n):Turn P w K tg (vE lo n) [it] it (λi h=>IsRangeIter h it (lo+(i)*1) ((n)-(i)) 1) where
 mem:=by simp
 obj:=λi h st b hb=>by
  have e:b=it:=by simpa using hb
  subst e;show#[_,st,λv z=>by
   have z':=z;cases z']
 keep:=λi h h' st k=>k it zg _ st
 item:=by
  intro X hP hw hK hc i pins s σ H E I hf st hg;subst hP hw hK;let#[f0,f1,f2,f3,f4,f5]:=hf it zg;have W:=Walks.range (prog:=X.prog) (w:=X.w) (I.ok.hd hc) it lo 1 n;refine W.item i s _ _ hg st λv h' tk hv pd kk=>?_;let#[t,rfl]:=hv;have I1:Inv X pins σ H { s with heap:=h',toks:=tk }:=I.turned (λb o hb e=>kk b o (by simpa using hb) e) f0 f1 f3 f4 f5;refine#[_,rfl,Cc pd zj zj (by decide) #[.int<|lo+i,H,I1,#[t,?_],#[rfl,rfl],pd,λb hb=>(hf b hb).1]];rw[YV]
 done:=by
  intro X hP hw hK hc i pins s σ H E I hf st hg;let#[f0,f1,f2,f3,f4,f5]:=hf it zg;show wpAny_pyNext_range_end (I.ok.hd hc) st (by have:n<=i:=hg;lia) λh' eb=>#[rfl,I.turned (λb o hb e=>eb b o hb e) f0 f1 f3 f4 f5]
 self:=λ_ _ _ _ _ st h=>wpAny_pyIter_rangeiter st h

theorem Jr {lo hi}(I:Inv X pins σ H s) (h1:-(2 ^ 62)<=lo) (h2:lo<2 ^ 62) (h3:-(2 ^ 62)<=hi) (h4:hi<2 ^ 62)
 (q:R (vE lo (hi-lo).toNat) H):wpAny zd X.A (pyIter<|.ref s.heap.objs.size) (Va X pins σ tg R) E { s with heap:=s.heap.push { cls:=.type "range",data:=.fields (List.toArray [.int lo t,.int hi u,.int 1 v]) },toks:=tk }:=by
 refine Xf (IsRange.new ..) (small_one h1 h2 h3 h4) ?_;have I1:Inv X pins σ H { s with heap:=s.heap.push { cls:=.type "range",data:=.fields (List.toArray [.int lo t,.int hi u,.int 1 v]) },toks:=tk }:=I.kept λb o e=>aR _ e;refine#[(s.heap.push { cls:=.type "range",data:=.fields (List.toArray [.int lo t,.int hi u,.int 1 v]) }).objs.size,[(s.heap.push { cls:=.type "range",data:=.fields (List.toArray [.int lo t,.int hi u,.int 1 v]) }).objs.size],_,_,H,rfl,
  I1.kept λb o e=>aR _ e,oW _ lo (hi-lo).toNat,?_,λb hb=>?_,q]
 .have e1:lo+((0))*1=lo:=by simp
  have e2:(((hi-lo).toNat))-((0))=Builtin.Range.rangeSize lo hi 1:=by rw[Xg];split<;>lia
  change IsRangeIter _ _ (lo+((0))*1) ((((hi-lo).toNat))-((0))) 1;rw[e1,e2];show bC _ zj
 .have e:b=(s.heap.push { cls:=.type "range",data:=.fields (List.toArray [.int lo t,.int hi u,.int 1 v]) }).objs.size:=by simpa using hb
  subst e;show I1.xt (aA _)<|I1.ay.fresh<|aA _
def acV (ta:TA):TI:=λσ H R=>ta σ H λvs H1=>∃ j,vs=[.int j] /\ -(2 ^ 62)<=j /\ j<2 ^ 62 /\ R (vE 0 j.toNat) H1
theorem Go (hg:Gl X "range") (hm:X.mg "range"=ah) (ha:PA X [a] ta) (hs:starEach [a] X.env=[(af,eval a X.env)]:=by rfl):PI X tg (.Call (.Name "range" p) [a] [] pos) (acV ta):=by
 intro pins s σ H R I h;refine Call_<|jc I hg hm boot_range<|Ir (nv (ha pos pins s σ H _ I h) λus s1 vs H1 I1 r1 q1=>?_) hs zj;let#[j,e,q1,q2,q]:=q1;subst e;cases r1 with
 |cons r rr=>
   cases rr;let#[t,rfl]:=r;show call_range_1<|Jr I1 zb zb q1 q2 (by simpa using q)
def ZA (wi:TI) (g:TG) (tb:TS):TS:=λD σ H=>wi σ H λJ H1=>∃ W:Nat->Nat->St->Hp->zk,(∃ m,W 0 m σ H1) /\ ∀ i m σ H,W i m σ H ->
 (J.stop i H /\ D.nx σ H) \/ (J.go i H /\ ∃ N,(∀ σ' H',N σ' H'->∃ m',m'<m /\ W (i+1) m' σ' H') /\ ∀ x H',J.IP i H x H'->g x σ H' λσ2 H2=>tb { D with nx:=N,ct:=N,bk:=D.nx } σ2 H2)
noncomputable def xu (fp:List ai) (h:aK):List (ai×Obj):=fp.filterMap λb=>(h.get? b).map λo=>(b,o)
theorem ip (hb:b∈fp) (e:h.get? b=ae o):(b,o)∈xu fp h:=List.mem_filterMap.mpr #[b,hb,by rw[e];rfl]
theorem Gp (hp:p∈xu fp h):p.1∈fp /\ h.get? p.1=ae p.2:=by
 let#[b,hb,e]:=List.mem_filterMap.mp hp;cases q:h.get? b with
 |none=>rw[q]at e;cases e
 |some o=>
   rw[q]at e;have e':=Option.some.inj e;subst e';show#[hb,q]
theorem Inv.pinned (I:Inv X pins σ H s) (hf:∀ b∈fp,n9 X pins H b) (ho:∀ b∈fp,∃ o,s.heap.get? b=ae o /\ ∀ v,o.data≠.cell v):Inv X (pins++xu fp s.heap) σ H s:=
 I.U4 λp hp=>(d8.mp hp).elim (λz=>I.pin p<|k9 _ z) λz=>by
  let#[hb,e]:=Gp z;let#[f0,f1,f2,_]:=hf p.1 hb;let#[o,e',d]:=ho p.1 hb;rw[e]at e';cases e';show#[e,f0,f1,f2,d]
theorem Inv.Eg (I:Inv X (pins++pl) σ H s):Inv X pins σ H s:=I.U4 λp hp=>I.pin p<|k9 _<|nX _ hp
theorem P3 (hp:PassesOwn zd X.A X.env X.xe) (hc:X.calm=ag) (hi:PI X tg iter wi) (hg:PG X tg g) (hb:cX X body tb)
 (hs:∀ x,foldedSetIterable iter X.env x=pure x:=by intro _;rfl):PS X (.For tg iter body [] pos) (ZA wi g tb):=by
 intro pins s σ H D I h;refine wpAny_For (bP (hi pins s σ H _ I h) λv s1 h1=>bP h1 λIQ s2 h2=>?_) hs;let#[it,fp,tn,J,H2,e,I2,T,vF,f2,W,#[m0,w0],turn]:=h2;subst e;have stat:∀ {H'},(∀ b∈fp,H' b=ah)->∀ b∈fp,n9 X pins H' b:=λhn b hb=>#[hn b hb,(f2 b hb).2];refine codeAny_forLoop_any (λn s'=>∃ i σ' H',Inv X pins σ' H' s' /\ tn i s'.heap /\ (∀ b∈fp,H' b=ah) /\ W i n σ' H') ?_ m0 #[0,σ,H2,I2,vF,λb hb=>(f2 b hb).1,w0];rintro n s3 ⟨i,σ3,H3,I3,uu,ZC,w3⟩;rcases turn i n σ3 H3 w3 with⟨stop,qn⟩|⟨go,N,hN,step⟩
 .refine yM hp<|bP (T.done X zj zj zj hc i pins s3 σ3 H3 X.xe I3 (stat ZC) uu stop) ?_;rintro r s4 ⟨hr,I4⟩;subst hr;show HS #[σ3,H3,I4,qn]
 .refine yM hp<|bP (T.item X zj zj zj hc i pins s3 σ3 H3 X.xe I3 (stat ZC) uu go) ?_;rintro r s4 ⟨u,hr,h4⟩;subst hr;refine yM hp<|bP h4 ?_;rintro _ s5 ⟨x,H5,I5,r5,y5,tj,vG⟩;have acW:=I5.pinned (stat vG)<|T.obj _ _ tj;refine yM hp<|bP (hg _ s5 σ3 H5 x u _ acW r5<|step x H5 y5) ?_;rintro _ s6 ⟨σ6,H6,I6,q6⟩;refine yM hp<|bP (hb _ s6 σ6 H6 _ I6 q6) λf s7 q7=>?_;have again:∀ {σ7}{H7},Inv X (pins++xu fp s5.heap) σ7 H7 s7->N σ7 H7->∃ m,m<n /\ ∃ i σ' H',Inv X pins σ' H' s7 /\ tn i s7.heap /\ (∀ b∈fp,H' b=ah) /\ W i m σ' H':=λ{σ7 H7} I7 n7=>by
   let#[m',hm,w7]:=hN σ7 H7 n7;refine#[m',hm,i+1,σ7,H7,I7.Eg,T.keep _ _ _ tj λb hb o e=>(I7.pin (b,o)<|k9 _<|k9 _<|ip hb e).1,λb hb=>?_,w7];let#[o,e,d]:=T.obj _ _ tj b hb;show(I7.pin (b,o)<|k9 _<|k9 _<|ip hb e).2.1
  cases f with
  |brk=>let#[σ7,H7,I7,q7]:=q7;show#[σ7,H7,I7.Eg,q7]
  |ret v=>let#[x7,σ7,H7,I7,r7,q7]:=q7;show#[x7,σ7,H7,I7.Eg,r7,q7]
  |_=>let#[σ7,H7,I7,n7]:=q7;show again I7 n7
abbrev R2:=V->V->Hp->VK->zk
def bV (X:Cx) (f:au->au->Sem au) (r:R2):zk:=
 ∀ (pins) (s) (σ:St) (H) (x y) (v u) (Q),Inv X pins σ H s->RelV x v->RelV y u->r x y H Q ->
  wpAny zd X.A (f v u) (EP X pins σ Q) X.xe s
def Vd (X:Cx) (f:au->Sem au) (r:V->Hp->VK->zk):zk:=
 ∀ (pins) (s) (σ:St) (H) (x) (v) (Q),Inv X pins σ H s->RelV x v->r x H Q ->
  wpAny zd X.A (f v) (EP X pins σ Q) X.xe s
def pN (X:Cx) (f:au) (r:List V->Hp->VK->zk):zk:=
 ∀ (pins) (s) (σ:St) (H) (xs) (us) (Q),Inv X pins σ H s->Vals xs us->r xs H Q ->
  wpAny zd X.A (call f us) (EP X pins σ Q) X.xe s
def Eh (r:R2) (ta tb:TE):TE:=λσ H Q=>ta σ H λx H1=>tb σ H1 λy H2=>r x y H2 Q
def acX (r:V->Hp->VK->zk) (ta:TE):TE:=λσ H Q=>ta σ H λx H1=>r x H1 Q
def rI (C:Int->Int->zk) (g:Int->Int->V):R2:=λx y H Q=>∃ i j,x=.int i /\ y=.int j /\ C i j /\ Q (g i j) H
def vH (g:Int->Int->V):R2:=λx y H Q=>∃ i j,x=.int i /\ y=.int j /\ Q (g i j) H
def rU (g:Int->V):V->Hp->VK->zk:=λx H Q=>∃ i,x=.int i /\ Q (g i) H

theorem Ve (ha:PE X a ta) (hb:PE X b tb) {R:V->V->Hp->zk}(I:Inv X pins σ H s)
 (h:ta σ H λx H1=>tb σ H1 λy H2=>R x y H2) {f:au->au->Sem au}
 (hf:∀ v u s2 x y H2,Inv X pins σ H2 s2->RelV x v->RelV y u->R x y H2->wpAny zd X.A (f v u) Q X.xe s2) :
 wpAny zd X.A (eval a X.env) (λv s₁=>wpAny zd X.A (eval b X.env) (λu s₂=>wpAny zd X.A (f v u) Q X.xe s₂) X.xe s₁) X.xe s:=by
 refine aV (ha pins s σ H _ I h) λv s1 x H1 I1 r1 q1=>?_;show aV (hb pins s1 σ H1 _ I1 q1) λu s2 y H2 I2 r2 q2=>(hf v u s2 x y H2 I2 r1 r2 q2)
theorem Cd (ho:bV X (binaryOp op) r) (ha:PE X a ta) (hb:PE X b tb):PE X (.BinOp a op b pos) (Eh r ta tb):=by
 intro pins s σ H Q I h;show wpAny_BinOp<|Ve ha hb I h λv u s2 x y H2 I2 rx ry q=>ho pins s2 σ H2 x y v u Q I2 rx ry q
theorem O6 (ho:Vd X (unaryOp op) r) (ha:PE X a ta):PE X (.UnaryOp op a pos) (acX r ta):=by
 intro pins s σ H Q I h;show UnaryOp_<|aV (ha pins s σ H _ I h) λv s1 x H1 I1 r1 q1=>ho pins s1 σ H1 x v Q I1 r1 q1
theorem IU {g:Int->Int->Int}
 (rule:∀ (i j) (t u) (s) (Q) (E),C i j->Q (.int (g i j) s.toks) { s with toks:=s.toks+1 }->wpAny zd X.A (f (.int i t)<|.int j u) Q E s) :
 bV X f (rI C λi j=>.int<|g i j):=by
 intro pins s σ H x y v u Q I rx ry h;let#[i,j,rfl,rfl,hc,q]:=h;let#[t,rfl]:=rx;let#[t',rfl]:=ry;show rule i j t t' s _ _ hc #[.int _,H,I.tok _,#[_,rfl],q]
theorem ZD {g:Int->Int->Int}
 (rule:∀ (i j) (t u) (s) (Q) (E),Q (.int (g i j) s.toks) { s with toks:=s.toks+1 }->wpAny zd X.A (f (.int i t)<|.int j u) Q E s) :
 bV X f (vH λi j=>.int<|g i j):=by
 intro pins s σ H x y v u Q I rx ry h;let#[i,j,rfl,rfl,q]:=h;let#[t,rfl]:=rx;let#[t',rfl]:=ry;show rule i j t t' s _ _ #[.int _,H,I.tok _,#[_,rfl],q]
theorem IV {g:Int->Int->Bool}
 (rule:∀ (i j) (t u) (s) (Q) (E),Q (.bool<|g i j) s->wpAny zd X.A (f (.int i t)<|.int j u) Q E s) :
 bV X f (vH λi j=>.bl<|g i j):=by
 intro pins s σ H x y v u Q I rx ry h;let#[i,j,rfl,rfl,q]:=h;let#[t,rfl]:=rx;let#[t',rfl]:=ry;show rule i j t t' s _ _ #[.bl _,H,I,rfl,q]
def xw (i j:Int):zk:=0<=j /\ j<=1000000 /\ i.natAbs<2 ^ 64
def xx (i j:Int):zk:=(-(2 ^ 64)<i /\ i<2 ^ 64) \/ (-(2 ^ 64)<j /\ j<2 ^ 64)
theorem xx.ok (h:xx i j):IntMulOk i j:=by
 rcases h with⟨h1,h2⟩|⟨h1,h2⟩
 .show .of_left<|Xh h1 h2
 .show .of_right<|Xh h1 h2
theorem P4:bV X (binaryOp .Add) (vH λi j=>.int<|i+j):=ZD λ_ _ _ _ _ _ _ q=>add_int q
theorem P5:bV X (binaryOp .Mult) (rI xx λi j=>.int<|i*j):=IU λ_ _ _ _ _ _ _ hc q=>mul_int q hc.ok
theorem acY {g:Int->Int}
 (rule:∀ (i) (t) (s) (Q) (E),Q (.int (g i) s.toks) { s with toks:=s.toks+1 }->wpAny zd X.A (f<|.int i t) Q E s) :
 Vd X f (rU λi=>.int<|g i):=by
 intro pins s σ H x v Q I rx h;let#[i,rfl,q]:=h;let#[t,rfl]:=rx;show rule i t s _ _ #[.int _,H,I.tok _,#[_,rfl],q]
theorem Js:Vd X (unaryOp .USub) (rU λi=>.int<|-i):=acY λ_ _ _ _ _ q=>neg_int q
noncomputable def ZE:V->V->Bool
 |.non,.non=>ag|.non,.int _=>ag|.int _,.non=>ag|.non,.bl _=>ag|.bl _,.non=>ag|.non,.str _=>ag|.str _,.non=>ag
 |.int _,.int _=>ag|.bl _,.bl _=>ag|.str _,.str _=>ag|.nI _,.nI _=>ag
 |.int _,.str _=>ag|.str _,.int _=>ag|.bl _,.str _=>ag|.str _,.bl _=>ag
 |_,_=>af
def ZF:R2:=λx y H Q=>ZE x y=ag /\ Q (.bl<|decide (x=y)) H
def ZG:R2:=λx y H Q=>ZE x y=ag /\ Q (.bl<|!decide (x=y)) H
theorem D6:decide (V.int i=V.int j)=(i==j):=by
 rw[qj];simp
theorem Jt:decide (V.bl i=V.bl j)=(i==j):=by
 rw[qj];simp
theorem D7:decide (V.str i=V.str j)=(i==j):=by
 rw[qj];simp
theorem D8:decide (V.nI i=V.nI j)=(i.toList==j.toList):=by
 rw[qj];cases i;cases j;simp

theorem f8 (I:Inv X pins σ H s) (q:Q (.bl k) H) (e:k=k'):EP X pins σ Q (.bool k') s:=by
 subst e;show#[.bl k,H,I,rfl,q]
theorem SY:bV X (compareOp .Eq) ZF:=by
 intro pins s σ H x y v u Q I rx ry h;let#[hs,q]:=h;cases x with
 |non=>
   cases rx;cases y with
   |non=>cases ry;show abU<|f8 I q zg
   |bl j=>cases ry;show abV<|f8 I q zg
   |int j=>let#[t',rfl]:=ry;show abW<|f8 I q zg
   |str j=>let#[t',rfl]:=ry;show abX<|f8 I q zg
   |_=>show absurd (hs) dS
 |bl i=>
   cases rx;cases y with
   |non=>cases ry;show abY<|f8 I q zg
   |bl j=>cases ry;show eq_bool<|f8 I q Jt
   |str j=>let#[t',rfl]:=ry;show ab8<|f8 I q zg
   |_=>show absurd (hs) dS
 |int i=>
   let#[t,rfl]:=rx;cases y with
   |non=>cases ry;show abZ<|f8 I q zg
   |int j=>let#[t',rfl]:=ry;show eq_int<|f8 I q D6
   |str j=>let#[t',rfl]:=ry;show ab9<|f8 I q zg
   |_=>show absurd (hs) dS
 |str i=>
   let#[t,rfl]:=rx;cases y with
   |non=>cases ry;show ab0<|f8 I q zg
   |bl j=>cases ry;show aca<|f8 I q zg
   |int j=>let#[t',rfl]:=ry;show acb<|f8 I q zg
   |str j=>let#[t',rfl]:=ry;show eq_str<|f8 I q D7
   |_=>show absurd (hs) dS
 |nI i=>
   let#[t,rfl]:=rx;cases y with
   |nI j=>let#[t',rfl]:=ry;show PySem.W.eq_bytes<|f8 I q D8
   |_=>show absurd (hs) dS
 |_=>cases y<;>show absurd (show af=ag from hs) dS
theorem O7:bV X (compareOp .NotEq) ZG:=by
 intro pins s σ H x y v u Q I rx ry h;let#[hs,q]:=h;cases x with
 |non=>
   cases rx;cases y with
   |non=>cases ry;show ab1<|f8 I q zg
   |bl j=>cases ry;show ab2<|f8 I q zg
   |int j=>let#[t',rfl]:=ry;show ab3<|f8 I q zg
   |str j=>let#[t',rfl]:=ry;show ab4<|f8 I q zg
   |_=>show absurd (hs) dS
 |bl i=>
   cases rx;cases y with
   |non=>cases ry;show ab5<|f8 I q zg
   |bl j=>cases ry;show ne_bool<|f8 I q<|congrArg not Jt
   |str j=>let#[t',rfl]:=ry;show acd<|f8 I q zg
   |_=>show absurd (hs) dS
 |int i=>
   let#[t,rfl]:=rx;cases y with
   |non=>cases ry;show ab6<|f8 I q zg
   |int j=>let#[t',rfl]:=ry;show ne_int<|f8 I q<|congrArg not D6
   |str j=>let#[t',rfl]:=ry;show ace<|f8 I q zg
   |_=>show absurd (hs) dS
 |str i=>
   let#[t,rfl]:=rx;cases y with
   |non=>cases ry;show ab7<|f8 I q zg
   |bl j=>cases ry;show acf<|f8 I q zg
   |int j=>let#[t',rfl]:=ry;show acg<|f8 I q zg
   |str j=>let#[t',rfl]:=ry;show ne_str<|f8 I q<|congrArg not D7
   |_=>show absurd (hs) dS
 |nI i=>
   let#[t,rfl]:=rx;cases y with
   |nI j=>let#[t',rfl]:=ry;show PySem.W.ne_bytes<|f8 I q<|congrArg not D8
   |_=>show absurd (hs) dS
 |_=>cases y<;>show absurd (show af=ag from hs) dS
theorem SZ:bV X (compareOp .Lt) (vH λi j=>.bl<|decide (i<j)):=IV λ_ _ _ _ _ _ _ q=>lt_int q
theorem bV.or (h:bV X f r) (h':bV X f r'):bV X f (λx y H Q=>r x y H Q \/ r' x y H Q):=by
 intro pins s σ H x y v u Q I rx ry q;rcases q with q|q
 .show h pins s σ H x y v u Q I rx ry q
 .show h' pins s σ H x y v u Q I rx ry q
theorem acZ (b) (h:op≠.In:=by decide) (h2:op≠.NotIn:=by decide):behindInMarks op b=af:=by
 have e1:(op==CmpOp.In)=af:=by cases op<;>first|rfl|show absurd zj h
 have e2:(op==CmpOp.NotIn)=af:=by cases op<;>first|rfl|show absurd zj h2
 cases b<;>simp[behindInMarks,e1,e2]
theorem MV (ho:bV X (compareOp op) r) (ha:PE X a ta) (hb:PE X b tb) (hm:behindInMarks op b=af):PE X (.Compare a [op] [b] pos) (Eh r ta tb):=by
 intro pins s σ H Q I h;show Xa (Ve ha hb I h λv u s2 x y H2 I2 rx ry q=>ho pins s2 σ H2 x y v u Q I2 rx ry q) hm
noncomputable def ZH (t:TE):TT:=λσ H Q=>t σ H λx H'=>∃ k,x=.bl k /\ Q k H'
theorem D9 (ho:bV X (compareOp op) r) (ha:PE X a ta) (hb:PE X b tb) (hm:behindInMarks op b=af):PT X (.Compare a [op] [b] pos) (ZH<|Eh r ta tb):=by
 intro pins s σ H Q I h;refine Xb (aV (ha pins s σ H _ I h) λv s1 x H1 I1 r1 q1=>aV (hb pins s1 σ H1 _ I1 q1) λu s2 y H2 I2 r2 q2=>aV (ho pins s2 σ H2 x y v u _ I2 r1 r2 q2) λc s3 z H3 I3 r3 hh=>?_) hm;let#[k,e,q3]:=hh;subst e;cases r3;show qf #[H3,I3,q3]
def Vf (r r':R2) (ta tb tc:TE):TE:=λσ H Q=>ta σ H λx H1=>tb σ H1 λy H2=>r x y H2 λz H3=>∃ k,z=.bl k /\
 (if k=ag then tc σ H3 λw' H4=>r' y w' H4 Q else Q (.bl af) H3)
theorem Ju (ho:bV X (compareOp op) r) (d9:bV X (compareOp kB) r') (ha:PE X a ta) (hb:PE X b tb) (hc:PE X c tc)
 (hm:lastMarks [op,kB] [b,c]=af:=by with_unfolding_all rfl):PE X (.Compare a [op,kB] [b,c] pos) (Vf r r' ta tb tc):=by
 intro pins s σ H Q I h;refine Compare_chain (aV (ha pins s σ H _ I h) λv s1 x H1 I1 r1 q1=>chain_link<|aV (hb pins s1 σ H1 _ I1 q1) λu s2 y H2 I2 r2 q2=>aV (ho pins s2 σ H2 x y v u _ I2 r1 r2 q2) λd s3 z H3 I3 r3 hh=>?_) hm;let#[k,e,q3]:=hh;subst e;cases r3;refine qf ?_;cases k with
 |false=>show ite_ff #[.bl af,H3,I3,rfl,q3]
 |true=>show ite_tt<|chain_last<|aV (hc pins s3 σ H3 _ I3 q3) λw' s4 z' H4 I4 r4 q4=>d9 pins s4 σ H4 y z' u w' Q I4 r2 r4 q4
theorem Jv (ho:bV X (compareOp op) r) (d9:bV X (compareOp kB) r') (ha:PE X a ta) (hb:PE X b tb) (hc:PE X c tc)
 (hm:lastMarks [op,kB] [b,c]=af:=by with_unfolding_all rfl):PT X (.Compare a [op,kB] [b,c] pos) (ZH<|Vf r r' ta tb tc):=by
 intro pins s σ H Q I h;refine isTrue_chain (aV (ha pins s σ H _ I h) λv s1 x H1 I1 r1 q1=>test_link<|aV (hb pins s1 σ H1 _ I1 q1) λu s2 y H2 I2 r2 q2=>aV (ho pins s2 σ H2 x y v u _ I2 r1 r2 q2) λd s3 z H3 I3 r3 hh=>?_) hm;let#[k,e,q3]:=hh;subst e;cases r3;refine qf ?_;cases k with
 |false=>
   let#[k',e',q']:=q3;cases e';show ite_ff #[H3,I3,q']
 |true=>
   refine ite_tt<|test_last<|aV (hc pins s3 σ H3 _ I3 q3) λw' s4 z' H4 I4 r4 q4=>aV (d9 pins s4 σ H4 y z' u w' _ I4 r2 r4 q4) λd' s5 z2 H5 I5 r5 hh=>?_;let#[k2,e2,q5]:=hh;subst e2;cases r5;show qf #[H5,I5,q5]
theorem xy:(sizeLine)<2 ^ 63:=by decide
theorem Df:bV X (binaryOp .Add) (λx y H Q=>∃ i j,x=.str i /\ y=.str j /\ i.length+j.length<=sizeLine /\ Q (.str<|i++j) H):=by
 intro pins s σ H x y v u Q I rx ry h;let#[i,j,rfl,rfl,hz,q]:=h;let#[t,rfl]:=rx;let#[t',rfl]:=ry;show add_str (λt' tk=>#[.str _,H,I.tok _,#[_,rfl],q]) hz
theorem vals1 (r:Vals [x] us):∃ u,us=[u] /\ RelV x u:=by
 cases r with
 |cons r1 r2=>cases r2;show#[_,rfl,r1]
theorem vals2 (r:Vals [x,y] us):∃ u w',us=[u,w'] /\ RelV x u /\ RelV y w':=by
 cases r with
 |cons r1 r2=>
   cases r2 with
   |cons r3 r4=>cases r4;show#[_,_,rfl,r1,r3]
structure xA (h:aK) (x dx C:ai) (mA:Str->Option au):zk where
 obj:h.get? x=ae (PySem.W.instObj C dx)
 ns:h.Ns1 dx mA
 ne:dx≠x
theorem Gq {h:aK}(n:h.Ns1 dx mA):∃ od,h.get? dx=ae od /\ ∀ name,PySem.W.lookIn name od=ae (mA name):=by
 let#[o,es,ep,ho,hd,hk,_,hm]:=n;refine#[o,ho,λname=>?_];have e:=hm name;unfold nsFind findBy at e;rw[<-Array.find?_toList]at e;unfold PySem.W.lookIn;rw[hd];dsimp only;split
 .ext y q;rw[q]at e;show congrArg ae e
 .ext q;rw[q]at e;have a:es.toList.any (·.refKey)=af:=by
   rw[QM];intro y hy;let#[z,t,Vg]:=hk y<|Array.mem_toList_iff.mp hy;simp[DictEntry.refKey,Vg]
  rw[if_neg (by rw[a];show dS)];show congrArg ae e
theorem xA.look (I:xA h x dx C mA):∃ od,PySem.W.InstAt h x (PySem.W.instObj C dx) C (ae od) /\ ∀ name,PySem.W.lookIn name od=ae (mA name):=
 let ⟨od,ho,hl⟩:=Gq I.ns
 #[od,#[I.obj,rfl,rfl,ho],hl]
section
variable {K:PySem.W.Frag}
theorem Jw (X:K.In s.heap) (I:xA s.heap x dx C mA) (hg:PySem.W.plainGet K C name=ag)
 (hf:PySem.W.findIn K (.ref C) name=ae (ae<|.ref f)) (ht:PySem.W.isFn K (.ref f)=ag) (hv:mA name=ah) (h:Q (.ref f,[.ref x]) s) :
 wpAny zf A (getMethod (.ref x) name pl) Q E s:=by
 let#[od,J,hl]:=I.look;show PySem.W.method_fn X J (UI hg).1 (UI hg).2 hf (beq_iff_eq.mp ht) (by change (PySem.W.lookIn name od).map _=ae af;rw[hl,hv];rfl) h
theorem MW (X:K.In s.heap) (I:xA s.heap x dx C mA)
 (hs:PySem.W.findIn K (.ref C) "__setattr__"=ae (ae<|.builtin "object.__setattr__")) (hp:PySem.W.plainOver K C=ag) (ht:PySem.W.takerIn K C name=ae ah) (hh:PySem.W.hasDictIn K C=ag)
 (hw:PySem.Within mA ns) (hsz:ns.length<=sizeLine)
 (h:∀ h',xA h' x dx C (λy=>if y=name then ae v else mA y)->Heap.SameBut dx s.heap h'->Q () { s with heap:=h',toks:=s.toks+2 }) :
 wpAny zf A (setAttr (.ref x) name v) Q E s:=by
 let#[od,J,hl]:=I.look;refine PySem.W.set_plain X J hs<|PySem.W.osa_open X J hp ht λb=>?_;let#[cd,hc,rV]:=PySem.W.any_some hh;refine ak<|ax<|ak<|ak<|Xi I.obj<|ak<|PySem.W.Looks.here (PySem.W.looks_clsIn X hc) ?_;rw[rV];refine ax<|ak<|ax<|ak ?_;refine wpAny_nsSet1 I.ns λh' ZI kg=>?_;let#[oD,ag2,ag3,ac0,ac1,tw]:=ZI.count<|PySem.Within.cons name v hw;show ak<|wpAny_lookBehind ac0 (by rw[ac1];show pastItsLine_dict (cw tw (by rw[a6];lia)))<|ax<|h _ #[(kg.2 _<|Ne.symm I.ne).trans I.obj,ZI,I.ne] kg
end
noncomputable def kC (f:Str) (v:V):List (Str×V)->List (Str×V)
 |[]=>[(f,v)]
 |(g,x)::r=>if g=f then (g,v)::r else (g,x)::kC f v r
theorem mV (f g) (v):∀ fs,(kC f v fs).lookup g=if g=f then ae v else fs.lookup g
 | []=>by
   change List.lookup g [(f,v)]=_;by_cases h:g=f
   .simp[List.lookup,(beq_iff_eq.mpr h),if_pos h]
   .simp[List.lookup,(beq_eq_false_iff_ne.mpr h),if_neg h]
 | (k,x)::r=>by
   rw[show kC f v _=(if k=f then (k,v)::r else (k,x)::kC f v r) from rfl];by_cases hk:k=f
   .rw[if_pos hk];by_cases h:g=k
    .simp[List.lookup,(beq_iff_eq.mpr h),if_pos<|h.trans hk]
    .simp[List.lookup,(beq_eq_false_iff_ne.mpr h),if_neg λe:g=f=>h<|e.trans hk.symm]
   .rw[if_neg hk];by_cases h:g=k
    .simp[List.lookup,(beq_iff_eq.mpr h),if_neg λe:g=f=>hk<|h.symm.trans e]
    .simp[List.lookup,(beq_eq_false_iff_ne.mpr h)];show(mV f g v r)
theorem mI (f) (v):∀ fs,f∈(kC f v fs).map (·.1) /\ ∀ g,g∈fs.map (·.1)->g∈(kC f v fs).map (·.1)
 |[]=>#[by simp[kC],λg h=>by simp at h]
 | (k,x)::r=>by
   let#[i1,i2]:=mI f v r;rw[show kC f v _=(if k=f then (k,v)::r else (k,x)::kC f v r) from rfl];by_cases hk:k=f
   .subst hk;show#[by simp,λg h=>by simpa using h]
   .rw[if_neg hk];refine#[?_,λg h=>?_]
    .show bD _ i1
    .rcases a9.mp h with e|e
     .show a9.mpr<|.inl e
     .show bD _<|i2 g e
theorem mX (f) (v):∀ fs,(kC f v fs).length<=fs.length+1
 |[]=>by simp[kC]
 | (k,x)::r=>by
   have ih:=mX f v r;rw[show kC f v _=(if k=f then (k,v)::r else (k,x)::kC f v r) from rfl];by_cases hk:k=f
   .rw[if_pos hk,a6,a6];lia
   .rw[if_neg hk,a6,a6];lia
theorem kO.some_of (r:kO (ae v) o):∃ u,o=ae u /\ RelV v u:=by
 cases o with
 |none=>show(r).elim
 |some u=>show#[u,rfl,r]
theorem kO.none_of (r:kO ah o):o=ah:=by
 cases o with
 |none=>rfl
 |some u=>show(r).elim

theorem oC (ay:cu P w H h) (e:H a=ae (.ins C dx fs)):∃ mA,xA h a dx C mA /\ (∀ f,kO (fs.lookup f)<|mA f) /\ PySem.Within mA (fs.map (·.1)) /\ fs.length<=1000 /\ H dx=ae (.own a):=by
 let#[d,z,ne,ob,mA,n,r,q]:=(ay a _ e);show#[mA,#[ob,n,ne],r,q,z,d]
structure kD (K:PySem.W.Frag) (C:ai):zk where
 pg:PySem.W.plainGet K C Str.empty=ag
 hd:PySem.W.hasDictIn K C=ag
 po:PySem.W.plainOver K C=ag
 sa:PySem.W.findIn K (.ref C) "__setattr__"=ae (ae<|.builtin "object.__setattr__")
theorem kD.get {K}(c:kD K C) (f):PySem.W.plainGet K C f=ag:=c.pg
def qK (K:PySem.W.Frag) (C:ai) (f:Str):zk:=PySem.W.findIn K (.ref C) f=ae ah
theorem qK.ac2 {K}(n:qK K C f):PySem.W.takerIn K C f=ae ah:=by
 unfold PySem.W.takerIn;rw[n];rfl
structure Meth (K:PySem.W.Frag) (C:ai) (m:Str) (f:ai):zk where
 at_:PySem.W.findIn K (.ref C) m=ae (ae<|.ref f)
 fn:PySem.W.isFn K (.ref f)=ag
 kp:PySem.W.keepIn K (.ref f)=ag

theorem Dg (I:Inv X pins σ H s) (e:H a=ae (.ins C dx fs)) (c:kD X.K C) (n:qK X.K C f) (l:fs.lookup f=ae v)
 (h:∀ u s',Inv X pins σ H s'->RelV v u->Q u s'):wpAny zd A (getAttr (.ref a) f b) Q E s:=by
 let#[mA,O,r,_,_,_]:=oC I.ay e;let#[u,hu,ru]:=kO.some_of (by rw[<-l];show r f);show(λX I hg hh ha hv Ei h=>by
  let#[od,J,hl]:=I.look;show PySem.W.get_value X J (UI hg).1 (PySem.W.findObj_own hh ha zj (by rw[hl,hv])) Ei h) I.cK O (c.get f) c.hd n hu ((λr=>by
  cases v with
  |non=>cases (r);rfl
  |bl b=>cases (r);rfl
  |int i=>let#[t,e]:=(r);cases e;rfl
  |str x=>let#[t,e]:=(r);cases e;rfl
  |nI b=>let#[t,e]:=(r);cases e;rfl
  |rS b=>let#[t,e]:=(r);cases e;rfl
  |ref a=>cases (r);rfl
  |ty n=>cases (r);rfl) ru) (h u _ (I.tok _) ru)
theorem oX (I:Inv X pins σ H s) (e:H a=ae (.ins C dx fs)) (c:kD X.K C) (k:Meth X.K C m g) (l:fs.lookup m=ah)
 (h:Q (.ref g,[.ref a]) s):wpAny zd A (getMethod (.ref a) m pl) Q E s:=by
 let#[mA,O,r,_,_,_]:=oC I.ay e;show Jw I.cK O (c.get m) k.at_ k.fn (kO.none_of (by rw[<-l];show r m)) h
theorem Dh (I:Inv X pins σ H s) (e:H a=ae (.ins C dx fs)) (c:kD X.K C) (n:qK X.K C f) (hl:fs.length<1000) (ry:RelV y u)
 (h:∀ s',Inv X pins σ (upd H a<|.ins C dx<|kC f y fs) s'->Q () s'):wpAny zd A (setAttr (.ref a) f u) Q E s:=by
 let#[mA,O,r,wi,_,ho]:=oC I.ay e;refine MW I.cK O c.sa c.po n.ac2 c.hd wi (by rw[aX,bB];lia) λh' O' sb=>h _ ?_;refine I.write (by rw[e];show True.intro) (.inr ho) (λb q hb z=>(sb.2 b hb).trans z) (let ⟨o,_,_,e',_⟩:=O'.ns;#[o,e']) ?_;refine#[by rw[fv O.ne];show ho,?_,O.ne,O'.obj,_,O'.ns,λg=>?_,λg hg=>?_]
 .have:=mX f y fs;lia
 .rw[mV];by_cases q:g=f
  .rw[if_pos q,if_pos q];show ry
  .rw[if_neg q,if_neg q];show r g
 .by_cases q:g=f
  .rw[q];show(mI f y fs).1
  .refine(mI f y fs).2 g (wi g λz=>hg ?_);change (if g=f then ae u else mA g)=ah;rw[if_neg q];show z
theorem Inv.made (I:Inv X pins σ H s):Inv X pins σ (upd (upd H s.heap.objs.size<|.own<|s.heap.objs.size+1) (s.heap.objs.size+1)<|.ins C s.heap.objs.size [])
 { s with heap:=(s.heap.push PySem.W.emptyDict).push (PySem.W.instObj C s.heap.objs.size) }:=by
 have e1:(s.heap.push PySem.W.emptyDict).get? s.heap.objs.size=ae PySem.W.emptyDict:=bC s.heap zj;have e2:((s.heap.push PySem.W.emptyDict).push<|PySem.W.instObj C s.heap.objs.size).get? (s.heap.objs.size+1)=ae (PySem.W.instObj C s.heap.objs.size):=by
  have:=bC (s.heap.push PySem.W.emptyDict) (o:=PySem.W.instObj C s.heap.objs.size) zj
  rwa [qB]at this
 refine(I.laid (o:=.own _) (t':=s.toks) (λb u q=>aR _ q) (aA _) #[_,e1]).laid (λb u q=>aR _ q) (ve<|qB _ _) ?_;have ne:s.heap.objs.size≠s.heap.objs.size+1:=bN<|qi _;refine#[by rw[fv ne,fu],di _,ne,e2,λ_=>ah,(ach #[PySem.W.emptyDict,#[],_,e1,rfl,(λe he=>absurd he zg),λ_=>rfl]).at λo q=>aR _ q,λ_=>True.intro,λy hy=>absurd rfl hy]
def ac3 (K:PySem.W.Frag) (ta:TE) (f:Str):TE:=λσ H Q=>ta σ H λx H1=>∃ a C dx fs v,x=.ref a /\ H1 a=ae (.ins C dx fs) /\ kD K C /\ qK K C f /\ fs.lookup f=ae v /\ Q v H1
def ac4 (K:PySem.W.Frag) (ta tv:TE) (f:Str):TS:=λD σ H=>tv σ H λy H1=>ta σ H1 λx H2=>∃ a C dx fs,x=.ref a /\ H2 a=ae (.ins C dx fs) /\ kD K C /\ qK K C f /\ fs.length<1000 /\
 D.nx σ (upd H2 a<|.ins C dx<|kC f y fs)

theorem P6 (he:PE X e ta) (hb:attributeBase e f X.env (eval e X.env)=eval e X.env):PE X (.Attribute e f pos) (ac3 X.K ta f):=by
 intro pins s σ H Q I h;refine(λhb h=>Attribute_any_ h (by rw[arm_eval_Attribute,hb])) hb (aV (he pins s σ H _ I h) λu s1 x H1 I1 rx hh=>?_);let#[a,C,dx,fs,v,ex,ea,c,n,l,q]:=hh;subst ex;obtain rfl:u=Value.ref a:=rx;show Dg I1 ea c n l λu' s2 I2 ru=>#[v,H1,I2,ru,q]
theorem Jx (ha:PE X o ta) (hv:PE X value tv) (hs:swapsWith value (ae<|.Attribute o f pos') pos.line X.env=pure af):PS X (.Assign [.Attribute o f pos'] value pos) (ac4 X.K ta tv f):=by
 intro pins s σ H D I h;refine plainObj_wpAny_Assign_Attribute (aV (hv pins s σ H _ I h) λu s1 y H1 I1 ry q=>aV (ha pins s1 σ H1 _ I1 q) λov s2 x H2 I2 rx hh=>?_) hs;let#[a,C,dx,fs,ex,ea,c,n,l,q2]:=hh;subst ex;obtain rfl:ov=Value.ref a:=rx;show Dh I2 ea c n l ry λs3 I3=>#[σ,_,I3,q2]

inductive pf (K:PySem.W.Frag) (H:Hp):V->au->zk where
 |non:pf K H .non (.type "NoneType")
 |bl (x:Bool):pf K H (.bl x) (.type "bool")
 |int (i:Int):pf K H (.int i) (.type "int")
 |str (x:Str):pf K H (.str x) (.type "str")
 |rS (x:UInt64):pf K H (.rS x) (.type "float")
 |lst {a:ai}{xs:List V}(e:H a=ae (.lst xs)):pf K H (.ref a) (.type "list")
 |bA {a:ai}{o:Obj}{xs:List V}(e:H a=ae (.bA o<|.lst xs)):pf K H (.ref a) (.type "list")
 |tup {a:ai}{xs:List V}(e:H a=ae (.tup xs)):pf K H (.ref a) (.type "tuple")
 |dK {a:ai}{ao:List (Key×V)}(e:H a=ae (.dK ao)):pf K H (.ref a) (.type "dict")
 |dT {a:ai}{ao:List (List Key×V)}(e:H a=ae (.dT ao)):pf K H (.ref a) (.type "dict")
 |ins {a C dx:ai}{fs:List (Str×V)}(e:H a=ae (.ins C dx fs)) (cl:kD K C) (ha:PySem.W.findIn K (.ref C) "__class__"=ae (ae<|.builtin "object.__class__"))
  (hn:PySem.W.specialIn K (.builtin "object.__class__") "__get__"=ae (ae<|.builtin "getset_descriptor.__get__")) (ZJ:PySem.W.takesIn K (.builtin "object.__class__")=ae ag)
  (hm:PySem.W.mroIn K C (.type "object")=ae ag):pf K H (.ref a) (.ref C)
theorem Gr (I:Inv X pins σ H s) (rx:RelV x u) (ty:pf X.K H x t) (e:PySem.W.kitOne X.K t c=ae b) (h:∀ tk,Q (.bool b) { s with toks:=tk }) :
 wpAny zd A (call (.builtin "isinstance") [u,c]) Q E s:=by
 cases ty with
 |non=>cases (rx);show qo PySem.W.kitx_none I.cK True.intro e (λz=>nomatch z) h
 |bl y=>cases (rx);show qo PySem.W.kitx_bool I.cK True.intro e (λz=>nomatch z) h
 |int i=>let#[t,q]:=(rx);cases q;show qo PySem.W.kitx_int I.cK True.intro e (λz=>nomatch z) h
 |str y=>let#[t,q]:=(rx);cases q;show qo PySem.W.kitx_str I.cK True.intro e (λz=>nomatch z) h
 |rS y=>let#[t,q]:=(rx);cases q;show qo PySem.W.kitx_float I.cK True.intro e (λz=>nomatch z) h
 |@lst a xs ea=>
   cases (rx);let#[_,_,n,_,h1]:=(I.ay a _ ea);show qo YR I.cK #[_,h1,rfl] e (λz=>nomatch z) h
 |@bA a ob xs ea=>
   cases (rx);let#[_,_,_,n,_,h1]:=(I.ay a _ ea);show qo YR I.cK #[_,h1,rfl] e (λz=>nomatch z) h
 |@tup a xs ea=>
   cases (rx);let#[_,_,_,p]:=(I.ay a _ ea);let#[o,h1,h2,_]:=p;show qo PySem.W.kitx_tuple I.cK #[o,h1,h2] e (λz=>nomatch z) h
 |@dK a ao ea=>
   cases (rx);let#[_,_,vs,_,p]:=(I.ay a _ ea);let#[o,es,ep,h1,h2,_]:=p;show qo YS I.cK #[o,h1,h2.1] e (λz=>nomatch z) h
 |@dT a ao ea=>
   cases (rx);let#[_,_,xs,_,o,es,ep,h1,h2,_]:=(I.ay a _ ea);show qo YS I.cK #[o,h1,h2.1] e (λz=>nomatch z) h
 |@ins a C dx fs ea cl ha hn ZJ hm=>
   cases (rx);let#[mA,O,_]:=oC I.ay ea;let#[od,J,_]:=O.look;show qo (PySem.W.kitx_own (cl.get _) cl.hd ha hn ZJ hm) I.cK J e (λz=>nomatch z) h
structure bI (k:Nat) (A:dj):zk where
 hd:A.handled=ah
 dp:A.depth+3*k+5<recursionLimit
 un:A.units+16*k+200<cLine
 gd:A.guards=ae []
theorem bI.mono (r:bI k A) (h:j<=k):bI j A:=#[r.hd,by have:=r.dp;lia,by have:=r.un;lia,r.gd]
theorem bI.deeper (r:bI (k+1) A) (env):bI k (A.deeper env):=
 #[r.hd,by have:=r.dp;change A.depth+1+3*k+5<_;lia,by have:=r.un;change A.units+3+16*k+200<_;lia,by first|show r.gd|(first|rfl|simp[guardIds])]
theorem Di {A:dj}:(A.under<|.builtin "type.__call__" #[.ref C::us,kw]).depth=A.depth+1:=by
 first|rfl|simp[guardIds]
theorem Dj {A:dj}:(A.under<|.builtin "type.__call__" #[.ref C::us,kw]).units=A.units+1:=by
 first|rfl|simp[Code.isFrame]
theorem bI.make (r:bI (k+1) A) (C) (us) (kw):bI k (A.under<|.builtin "type.__call__" #[.ref C::us,kw]):=
 #[r.hd,by have:=r.dp;rw[Di];lia,by have:=r.un;rw[Dj];lia,by first|show r.gd|(first|rfl|simp[guardIds])]
theorem bI.depth (r:bI k A):A.depth<recursionLimit:=by have:=r.dp;lia
theorem bI.units (r:bI k A):A.units+64<cLine:=by have:=r.un;lia
def IW:TA:=λ_ H Q=>Q [] H
def Vh (ta:TE) (tr:TA):TA:=λσ H Q=>ta σ H λx H1=>tr σ H1 λxs H2=>Q (x::xs) H2

theorem fR:PA X [] IW:=λ_ _ _ _ H Q I h=>yX #[[],H,I,.nil,h]
theorem fA (ha:PE X e te) (hr:PA X es t) (hs:starEach (e::es) X.env=(af,eval e X.env)::starEach es X.env:=by rfl):PA X (e::es) (Vh te t):=by
 intro pos pins s σ H Q I h;rw[hs];change wpAny _ _ (spliced ((af,eval e X.env)::backTo pos _)) _ _ s;show yY<|aV (ha pins s σ H _ I h) λu s1 x H1 I1 r1 q1=>(nv (hr pos pins s1 σ H1 _ I1 q1) λus s2 xs H2 I2 r2 q2=>#[x::xs,H2,I2,.cons r1 r2,q2])
def ac5 (t:TA):TE:=λσ H Q=>t σ H λxs H1=>xs.length<=sizeLine /\ ∀ p,H1 p=ah->Q (.ref p) (upd H1 p<|.tup xs)
def ac6 (t:TA):TE:=λσ H Q=>t σ H λxs H1=>xs.length<=sizeLine /\ ∀ p,H1 p=ah->Q (.ref p) (upd H1 p<|.lst xs)
theorem Jy (h:PA X es t):PE X (.Tuple es x1 pos) (ac5 t):=by
 intro pins s σ H Q I hq;refine wpAny_Tuple_spliced (nv (h pos pins s σ H _ I hq) λus s1 xs H1 I1 r ⟨z,q⟩=>#[by rw[<-r.length];show z,?_]);show#[.ref s1.heap.objs.size,upd H1 s1.heap.objs.size<|.tup xs,I1.laid (λb u e=>aR _ e) (aA _)<|#[z,us,r,#[_,bC _ zj,rfl,_,rfl]],rfl,q _<|I1.ay.fresh<|aA _]
theorem jQ (h:PA X es t):PE X (.List es pos) (ac6 t):=by
 intro pins s σ H Q I hq;refine wpAny_List_spliced (nv (h pos pins s σ H _ I hq) λus s1 xs H1 I1 r ⟨z,q⟩=>#[by rw[<-r.length];show z,?_]);show#[.ref s1.heap.objs.size,upd H1 s1.heap.objs.size<|.lst xs,I1.laid (λb u e=>aR _ e) (aA _)<|#[z,us,0,r,bC _ zj],rfl,q _<|I1.ay.fresh<|aA _]
abbrev Sp:=List V->Hp->VK->XK->zk
abbrev uv:=List Env->Hp->aI->XK->au->aI->zk
structure uw (P:cT) (w:cj) (K:PySem.W.Frag) (mg:Str->Option au) (base:aK) (A:dj) (outer:List Env) (s:aI) (H:Hp):zk where
 frames:A.frames=ae outer
 mod:Mod K mg base
 bs:∀ b o,base.get? b=ae o->s.heap.get? b=ae o /\ H b=ah
 rT:base.objs.size<=s.heap.objs.size
 kQ:s.heap.FunFrames base outer
 qI:∀ b∈hZ outer,H b=ah
 ay:cu P w H s.heap
 bare:AllBare s.gens
def CE (outer:List Env) (P:cT) (w:cj) (H:Hp) (s:aI) (Q:VK) (u:au) (s':aI):zk:=
 ∃ v H',s'.os=s.os /\ AllBare s'.gens /\ Un (hZ outer) [] H H' s.heap s'.heap /\ cu P w H' s'.heap /\ RelV v u /\ Q v H'
def CR (CX:uv) (outer:List Env) (P:cT) (w:cj) (H:Hp) (s:aI) (Q:VK) (E:XK) (r:Result) (s':aI):zk:=
 match r with
 |.ok (.ret u)=>CE outer P w H s Q u s'
 |.ok _=>False
 |.error e=>CX outer H s E e s'
structure cQ (P:cT) (w:cj) (K:PySem.W.Frag) (mg:Str->Option au) (base:aK) (CX:uv) (k:Nat) (f:ai) (fd:FuncData) (ps:List Str) (sp:Sp):zk where
 len:∀ vs H Q E,sp vs H Q E->vs.length=ps.length
 run:∀ (A:dj) (outer:List Env) (s:aI) (H:Hp) (args:Args) (us:List au) (vs:List V) (Q:VK) (E:XK),bI k A->uw P w K mg base A outer s H->BindsTo s fd args (ps.zip us)->Vals vs us->sp vs H Q E ->
  codeAny (model P w) A (.call (.ref f) args) (CR CX outer P w H s Q E) s
theorem cQ.mono {K}(F:cQ P w K mg base CX j f fd ps sp) (h:j<=k) :
 cQ P w K mg base CX k f fd ps sp:=#[F.len,λA outer s H args us vs Q E hr=>F.run A outer s H args us vs Q E<|hr.mono h]
theorem uw.make {K}(e:uw P w K mg base A outer s H) (C) (us) (kw) :
 uw P w K mg base (A.under<|.builtin "type.__call__" #[.ref C::us,kw]) outer s H:=#[by first|show e.frames|(simpa[pushEnvs] using e.frames),e.mod,e.bs,e.rT,e.kQ,e.qI,e.ay,e.bare]

theorem Inv.Vi (I:Inv X pins σ H s):uw X.prog X.w X.K X.mg X.base X.A X.stack s H:=
 #[I.ok.frames,I.ok.mod,I.bs,cw I.ok.rT I.sz,I.stack,I.U3,I.ay,I.bare]
theorem Inv.after (I:Inv X pins σ H s) (h:CE X.stack X.prog X.w H s Q u s'):EP X pins σ Q u s':=by
 let#[v,H',os,bare,un,ay,r,q]:=h;let#[hh,g,d,t,Vj]:=s';obtain rfl:Vj=s.os:=os;show#[v,H',I.call un ay bare λb z=>absurd z zg,r,q]
def Vk (sp:Sp) (eN:List V) (E:XK) (t:TA):TE:=λσ H Q=>t σ H λvs H1=>sp (vs++eN) H1 Q E
def Vl (C:ai) (m:Str) (sp:Sp) (eN:List V) (E:XK) (ta:TE) (t:TA):TE:=λσ H Q=>ta σ H λx H1=>∃ a dx fs,x=.ref a /\ H1 a=ae (.ins C dx fs) /\ fs.lookup m=ah /\
 t σ H1 λvs H2=>sp (x::(vs++eN)) H2 Q E
def ac7 (C:ai) (sp:Sp) (eN:List V) (E:XK) (t:TA):TE:=λσ H Q=>t σ H λvs H1=>∀ x dx,H1 x=ah->H1 dx=ah->dx≠x ->
 sp (.ref x::(vs++eN)) (upd (upd H1 dx<|.own x) x<|.ins C dx []) (λv H2=>v=.non /\ Q (.ref x) H2) E
def Binds (K:PySem.W.Frag) (fd:FuncData) (ps:List Str) (ds:List au):zk:=
 ∀ (s) (us),K.In s.heap->(us++ds).length=ps.length->BindsTo s fd #[us,[]] (ps.zip<|us++ds)
theorem Binds.all {K}(h:∀ us,us.length=ps.length->bindArgs fd #[us,[]]=pure (ps.zip us)):Binds K fd ps []:=λs us _ hl=>by
 rw[rN]at hl ⊢;show .of_eq<|h us hl
def Passes (CX:uv) (X:Cx) (E:XK):zk:=∀ (pins) (σ:St) (H) (s) (e) (s'),Inv X pins σ H s->CX X.stack H s E e s'->X.xe e s'

theorem Dk (F:cQ X.prog X.w X.K X.mg X.base CX k f fd ps sp) (hr:bI k X.A) (hb:Binds X.K fd ps ds) (hd:Vals eN ds) (hx:Passes CX X E)
 (I:Inv X pins σ H s) (r:Vals vs us) (h:sp (vs++eN) H Q E):wpAny zd X.A (call (.ref f) us) (EP X pins σ Q) X.xe s:=by
 have r2:=r.append hd;refine HW<|ug (F.run X.A X.stack s H _ _ _ Q E hr I.Vi (hb s us I.cK (by rw[<-r2.length];show F.len _ _ _ _ h)) r2 h) λr s' hq=>?_;cases r with
 |error e=>show hx pins σ H s e s' I hq
 |ok fl=>
   cases fl with
   |ret u=>show I.after hq
   |_=>show False.elim hq
theorem MX (F:cQ X.prog X.w X.K X.mg X.base CX k f fd ps sp) (hr:bI k X.A) (hg:Gl X x) (hm:X.mg x=ae (.ref f)) (hk:PySem.W.keepIn X.K (.ref f)=ag) (hb:Binds X.K fd ps ds) (hd:Vals eN ds) (hx:Passes CX X E)
 (ha:PA X (e::es) t) (cM:(x==("__debug__"))=af:=by decide) (he:starEach (e::es) X.env=(af,eval e X.env)::starEach es X.env:=by rfl) (dX:(backTo pos<|starEach es X.env).any (·.1)=af:=by rfl) :
 PE X (.Call (.Name x p) (e::es) [] pos) (Vk sp eN E t):=by
 intro pins s σ H Q I h;refine rJ<|lR I hg hm ?_ cM;show IC I.ok.mod.uk hk (nv (ha pos pins s σ H _ I h) λus s1 vs H1 I1 r q=>#[I1.cK,(Dk F hr hb hd hx I1 r q)]) he dX
theorem MY (he:PE X o ta) (c:kD X.K C) (hm:Meth X.K C m f) (F:cQ X.prog X.w X.K X.mg X.base CX k f fd ps sp) (hr:bI k X.A) (hb:Binds X.K fd ps ds) (hd:Vals eN ds) (hx:Passes CX X E) (ha:PA X (e::es) t)
 (n8:starEach (e::es) X.env=(af,eval e X.env)::starEach es X.env:=by rfl) (dX:(backTo pos<|starEach es X.env).any (·.1)=af:=by rfl)
 (ht:eval (.Call (.Attribute o m apos) (e::es) [] pos) X.env=(do
  let ov <-eval o X.env
  standAt apos.atName
  let (f,first) <-holding [ov] (getMethod ov m pl)
  callWith pos f first (backTo pos<|starEach (e::es) X.env) (backToKw pos<|keywordEach [] X.env)):=by rfl) :
 PE X (.Call (.Attribute o m apos) (e::es) [] pos) (Vl C m sp eN E ta t):=by
 intro pins s σ H Q I h;refine YT (aV (he pins s σ H _ I h) λu s1 x H1 I1 rx hh=>?_) ht;let#[a,dx,fs,ex,ea,l,q]:=hh;subst ex;obtain rfl:u=Value.ref a:=rx;refine oX I1 ea c hm l ?_;show IC I.ok.mod.uk hm.kp (nv (ha pos pins s1 σ H1 _ I1 q) λus s2 vs H2 I2 r q2=>#[I2.cK,(Dk (vs:=.ref a::vs) F hr hb hd hx I2 (.cons zj r) q2)]) n8 dX
theorem Jz (he:PE X o ta) (c:kD X.K C) (hm:Meth X.K C m f) (F:cQ X.prog X.w X.K X.mg X.base CX k f fd ps sp) (hr:bI k X.A) (hb:Binds X.K fd ps ds) (hd:Vals eN ds) (hx:Passes CX X E)
 (ht:eval (.Call (.Attribute o m apos) [] [] pos) X.env=(do
  let ov <-eval o X.env
  standAt apos.atName
  let (f,first) <-holding [ov] (getMethod ov m pl)
  callWith pos f first (backTo pos<|starEach [] X.env) (backToKw pos<|keywordEach [] X.env)):=by rfl) :
 PE X (.Call (.Attribute o m apos) [] [] pos) (Vl C m sp eN E ta IW):=by
 intro pins s σ H Q I h;refine YT (aV (he pins s σ H _ I h) λu s1 x H1 I1 rx hh=>?_) ht;let#[a,dx,fs,ex,ea,l,q]:=hh;subst ex;obtain rfl:u=Value.ref a:=rx;show oX I1 ea c hm l<|PySem.W.callWith_K0 I1.cK hm.kp<|Dk (vs:=[.ref a]) F hr hb hd hx I1 (.cons zj .nil) q
structure Mk (K:PySem.W.Frag) (C f:ai):zk where
 makes:PySem.W.makesIn K C=ag
 init:PySem.W.findIn K (.ref C) "__init__"=ae (ae<|.ref f)
 fn:PySem.W.isFn K (.ref f)=ag
 kp:PySem.W.keepIn K (.ref C)=ag
theorem JA (M:Mk X.K C f) (F:cQ X.prog X.w X.K X.mg X.base CX k f fd ps sp) (hr:bI (k+1) X.A) (hb:Binds X.K fd ps ds) (hd:Vals eN ds)
 (hx:Passes CX X E) (I:Inv X pins σ H s) (r:Vals vs us)
 (h:∀ x dx,H x=ah->H dx=ah->dx≠x->sp (.ref x::(vs++eN)) (upd (upd H dx<|.own x) x<|.ins C dx []) (λv H2=>v=.non /\ Q (.ref x) H2) E) :
 wpAny zd X.A (call (.ref C) us) (EP X pins σ Q) X.xe s:=by
 have hq:=h _ s.heap.objs.size (I.ay.fresh<|sU _) (I.ay.fresh<|aA _)<|bN<|qi _;have I2:=Inv.made (C:=C) I;have r2:Vals (V.ref (s.heap.objs.size+1)::(vs++eN)) _:=.cons zj<|r.append hd;have hl:(Value.ref (s.heap.objs.size+1)::us++ds).length=ps.length:=by
  have e:=r2.length;rw[F.len _ _ _ _ hq]at e;show e.symm
 refine HW<|(λX hm hi hf h=>by
  show PySem.W.make_core (PySem.W.makes_of X hm) (PySem.W.looks_findIn X hi) (λself=>PySem.W.bind_fn X self hf) (.inl zj) h) I.cK M.makes M.init (beq_iff_eq.mp M.fn)<|ug (F.run _ X.stack _ _ _ _ _ _ E (hr.make C us [])
  (I2.Vi.make C us []) (hb _ _ I2.cK hl) r2 hq) λr s' Ej=>?_
 cases r with
 |error e=>show hx pins σ _ _ e s' I2 Ej
 |ok fl=>
   cases fl with
   |ret u=>
     let#[v,H',I3,rv,ev,q3]:=I2.after Ej;subst ev;show#[rv,#[V.ref _,H',I3,rfl,q3]]
   |_=>show False.elim Ej
theorem MZ (M:Mk X.K C f) (F:cQ X.prog X.w X.K X.mg X.base CX k f fd ps sp) (hr:bI (k+1) X.A) (hg:Gl X x) (hm:X.mg x=ae (.ref C)) (hb:Binds X.K fd ps ds) (hd:Vals eN ds) (hx:Passes CX X E)
 (ha:PA X (e::es) t) (cM:(x==("__debug__"))=af:=by decide) (he:starEach (e::es) X.env=(af,eval e X.env)::starEach es X.env:=by rfl) (dX:(backTo pos<|starEach es X.env).any (·.1)=af:=by rfl) :
 PE X (.Call (.Name x p) (e::es) [] pos) (ac7 C sp eN E t):=by
 intro pins s σ H Q I h;refine rJ<|lR I hg hm ?_ cM;show IC I.ok.mod.uk M.kp (nv (ha pos pins s σ H _ I h) λus s1 vs H1 I1 r q=>#[I1.cK,(JA M F hr hb hd hx I1 r q)]) he dX
structure qL (N P:List Str) (sc:kz):zk where
 kind:sc.kind=.function
 co:sc.isCoroutine=af
 gen:sc.isGenerator=af
 nd:N.Nodup
 pre:N.take P.length=P
 par:∀ x∈P,sc.names.lookup x=ae .local \/ sc.names.lookup x=ae .cell
 ac8:∀ y∈sc.names,y.2≠.free
theorem AW {kindOf}:∀ {binds}{m},(∀ v,(x,v)∉binds)->bindL kindOf binds m x=m x
 |[],_,_=>rfl
 | (n,v)::r,m,h=>by
   unfold bindL;rw[AW λw hw=>h w<|bD _ hw];split
   .have:x≠n:=by rintro rfl;show h v bO
    simp[this]
   .rfl
theorem AX {kindOf}:∀ {binds}{m},(∀ v,(x,v)∉binds)->bindC kindOf binds m x=m x
 |[],_,_=>rfl
 | (n,v)::r,m,h=>by
   unfold bindC;rw[AX λw hw=>h w<|bD _ hw];split
   .rfl
   .have:x≠n:=by rintro rfl;show h v bO
    simp[this]
theorem AY {kindOf}:∀ {P:List Str}{vs}{i:Nat}{m},P.Nodup->P[i]?=ae x->vs[i]?=ae v->kindOf x=ae .local ->
 bindL kindOf (P.zip vs) m x=ae v
 |[],_,_,_,_,h,_,_=>by simp at h
 |_::_,[],_,_,_,_,h,_=>by simp at h
 | p::P,w::vs,0,m,nd,h1,h2,hk=>by
   simp at h1 h2;subst h1;subst h2;change bindL kindOf ((p,w)::P.zip vs) m p=_;unfold bindL;rw[AW λv hv=>(rR.mp nd).1 (Ij hv).1,if_pos hk];simp
 | p::P,w::vs,i+1,m,nd,h1,h2,hk=>by
   unfold bindL;show AY (rR.mp nd).2 (by simpa using h1) (by simpa using h2) hk
theorem AZ {kindOf}:∀ {P:List Str}{vs}{i:Nat}{m},P.Nodup->P[i]?=ae x->vs[i]?=ae v->kindOf x≠ae .local ->
 bindC kindOf (P.zip vs) m x=ae v
 |[],_,_,_,_,h,_,_=>by simp at h
 |_::_,[],_,_,_,_,h,_=>by simp at h
 | p::P,w::vs,0,m,nd,h1,h2,hk=>by
   simp at h1 h2;subst h1;subst h2;change bindC kindOf ((p,w)::P.zip vs) m p=_;unfold bindC;rw[AX λv hv=>(rR.mp nd).1 (Ij hv).1,if_neg hk];simp
 | p::P,w::vs,i+1,m,nd,h1,h2,hk=>by
   unfold bindC;show AZ (rR.mp nd).2 (by simpa using h1) (by simpa using h2) hk
noncomputable def start (N:List Str) (vs:List V):St:=vs.map ae++List.replicate (N.length-vs.length) ah
noncomputable def qr (CX:uv) (P:cT) (w:cj) (K:PySem.W.Frag) (mg:Str->Option au) (base:aK) (N:List Str) (qual:Str) (scope:kz) (f:ai) (cd:au) (A:dj) (outer:List Env) (s:aI) (H:Hp) (E:XK):Cx where
 prog:=P
 w:=w
 K:=K
 mg:=mg
 base:=base
 A:=A.deeper<|envOfC qual scope s.heap.objs.size f cd
 N:=N
 s₀:=s
 H₀:=H
 env:=envOfC qual scope s.heap.objs.size f cd
 outer:=outer
 stack:=envOfC qual scope s.heap.objs.size f cd::outer
 ex:=[]
 calm:=ag
 fn:=λ_=>ag
 pn:=[]
 xe:=λe s'=>wpAny (model P w) (A.deeper<|envOfC qual scope s.heap.objs.size f cd) (leaving (envOfC qual scope s.heap.objs.size f cd) e) (λ_ Vm=>CX outer H s E e Vm) (λe' Vm=>CX outer H s E e' Vm) s'
theorem oY {sc:kz}(h:sc.names.lookup x=ae .cell):∃ c,(cellsFrom n sc.names []).lookup x=ae c:=by
 show Option.isSome_iff_exists.mp<|UJ sc.names n []<|.inl h
theorem A0 {K}
 (S:qL N ps scope) (hd:A.handled=ah) (e0:uw P w K mg base A outer s H) (hl:vs.length=ps.length) (r:Vals vs us)
 (x:InCallC s s.heap.objs.size (bindL (envOfC qual scope s.heap.objs.size f cd).kindOf (ps.zip us) λ_=>ah) (cellsFrom (s.heap.objs.size+1) scope.names []) (bindC (envOfC qual scope s.heap.objs.size f cd).kindOf (ps.zip us) λ_=>ah) s1) :
 Inv (qr CX P w K mg base N qual scope f cd A outer s H E) [] (start N vs) H s1:=by
 have dX:ps.length<=N.length:=by have:=congrArg List.length S.pre;rw[pJ]at this;lia
 let#[h1,tk,rfl,hk]:=x.done;have Ek:∀ b,b∉(qr CX P w K mg base N qual scope f cd A outer s H E).ex:=λb z=>absurd (show b∈([]) from z) zg;refine#[#[e0.mod,S.kind,rfl,rfl,aA _,λy z c h1 h2=>?_,λy hy=>?_,λy c _ h=>?_,λ_=>hd,Zj e0.frames,.inr #[rfl,rfl],λb z=>absurd z<|Ek b,e0.bs,e0.rT,λb _ _=>Ek b,λb z=>absurd z<|Ek b,e0.kQ,e0.qI],
  rfl,e0.bare,Un.kept hk,#[_,x.toInCall.ns,λi y v h1 h2 h3=>?_],λy c h=>#[_,x.cell y c h],e0.ay.fresh<|aA _,λy c h=>?_,λp hp=>absurd (show p∈([]) from hp) zg,e0.ay.kept hk,?_]
 .show Xj x.apart (nW h1)<|nW h2
 .rcases hy with hy|hy
  .show oY hy
  .show absurd zj<|S.ac8 _<|nW hy
 .show kM<|x.above y c<|nW h
 .have hi:i<vs.length:=by
   unfold start at h2;by_cases hi:i<vs.length
   .show hi
   .rw[dD (by simpa using hi)]at h2;rw[Yb]at h2;split at h2<;>cases h2
  have ha:vs[i]?=ae v:=by
   unfold start at h2;rw[cS (by simpa using hi),nY]at h2;cases e:vs[i]? with
   |none=>rw[e]at h2;cases h2
   |some a=>rw[e]at h2;cases h2;rfl
  let#[u,hu,rv]:=r.get ha;have hp:ps[i]?=ae y:=by
   rw[<-S.pre,Yc zb];show h1
  have ZK:ps.Nodup:=by rw[<-S.pre];show S.nd.sublist<|Yd _ _
  refine#[u,rv,?_];rcases S.par y (eI hp) with k|k
  .show .inl #[k,AY ZK hp hu k]
  .let#[c,e]:=oY k;refine .inr #[.inl k,c,e,?_];have q:=x.cell y c e;rw[AZ ZK hp hu (by change scope.names.lookup y≠_;rw[k];decide)]at q;show q
 .show e0.ay.fresh<|kM<|x.above y c<|nW h
 .unfold start;change _=N.length;rw[bH,aX,QN]
  lia
theorem O8 {K:PySem.W.Frag}{kV}(lk:K.lookup f=ae #[oc,od,.func<|PySem.W.fnOf name qual params body scope dV kV doc pm an cdv ct,pO]) (dn:PySem.W.codeIn K cdv qual=ag) (S:qL N ps scope)
 (len:∀ vs H Q E,sp vs H Q E->vs.length=ps.length)
 (nM:∀ (A) (outer) (s) (H) (vs) (Q) (E),bI k (A.deeper<|envOfC qual scope s.heap.objs.size f cdv)->sp vs H Q E ->
  ∃ t,cX (qr CX P w K mg base N qual scope f cdv A outer s H E) body t /\ t { nx:=λ_ H'=>Q .non H',rt:=Q } (start N vs) H) :
 cQ P w K mg base CX (k+1) f (PySem.W.fnOf name qual params body scope dV kV doc pm an cdv ct) ps sp:=by
 refine#[len,λA outer s H args us vs Q E hr e0 hb r pP=>?_];have KX:=e0.mod.uk.keeps λb o e=>(e0.bs b o e).1;refine Xk hr.depth (KX _ _ lk) zj S.co S.gen zj (YU KX dn)<|hb _ _ _ _ ?_;refine Xl S.kind (λ⟨n,v⟩ hy=>by
  rcases S.par n (Ij hy).1 with q|q
  .show .inl q
  .show .inr #[q,UJ _ _ _<|.inl q]) λenv he s1 x=>?_
 subst he;refine#[(e0.mod.nolimit.keeps λb o e=>(e0.bs b o e).1).keeps x.toInCall.keep,Xm ?_];let#[t,ht,hq]:=nM A outer s H vs Q E (hr.deeper _) pP;refine eX (ht [] s1 _ H _ (A0 S hr.hd e0 (len _ _ _ _ pP) r x) hq) (λfl s' hs=>?_) λe s' hs=>hs;have fin:∀ {σ'}{H'}{v}{u},Inv (qr CX P w K mg base N qual scope f cdv A outer s H E) [] σ' H' s'->RelV v u->Q v H'->CE outer P w H s Q u s' :=
  λ{σ' H' v u} J rv q=>#[v,H',J.os,J.bare,J.base,J.ay,rv,q]
 cases fl with
 |ret u=>
   let#[v,σ',H',J,rv,q]:=hs;show fin J rv q
 |next=>
   let#[σ',H',J,q]:=hs;show fin (v:=V.non) J zj q
 |brk=>
   let#[_,_,_,q]:=hs;show False.elim q
 |cont=>
   let#[_,_,_,q]:=hs;show False.elim q
section
variable {id:String}
def IX (r:List V->Hp->VK->zk) (t:TA):TE:=λσ H Q=>t σ H λvs H1=>r vs H1 Q
theorem fV (hc:pN X (.builtin id) r) (hg:Gl X x) (hm:X.mg x=ah) (hv:bootBuiltins x=ae (.builtin id)) (ha:PA X (e::es) t) (hn:x ≠ "__name__":=by decide) (cM:(x==("__debug__"))=af:=by decide)
 (he:starEach (e::es) X.env=(af,eval e X.env)::starEach es X.env:=by rfl) (dX:(backTo pos<|starEach es X.env).any (·.1)=af:=by rfl):PE X (.Call (.Name x p) (e::es) [] pos) (IX r t):=by
 intro pins s σ H Q I h;show rJ<|jc I hg hm hv (abH (nv (ha pos pins s σ H _ I h) λus s1 vs H1 I1 r1 q1=>hc pins s1 σ H1 vs us Q I1 r1 q1) he dX) hn cM
theorem Gu (hc:pN X (.type T) r) (hg:Gl X x) (hm:X.mg x=ah) (hv:bootBuiltins x=ae (.type T)) (ha:PA X (e::es) t) (hn:x ≠ "__name__":=by decide) (cM:(x==("__debug__"))=af:=by decide)
 (he:starEach (e::es) X.env=(af,eval e X.env)::starEach es X.env:=by rfl) (dX:(backTo pos<|starEach es X.env).any (·.1)=af:=by rfl):PE X (.Call (.Name x p) (e::es) [] pos) (IX r t):=by
 intro pins s σ H Q I h;show rJ<|jc I hg hm hv (Ir (nv (ha pos pins s σ H _ I h) λus s1 vs H1 I1 r1 q1=>hc pins s1 σ H1 vs us Q I1 r1 q1) he dX) hn cM
end
end L2
namespace HT
noncomputable def lexLt:List Int->List Int->Bool
 |[],[]=>af
 |[],_::_=>ag
 |_::_,[]=>af
 |x::xs,y::ys=>if x=y then lexLt xs ys else decide (x<y)
theorem gL (x y) (xs ys):lexLt (x::xs) (y::ys)=if x=y then lexLt xs ys else decide (x<y):=rfl
section
open PySem.SeqAt
open PySem.AutoSeq1 (wpAny_loadPart')
open PySem.MeetsSeq PySem.MeetsSeq2 PySem.MeetsSeq3
end

theorem M0 (ht:IsTup s.heap t vs.toArray) (hb:IsTup s.heap b ws.toArray) (hv:vs≠[])
 (h1:ws=[]->Q (.ref t) s) (h2:ws≠[]->Q (.ref s.heap.objs.size) { s with heap:=s.heap.push { cls:=.type "tuple",data:=.seq (vs++ws).toArray } })
 (hsz:vs.length+ws.length<=sizeLine):wpAny zf A (binaryOp .Add (.ref t)<|.ref b) Q E s:=by
 let#[#[cls,dd,data,sl],ho,hc,n,hd]:=id ht;let#[#[ZL,ux,data2,uz],se,pQ,n2,hd2]:=id hb;subst hc hd pQ hd2;have e:vs.toArray++ws.toArray=(vs++ws).toArray:=by simp
 by_cases hw:ws=[]
 .show Qs #[_,ho,rfl] #[_,se,rfl] Qt Qu UR US (UT _ _)
   (tuple_addW1 t b vs.toArray ws.toArray n n2 dd ux sl uz (by simpa using hv) (by simp[hw])) #[ho,se,h1 hw]
 .refine Qs #[_,ho,rfl] #[_,se,rfl] Qt Qu UR US (UT _ _)
   (tuple_addW2 t b vs.toArray ws.toArray n n2 dd ux sl uz (by simpa using hv) (by simpa using hw) (by show hsz)) #[ho,se,?_]
  rw[e];show h2 hw
noncomputable def aY (n d:Nat):Option Int->Nat
 |none=>d
 |some v=>if v<0 then (v+(n)).toNat else min v.toNat n
theorem Ce (n d):aY n d ah=d:=rfl
theorem oE (n d k:Nat):aY n d (ae<|k)=min k n:=by
 change (if (k)<0 then ((k)+(n:Int)).toNat else min (k:Int).toNat n)=min k n;rw[if_neg zb,vz]
theorem T9 (n d) (hd:d<=n) (o):aY n d o<=n:=by
 cases o with
 |none=>show hd
 |some v=>
   change (if v<0 then (v+(n)).toNat else min v.toNat n)<=n;by_cases hv:v<0
   .lia
   .rw[if_neg hv];show Nat.min_le_right _ _
theorem Fa (v:Int) (n d:Nat):(if v<0 then max (v+(n)) 0 else min v (n))=((aY n d<|ae v)):=by
 change (if v<0 then max _ 0 else min v (n))=(((if v<0 then (v+(n)).toNat else min v.toNat n)));by_cases hv:v<0
 .lia
 .lia
theorem Dl (lo hi) (n:Nat):Builtin.Slice.sliceAdjust lo hi 1 (n)=(((aY n 0 lo):Int),((aY n n hi):Int)):=by
 refine Prod.ext ?_ ?_
 .cases lo with
  |none=>rfl
  |some v=>show Fa v n 0
 .cases hi with
  |none=>rfl
  |some v=>show Fa v n n
theorem Dm (i j:Nat):Builtin.Slice.slicePlaces (i) (j) 1=j-i:=by
 unfold Builtin.Slice.slicePlaces;split<;>lia
theorem oZ (p:IsPart v o) (h:Q o s):wpAny zf A (Builtin.Slice.slicePartIndex v) Q E s:=by
 cases p with
 |none=>show YB h
 |int i t=>show slicePart_int h
theorem jk {lo}{Q:Int×Int×Nat->aI->zk}(hs:s.heap.IsSliceOf sl vl vu .none) (pl:IsPart vl lo) (pu:IsPart vu hi)
 (h:Q (((aY n 0 lo)),1,aY n n hi-aY n 0 lo) s):wpAny zf A (Builtin.Slice.sliceApplied (.ref sl)<|pure<|n) Q E s:=by
 let#[os,vI,IZ,pR]:=id hs;refine ak<|ak<|kL vI pR zj<|ak<|kL vI pR (x:=vu) zj<|ak<|kL vI pR zj<|ax ?_;refine ak<|YB ?_;refine ak<|oZ pl<|ak<|oZ pu<|ak<|ax ?_;change wpAny _ _ (match Builtin.Slice.sliceAdjust lo hi 1 (n) with|(lo,hi)=>pure (lo,(1:Int),Builtin.Slice.slicePlaces lo hi 1)) _ _ s;rw[Dl lo hi n];change wpAny _ _ (pure (((aY n 0 lo):Int),(1),Builtin.Slice.slicePlaces ((aY n 0 lo)) ((aY n n hi)) 1)) _ _ s;rw[Dm];show ax h
theorem JB (xs:Array au) (i k:Nat):((List.range k).filterMap λ(m:Nat)=>xs[((i)+(m:Int)*1).toNat]?).toArray=((xs.toList.drop i).take k).toArray:=by
 have e:(λ(m:Nat)=>xs[((i)+(m:Int)*1).toNat]?)=λm=>xs[i+m]?:=by
  funext m;have:((i)+(m:Int)*1).toNat=i+m:=by lia
  rw[this]
 rw[e];have:=pick_run xs i k;rw[Ye]at this;have e2:((λx=>xs[x]?)∘λx=>i+x)=λm=>xs[i+m]?:=rfl;rw[e2]at this;rw[this]
theorem lT {lo}(ht:IsTup s.heap t items) (hs:s.heap.IsSliceOf sl vl vu .none) (pl:IsPart vl lo) (pu:IsPart vu hi)
 (hw:¬ (aY items.size 0 lo=0 /\ aY items.size items.size hi=items.size))
 (h:Q (.ref s.heap.objs.size) { s with heap:=s.heap.push { cls:=.type "tuple",data:=.seq ((items.toList.drop<|aY items.size 0 lo).take<|aY items.size items.size hi-aY items.size 0 lo).toArray } })
 (hsz:items.size<=sizeLine):wpAny zf A (getItem (.ref t)<|.ref sl) Q E s:=by
 have Ka:sizeOk (.seq ((items.toList.drop<|aY items.size 0 lo).take<|aY items.size items.size hi-aY items.size 0 lo).toArray):=by
  change ((items.toList.drop<|aY items.size 0 lo).take<|aY items.size items.size hi-aY items.size 0 lo).toArray.size<=sizeLine;rw[bZ,pJ,pK,nH]
  lia
 let#[os,vI,IZ,pR]:=id hs;have ac9:s.TypeIs (.ref sl) "slice":=#[os,vI,IZ];unfold getItem;try with_reducible refine eY ?_
 first|refine ak (ax ?_)|skip
 refine ak<|Xn ht.typeIs zc ?_;refine ak (vc ht.typeIs xh
  (qh xh ht.typeIs YC ?_<|YD _ _))
 change wpAny _ _ (Builtin.Tuple.tupleItemsOf (.ref t) >>= _) _ _ s;refine ak<|YE ht ?_;refine ak<|wK ac9 ?_;rw[if_pos zc];refine ak<|jk hs pl pu ?_;have tF:¬ ((((aY items.size 0 lo):Int)==0&&(1:Int)==1&&(aY items.size items.size hi-aY items.size 0 lo)==items.size)=ag):=by
  intro q;rw[aH,aH]at q;have q1:=eq_of_beq q.1.1;have q2:=eq_of_beq q.2;show hw #[by lia,by lia]
 change wpAny _ _ (if (((aY items.size 0 lo):Int)==0&&(1)==1&&(aY items.size items.size hi-aY items.size 0 lo)==items.size)=ag then _ else _) _ _ s;rw[if_neg tF,JB];first
  |show ak<|qg (ax #[_,rfl,ax h]) Ka
  |show ak<|qg (ak<|ax<|ax #[_,rfl,ax h]) Ka
  |show ak<|ak<|qg (ax<|ax #[_,rfl,ax h]) Ka
  |show ak<|ak<|qg (ax #[_,rfl,ax h]) Ka
end HT
namespace L2
abbrev TO:=St->Hp->(Option Int->Hp->zk)->zk
def PO (X:Cx) (e:Option aD) (t:TO):zk:=
 ∀ (pins) (s) (σ:St) (H) (Q),Inv X pins σ H s->t σ H Q ->
  wpAny zd X.A (evalPart e X.env) (λu s'=>∃ o H',Inv X pins σ H' s' /\ IsPart u o /\ Q o H') X.xe s
noncomputable def ada:TO:=λ_ H Q=>Q ah H
noncomputable def adb (t:TE):TO:=λσ H Q=>t σ H λx H1=>∃ i,x=.int i /\ Q (ae i) H1
theorem o8:∀ {us},Vals (ns.map V.int) us->IntsAre us ns:=by
 induction ns with
 |nil=>intro us r;cases r;show .nil
 |cons n ns ih=>
   intro us r;cases r with
   |cons r1 r2=>
     let#[t,e]:=r1;subst e;show .cons n t<|ih r2
section
variable {lo:Option aD}
theorem M2:PO X ah ada:=by
 intro pins s σ H Q I h;show ax #[ah,H,I,.none,h]
theorem M3 (h:PE X e te):PO X (ae e) (adb te):=by
 intro pins s σ H Q I hw;refine aV (h pins s σ H _ I hw) λu s1 x H1 I1 r1 q1=>?_;let#[i,rfl,q]:=q1;let#[t,rfl]:=r1;show#[ae i,H1,I1,.int i t,q]
def uA (X:Cx) (r:V->Option Int->Option Int->Hp->VK->zk):zk:=
 ∀ (pins) (s) (σ:St) (H) (x) (v vl vu) (lo hi) (sl) (Q),Inv X pins σ H s->RelV x v->s.heap.IsSliceOf sl vl vu .none->IsPart vl lo->IsPart vu hi->r x lo hi H Q ->
  ∃ T id,typeLookup (.type T) "__getitem__"=pure (ae<|.builtin id) /\ s.TypeIs v T /\ wpAny zd X.A (getItem v<|.ref sl) (EP X pins σ Q) X.xe s
theorem uA.or (h:uA X r) (h':uA X r'):uA X (λx lo hi H Q=>r x lo hi H Q \/ r' x lo hi H Q):=by
 intro pins s σ H x v vl vu lo hi sl Q I rx hs pl pu q;rcases q with q|q
 .show h pins s σ H x v vl vu lo hi sl Q I rx hs pl pu q
 .show h' pins s σ H x v vl vu lo hi sl Q I rx hs pl pu q
def ade (r:V->Option Int->Option Int->Hp->VK->zk) (te:TE) (tl th:TO):TE:=λσ H Q=>te σ H λx H1=>tl σ H1 λl H2=>th σ H2 λu H3=>r x l u H3 Q
theorem JC (hr:uA X r) (he:PE X e te) (hl:PO X lo tl) (hu:PO X hi th):PE X (.Subscript e (.Slice lo hi ah p2) pos) (ade r te tl th):=by
 intro pins s σ H Q I h;refine Subscript_<|aV (he pins s σ H _ I h) λv s1 x H1 I1 r1 q1=>?_;refine Xo<|IL (hl pins s1 σ H1 _ I1 q1) λvl s2 l H2 I2 pl q2=>IL (hu pins s2 σ H2 _ I2 q2) λvu s3 u H3 I3 pu q3=>?_;refine ax ?_;let#[T,id,hT,ht,hg]:=hr pins { s3 with heap:=s3.heap.push { cls:=.type "slice",data:=.fields (List.toArray [vl,vu,.none]) } } σ H3 x v vl vu l u s3.heap.objs.size Q (I3.kept λb ob q=>aR _ q) r1 (Heap.IsSliceOf.new ..) pl pu q3;show Q4 ht hT hg (by with_unfolding_all rfl)
def xC (xs:List V) (lo hi:Option Int):List V:=(xs.drop<|HT.aY xs.length 0 lo).take<|HT.aY xs.length xs.length hi-HT.aY xs.length 0 lo
theorem mY (xs) (lo hi):(xC xs lo hi).length<=xs.length:=by
 unfold xC;rw[pJ,pK]
 lia
def ZM (K:PySem.W.Frag):V->Option Int->Option Int->Hp->VK->zk:=λx lo hi H Q=>∃ a xs,x=.ref a /\ cL K H a xs /\
 ¬ (HT.aY xs.length 0 lo=0 /\ HT.aY xs.length xs.length hi=xs.length) /\ ∀ p,H p=ah->Q (.ref p) (upd H p<|.tup<|xC xs lo hi)
theorem P7:uA X (ZM X.K):=by
 intro pins s σ H x v vl vu lo hi sl Q I rx hs pl pu h;let#[a,xs,rfl,hx,hw,q]:=h;cases rx;let#[its,r,ht,hz]:=I.tuple hx;have hlen:its.toArray.size=xs.length:=by show r.length.symm
 refine#["tuple",_,xh.lookup,ht.typeIs,?_];refine HT.lT ht hs pl pu (by rw[hlen];show hw) ?_ (by rw[hlen];show hz);rw[hlen];refine#[.ref s.heap.objs.size,_,I.laid (λb ob q=>aR _ q) (aA _) ?_,rfl,q _<|I.ay.fresh<|aA _];show#[cw (mY xs lo hi) hz,_,(r.drop _).take _,IsTup.new _ _]
def ZN (K:PySem.W.Frag):R2:=λx y H Q=>∃ a b xs ys,x=.ref a /\ y=.ref b /\ cL K H a xs /\ cL K H b ys /\ xs≠[] /\ xs.length+ys.length<=sizeLine /\
 (ys=[]->Q (.ref a) H) /\ (ys≠[]->∀ p,H p=ah->Q (.ref p) (upd H p<|.tup<|xs++ys))
theorem Vals.Vn (r:Vals xs us):us=[] ↔ xs=[]:=by
 cases r with
 |_=>simp
theorem M4:bV X (binaryOp .Add) (ZN X.K):=by
 intro pins s σ H x y v u Q I rx ry h;let#[a,b,xs,ys,rfl,rfl,ha,hb,hx,hz,q1,q2]:=h;cases rx;cases ry;let#[its,r1,p1,_]:=I.tuple ha;let#[xD,r2,p2,_]:=I.tuple hb;refine HT.M0 p1 p2 (λz=>hx<|r1.Vn.mp z) (λz=>#[.ref a,H,I,rfl,q1<|r2.Vn.mp z]) (λz=>?_) (by rw[<-r1.length,<-r2.length];show hz);refine#[.ref s.heap.objs.size,_,I.laid (λb ob q=>aR _ q) (aA _) ?_,rfl,q2 (λw=>z<|r2.Vn.mpr w) _<|I.ay.fresh<|aA _];show#[by rw[bH];show hz,_,r1.append r2,IsTup.new _ _]
end
noncomputable def cA (n:Nat) (i:Int):Option Nat:=if 0<=i then (if i<n then ae i.toNat else ah) else if -(n)<=i then ae (i+n).toNat else ah
def bF {α:Type}(xs:List α) (i:Int):Option α:=(cA xs.length i).bind λj=>xs[j]?
theorem Bs (h:cA n i=ae j):seqIndex? i n=ae j /\ j<n /\ -(n)<=i /\ i<n:=by
 unfold cA at h;by_cases h0:0<=i
 .rw[if_pos h0]at h;by_cases h1:i<n
  .rw[if_pos h1]at h;show#[by rw[Qv h0 h1,(Option.some.inj h)],by lia,by lia,h1]
  .rw[if_neg h1]at h;cases h
 .rw[if_neg h0]at h;by_cases h1:-(n)<=i
  .rw[if_pos h1]at h;show#[by rw[seqIndex_neg zb h1,(Option.some.inj h)],by lia,h1,by lia]
  .rw[if_neg h1]at h;cases h
theorem Bt (h:bF xs i=ae v):∃ j,seqIndex? i xs.length=ae j /\ xs[j]?=ae v /\ j<xs.length /\ -(xs.length)<=i /\ i<xs.length:=by
 unfold bF at h;cases e:cA xs.length i with
 |none=>rw[e]at h;cases h
 |some j=>
   rw[e]at h;let#[h1,h2,h3,h4]:=Bs e;show#[j,h1,h,h2,h3,h4]
theorem Bu {j:Nat}(h:xs[j]?=ae v):bF xs (j)=ae v:=by
 have hj:=(List.getElem?_eq_some_iff.mp h).1;have e:cA xs.length (j)=ae j:=by
  unfold cA;rw[if_pos zb,if_pos zb];simp
 unfold bF;rw[e];show h
def Vo (b:aD):zk:=∀ o i,subscripted b af o i=operate [o,i] (getItem o i)
def uB (X:Cx) (r:R2):zk:=
 ∀ (value slice) (pins) (s) (σ:St) (H) (x y) (v u) (Q),Inv X pins σ H s->RelV x v->RelV y u->r x y H Q ->
  subscripted slice af v u=operate [v,u] (getItem v u)->wpAny zd X.A (subscriptTail value slice v u) (EP X pins σ Q) X.xe s
def adf (X:Cx) (id:String) (r:V->List V->Hp->VK->zk):zk:=
 ∀ (pins) (s) (σ:St) (H) (x) (xs) (v) (us) (Q),Inv X pins σ H s->RelV x v->Vals xs us->r x xs H Q ->
  wpAny zd X.A (call (.builtin id) (v::us)) (EP X pins σ Q) X.xe s
section

theorem uB.or (h:uB X r) (h':uB X r'):uB X (λx y H Q=>r x y H Q \/ r' x y H Q):=by
 intro value slice pins s σ H x y v u Q I rx ry q hs;rcases q with q|q
 .show h value slice pins s σ H x y v u Q I rx ry q hs
 .show h' value slice pins s σ H x y v u Q I rx ry q hs
theorem JD (hr:uB X r) (ha:PE X a ta) (hb:PE X b tb) (hs:Vo b):PE X (.Subscript a b pos) (Eh r ta tb):=by
 intro pins s σ H Q I h;show Subscript_<|Ve ha hb I h λv u s2 x y H2 I2 rx ry q=>hr a b pins s2 σ H2 x y v u Q I2 rx ry q<|hs _ _
def ZO (K:PySem.W.Frag):R2:=λx y H Q=>∃ p xs i v,x=.ref p /\ y=.int i /\ bQ K H p xs /\ bF xs i=ae v /\ Q v H
def ZP (K:PySem.W.Frag):R2:=λx y H Q=>∃ p xs i v,x=.ref p /\ y=.int i /\ cL K H p xs /\ bF xs i=ae v /\ Q v H
def ZQ:R2:=λx y H Q=>∃ z i c,x=.str z /\ y=.int i /\ z.length<=sizeLine /\ bF z.cps.toList i=ae c /\ Q (.str ⟨(List.toArray [c])⟩) H
theorem Bv:uB X (ZO X.K):=by
 intro value slice pins s σ H x y v u Q I rx ry h hs;let#[p,xs,i,z,rfl,rfl,hq,he,q]:=h;cases rx;let#[t,rfl]:=ry;let#[its,r,pl,hz]:=I.list hq;let#[j,h1,h2,h3,h4,h5]:=Bt he;let#[w,ew,nL]:=r.get h2;have hl:=r.length;have hn:=xy;have fin:EP X pins σ Q w s:=#[z,H,I,nL,q];by_cases h0:0<=i
 .have hj:i.toNat=j:=by
   rw[Qv h0 h5]at h1;show Option.some.inj h1
  show item_listR pl.isList h0 zb (by rw[hj];simpa using ew) fin hs
 .have hj:(i+(its.toArray.size)).toNat=j:=by
   rw[seqIndex_neg zb h4]at h1;rw[bZ,<-hl];show Option.some.inj h1
  show YF pl.isList.typeIs slot_list_getitem.lookup
   (wpAny_getItem_list_neg pl.isList zb (by rw[bZ]<;>lia) zb (by rw[hj];simpa using ew) #[rfl,fin]) hs
theorem P8:uB X (ZP X.K):=by
 intro value slice pins s σ H x y v u Q I rx ry h hs;let#[p,xs,i,z,rfl,rfl,hq,he,q]:=h;cases rx;let#[t,rfl]:=ry;let#[its,r,pl,hz]:=I.tuple hq;let#[j,h1,h2,h3,h4,h5]:=Bt he;let#[w,ew,nL]:=r.get h2;have hn:=xy;show YF pl.typeIs slot_tuple_getitem.lookup
  (getItem_tuple pl zb zb (by rw[bZ,<-r.length];show h1) (by simpa using ew) #[rfl,#[z,H,I,nL,q]]) hs
theorem P9:uB X ZQ:=by
 intro value slice pins s σ H x y v u Q I rx ry h hs;let#[z,i,c,rfl,rfl,hz,he,q]:=h;let#[t,rfl]:=rx;let#[t',rfl]:=ry;let#[j,h1,h2,h3,h4,h5]:=Bt he;have hl:z.cps.toList.length=z.length:=by simp[Str.length]
 rw[hl]at h1 h4 h5;have hn:=xy;show Q4 (HX s z t) slot_str_getitem.lookup (getItem_str (by
  rw[(decide_eq_false zb),(decide_eq_false zb),X5]) (by rw[h1];simpa using h2) #[.str ⟨(List.toArray [c])⟩,H,I.tok _,#[_,rfl],q]) hs
def adg (K:PySem.W.Frag):R2:=λx y H Q=>ZO K x y H Q \/ ZP K x y H Q \/ ZQ x y H Q
theorem Do (its:List au) (n j) (u):Obj.mapSeq (·.setIfInBounds j u) { cls:=.type "list",data:=.seq its.toArray n }={ cls:=.type "list",data:=.seq (its.set j u).toArray n }:=by
 simp[Obj.mapSeq]
theorem Inv.lst {pins}{σ:St}{H}{s}{p}{xs}(I:Inv X pins σ H s) (h:H p=ae (.lst xs)) :
 ∃ (its:List au) (n:Nat),Vals xs its /\ s.heap.get? p=ae { cls:=.type "list",data:=.seq its.toArray n } /\ xs.length<=sizeLine:=by
 let#[z,its,n,r,e]:=I.ay p _ h;show#[its,n,r,e,z]
theorem Inv.adh {its:List au}(I:Inv X pins σ H s) (h:H p=ae (.lst xs))
 (ho:s.heap.get? p=ae { cls:=.type "list",data:=.seq its.toArray n }) (hf:f { cls:=.type "list",data:=.seq its.toArray n }={ cls:=.type "list",data:=.seq rX.toArray n' }) (r:Vals ys rX) (hz:ys.length<=sizeLine) (t) :
 Inv X pins σ (upd H p<|.lst ys) { s with heap:=s.heap.update p f,toks:=t }:=by
 have e:(s.heap.update p f).get? p=ae { cls:=.type "list",data:=.seq rX.toArray n' }:=by
  rw[Ii f ho (by rw[hf]<;>rfl),hf]
 show I.write (by rw[h];trivial) (.inl zj) (λb u hb q=>(X9 _ _<|Ne.symm hb).trans q) #[_,e]<|#[hz,rX,n',r,e]
def adi:V->V->V->Hp->(Hp->zk)->zk:=λo i v H Q=>∃ p xs k j,o=.ref p /\ i=.int k /\ H p=ae (.lst xs) /\ cA xs.length k=ae j /\ Q (upd H p<|.lst<|xs.set j v)
theorem JE:Zy X adi:=by
 intro pins s σ H o i v ov iv u Q I ro ri rv h;let#[p,xs,k,j,rfl,rfl,hp,hj,q]:=h;cases ro;let#[t,rfl]:=ri;let#[its,n,r,ho,hz]:=I.lst hp;let#[h1,h2,h3,h4]:=Bs hj;have hl:=r.length;have hn:=xy;have I' :=
  I.adh hp ho (Do its n j u) (r.set rv j) (by rw[qC];show hz) s.toks
 by_cases h0:0<=k
 .have hk:k.toNat=j:=by
   rw[Qv h0 h4]at h1;show Option.some.inj h1
  show PySem.W.ki_setAt ho h0 zb (by rw[bZ,<-hl];show h4) (by rw[hk];show#[_,I',q])
 .have hk:(k+(its.toArray.size)).toNat=j:=by
   rw[seqIndex_neg zb h3]at h1;rw[bZ,<-hl];show Option.some.inj h1
  show PySem.W.ki_setBack ho zb (by rw[bZ,<-hl];show h3) zb (by rw[hk];show#[_,I',q])
theorem Bw (lo hi) (n):(sliceBounds lo hi ah n).1=((HT.aY n 0 lo)) /\ (sliceBounds lo hi ah n).2.1=((HT.aY n n hi)) /\ (sliceBounds lo hi ah n).2.2=1:=by
 refine#[?_,?_,rfl]
 .cases lo with
  |none=>simp[sliceBounds,HT.aY]
  |some i=>
    erw[sliceBounds,HT.aY,Q2,show (1:Int)>0 by decide,if_true];by_cases h:i<0
    .erw[h]<;>lia
    .erw[h]<;>lia
 .cases hi with
  |none=>simp[sliceBounds,HT.aY]
  |some i=>
    erw[sliceBounds,HT.aY,Q2,show (1:Int)>0 by decide,if_true];by_cases h:i<0
    .erw[h,if_true]<;>lia
    .erw[h,if_false]<;>lia
theorem AM (its:List au) (lo hi):slicePick its.toArray lo hi ah=((its.drop<|HT.aY its.length 0 lo).take<|HT.aY its.length its.length hi-HT.aY its.length 0 lo).toArray:=by
 let#[h1,h2,h3]:=Bw lo hi its.toArray.size;unfold slicePick;rw[h1,h2,h3];erw[sliceRange_one,pick_run]<;>rfl
def adj (K:PySem.W.Frag):V->Option Int->Option Int->Hp->VK->zk:=λx lo hi H Q=>∃ a xs,x=.ref a /\ bQ K H a xs /\ ∀ p,H p=ah->Q (.ref p) (upd H p<|.lst<|xC xs lo hi)
noncomputable def eO:V->Bool
 |.non=>ag
 |.bl _=>ag
 |.int _=>ag
 |.str _=>ag
 |_=>af
noncomputable def eu:V->V->Bool
 |.non,.non=>ag
 |.bl a,.bl b=>a==b
 |.bl a,.int b=>(if a then 1 else 0)==b
 |.int a,.bl b=>a==(if b then 1 else 0)
 |.int a,.int b=>a==b
 |.str a,.str b=>a==b
 |_,_=>af
theorem JF (ry:RelV y u) (rx:RelV x v) (fy:eO y=ag) (fx:eO x=ag):SeqAt.EqAt A s u v (eu y x):=by
 cases y with
 |non=>
   cases ry;cases x with
   |non=>cases rx;show SeqAt.EqAt.same _
   |bl b=>cases rx;show abJ b
   |int b=>let#[t,rfl]:=rx;show abK b t
   |str b=>let#[t,rfl]:=rx;show abL b t
   |_=>show absurd (fx) dS
 |bl a=>
   cases ry;cases x with
   |non=>cases rx;show abM a
   |bl b=>cases rx;show abN a b
   |int b=>let#[t,rfl]:=rx;show abO a b t
   |str b=>let#[t,rfl]:=rx;show abP a b t
   |_=>show absurd (fx) dS
 |int a=>
   let#[t',rfl]:=ry;cases x with
   |non=>cases rx;show abQ a t'
   |bl b=>cases rx;show abR a t' b
   |int b=>let#[t,rfl]:=rx;show UX a t' b t
   |str b=>let#[t,rfl]:=rx;show Zg a t' b t
   |_=>show absurd (fx) dS
 |str a=>
   let#[t',rfl]:=ry;cases x with
   |non=>cases rx;show abS a t'
   |bl b=>cases rx;show abT a t' b
   |int b=>let#[t,rfl]:=rx;show Zh a t' b t
   |str b=>let#[t,rfl]:=rx;show UY a t' b t
   |_=>show absurd (fx) dS
 |_=>show absurd (fy) dS
def vJ (x:V) (u:au):Bool:=match u with
 |.none=>eu .non x
 |.bool b=>eu (.bl b) x
 |.int i _=>eu (.int i) x
 |.str z _=>eu (.str z) x
 |_=>af
theorem JG (r:RelV y u) (f:eO y=ag):vJ x u=eu y x:=by
 cases y with
 |non=>cases r;rfl
 |bl b=>cases r;rfl
 |int i=>let#[t,rfl]:=r;rfl
 |str z=>let#[t,rfl]:=r;rfl
 |_=>show absurd (f) dS
theorem lU:∀ {xs}{us},Vals xs us->xs.all eO=ag->us.any (vJ x)=xs.any λy=>eu y x
 |_,_,.nil,_=>rfl
 | y::xs,u::us,.cons r t,f=>by
   rw[nG,aH]at f;rw[vn,vn,JG r f.1,lU t f.2]
theorem jR (rx:RelV x v) (fx:eO x=ag):∀ {xs}{us},Vals xs us->xs.all eO=ag->∀ u∈us,SeqAt.EqAt A s u v (vJ x u)
 |_,_,.nil,_=>λu hu=>by cases hu
 | y::xs,u::us,.cons r t,f=>λu' hu=>by
   rw[nG,aH]at f;rcases a9.mp hu with rfl|hu
   .rw[JG r f.1];show JF r rx f.1 fx
   .show jR rx fx t f.2 u' hu
def Kb (x:V) (xs:List V):Bool:=xs.any λy=>eu y x
def Kc (K:PySem.W.Frag) (neg:Bool):R2:=λx y H Q=>∃ p xs,y=.ref p /\ (bQ K H p xs \/ cL K H p xs) /\ eO x=ag /\ xs.all eO=ag /\ Q (.bl (if neg then !Kb x xs else Kb x xs)) H
theorem Gv:bV X (compareOp .In) (Kc X.K af):=by
 intro pins s σ H x y v u Q I rx ry h;let#[p,xs,rfl,hq,fx,fs,q]:=h;cases ry;rcases hq with hq|hq
 .let#[its,r,pl,hz]:=I.list hq;refine SeqAt.in_listAt _ pl.isList (λw hw=>jR rx fx r fs w (by simpa using hw)) #[.bl _,H,I,rfl,?_];rw[show its.toArray.any _=its.any (vJ x) by simp,lU r fs];show q
 .let#[its,r,pl,hz]:=I.tuple hq;refine SeqAt.in_tupleAt _ pl (λw hw=>jR rx fx r fs w (by simpa using hw)) #[.bl _,H,I,rfl,?_];rw[show its.toArray.any _=its.any (vJ x) by simp,lU r fs];show q
theorem By:bV X (compareOp .NotIn) (Kc X.K ag):=by
 intro pins s σ H x y v u Q I rx ry h;let#[p,xs,rfl,hq,fx,fs,q]:=h;cases ry;rcases hq with hq|hq
 .let#[its,r,pl,hz]:=I.list hq;refine SeqAt.notIn_listAt _ pl.isList (λw hw=>jR rx fx r fs w (by simpa using hw)) #[.bl _,H,I,rfl,?_];rw[show its.toArray.any _=its.any (vJ x) by simp,lU r fs];show q
 .let#[its,r,pl,hz]:=I.tuple hq;refine SeqAt.notIn_tupleAt _ pl (λw hw=>jR rx fx r fs w (by simpa using hw)) #[.bl _,H,I,rfl,?_];rw[show its.toArray.any _=its.any (vJ x) by simp,lU r fs];show q
theorem lV:pN X (.builtin "len") (λxs H Q=>∃ p ys,xs=[.ref p] /\ (bQ X.K H p ys \/ cL X.K H p ys) /\ Q (.int ys.length) H):=by
 intro pins s σ H xs us Q I r h;let#[p,ys,rfl,hq,q]:=h;let#[u,rfl,rx]:=vals1 r;cases rx;have hn:=xy;rcases hq with hq|hq
 .let#[its,r',pl,hz]:=I.list hq;have hlen:=r'.length;show Calls.call_len_list pl.isList (by simp[bZ]<;>lia) #[.int ys.length,H,I.tok _,#[s.toks+1,by rw[bZ,hlen]],q]
 .let#[its,r',pl,hz]:=I.tuple hq;have hlen:=r'.length;show len_tuple pl (by simp[bZ]<;>lia) #[.int ys.length,H,I.tok _,#[s.toks+1,by rw[bZ,hlen]],q]
def ZR (K:PySem.W.Frag) (T:String) (x:V) (H:Hp):zk:=match x with
 |.str _=>T="str"
 |.int _=>T="int"
 |.ref p=>(T="list" /\ ∃ xs,bQ K H p xs) \/ (T="tuple" /\ ∃ o,K.lookup p=ae o /\ o.cls=.type "tuple" /\ o.dict=ah) \/
  (T="dict" /\ ((∃ ao,H p=ae (.dK ao)) \/ ∃ ao,H p=ae (.dT ao))) \/ (T="set" /\ ∃ S n,H p=ae (.set S n))
 |_=>False
theorem Rb (I:Inv X pins σ H s) (r:RelV x v) (ty:ZR X.K T x H) :
 s.TypeIs v T /\ ∀ a,v=.ref a->∃ ob,s.heap.get? a=ae ob /\ ob.dict=ah:=by
 cases x with
 |str z=>
   let#[t,rfl]:=r;cases (ty);show#[HX s z t,λ_ e=>nomatch e]
 |int i=>
   let#[t,rfl]:=r;cases (ty);show#[typeIs_int s i t,λ_ e=>nomatch e]
 |ref p=>
   cases r;rcases ty with⟨rfl,xs,hq⟩|⟨rfl,o,hk,hc,hd⟩|⟨rfl,hk⟩|⟨rfl,S,n,hk⟩
   .let#[its,_,pl,_]:=I.list hq;refine#[pl.isList.typeIs,λa e=>?_];cases e;let#[o,n,e,c,hd,_]:=pl;show#[o,e,hd]
   .refine#[#[o,I.cK p o hk,hc],λa e=>?_];cases e;show#[o,I.cK _ o hk,hd]
   .have z:∃ o,s.heap.get? p=ae o /\ o.ExactDict:=by
     rcases hk with⟨ao,hk⟩|⟨ao,hk⟩
     .let#[_,_,_,_,o,_,_,e,ex,_]:=I.ay p _ hk;show#[o,e,ex]
     .let#[_,_,_,_,o,_,_,e,ex,_]:=I.ay p _ hk;show#[o,e,ex]
    let#[o,e,ex]:=z;refine#[#[o,e,ex.1],λa e2=>?_];cases e2;show#[o,e,ex.2.1]
   .let#[o,_,_,_,e,ex,_]:=I.ay p _ hk;refine#[#[o,e,ex.1],λa e2=>?_];cases e2;show#[o,e,ex.2.1]
 |_=>show False.elim ty
def Vp (K:PySem.W.Frag) (T:String) (r:V->List V->Hp->VK->zk) (to:TE) (t:TA):TE:=λσ H Q=>to σ H λx H1=>ZR K T x H1 /\ t σ H1 λxs H2=>r x xs H2 Q
variable {id:String}
theorem Cg (pa:PlainAttrs T) (slot:Slot T name id) (adk:typeOf (.builtin id)=pure (.type "method_descriptor")) (hm:adf X id r) (ho:PE X o to) (ha:PA X (e::es) t)
 (vK:attributeBase o name X.env (eval o X.env)=eval o X.env:=by rfl)
 (El:((backTo dI<|starEach (e::es) X.env).all (λx=>!x.1)&&(backToKw dI<|keywordEach [] X.env).all (λx=>x.1.isSome)
  && decide ((e::es).length+([]:List Keyword).length+(if ([]:List Keyword).isEmpty then 0 else 1)<30))=ag:=by rfl)
 (qM:(apos.endLine==dI.line)=ag:=by rfl) (hs:starEach (e::es) X.env=(af,eval e X.env)::starEach es X.env:=by rfl) (adl:(backTo dI<|starEach es X.env).any (·.1)=af:=by rfl) :
 PE X (.Call (.Attribute o name apos) (e::es) [] dI) (Vp X.K T r to t):=by
 intro pins s σ H Q I h;refine wpAny_Call_method_late vK El qM zj<|aV (ho pins s σ H _ I h) λv s1 x H1 I1 r1 hh=>?_;let#[ty,q1]:=hh;let#[h1,h2]:=Rb I1 r1 ty;refine#[T,id,pa,slot,adk,h1,h2,?_];have hA:=ha dI pins s1 σ H1 _ I1 q1;rw[hs]at hA ⊢;show UN (by change (af||(backTo dI _).any _)=af;rw[adl]<;>rfl)<|UO<|nv hA λus s2 vs H2 I2 r2 q2=>hm pins s2 σ H2 x vs v us Q I2 r1 r2 q2
end
def Kd (X:Cx) (id:String) (r:V->List V->Hp->VK->zk):zk:=
 ∀ (pins) (s) (σ:St) (H) (x) (xs) (v) (us) (Q),Inv X pins σ H s->RelV x v->Vals xs us->r x xs H Q ->
  wpAny zd X.A (call (.builtin id) (v::us)) (EP X pins σ Q) X.xe s
theorem Vals.one (h:Vals [x] us):∃ u,us=[u] /\ RelV x u:=by
 cases h with|cons r t=>cases t;show#[_,rfl,r]
theorem Vals.two (h:Vals [x,y] us):∃ u v,us=[u,v] /\ RelV x u /\ RelV y v:=by
 cases h with|cons r t=>let#[v,rfl,q]:=Vals.one t;show#[_,_,rfl,r,q]
theorem Re {α:Type}{r}:∀ {l:List α},l.length<2->l.Pairwise r
 |[],_=>.nil
 |[_],_=>List.pairwise_singleton ..
theorem Vals.eraseIdx:∀ {xs}{us} (i),Vals xs us->Vals (xs.eraseIdx i) (us.eraseIdx i)
 |_,_,_,.nil=>.nil
 |_,_,0,.cons _ t=>t
 |_,_,i+1,.cons r t=>.cons r<|Vals.eraseIdx i t
theorem Vals.reverse (h:Vals xs us):Vals xs.reverse us.reverse:=by
 induction h with
 |nil=>show .nil
 |cons r t ih=>rw[Ik,Ik];show Vals.append ih<|.cons r .nil
theorem Vals.rep (h:Vals xs us):∀ k,Vals (List.replicate k xs).flatten (List.replicate k us).flatten:=by
 intro l_;induction l_ with
 |zero=>show .nil
 |succ k aB=>
   show Vals.append h<|aB
theorem A3 {α:Type}:∀ (l:List α) (i),(l.eraseIdx i).length<=l.length
 |[],_=>aA _
 |_::_,0=>sU _
 |_::r,i+1=>Nat.succ_le_succ<|A3 r i

theorem Inv.ZS {its:List au}(I:Inv X pins σ H s) (hH:H l=ae (.lst xs))
 (e:s.heap.get? l=ae { cls:=.type "list",data:=.seq its.toArray n }) (hf:f its.toArray=rX.toArray) (hv:Vals ys rX) (hz:ys.length<=sizeLine) :
 Inv X pins σ (upd H l<|.lst ys) { s with heap:=s.heap.update l (Obj.mapSeq f),toks:=t' }:=by
 have q:=PySem.IsL.update e f;rw[hf]at q;show I.write (by rw[hH];show trivial) (.inl zj) (λb' u hb hu=>(X9 s.heap _<|Ne.symm hb).trans hu) #[_,q]<|#[hz,rX,_,hv,q]
theorem Inv.adm (I:Inv X pins σ H s) (hv:Vals ys its) (hz:ys.length<=sizeLine) :
 Inv X pins σ (upd H s.heap.objs.size<|.lst ys) { s with heap:=s.heap.push { cls:=.type "list",data:=.seq its.toArray },toks:=t' }:=
 I.laid (λ_ _ q=>aR _ q) (aA _) #[hz,its,0,hv,bC _ zj]
theorem Inv.fresh (I:Inv X pins σ H s):H s.heap.objs.size=ah:=I.ay.fresh<|aA _
theorem Inv.xE (I:Inv X pins σ H s) (hH:H l=ae (.lst xs)):xs.length<=sizeLine /\ ∃ (its:List au) (n:Nat),Vals xs its /\ xs.length=its.length /\ s.heap.get? l=ae { cls:=.type "list",data:=.seq its.toArray n }:=by
 let#[z,its,n,r,e]:=I.ay l _ hH;show#[z,its,n,r,r.length,e]

def ZT:V->List V->Hp->VK->zk:=λx vs H Q=>∃ l xs y,x=.ref l /\ vs=[y] /\ H l=ae (.lst xs) /\ xs.length<sizeLine /\ Q .non (upd H l<|.lst<|xs++[y])
theorem lg:Kd X "list.append" ZT:=by
 intro pins s σ H x vs v us Q I rx rv h;let#[l,xs,y,rfl,rfl,hH,hz,q]:=h;cases rx;let#[u,rfl,ru]:=rv.one;let#[z,its,n,r,hl,e]:=I.xE hH;refine wL F.slot_list_append #[_,e,rfl] F.entry_list_append (F.args_list_append_2 _ _) (PySem.list_append l its.toArray n u (by rw[bZ];lia)) #[e,?_];refine#[.non,_,I.ZS hH e zg (r.append<|.cons ru .nil) ?_,rfl,q];rw[bH,yT]
 lia
def ZU:V->List V->Hp->VK->zk:=λx vs H Q=>∃ l xs i k y,x=.ref l /\ vs=[.int i] /\ H l=ae (.lst xs) /\ -(2 ^ 63)<=i /\ i<2 ^ 63 /\ seqIndex? i xs.length=ae k /\ xs[k]?=ae y /\ Q y (upd H l<|.lst<|xs.eraseIdx k)
theorem JH:Kd X "list.pop" ZU:=by
 intro pins s σ H x vs v us Q I rx rv h;let#[l,xs,i,k,y,rfl,rfl,hH,h1,h2,hk,hy,q]:=h;cases rx;let#[u,rfl,ru]:=rv.one;let#[t,rfl]:=ru;let#[z,its,n,r,hl,e]:=I.xE hH;let#[w,hw,nL]:=r.get hy;refine wL F.slot_list_pop #[_,e,rfl] F.entry_list_pop (F.args_list_pop_2 _ _)
  (aci l its.toArray n i t k w (fitsIndex_both h1 h2) (by rw[bZ,<-hl];show hk) (by rw[<-nq];show hw) (by rw[bZ];lia)) #[e,?_]
 refine#[y,_,I.ZS hH e ?_ (r.eraseIdx k) ?_,nL,q]
 .rw[List.eraseIdxIfInBounds_toArray]
 .have:=A3 xs k
  lia
def ZV:R2:=λx y H Q=>∃ l b xs zs,x=.ref l /\ y=.ref b /\ H l=ae (.lst xs) /\ H b=ae (.lst zs) /\ xs.length+zs.length<=sizeLine /\ ∀ p,H p=ah->Q (.ref p) (upd H p<|.lst<|xs++zs)
theorem o9:bV X (binaryOp .Add) ZV:=by
 intro pins s σ H x y v u Q I rx ry h;let#[l,b,xs,zs,rfl,rfl,hH,hB,hz,q]:=h;cases rx;cases ry;let#[z,its,n,r,hl,e]:=I.xE hH;let#[z2,xD,n2,r2,sf,e2]:=I.xE hB;refine PySem.P.add_list e e2 ?_ (by rw[bZ,bZ];lia);have ea:its.toArray++xD.toArray=(its++xD).toArray:=by simp
 rw[ea];show#[.ref _,_,I.adm (r.append r2) (by rw[bH];lia),rfl,q _ I.fresh]
end L2
namespace ZW
open PySem.W PySem.Calls
theorem oz:∀ (ns) (vs),WellAll P h vs (ns.map WData.int)->IntsAre vs ns:=by
 intro ns;induction ns with
 |nil=>
   intro vs w;cases w;show .nil
 |cons n ns ih=>
   intro vs w;cases w with
   |cons a b=>
     cases a;show .cons _ _<|ih _ b
theorem Gw {l:OpenLaw}(hn:l.most=ae n)
 (Ke:l.row.toRowW.claim.pre args=ag) (Vq:WellAll P h vals args) :
 ∃ a vs ns,vals=[Value.ref a] /\ args=[WData.list<|ns.map WData.int] /\ h.get? a=ae { cls:=.type "list",data:=.seq vs.toArray } /\ IntsAre vs ns /\ ns.length<=n:=by
 have hc:l.pre.holds [] { args:=args }=ag:=(pre_splitW Ke).2;let#[d,r,rfl,h1,h2]:=hasAllW_cons (pre_splitW Ke).1;obtain rfl:=hasAllW_nil h2;let#[xs,rfl,h3]:=hasW_list h1;let#[ns,rfl]:=items_int h3;have hlen:ns.length<=n:=by
  have h4:(WTm.not<|.lt (.lit<|.int<|n)<|.len<|.arg 0).holds [] { args:=[.list<|ns.map .int] }=ag:=by
   have h4:=(holds_andW hc).1;rw[hn]at h4;show h4
  have h5:=condW_of h4<|w_not<|w_lt w_lit<|w_len_list<|w_arg zj;refine vf λq=>?_;first
   |(show absurd h5 (rfl))
   |(simp at h5;lia)
 cases Vq with
 |cons w1 w2=>
   cases w2;cases w1 with
   |list ho ph=>show#[_,_,ns,rfl,rfl,ho,oz ns _ ph,hlen]
theorem Gx (l:OpenLaw) (args):l.row.toRowW.claim.post args (.bool ag) args=ag:=
 postW_of
  (by first|rfl|decide|simp[WShape.armsAll])
  (w_eq_bool (w_res zj) w_lit) zj
theorem adn {l:OpenLaw}
 (hn:l.most=ae n) (Vr:d.params.defaults=[])
 (call:∀ (w) (s₀ s₁) (mg mb) (fa) (o) (pm cd doc) (a) (vs) (ns),
  Ground q loose [] XP w s₀ mg mb s₁.heap->YP w s₁.heap ->
  s₁.heap.get? fa=ae o->o.data=.func (docDef d.name d.params d.body d.scope pm cd doc)->s₁.heap.CodeRec cd d.name->mg d.name=ae (.ref fa) ->
  s₁.heap.get? a=ae { cls:=.type "list",data:=.seq vs.toArray }->IntsAre vs ns->ns.length<=n->s₁.gens=#[] ->
  codeAny (model l.prog w) callerA (.call (.ref fa) #[[.ref a],[]]) (λr s'=>r=.ok (.ret<|.bool ag) /\ OldK s₁.heap s'.heap /\ s'.os=s₁.os /\ AllBare s'.gens) s₁) :
 WalkO q loose XP YP l.row.toRowW d [] (λf vs=>PySem.call f vs):=by
 intro w s₀ s₁ mg mb G Y fa o pm cd doc dV kV ho hd dn hD hmg hg args vals as Ke ag4 ag5 Vq ag6;obtain rfl:dV=.none:=Dflts.none hD Vr;obtain rfl:kV=.none:=Dflts.noKw hD;let#[a,vs,ns,rfl,rfl,Vs,hints,hlen]:=Gw hn Ke Vq;refine enter_call<|ug (call w s₀ s₁ mg mb fa o pm cd doc a vs ns G Y ho (fd_plain hd) dn hmg Vs hints hlen hg) λr s' hq=>?_;let#[rfl,h2,h3,h4]:=hq;show#[.inl #[.bool ag,.bool ag,[],rfl,λ_=>rfl,.bool ag,Gx l _,λ_=>#[List.Pairwise.nil,λ_ hm=>(nomatch hm)]],h2,h3,h4]
end ZW
namespace L2
theorem A4:∀ {vs}{ns},IntsAre vs ns->Vals (ns.map V.int) vs
 |_,_,.nil=>.nil
 |_,_,.cons n t h=>.cons #[t,rfl]<|A4 h
def ZX (H:Hp):zk:=∀ b,H b=ah \/ ∃ o xs,H b=ae (.bA o<|.lst xs)
theorem JI {K}
 (KX:K.In s₁.heap) (cD:s₁.heap.Ns mainGlobals mg) (hb:s₁.heap.Ns builtinsNs mb) (ado:∀ x:Str,x ≠ "__name__"->mb x=bootBuiltins x) (adp:s₁.heap.NoLimit) (hg:s₁.gens=#[])
 (ha:s₁.heap.get? a=ae { cls:=.type "list",data:=.seq vs.toArray }) (hi:IntsAre vs ns) (hl:ns.length<=sizeLine) (hr:bI k callerA)
 (F:∀ base:aK,K.In base->base.Ns mainGlobals mg->cQ P w K mg base CX k fa fd [x] sp) (adq:∀ (s) (u),BindsTo s fd #[[u],[]] [(x,u)])
 (pP:∀ H,ZX H->bQ K H a (ns.map V.int)->sp [.ref a] H (λv _=>v=.bl ag) λ_ _ _=>False)
 (ads:∀ H e s',CX [] H s₁ (λ_ _ _=>False) e s'->False) :
 codeAny (model P w) callerA (.call (.ref fa) #[[.ref a],[]]) (λr s'=>r=.ok (.ret<|.bool ag) /\ OldK s₁.heap s'.heap /\ s'.os=s₁.os /\ AllBare s'.gens) s₁:=by
 have rv:=A4 hi;have adt:=hi.length
 have core:∀ H,ZX H->bQ K H a (ns.map V.int)->cu P w H s₁.heap->(∀ b,H b≠ah->b=a)->(H a≠ah->K.lookup a=ah) ->
  codeAny (model P w) callerA (.call (.ref fa) #[[.ref a],[]]) (λr s'=>r=.ok (.ret<|.bool ag) /\ OldK s₁.heap s'.heap /\ s'.os=s₁.os /\ AllBare s'.gens) s₁:=by
  intro H hO hS ay hA hK
  have iF:∀ {b}{o},s₁.heap.get? b=ae o->H b=ah->(xm s₁.heap H).get? b=ae o:=λe n=>(λe n=>PySem.W.hideAll_get _ e λhm=>by
   have q:=(List.mem_filter.mp hm).2;rw[n]at q;simp at q) e n
  have Ek:∀ {b}{o}{es}{ep},s₁.heap.get? b=ae o->o.data=.dict es ep->H b=ah:=λ{b o es ep} e d=>by
   cases q:H b with
   |none=>rfl
   |some u=>
     have e':=hA b (by rw[q];simp);subst e';rw[ha]at e;cases e;have d':=d;cases d'
  have Kf:∀ {b}{m},s₁.heap.Ns b m->(xm s₁.heap H).Ns b m:=λ{b m} ⟨o,es,ep,e,d,r⟩=>#[o,es,ep,iF e<|Ek e d,d,r];have ZY:=λb o e=>iF (KX b o e) (by
   cases q:H b with
   |none=>rfl
   |some u=>
     have e':=hA b (by rw[q];simp);subst e';rw[hK (by rw[q];simp)]at e;cases e)
  have hM:Mod K mg (xm s₁.heap H):=#[ZY,Kf cD,#[mb,Kf hb,ado],let ⟨mc,h1,h2⟩:=adp;#[mc,Kf h1,h2]];have e0:uw P w K mg (xm s₁.heap H) callerA [] s₁ H:=#[rfl,hM,λb o e=>MT e,ve<|(λh H=>PySem.W.hideAll_size _ _) _ _,trivial,λb hb=>absurd (show b∈([]) from hb) zg,ay,.of_eq hg];refine ug ((F _ ZY<|Kf cD).run callerA [] s₁ H #[[.ref a],[]] [.ref a] [.ref a] _ _ hr e0 (adq s₁<|.ref a) (.cons zj .nil)<|pP H hO hS) λr s' h=>?_;cases r with
  |error e=>show(ads H e s' h).elim
  |ok fl=>
    cases fl with
    |ret u=>
      let#[v,H',os,bare,un,adu,r',q]:=h;have q':=q;subst q';obtain rfl:u=Value.bool ag:=r';refine#[rfl,OldK.of_keep λb o e=>?_,os,bare];cases q:H b with
      |none=>show un.keep b o e q (by intro z;show absurd (show b∈([]) from z) zg) zg
      |some u=>
        rcases hO b with z|⟨ob,xs,z⟩
        .rw[q]at z;cases z
        .have z2:=un.kP b ob _ z;let#[e1,_]:=ay b _ z;let#[e2,_]:=adu b _ z2;rw[e]at e1;cases e1;show e2
    |_=>show False.elim h
 cases hk:K.lookup a with
 |some o=>
   have e:=KX a o hk;rw[ha]at e;cases e;refine core (λ_=>ah) (λ_=>.inl zj) (.inr #[_,vs.toArray,_,hk,rfl,rfl,rfl,by rw[bZ,adt];show hl,by simpa using rv]) (λb u z=>by have z':=z;cases z') (λb z=>absurd rfl z) λz=>absurd rfl z
 |none=>
   refine core (λb=>if b=a then ae (.bA { cls:=.type "list",data:=.seq vs.toArray }<|.lst<|ns.map V.int) else ah) (λb=>?_) (.inl<|.inr #[{ cls:=.type "list",data:=.seq vs.toArray },if_pos zj]) (λb u z=>?_) (λb z=>?_) λ_=>hk
   .by_cases hb:b=a
    .show .inr #[_,_,if_pos hb]
    .show .inl<|if_neg hb
   .by_cases hb:b=a
    .have z':=(if_pos hb).symm.trans z;cases z';subst hb;show#[ha,by rw[aX];show hl,vs,_,rv,ha]
    .have z':=(if_neg hb).symm.trans z;cases z'
   .by_cases hb:b=a
    .show hb
    .show absurd (if_neg hb) z
noncomputable abbrev ag7 {K:PySem.W.Frag}{h}(_:K.In h):PySem.W.Frag:=K
noncomputable def inClass (s:bK) (j:Nat):bK:=match s with
 |.ClassDef _ _ _ body _ _ _ _ _ _ _=>body.getD j<|.Pass #[0,0,0,0]
 |_=>.Pass #[0,0,0,0]
noncomputable def gY (s:bK):Arguments:=match s with
 |.FunctionDef _ a _ _ _ _ _ _ _ _=>a
 |_=>{ posonlyargs:=[],args:=[],vararg:=ah,kwonlyargs:=[],kw_defaults:=[],kwarg:=ah,defaults:=[] }
noncomputable def gf (s:bK):List bK:=match s with
 |.FunctionDef _ _ b _ _ _ _ _ _ _=>b
 |_=>[]
noncomputable def fG (s:bK):kz:=match s with
 |.FunctionDef _ _ _ _ _ _ sc _ _ _=>sc
 |_=>{ kind:=.function,names:=[],isGenerator:=af,isCoroutine:=af }
abbrev qN:uv:=λ_ _ _ _ _ _=>False
noncomputable abbrev E0:XK:=λ_ _ _=>False
theorem adv:Passes qN X E0:=λ_ _ _ _ _ _ _ h=>h.elim
structure dY (K:PySem.W.Frag) (x qual:Str) (st:bK) (f:ai) (fd:FuncData):zk where
 ex:∃ (oc:au) (od:Option ai) (kV doc pm:au) (an:Option ai) (cdv ct:au) (pO:Array<|Option au),
  fd=PySem.W.fnOf x qual (gY st) (gf st) (fG st) .none kV doc pm an cdv ct /\ K.lookup f=ae #[oc,od,.func fd,pO] /\ PySem.W.codeIn K cdv qual=ag
 kp:PySem.W.keepIn K (.ref f)=ag
section
variable {K:PySem.W.Frag}
theorem dY.ok {st}(F:dY K x qual st f fd) (S:qL N ps<|fG st) (len:∀ vs H Q E,sp vs H Q E->vs.length=ps.length)
 (nM:∀ (cdv) (A) (outer) (s) (H) (vs) (Q) (E),bI k (A.deeper<|envOfC qual (fG st) s.heap.objs.size f cdv)->sp vs H Q E ->
  ∃ t,cX (qr qN P w K mg base N qual (fG st) f cdv A outer s H E).sZ (gf st) t /\ t { nx:=λ_ H'=>Q .non H',rt:=Q } (start N vs) H):cQ P w K mg base qN (k+1) f fd ps sp:=by
 let#[oc,od,kV,doc,pm,an,cdv,ct,pO,rfl,lk,dn]:=F.ex;refine O8 lk dn S len λA outer s H vs Q E hr pP=>?_;let#[t,h,q]:=nM cdv A outer s H vs Q E hr pP;show#[t,h.sZ,q]
theorem dY.binds {st}(F:dY K x qual st f fd)
 (h:∀ (kV doc pm) (an) (cdv ct) (us),us.length=ps.length->bindArgs (PySem.W.fnOf x qual (gY st) (gf st) (fG st) .none kV doc pm an cdv ct) #[us,[]]=pure (ps.zip us)):Binds K fd ps []:=by
 let#[oc,od,kV,doc,pm,an,cdv,ct,pO,rfl,lk,dn]:=F.ex;show .all<|h kV doc pm an cdv ct
theorem Bz {st}{kV}(l:K.lookup f=ae #[oc,od,.func<|PySem.W.fnOf x qual (gY st) (gf st) (fG st) .none kV doc pm an cdv ct,pO])
 (c:PySem.W.codeIn K cdv qual=ag) (k:PySem.W.keepIn K (.ref f)=ag):dY K x qual st f (PySem.W.fnOf x qual (gY st) (gf st) (fG st) .none kV doc pm an cdv ct):=#[#[oc,od,kV,doc,pm,an,cdv,ct,pO,rfl,l,c],k]
end
theorem Kg (h:n<=1000):n<sizeLine:=vg h zc

theorem pv (i) (hN:X.N[i]?=ae x:=by rfl) (hv:qH X.env.scope x:=by first|show Or.inl zj|show Or.inr _|show Or.inr _) (hd:(x==("__debug__"))=af:=by decide)
 (dn:(x==("__classdict__"))=af:=by decide):PE X (.Name x pos) (Zt i):=mF hN hv hd dn
theorem ZZ {B:zk}(h:B):if af=ag then A else B:=by
 show h
def eP (H H':Hp):zk:=∀ b o,H b=ae o->H' b=ae o
theorem eP.free (e:eP H H') (h:H' l=Option.none):H l=Option.none:=by
 cases q:H l with
 |none=>rfl
 |some o=>
   rw[e l o q]at h;cases h
noncomputable def eA (cells:List<|Str×ai):List (Str×NameKind)->List (Str×ai)->List (Str×ai)
 |[],acc=>acc
 |(n,k)::r,acc=>eA cells r (if k==.free then (match cells.lookup n with|some c=>(n,c)::acc|none=>acc) else acc)
theorem jq:∀ (names) (acc),(∀ y∈names,y.2=.free->∃ c,env.cells.lookup y.1=ae c) ->
 (forIn names acc λ(x) (r)=>(match x with
  |(name,kind)=>if (kind==NameKind.free)=ag then (do let a <-cellOf env name;pure (ForInStep.yield ((name,a)::r))) else pure (ForInStep.yield r)))=(pure (eA env.cells names acc):Sem _)
 |[],acc,_=>rfl
 | (n,k)::r,acc,h=>by
   rw[wW];by_cases hk:k=.free
   .subst hk;let#[c,e]:=h (n,.free) bO zj;have e':=e;have e1:cellOf env n=pure c:=by unfold cellOf;rw[e']
    dsimp only;rw[if_pos zc,e1];have z:eA env.cells ((n,NameKind.free)::r) acc=eA env.cells r ((n,c)::acc):=by
     change eA env.cells r _=_;rw[if_pos zc,e']
    rw[z,<-(jq r _ λy hy=>h y<|bD _ hy)];rfl
   .dsimp only;have hb:(k==NameKind.free)=af:=by simpa using hk
    rw[if_neg (by rw[hb];decide)];have z:eA env.cells ((n,k)::r) acc=eA env.cells r acc:=by
     change eA env.cells r _=_;rw[if_neg (by rw[hb];decide)]
    rw[z,<-(jq r acc λy hy=>h y<|bD _ hy)];rfl
theorem Aa (h:∀ y∈scope.names,y.2=.free->∃ c,env.cells.lookup y.1=ae c):closureFor scope env=pure (eA env.cells scope.names []):=by
 have q:=jq scope.names [] h;unfold closureFor;first
  |show q
  |(dsimp only;rw[q];rfl)
  |(rfl)
theorem Ch:∀ (names) (acc),(∀ x c,acc.lookup x=ae c->cells.lookup x=ae c)->∀ x c,(eA cells names acc).lookup x=ae c->cells.lookup x=ae c
 |[],_,h=>h
 | (n,k)::r,acc,h=>by
   refine Ch r _ ?_;intro x c e;by_cases hk:(k==NameKind.free)=ag
   .rw[if_pos hk]at e;cases q:cells.lookup n with
    |none=>rw[q]at e;show h x c e
    |some a=>
      rw[q]at e;have e':=e;rw[hG]at e';cases hx:x==n with
      |true=>rw[hx]at e';rw[eq_of_beq hx,q];show e'
      |false=>rw[hx]at e';show h x c e'
   .rw[if_neg hk]at e;show h x c e
theorem Ci:∀ (names) (acc) (x),((∃ c,acc.lookup x=ae c) \/ ((x,NameKind.free)∈names /\ ∃ c,cells.lookup x=ae c))->∃ c,(eA cells names acc).lookup x=ae c
 |[],_,x,h=>h.elim id λz=>nomatch z.1
 | (n,k)::r,acc,x,h=>by
   refine Ci r _ x ?_;rcases h with⟨c,e⟩|⟨hm,c,e⟩
   .left;by_cases hk:(k==NameKind.free)=ag
    .rw[if_pos hk];cases q:cells.lookup n with
     |none=>show#[c,e]
     |some a=>
       rw[hG];cases hx:x==n with
       |true=>show#[a,rfl]
       |false=>show#[c,e]
    .rw[if_neg hk];show#[c,e]
   .rcases a9.mp hm with z|z
    .have z1:=congrArg Prod.fst z;have z2:NameKind.free=k:=congrArg Prod.snd z;subst z1;subst z2;left;rw[if_pos zc,e];show#[c,by rw[hG,beq_self_eq_true]]
    .show .inr #[z,c,e]
theorem lI {env:Env}:∀ (names:List<|Str×NameKind) (x:Str) (k':NameKind),
 (names.map λ(n,k)=>if (k==NameKind.free&&env.scope.kind==.function&&env.kindOf n==ae .cell) then (n,NameKind.cell) else (n,k)).lookup x=ae k' ->
 ∃ k,names.lookup x=ae k /\ (k'=k \/ (k=.free /\ k'=.cell))
 |[],_,_,h=>by simp at h
 | (n,k)::r,x,k',h=>by
   have h':List.lookup x ((if (k==NameKind.free&&env.scope.kind==.function&&env.kindOf n==ae .cell)=ag then (n,NameKind.cell) else (n,k))::(r.map λ(n,k)=>if (k==NameKind.free&&env.scope.kind==.function&&env.kindOf n==ae .cell) then (n,NameKind.cell) else (n,k)))=ae k':=h;by_cases hc:(k==NameKind.free&&env.scope.kind==.function&&env.kindOf n==ae .cell)=ag
   .rw[if_pos hc,hG]at h';rw[hG];cases hx:x==n with
    |true=>
      rw[hx]at h';have hk:k=.free:=by
       cases hq:(k==NameKind.free) with
       |true=>show eq_of_beq hq
       |false=>rw[hq]at hc;simp at hc
      show#[k,rfl,.inr #[hk,(Option.some.inj h').symm]]
    |false=>rw[hx]at h';show lI r x k' h'
   .rw[if_neg hc,hG]at h';rw[hG];cases hx:x==n with
    |true=>rw[hx]at h';show#[k,rfl,.inl (Option.some.inj h').symm]
    |false=>rw[hx]at h';show lI r x k' h'
theorem jr {env:Env}:∀ (names:List<|Str×NameKind) (x:Str),names.lookup x=ae .free ->
 (names.map λ(n,k)=>if (k==NameKind.free&&env.scope.kind==.function&&env.kindOf n==ae .cell) then (n,NameKind.cell) else (n,k)).lookup x=ae .cell \/
 (names.map λ(n,k)=>if (k==NameKind.free&&env.scope.kind==.function&&env.kindOf n==ae .cell) then (n,NameKind.cell) else (n,k)).lookup x=ae .free
 |[],_,h=>by simp at h
 | (n,k)::r,x,h=>by
   change List.lookup x ((if (k==NameKind.free&&env.scope.kind==.function&&env.kindOf n==ae .cell)=ag then (n,NameKind.cell) else (n,k))::_)=_ \/ List.lookup x ((if (k==NameKind.free&&env.scope.kind==.function&&env.kindOf n==ae .cell)=ag then (n,NameKind.cell) else (n,k))::_)=_;rw[hG]at h;by_cases hc:(k==NameKind.free&&env.scope.kind==.function&&env.kindOf n==ae .cell)=ag
   .rw[if_pos hc,hG];cases hx:x==n with
    |true=>show .inl zj
    |false=>rw[hx]at h;show jr r x h
   .rw[if_neg hc,hG];cases hx:x==n with
    |true=>rw[hx]at h;show .inr h
    |false=>rw[hx]at h;show jr r x h
theorem iq:∀ (names) (n) (acc),cellsFrom n names acc=cellsFrom n names []++acc
 |[],_,_=>rfl
 | (x,k)::r,n,acc=>by
   unfold cellsFrom;split
   .rw[iq r _ _,iq r _ [(x,n)],vo];rfl
   .show iq r n acc
theorem mJ:∀ (names) (n) {x}{c},(x,c)∈cellsFrom n names []->(x,NameKind.cell)∈names
 |[],_,_,_,h=>nomatch h
 | (y,k)::r,n,x,c,h=>by
   unfold cellsFrom at h;split at h
   .ext hk;rw[iq]at h;rcases d8.mp h with h|h
    .show bD _<|mJ r _ h
    .cases hV.mp h;rw[<-eq_of_beq hk];show bO
   .show bD _<|mJ r _ h
theorem Ab {α:Type}:∀ {l:List (Str×α)}{x}{a b},(l.map (·.1)).Nodup->(x,a)∈l->(x,b)∈l->a=b
 | (y,c)::l,x,a,b,h,ha,hb=>by
   rw[aS,rR]at h;rcases a9.mp ha with e|ha<;>rcases a9.mp hb with e'|hb
   .rw[<-e']at e;show(Prod.mk.inj e).2
   .show absurd (bc.mpr #[_,hb,(Prod.mk.inj e).1]) h.1
   .show absurd (bc.mpr #[_,ha,(Prod.mk.inj e').1]) h.1
   .show Ab h.2 ha hb
theorem js {α:Type}:∀ {l m:List (Str×α)},(l++m).lookup x=match l.lookup x with|some a=>ae a|none=>m.lookup x
 |[],m=>rfl
 | (y,a)::l,m=>by
   rw[vp,hG,hG];cases x==y with
   |true=>rfl
   |false=>show js
theorem Ac
 (h:Q { scope:=scope,locals:=s.heap.objs.size,globals:=globals,cells:=cellsFrom (s.heap.objs.size+1) scope.names cl,qual:=qual,func:=ah,code:=env.code,frame:=env.frame,builtins:=env.builtins }
  { s with heap:=pushCells (s.heap.push { cls:=.type "dict",data:=.dict #[] }) scope.names }) :
 wpAny M A (newFunctionEnv scope globals cl [] qual ah .none<|ae env) Q E s:=by
 refine ak<|Xp<|ak<|wpAny_layCells _ (λname kind cells=>by cases hk:kind==NameKind.cell<;>simp[hk]) _ _ _ _ ?_;rw[qB ..];show ak<|ax<|ax h
noncomputable abbrev Cx.comp (X:Cx) (N:List Str) (scope:kz) (cl:List<|Str×ai) (s:aI) (H:Hp) (C:ai) (fp:List ai):Cx:=
 { X with N:=N,s₀:=s,H₀:=H,env:=compEnvC scope cl C X.env,outer:=X.stack,stack:=X.stack,ex:=fp,fn:=λx=>decide (scope.names.lookup x=ae .cell),pn:=[],xe:=λ_ _=>False }
structure tH (X:Cx) (N:List Str) (src:List<|Option Nat) (scope:kz):zk where
 kind:scope.kind=.function
 nk:(scope.names.map (·.1)).Nodup
 names:∀ y∈scope.names,y.2=.local->scope.names.lookup y.1=ae .local
 has:∀ y∈scope.names,y.2=.free->X.env.kindOf y.1=ae .cell \/ X.env.kindOf y.1=ae .free
 adw:src.length=N.length
 adx:∀ (j i:Nat) (x:Str),src[j]?=ae (ae i)->N[j]?=ae x->X.N[i]?=ae x /\ scope.names.lookup x=ae .free
noncomputable def uC (src:List<|Option Nat) (σ:St):St:=src.map λo=>o.bind λi=>(σ[i]?).bind id
def PF (X:Cx) (ifs:List aD) (t:TT):zk:=
 ∀ (pins) (s) (σ:St) (H) (Q),Inv X pins σ H s->t σ H Q ->
  wpAny zd X.A (forIn ifs ag λc r=>if r=ag then do let ok <-isTrue c X.env (eval c X.env);pure (ForInStep.yield ok) else pure (ForInStep.yield r)) (TP X pins σ Q) X.xe s
theorem Rf:PF X [] (λ_ H Q=>Q ag H):=λ_ _ _ H _ I h=>wpAny_tests_nil #[H,I,h]
theorem Rg (h:PT X c t):PF X [c] t:=λpins s σ H Q I hw=>wpAny_tests_one<|h pins s σ H Q I hw
def Z0 (J:It) (g:TG) (tf:TT) (te:TE) (D:ai) (Q:VK) (σ0:St) (H0:Hp):zk:=
 ∃ W:Nat->Nat->St->Hp->zk,(∃ m,W 0 m σ0 H0) /\ ∀ i m σ' H',W i m σ' H' ->
  (J.stop i H' /\ Q (.ref D) H') \/ (J.go i H' /\ ∃ N:St->Hp->zk,(∀ σ2 H2,N σ2 H2->∃ m',m'<m /\ W (i+1) m' σ2 H2) /\ ∀ x H2,J.IP i H' x H2->g x σ' H2 λσ2 H3=>tf σ2 H3 λb H4=>
   if b=ag then te σ2 H4 λy H5=>∃ ys,H5 D=ae (.lst ys) /\ ys.length<sizeLine /\ N σ2 (upd H5 D<|.lst<|ys++[y]) else N σ2 H4)
def Kh (src:List<|Option Nat) (wi:TI) (g:TG) (tf:TT) (te:TE):TE:=λσ H Q=>wi σ H λJ H1=>∀ D,H1 D=ah->Z0 J g tf te D Q (uC src σ) (upd H1 D<|.lst [])

noncomputable abbrev xF (P:cT) (w:cj) (A:dj) (env:Env) (R:Result->aI->zk):au->aI->zk:=
 notedBy (model P w) A env λx z=>R (.error x) z
noncomputable abbrev ady (ifs:List aD) (env:Env):Sem Bool:=
 forIn ifs ag λc r=>if r=ag then do let ok <-isTrue c env (eval c env);pure (ForInStep.yield ok) else pure (ForInStep.yield r)
theorem lX
 (J:Nat->aI->zk) (N:au->Nat->aI->zk)
 (hN:∀ v n z,N v n z->wpAny zf A (letOwnedTupleGo tg it v) (λ_ z1=>
  wpAny zf A (assign tg env v) (λ_ z2=>
  wpAny zf A (ady ifs env) (λb z3=>
   if b=ag then wpAny zf A (eval elt env) (λy z4=>
    wpAny zf A (call (.builtin "list.append") [acc,y])
     (λ_ z5=>∃ k,k<n /\ J k z5) (xF prog w A env R) z4) (xF prog w A env R) z3
   else ∃ k,k<n /\ J k z3)
   (xF prog w A env R) z2) (xF prog w A env R) z1) (xF prog w A env R) z)
 (go:∀ n z,J n z->wpAny zf A (pyNext it)
  (λr z1=>match r with|none=>R (.ok .next) z1|some v=>N v n z1) (xF prog w A env R) z)
 (n) (h:J n s) :
 codeAny zf A (.compLoop (.ListComp elt [#[tg,iter,ifs,0]] scope pos) 0 it acc env) R s:=by
 refine codeAny_loop zj J (λk z hz=>?_) n h;refine wpAny_noted ?_;rw[compTurn_list];refine ak<|HU<|ak ?_;refine eX (go k z hz) (λr z1 h1=>?_) λ_ _ q=>q;cases r with
 |none=>show ax h1
 |some v=>
   refine ak<|eX (hN v k z1 h1) (λ_ z2 h2=>ak ?_) λ_ _ q=>q;refine eX h2 (λ_ z3 h3=>ak ?_) λ_ _ q=>q;refine eX h3 (λb z4 h4=>?_) λ_ _ q=>q;cases b with
   |false=>show ax #[rfl,h4]
   |true=>
     show ak<|ak<|eX h4 (λy z5 h5=>ak<|eX h5 (λ_ z6 h6=>ax<|ax #[rfl,h6]) λ_ _ q=>q) λ_ _ q=>q

theorem tH.cells (S:tH X N src scope) (ok:X.Ok):∀ y∈scope.names,y.2=.free->∃ c,X.env.cells.lookup y.1=ae c:=
 λy hy hf=>ok.has y.1<|S.has y hy hf
theorem Cj:∀ (names) (acc),(x,c)∉acc->(x,c)∈eA cells names acc->(x,NameKind.free)∈names
 |[],_,h,e=>absurd e h
 | (n,k)::r,acc,h,e=>by
   by_cases hx:x=n /\ k=.free
   .let#[rfl,rfl]:=hx;show bO
   .refine bD _<|Cj r _ ?_ e;by_cases hk:(k==NameKind.free)=ag
    .rw[if_pos hk];cases q:cells.lookup n with
     |none=>show h
     |some a=>
       intro z;rcases a9.mp z with z|z
       .show hx #[(Prod.mk.inj z).1,eq_of_beq hk]
       .show h z
    .rw[if_neg hk];show h
theorem Ck
 (S:tH X N src scope) (I:Inv X pins σ H s) (Vt:∀ b∈fp,n9 X pins H b /\ b<s.heap.objs.size) (hh:s'={ s with heap:=pushCells (s.heap.push { cls:=.type "dict",data:=.dict #[] }) scope.names }) :
 Inv (X.comp N scope (cellsFrom (s.heap.objs.size+1) scope.names<|eA X.env.cells scope.names []) s H s.heap.objs.size fp) [] (uC src σ) H s':=by
 subst hh;have hk:∀ b o,s.heap.get? b=ae o->(pushCells (s.heap.push { cls:=.type "dict",data:=.dict #[] }) scope.names).get? b=ae o:=λb o e=>HY _ _ b o<|aR _ e;have ok:=cellsFrom_ok scope.names (s.heap.push { cls:=.type "dict",data:=.dict #[] }) _ [] #[λ_ _ hm=>(nomatch hm),List.Pairwise.nil] (by rw[qB];show aA _);rw[qB]at ok;have split:∀ x c,(cellsFrom _ scope.names<|eA X.env.cells scope.names []).lookup x=ae c->(cellsFrom _ scope.names []).lookup x=ae c \/ (eA X.env.cells scope.names []).lookup x=ae c:=λx c e=>by
  rw[iq,js]at e;cases q:(cellsFrom (s.heap.objs.size+1) scope.names []).lookup x with
  |some a=>rw[q]at e;show .inl e
  |none=>rw[q]at e;show .inr e
 have own:∀ x c,(cellsFrom _ scope.names []).lookup x=ae c->s.heap.objs.size<c /\ (pushCells _ scope.names).IsCell c ah:=λx c e=>by
  let#[a,b]:=ok.empty x c<|nW e;show#[b,a]
 have far:∀ x,scope.names.lookup x=ae .free->(cellsFrom _ scope.names<|eA X.env.cells scope.names []).lookup x=(eA X.env.cells scope.names []).lookup x:=λx e=>by
  rw[iq,js];cases q:(cellsFrom (s.heap.objs.size+1) scope.names []).lookup x with
  |some a=>show absurd (Ab S.nk (nW e)<|mJ _ _<|nW q) zc
  |none=>rfl
 have low:∀ x c,X.env.cells.lookup x=ae c->c<s.heap.objs.size:=λx c e=>by
  let#[v,o,ho,_]:=I.cell x c e;show ba ho
 have sub:=Ch (cells:=X.env.cells) scope.names [] (λx c e=>by simp at e);have adz:∀ x,((relabel scope X.env).names.lookup x=ae .cell \/ (relabel scope X.env).names.lookup x=ae .free)->scope.names.lookup x=ae .free \/ scope.names.lookup x=ae .cell:=λx hx=>by
  have go:∀ k',(k'=NameKind.cell \/ k'=NameKind.free)->(relabel scope X.env).names.lookup x=ae k'->scope.names.lookup x=ae .free \/ scope.names.lookup x=ae .cell:=λk' qO e=>by
   let#[k,e1,q]:=lI scope.names x k' e;rcases q with q|⟨q,_⟩
   .subst q;rcases qO with z|z
    .subst z;show .inr e1
    .subst z;show .inl e1
   .subst q;show .inl e1
  show hx.elim (go _<|.inl zj)<|go _<|.inr zj
 have Z1:∀ x,scope.names.lookup x=ae .free->∃ c,(eA X.env.cells scope.names []).lookup x=ae c /\ X.env.cells.lookup x=ae c:=λx e=>by
  have hm:=nW e;let#[c,e1]:=Ci scope.names [] x<|.inr #[hm,S.cells I.ok (x,.free) hm zj];show#[c,e1,sub x c e1]
 refine#[#[I.ok.mod,(S.kind),I.ok.glob,I.ok.blt,aA _,λx y c e1 e2=>?_,λx hx=>?_,λx c e=>?_,I.ok.hd,I.ok.frames,.inl zj,λb hb=>?_,I.bs,cw I.ok.rT I.sz,λb o e hb=>?_,λb hb=>?_,I.stack,I.U3],
  rfl,I.bare,Un.kept hk,#[_,((Heap.Ns.new s.heap<|.type "dict").keeps<|HY _ _),λj x v e1 e2 e3=>?_],λx c e=>?_,I.ay.fresh<|aA _,λx c e=>?_,λp hp=>absurd (hp) zg,I.ay.kept hk,?_]
 .rcases split x c e1 with q1|q1<;>rcases split y c e2 with q2|q2
  .show Xj ok.apart (nW q1)<|nW q2
  .show absurd (vh (own x c q1).1<|low y c<|sub y c q2)<|eZ _
  .show absurd (vh (own y c q2).1<|low x c<|sub x c q1)<|eZ _
  .show I.ok.inj x y c (sub x c q1)<|sub y c q2
 .rcases adz x hx with k|k
  .let#[c,e1,_]:=Z1 x k;show#[c,(far x k).trans e1]
  .let#[c,e1]:=oY k;refine#[c,?_];change (cellsFrom (s.heap.objs.size+1) scope.names<|eA X.env.cells scope.names []).lookup x=ae c;rw[iq,js,e1]
 .intro hl;rcases split x c hl with q|q
  .show kM (own x c q).1
  .show absurd (Ab S.nk (nW<|of_decide_eq_true e)<|Cj _ _ zg<|nW q) zc
 .let#[f,hl]:=Vt b hb;refine#[bN hl,λx c e=>?_];rcases split x c e with q|q
  .show yS<|vh hl (own x c q).1
  .show f.2.2.2.2.1 x c<|sub x c q
 .let#[f,_]:=Vt b hb;let#[_,_,_,f4,_]:=f;rcases f4 with z|z
  .show I.ok.xo b o e z
  .show absurd (dR (ba (I.ok.bs b o e).1) z)<|eZ _
 .let#[f,_]:=Vt b hb;intro hz;rcases a9.mp (I.xp b hz) with e|e
  .show f.2.1 e
  .show f.2.2.1 e
 .have hs:∃ i,src[j]?=ae (ae i) /\ σ[i]?=ae (ae v):=by
   have tJ:(src.map λo=>o.bind λi=>(σ[i]?).bind id)[j]?=ae (ae v):=e2;rw[nY]at tJ;cases q:src[j]? with
   |none=>rw[q]at tJ;cases tJ
   |some o=>
     rw[q]at tJ;cases o with
     |none=>cases tJ
     |some i=>
       refine#[i,rfl,?_];have Ki:(σ[i]?).bind id=ae v:=Option.some.inj tJ;cases z:σ[i]? with
       |none=>rw[z]at Ki;cases Ki
       |some o'=>
         rw[z]at Ki;have:o'=ae v:=Ki;rw[this]
  let#[i,adA,hσ]:=hs;let#[hN,nz]:=S.adx j i x adA e1;have Z2:=S.has (x,.free) (nW nz) zj;let#[m,_,hl]:=I.loc;let#[u,r,lk]:=hl i x v hN hσ<|.inr Z2;refine#[u,r,?_];rcases lk with⟨k,_⟩|⟨_,c,ec,IM⟩
  .rcases Z2 with z|z
   .rw[z]at k;cases k
   .rw[z]at k;cases k
  .let#[c',nN,tJ]:=Z1 x nz;have:c'=c:=by rw[ec]at tJ;show(Option.some.inj tJ).symm
   subst this;refine .inr #[(jr scope.names x nz),c',(far x nz).trans nN,?_]
   .let#[o,ho,hd]:=IM;show#[o,hk _ _ ho,hd]
 .rcases split x c e with q|q
  .show#[ah,(own x c q).2]
  .let#[v,o,ho,hd]:=I.cell x c<|sub x c q;show#[v,o,hk _ _ ho,hd]
 .rcases split x c e with q|q
  .show I.ay.fresh<|kM (own x c q).1
  .show I.nK x c<|sub x c q
 .change (uC src σ).length=N.length;unfold uC;rw[aX];show S.adw
theorem M5
 (hc:X.calm=ag) (S:tH X N src scope) (hi:PI X tg iter wi)
 (hg:∀ cl s H C fp,PG (X.comp N scope cl s H C fp) tg g) (hf:∀ cl s H C fp,PF (X.comp N scope cl s H C fp) ifs tf) (he:∀ cl s H C fp,PE (X.comp N scope cl s H C fp) elt te)
 (hs:∀ x,foldedSetIterable iter X.env x=pure x:=by intro _;rfl):PE X (.ListComp elt [#[tg,iter,ifs,0]] scope pos) (Kh src wi g tf te):=by
 intro pins s σ H Q I h;rw[eval_ListComp];refine Xq zj hs (Aa<|S.cells I.ok) S.kind S.names<|bP (hi pins s σ H _ I h) λxv s1 h1=>bP h1 λIQ s2 h2=>?_;let#[it,fp,tn,J,H2,e,I2,T,vF,f2,hW]:=h2;subst e;refine qg ?_;generalize hD:s2.heap.objs.size=D;have I3:Inv X pins σ (upd H2 D<|.lst []) { s2 with heap:=s2.heap.push { cls:=.type "list",dict:=ah,data:=.seq ([]).toArray } }:=by
  subst hD;show I2.laid (λb u e=>aR _ e) (aA _) #[di _,[],0,.nil,bC _ zj]
 let#[W,#[m0,w0],turn]:=hW D<|I2.ay.fresh<|ve hD;have up:∀ b o,s2.heap.get? b=ae o->(s2.heap.push { cls:=.type "list",dict:=ah,data:=.seq ([]).toArray }).get? b=ae o:=λb u e=>aR _ e;have uu:=T.keep _ _ _ vF λb _ o e=>up b o e;have Em:∀ b∈fp,b<s2.heap.objs.size:=λb hb=>by let#[o,e,_]:=(T.obj _ _ vF) b hb;show ba e
 have f3:∀ b∈fp,n9 X pins (upd H2 D<|.lst []) b:=λb hb=>#[by rw[fv (by rw[<-hD];show bN (Em b hb))];show(f2 b hb).1,(f2 b hb).2];generalize Vu:({ s2 with heap:=s2.heap.push { cls:=.type "list",dict:=ah,data:=.seq ([]).toArray } })=s3 at I3 ⊢;have En:s3.heap=s2.heap.push { cls:=.type "list",dict:=ah,data:=.seq ([]).toArray }:=by rw[<-Vu]
 rw[<-En]at uu;have Vv:∀ b∈fp,b<s3.heap.objs.size:=λb hb=>by rw[En,qB];show vi<|Em b hb
 generalize adB:upd H2 D (.lst [])=H3 at I3 f3 w0;refine Ac ?_;generalize Eo:pushCells (s3.heap.push { cls:=.type "dict",data:=.dict #[] }) scope.names=h₁;have k1:∀ b o,s3.heap.get? b=ae o->h₁.get? b=ae o:=λb o e=>by rw[<-Eo];show HY _ _ b o<|aR _ e
 have IY:=Ck S I3 (λb hb=>#[f3 b hb,Vv b hb]) (by rw[Eo]);have Ep:=T.keep _ _ _ uu λb _ o e=>k1 b o e;generalize xG:cellsFrom (s3.heap.objs.size+1) scope.names (eA X.env.cells scope.names [])=cl at IY ⊢;generalize hC:s3.heap.objs.size=C at IY ⊢;have vL:∀ {H'},(∀ b∈fp,H' b=ah)->∀ b∈fp,n9 (X.comp N scope cl s3 H3 C fp) [] H' b:=λhn b hb=>by
  refine#[hn b hb,((IY.ok.vC b hb).1),(IY.ok.vD b hb),.inl hb,?_,λp hp=>absurd (hp) zg]
  .intro x c e z;show(IY.ok.vC b hb).2 x c e z
 have fin:∀ (σ') (H') (s'),Inv (X.comp N scope cl s3 H3 C fp) [] σ' H' s'->∀ h',Heap.SameBut C s'.heap h'->Inv X pins σ H' { s' with heap:=h' }:=λσ' H' s' I' h' vM=>by
  have Er:H' C=ah:=I'.free;have kp:∀ b o,b≠C->s'.heap.get? b=ae o->h'.get? b=ae o:=λb o hb e=>vM.extBut b o hb e;have Vw:s3.heap.get? C=ah:=by rw[<-hC];show QL<|aA _
  have qp:∀ b o,s3.heap.get? b=ae o->b≠C:=λb o e z=>by rw[z,Vw]at e;cases e
  have U:=I'.base;refine I3.U6 I'.os #[λb o e n hb hx=>kp b o (qp b o e)<|U.keep b o e n hb hx,λb o e n hb hx=>?_,U.free,λb o e hx=>?_,U.kA,U.kP,U.nJ] ?_ I'.bare λb hb=>(#[(f3 b hb).2.2.2.1,(f3 b hb).2.1,λx c e=>(f3 b hb).2.2.2.2.1 x c e,(f3 b hb).2.2.2.2.2])
  .let#[sl,e1]:=U.slot b o e n hb hx;show#[sl,kp b _ (qp b o e) e1]
  .let#[o',e1]:=U.there b o e hx;show#[o',kp b o' (qp b o e) e1]
  .intro b ob e;refine(I'.ay b ob e).eK (λc w' dH q=>kp c w' (λz=>?_) q) (λ_ q=>q) λ_ _ q=>q;rcases dH with z1|z1
   .rw[<-z1,z,Er]at e;cases e
   .rw[z,Er]at z1;cases z1
 have loop:∀ s4:aI,s4={ s3 with heap:=h₁ } ->
  codeAny zd X.A (.compLoop (.ListComp elt [#[tg,iter,ifs,0]] scope pos) 0 (.ref it) (.ref D)<|compEnvC scope cl C X.env) (compPost zd X.A X.xe ah (EP X pins σ Q) (.ref D) C) s4:=by
  rintro s4 rfl;refine lX (λn s'=>∃ i σ' H',Inv (X.comp N scope cl s3 H3 C fp) [] σ' H' s' /\ tn i s'.heap /\ (∀ b∈fp,H' b=ah) /\ W i n σ' H') _ (λ_ _ _ q=>q) ?_ m0 #[0,_,H3,IY,Ep,λb hb=>(f3 b hb).1,w0];rintro n s5 ⟨i,σ5,H5,I5,tj,vG,w5⟩;have kh:∀ {α:Type}{t:Sem α}{Q1:α->aI->zk}{E1:au->aI->zk}{ss:aI},wpAny zd X.A t Q1 (λ_ _=>False) ss->wpAny zd X.A t Q1 E1 ss:=λhw=>eX hw (λ_ _ q=>q) λ_ _ z=>False.elim z;rcases turn i n σ5 H5 w5 with⟨stop,q5⟩|⟨go,NN,hN,step⟩
  .refine kh<|bP (T.done (X.comp N scope cl s3 H3 C fp) zj zj zj hc i [] s5 σ5 H5 (λ_ _=>False) I5 (vL vG) tj stop) ?_;rintro r s6 ⟨hr,I6⟩;subst hr;let#[m6,Vx,_]:=I6.loc;show#[m6,Vx,λh' vM=>#[.ref D,H5,fin σ5 H5 s6 I6 h' vM,rfl,q5]]
  .refine kh<|bP (T.item (X.comp N scope cl s3 H3 C fp) zj zj zj hc i [] s5 σ5 H5 (λ_ _=>False) I5 (vL vG) tj go) ?_;rintro r s6 ⟨u,hr,h6⟩;subst hr;refine kh<|bP h6 ?_;rintro _ s7 ⟨x,H7,I7,r7,y7,vN,Vy⟩;refine kh<|bP (hg cl s3 H3 C fp _ s7 σ5 H7 x u _ (I7.pinned (vL Vy)<|T.obj _ _ vN) r7<|step x H7 y7) ?_;rintro _ s8 ⟨σ8,H8,I8,q8⟩;refine kh<|xq (hf cl s3 H3 C fp _ s8 σ8 H8 _ I8 q8) λb s9 H9 I9 q9=>?_;have again:∀ {σ9:St}{HA:Hp}{sA:aI},Inv (X.comp N scope cl s3 H3 C fp) ([]++xu fp s7.heap) σ9 HA sA->NN σ9 HA->∃ m,m<n /\ ∃ i σ' H',Inv (X.comp N scope cl s3 H3 C fp) [] σ' H' sA /\ tn i sA.heap /\ (∀ b∈fp,H' b=ah) /\ W i m σ' H':=λ{σ9 HA sA} IA nA=>by
    let#[m',hm,wA]:=hN σ9 HA nA;refine#[m',hm,i+1,σ9,HA,IA.Eg,T.keep _ _ _ vN λb hb o e=>(IA.pin (b,o)<|k9 _<|k9 _<|ip hb e).1,λb hb=>?_,wA];let#[o,e,d]:=T.obj _ _ vN b hb;show(IA.pin (b,o)<|k9 _<|k9 _<|ip hb e).2.1
   cases b with
   |false=>
     rw[if_neg zc]at q9;rw[if_neg zc];show again I9 q9
   |true=>
     rw[if_pos rfl]at q9;rw[if_pos rfl];refine kh<|aV (he cl s3 H3 C fp _ s9 σ8 H9 _ I9 q9) λyv sA y HA IA rA hh=>?_;let#[ys,Vz,VA,nA]:=hh;refine kh<|bP (lg _ sA σ8 HA (.ref D) [y] (.ref D) [yv] (λ_ HB=>NN σ8 HB) IA zj (.cons rA .nil) #[D,ys,y,rfl,rfl,Vz,VA,nA]) λr sB hB=>?_;let#[_,HB,IB,_,nB]:=hB;show again IB nB
 show Xr (loop _ zj)<|T.self _ 0 _ _ _ Ep<|loop _ zj
open PySem.W PySem.Builtin PySem.Builtin.ObjectAttr PySem.Builtin.Getset_descriptor
section
variable {K:Frag}
def kE (x C:ai) (h:aK):zk:=∃ ox,h.get? x=ae ox /\ ox.cls=.ref C
theorem kE.type (I:kE x C h):Looks M h (typeOf<|.ref x) (.ref C):=by
 let#[ox,e,hc]:=I;show hc▸(Looks.ld e).andThen .now
theorem JJ (X:K.In h) (ha:findIn K (.ref C) name=ae (ae a)) (hg:specialIn K a "__get__"=ae (ae g)) (ht:takesIn K a=ae ag) :
 Looks M h (find (.ref x) (.ref C) name) (.bind g a):=by
 have l4:Looks M h (dataDescriptor? (ae a)<|ae g) _:=(looks_takesIn (M:=M) X ht).andThen .now;show(UK (M:=M) X ha).andThen ((looks_specialIn X hg).andThen<|l4.andThen<|Looks.tag .now)
theorem M6 (X:K.In s.heap) (I:kE x C s.heap) (hm:mroIn K C (.type "object")=ae ag) (q:R (.ok<|.ret<|.ref C) s) :
 codeAny zf A (.call (.builtin "getset_descriptor.__get__") #[[.builtin "object.__class__",.ref x,tp],[]]) R s:=by
 have l0:=I.type (M:=model prog w);refine Qw KF.slot_gs.plain KF.entry_gs
  (KF.slot_gs.check _ _ _ _ _ _ _ _ KF.type_class (KF.args_gs _ _ _) ?_)
 refine ak<|ax ?_;unfold descrGetter descrCheckInstance descrNameAndClass;erw[KF.owner_class]
 repeat (any_goals (first|assumption|with_reducible refine l0.at ?_|with_reducible refine(UL (M:=model prog w) X hm).at ?_|wp_step))
 refine#[UZ _ (by decide +kernel),vd KF.entry_class ?_];unfold Builtin.«object.__class__»;unfold shownTypeOf
 repeat (any_goals (first|assumption|with_reducible refine l0.at ?_|wp_step))
structure xH (K:Frag) (C:ai):zk where
 ga:findIn K (.ref C) "__getattribute__"=ae (ae<|.builtin "BaseException.__getattribute__")
 gt:findIn K (.ref C) "__getattr__"=ae ah
 cl:findIn K (.ref C) "__class__"=ae (ae<|.builtin "object.__class__")
 gs:specialIn K (.builtin "object.__class__") "__get__"=ae (ae<|.builtin "getset_descriptor.__get__")
 tk:takesIn K (.builtin "object.__class__")=ae ag
 mo:mroIn K C (.type "object")=ae ag
 mb:mroIn K C (.type "BaseException")=ae ag
 cd:(clsIn K C).isSome=ag
theorem JK {os}(T:xH K C) (X:K.In h) (I:kE x C h)
 (hq:Q () #[h,g,d,t,os]):wpAny M A (checkBuiltinCall "BaseException.__getattribute__" #[[.ref x,ag8],[]]) Q E #[h,g,d,t,os]:=by
 have hk:builtinKind "BaseException.__getattribute__"=ae .slot:=by decide +kernel
 have adC:splitId "BaseException.__getattribute__"=ae ("BaseException","__getattribute__"):=by decide +kernel
 have L0:=I.type (M:=M);have L1:=UL (M:=M) X T.mb;have LI:Looks M h (isInstance (.ref x)<|.type "BaseException") ag:=L0.andThen L1;erw[checkBuiltinCall,hk,adC];refine ak<|LI.at ?_
 repeat (any_goals (first|assumption|wp_step))
theorem JL {os}(T:xH K C) (X:K.In h) (I:kE x C h) (hq:Q (.done<|.ret<|.ref C) #[h,g,d,t,os]) :
 wpAny zf A (Builtin.«object.__getattribute__» #[[.ref x,.str "__class__" tk],[]]) Q E #[h,g,d,t,os]:=by
 refine ak<|ax ?_
 repeat (any_goals (first|assumption|with_reducible refine(I.type (M:=model prog w)).at ?_|with_reducible refine(JJ (x:=x) (M:=model prog w) X T.cl T.gs T.tk).at ?_|wp_step))
 refine M6 X I T.mo ?_
 repeat (any_goals (first|assumption|wp_step))
theorem Rh (T:xH K C) (X:K.In s.heap) (I:kE x C s.heap) (hq:Q (ae<|.ref C) { s with toks:=s.toks+1 }) :
 wpAny zf A (getAttr? (.ref x) "__class__") Q E s:=by
 have f3:=F.excAttr_ValueError.ga.bind<|.ref x;refine ak<|wpAny_mkText<|ak<|yO ?_
 repeat (any_goals (first|assumption|with_reducible refine(I.type (M:=model prog w)).at ?_|with_reducible refine(UK (M:=model prog w) X T.ga).at ?_|with_reducible refine(UK (M:=model prog w) X T.gt).at ?_|wp_step))
 refine(λT X I hq=>Qw F.excAttr_ValueError.ga.plain F.entry_bexc_ga<|JK T X I<|JL T X I hq) T X I ?_
 repeat (any_goals (first|assumption|wp_step))
theorem JM (T:xH K C):KitX K (.ref x) (.ref C) (kE x C) where
 ty:=λ_ _ _ I=>I.type
 it:=λ_ _ X _=>by
  let#[adD,tw]:=Option.isSome_iff_exists.mp T.cd;unfold clsIn at tw;split at tw
  .ext c' d' adE nu ho;intro A' Q' E' s' k q;show ak<|Xi (k _ _<|X _ _ ho)<|ax q
  .cases tw
 ne:=λh tp dd its n sl X adF=>by
  let#[adD,tw]:=Option.isSome_iff_exists.mp T.cd;refine Bool.eq_false_iff.mpr λq=>?_;have e:=Value.ref.inj<|beq_iff_eq.mp q;subst e;unfold clsIn at tw;split at tw
  .ext c' d' adE nu ho;cases ((X _ _ ho).symm.trans adF)
  .cases tw
 ca:=λX I k=>Rh T X I k
end
def tK (B:aK) (l:List Env) (ea:ai) (cls a0:au) (h:aK):zk:=
 Heap.FlyingW B l ea cls a0 h \/ (B.StaysIn h /\ B.get? ea=ah /\ h.FunFrames B l /\
  h.get? ea=ae { cls:=cls,data:=.fields (List.toArray [a0,.none,.none,.none,.bool af,.none]) })
theorem tK.stays (x:tK B l ea cls a0 h):B.StaysIn h:=x.elim (λz=>z.1) λz=>z.1
theorem tK.VB (x:tK B l ea cls a0 h):B.get? ea=ah:=x.elim (λz=>z.2.1) λz=>z.2.1

theorem JN (nz:A.frames=ae (env::outer)) (hf:env.frame=ae L) (hx:tK B (env::outer) ea cls a0 s.heap)
 (q:∀ h',tK B outer ea cls a0 h'->s.heap.UpToSlots h'->Q () { s with heap:=h' }):wpAny M A (leaving env<|.ref ea) Q E s:=by
 rcases hx with hx|⟨x1,x2,x3,x4⟩
 .show wpAny_leaves_onW nz hf hx λh' y1 y2=>q h' (.inl y1) y2
 .refine wpAny_leaving_firstW nz x3 hf x4 x1 x2 zj zj zj λh' y=>?_;let#[k1,#[_,_,k2],k3,k4]:=y;show q h' (.inl #[k1,x2,k2,k3]) k4
theorem M7 (nz:A.frames=ae (env::outer)) (hf:env.frame=ae L) (hx:tK B (env::outer) ea cls a0 s.heap)
 (q:∀ h',Heap.HeldW B (env::outer) ea cls a0 L h'->s.heap.UpToSlots h'->Q () { s with heap:=h' }):wpAny M A (noteFrame (.ref ea) env) Q E s:=by
 rcases hx with hx|⟨x1,x2,x3,x4⟩
 .show wpAny_looks_onW nz hf hx q
 .unfold noteFrame;simp[hf];refine ak<|kL x4 zj zj ?_;refine wpAny_entryW nz x3 hf x4 x1 x2 zj (by change 1<6;decide) (by rfl) λh' y=>?_;let#[k1,k2,k3,k4]:=y;show q h' #[k1,x2,k2,k3] k4
def dq (P:cT) (w:cj):uv:=λouter H s E e s'=>∃ (ea C:ai) (a0:au) (B:aK) (H':Hp),
 e=.ref ea /\ s'.os=s.os /\ AllBare s'.gens /\ Un (hZ outer) [] H H' s.heap s'.heap /\ cu P w H' s'.heap /\ tK B outer ea (.ref C) a0 s'.heap /\
 (∀ b u o,H' b=ae u->s'.heap.get? b=ae o->B.get? b=ae o) /\ (∀ b o,s.heap.get? b=ae o->b∉hZ outer->∃ o',B.get? b=ae o') /\ E (.ref C) ah H'
def XE (X:Cx) (E:XK) (e:au) (s':aI):zk:=∃ (σ':St) (H':Hp) (ea C:ai) (a0:au) (B:aK),
 e=.ref ea /\ Inv X [] σ' H' s' /\ tK B X.stack ea (.ref C) a0 s'.heap /\ (∀ b u o,H' b=ae u->s'.heap.get? b=ae o->B.get? b=ae o) /\
 (∀ p∈X.pn,B.get? p.1=ae p.2) /\ (∀ b o,X.s₀.heap.get? b=ae o->b∉X.fs->b∉X.ex->∃ o',B.get? b=ae o') /\ E (.ref C) ah H'
def uD (X:Cx) (E:XK):zk:=∀ e s',XE X E e s'->X.xe e s'

theorem Dp {B:aK}(I:Inv X pins σ H' s') (u:s'.heap.UpToSlots h) (st:B.StaysIn s'.heap) (sh:B.StaysIn h)
 (old:∀ b o,X.s₀.heap.get? b=ae o->b∉X.fs->b∉X.ex->∃ o',B.get? b=ae o'):Un X.fs X.ex X.H₀ H' X.s₀.heap h where
 keep:=λb o e n hb hx=>by
  let#[o',q]:=old b o e hb hx;have q2:=st b o' q;rw[(I.base.keep b o e n hb hx)]at q2;cases q2;show sh b _ q
 slot:=λb o e n hb hx=>by
  let#[sl,q1]:=I.base.slot b o e n hb hx;let#[_,adG,q2,d]:=I.ok.kQ.mem hb;rw[e]at q2;cases q2;let#[nu,q3]:=u b _ q1 d;show#[nu,q3]
 free:=I.base.free
 there:=λb o e hx=>by
  by_cases hb:b∈X.fs
  .let#[sl,q1]:=I.base.slot b o e (I.ok.qI b hb) hb hx;let#[_,adG,q2,d]:=I.ok.kQ.mem hb;rw[e]at q2;cases q2;let#[nu,q3]:=u b _ q1 d;show#[_,q3]
  .let#[o',q]:=old b o e hb hx;show#[o',sh b o' q]
 kA:=I.base.kA
 kP:=I.base.kP
 nJ:=I.base.nJ
theorem Fb {B:aK}(k:cu P w H' h) (sh:B.StaysIn h') (tr:∀ b u o,H' b=ae u->h.get? b=ae o->B.get? b=ae o):cu P w H' h':=λa o e=>
 (k a o e).eK (λb u hb q=>sh b u<|hb.elim (λz=>tr b o u (z▸e) q) λz=>tr b _ u z q) (λ_ q=>q) λ_ _ q=>q
theorem Fc {B:aK}(I:Inv X [] σ H' s') (u:s'.heap.UpToSlots h) (st:B.StaysIn s'.heap) (sh:B.StaysIn h)
 (tr:∀ b u o,H' b=ae u->s'.heap.get? b=ae o->B.get? b=ae o) (pn:∀ p∈X.pn,B.get? p.1=ae p.2)
 (old:∀ b o,X.s₀.heap.get? b=ae o->b∉X.fs->b∉X.ex->∃ o',B.get? b=ae o'):Inv X [] σ H' { s' with heap:=h }:=by
 have cellK:∀ c v,s'.heap.IsCell c v->h.IsCell c v:=λc v ⟨o,e,d⟩=>by
  let#[sl,q]:=u c o e (λvs z=>by rw[d]at z;cases z);show#[_,q,d]
 refine#[I.ok,I.os,I.bare,Dp I u st sh old,?_,λx c e=>?_,I.free,I.nK,λp hp=>?_,Fb I.ay sh tr,I.len]
 .let#[m,hn,hl]:=I.loc;refine#[m,u.ns hn,λi x v e1 e2 e3=>?_];let#[w',r,l]:=hl i x v e1 e2 e3;refine#[w',r,?_];rcases l with l|⟨k,c,e,z⟩
  .show .inl l
  .show .inr #[k,c,e,cellK c _ z]
 .let#[v,z]:=I.cell x c e;show#[v,cellK c v z]
 .let#[e,n,r]:=I.pin p hp;rw[rN]at hp;show#[sh _ _<|pn p hp,n,r]
theorem Inv.Z3 (I:Inv X pins σ H s):Inv X [] σ H s:=I.U4 λp hp=>absurd hp zg
theorem uD.passes (l:uD X E):Passes (dq X.prog X.w) X E:=by
 intro pins σ H s e s' I h;let#[ea,C,a0,B,H',he,os,bare,un,ay,ex,tr,old,q]:=h;have VC:∀ b,b≠X.env.locals->b∉X.fs->b∉hZ X.stack:=λb h1 h2 z=>by
  rcases a9.mp (I.xp b z) with y|y
  .show h1 y
  .show h2 y
 refine l e s' #[σ,H',ea,C,a0,B,he,(I.U6 os un ay bare λb z=>absurd z zg).Z3,ex,tr,λp hp=>?_,λb o e hb hx=>?_,q]
 .let#[e1,n1,n2,n3,_]:=I.pin p<|nX _ hp;let#[o',q1]:=old p.1 p.2 e1<|VC _ n2 n3;have q3:=ex.stays _ _ q1;rw[(un.keep p.1 p.2 e1 n1 (VC _ n2 n3) zg)]at q3;cases q3;show q1
 .let#[o1,e1]:=I.base.there b o e hx;show old b o1 e1<|VC b (bN<|dR (ba e) I.ok.above) hb
theorem Cn {K} :
 uD (qr (dq P w) P w K mg base N qual scope f cd A outer s H E) E:=by
 intro e s' h;let#[σ',H',ea,C,a0,B,he,I,ex,tr,pn,old,q]:=h;subst he;refine JN I.ok.frames zj ex λh' y1 y2=>?_;refine#[ea,C,a0,B,H',rfl,I.os,I.bare,Dp I y2 ex.stays y1.stays old,Fb I.ay y1.stays tr,y1,λb u o e1 e2=>?_,λb o e1 e2=>old b o e1 e2 (by intro z;show absurd (show b∈([]) from z) zg),q];obtain⟨o1,q1⟩:∃ o1,s'.heap.get? b=ae o1:=by
  rcases(I.ay b u e1) with _;cases z:s'.heap.get? b with
  |some o1=>show#[o1,rfl]
  |none=>
    exfalso
    have k:=I.ay b u e1;cases u with
    |lst xs=>let#[_,_,_,_,e]:=k;rw[z]at e;cases e
    |tup xs=>let#[_,_,_,ob,e,_]:=k;rw[z]at e;cases e
    |dK ao=>let#[_,_,_,_,o,_,_,e,_]:=k;rw[z]at e;cases e
    |dT ao=>let#[_,_,_,_,o,_,_,e,_]:=k;rw[z]at e;cases e
    |set S n=>let#[o,_,_,_,e,_]:=k;rw[z]at e;cases e
    |ins C dx fs=>let#[_,_,_,e,_]:=k;rw[z]at e;cases e
    |own y=>let#[_,e]:=k;rw[z]at e;cases e
    |xd fs=>let#[_,#[_,_,_,e,_],_]:=k;rw[z]at e;cases e
    |xj lo hi=>let#[_,_,_,e]:=k;rw[z]at e;cases e
    |bA ob u=>let#[e,_]:=k;rw[z]at e;cases e
    |qD ps=>have e:s'.heap.get? b=ae _:=k;rw[z]at e;cases e
    |met f y=>have e:s'.heap.get? b=ae _:=k;rw[z]at e;cases e
    |ext φ=>let#[_,#[_,e],_]:=k;rw[z]at e;cases e
 have q2:=tr b u o1 e1 q1;have q3:=y1.stays b o1 q2;rw[e2]at q3;cases q3;show q2
noncomputable abbrev VD:List au:=[.type "ValueError",.type "Exception",.type "BaseException",.type "object"]
theorem M8 {K:Frag}(X:K.In h) (q:excIn K C adH adI=ag) :
 ∃ bm N nm qn bs hd sn sub ab col dd k0 k1 k2 k3 k5 mN,h.get? C=ae (excClassObj nm qn C N bs bm hd sn sub ab col dd k0 k1 k2 k3 k5 adI) /\ h.Ns N mN /\ mN "__init__"=ah /\ OwnTail h adH bm:=by
 unfold excIn at q;split at q
 .ext dd cd sl ho;split at q
  .ext C1 bm k0 k1 k2 k3 nw k5 mr hs;simp[aH,beq_iff_eq,kN]at q;let#[#[#[#[#[rfl,rfl],z1],z2],z3],z4]:=q;let#[nm,bs,mro,ns,qn,hd,sn,sub,ab,col,del]:=cd;subst mr z1;have es:sl=(List.toArray [k0,k1,k2,k3,ae<|.builtin nw,k5]):=by
    cases sl;show congrArg Array.mk hs
   subst es;show#[bm,ns,nm,qn,bs,hd,sn,sub,ab,col,dd,k0,k1,k2,k3,k5,_,X _ _ ho,
    .of_isNs (isNs_of_in X z3),nsMap_none_of_in X z3 z4,tail_of_in X z2]
  .cases q
 .cases q

theorem M9 (l:uD X E) (I:Inv X pins σ H s) (m:Heap.MadeExcOf s.heap h' ea (.ref C) vs) (q:E (.ref C) ah H) :
 X.xe (.ref ea) { s with heap:=h' }:=by
 let#[t,e1,e2,e3]:=m.there;have fr:h'.FunFrames (hideAll s.heap<|hZ X.stack) X.stack:=(funFrames_hide I.stack λenv he b hb=>List.mem_filterMap.mpr #[env,he,hb]).of_keeps λb o e _=>#[o,m.keeps b o e,rfl];have nh:∀ b o,s.heap.get? b=ae o->b∉hZ X.stack->(hideAll s.heap<|hZ X.stack).get? b=ae o:=λb o e hb=>hideAll_get _ e hb;refine l _ _ #[σ,H,ea,C,.ref t,hideAll s.heap<|hZ X.stack,rfl,(I.kept m.keeps).Z3,.inr #[λb o e=>m.keeps b o<|of_hideAll _ e,?_,fr,e1],λb u o eb eo=>?_,λp hp=>?_,λb o e hb hx=>?_,q]
 .cases z:(hideAll s.heap<|hZ X.stack).get? ea with
  |none=>rfl
  |some o=>have:=of_hideAll _ z;rw[m.new]at this;cases this
 .cases z:s.heap.get? b with
  |some o1=>
    have:=m.keeps b o1 z;rw[this]at eo;cases eo;show nh b _ z (λz=>by rw[I.U3 b z]at eb;cases eb)
  |none=>show absurd ((I.ay b u eb).lt) (by intro hl;show absurd z (by
   intro z';have k:=I.ay b u eb;cases u with
   |lst xs=>let#[_,_,_,_,e]:=k;rw[z]at e;cases e
   |tup xs=>let#[_,_,_,ob,e,_]:=k;rw[z]at e;cases e
   |dK ao=>let#[_,_,_,_,o,_,_,e,_]:=k;rw[z]at e;cases e
   |dT ao=>let#[_,_,_,_,o,_,_,e,_]:=k;rw[z]at e;cases e
   |set S n=>let#[o,_,_,_,e,_]:=k;rw[z]at e;cases e
   |ins C dx fs=>let#[_,_,_,e,_]:=k;rw[z]at e;cases e
   |own y=>let#[_,e]:=k;rw[z]at e;cases e
   |xd fs=>let#[_,#[_,_,_,e,_],_]:=k;rw[z]at e;cases e
   |xj lo hi=>let#[_,_,_,e]:=k;rw[z]at e;cases e
   |bA ob u=>let#[e,_]:=k;rw[z]at e;cases e
   |qD ps=>have e:s.heap.get? b=ae _:=k;rw[z]at e;cases e
   |met f y=>have e:s.heap.get? b=ae _:=k;rw[z]at e;cases e
   |ext φ=>let#[_,#[_,e],_]:=k;rw[z]at e;cases e))
 .let#[e1,n1,n2,n3,_]:=I.pin p<|nX _ hp;show nh _ _ e1 λz=>(a9.mp<|I.xp p.1 z).elim n2 n3
 .let#[o1,q1]:=I.base.there b o e hx;show#[o1,nh b o1 q1 λz=>(a9.mp<|I.xp b z).elim (bN<|dR (ba e) I.ok.above) hb]
theorem JO (hc:X.calm=ag) (l:uD X E) (hg:Gl X x) (hm:X.mg x=ae (.ref C)) (q:excIn X.K C VD "ValueError.__new__"=ag) (he:PE X e te)
 (hs:starEach [e] X.env=[(af,eval e X.env)]:=by rfl) (hd:(x==("__debug__"))=af:=by decide) :
 PS X (.Raise (ae<|.Call (.Name x np) [e] [] dI) ah pos) (λ_ σ H=>te σ H λv H1=>[v].length=1 /\ E (.ref C) ah H1):=by
 intro pins s σ H D I h;let#[bm,N,nm,qn,bs,Es,sn,sub,ab,col,dd,k0,k1,k2,k3,k5,mN,hC,hN,adJ,T]:=M8 I.mod.uk q;refine wpAny_Raise_call_subT (C:=C) (nm:=nm) (q:=qn) (N:=N) (bs:=bs) (hdct:=Es) (sn:=sn) (sub:=sub) (ab:=ab) (col:=col) (dd:=dd)
  (k0:=k0) (k1:=k1) (k2:=k2) (k3:=k3) (k5:=k5) PySem.F.excBase_ValueError (T.hasType PySem.F.excBase_ValueError.hasBase) (I.ok.hd hc) (by rw[hs];rfl) adJ ?_
 refine aV (gq (v:=.ref C) (pos:=np) hg hm zj hd pins s σ H (λv H1=>v=.ref C /\ H1=H) I #[rfl,rfl]) λf s1 v H1 I1 r1 hh=>?_;let#[e1,e2]:=hh;subst e1;subst e2;refine#[r1,?_];rw[hs];refine UO ?_;have hA:=(fA he fR (by rw[hs];rfl)) dI pins s1 σ H1 (λvs H2=>vs.length=1 /\ E (.ref C) ah H2) I1 h;rw[hs]at hA;refine nv hA λus s2 vs H2 I2 r2 hh=>?_;let#[e3,q2]:=hh;refine#[rfl,?_,I2.bk _ _ hC,hN.keeps I2.bk,T.keeps I2.bk,λh' ea m=>M9 l I2 m q2];rw[<-r2.length,e3];decide
theorem Gy {K}(X:K.In s.heap) (I:kE ea C s.heap)
 (hk:kitCls K (.ref C) (.ref R)=ae ag) (hb:mroIn K R (.type "BaseException")=ae ag) (q:Q ag s):wpAny M A (excMatches (.ref ea)<|.ref R) Q E s:=by
 let#[l1,l2,l3]:=kit_cls X hk;have f:=tc_notTuple
 repeat (any_goals (first|assumption|with_reducible refine l1.at ?_|with_reducible refine l2.at ?_|with_reducible refine l3.at ?_|with_reducible refine(UL (M:=M) X hb).at ?_|with_reducible refine(I.type (M:=M)).at ?_|wp_step))
section
variable {X:Cx}
noncomputable abbrev Cx.qP (X:Cx) (pn:List<|ai×Obj) (E:XK):Cx:={ X with pn:=pn,xe:=XE { X with pn:=pn } E }
noncomputable abbrev Cx.hand (X:Cx) (pn:List<|ai×Obj) (ea:ai):Cx:={ X with pn:=pn,A:=X.A.mark (ae<|.ref ea),calm:=af,xe:=λ_ _=>False }
theorem Inv.turn (I:Inv X pins σ H s) (hp:∀ p∈Y.pn++Ed,p∈X.pn++pins) (hf:Y.A.frames=ae Y.stack) (hd:Y.calm=ag->Y.A.handled=ah)
 (h1:Y.prog=X.prog:=by rfl) (h2:Y.w=X.w:=by rfl) (h3:Y.K=X.K:=by rfl) (h4:Y.mg=X.mg:=by rfl) (h5:Y.base=X.base:=by rfl) (h6:Y.N=X.N:=by rfl) (h7:Y.s₀=X.s₀:=by rfl) (h8:Y.H₀=X.H₀:=by rfl) (h9:Y.env=X.env:=by rfl)
 (ha:Y.outer=X.outer:=by rfl) (hb:Y.stack=X.stack:=by rfl) (hc:Y.ex=X.ex:=by rfl) (he:Y.fn=X.fn:=by rfl):Inv Y Ed σ H s:=by
 let#[yp,yw,yK,ag9,aha,yA,yN,ahb,ahc,ahd,ahe,ahf,ahg,ahh,ahi,ahj,ahk]:=Y;dsimp only at h1 h2 h3 h4 h5 h6 h7 h8 h9 ha hb hc he hp hf hd;subst h1 h2 h3 h4 h5 h6 h7 h8 h9 ha hb hc he;show#[#[I.ok.mod,I.ok.kind,I.ok.glob,I.ok.blt,I.ok.above,I.ok.inj,I.ok.has,I.ok.xn,hd,hf,I.ok.Ec,I.ok.vC,I.ok.bs,I.ok.rT,I.ok.xo,I.ok.vD,I.ok.kQ,I.ok.qI],
  I.os,I.bare,I.base,I.loc,I.cell,I.free,I.nK,λp q=>I.pin p<|hp p q,I.ay,I.len]
theorem A5:uD (X.qP pn E) E:=by
 intro e s' h;let#[σ',H',ea,C,a0,B,he,I,ex,tr,hp,old,q]:=h;show#[σ',H',ea,C,a0,B,he,I.turn (λp z=>z) I.ok.frames I.ok.hd,ex,tr,hp,old,q]
theorem SP.turn (k:∀ σ H,Inv X pins σ H s'->Inv Y Ed σ H s') (h:SP X pins D f s'):SP Y Ed D f s':=by
 cases f with
 |ret u=>let#[v,σ',H',I,r,q]:=h;show#[v,σ',H',k _ _ I,r,q]
 |_=>let#[σ',H',I,q]:=h;show#[σ',H',k _ _ I,q]
theorem Inv.watch (I:Inv X pins σ H s) (hn:H a=ah) (hL:a≠X.env.locals) (hC:∀ x c,X.env.cells.lookup x=ae c->c≠a)
 (hp:∀ p∈X.pn++pins,p.1≠a) (ho:∀ b o,X.s₀.heap.get? b=ae o->b∉X.ex->b≠a) (new:cq X.prog X.w (upd H a<|.ext φ) s.heap a<|.ext φ):Inv X pins σ (upd H a<|.ext φ) s:=by
 have ne:∀ b u,H b=ae u->b≠a:=λb u e z=>by rw[z,hn]at e;cases e
 refine#[I.ok,I.os,I.bare,#[I.base.keep,I.base.slot,λb o e n hx=>?_,I.base.there,λb xs e=>?_,λb o u e=>?_,λb ps e=>?_],I.loc,I.cell,?_,λx c e=>?_,λp q=>?_,λb o e=>?_,I.len]
 .rw[fv<|ho b o e hx];show I.base.free b o e n hx
 .have z:=I.base.kA b xs e;rw[fv<|ne b _ z];show z
 .have z:=I.base.kP b o u e;rw[fv<|ne b _ z];show z
 .let#[more,z]:=I.base.nJ b ps e;show#[more,by rw[fv<|ne b _ z];show z]
 .rw[fv hL.symm];show I.free
 .rw[fv<|hC x c e];show I.nK x c e
 .let#[q1,q2,q3]:=I.pin p q;show#[q1,by rw[fv<|hp p q];show q2,q3]
 .by_cases hb:b=a
  .subst hb;rw[fu]at e;cases e;show new
  .rw[fv hb]at e;show(I.ay b o e).eK (λ_ _ _ z=>z) (λc z=>by rw[fv<|ne c _ z];show z) λc xs z=>by rw[fv<|ne c _ z];show z
theorem Inv.gone (I:Inv X pins σ H s) (hN:X.N.Nodup) (hi:X.N[i]?=ae n)
 (hm:∀ (j:Nat) (x) (v),X.N[j]?=ae x->σ[j]?=ae (ae v)->qH X.env.scope x->∃ u,RelV v u /\ Look X.env s.heap m x u)
 (hn:h'.Ns X.env.locals λx=>if x=n then v else m x) (sb:Heap.SameBut X.env.locals s.heap h'):Inv X pins (σ.set i ah) H { s with heap:=h',toks:=t' }:=by
 have kp:=λb o hb e=>sb.extBut b o hb e;have old:∀ b o,X.s₀.heap.get? b=ae o->b≠X.env.locals:=λb o e=>bN<|dR (ba e) I.ok.above;refine#[I.ok,I.os,I.bare,#[λb o e n hb hx=>kp b o (old b o e)<|I.base.keep b o e n hb hx,λb o e n hb hx=>?_,I.base.free,λb o e hx=>?_,I.base.kA,I.base.kP,I.base.nJ],#[_,hn,λj x w e1 e2 e3=>?_],λx c e=>?_,I.free,I.nK,λp q=>?_,λb o e=>?_,by rw[qC];show I.len]
 .let#[sl,q]:=I.base.slot b o e n hb hx;show#[sl,kp b _ (old b o e) q]
 .let#[o',q]:=I.base.there b o e hx;show#[o',kp b _ (old b o e) q]
 .by_cases hj:j=i
  .subst hj;by_cases hl:j<σ.length
   .rw[pI hl]at e2;cases e2
   .rw[rO (by rw[qC];lia)]at e2;cases e2
  .rw[rM<|Ne.symm hj]at e2;let#[u,r,l]:=hm j x w e1 e2 e3;refine#[u,r,?_];rcases l with⟨k,e⟩|⟨k,c,e,z⟩
   .refine .inl #[k,?_];have:x≠n:=λq=>hj<|oU hN e1<|q▸hi;change (if x=n then v else m x)=ae u;rw[if_neg this];show e
   .let#[o,eo,d]:=z;show .inr #[k,c,e,o,kp c o (I.sX x c e) eo,d]
 .let#[w,o,eo,d]:=I.cell x c e;show#[w,o,kp c o (I.sX x c e) eo,d]
 .let#[q1,q2,q3,q4]:=I.pin p q;show#[kp _ _ q3 q1,q2,q3,q4]
 .refine(I.ay b o e).eK (λc w hc q=>kp c w (λz=>?_) q) (λ_ q=>q) λ_ _ q=>q;rcases hc with z1|z1
  .rw[<-z1,z,I.free]at e;cases e
  .rw[z,I.free]at z1;cases z1
noncomputable def Z4 (i:Nat) (D:Ends):Ends:={ nx:=λσ H=>D.nx (σ.set i ah) H,rt:=D.rt,bk:=λσ H=>D.bk (σ.set i ah) H,ct:=λσ H=>D.ct (σ.set i ah) H }
def adK (K:Frag) (len:Nat) (Ra:ai) (i:Nat) (E:XK) (tb ts:TS):TS:=λD σ H=>tb D σ H /\ ∀ (σ':St) (ea C) (H'),σ'.length=len->E (.ref C) ah H'->H' ea=ah ->
 kitCls K (.ref C) (.ref Ra)=ae ag /\ ts (Z4 i D) (σ'.set i<|ae<|.ref ea) (upd H' ea<|.ext (kE ea C))
theorem Ri (n8:X.stack=X.env::X.outer) (nz:X.env.frame=ae L) (Kj:L=X.env.locals)
 (hg:Gl X R) (hm:X.mg R=ae (.ref Ra)) (adL:mroIn X.K Ra (.type "BaseException")=ae ag) (hN:X.N.Nodup) (hi:X.N[i]?=ae n) (hn:X.env.kindOf n=ae .local)
 (hb:∀ pn,cX (X.qP pn E) body tb) (adM:∀ pn ea,cX (X.hand pn ea) (b₀::adN) ts) (hd:(R==("__debug__"))=af:=by decide) :
 PS X (.Try body [.ExceptHandler (ae<|.Name R rp) (ae n) (b₀::adN) Et] [] [] pos) (adK X.K X.N.length Ra i E tb ts):=by
 intro pins s σ H D I ⟨h1,h2⟩;have I0:Inv (X.qP (X.pn++pins) E) [] σ H s:=I.turn (λp z=>by simpa using z) I.ok.frames I.ok.hd;have back:∀ {Y} (s') (σ') (H'),Y=X.qP (X.pn++pins) E->Inv Y [] σ' H' s'->Inv X pins σ' H' s':=λ{Y} s' σ' H' e J=>by
  subst e;show J.turn (λp z=>by simpa using z) I.ok.frames I.ok.hd
 refine wpAny_Try_except<|eX (hb _ [] s σ H D I0 h1) (λf s1 q=>?_) λe s1 q=>?_
 .have q':=q.turn λσ' H' J=>back s1 σ' H' zj J;cases f with
  |next=>show HS q'
  |ret u=>show q'
  |_=>show q'
 .let#[σ1,H1,ea,C,a0,B,he,I1,ex,tr,VE,old,hE]:=q;subst he;have kh:∀ {α}{t}{A1}{Q1:α->aI->zk}{E1}{ss},wpAny zd A1 t Q1 (λ_ _=>False) ss->wpAny zd A1 t Q1 E1 ss:=λhw=>eX hw (λ_ _ q=>q) λ_ _ z=>False.elim z;refine M7 (by rw[<-n8];show I.ok.frames) nz (by rw[<-n8];show ex) λh4 hh u4=>?_;refine wpAny_landsW hh λh5 VF u5=>?_;have Z5:Inv (X.hand (X.pn++pins) ea) [] σ1 H1 { s1 with heap:=h5 }:=(Fc I1 (u4.trans u5) ex.stays VF.1 tr VE old).turn (λp z=>z) I.ok.frames λz=>nomatch z;have Kk:H1 ea=ah:=by
   cases z:H1 ea with
   |none=>rfl
   |some u=>
     let#[o,eo,_]:=ex.elim (λy=>y.there) λy=>#[_,y.2.2.2,rfl];have:=tr ea u o z eo;rw[ex.VB]at this;cases this
  let#[hk,adO]:=h2 σ1 ea C H1 I1.len hE Kk;refine wpAny_handleBy_cons (codeAny_handlers_test<|kh ?_) (by intro z;cases z);refine lR Z5 hg hm ?_ hd;let#[o5,adP,adQ]:=VF.there;refine Gy Z5.cK #[o5,adP,adQ] hk adL ?_;refine codeAny_handlers_suite_as<|lands_againW VF λh6 VG u6=>?_;have u:=(u4.trans u5).trans u6;have VH:Inv (X.hand (X.pn++pins) ea) [] σ1 H1 { s1 with heap:=h6 }:=(Fc I1 u ex.stays VG.1 tr VE old).turn (λp z=>z) I.ok.frames λz=>nomatch z;let#[oe,vs,Eu,IK,VI,_]:=VG.first;have I7:Inv (X.hand (X.pn++pins) ea) [] σ1 (upd H1 ea<|.ext (kE ea C)) { s1 with heap:=h6 }:=by
   refine VH.watch Kk (λz=>?_) (λx c e z=>?_) (λp q z=>?_) (λb o e hx z=>?_) #[#[oe,Eu,IK],#[oe,Eu],λg1 g2 ⟨o,e1,e2⟩ k=>#[o,k o e1,e2]]
   .let#[m,#[o,es,ep,e1,e2,_],_]:=VH.loc;have nN:h6.get? ea=ae o:=by rw[z];show e1
    rw[Eu]at nN;cases nN;rw[VI]at e2;cases e2
   .let#[v,o,e1,e2]:=VH.cell x c e;have nN:h6.get? ea=ae o:=by rw[<-z];show e1
    rw[Eu]at nN;cases nN;rw[VI]at e2;cases e2
   .have:=VE p (by simpa using q);rw[z,ex.VB]at this;cases this
   .subst z;by_cases hf:b∈X.fs
    .let#[sl,q1]:=(Dp I1 u ex.stays VG.1 old).slot b o e (I.ok.qI b hf) hf hx;let#[_,o2,q2,d]:=I.ok.kQ.mem hf;rw[e]at q2;cases q2;rw[Eu]at q1;have q3:oe.data=o.data:=by cases q1;rfl
     show d vs (by rw[<-q3];show VI)
    .let#[o',q1]:=old b o e hf hx;rw[ex.VB]at q1;cases q1
  refine kh<|jP (X:=X.hand (X.pn++pins) ea) I7 hN hi (.inl hn) (v:=.ref ea) zj (λs8 I8=>?_)<|.inr hn;refine kh<|bP (adM _ ea [] s8 _ _ (Z4 i D) I8 adO) λf s9 q9=>?_
  have fin:∀ (σ9:St) (H9:Hp) (Z:Flow->aI->zk),Inv (X.hand (X.pn++pins) ea) [] σ9 H9 s9->(∀ sA,Inv X pins (σ9.set i ah) H9 sA->Z f sA) ->
   wpAny zd X.A (do bindName X.env n .none;unbindBehindTheSuite X.env n Et) (λ_ sA=>Z f sA) X.xe s9:=λσ9 H9 Z I9 k=>by
   have Z6:Inv X pins σ9 H9 s9:=I9.turn (λp z=>by simpa using z) I.ok.frames I.ok.hd;let#[m,adR,adS]:=Z6.loc;show wpAny_nameGoes_keeps hn adR (by rw[I.ok.kind];rfl) λh' v sY sb=>k _<|Z6.gone hN hi adS sY sb
  change wpAny zd X.A (do bindName X.env n .none;unbindBehindTheSuite X.env n Et) (λ_ sA=>SP X pins D f sA) X.xe s9;cases f with
  |ret u=>let#[v,σ9,H9,I9,r,q]:=q9;show fin σ9 H9 (SP X pins D) I9 λsA IA=>#[v,_,_,IA,r,q]
  |_=>let#[σ9,H9,I9,q]:=q9;show fin σ9 H9 (SP X pins D) I9 λsA IA=>#[_,_,IA,q]
end
structure pS (k:Nat) (A:dj):zk where
 dp:A.depth+3*k+5<recursionLimit
 un:A.units+16*k+200<cLine
theorem bI.h (r:bI k A):pS k A:=#[r.dp,r.un]
theorem pS.mark (r:pS k A):pS k (A.mark e):=#[r.dp,r.un]
theorem pS.deeper (r:pS (k+1) A) (env):pS k (A.deeper env):=
 #[by have:=r.dp;change A.depth+1+3*k+5<_;lia,by have:=r.un;change A.units+3+16*k+200<_;lia]
theorem pS.depth (r:pS k A):A.depth<recursionLimit:=by have:=r.dp;lia
structure Ew (P:cT) (w:cj) (K:PySem.W.Frag) (mg:Str->Option au) (base:aK) (CX:uv) (k:Nat) (f:ai) (fd:FuncData) (ps:List Str) (sp:Sp):zk where
 len:∀ vs H Q E,sp vs H Q E->vs.length=ps.length
 run:∀ (A:dj) (outer:List Env) (s:aI) (H:Hp) (args:Args) (us:List au) (vs:List V) (Q:VK) (E:XK),pS k A->uw P w K mg base A outer s H->BindsTo s fd args (ps.zip us)->Vals vs us->sp vs H Q E ->
  codeAny (model P w) A (.call (.ref f) args) (CR CX outer P w H s Q E) s
abbrev Kl (CX:uv) (P:cT) (w:cj) (K:PySem.W.Frag) (mg:Str->Option au) (base:aK) (N:List Str) (qual:Str) (scope:kz) (f:ai) (cd:au) (A:dj) (outer:List Env) (s:aI) (H:Hp) (E:XK):Cx:=
 { qr CX P w K mg base N qual scope f cd A outer s H E with calm:=af }
theorem Rj {K:PySem.W.Frag}{kV}(lk:K.lookup f=ae #[oc,od,.func<|PySem.W.fnOf name qual params body scope dV kV doc pm an cdv ct,pO]) (dn:PySem.W.codeIn K cdv qual=ag) (S:qL N ps scope)
 (len:∀ vs H Q E,sp vs H Q E->vs.length=ps.length)
 (nM:∀ (A) (outer) (s) (H) (vs) (Q) (E),pS k (A.deeper<|envOfC qual scope s.heap.objs.size f cdv)->sp vs H Q E ->
  ∃ t,cX (Kl CX P w K mg base N qual scope f cdv A outer s H E) body t /\ t { nx:=λ_ H'=>Q .non H',rt:=Q } (start N vs) H) :
 Ew P w K mg base CX (k+1) f (PySem.W.fnOf name qual params body scope dV kV doc pm an cdv ct) ps sp:=by
 refine#[len,λA outer s H args us vs Q E hr e0 hb r pP=>?_];have KX:=e0.mod.uk.keeps λb o e=>(e0.bs b o e).1;refine Xk hr.depth (KX _ _ lk) zj S.co S.gen zj (YU KX dn)<|hb _ _ _ _ ?_;refine Xl S.kind (λ⟨n,v⟩ hy=>by
  rcases S.par n (Ij hy).1 with q|q
  .show .inl q
  .show .inr #[q,UJ _ _ _<|.inl q]) λenv he s1 x=>?_
 subst he;refine#[(e0.mod.nolimit.keeps λb o e=>(e0.bs b o e).1).keeps x.toInCall.keep,Xm ?_];let#[t,ht,hq]:=nM A outer s H vs Q E (hr.deeper _) pP;have I0:Inv (qr CX P w K mg base N qual scope f cdv { A with handled:=ah } outer s H E) [] (start N vs) H s1:=A0 S zj #[e0.frames,e0.mod,e0.bs,e0.rT,e0.kQ,e0.qI,e0.ay,e0.bare] (len _ _ _ _ pP) r x;refine eX (ht [] s1 (start N vs) H _ (I0.turn (λp z=>z) (Zj e0.frames) λz=>nomatch z) hq) (λfl s' hs=>?_) λe s' hs=>hs;have fin:∀ {σ'}{H'}{v}{u},Inv (Kl CX P w K mg base N qual scope f cdv A outer s H E) [] σ' H' s'->RelV v u->Q v H'->CE outer P w H s Q u s' :=
  λ{σ' H' v u} J rv q=>#[v,H',J.os,J.bare,J.base,J.ay,rv,q]
 cases fl with
 |ret u=>
   let#[v,σ',H',J,rv,q]:=hs;show fin J rv q
 |next=>
   let#[σ',H',J,q]:=hs;show fin (v:=V.non) J zj q
 |brk=>
   let#[_,_,_,q]:=hs;show False.elim q
 |cont=>
   let#[_,_,_,q]:=hs;show False.elim q
theorem dY.adT {K}{st}(F:dY K x qual st f fd) (S:qL N ps<|fG st) (len:∀ vs H Q E,sp vs H Q E->vs.length=ps.length)
 (nM:∀ (cdv) (A) (outer) (s) (H) (vs) (Q) (E),pS k (A.deeper<|envOfC qual (fG st) s.heap.objs.size f cdv)->sp vs H Q E ->
  ∃ t,cX (Kl qN P w K mg base N qual (fG st) f cdv A outer s H E).sZ (gf st) t /\ t { nx:=λ_ H'=>Q .non H',rt:=Q } (start N vs) H):Ew P w K mg base qN (k+1) f fd ps sp:=by
 let#[oc,od,kV,doc,pm,an,cdv,ct,pO,rfl,lk,dn]:=F.ex;refine Rj lk dn S len λA outer s H vs Q E hr pP=>?_;let#[t,h,q]:=nM cdv A outer s H vs Q E hr pP;show#[t,h.sZ,q]
theorem dY.adU {K}{st}(F:dY K x qual st f fd) (S:qL N ps<|fG st) (len:∀ vs H Q E,sp vs H Q E->vs.length=ps.length)
 (nM:∀ (cdv) (A) (outer) (s) (H) (vs) (Q) (E),bI k (A.deeper<|envOfC qual (fG st) s.heap.objs.size f cdv)->sp vs H Q E ->
  ∃ t,cX (qr (dq P w) P w K mg base N qual (fG st) f cdv A outer s H E) (gf st) t /\ t { nx:=λ_ H'=>Q .non H',rt:=Q } (start N vs) H):cQ P w K mg base (dq P w) (k+1) f fd ps sp:=by
 let#[oc,od,kV,doc,pm,an,cdv,ct,pO,rfl,lk,dn]:=F.ex;show O8 lk dn S len λA outer s H vs Q E hr pP=>nM cdv A outer s H vs Q E hr pP

theorem JP (F:Ew X.prog X.w X.K X.mg X.base CX k f fd ps sp) (hr:pS k X.A) (hg:Gl X x) (hm:X.mg x=ae (.ref f)) (hk:PySem.W.keepIn X.K (.ref f)=ag) (hb:Binds X.K fd ps ds) (hd:Vals eN ds) (hx:Passes CX X E)
 (ha:PA X (e::es) t) (cM:(x==("__debug__"))=af:=by decide) (he:starEach (e::es) X.env=(af,eval e X.env)::starEach es X.env:=by rfl) (dX:(backTo pos<|starEach es X.env).any (·.1)=af:=by rfl) :
 PE X (.Call (.Name x p) (e::es) [] pos) (Vk sp eN E t):=by
 intro pins s σ H Q I h;refine rJ<|lR I hg hm ?_ cM;refine IC I.ok.mod.uk hk (nv (ha pos pins s σ H _ I h) λus s1 vs H1 I1 r q=>#[I1.cK,?_]) he dX;have r2:=r.append hd;refine HW<|ug (F.run X.A X.stack s1 H1 _ _ _ Q E hr I1.Vi (hb s1 us I1.cK (by rw[<-r2.length];show F.len _ _ _ _ q)) r2 q) λr s' hq=>?_;cases r with
 |error e=>show hx pins σ H1 s1 e s' I1 hq
 |ok fl=>
   cases fl with
   |ret u=>show I1.after hq
   |_=>show False.elim hq
inductive VJ (K:Frag) (H:Hp):V->au->zk where
 |of {x:V}{t:au}(h:pf K H x t):VJ K H x t
 |exc {a C:ai}(e:H a=ae (.ext (kE a C))) (T:xH K C):VJ K H (.ref a) (.ref C)
noncomputable def adV:V->au->zk
 |.ref a,c=>c=.ref a
 |.ty n,c=>c=.type n
 |_,_=>False
def adW (K:Frag):List V->Hp->VK->zk:=λvs H Q=>∃ x c t cv b,vs=[x,c] /\ VJ K H x t /\ adV c cv /\ kitOne K t cv=ae b /\ Q (.bl b) H
theorem fU:pN X (.builtin "isinstance") (adW X.K):=by
 intro pins s σ H xs us Q I rv h;let#[x,c,t,cv,b,rfl,ty,hc,e,q]:=h;cases rv with
 |cons r1 r2=>
   cases r2 with
   |cons r3 r4=>
     cases r4;ext u1 u2;have ec:u2=cv:=by
      cases c with
      |ref a=>show(r3).trans (hc).symm
      |ty n=>show(r3).trans (hc).symm
      |_=>show hc.elim
     subst ec;cases ty with
     |of ty=>show Gr I r1 ty e λtk=>#[.bl b,H,I.tok tk,rfl,q]
     |@exc a C ea T=>
       cases (r1);let#[p,_,_]:=(I.ay a _ ea);show qo (JM T) I.cK p e (λz=>nomatch z) λtk=>#[.bl b,H,I.tok tk,rfl,q]

def adX:V->List V->Hp->VK->zk:=λx vs H Q=>∃ l xs y,x=.ref l /\ vs=[y] /\ H l=ae (.lst xs) /\ xs.all eO=ag /\ eO y=ag /\ Q (.int<|xs.countP λz=>eu z y) H
theorem Ad (ry:RelV y u) (fy:eO y=ag) (f:au->Bool):∀ {xs}{us},Vals xs us->xs.all eO=ag ->
 (∀ z w,z∈xs->w∈us->RelV z w->f w=eu z y)->∀ w∈us,SeqAt.EqAt A s w u (f w)
 |_,_,.nil,_,_,_,h=>nomatch h
 | z::zs,w::ws,.cons r t,ha,hf,v,hv=>by
   rw[nG,aH]at ha;rcases a9.mp hv with e|e
   .subst e;rw[hf z v bO bO r];show JF r ry ha.1 fy
   .show Ad ry fy f t ha.2 (λa b h1 h2=>hf a b (bD _ h1)<|bD _ h2) v e
def xI (y:V) (w:au):Bool:=match w with
 |.none=>eu .non y
 |.bool b=>eu (.bl b) y
 |.int i _=>eu (.int i) y
 |.str x _=>eu (.str x) y
 |_=>af
theorem BA (r:RelV z w) (f:eO z=ag):xI y w=eu z y:=by
 cases z with
 |non=>cases (r);rfl
 |bl b=>cases (r);rfl
 |int i=>let#[t,rfl]:=(r);rfl
 |str x=>let#[t,rfl]:=(r);rfl
 |nI b=>show nomatch f
 |rS b=>show nomatch f
 |ref a=>show nomatch f
 |ty n=>show nomatch f
theorem Co:∀ {xs}{us},Vals xs us->xs.all eO=ag->us.countP (xI y)=xs.countP λz=>eu z y
 |_,_,.nil,_=>rfl
 | z::zs,w::ws,.cons r t,ha=>by
   rw[nG,aH]at ha;rw[Yf,Yf,Co t ha.2,BA r ha.1]
theorem Rk:∀ {xs}{us}{j}(h:j<us.length),Vals xs us->xs.all eO=ag->∃ z,xs[j]?=ae z /\ xI y us[j]=eu z y
 |_,_,_,h,.nil,_=>absurd h zg
 | z::zs,w::ws,0,_,.cons r t,ha=>by
   rw[nG,aH]at ha;show#[z,rfl,BA r ha.1]
 | z::zs,w::ws,j+1,h,.cons r t,ha=>by
   rw[nG,aH]at ha;let#[v,e1,e2]:=Rk (by simpa using h) t ha.2;show#[v,by simpa using e1,by simpa using e2]
theorem JQ:Kd X "list.count" adX:=by
 intro pins s σ H x vs v us Q I rx rv h;let#[l,xs,y,rfl,rfl,hH,ha,hy,q]:=h;cases rx;let#[u,rfl,ru]:=rv.one;let#[z,its,n,r,hl,e]:=I.xE hH;refine wL F.slot_list_count #[_,e,rfl] F.entry_list_count (F.args_list_count_2 _ _) (SeqAt.list_countAt l its.toArray n ah #[] u<|xI y) #[e,?_,?_]
 .intro w hw;refine Ad ru hy _ r ha (λz w h1 h2 rz=>BA rz<|cg.mp ha z h1) w (by simpa using hw)
 .refine#[.int _,H,I.tok _,#[_,rfl],?_];rw[show its.toArray.toList=its from rfl,Co r ha];show q
def adY:V->List V->Hp->VK->zk:=λx vs H Q=>∃ l xs y j,x=.ref l /\ vs=[y] /\ H l=ae (.lst xs) /\ xs.all eO=ag /\ eO y=ag /\ j<xs.length /\
 (∀ z,xs[j]?=ae z->eu z y=ag) /\ (∀ (m) z,m<j->xs[m]?=ae z->eu z y=af) /\ Q (.int<|j) H
theorem JR:Kd X "list.index" adY:=by
 intro pins s σ H x vs v us Q I rx rv h;let#[l,xs,y,j,rfl,rfl,hH,ha,hy,hj,hit,tF,q]:=h;cases rx;let#[u,rfl,ru]:=rv.one;let#[z,its,n,r,hl,e]:=I.xE hH;have xK:j<its.length:=by lia
 refine wL F.slot_list_index #[_,e,rfl] F.entry_list_index (F.args_list_index_2 _ _) (SeqAt.list_indexAt l its.toArray n ah #[] u (xI y) j (by simpa using xK) (by have:=xy;lia) ?_ ?_) #[e,?_,(#[.int<|j,H,I.tok _,#[_,rfl],q])]
 .let#[v,e1,e2]:=Rk xK r ha;rw[show (its.toArray[j]'(by simpa using xK))=its[j] from rfl,e2];show hit v e1
 .intro m hm adZ;let#[v,e1,e2]:=Rk (by simpa using hm) r ha;rw[show (its.toArray[m]'hm)=its[m] from rfl,e2];show tF m v adZ e1
 .intro w hw;show Ad ru hy (xI y) r ha (λz w h1 h2 rz=>BA rz<|cg.mp ha z h1) w (by simpa using hw)

noncomputable def Z7:aD->Option Str
 |.Constant (.str x) _ _=>ae x
 |_=>ah
def ad0 (xs:List Str):TA:=λ_ H Q=>Q (xs.map V.str) H
theorem BB:∀ {es}{xs},es.map Z7=xs.map ae->PA X es (ad0 xs)
 |[],[],_=>fR
 |[],_::_,h=>by simp at h
 |_::_,[],h=>by simp at h
 | e::es,x::xs,h=>by
   rw[aS,aS,List.cons.injEq]at h;cases e with
   |Constant k j pos=>
     cases k with
     |str y=>
       have e1:=Option.some.inj h.1;subst e1;show fA mG<|BB h.2
     |_=>show nomatch h.1
   |_=>show nomatch h.1
end L2
namespace L2.DL
inductive D where
 |non|bl (b:Bool)|int (i:Int)|str (x:Str)|tup (l:List D)|lst (l:List D)|az (l:List<|Key×D)
inductive W where
 |d (x:D)|b (n:Nat)|s (l:List Int)|x (i:Nat)|t (l:List Nat)|m (l:List<|Str×Nat)
inductive Bx where
 |lst (l:List D)|az (l:List<|Key×D)|dead|dT (l:List<|List Key×D)|fD (l:List<|Key×D)|ins (C:ai) (fs:List<|Str×(D ⊕ Nat))
mutual
noncomputable def Den (F:Hp):D->V->zk
 |.non,v=>v=.non
 |.bl b,v=>v=.bl b
 |.int i,v=>v=.int i
 |.str x,v=>v=.str x
 |.tup l,v=>∃ a vs,v=.ref a /\ F a=ae (.tup vs) /\ aG F l vs
 |.lst l,v=>∃ a vs,v=.ref a /\ F a=ae (.lst vs) /\ aG F l vs
 |.az l,v=>∃ a ao,v=.ref a /\ F a=ae (.dK ao) /\ aL F l ao
noncomputable def aG (F:Hp):List D->List V->zk
 |[],vs=>vs=[]
 |d::l,vs=>∃ v r,vs=v::r /\ Den F d v /\ aG F l r
noncomputable def aL (F:Hp):List (Key×D)->List (Key×V)->zk
 |[],r=>r=[]
 |(k,d)::l,r=>∃ v r',r=(k,v)::r' /\ Den F d v /\ aL F l r'
end
def Sub (F F':Hp):zk:=∀ a u,F a=ae u->F' a=ae u
theorem Sub.refl (F):Sub F F:=λ_ _ h=>h
theorem Sub.trans (a:Sub F G) (b:Sub G H):Sub F H:=λx u h=>b x u<|a x u h
def vO (F F':Hp):zk:=∀ a u,(∀ o v,u≠.bA o v)->F a=ae u->F' a=ae u
theorem Sub.d (s:Sub F F'):vO F F':=λa u _ h=>s a u h
mutual
theorem Den.cB {F F':Hp}(s:vO F F'):∀ (d:D) {v:V},Den F d v->Den F' d v
 |.non,_,h=>h
 |.bl _,_,h=>h
 |.int _,_,h=>h
 |.str _,_,h=>h
 | .tup l,_,h=>by
   let#[a,vs,e,h1,h2]:=h;show#[a,vs,e,s _ _ (λ_ _ z=>nomatch z) h1,aG.cB s l h2]
 | .lst l,_,h=>by
   let#[a,vs,e,h1,h2]:=h;show#[a,vs,e,s _ _ (λ_ _ z=>nomatch z) h1,aG.cB s l h2]
 | .az l,_,h=>by
   let#[a,vs,e,h1,h2]:=h;show#[a,vs,e,s _ _ (λ_ _ z=>nomatch z) h1,aL.cB s l h2]
theorem aG.cB {F F':Hp}(s:vO F F'):∀ (l:List D) {vs:List V},aG F l vs->aG F' l vs
 |[],_,h=>h
 | d::l,_,h=>by
   let#[v,r,e,h1,h2]:=h;show#[v,r,e,Den.cB s d h1,aG.cB s l h2]
theorem aL.cB {F F':Hp}(s:vO F F'):∀ (l:List<|Key×D) {vs:List (Key×V)},aL F l vs->aL F' l vs
 |[],_,h=>h
 | (k,d)::l,_,h=>by
   let#[v,r,e,h1,h2]:=h;show#[v,r,e,Den.cB s d h1,aL.cB s l h2]
end
theorem Den.mono (s:Sub F F') (d) (h:Den F d v):Den F' d v:=Den.cB s.d d h
theorem aG.mono (s:Sub F F') (l) (h:aG F l vs):aG F' l vs:=aG.cB s.d l h
theorem aL.mono (s:Sub F F') (l) (h:aL F l vs):aL F' l vs:=aL.cB s.d l h
theorem aG.length:∀ {l}{vs},aG F l vs->l.length=vs.length
 | [],_,h=>by
   rw[h];rfl
 | d::l,_,h=>by
   let#[v,r,e,_,h2]:=h;rw[e,a6,a6,h2.length]
theorem aG.get:∀ {l}{vs}{i:Nat}{d},aG F l vs->l[i]?=ae d->∃ v,vs[i]?=ae v /\ Den F d v
 |[],_,_,_,_,e=>by simp at e
 | x::l,_,0,d,h,e=>by
   let#[v,r,q,h1,_]:=h;simp at e;subst e;subst q;show#[v,rfl,h1]
 | x::l,_,i+1,d,h,e=>by
   let#[v,r,q,_,h2]:=h;subst q;let#[u,e1,e2]:=aG.get h2 (by simpa using e);show#[u,by simpa using e1,e2]
theorem aG.nil:aG F [] []:=rfl
theorem aG.cons {F}{d}{v}{l}{vs}(h:Den F d v) (t:aG F l vs):aG F (d::l) (v::vs):=#[v,vs,rfl,h,t]
theorem aG.append:∀ {l l'}{vs Ex},aG F l vs->aG F l' Ex->aG F (l++l') (vs++Ex)
 | [],_,_,_,h,t=>by
   rw[h];show t
 | d::l,_,_,_,h,t=>by
   let#[v,r,q,h1,h2]:=h;subst q;show .cons h1<|h2.append t
theorem aG.take:∀ {l}{vs} (n),aG F l vs->aG F (l.take n) (vs.take n)
 |l,_,0,_=>by rfl
 | [],_,n+1,h=>by
   rw[h];show rfl
 | d::l,_,n+1,h=>by
   let#[v,r,q,h1,h2]:=h;subst q;show .cons h1<|h2.take n
theorem aG.drop:∀ {l}{vs} (n),aG F l vs->aG F (l.drop n) (vs.drop n)
 |l,_,0,h=>h
 | [],_,n+1,h=>by
   rw[h];show rfl
 | d::l,_,n+1,h=>by
   let#[v,r,q,h1,h2]:=h;subst q;show h2.drop n
theorem aG.reverse:∀ {l}{vs},aG F l vs->aG F l.reverse vs.reverse
 | [],_,h=>by
   rw[h];show rfl
 | d::l,_,h=>by
   let#[v,r,q,h1,h2]:=h;subst q;rw[Ik,Ik];show h2.reverse.append<|.cons h1 .nil
theorem aG.set (hd:Den F d v):∀ {l}{vs} (i),aG F l vs->aG F (l.set i d) (vs.set i v)
 | [],_,_,h=>by
   rw[h];show rfl
 | _::l,_,0,h=>by
   let#[v',r,q,h1,h2]:=h;subst q;show .cons hd h2
 | _::l,_,i+1,h=>by
   let#[v',r,q,h1,h2]:=h;subst q;show .cons h1<|aG.set hd i h2
theorem aG.eraseIdx:∀ {l}{vs} (i),aG F l vs->aG F (l.eraseIdx i) (vs.eraseIdx i)
 | [],_,_,h=>by
   rw[h];show rfl
 | _::l,_,0,h=>by
   let#[v',r,q,h1,h2]:=h;subst q;show h2
 | _::l,_,i+1,h=>by
   let#[v',r,q,h1,h2]:=h;subst q;show .cons h1<|h2.eraseIdx i
structure Fr where
 H₀:Hp
 n₀:Nat
 F₀:Hp
noncomputable def xM (r:List ai):List Nat->List ai->zk
 |[],as=>as=[]
 |n::l,as=>∃ a t,as=a::t /\ r[n]?=ae a /\ xM r l t
theorem xM.mono (p:r <+: r'):∀ {l}{as},xM r l as->xM r' l as
 |[],_,h=>h
 | n::l,_,h=>by
   let#[a,t,e,h1,h2]:=h;refine#[a,t,e,?_,h2.mono p];let#[u,rfl]:=p;rw[cS (List.getElem?_eq_some_iff.mp h1).1];show h1
def bL (F:Hp):List (List Key×D)->List (List Key×V)->zk
 |[],r=>r=[]
 |(k,d)::l,r=>∃ v r',r=(k,v)::r' /\ Den F d v /\ bL F l r'
theorem bL.cB (s:vO F F'):∀ (l) {vs},bL F l vs->bL F' l vs
 |[],_,h=>h
 | (k,d)::l,_,h=>by
   let#[v,r,e,h1,h2]:=h;show#[v,r,e,Den.cB s d h1,bL.cB s l h2]
theorem bL.mono (s:Sub F F') (l) (h:bL F l vs):bL F' l vs:=bL.cB s.d l h
def bR (F:Hp) (VL:List ai):W->V->zk
 |.d x,v=>Den F x v
 |.b n,v=>∃ a,v=.ref a /\ VL[n]?=ae a
 |.s l,v=>∃ a o,v=.ref a /\ F a=ae (.bA o<|.lst<|l.map V.int)
 |.x _,_=>False
 |.t l,v=>∃ c as,v=.ref c /\ F c=ae (.tup<|as.map V.ref) /\ xM VL l as
 |.m l,v=>∃ c as,v=.ref c /\ F c=ae (.dK<|List.zipWith (λk a=>(.inr k.1,V.ref a)) l as) /\ xM VL (l.map (·.2)) as
theorem bR.mono (s:Sub F F') (p:r <+: r'):∀ (w) {v},bR F r w v->bR F' r' w v
 |.d x,_,h=>Den.mono s x h
 | .b n,_,h=>by
   let#[a,e,h]:=h;refine#[a,e,?_];let#[t,rfl]:=p;rw[cS (List.getElem?_eq_some_iff.mp h).1];show h
 |.s l,_,h=>let ⟨a,o,e,h⟩:=h;#[a,o,e,s _ _ h]
 |.x _,_,h=>h
 |.t l,_,h=>let ⟨c,as,e,h1,h2⟩:=h;#[c,as,e,s _ _ h1,h2.mono p]
 |.m l,_,h=>let ⟨c,as,e,h1,h2⟩:=h;#[c,as,e,s _ _ h1,h2.mono p]
def Ey (F:Hp) (r:List ai) (n:Nat):D ⊕ Nat->V->zk
 |.inl d,v=>Den F d v
 |.inr m,v=>m<n /\ ∃ a,v=.ref a /\ r[m]?=ae a
def cY (F:Hp) (r:List ai) (n:Nat):List (Str×(D ⊕ Nat))->List (Str×V)->zk
 |[],vs=>vs=[]
 |(k,w)::l,vs=>∃ v t,vs=(k,v)::t /\ Ey F r n w v /\ cY F r n l t
theorem cY.cB (s:vO F F') (p:∀ m,m<n->∀ a,r[m]?=ae a->r'[m]?=ae a):∀ (l) {vs},cY F r n l vs->cY F' r' n l vs
 |[],_,h=>h
 |(k,.inl d)::l,_,⟨v,t,e,h1,h2⟩=>#[v,t,e,Den.cB s d h1,cY.cB s p l h2]
 |(k,.inr m)::l,_,⟨v,t,e,⟨h1,a,h2,h3⟩,h4⟩=>#[v,t,e,#[h1,a,h2,p m h1 a h3],cY.cB s p l h4]
theorem Dq (p:r <+: r') (m:Nat) (a:ai) (h:r[m]?=ae a):r'[m]?=ae a:=by
 let#[t,rfl]:=p;rw[cS (List.getElem?_eq_some_iff.mp h).1];show h
def si (F:Hp) (r:List ai) (n:Nat) (H:Hp) (a:ai):Bx->zk
 |.lst l=>F a=ah /\ ∃ vs,H a=ae (.lst vs) /\ aG F l vs
 |.az l=>F a=ah /\ ∃ ao,H a=ae (.dK ao) /\ aL F l ao
 |.dead=>∃ u,H a=ae u
 |.dT l=>F a=ah /\ ∃ ao,H a=ae (.dT ao) /\ bL F l ao
 |.fD l=>∃ o ao,F a=ae (.bA o<|.dK ao) /\ H a=ae (.bA o<|.dK ao) /\ aL F l ao
 |.ins C fs=>F a=ah /\ ∃ dx vs,H a=ae (.ins C dx vs) /\ cY F r n fs vs
noncomputable abbrev bu:=List<|Option W
noncomputable abbrev xB (n:Nat):Option W:=ae<|.b n
noncomputable abbrev xN (i:Int):Option W:=ae<|.d<|.int i
noncomputable abbrev xJ (l:List Int):Option W:=ae<|.d<|.lst<|l.map D.int
structure Rel (T:Fr) (F:Hp) (r:List ai) (σ:St) (H:Hp) (env:bu) (bx:List Bx):zk where
 fh:Sub F H
 slot:∀ (i:Nat) (w:W),env[i]?=ae (ae w)->∃ v,σ[i]?=ae (ae v) /\ bR F r w v
 len:r.length=bx.length
 nd:r.Nodup
 box:∀ (n:Nat) (c:Bx) (a:ai),bx[n]?=ae c->r[n]?=ae a->si F r n H a c
 keep:∀ a u,T.H₀ a=ae u->a∉r->H a=ae u
 new:∀ (n:Nat) (a:ai),T.n₀<=n->r[n]?=ae a->T.H₀ a=ah
 n0:T.n₀<=r.length
 sl:env.length<=σ.length
 fs:∀ a u,F a=ae u->(∃ vs,u=.tup vs) \/ T.F₀ a=ae u \/ T.H₀ a=ah \/ a∈r
structure bf (F:Hp) (r:List ai) (F':Hp) (r':List ai):zk where
 s:Sub F F'
 p:r <+: r'
theorem bf.refl (F) (r):bf F r F r:=#[Sub.refl F,eJ r]
theorem bf.trans (a:bf F r F' r') (b:bf F' r' ad1 ad2):bf F r ad1 ad2:=#[a.s.trans b.s,a.p.trans b.p]
theorem bf.den (g:bf F r F' r') (h:bR F r w v):bR F' r' w v:=h.mono g.s g.p w
inductive O (α:Type) where
 |val (a:α) (bx:List Bx)|exc (c:Nat) (bx:List Bx)|bad
abbrev DE (α):=bu->List Bx->O α
noncomputable def fC {α β}(m:O α) (k:α->List Bx->O β):O β:=
 match m with
 |.val a bx=>k a bx
 |.exc c bx=>.exc c bx
 |.bad=>.bad
structure Xs where
 E:XK
 cl:Nat->ai
noncomputable def End {α β:Type}(T:Fr) (Z:Xs) (Rl:Hp->List ai->α->β->zk) (F:Hp) (r:List ai) (σ:St) (env:bu) (Q:β->Hp->zk):O α->zk
 |.val d bx'=>∀ F' r' v H',bf F r F' r'->Rel T F' r' σ H' env bx'->Rl F' r' d v->Q v H'
 |.exc c bx'=>∀ F' r' H',bf F r F' r'->Rel T F' r' [] H' [] bx'->Z.E (.ref<|Z.cl c) ah H'
 |.bad=>False
theorem End.weak (g:bf F r F' r'):∀ {o:O α},End T Z Rl F r σ env Q o->End T Z Rl F' r' σ env Q o
 |.val _ _,h=>λF2 r2 v H2 g2=>h F2 r2 v H2<|g.trans g2
 |.exc _ _,h=>λF2 r2 H2 g2=>h F2 r2 H2<|g.trans g2
 |.bad,h=>h
theorem End.bind {R2:Hp->List ai->α'->β'->zk}(h:End T Z R2 F r σ env Q<|fC m k)
 (c:∀ d bx1 F1 r1 v H1,bf F r F1 r1->Rel T F1 r1 σ H1 env bx1->R1 F1 r1 d v->End T Z R2 F1 r1 σ env Q (k d bx1)->Q1 v H1):End T Z R1 F r σ env Q1 m:=by
 cases m with
 |val d bx=>show λF' r' v H' g R q=>c d bx F' r' v H' g R q<|End.weak g h
 |exc n bx=>show h
 |bad=>show h
theorem Rel.drop (R:Rel T F r σ H env bx):Rel T F r [] H [] bx:=
 #[R.fh,λi w e=>by simp at e,R.len,R.nd,R.box,R.keep,R.new,R.n0,aA _,R.fs]
def tD (T:Fr) (Z:Xs) (m:DE W):TE:=λσ H Q=>∃ F r env bx,Rel T F r σ H env bx /\ End T Z bR F r σ env Q (m env bx)
def PD (X:Cx) (T:Fr) (Z:Xs) (e:aD) (m:DE W):zk:=PE X e<|tD T Z m
abbrev ad3:Hp->List ai->Bool->Bool->zk:=λ_ _ a b=>a=b
def vP (T:Fr) (Z:Xs) (m:DE Bool):TT:=λσ H Q=>∃ F r env bx,Rel T F r σ H env bx /\ End T Z ad3 F r σ env Q (m env bx)
def vQ (X:Cx) (T:Fr) (Z:Xs) (e:aD) (m:DE Bool):zk:=PT X e<|vP T Z m
def kF (F:Hp) (r:List ai):List W->List V->zk
 |[],vs=>vs=[]
 |w::l,vs=>∃ v t,vs=v::t /\ bR F r w v /\ kF F r l t
theorem kF.mono (g:bf F r F' r'):∀ {l}{vs},kF F r l vs->kF F' r' l vs
 |[],_,h=>h
 | w::l,_,h=>by
   let#[v,t,e,h1,h2]:=h;show#[v,t,e,g.den h1,h2.mono g]
def Ez (T:Fr) (Z:Xs) (m:DE<|List W):TA:=λσ H Q=>∃ F r env bx,Rel T F r σ H env bx /\ End T Z kF F r σ env Q (m env bx)
def pj (X:Cx) (T:Fr) (Z:Xs) (es:List aD) (m:DE<|List W):zk:=PA X es<|Ez T Z m
theorem bg {T:Fr}{σ:St}{H:Hp}{B:Hp->List ai->bu->List Bx->zk}{G:zk}(k:∀ F r env bx,Rel T F r σ H env bx->B F r env bx->G):(∃ F r env bx,Rel T F r σ H env bx /\ B F r env bx)->G:=λ⟨F,r,env,bx,R,h⟩=>k F r env bx R h
theorem EA {δ:Type}{T:Fr}{σ:St}{H:Hp}{C:Hp->List ai->δ->zk}{B:Hp->List ai->bu->List Bx->δ->zk}{G:zk}(k:∀ F r env bx w,Rel T F r σ H env bx->C F r w->B F r env bx w->G):(∃ F r env bx w,Rel T F r σ H env bx /\ C F r w /\ B F r env bx w)->G:=λ⟨F,r,env,bx,w,R,d,h⟩=>k F r env bx w R d h
theorem PE.imp (h:PE X e t) (f:∀ σ H Q,t' σ H Q->t σ H Q):PE X e t':=λpins s σ H Q I q=>h pins s σ H Q I<|f σ H Q q
theorem PT.imp (h:PT X e t) (f:∀ σ H Q,t' σ H Q->t σ H Q):PT X e t':=λpins s σ H Q I q=>h pins s σ H Q I<|f σ H Q q
theorem PW.imp (h:PW X e t) (f:∀ σ H Q,t' σ H Q->t σ H Q):PW X e t':=λwhole pins s σ H Q I q=>h whole pins s σ H Q I<|f σ H Q q
theorem PA.imp (h:PA X e t) (f:∀ σ H Q,t' σ H Q->t σ H Q):PA X e t':=λpos pins s σ H Q I q=>h pos pins s σ H Q I<|f σ H Q q
theorem PS.imp (h:PS X e t) (f:∀ Q σ H,t' Q σ H->t Q σ H):PS X e t':=λpins s σ H Q I q=>h pins s σ H Q I<|f Q σ H q
theorem cX.imp (h:cX X e t) (f:∀ Q σ H,t' Q σ H->t Q σ H):cX X e t':=λpins s σ H Q I q=>h pins s σ H Q I<|f Q σ H q

noncomputable def dV (i:Nat):DE W:=λenv bx=>match env[i]? with|some (ae w)=>.val w bx|_=>.bad
theorem JS (i) (hN:X.N[i]?=ae x:=by rfl) (hv:qH X.env.scope x:=by first|show Or.inl zj|show Or.inr _|show Or.inr _) (hd:(x==("__debug__"))=af:=by decide)
 (dn:(x==("__classdict__"))=af:=by decide):PD X T Z (.Name x pos) (dV i):=by
 refine PE.imp (mF hN hv hd dn) λσ H Q=>bg λF r env bx R h=>?_;unfold dV at h;split at h
 .ext w e;let#[v,e1,e2]:=R.slot i w e;show#[v,e1,h F r v H (.refl F r) R e2]
 .show h.elim
noncomputable def dC (d:D):DE W:=λ_ bx=>.val (.d d) bx
theorem Cp (h:PE X e<|tC v) (hd:∀ F,Den F d v):PD X T Z e (dC d):=
 PE.imp h λσ H Q=>bg λF r env bx R h=>h F r v H (.refl F r) R<|hd F
noncomputable def fe:DE (List W):=λ_ bx=>.val [] bx
def fc (m:DE W) (k:DE<|List W):DE (List W):=λenv bx=>fC (m env bx) λw bx1=>fC (k env bx1) λl aq=>.val (w::l) aq
theorem lh:pj X T Z [] fe:=PA.imp fR λσ H Q=>bg λF r env bx R h=>h F r [] H (.refl F r) R zj

theorem jt (h:F p=ah):Sub F (upd F p o):=λa u e=>by rw[fv<|fI e h];show e
theorem Rel.uE (R:Rel T F r σ H env bx) (h:H p=ah):F p=ah:=by
 cases e:F p with
 |none=>rfl
 |some u=>rw[R.fh p u e]at h;cases h
theorem si.there:∀ {c},si F r n H a c->∃ u,H a=ae u
 |.lst _,h=>let ⟨_,vs,e,_⟩:=h;#[_,e]
 |.az _,h=>let ⟨_,vs,e,_⟩:=h;#[_,e]
 |.dead,h=>h
 |.dT _,h=>let ⟨_,vs,e,_⟩:=h;#[_,e]
 |.fD _,h=>let ⟨_,_,_,e,_⟩:=h;#[_,e]
 |.ins _ _,h=>let ⟨_,_,_,e,_⟩:=h;#[_,e]
theorem Rel.kG (R:Rel T F r σ H env bx) (e:r[n]?=ae a):∃ c,bx[n]?=ae c /\ si F r n H a c:=by
 have h:=(List.getElem?_eq_some_iff.mp e).1;rw[R.len]at h;show#[_,cW h,R.box n _ a (cW h) e]
theorem Rel.EB (R:Rel T F r σ H env bx) (h:H p=ah):p∉r:=λhp=>by
 let#[n,e]:=List.mem_iff_getElem?.mp hp;let#[c,_,k]:=R.kG e;let#[u,k]:=k.there;rw[h]at k;cases k
theorem si.grow (s:Sub F F') (p:r <+: r') (hf:F a=ah->F' a=ah) (hh:∀ u,H a=ae u->H' a=ae u):∀ {c},si F r n H a c->si F' r' n H' a c
 |.lst _,h=>let ⟨h1,vs,h2,h3⟩:=h;#[hf h1,vs,hh _ h2,aG.mono s _ h3]
 |.az _,h=>let ⟨h1,vs,h2,h3⟩:=h;#[hf h1,vs,hh _ h2,aL.mono s _ h3]
 |.dead,h=>let ⟨u,h⟩:=h;#[u,hh u h]
 |.dT _,h=>let ⟨h1,vs,h2,h3⟩:=h;#[hf h1,vs,hh _ h2,bL.mono s _ h3]
 |.fD _,h=>let ⟨o,vs,h1,h2,h3⟩:=h;#[o,vs,s _ _ h1,hh _ h2,aL.mono s _ h3]
 |.ins _ _,h=>let ⟨h1,dx,vs,h2,h3⟩:=h;#[hf h1,dx,vs,hh _ h2,cY.cB s.d (λm _ a e=>Dq p m a e) _ h3]
theorem Rel.xO (R:Rel T F r σ H env bx) (h:H p=ah):Rel T (upd F p o) r σ (upd H p o) env bx:=by
 have s:=jt (o:=o)<|R.uE h;refine#[λa u e=>?_,λi w e=>?_,R.len,R.nd,λn c a e1 e2=>?_,λa u e hn=>?_,R.new,R.n0,R.sl,λa u e=>?_]
 .by_cases ha:a=p
  .subst ha;rw[fu]at e ⊢;show e
  .rw[fv ha]at e ⊢;show R.fh a u e
 .let#[v,e1,e2]:=R.slot i w e;show#[v,e1,e2.mono s<|eJ r]
 .have k:=R.box n c a e1 e2;let#[u,hu]:=k.there;have ha:=fI hu h;show k.grow s (eJ r) (λz=>by rw[fv ha];show z) (λu z=>by rw[fv ha];show z)
 .have k:=R.keep a u e hn;rw[fv<|fI k h];show k
 .by_cases ha:a=p
  .subst ha;refine .inr<|.inr<|.inl ?_;cases q:T.H₀ a with
   |none=>rfl
   |some u=>rw[R.keep a u q<|R.EB h]at h;cases h
  .rw[fv ha]at e;show R.fs a u e
theorem Rel.tL (R:Rel T F r σ H env bx) (h:H p=ah):bf F r (upd F p o) r:=#[jt<|R.uE h,eJ r]
theorem Rel.EC (R:Rel T F r σ H env bx) (h:H p=ah) (hc:si F r r.length (upd H p o) p c):Rel T F (r++[p]) σ (upd H p o) env (bx++[c]):=by
 have hs:∀ a u,H a=ae u->upd H p o a=ae u:=λa u e=>by rw[fv<|fI e h];show e
 refine#[λa u e=>hs a u<|R.fh a u e,λi w e=>?_,by rw[bH,bH,R.len];rfl,?_,λn c' a e1 e2=>?_,λa u e hn=>(hs a u<|R.keep a u e λz=>hn<|nX _ z),λn a hn e=>?_,by rw[bH];show cw R.n0 (rL _ _),R.sl,λa u e=>(R.fs a u e).imp id<|Or.imp id<|Or.imp id λz=>nX _ z]
 .let#[v,e1,e2]:=R.slot i w e;show#[v,e1,e2.mono (Sub.refl F)<|pL r [p]]
 .rw[sW];refine#[R.nd,by simp,λa ha b hb=>?_];rw[hV]at hb;subst hb;show λz=>R.EB h<|z▸ha
 .by_cases hn:n<r.length
  .rw[cS hn]at e2;rw[cS (by rw[<-R.len];show hn)]at e1;show(R.box n c' a e1 e2).grow (Sub.refl F) (pL r [p]) id (hs a)
  .rw[dD zb]at e2;rw[dD (by rw[<-R.len];lia)]at e1;have hl:n-r.length=0:=by
    cases q:n-r.length with
    |zero=>rfl
    |succ k=>rw[q]at e2;simp at e2
   have nC:n-bx.length=0:=by rw[<-R.len];show hl
   rw[hl]at e2;rw[nC]at e1;simp at e1 e2;subst e1 e2;have sY:n=r.length:=by lia
   subst sY;show hc.grow (Sub.refl F) (pL r _) id λ_ z=>z
 .by_cases hl:n<r.length
  .rw[cS hl]at e;show R.new n a hn e
  .have hp:a=p:=by
    rw[dD zb]at e;cases q:n-r.length with
    |zero=>rw[q]at e;simp at e;show e.symm
    |succ k=>rw[q]at e;simp at e
   subst hp;cases q:T.H₀ a with
   |none=>rfl
   |some u=>rw[R.keep a u q<|R.EB h]at h;cases h
theorem jS {α:Type}{l:List α}(h:l.Nodup) {j:Nat}{x}(a:l[i]?=ae x) (b:l[j]?=ae x):i=j:=(List.getElem?_inj (List.getElem?_eq_some_iff.mp a).1 h).mp<|a.trans b.symm
theorem Rel.write (R:Rel T F r σ H env bx) (e:r[n]?=ae a) (hF:F a=ah) (hc:si F r n (upd H a o) a c):Rel T F r σ (upd H a o) env (bx.set n c):=by
 refine#[λb u q=>?_,R.slot,by rw[qC];show R.len,R.nd,λm c' b e1 e2=>?_,λb u q hn=>?_,R.new,R.n0,R.sl,R.fs]
 .by_cases hb:b=a
  .subst hb;rw[hF]at q;cases q
  .rw[fv hb];show R.fh b u q
 .by_cases hm:m=n
  .subst hm;rw[e]at e2;cases e2;rw[pI (by rw[<-R.len];show(List.getElem?_eq_some_iff.mp e).1)]at e1;cases e1;show hc
  .rw[rM<|Ne.symm hm]at e1;have hb:b≠a:=λz=>hm<|jS R.nd e2<|z▸e;show(R.box m c' b e1 e2).grow (Sub.refl F) (eJ r) id λu z=>by rw[fv hb];show z
 .rw[fv λz=>hn (by rw[z];show(List.mem_iff_getElem?.mpr #[n,e]))];show R.keep b u q hn
theorem Rel.freeze (R:Rel T F r σ H env bx) (e:r[n]?=ae a) (hF:F a=ah) (hH:H a=ae o):Rel T (upd F a o) r σ H env (bx.set n .dead) /\ bf F r (upd F a o) r:=by
 have s:=jt (o:=o) hF;refine#[#[λb u q=>?_,λi w q=>?_,by rw[qC];show R.len,R.nd,λm c' b e1 e2=>?_,R.keep,R.new,R.n0,R.sl,λb u q=>?_],s,eJ r]
 .by_cases hb:b=a
  .subst hb;rw[fu]at q;cases q;show hH
  .rw[fv hb]at q;show R.fh b u q
 .let#[v,e1,e2]:=R.slot i w q;show#[v,e1,e2.mono s<|eJ r]
 .by_cases hm:m=n
  .subst hm;rw[e]at e2;cases e2;rw[pI (by rw[<-R.len];show(List.getElem?_eq_some_iff.mp e).1)]at e1;cases e1;show#[_,hH]
  .rw[rM<|Ne.symm hm]at e1;have hb:b≠a:=λz=>hm<|jS R.nd e2<|z▸e;show(R.box m c' b e1 e2).grow s (eJ r) (λz=>by rw[fv hb];show z) λu z=>z
 .by_cases hb:b=a
  .subst hb;show .inr<|.inr<|.inr<|List.mem_iff_getElem?.mpr #[n,e]
  .rw[fv hb]at q;show R.fs b u q
def nO (F H:Hp):D->V->zk
 |.lst l,v=>∃ a vs,v=.ref a /\ H a=ae (.lst vs) /\ aG F l vs
 |.az l,v=>∃ a ao,v=.ref a /\ H a=ae (.dK ao) /\ aL F l ao
 |.tup l,v=>∃ a vs,v=.ref a /\ F a=ae (.tup vs) /\ aG F l vs
 |.non,v=>v=.non
 |.bl b,v=>v=.bl b
 |.int i,v=>v=.int i
 |.str x,v=>v=.str x
noncomputable def bG (bx:List Bx):W->Option D
 |.d x=>ae x
 | .b n=>match bx[n]? with
   |some (.lst l)=>ae<|.lst l
   |some (.az l)=>ae<|.az l
   |_=>ah
 |_=>ah
theorem Den.qQ (s:Sub F H):∀ {d}{v},Den F d v->nO F H d v
 |.non,_,h=>h
 |.bl _,_,h=>h
 |.int _,_,h=>h
 |.str _,_,h=>h
 |.tup l,_,h=>h
 |.lst l,_,h=>let ⟨a,vs,e,h1,h2⟩:=h;#[a,vs,e,s _ _ h1,h2]
 |.az l,_,h=>let ⟨a,vs,e,h1,h2⟩:=h;#[a,vs,e,s _ _ h1,h2]
theorem Rel.qQ (R:Rel T F r σ H env bx) (h:bR F r w v) (e:bG bx w=ae d):nO F H d v:=by
 cases w with
 |d x=>
   cases e;show Den.qQ R.fh h
 |b n=>
   let#[a,rfl,ha]:=h;let#[c,hc,k]:=R.kG ha;simp[bG,hc]at e;cases c with
   |lst l=>cases e;let#[_,vs,k1,k2]:=k;show#[a,vs,rfl,k1,k2]
   |az l=>cases e;let#[_,vs,k1,k2]:=k;show#[a,vs,rfl,k1,k2]
   |_=>cases e
 |s l=>cases e
 |x i=>show h.elim
 |_=>cases e
def VM (F H:Hp):List D->List V->zk
 |[],vs=>vs=[]
 |d::l,vs=>∃ v t,vs=v::t /\ nO F H d v /\ VM F H l t
def nP (bx:List Bx):List W->Option (List D)
 |[]=>ae []
 |w::l=>(bG bx w).bind λd=>(nP bx l).map λt=>d::t
theorem Rel.Z8 (R:Rel T F r σ H env bx):∀ {ws}{vs}{ds},kF F r ws vs->nP bx ws=ae ds->VM F H ds vs
 |[],_,_,h,e=>by cases e;show h
 | w::l,_,ds,h,e=>by
   let#[v,t,q,h1,h2]:=h;unfold nP at e;cases e1:bG bx w with
   |none=>rw[e1]at e;cases e
   |some d=>
     rw[e1]at e;cases e2:nP bx l with
     |none=>rw[e2]at e;cases e
     |some t'=>
       rw[e2]at e;cases e;show#[v,t,q,R.qQ h1 e1,R.Z8 h2 e2]
inductive Res where
 |old (d:D)|tup (l:List D)|lst (l:List D)|az (l:List<|Key×D)
noncomputable def Res.toD:Res->D
 |.old d=>d|.tup l=>.tup l|.lst l=>.lst l|.az l=>.az l
def vR (F H:Hp):Res->V->Hp->zk
 |.old d,v,H'=>H'=H /\ Den F d v
 |.tup l,v,H'=>(H'=H /\ Den F (.tup l) v) \/ ∃ p vs,v=.ref p /\ H p=ah /\ H'=upd H p (.tup vs) /\ aG F l vs
 |.lst l,v,H'=>∃ p vs,v=.ref p /\ H p=ah /\ H'=upd H p (.lst vs) /\ aG F l vs
 |.az l,v,H'=>∃ p vs,v=.ref p /\ H p=ah /\ H'=upd H p (.dK vs) /\ aL F l vs
theorem Rel.res (R:Rel T F r σ H env bx):∀ {q},vR F H q v H'->∃ F',bf F r F' r /\ Rel T F' r σ H' env bx /\ Den F' q.toD v
 | .old d,h=>by
   let#[rfl,h]:=h;show#[F,.refl F r,R,h]
 | .tup l,h=>by
   rcases h with⟨rfl,h⟩|⟨p,vs,rfl,hp,rfl,h⟩
   .show#[F,.refl F r,R,h]
   show#[_,R.tL hp,R.xO hp,p,vs,rfl,fu,aG.mono (R.tL hp).s l h]
 | .lst l,h=>by
   let#[p,vs,rfl,hp,rfl,h]:=h;show#[_,R.tL hp,R.xO hp,p,vs,rfl,fu,aG.mono (R.tL hp).s l h]
 | .az l,h=>by
   let#[p,vs,rfl,hp,rfl,h]:=h;show#[_,R.tL hp,R.xO hp,p,vs,rfl,fu,aL.mono (R.tL hp).s l h]
theorem Rel.resB (R:Rel T F r σ H env bx) (h:vR F H (.lst l) v H'):∃ r',bf F r F r' /\ Rel T F r' σ H' env (bx++[.lst l]) /\ bR F r' (.b bx.length) v:=by
 let#[p,vs,rfl,hp,rfl,h]:=h;refine#[r++[p],#[Sub.refl F,pL r [p]],R.EC hp #[R.uE hp,vs,fu,h],p,rfl,?_];rw[<-R.len,dD<|aA _,k8];rfl
theorem Rel.ad4 (R:Rel T F r σ H env bx) (h:vR F H (.az l) v H'):∃ r',bf F r F r' /\ Rel T F r' σ H' env (bx++[.az l]) /\ bR F r' (.b bx.length) v:=by
 let#[p,vs,rfl,hp,rfl,h]:=h;refine#[r++[p],#[Sub.refl F,pL r [p]],R.EC hp #[R.uE hp,vs,fu,h],p,rfl,?_];rw[<-R.len,dD<|aA _,k8];rfl
def b9 (b:Bool):Option Res->List Bx->O W
 |none,_=>.bad
 | some q,bx=>match b,q with
   |true,.lst l=>.val (.b bx.length)<|bx++[.lst l]
   |true,.az l=>.val (.b bx.length)<|bx++[.az l]
   |_,_=>.val (.d q.toD) bx
theorem gQ (R:Rel T F r σ H env bx) (h:End T Z bR F r σ env Q<|b9 b (ae q) bx) (k:vR F H q v H'):Q v H':=by
 have one:End T Z bR F r σ env Q (.val (.d q.toD) bx)->Q v H':=λh=>by
  let#[F',g,R',d]:=R.res k;show h F' r v H' g R' d
 cases b with
 |false=>show one h
 |true=>
   cases q with
   |old d=>show one h
   |tup l=>show one h
   |lst l=>
     let#[r',g,R',d]:=R.resB k;show h F r' v H' g R' d
   |az l=>
     let#[r',g,R',d]:=R.ad4 k;show h F r' v H' g R' d
def nD (q:R2) (g:D->D->Option Res):zk:=∀ (F H) (x y) (v w) (Q) (s),Sub F H->nO F H x v->nO F H y w->g x y=ae s->(∀ u H',vR F H s u H'->Q u H')->q v w H Q
def qT (q:List V->Hp->VK->zk) (g:List D->Option Res):zk:=∀ (F H) (xs) (vs) (Q) (s),Sub F H->VM F H xs vs->g xs=ae s->(∀ u H',vR F H s u H'->Q u H')->q vs H Q
def d2 (b:Bool) (g:D->D->Option Res) (ma mb:DE W):DE W:=λenv bx=>fC (ma env bx) λx bx1=>fC (mb env bx1) λy aq=>b9 b ((bG aq x).bind λp=>(bG aq y).bind λq=>g p q) aq
theorem Fd (hg:nD q g) (σ) (H) (Q) (h:tD T Z (d2 b g ma mb) σ H Q):Eh q (tD T Z ma) (tD T Z mb) σ H Q:=by
 let#[F,r,env,bx,R,h]:=h;refine#[F,r,env,bx,R,End.bind h λx bx1 F1 r1 v H1 g1 R1 d1 h1=>?_];refine#[F1,r1,env,bx1,R1,End.bind h1 λy aq F2 r2 w H2 g2 R2 ED h2=>?_];cases e1:bG aq x with
 |none=>rw[e1]at h2;show h2.elim
 |some p=>
   cases e2:bG aq y with
   |none=>rw[e1,e2]at h2;show h2.elim
   |some z=>
     cases e3:g p z with
     |none=>rw[e1,e2]at h2;simp[bJ,e3]at h2;show h2.elim
     |some s=>
       rw[e1,e2]at h2;simp[bJ,e3]at h2;show hg F2 H2 p z v w Q s R2.fh (R2.qQ (g2.den d1) e1) (R2.qQ ED e2) e3 λu H' k=>gQ R2 h2 k
def dN (b:Bool) (g:List D->Option Res) (k:DE<|List W):DE W:=λenv bx=>fC (k env bx) λws bx1=>b9 b ((nP bx1 ws).bind g) bx1
theorem JT (hg:qT q g) (σ) (H) (Q) (h:tD T Z (dN b g k) σ H Q):IX q (Ez T Z k) σ H Q:=by
 let#[F,r,env,bx,R,h]:=h;refine#[F,r,env,bx,R,End.bind h λws bx1 F1 r1 vs H1 g1 R1 d1 h1=>?_];cases e1:nP bx1 ws with
 |none=>rw[e1]at h1;show h1.elim
 |some ds=>
   rw[e1]at h1;cases e2:g ds with
   |none=>simp[bJ,e2]at h1;show h1.elim
   |some s=>
     simp[bJ,e2]at h1;show hg F1 H1 ds vs Q s R1.fh (R1.Z8 d1 e1) e2 λu H' k=>gQ R1 h1 k

def dB (m:DE W):DE Bool:=λenv bx=>fC (m env bx) λw bx1=>match w with|.d (.bl k)=>.val k bx1|_=>.bad
theorem Na (h:vP T Z (dB ma) σ H Q):tB (tD T Z ma) σ H Q:=by
 let#[F,r,env,bx,R,h]:=h;refine#[F,r,env,bx,R,End.bind h λw bx1 F1 r1 v H1 g1 R1 d1 h1=>?_];split at h1
 .ext k;show#[k,d1,h1 F1 r1 k H1 (.refl F1 r1) R1 zj]
 .show h1.elim
theorem aG.isEmpty (h:aG F l vs):l.isEmpty=vs.isEmpty:=by
 have:=h.length;cases l<;>cases vs<;>simp_all
theorem aL.length:∀ {l}{vs},aL F l vs->l.length=vs.length
 | [],_,h=>by
   rw[h];rfl
 | (k,d)::l,_,h=>by
   let#[v,r,e,_,h2]:=h;rw[e,a6,a6,h2.length]
def d3 (g g':D->D->Option Res) (ma mb mc:DE W):DE W:=λenv bx=>fC (ma env bx) λx bx1=>fC (mb env bx1) λy aq=>
 fC (b9 af ((bG aq x).bind λp=>(bG aq y).bind λq=>g p q) aq) λz cb=>match z with
  |.d (.bl ag)=>fC (mc env cb) λw eQ=>b9 af ((bG eQ y).bind λp=>(bG eQ w).bind λq=>g' p q) eQ
  |.d (.bl af)=>.val (.d<|.bl af) cb
  |_=>.bad
theorem Z9 (hg:nD q g) (R:Rel T F r σ H env bx) (dx:bR F r x v) (dy:bR F r y w)
 (h:End T Z bR F r σ env Q<|b9 af ((bG bx x).bind λp=>(bG bx y).bind λq=>g p q) bx):q v w H Q:=by
 cases e1:bG bx x with
 |none=>rw[e1]at h;show h.elim
 |some p=>
   cases e2:bG bx y with
   |none=>rw[e1,e2]at h;show h.elim
   |some z=>
     cases e3:g p z with
     |none=>rw[e1,e2]at h;simp[bJ,e3]at h;show h.elim
     |some s=>
       rw[e1,e2]at h;simp[bJ,e3]at h;show hg F H p z v w Q s R.fh (R.qQ dx e1) (R.qQ dy e2) e3 λu H' k=>gQ R h k
theorem Fe (hg:nD q g) (xQ:nD q' g') (h:tD T Z (d3 g g' ma mb mc) σ H Q):Vf q q' (tD T Z ma) (tD T Z mb) (tD T Z mc) σ H Q:=by
 let#[F,r,env,bx,R,h]:=h;refine#[F,r,env,bx,R,End.bind h λx bx1 F1 r1 v H1 g1 R1 d1 h1=>?_];refine#[F1,r1,env,bx1,R1,End.bind h1 λy aq F2 r2 w H2 g2 R2 d2 h2=>?_];refine Z9 hg R2 (g2.den d1) d2<|End.bind h2 λz cb F3 r3 u H3 g3 R3 d3 h3=>?_;split at h3
 .show#[ag,d3,(#[F3,r3,env,cb,R3,End.bind h3 λt eQ F4 r4 s H4 g4 R4 d4 h4=>(Z9 xQ R4 (g4.den<|g3.den d2) d4 h4)])]
 .show#[af,d3,(h3 F3 r3 _ H3 (.refl F3 r3) R3 zj)]
 .show h3.elim
def qt (m k:DE Bool):DE Bool:=λenv bx=>fC (m env bx) λb bx1=>match b with|true=>k env bx1|false=>.val af bx1
def eS (m k:DE Bool):DE Bool:=λenv bx=>fC (m env bx) λb bx1=>match b with|true=>.val ag bx1|false=>k env bx1
def cE (m:DE Bool):DE Bool:=λenv bx=>fC (m env bx) λb bx1=>.val (!b) bx1
def Km (X:Cx) (T:Fr) (Z:Xs) (e:aD) (m:DE Bool):zk:=PW X e<|vP T Z m

theorem O9 (h:Km X T Z e ta):vQ X T Z e ta:=h.pt
def gT (m k:DE W):DE W:=λenv bx=>fC (m env bx) λw bx1=>match w with|.d (.bl ag)=>k env bx1|.d (.bl af)=>.val (.d<|.bl af) bx1|_=>.bad
def EE (m k:DE W):DE W:=λenv bx=>fC (m env bx) λw bx1=>match w with|.d (.bl ag)=>.val (.d<|.bl ag) bx1|.d (.bl af)=>k env bx1|_=>.bad
def Kn (m:DE W):DE W:=λenv bx=>fC (m env bx) λw bx1=>match w with|.d (.bl k)=>.val (.d<|.bl<|!k) bx1|_=>.bad
theorem JU (h:PD X T Z a ma):PD X T Z (.BoolOp op [a] pos) ma:=PU h
def kR (t:DE Bool) (m k:DE W):DE W:=λenv bx=>fC (t env bx) λb bx1=>match b with|true=>m env bx1|false=>k env bx1
noncomputable def pk:List W->Option (List D)
 |[]=>ae []
 |.d x::l=>(pk l).map λt=>x::t
 |_=>ah
theorem kF.ds:∀ {ws}{vs}{ds},kF F r ws vs->pk ws=ae ds->aG F ds vs
 |[],_,_,h,e=>by cases e;show h
 | .d x::l,_,ds,h,e=>by
   let#[v,t,q,h1,h2]:=h;unfold pk at e;cases e2:pk l with
   |none=>rw[e2]at e;cases e
   |some t'=>
     rw[e2]at e;cases e;show#[v,t,q,h1,h2.ds e2]
 |.b _::l,_,ds,h,e=>by cases e
 |.s _::l,_,ds,h,e=>by cases e
 |.x _::l,_,ds,h,e=>by cases e
 |.t _::l,_,ds,h,e=>by cases e
 |.m _::l,_,ds,h,e=>by cases e
def fL (k:DE<|List W):DE W:=λenv bx=>fC (k env bx) λws bx1=>b9 af ((pk ws).bind λl=>if l.length<=sizeLine then ae (.tup l) else ah) bx1
def gj (bo:Bool) (k:DE<|List W):DE W:=λenv bx=>fC (k env bx) λws bx1=>b9 bo ((pk ws).bind λl=>if l.length<=sizeLine then ae (.lst l) else ah) bx1
def qU (cl:Nat->ai) (n:Nat) (fn:List W->List Bx->O W):Sp:=λvs H Q E=>∃ F r ws bx,Rel #[H,r.length,F] F r [] H [] bx /\ kF F r ws vs /\ ws.length=n /\ End #[H,r.length,F] #[E,cl] bR F r [] [] Q (fn ws bx)
theorem kF.length:∀ {ws}{vs},kF F r ws vs->ws.length=vs.length
 | [],_,h=>by
   rw[h];rfl
 | d::l,_,h=>by
   let#[v,t,e,_,h2]:=h;rw[e,a6,a6,h2.length]
theorem Rel.enter (R:Rel T F r σ H env bx):Rel #[H,r.length,F] F r [] H [] bx:=
 #[R.fh,λi w e=>by simp at e,R.len,R.nd,R.box,λa u e _=>e,λn a hn e=>(by rw[rO hn]at e;cases e),aA _,aA _,λa u e=>.inr<|.inl e]
theorem Rel.after (R:Rel T F r σ H env bx) (g:bf F r F' r') (R':Rel #[H,r.length,F] F' r' [] H' [] bx'):Rel T F' r' σ H' env bx':=by
 have pre:∀ (n) (a),r[n]?=ae a->r'[n]?=ae a:=λn a e=>by
  let#[t,rfl]:=g.p;rw[cS (List.getElem?_eq_some_iff.mp e).1];show e
 have sub:∀ a,a∈r->a∈r':=λa h=>g.p.subset h;refine#[R'.fh,λi w e=>?_,R'.len,R'.nd,R'.box,λa u e hn=>(R'.keep a u (R.keep a u e λz=>hn<|sub a z) hn),λn a hn e=>?_,cw R.n0 g.p.length_le,R.sl,λa u e=>?_]
 .let#[v,e1,e2]:=R.slot i w e;show#[v,e1,g.den e2]
 .by_cases hl:n<r.length
  .have q:=pre n _<|cW hl;rw[e]at q;cases q;show R.new n _ hn<|cW hl
  .have q:H a=ah:=R'.new n a (vf hl) e;cases z:T.H₀ a with
   |none=>rfl
   |some u=>
     have hr:a∉r:=λha=>by
      let#[m,em]:=List.mem_iff_getElem?.mp ha;have:=jS R'.nd (pre m a em) e;show hl (by rw[<-this];show(List.getElem?_eq_some_iff.mp em).1)
     rw[R.keep a u z hr]at q;cases q
 .rcases R'.fs a u e with z|z|z|z
  .show .inl z
  .show(R.fs a u z).imp id (Or.imp id<|Or.imp id<|sub a)
  .by_cases ha:a∈r
   .show .inr<|.inr<|.inr<|sub a ha
   .refine .inr<|.inr<|.inl ?_;cases y:T.H₀ a with
    |none=>rfl
    |some u=>
      have z':H a=ah:=z;rw[R.keep a u y ha]at z';cases z'
  .show .inr<|.inr<|.inr z
def fq (fn:List W->List Bx->O W) (n:Nat) (k:DE<|List W):DE W:=λenv bx=>fC (k env bx) λws bx1=>if ws.length=n then fn ws bx1 else .bad
theorem Rm (h:tD T Z (fq fn n k) σ H Q):Vk (qU Z.cl n fn) [] Z.E (Ez T Z k) σ H Q:=by
 let#[F,r,env,bx,R,h]:=h;refine#[F,r,env,bx,R,End.bind h λws bx1 F1 r1 vs H1 g1 R1 d1 h1=>?_];split at h1
 .ext hl;refine#[F1,r1,ws,bx1,R1.enter,by rw[rN];show d1,hl,?_];cases e:fn ws bx1 with
  |val w bx'=>rw[e]at h1;show λF' r' v H' g R' d=>h1 F' r' v H' g (R1.after g R') d
  |exc c bx'=>rw[e]at h1;show λF' r' H' g R'=>h1 F' r' H' g (R1.after g R').drop
  |bad=>rw[e]at h1;show h1
 .show h1.elim
inductive OS where
 |nx (env:bu) (bx:List Bx)|rt (w:W) (bx:List Bx)|bk (env:bu) (bx:List Bx)|ct (env:bu) (bx:List Bx)|exc (c:Nat) (bx:List Bx)|bad
abbrev aE:=bu->List Bx->OS
def kS (T:Fr) (Z:Xs) (F:Hp) (r:List ai) (D:Ends):OS->zk
 |.nx aP bx'=>∀ F' r' σ' H',bf F r F' r'->Rel T F' r' σ' H' aP bx'->D.nx σ' H'
 |.rt w bx'=>∀ F' r' v H',bf F r F' r'->Rel T F' r' [] H' [] bx'->bR F' r' w v->D.rt v H'
 |.bk aP bx'=>∀ F' r' σ' H',bf F r F' r'->Rel T F' r' σ' H' aP bx'->D.bk σ' H'
 |.ct aP bx'=>∀ F' r' σ' H',bf F r F' r'->Rel T F' r' σ' H' aP bx'->D.ct σ' H'
 |.exc c bx'=>∀ F' r' H',bf F r F' r'->Rel T F' r' [] H' [] bx'->Z.E (.ref<|Z.cl c) ah H'
 |.bad=>False
theorem kS.weak {D}(g:bf F r F' r'):∀ {o},kS T Z F r D o->kS T Z F' r' D o
 |.nx _ _,h=>λF2 r2 s2 H2 g2=>h F2 r2 s2 H2<|g.trans g2
 |.rt _ _,h=>λF2 r2 s2 H2 g2=>h F2 r2 s2 H2<|g.trans g2
 |.bk _ _,h=>λF2 r2 s2 H2 g2=>h F2 r2 s2 H2<|g.trans g2
 |.ct _ _,h=>λF2 r2 s2 H2 g2=>h F2 r2 s2 H2<|g.trans g2
 |.exc _ _,h=>λF2 r2 H2 g2=>h F2 r2 H2<|g.trans g2
 |.bad,h=>h
noncomputable def bp {α}(m:O α) (k:α->List Bx->OS):OS:=
 match m with
 |.val a bx=>k a bx
 |.exc c bx=>.exc c bx
 |.bad=>.bad
theorem End.bp {D}(h:kS T Z F r D<|DL.bp m k)
 (c:∀ d bx1 F1 r1 v H1,bf F r F1 r1->Rel T F1 r1 σ H1 env bx1->R1 F1 r1 d v->kS T Z F1 r1 D (k d bx1)->Q1 v H1):End T Z R1 F r σ env Q1 m:=by
 cases m with
 |val d bx=>show λF' r' v H' g R q=>c d bx F' r' v H' g R q<|kS.weak g h
 |exc n bx=>show h
 |bad=>show h
def tS (T:Fr) (Z:Xs) (m:aE):TS:=λD σ H=>∃ F r env bx,Rel T F r σ H env bx /\ kS T Z F r D (m env bx)
def eB (X:Cx) (T:Fr) (Z:Xs) (s:bK) (m:aE):zk:=PS X s<|tS T Z m
def xR (X:Cx) (T:Fr) (Z:Xs) (s:List bK) (m:aE):zk:=cX X s<|tS T Z m
section
variable {st:bK}
noncomputable def a8:aE:=λenv bx=>.nx env bx
noncomputable def fB (m k:aE):aE:=λenv bx=>match m env bx with|.nx bb bx1=>k bb bx1|o=>o
theorem JV (h1:eB X T Z st m) (h2:xR X T Z rest k):xR X T Z (st::rest) (fB m k):=by
 refine cX.imp (gX h1 h2) λD σ H=>bg λF r env bx R h=>#[F,r,env,bx,R,?_];unfold fB at h;cases e:m env bx with
 |nx bb bx1=>rw[e]at h;show λF1 r1 σ1 H1 g R1=>#[F1,r1,bb,bx1,R1,kS.weak g h]
 |rt w bx1=>rw[e]at h;show h
 |bk bb bx1=>rw[e]at h;show h
 |ct bb bx1=>rw[e]at h;show h
 |exc c bx1=>rw[e]at h;show h
 |bad=>rw[e]at h;show h
noncomputable def aaa:aE:=λenv bx=>.bk env bx
noncomputable def aab:aE:=λenv bx=>.ct env bx
def gO (m:DE W):aE:=λenv bx=>bp (m env bx) λ_ bx1=>.nx env bx1
def fJ (m:DE W):aE:=λenv bx=>bp (m env bx) λw bx1=>.rt w bx1
def aT (t:DE Bool) (m k:aE):aE:=λenv bx=>bp (t env bx) λb bx1=>match b with|true=>m env bx1|false=>k env bx1
abbrev DG:=W->bu->List Bx->Option (bu×List Bx)
abbrev uF:=List W->bu->List Bx->Option (bu×List Bx)
noncomputable def aac (T:Fr) (F:Hp) (r:List ai) (Q:St->Hp->zk):Option (bu×List Bx)->zk
 |none=>False
 |some (aP,bx')=>∀ F' r' σ' H',bf F r F' r'->Rel T F' r' σ' H' aP bx'->Q σ' H'
def tG (T:Fr) (g:DG):TG:=λv σ H Q=>∃ F r env bx w,Rel T F r σ H env bx /\ bR F r w v /\ aac T F r Q (g w env bx)
def ad5 (T:Fr) (g:uF):xr:=λvs σ H Q=>∃ F r env bx ws,Rel T F r σ H env bx /\ kF F r ws vs /\ aac T F r Q (g ws env bx)
def qV (X:Cx) (T:Fr) (tg:aD) (g:DG):zk:=PG X tg<|tG T g
def Ko (X:Cx) (T:Fr) (tg:List aD) (g:uF):zk:=rZ X tg<|ad5 T g
theorem PG.imp (h:PG X tg t) (f:∀ v σ H Q,t' v σ H Q->t v σ H Q):PG X tg t':=λpins s σ H v u Q I r q=>h pins s σ H v u Q I r<|f v σ H Q q
theorem rZ.imp (h:rZ X tg t) (f:∀ v σ H Q,t' v σ H Q->t v σ H Q):rZ X tg t':=λpins s σ H v u Q I r q=>h pins s σ H v u Q I r<|f v σ H Q q
noncomputable def ff (i:Nat):DG:=λw env bx=>ae (env.set i<|ae w,bx)
theorem Rel.set (R:Rel T F r σ H env bx) (d:bR F r w v) (i):Rel T F r (σ.set i<|ae v) H (env.set i<|ae w) bx:=by
 refine#[R.fh,λj w' e=>?_,R.len,R.nd,R.box,R.keep,R.new,R.n0,by rw[qC,qC];show R.sl,R.fs];by_cases hj:j=i
 .subst hj;have hl:j<env.length:=by
   have:=(List.getElem?_eq_some_iff.mp e).1;rw[qC]at this;show this
  rw[pI hl]at e;cases e;show#[v,pI<|dR hl R.sl,d]
 .rw[rM<|Ne.symm hj]at e;let#[u,e1,e2]:=R.slot j w' e;show#[u,by rw[rM<|Ne.symm hj];show e1,e2]
theorem JW (i) (hN:X.N.Nodup) (hi:X.N[i]?=ae x:=by rfl) (hx:Loc X.env.scope x:=by first|show Or.inl zj|show Or.inr zj) (hf:X.fn x=ag \/ X.env.scope.names.lookup x=ae .local:=by first|show .inl zj|show .inr zj|assumption):qV X T (.Name x pos) (ff i):=
 PG.imp (Br hN hi hx hf) λv σ H Q=>EA λF r env bx w R d h=>h F r _ H (.refl F r)<|R.set d i
noncomputable def mZ:uF:=λws env bx=>match ws with|[]=>ae (env,bx)|_=>ah
noncomputable def gG (g:DG) (k:uF):uF:=λws env bx=>match ws with|w::l=>(g w env bx).bind λ(bb,bx1)=>k l bb bx1|_=>ah
theorem Gz {k}(h1:qV X T e g) (h2:Ko X T es k) (hs:(assignEach (e::es) X.env).map (·.2)=assign e X.env::(assignEach es X.env).map (·.2):=by rfl):Ko X T (e::es) (gG g k):=by
 refine rZ.imp (oV h1 h2 hs) λv σ H Q=>EA λF r env bx ws R d h=>?_;cases ws with
 |nil=>show h.elim
 |cons w l=>
   let#[u,t,rfl,d1,d2]:=d;refine#[u,t,rfl,F,r,env,bx,w,R,d1,?_];unfold gG at h;cases eg:g w env bx with
   |none=>simp[eg]at h;show h.elim
   |some o=>
     let#[bb,bx1]:=o;simp[eg,bJ]at h;intro F1 r1 σ1 H1 g1 R1;refine#[F1,r1,bb,bx1,l,R1,d2.mono g1,?_];cases ek:k l bb bx1 with
     |none=>simp[ek]at h;show h.elim
     |some o2=>
       simp[ek]at h;show λF2 r2 σ2 H2 g2 R2=>h F2 r2 σ2 H2 (g1.trans g2) R2
theorem aG.ws:∀ {l}{vs},aG F l vs->kF F r (l.map W.d) vs
 |[],_,h=>h
 | d::l,_,h=>by
   let#[v,t,e,h1,h2]:=h;show#[v,t,e,h1,h2.ws]
noncomputable def lC (n:Nat) (k:uF):DG:=λw env bx=>match w with|.d (.tup l)=>if l.length=n then k (l.map W.d) env bx else ah|_=>ah
theorem Nb {k}(hc:X.calm=ag) (h:Ko X T es k) (hn:(assignEach es X.env).length=n:=by rfl) (n8:(assignEach es X.env).findIdx? (·.1)=ah:=by rfl):qV X T (.Tuple es i pos) (lC n k):=by
 refine PG.imp (Jp hc h hn n8) λv σ H Q=>EA λF r env bx w R d h=>?_;unfold lC at h;split at h
 .split at h
  .ext hl;let#[p,vs,rfl,h1,h2]:=d;show#[p,vs,rfl,.of<|R.fh _ _ h1,by rw[<-h2.length];show hl,F,r,env,bx,_,R,h2.ws,h]
  .show h.elim
 .show h.elim
def fO (m:DE W) (g:DG):aE:=λenv bx=>bp (m env bx) λw bx1=>match g w env bx1 with|some (bb,aq)=>.nx bb aq|none=>.bad
theorem Ff (he:PD X T Z e ma) (hg:qV X T tg g) (hs:swapsWithSole [tg] e pos.line X.env=pure af:=by rfl) (hw:swappedStores [tg] e X.env=pure ah:=by rfl)
 (h1:(assignEach [tg] X.env).map (·.2)=[assign tg X.env]:=by rfl):eB X T Z (.Assign [tg] e pos) (fO ma g):=
 PS.imp (Jq he hg hs hw h1) λD σ H h=>(λh=>by
  let#[F,r,env,bx,R,h]:=h;refine#[F,r,env,bx,R,End.bp h λw bx1 F1 r1 v H1 g1 R1 d1 h1=>#[F1,r1,env,bx1,w,R1,d1,?_]];cases eg:g w env bx1 with
  |none=>simp[eg]at h1;show h1.elim
  |some o=>simp[eg]at h1;show h1) h
theorem Nc (i) (he:PD X T Z e ma) (hN:X.N.Nodup) (hi:X.N[i]?=ae x:=by rfl) (hx:Loc X.env.scope x:=by first|show Or.inl zj|show Or.inr zj) (hs:swapsWith e (ae<|.Name x pos') pos.line X.env=pure af:=by rfl) (hf:X.fn x=ag \/ X.env.scope.names.lookup x=ae .local:=by first|show .inl zj|show .inr zj|assumption) :
 eB X T Z (.Assign [.Name x pos'] e pos) (fO ma<|ff i):=PS.imp (mH hN hi hx he hs hf) λD σ H=>bg λF r env bx R h=>(#[F,r,env,bx,R,End.bp h λw bx1 F1 r1 v H1 g1 R1 d1 h1=>h1 F1 r1 _ H1 (.refl F1 r1)<|R1.set d1 i])
def dJ (i j:Nat) (m:DE<|List W):aE:=λenv bx=>bp (m env bx) λws bx1=>match ws with|[x,y]=>.nx ((env.set i<|ae x).set j<|ae y) bx1|_=>.bad
theorem S0 {m}{D}(h:tS T Z (dJ i j m) D σ H):Zz i j (Ez T Z m) D σ H:=by
 let#[F,r,env,bx,R,h]:=h;refine#[F,r,env,bx,R,End.bp h λws bx1 F1 r1 vs H1 g1 R1 d1 h1=>?_];split at h1
 .let#[v,t,rfl,q1,u,t2,rfl,q2,q3]:=d1;cases (q3);show#[v,u,rfl,h1 F1 r1 _ H1 (.refl F1 r1)<|(R1.set q1 i).set q2 j]
 .show h1.elim
def vT (F:Hp) (r:List ai) (ds:List W) (J:It):zk:=
 ∀ (T:Fr) (i:Nat) (F1:Hp) (r1:List ai) (σ1:St) (H1:Hp) (bb:bu) (bx1:List Bx),bf F r F1 r1->Rel T F1 r1 σ1 H1 bb bx1 ->
  (ds.length=i->J.stop i H1) /\ ∀ w,ds[i]?=ae w->J.go i H1 /\ ∀ x H2,J.IP i H1 x H2->∃ F2,bf F1 r1 F2 r1 /\ Rel T F2 r1 σ1 H2 bb bx1 /\ bR F2 r1 w x
def tI (T:Fr) (Z:Xs) (m:DE<|List W):TI:=λσ H R=>∃ F r env bx,Rel T F r σ H env bx /\ End T Z vT F r σ env R (m env bx)
def xS (X:Cx) (T:Fr) (Z:Xs) (tg iter:aD) (m:DE<|List W):zk:=PI X tg iter<|tI T Z m
theorem PI.imp (h:PI X tg iter t) (f:∀ σ H Q,t' σ H Q->t σ H Q):PI X tg iter t':=λpins s σ H R I q=>h pins s σ H R I<|f σ H R q
noncomputable def eD (g:DG) (body:aE):List W->aE
 |[],env,bx=>.nx env bx
 | w::l,env,bx=>match g w env bx with
   |none=>.bad
   | some (bb,bx1)=>match body bb bx1 with
     |.nx cG aq=>eD g body l cG aq
     |.ct cG aq=>eD g body l cG aq
     |.bk cG aq=>.nx cG aq
     |o=>o
def jT (m:DE<|List W) (g:DG) (body:aE):aE:=λenv bx=>bp (m env bx) λds bx1=>eD g body ds env bx1
theorem S5 {D}(h:tS T Z (jT mi g m) D σ H):ZA (tI T Z mi) (tG T g) (tS T Z m) D σ H:=by
 let#[F,r,env,bx,R,h]:=h;show#[F,r,env,bx,R,End.bp h λds bx1 F1 r1 J H1 g1 R1 y1 h1=>(λR1 y1 h1=>by
  refine#[λi n σ' H'=>∃ pre l F' r' aP bx',ds=pre++l /\ pre.length=i /\ n=l.length /\ bf F1 r1 F' r' /\ Rel T F' r' σ' H' aP bx' /\ kS T Z F' r' D (eD g m l aP bx'),#[ds.length,[],ds,F1,r1,env,bx1,rfl,rfl,rfl,.refl F1 r1,R1,h1],?_];rintro i n σ' H' ⟨pre,l,F',r',aP,bx',pR,hi,hn,g',R',h'⟩;let#[ys,yg]:=y1 T i F' r' σ' H' aP bx' g' R';cases l with
  |nil=>show .inl #[ys (by rw[pR,rN];lia),h' F' r' σ' H' (.refl F' r') R']
  |cons w l=>
    let#[go,yl]:=yg w (by rw[pR,dD zb,hi,k8];rfl);refine .inr #[go,λσ2 H2=>∃ F2 r2 cG aq,bf F1 r1 F2 r2 /\ Rel T F2 r2 σ2 H2 cG aq /\ kS T Z F2 r2 D _,λσ2 H2 ⟨F2,r2,cG,aq,g2,R2,h2⟩=>#[l.length,by rw[hn];show qi _,pre++[w],l,F2,r2,cG,aq,by rw[pR,vo];rfl,by rw[bH,hi];rfl,rfl,g2,R2,h2],λx H2 hy=>?_];let#[F2,g2,R2,d2]:=yl x H2 hy;refine#[F2,r',aP,bx',w,R2,d2,?_];simp[eD]at h';cases eg:g w aP bx' with
    |none=>simp[eg]at h';show h'.elim
    |some o=>
      let#[tM,cb]:=o;simp[eg]at h';intro F3 r3 σ3 H3 g3 R3;refine#[F3,r3,tM,cb,R3,?_];have gg:=(g'.trans g2).trans g3;cases em:m tM cb with
      |nx Kq eQ=>simp[em]at h';show λF4 r4 σ4 H4 g4 R4=>#[F4,r4,Kq,eQ,gg.trans g4,R4,kS.weak ((g2.trans g3).trans g4) h']
      |ct Kq eQ=>simp[em]at h';show λF4 r4 σ4 H4 g4 R4=>#[F4,r4,Kq,eQ,gg.trans g4,R4,kS.weak ((g2.trans g3).trans g4) h']
      |bk Kq eQ=>simp[em]at h';show λF4 r4 σ4 H4 g4 R4=>h' F4 r4 σ4 H4 ((g2.trans g3).trans g4) R4
      |rt w eQ=>simp[em]at h';show kS.weak (g2.trans g3) h'
      |exc c eQ=>simp[em]at h';show kS.weak (g2.trans g3) h'
      |bad=>simp[em]at h';show h') R1 y1 h1]
def bS (m:DE W):DE (List W):=λenv bx=>fC (m env bx) λw bx1=>match w with|.d (.lst l)=>.val (l.map W.d) bx1|.d (.tup l)=>.val (l.map W.d) bx1|_=>.bad
end
noncomputable def pT:OS->O W
 |.rt w bx=>.val w bx
 |.nx _ bx=>.val (.d .non) bx
 |.exc c bx=>.exc c bx
 |_=>.bad
noncomputable def pU (n:Nat):O W->O W
 |.val (.d x) bx=>.val (.d x)<|bx.take n
 |.val w bx=>.val w bx
 |.exc c bx=>.exc c<|bx.take n
 |.bad=>.bad
noncomputable def envOf (n:Nat) (ws:List W):bu:=ws.map ae++List.replicate (n-ws.length) ah
def aN (n:Nat) (m:aE):List W->List Bx->O W:=λws bx=>pU bx.length<|pT<|m (envOf n ws) bx
noncomputable def aU (m:aE):aE:=λenv bx=>match m env bx with|.exc _ _=>.bad|o=>o
theorem kF.get:∀ {l}{vs}{i:Nat}{d},kF F r l vs->l[i]?=ae d->∃ v,vs[i]?=ae v /\ bR F r d v
 |[],_,_,_,_,e=>by simp at e
 | x::l,_,0,d,h,e=>by
   let#[v,t,q,h1,_]:=h;simp at e;subst e;subst q;show#[v,rfl,h1]
 | x::l,_,i+1,d,h,e=>by
   let#[v,t,q,_,h2]:=h;subst q;let#[u,e1,e2]:=kF.get h2 (by simpa using e);show#[u,by simpa using e1,e2]
theorem Rel.start (R:Rel T F r [] H [] bx) (d:kF F r ws vs):Rel T F r (start N vs) H (envOf N.length ws) bx:=by
 have hl:=d.length;refine#[R.fh,λi w e=>?_,R.len,R.nd,R.box,R.keep,R.new,R.n0,?_,R.fs]
 .unfold envOf at e;unfold L2.start;by_cases hi:i<ws.length
  .rw[cS (by rw[aX];show hi),nY]at e;cases q:ws[i]? with
   |none=>rw[q]at e;cases e
   |some w'=>
     rw[q]at e;cases e;let#[v,e1,e2]:=d.get q;refine#[v,?_,e2];rw[cS (by rw[aX,<-hl];show hi),nY,e1];rfl
  .rw[dD (by rw[aX];lia)]at e;rw[Yb]at e;split at e<;>cases e
 .unfold envOf L2.start;rw[bH,bH,aX,aX,QN,QN,hl];show aA _
theorem S6 {α:Type}{l l':List α}(h:l <+: l'):l'.take l.length=l:=by
 let#[t,rfl]:=h;simp
theorem Rel.cut (g:bf F r F' r') (R:Rel #[H,r.length,F] F' r' [] H' [] bx'):Rel #[H,r.length,F] F' r [] H' [] (bx'.take r.length):=by
 have hle:=g.p.length_le;have pre:∀ (n) (a),r[n]?=ae a->r'[n]?=ae a:=λn a e=>by
  let#[t,rfl]:=g.p;rw[cS (List.getElem?_eq_some_iff.mp e).1];show e
 refine#[R.fh,λi w e=>by simp at e,?_,(List.Sublist.nodup (List.IsPrefix.sublist g.p) R.nd),λn c a e1 e2=>?_,λa u e hn=>?_,λn a hn e=>?_,aA _,aA _,λa u e=>?_]
 .rw[pJ,<-R.len];lia
 .have pV:=(List.getElem?_eq_some_iff.mp e2).1;rw[Yc pV]at e1;have k:=R.box n c a e1<|pre n a e2;cases c with
  |ins _ _=>let#[q1,dx,vs,q2,q3]:=k;show#[q1,dx,vs,q2,cY.cB (Sub.refl F').d (λm hm b e=>by
   have q:=pre m _<|cW<|vh hm pV;rw[e]at q;rw[cW<|vh hm pV];show q.symm) _ q3]
  |_=>show k
 .refine R.keep a u e λz=>?_;let#[m,em]:=List.mem_iff_getElem?.mp z;by_cases hm:m<r.length
  .have q:=pre m _<|cW hm;rw[em]at q;cases q;show hn<|yU hm
  .have q':=(R.new m a (vf hm) em);rw[e]at q';cases q'
 .rw[rO hn]at e;cases e
 .rcases R.fs a u e with y|z|z|z
  .show .inl y
  .show .inr<|.inl z
  .show .inr<|.inr<|.inl z
  .let#[m,em]:=List.mem_iff_getElem?.mp z;by_cases hm:m<r.length
   .have q:=pre m _<|cW hm;rw[em]at q;cases q;show .inr<|.inr<|.inr<|yU hm
   .show .inr<|.inr<|.inl<|R.new m a (vf hm) em
theorem Fg {bx:List Bx}(hb:bx.length=r.length) (h:End #[H,r.length,F] Z bR F r [] [] Q<|pU bx.length o):End #[H,r.length,F] Z bR F r [] [] Q o:=by
 rw[hb]at h;cases o with
 |bad=>show h
 |exc c bx1=>show λF' r' H' g R=>h F' r H' #[g.s,eJ r]<|R.cut g
 |val w bx1=>
   cases w with
   |d x=>show λF' r' v H' g R d=>h F' r v H' #[g.s,eJ r] (R.cut g) d
   |b n=>show h
   |s l=>show h
   |x i=>show h
   |_=>show h
theorem Fh (h:End T Z bR F r [] [] Q<|pT o):kS T Z F r { nx:=λ_ H'=>Q .non H',rt:=Q } o:=by
 cases o with
 |nx env bx=>show λF' r' σ' H' g R=>h F' r' .non H' g R.drop zj
 |rt w bx=>show λF' r' v H' g R d=>h F' r' v H' g R d
 |exc c bx=>show h
 |bk env bx=>show(h).elim
 |ct env bx=>show(h).elim
 |bad=>show h
section
variable {K:PySem.W.Frag} {st:bK}
theorem Ua (F:dY K x qual st f fd) (S:qL N ps<|fG st)
 (nM:∀ (cdv) (A) (outer) (s) (H) (E) (n) (F0),bI k (A.deeper<|envOfC qual (fG st) s.heap.objs.size f cdv) ->
  xR (qr (dq P w) P w K mg base N qual (fG st) f cdv A outer s H E) #[H,n,F0] #[E,cl] (gf st) m):cQ P w K mg base (dq P w) (k+1) f fd ps (qU cl ps.length<|aN N.length m):=by
 refine F.adU S (λvs H Q E h=>?_) λcdv A outer s H vs Q E hr h=>?_
 .let#[F,r,ws,bx,_,d,hl,_]:=h;rw[<-d.length];show hl
 .let#[F,r,ws,bx,R,d,hl,h]:=h;show#[_,nM cdv A outer s H E r.length F hr,F,r,envOf N.length ws,bx,R.start d,Fh<|Fg R.len.symm h]
theorem Pa (G:cQ P w K mg base qN k f fd ps sp):cQ P w K mg base CX k f fd ps sp:=
 #[G.len,λA outer s H args us vs Q E hr e0 hb hv hs=>ug (G.run A outer s H args us vs Q E hr e0 hb hv hs) λr s' h=>by
  cases r with
  |error e=>show False.elim h
  |ok fl=>
    cases fl with
    |ret u=>show h
    |next=>show h
    |brk=>show h
    |cont=>show h]
theorem S7 (F:dY K x qual st f fd) (S:qL N ps<|fG st)
 (nM:∀ (cdv) (A) (outer) (s) (H) (E) (n) (F0),bI k (A.deeper<|envOfC qual (fG st) s.heap.objs.size f cdv) ->
  xR (qr qN P w K mg base N qual (fG st) f cdv A outer s H E).sZ #[H,n,F0] #[E0,cl] (gf st) m):cQ P w K mg base (dq P w) (k+1) f fd ps (qU cl ps.length<|aN N.length<|aU m):=by
 refine Pa<|F.ok S (λvs H Q E h=>?_) λcdv A outer s H vs Q E hr h=>?_
 .let#[F,r,ws,bx,_,d,hl,_]:=h;rw[<-d.length];show hl
 .let#[F,r,ws,bx,R,d,hl,h]:=h;refine#[_,nM cdv A outer s H E r.length F hr,F,r,envOf N.length ws,bx,R.start d,?_];have h':=Fh<|Fg R.len.symm h;unfold aU at h';cases e:m _ bx with
  |nx env bx1=>simp[e]at h';show h'
  |rt w bx1=>simp[e]at h';show h'
  |bk env bx1=>simp[e]at h';show h'
  |ct env bx1=>simp[e]at h';show h'
  |exc c bx1=>simp[e]at h';show h'.elim
  |bad=>simp[e]at h';show h'
end
theorem BC:Passes (dq X.prog X.w) X E0:=λ_ _ _ _ _ _ _ h=>by
 let#[_,_,_,_,_,_,_,_,_,_,_,_,_,h]:=h;show h.elim
noncomputable def bindB {α β}(m:O α) (k:α->List Bx->O β):O β:=
 match m with
 |.val a bx=>k a bx
 |_=>.bad
def bw (g:DG) (tf:DE Bool) (te:DE W):List W->bu->List Bx->List D->O (List D)
 |[],_,bx,acc=>.val acc bx
 | w::l,env,bx,acc=>match g w env bx with
   |none=>.bad
   | some (bb,bx1)=>bindB (tf bb bx1) λb aq=>match b with
     |false=>bw g tf te l bb aq acc
     | true=>bindB (te bb aq) λy cb=>match y with
       |.d d=>if acc.length<sizeLine then bw g tf te l bb cb (acc++[d]) else .bad
       |_=>.bad
noncomputable def eF (src:List<|Option Nat) (env:bu):bu:=src.map λo=>o.bind λi=>(env[i]?).bind id
def gc (bo:Bool) (src:List<|Option Nat) (mi:DE<|List W) (g:DG) (tf:DE Bool) (te:DE W):DE W:=λenv bx=>
 fC (mi env bx) λds bx1=>fC (bw g tf te ds (eF src env) bx1 []) λl aq=>b9 bo (ae<|.lst l) aq
theorem Rel.src (R:Rel T F r σ H env bx) (src):Rel T F r (uC src σ) H (eF src env) bx:=by
 refine#[R.fh,λj w e=>?_,R.len,R.nd,R.box,R.keep,R.new,R.n0,?_,R.fs]
 .unfold eF at e;unfold L2.uC;rw[nY]at e ⊢;cases q:src[j]? with
  |none=>rw[q]at e;cases e
  |some o=>
    rw[q]at e;cases o with
    |none=>cases e
    |some i=>
      have e':(env[i]?).bind id=ae w:=Option.some.inj e;cases z:env[i]? with
      |none=>rw[z]at e';cases e'
      |some o'=>
        rw[z]at e';have e2:=e';subst e2;let#[v,e1,e2]:=R.slot i w z;show#[v,by simp[e1],e2]
 .unfold eF L2.uC;rw[aX,aX];show aA _
theorem Rel.inner (R:Rel T F r σ H env bx) (g:bf F r F' r') (R':Rel #[H,r.length,F] F' r' σ' H' aP bx'):Rel T F' r' σ' H' aP bx':=by
 have q:=R.after g R'.drop;show#[q.fh,R'.slot,q.len,q.nd,q.box,q.keep,q.new,q.n0,R'.sl,q.fs]
theorem Rel.again (R:Rel T F r σ H env bx):Rel #[H,r.length,F] F r σ H env bx:=
 #[R.fh,R.slot,R.len,R.nd,R.box,λa u e _=>e,λn a hn e=>(by rw[rO hn]at e;cases e),aA _,R.sl,λa u e=>.inr<|.inl e]
structure Own (F:Hp) (r:List ai) (H:Hp) (a:ai) (vs:List V):zk where
 h:H a=ae (.lst vs)
 f:F a=ah
 b:a∉r
theorem Own.inner (o:Own F r H a vs) (g:bf F r F' r') (R':Rel #[H,r.length,F] F' r' σ' H' aP bx'):Own F' r' H' a vs:=by
 have hb:a∉r':=λz=>by
  let#[m,em]:=List.mem_iff_getElem?.mp z;by_cases hm:m<r.length
  .let#[t,e]:=g.p;rw[<-e,cS hm]at em;show o.b<|List.mem_iff_getElem?.mpr #[m,em]
  .have q:H a=ah:=R'.new m a (vf hm) em;rw[o.h]at q;cases q
 refine#[R'.keep a _ o.h hb,?_,hb];cases q:F' a with
 |none=>rfl
 |some u=>
   rcases R'.fs a u q with⟨Ex,rfl⟩|z|z|z
   .have:=R'.fh a _ q;rw[R'.keep a _ o.h hb]at this;cases this
   .have z':F a=ae u:=z;rw[o.f]at z';cases z'
   .have z':H a=ah:=z;rw[o.h]at z';cases z'
   .show absurd z hb
end L2.DL
namespace L2
theorem GA {K} (it) (lo) (n):Turn P w K tg (vE lo n) [it] it (λi h=>IsLongIter h it (lo+(i)*1) ((n)-(i)) 1) where
 mem:=by simp
 obj:=λi h st b hb=>by
  have e:b=it:=by simpa using hb
  subst e;show#[_,st,λv z=>by
   cases z]
 keep:=λi h h' st k=>k it zg _ st
 item:=by
  intro X hP hw hK hc i pins s σ H E I hf st hg;subst hP hw hK;let#[f0,f1,f2,f3,f4,f5]:=hf it zg;refine(Walks.longrange (prog:=X.prog) (w:=X.w) (I.ok.hd hc) it lo 1 n).item i s _ _ hg st λv h' tk hv pd kk=>?_;let#[t,rfl]:=hv;refine#[_,rfl,Cc pd zj zj (by decide) #[.int<|lo+i,H,(I.turned (λb o hb e=>kk b o (by simpa using hb) e) f0 f1 f3 f4 f5),#[t,?_],#[rfl,rfl],pd,λb hb=>(hf b hb).1]];rw[YV]
 done:=by
  intro X hP hw hK hc i pins s σ H E I hf st hg;let#[f0,f1,f2,f3,f4,f5]:=hf it zg;show wpAny_pyNext_long_end (I.ok.hd hc) st (by have:n<=i:=hg;lia) λh' eb=>#[rfl,I.turned (λb o hb e=>eb b o hb e) f0 f1 f3 f4 f5]
 self:=λ_ _ _ _ _ st h=>wpAny_pyIter_longiter st h

theorem GB {lo}(I:Inv X pins σ H s)
 (q:R (vE lo (hi-lo).toNat) H):wpAny zd X.A (pyIter<|.ref s.heap.objs.size) (Va X pins σ tg R) E { s with heap:=s.heap.push { cls:=.type "range",data:=.fields (List.toArray [.int lo t,.int hi u,.int 1 v]) },toks:=tk }:=by
 have e1:lo+((0))*1=lo:=by simp
 have e2:(((hi-lo).toNat))-((0))=Builtin.Range.rangeSize lo hi 1:=by rw[Xg];split<;>lia
 have I1:Inv X pins σ H { s with heap:=s.heap.push { cls:=.type "range",data:=.fields (List.toArray [.int lo t,.int hi u,.int 1 v]) },toks:=tk }:=I.kept λb o e=>aR _ e;have hf:∀ b∈[(s.heap.push { cls:=.type "range",data:=.fields (List.toArray [.int lo t,.int hi u,.int 1 v]) }).objs.size],n9 X pins H b:=λb hb=>by
  have e:b=(s.heap.push { cls:=.type "range",data:=.fields (List.toArray [.int lo t,.int hi u,.int 1 v]) }).objs.size:=by simpa using hb
  subst e;show I1.xt (aA _)<|I1.ay.fresh<|aA _
 cases hb:Builtin.Range.small lo hi 1 with
 |true=>
   refine Xf (IsRange.new ..) hb ?_;refine#[_,_,_,_,H,rfl,I1.kept λb o e=>aR _ e,oW _ lo (hi-lo).toNat,?_,hf,q];change IsRangeIter _ _ (lo+((0))*1) ((((hi-lo).toNat))-((0))) 1;rw[e1,e2];show bC _ zj
 |false=>
   refine wpAny_pyIter_longrange (IsRange.new ..) hb ?_;refine#[_,_,_,_,H,rfl,I1.kept λb o e=>aR _ e,GA _ lo (hi-lo).toNat,?_,hf,q];change IsLongIter _ _ (lo+((0))*1) ((((hi-lo).toNat))-((0))) 1;rw[e1,e2];show bC _ zj
def ad6 (ta:TA):TI:=λσ H R=>ta σ H λvs H1=>∃ i j,vs=[.int i,.int j] /\ R (vE i (j-i).toNat) H1
theorem GC (hg:Gl X "range") (hm:X.mg "range"=ah) (ha:PA X [a,b] ta) (hs:starEach [a,b] X.env=[(af,eval a X.env),(af,eval b X.env)]:=by rfl) (kg:starEach [b] X.env=[(af,eval b X.env)]:=by rfl) :
 PI X tg (.Call (.Name "range" p) [a,b] [] pos) (ad6 ta):=by
 intro pins s σ H R I h;refine Call_<|jc I hg hm boot_range<|Ir (nv (ha pos pins s σ H _ I h) λus s1 vs H1 I1 r1 q1=>?_) (by rw[hs,kg]) (by rw[kg];rfl);let#[i,j,e,q]:=q1;subst e;cases r1 with
 |cons r rr=>
   cases rr with
   |cons r' rr=>
     cases rr;let#[t,rfl]:=r;let#[t',rfl]:=r';show call_range_2<|GB I1 q
end L2
namespace L2.DL

theorem Rel.aad (R:Rel T F r σ H env bx) (h:H p=ah):Rel T F r σ (upd H p o) env bx:=by
 have hs:∀ a u,H a=ae u->upd H p o a=ae u:=λa u e=>by rw[fv<|fI e h];show e
 show#[λa u e=>hs a u<|R.fh a u e,R.slot,R.len,R.nd,λn c a e1 e2=>(R.box n c a e1 e2).grow (Sub.refl F) (eJ r) id<|hs a,λa u e hn=>hs a u<|R.keep a u e hn,R.new,R.n0,R.sl,R.fs]
theorem Rel.ad7 (R:Rel T F r σ H env bx) (w:Own F r H p vs) (hT:T.H₀ p=ah):Rel T F r σ (upd H p o) env bx:=by
 refine#[λa u e=>?_,R.slot,R.len,R.nd,λn c a e1 e2=>?_,λa u e hn=>?_,R.new,R.n0,R.sl,R.fs]
 .rw[fv (λz=>by rw[z,w.f]at e;cases e)];show R.fh a u e
 .have ha:a≠p:=λz=>w.b<|List.mem_iff_getElem?.mpr #[n,z▸e2];show(R.box n c a e1 e2).grow (Sub.refl F) (eJ r) id λu z=>by rw[fv ha];show z
 .rw[fv (λz=>by rw[z,hT]at e;cases e)];show R.keep a u e hn
theorem Rel.ad8 (R:Rel T F r σ H env bx) (w:Own F r H p vs) (hT:T.H₀ p=ah):Rel T (upd F p<|.lst vs) r σ H env bx /\ bf F r (upd F p<|.lst vs) r:=by
 have s:=jt (o:=.lst vs) w.f;refine#[#[λa u e=>?_,λi w e=>?_,R.len,R.nd,λn c a e1 e2=>?_,R.keep,R.new,R.n0,R.sl,λa u e=>?_],s,eJ r]
 .by_cases ha:a=p
  .subst ha;rw[fu]at e;cases e;show w.h
  .rw[fv ha]at e;show R.fh a u e
 .let#[v,e1,e2]:=R.slot i w e;show#[v,e1,e2.mono s<|eJ r]
 .have ha:a≠p:=λz=>w.b<|List.mem_iff_getElem?.mpr #[n,z▸e2];show(R.box n c a e1 e2).grow s (eJ r) (λz=>by rw[fv ha];show z) λu z=>z
 .by_cases ha:a=p
  .subst ha;show .inr<|.inr<|.inl hT
  .rw[fv ha]at e;show R.fs a u e
theorem Rel.ad9 (R:Rel T F r σ H env bx) (w:Own F r H p vs) (hT:T.H₀ p=ah) (d:aG F l vs):Rel T F (r++[p]) σ H env (bx++[.lst l]) /\ bf F r F (r++[p]) /\ (r++[p])[bx.length]?=ae p:=by
 have g:bf F r F (r++[p]):=#[Sub.refl F,pL r [p]];refine#[#[R.fh,λi w e=>?_,by rw[bH,bH,R.len];rfl,?_,λn c' a e1 e2=>?_,λa u e hn=>R.keep a u e λz=>hn<|nX _ z,λn a hn e=>?_,by rw[bH];show cw R.n0 (rL _ _),R.sl,λa u e=>(R.fs a u e).imp id<|Or.imp id<|Or.imp id λz=>nX _ z],g,(by rw[<-R.len,dD<|aA _,k8];rfl)]
 .let#[v,e1,e2]:=R.slot i w e;show#[v,e1,g.den e2]
 .rw[sW];refine#[R.nd,by simp,λa ha b hb=>?_];rw[hV]at hb;subst hb;show λz=>w.b<|z▸ha
 .by_cases hn:n<r.length
  .rw[cS hn]at e2;rw[cS (by rw[<-R.len];show hn)]at e1;show(R.box n c' a e1 e2).grow (Sub.refl F) (pL r [p]) id λ_ z=>z
  .rw[dD zb]at e2;rw[dD (by rw[<-R.len];lia)]at e1;have hl:n-r.length=0:=by
    cases q:n-r.length with
    |zero=>rfl
    |succ k=>rw[q]at e2;simp at e2
   have nC:n-bx.length=0:=by rw[<-R.len];show hl
   rw[hl]at e2;rw[nC]at e1;simp at e1 e2;subst e1 e2;show#[w.f,vs,w.h,d]
 .by_cases hl:n<r.length
  .rw[cS hl]at e;show R.new n a hn e
  .have hp:a=p:=by
    rw[dD zb]at e;cases q:n-r.length with
    |zero=>rw[q]at e;simp at e;show e.symm
    |succ k=>rw[q]at e;simp at e
   subst hp;show hT

abbrev EF (g:DG):TG:=λv σ H Q=>∃ T,tG T g v σ H Q
abbrev EG (Z:Xs) (tf:DE Bool):TT:=λσ H Q=>∃ T,vP T Z tf σ H Q
abbrev EH (Z:Xs) (te:DE W):TE:=λσ H Q=>∃ T,tD T Z te σ H Q
theorem Rel.slots (R:Rel T F r σ H env bx) (g:bf F r F' r') (R':Rel T' F' r' σ' H' aP bx'):Rel T' F' r' σ H' env bx' :=
 #[R'.fh,λi w e=>let ⟨v,e1,e2⟩:=R.slot i w e;#[v,e1,g.den e2],R'.len,R'.nd,R'.box,R'.keep,R'.new,R'.n0,R.sl,R'.fs]
theorem Ds (R1:Rel T F1 r1 σ H1 env bx1) (y1:vT F1 r1 ds J)
 (h1:End T Z bR F1 r1 σ env Q<|fC (bw g tf te ds (eF src env) bx1 []) λl aq=>b9 bo (ae<|.lst l) aq) (Da) (hD:H1 Da=ah):Z0 J (EF g) (EG #[E0,Z.cl] tf) (EH #[E0,Z.cl] te) Da Q (uC src σ) (upd H1 Da<|.lst []):=by
 have hT:T.H₀ Da=ah:=by
  cases q:T.H₀ Da with
  |none=>rfl
  |some u=>rw[R1.keep Da u q<|R1.EB hD]at hD;cases hD
 refine#[λi n σ' H'=>∃ pre l F' r' aP bx' acc vs,ds=pre++l /\ pre.length=i /\ n=l.length /\ bf F1 r1 F' r' /\ Rel T F' r' σ' H' aP bx' /\ Own F' r' H' Da vs /\ aG F' acc vs /\
  End T Z bR F' r' σ env Q (fC (bw g tf te l aP bx' acc) λl aq=>b9 bo (ae<|.lst l) aq),
  #[ds.length,[],ds,F1,r1,_,bx1,[],[],rfl,rfl,rfl,.refl F1 r1,(R1.aad hD).src src,#[fu,R1.uE hD,R1.EB hD],.nil,h1],?_]
 rintro i n σ' H' ⟨pre,l,F',r',aP,bx',acc,vs,pR,hi,hn,g',R',o',da,h'⟩;let#[ys,yg]:=y1 _ i F' r' σ' H' aP bx' g' R'.again;cases l with
 |nil=>
   refine .inl #[ys (by rw[pR,rN];lia),?_];have RO:=R1.slots g' R';cases bo with
   | false=>show(λh'=>by
     let#[RA,gA]:=RO.ad8 o' hT;show h' _ r' _ H' gA RA #[Da,vs,rfl,fu,aG.mono gA.s acc da]) h'
   |true=>
     let#[RB,gB,hx]:=RO.ad9 o' hT da;show h' F' _ _ H' gB RB #[Da,rfl,hx]
 |cons w l=>
   let#[go,yl]:=yg w (by rw[pR,dD zb,hi,k8];rfl);refine .inr #[go,λσ2 H2=>∃ F2 r2 cG aq Kr EI,bf F1 r1 F2 r2 /\ Rel T F2 r2 σ2 H2 cG aq /\ Own F2 r2 H2 Da EI /\ aG F2 Kr EI /\
    End T Z bR F2 r2 σ env Q (fC (bw g tf te l cG aq Kr) λl aq=>b9 bo (ae<|.lst l) aq),
    λσ2 H2 ⟨F2,r2,cG,aq,Kr,EI,g2,R2,o2,d2,h2⟩=>#[l.length,by rw[hn];show qi _,pre++[w],l,F2,r2,cG,aq,Kr,EI,by rw[pR,vo];rfl,by rw[bH,hi];rfl,rfl,g2,R2,o2,d2,h2],λx H2 hy=>?_]
   let#[F2,g2,R2,d2]:=yl x H2 hy;have aae:=R'.inner g2 R2;refine#[#[H2,r'.length,F2],F2,r',aP,bx',w,aae.again,d2,?_];simp[bw]at h';cases eg:g w aP bx' with
   |none=>simp[eg]at h';show h'.elim
   |some o=>
     let#[tM,cb]:=o;simp[eg]at h';intro F3 r3 σ3 H3 g3 R3;have aaf:=aae.inner g3 R3;refine#[#[H3,r3.length,F3],F3,r3,tM,cb,aaf.again,?_];cases ef:tf tM cb with
     |bad=>simp[ef]at h';show h'.elim
     |exc c eQ=>simp[ef]at h';show h'.elim
     |val b eQ=>
       simp[ef,bindB]at h';intro F4 r4 b' H4 g4 R4 eb;subst eb;have VN:=aaf.inner g4 R4;have o4:=((o'.inner g2 R2).inner g3 R3).inner g4 R4;have aag:=((g'.trans g2).trans g3).trans g4;have VO:=(g2.trans g3).trans g4;cases b with
       |false=>
         rw[if_neg zc];show#[F4,r4,tM,eQ,acc,vs,aag,VN,o4,aG.mono VO.s acc da,End.weak VO h']
       |true=>
         rw[if_pos rfl];refine#[#[H4,r4.length,F4],F4,r4,tM,eQ,VN.again,?_];cases ee:te tM eQ with
         |bad=>simp[ee]at h';show h'.elim
         |exc c aah=>simp[ee]at h';show h'.elim
         |val y aah=>
           simp[ee]at h';intro F5 r5 v H5 g5 R5 d5;have o5:=o4.inner g5 R5;have aai:=VO.trans g5;cases y with
           |d d=>
             simp at h';split at h'
             .ext hz;refine#[vs,o5.h,by rw[<-da.length];show hz,F5,r5,tM,aah,acc++[d],vs++[v],aag.trans g5,(VN.inner g5 R5).ad7 o5 hT,#[fu,o5.f,o5.b],(aG.mono aai.s acc da).append<|.cons d5 .nil,End.weak aai h']
             .show h'.elim
           |b n=>show h'.elim
           |s l=>show h'.elim
           |x i=>show h'.elim
           |_=>show h'.elim
theorem JX (h:tD T Z (gc bo src mi g tf te) σ H Q):Kh src (tI T Z mi) (EF g) (EG #[E0,Z.cl] tf) (EH #[E0,Z.cl] te) σ H Q:=by
 let#[F,r,env,bx,R,h]:=h;show#[F,r,env,bx,R,End.bind h λds bx1 F1 r1 J H1 g1 R1 y1 h1=>Ds R1 y1 h1]
noncomputable def ge:DE Bool:=λ_ bx=>.val ag bx
theorem A6 {l:List D}{i:Nat}(e:(l.map W.d)[i]?=ae w):∃ d,l[i]?=ae d /\ w=.d d:=by
 rw[nY]at e;cases q:l[i]? with
 |none=>rw[q]at e;cases e
 |some d=>rw[q]at e;cases e;show#[d,rfl,rfl]
noncomputable def f9 (lo:Int) (n:Nat):List W:=(List.range n).map λ(i:Nat)=>W.d<|.int<|lo+i
theorem lY (lo) (n):vT F r (f9 lo n) (vE lo n):=λT i F1 r1 σ1 H1 bb bx1 g R=>by
 unfold f9;refine#[λhl=>?_,λw e=>?_]
 .rw[aX,Il]at hl;show ve hl
 .rw[nY]at e;cases q:(List.range n)[i]? with
  |none=>rw[q]at e;cases e
  |some j=>
    rw[q]at e;cases e;let#[h1,h2]:=List.getElem?_eq_some_iff.mp q;rw[List.getElem_range]at h2;subst h2;rw[Il]at h1;refine#[h1,λx H2 ⟨e1,e2⟩=>?_];subst e1 e2;show#[F1,.refl F1 r1,R,rfl]
def eT (k:DE<|List W):DE (List W):=λenv bx=>fC (k env bx) λws bx1=>match ws with
 |[.d<|.int j]=>if -(2 ^ 62)<=j /\ j<2 ^ 62 then .val (f9 0 j.toNat) bx1 else .bad
 |_=>.bad
def vU (k:DE<|List W):DE (List W):=λenv bx=>fC (k env bx) λws bx1=>match ws with
 |[.d<|.int i,.d<|.int j]=>.val (f9 i (j-i).toNat) bx1
 |_=>.bad
theorem Dt (hg:Gl X "range") (hm:X.mg "range"=ah) (ha:pj X T Z [a,b] k) (hs:starEach [a,b] X.env=[(af,eval a X.env),(af,eval b X.env)]:=by rfl) (kg:starEach [b] X.env=[(af,eval b X.env)]:=by rfl) :
 xS X T Z tg (.Call (.Name "range" p) [a,b] [] pos) (vU k):=by
 refine PI.imp (GC hg hm ha hs kg) λσ H Q=>bg λF r env bx R h=>?_;refine#[F,r,env,bx,R,End.bind h λws bx1 F1 r1 vs H1 g1 R1 d1 h1=>?_];split at h1
 .ext i j;let#[v,t,rfl,e1,v2,t2,rfl,e2,e3]:=d1;cases (e3);cases (e1);cases (e2);show#[i,j,rfl,h1 F1 r1 _ H1 (.refl F1 r1) R1<|lY i _]
 .show h1.elim

def aaj (K:PySem.W.Frag):R2:=λx y H Q=>∃ a b ys,x=.ref a /\ y=.ref b /\ cL K H a [] /\ cL K H b ys /\ Q (.ref b) H
theorem JY:bV X (binaryOp .Add) (aaj X.K):=by
 intro pins s σ H x y v u Q I rx ry h;let#[a,b,ys,rfl,rfl,ha,hb,q]:=h;cases rx;cases ry;let#[its,r1,p1,_]:=I.tuple ha;let#[xD,r2,p2,_]:=I.tuple hb;cases r1;let#[#[cls,dd,data,sl],ho,hc,n,hd]:=id p1;let#[#[ZL,ux,data2,uz],se,pQ,n2,hd2]:=id p2;subst hc hd pQ hd2
 show Qs #[_,ho,rfl] #[_,se,rfl] Qt Qu UR US (UT _ _)
  (tuple_addW0 a b ([]).toArray xD.toArray n n2 dd ux sl uz<|rfl) #[ho,se,#[.ref b,H,I,rfl,q]]
def aea (K:PySem.W.Frag):R2:=λx y H Q=>vH (λi j=>.int<|i+j) x y H Q \/ ZN K x y H Q \/ aaj K x y H Q \/ ZV x y H Q \/ ∃ i j,x=.str i /\ y=.str j /\ i.length+j.length<=sizeLine /\ Q (.str<|i++j) H
noncomputable def fP:D->D->Option Res
 |.int i,.int j=>ae<|.old<|.int<|i+j
 |.tup a,.tup b=>if a.length+b.length<=sizeLine then ae (.tup<|a++b) else ah
 |.lst a,.lst b=>if a.length+b.length<=sizeLine then ae (.lst<|a++b) else ah
 |.str a,.str b=>if a.length+b.length<=sizeLine then ae (.old<|.str<|a++b) else ah
 |_,_=>ah
theorem aG.eq_nil (h:aG F l vs):vs=[] ↔ l=[]:=by
 have:=h.length;cases l<;>cases vs<;>simp_all
theorem aeb {K}:nD (aea K) fP:=by
 intro F H x y v w Q s sub rx ry e k;unfold fP at e;split at e
 .ext i j;cases e;show .inl #[i,j,rx,ry,k _ _ #[rfl,rfl]]
 .split at e
  .ext hz;cases e;let#[a,vs,rfl,h1,h2]:=rx;let#[b,ws,rfl,h3,h4]:=ry;by_cases hv:vs=[]
   .subst hv;have hl:=h2.eq_nil.mp zj;subst hl;show .inr<|.inr<|.inl #[a,b,ws,rfl,rfl,.of<|sub _ _ h1,.of<|sub _ _ h3,k _ _<|.inl #[rfl,b,ws,rfl,h3,h4]]
   .refine .inr (.inl #[a,b,vs,ws,rfl,rfl,.of<|sub _ _ h1,.of<|sub _ _ h3,hv,by rw[<-h2.length,<-h4.length];show hz,λhw=>?_,λhw p hp=>k _ _<|.inr #[p,vs++ws,rfl,hp,rfl,h2.append h4]]);have hl:=h4.eq_nil.mp hw;subst hl;show k _ _ (.inl #[rfl,a,vs,rfl,h1,by rw[rN];show h2])
  .cases e
 .split at e
  .ext hz;cases e;let#[a,vs,rfl,h1,h2]:=rx;let#[b,ws,rfl,h3,h4]:=ry;show .inr<|.inr<|.inr (.inl #[a,b,vs,ws,rfl,rfl,h1,h3,by rw[<-h2.length,<-h4.length];show hz,λp hp=>k _ _ #[p,vs++ws,rfl,hp,rfl,h2.append h4]])
  .cases e
 .ext i j;split at e
  .ext hz;cases e;show .inr<|.inr<|.inr<|.inr #[i,j,rx,ry,hz,k _ _ #[rfl,rfl]]
  .cases e
 .cases e
theorem Ks [∀ i j,Decidable<|C i j] {g:Int->Int->D}(hg:∀ i j F,Den F (g i j)<|gv i j):nD (rI C gv) λx y=>match x,y with|.int i,.int j=>if C i j then ae (.old<|g i j) else ah|_,_=>ah:=by
 intro F H x y v w Q s sub rx ry e k;dsimp only at e;split at e
 .ext i j;split at e
  .ext hc;cases e;show#[i,j,rx,ry,hc,k _ _ #[rfl,hg i j F]]
  .cases e
 .cases e
theorem Kt {g:Int->Int->D}(hg:∀ i j F,Den F (g i j)<|gv i j):nD (vH gv) λx y=>match x,y with|.int i,.int j=>ae (.old<|g i j)|_,_=>ah:=by
 intro F H x y v w Q s sub rx ry e k;dsimp only at e;split at e
 .ext i j;cases e;show#[i,j,rx,ry,k _ _ #[rfl,hg i j F]]
 .cases e
noncomputable def dE:D->D->Option Res:=λx y=>match x,y with|.int i,.int j=>ae (.old<|.int<|i-j)|_,_=>ah
instance (i j:Int):Decidable (xx i j):=by unfold xx;show inferInstance
def xT (i j:Int):zk:=0<j /\ j<10 ^ 40
instance (i j:Int):Decidable (xT i j):=by unfold xT;show inferInstance
instance (i j:Int):Decidable (xw i j):=by unfold xw;show inferInstance
noncomputable def EJ:D->D->Option Res:=λx y=>match x,y with|.int i,.int j=>if xT i j then ae (.old<|.int<|i / j) else ah|_,_=>ah
noncomputable def sk:D->D->Option Res:=λx y=>match x,y with|.int i,.int j=>if 0<j then ae (.old<|.int<|i % j) else ah|_,_=>ah
noncomputable def sq:D->D->Option Res:=λx y=>match x,y with|.int i,.int j=>if xw i j then ae (.old<|.int<|i ^ j.toNat) else ah|_,_=>ah
noncomputable def intsOf:List D->Option (List Int)
 |[]=>ae []
 |.int i::l=>(intsOf l).map λt=>i::t
 |_=>ah
theorem aG.ints:∀ {l}{vs}{ns},aG F l vs->intsOf l=ae ns->vs=ns.map V.int
 |[],_,_,h,e=>by cases e;show h
 | .int i::l,_,ns,h,e=>by
   let#[v,r,q,h1,h2]:=h;unfold intsOf at e;cases e2:intsOf l with
   |none=>rw[e2]at e;cases e
   |some t=>
     rw[e2]at e;cases e;rw[q,h2.ints e2,h1];rfl
 |.non::l,_,_,_,e=>by cases e
 |.bl _::l,_,_,_,e=>by cases e
 |.str _::l,_,_,_,e=>by cases e
 |.tup _::l,_,_,_,e=>by cases e
 |.lst _::l,_,_,_,e=>by cases e
 |.az _::l,_,_,_,e=>by cases e
noncomputable def pz:D->D->Option Res:=λx y=>match x,y with|.int i,.int j=>ae (.old<|.bl<|decide (j<i))|_,_=>ah
noncomputable def uG:D->D->Option Res:=λx y=>match x,y with|.int i,.int j=>ae (.old<|.bl<|decide (j<=i))|_,_=>ah
def aF:D->D->Option Res
 |.lst l,.int i=>(bF l i).map Res.old
 |.tup l,.int i=>(bF l i).map Res.old
 |_,_=>ah
theorem Fi (h:aG F l vs) (e:bF l i=ae d):∃ v,bF vs i=ae v /\ Den F d v:=by
 unfold bF at e ⊢;rw[<-h.length];cases q:cA l.length i with
 |none=>rw[q]at e;cases e
 |some j=>rw[q]at e;show h.get e
theorem aec {K}:nD (adg K) aF:=by
 intro F H x y v w Q s sub rx ry e k;unfold aF at e;split at e
 .ext l i;let#[a,vs,rfl,h1,h2]:=rx;cases e1:bF l i with
  |none=>rw[e1]at e;cases e
  |some d=>
    rw[e1]at e;cases e;let#[u,e2,du]:=Fi h2 e1;show .inl #[a,vs,i,u,rfl,ry,.of h1,e2,k _ _ #[rfl,du]]
 .ext l i;let#[a,vs,rfl,h1,h2]:=rx;cases e1:bF l i with
  |none=>rw[e1]at e;cases e
  |some d=>
    rw[e1]at e;cases e;let#[u,e2,du]:=Fi h2 e1;show .inr<|.inl #[a,vs,i,u,rfl,ry,.of<|sub _ _ h1,e2,k _ _ #[rfl,du]]
 .cases e
noncomputable def aQ:List D->Option Res
 |[.lst l]=>ae<|.old<|.int l.length
 |[.tup l]=>ae<|.old<|.int l.length
 |_=>ah
noncomputable def pW:D->String
 |.non=>"NoneType"|.bl _=>"bool"|.int _=>"int"|.str _=>"str"|.tup _=>"tuple"|.lst _=>"list"|.az _=>"dict"
noncomputable def sr (S T:String):Bool:=S==T||(S == "bool"&&T == "int")
def pX (K:PySem.W.Frag) (T:String):zk:=∀ d,PySem.W.kitOne K (.type<|pW d) (.type T)=ae (sr (pW d) T)
theorem S8 {K}(sub:Sub F H):∀ {d}{v},nO F H d v->pf K H v (.type<|pW d)
 |.non,_,h=>by cases (h);show .non
 |.bl b,_,h=>by cases (h);show .bl b
 |.int b,_,h=>by cases (h);show .int b
 |.str b,_,h=>by cases (h);show .str b
 |.tup l,_,h=>by let#[a,vs,rfl,h1,h2]:=h;show .tup<|sub _ _ h1
 |.lst l,_,h=>by let#[a,vs,rfl,h1,h2]:=h;show .lst h1
 |.az l,_,h=>by let#[a,vs,rfl,h1,h2]:=h;show .dK h1
def gJ (n:String) (m:DE W):DE W:=λenv bx=>fC (m env bx) λw bx1=>match bG bx1 w with|some d=>.val (.d<|.bl<|sr (pW d) n) bx1|none=>.bad
theorem Nd (hT:pX X.K n) (hg:Gl X "isinstance") (hm:X.mg "isinstance"=ah) (vV:Gl X x) (vW:X.mg x=ah) (hv:bootBuiltins x=ae (.type n)) (ha:PD X T Z a ma)
 (hn:x ≠ "__name__":=by decide) (cM:(x==("__debug__"))=af:=by decide)
 (aak:starEach [a,.Name x p1] X.env=(af,eval a X.env)::starEach [.Name x p1] X.env:=by rfl) (aed:starEach [.Name x p1] X.env=(af,eval (.Name x p1) X.env)::starEach [] X.env:=by rfl)
 (dX:(backTo pos<|starEach [.Name x p1] X.env).any (·.1)=af:=by rfl):PD X T Z (.Call (.Name "isinstance" p) [a,.Name x p1] [] pos) (gJ n ma):=by
 refine PE.imp (fV fU hg hm (by decide +kernel) (fA ha (fA (D0 vV vW hv (v:=.ty n) zj hn cM) fR aed) aak) zc (rfl) aak dX) λσ H Q=>bg λF r env bx R h=>?_;refine#[F,r,env,bx,R,End.bind h λw bx1 F1 r1 v H1 g1 R1 d1 h1=>?_];cases e:bG bx1 w with
 |none=>simp[e]at h1;show h1.elim
 |some d=>
   simp[e]at h1;show#[v,.ty n,_,.type n,_,rfl,.of<|S8 R1.fh<|R1.qQ d1 e,rfl,hT d,h1 F1 r1 _ H1 (.refl F1 r1) R1 zj]

def aal (K:PySem.W.Frag):R2:=λx y H Q=>∃ a b xs,x=.ref a /\ y=.ref b /\ cL K H a xs /\ cL K H b [] /\ Q (.bl xs.isEmpty) H
theorem Rn (hu:X.A.units<cLine):bV X (compareOp .Eq) (aal X.K):=by
 intro pins s σ H x y v u Q I rx ry h;let#[a,b,xs,rfl,rfl,h1,h2,q]:=h;cases rx;cases ry;let#[i1,r1,p1,z1]:=I.tuple h1;let#[i2,r2,p2,z2]:=I.tuple h2;cases r2;refine SeqAt.eq_tupleAt (e:=λ_=>ag) p1 p2 hu (λj h1 h2=>absurd h2 zg) #[.bl xs.isEmpty,H,I,?_,q];have:=r1.length;cases xs<;>cases i1<;>simp_all[RelV]
def aee (K:PySem.W.Frag):R2:=λx y H Q=>∃ (a b:ai) (ns ms:List Int),x=.ref a /\ y=.ref b /\ bQ K H a (ns.map V.int) /\ bQ K H b (ms.map V.int) /\ Q (.bl<|decide (ns=ms)) H
theorem GD {ms:List Int}(h:ns.length=ms.length):((List.range ns.length).all λj=>(ns.getD j 0==ms.getD j 0))=decide (ns=ms):=by
 rw[qj,cg,decide_eq_true_iff];constructor
 .intro q;refine List.ext_getElem h λj h1 h2=>?_;have:=q j<|List.mem_range.mpr h1;simpa[h1,h2] using this
 .rintro rfl j _;simp
def aam (K:PySem.W.Frag):R2:=λx y H Q=>ZF x y H Q \/ aal K x y H Q \/ aee K x y H Q
theorem Nf (hu:X.A.units<cLine):bV X (compareOp .Eq) (aam X.K):=SY.or ((Rn hu).or ((λhu=>by
 intro pins s σ H x y v u Q I rx ry h;let#[a,b,ns,ms,rfl,rfl,h1,h2,q]:=h;cases rx;cases ry;let#[i1,r1,p1,z1]:=I.list h1;let#[i2,r2,p2,z2]:=I.list h2;have l1:ns.length=i1.length:=by have:=r1.length;simpa using this
 have l2:ms.length=i2.length:=by have:=r2.length;simpa using this
 by_cases hl:ns.length=ms.length
 .refine SeqAt.eq_listAt (e:=λj=>ns.getD j 0==ms.getD j 0) p1.isList p2.isList (by simp;lia) hu (λj h1 h2=>?_) ?_
  .have g2:j<i2.length:=by simpa using h2
   let#[w1,e1,q1]:=r1.get (i:=j) (x:=V.int<|ns[j]'(by lia)) zg;let#[w2,e2,q2]:=r2.get (i:=j) (x:=V.int<|ms[j]'(by lia)) zg;have k1:i1[j]=w1:=by rw[cW (by simpa using h1)]at e1;show Option.some.inj e1
   have k2:i2[j]=w2:=by rw[cW g2]at e2;show Option.some.inj e2
   change SeqAt.EqAt _ _ i1[j] i2[j] _;rw[k1,k2];let#[t,rfl]:=q1;let#[t',rfl]:=q2;have d1:ns.getD j 0=ns[j]'(by lia):=by simp[show j<ns.length by lia]
   have d2:ms.getD j 0=ms[j]'(by lia):=by simp[show j<ms.length by lia]
   rw[d1,d2];show UX _ _ _ _
  .rw[show i1.toArray.size=ns.length by simp;lia,GD hl];show#[.bl _,H,I,rfl,q]
 .refine SeqAt.eq_list_lengthsAt p1.isList p2.isList (by simp;lia) hu #[.bl af,H,I,rfl,?_];rw[decide_eq_false λz=>hl (by rw[z])]at q;show q) hu))
def VP:D->D->Option Res
 |.int i,.int j=>ae<|.old<|.bl<|decide (i=j)
 |.str i,.str j=>ae<|.old<|.bl<|decide (i=j)
 |.tup l,.tup []=>ae<|.old<|.bl l.isEmpty
 |.lst a,.lst b=>(intsOf a).bind λns=>(intsOf b).map λms=>.old<|.bl<|decide (ns=ms)
 |_,_=>ah
theorem aef {K}:nD (aam K) VP:=by
 intro F H x y v w Q s sub rx ry e k;unfold VP at e;split at e
 .cases e;cases (rx);cases (ry);show .inl #[rfl,k _ _ #[rfl,by change _=_;simp]]
 .cases e;cases (rx);cases (ry);show .inl #[rfl,k _ _ #[rfl,by change _=_;simp]]
 .cases e;let#[a,vs,rfl,h1,h2]:=rx;let#[b,ws,rfl,h3,h4]:=ry;cases (h4);show .inr (.inl #[a,b,vs,rfl,rfl,.of<|sub _ _ h1,.of<|sub _ _ h3,k _ _ #[rfl,by change _=_;rw[h2.isEmpty]]])
 .ext l l';cases e1:intsOf l with
  |none=>rw[e1]at e;cases e
  |some ns=>
    cases e2:intsOf l' with
    |none=>rw[e1,e2]at e;cases e
    |some ms=>
      rw[e1,e2]at e;cases e;let#[a,vs,rfl,h1,h2]:=rx;let#[b,ws,rfl,h3,h4]:=ry;have q1:=h2.ints e1;have q2:=h4.ints e2;subst q1 q2;show .inr<|.inr #[a,b,ns,ms,rfl,rfl,.of h1,.of h3,k _ _ #[rfl,rfl]]
 .cases e
def aeg (K:PySem.W.Frag):R2:=λx y H Q=>∃ a b xs,x=.ref a /\ y=.ref b /\ bQ K H a xs /\ bQ K H b [] /\ Q (.bl<|!xs.isEmpty) H
def aan (K:PySem.W.Frag):R2:=λx y H Q=>ZG x y H Q \/ aeg K x y H Q
theorem Ng (hu:X.A.units<cLine):bV X (compareOp .NotEq) (aan X.K):=O7.or<|(λhu=>by
 intro pins s σ H x y v u Q I rx ry h;let#[a,b,xs,rfl,rfl,h1,h2,q]:=h;cases rx;cases ry;let#[i1,r1,p1,z1]:=I.list h1;let#[i2,r2,p2,z2]:=I.list h2;cases r2;cases r1 with
 |nil=>show SeqAt.RcNeAt.lists (e:=λ_=>ag) p1.isList p2.isList zj hu (λj h1 h2=>absurd h2 zg) X.prog X.w X.xe _ #[.bl af,H,I,rfl,q]
 |cons _ _=>show acj p1.isList p2.isList (rfl) hu X.prog X.w X.xe _ #[.bl ag,H,I,rfl,q]) hu
noncomputable def VQ:D->D->Option Res
 |.int i,.int j=>ae<|.old<|.bl<|!decide (i=j)
 |.str i,.str j=>ae<|.old<|.bl<|!decide (i=j)
 |.lst l,.lst []=>ae<|.old<|.bl<|!l.isEmpty
 |_,_=>ah
theorem aeh {K}:nD (aan K) VQ:=by
 intro F H x y v w Q s sub rx ry e k;unfold VQ at e;split at e
 .cases e;cases (rx);cases (ry);show .inl #[rfl,k _ _ #[rfl,by change _=_;simp]]
 .cases e;cases (rx);cases (ry);show .inl #[rfl,k _ _ #[rfl,by change _=_;simp]]
 .cases e;let#[a,vs,rfl,h1,h2]:=rx;let#[b,ws,rfl,h3,h4]:=ry;cases (h4);show .inr #[a,b,vs,rfl,rfl,.of h1,.of h3,k _ _ #[rfl,by change _=_;rw[h2.isEmpty]]]
 .cases e
def aei (K:PySem.W.Frag) (vs:List V) (H:Hp) (Q:VK):zk:=∃ (p:ai) (bs:List Bool),vs=[.ref p] /\ H p=ae (.lst<|bs.map V.bl) /\ Q (.bl<|bs.all id) H
theorem GE (hc:X.calm=ag):pN X (.builtin "all") (aei X.K):=by
 intro pins s σ H xs us Q I rv h;let#[p,bs,rfl,hp,q]:=h;let#[u,rfl,ru]:=Vals.one rv;cases ru;let#[its,r1,p1,z1]:=I.list<|bQ.of hp;have hl:=p1.isList;have hlen:bs.length=its.length:=by have:=r1.length;simpa using this
 refine call_all_walk<|Qx hl ?_
 refine#[s.heap.objs.size,[s.heap.objs.size,p],[s.heap.objs.size],its.toArray.size,_,_,λi=>(bs[i]?).getD ag,rfl,Walks.list (A:=X.A.in1) (I.ok.hd hc) _ p (bN (by let#[_,e,_]:=hl;show ba e)) its.toArray,
  #[#[_,bC _ zj,rfl,rfl],hl.push _],λi v s' Q' E' hP hQ=>?_,λh' tk hk=>?_]
 .have aao:its[i]?=ae v:=by simpa using hP
  have hi:i<bs.length:=by rw[hlen];show(List.getElem?_eq_some_iff.mp aao).1
  let#[w,e1,e2]:=r1.get (i:=i) (x:=V.bl bs[i]) zg;rw[aao]at e1;cases e1;cases e2;simp[cW hi]at hQ;show qf hQ
 .have e:((List.range its.toArray.size).all λi=>(bs[i]?).getD ag)=bs.all id:=by
   rw[bZ,<-hlen];show LSm.range_all bs
  rw[e];show#[.bl _,H,I.kept<|LSm.kept_iter hk,rfl,q]
noncomputable def sx:List D->Option (List Bool)
 |[]=>ae []
 |.bl i::l=>(sx l).map λt=>i::t
 |_=>ah
theorem aG.aap:∀ {l}{vs}{ns},aG F l vs->sx l=ae ns->vs=ns.map V.bl
 |[],_,_,h,e=>by cases e;show h
 | .bl i::l,_,ns,h,e=>by
   let#[v,r,q,h1,h2]:=h;unfold sx at e;cases e2:sx l with
   |none=>rw[e2]at e;cases e
   |some t=>
     rw[e2]at e;cases e;rw[q,h2.aap e2,h1];rfl
 |.non::l,_,_,_,e=>by cases e
 |.int _::l,_,_,_,e=>by cases e
 |.str _::l,_,_,_,e=>by cases e
 |.tup _::l,_,_,_,e=>by cases e
 |.lst _::l,_,_,_,e=>by cases e
 |.az _::l,_,_,_,e=>by cases e
def dZ:List D->Option Res
 |[.lst l]=>(sx l).map λbs=>.old<|.bl<|bs.all id
 |_=>ah
theorem aej {K}:qT (λxs H Q=>∃ p ys,xs=[.ref p] /\ ((bQ K H p ys /\ ∀ l,H l=ah->Q (.ref l) (upd H l<|.tup ys)) \/ (cL K H p ys /\ Q (.ref p) H)))
 (λxs=>match xs with|[.lst l]=>ae (.tup l)|[.tup l]=>ae (.tup l)|_=>ah):=by
 intro F H xs vs Q s sub rx e k;dsimp only at e;split at e
 .cases e;let#[v,t,rfl,#[a,us,rfl,h1,h2],rt]:=rx;cases (rt);show#[a,us,rfl,.inl #[.of h1,λp hp=>k _ _<|.inr #[p,us,rfl,hp,rfl,h2]]]
 .cases e;let#[v,t,rfl,#[a,us,rfl,h1,h2],rt]:=rx;cases (rt);show#[a,us,rfl,.inr #[.of<|sub _ _ h1,k _ _<|.inl #[rfl,a,us,rfl,h1,h2]]]
 .cases e
noncomputable def qu:List D->Option Res:=λxs=>match xs with|[.lst l]=>ae (.tup l)|[.tup l]=>ae (.tup l)|_=>ah
noncomputable def qW:List D->Option Res:=λxs=>match xs with|[.lst l]=>ae (.lst l)|[.tup l]=>ae (.lst l)|_=>ah
theorem aek {K}:qT (λxs H Q=>∃ p ys,xs=[.ref p] /\ (bQ K H p ys \/ cL K H p ys) /\ ∀ l,H l=ah->Q (.ref l) (upd H l<|.lst ys)) qW:=by
 intro F H xs vs Q s sub rx e k;unfold qW at e;split at e
 .cases e;let#[v,t,rfl,#[a,us,rfl,h1,h2],rt]:=rx;cases (rt);show#[a,us,rfl,.inl<|.of h1,λp hp=>k _ _ #[p,us,rfl,hp,rfl,h2]]
 .cases e;let#[v,t,rfl,#[a,us,rfl,h1,h2],rt]:=rx;cases (rt);show#[a,us,rfl,.inr<|.of<|sub _ _ h1,λp hp=>k _ _ #[p,us,rfl,hp,rfl,h2]]
 .cases e
noncomputable def maxD:List D->Option Res:=λxs=>match xs with|[.int i,.int j]=>ae (.old<|.int (if j>i then j else i))|_=>ah
theorem ael:qT (λxs H Q=>∃ i j,xs=[.int i,.int j] /\ Q (.int (if j>i then j else i)) H) maxD:=by
 intro F H xs vs Q s sub rx e k;unfold maxD at e;split at e
 .ext i j;cases e;let#[v,t,rfl,h1,v2,t2,rfl,h2,rt]:=rx;cases (rt);cases (h1);cases (h2);show#[i,j,rfl,k _ _ #[rfl,rfl]]
 .cases e
noncomputable def minD:List D->Option Res:=λxs=>match xs with|[.int i,.int j]=>ae (.old<|.int (if j<i then j else i))|_=>ah
theorem aem:qT (λxs H Q=>∃ i j,xs=[.int i,.int j] /\ Q (.int (if j<i then j else i)) H) minD:=by
 intro F H xs vs Q s sub rx e k;unfold minD at e;split at e
 .ext i j;cases e;let#[v,t,rfl,h1,v2,t2,rfl,h2,rt]:=rx;cases (rt);cases (h1);cases (h2);show#[i,j,rfl,k _ _ #[rfl,rfl]]
 .cases e
end L2.DL
namespace HT

theorem lZ {lo}(ht:IsTup s.heap t items) (hs:s.heap.IsSliceOf sl vl vu .none) (pl:IsPart vl lo) (pu:IsPart vu hi)
 (hw:aY items.size 0 lo=0 /\ aY items.size items.size hi=items.size) (h:Q (.ref t) s):wpAny zf A (getItem (.ref t)<|.ref sl) Q E s:=by
 let#[os,vI,IZ,pR]:=id hs;unfold getItem;try with_reducible refine eY ?_
 first|refine ak (ax ?_)|skip
 refine ak<|Xn ht.typeIs (rfl) ?_;refine ak (vc ht.typeIs xh
  (qh xh ht.typeIs YC ?_<|YD _ _))
 change wpAny _ _ (Builtin.Tuple.tupleItemsOf (.ref t) >>= _) _ _ s;refine ak<|YE ht ?_;refine ak<|wK #[os,vI,IZ] ?_;refine ak<|jk hs pl pu ?_;have aen:((((aY items.size 0 lo):Int)==0&&(1:Int)==1&&(aY items.size items.size hi-aY items.size 0 lo)==items.size)=ag):=by
  rw[hw.1,hw.2];simp
 change wpAny _ _ (if (((aY items.size 0 lo):Int)==0&&(1)==1&&(aY items.size items.size hi-aY items.size 0 lo)==items.size)=ag then _ else _) _ _ s;rw[if_pos aen];show ak<|ak<|wK ht.typeIs<|ax<|ak<|sR<|ax #[_,rfl,ax h]
theorem Ae {α β:Type}{f g:α->Option β}:∀ {l:List α},(∀ x∈l,f x=g x)->l.filterMap f=l.filterMap g:=by
 intro l_;induction l_ with
 |nil=>show λ_=>rfl
 |cons x l aB=>
   intro h;rw[qk,qk,h x bO,aB λy hy=>h y<|bD _ hy]
theorem Af (n:Nat):sliceRange ((n)-1) (-1) (-1)=(List.range n).map λk=>n-1-k:=by
 have e:(if (-1)>0 then (if (n:Int)-1 < -1 then (-1-((n:Int)-1)+-1-1) / -1 else 0) else (if (n:Int)-1>-1 then ((n)-1 - -1 - -1-1) / (- -1) else 0)).toNat=n:=by
  rw[if_neg zc];split
  .have:((n:Int)-1 - -1 - -1-1) / (- -1)=n:=by
    rw[show (- -1)=1 by decide,Int.ediv_one];lia
   rw[this];rfl
  .lia
 change (List.range (if (-1)>0 then (if (n:Int)-1 < -1 then (-1-((n:Int)-1)+-1-1) / -1 else 0) else (if (n:Int)-1>-1 then ((n)-1 - -1 - -1-1) / (- -1) else 0)).toNat).map _=_;rw[e];refine vq λk hk=>?_
 lia
theorem AN (its:List au):slicePick its.toArray ah ah (ae<|-1)=its.reverse.toArray:=by
 unfold slicePick;congr 1;change (sliceRange ((its.length)-1) (-1)<|-1).filterMap _=_;rw[Af,Ye];apply QO;intro i;have h1:(List.range its.length).filterMap ((λx=>its.toArray[x]?)∘λk=>its.length-1-k)=(List.range its.length).map λk=>(its[its.length-1-k]?).getD .none:=by
  rw[<-List.filterMap_eq_map];refine Ae λk hk=>?_;have qO:=List.mem_range.mp hk;have pV:its.length-1-k<its.length:=by lia
  simp[pV]
 rw[h1,nY];by_cases hi:i<its.length
 .have pV:its.length-1-i<its.length:=by lia
  rw[List.getElem?_range hi,List.getElem?_reverse hi];simp[pV]
 .rw[rO (by simpa using vf hi),rO (by simpa using vf hi)];rfl
end HT
namespace L2.DL

def aaq (K:PySem.W.Frag):V->Option Int->Option Int->Hp->VK->zk:=λx lo hi H Q=>∃ a xs,x=.ref a /\ cL K H a xs /\
 (HT.aY xs.length 0 lo=0 /\ HT.aY xs.length xs.length hi=xs.length) /\ Q (.ref a) H
theorem Nh:uA X (aaq X.K):=by
 intro pins s σ H x v vl vu lo hi sl Q I rx hs pl pu h;let#[a,xs,rfl,hx,hw,q]:=h;cases rx;let#[its,r,ht,hz]:=I.tuple hx;have hlen:its.toArray.size=xs.length:=r.length.symm;show#["tuple",_,xh.lookup,ht.typeIs,HT.lZ ht hs pl pu (by rw[hlen];show hw) #[.ref a,H,I,rfl,q]]
def aar (K:PySem.W.Frag):V->Option Int->Option Int->Hp->VK->zk:=λx lo hi H Q=>ZM K x lo hi H Q \/ aaq K x lo hi H Q \/ adj K x lo hi H Q
theorem Ro:uA X (aar X.K):=P7.or<|Nh.or (by
 intro pins s σ H x v vl vu lo hi sl Q I rx hs pl pu h;let#[a,xs,rfl,hx,q]:=h;cases rx;let#[its,r,ht,hz]:=I.list hx;have hlen:=r.length;refine#["list",_,slot_list_getitem.lookup,ht.isList.typeIs,?_];refine Xt ht.isList hs pl pu .none zg ?_ (by rw[bZ]<;>lia);rw[AM,<-hlen];refine#[.ref s.heap.objs.size,_,I.laid (λb ob q=>aR _ q) (aA _) ?_,rfl,q _<|I.ay.fresh<|aA _];show#[cw (mY xs lo hi) hz,_,0,(r.drop _).take _,bC _ zj])
def cutD (xs:List D) (lo hi:Option Int):List D:=(xs.drop<|HT.aY xs.length 0 lo).take<|HT.aY xs.length xs.length hi-HT.aY xs.length 0 lo
theorem Fj (h:aG F l vs) (lo hi):aG F (cutD l lo hi) (xC vs lo hi):=by
 unfold cutD xC;rw[h.length];show(h.drop _).take _
def qv:D->Option Int->Option Int->Option Res
 |.tup l,lo,hi=>ae<|.tup<|cutD l lo hi
 |.lst l,lo,hi=>ae<|.lst<|cutD l lo hi
 |_,_,_=>ah
theorem aeo {K}{lo hi}(sub:Sub F H) (rx:nO F H x v) (e:qv x lo hi=ae s) (k:∀ u H',vR F H s u H'->Q u H'):aar K v lo hi H Q:=by
 cases x with
 |tup l=>
   cases e;let#[a,vs,rfl,h1,h2]:=rx;by_cases hw:HT.aY vs.length 0 lo=0 /\ HT.aY vs.length vs.length hi=vs.length
   .refine .inr<|.inl #[a,vs,rfl,.of<|sub _ _ h1,hw,k _ _<|.inl #[rfl,?_]];have e:cutD l lo hi=l:=by
     unfold cutD;rw[h2.length,hw.1,hw.2,Ic,Yg,<-h2.length,rQ]
    rw[e];show#[a,vs,rfl,h1,h2]
   .show .inl #[a,vs,rfl,.of<|sub _ _ h1,hw,λp hp=>k _ _<|.inr #[p,_,rfl,hp,rfl,Fj h2 lo hi]]
 |lst l=>
   cases e;let#[a,vs,rfl,h1,h2]:=rx;show .inr<|.inr #[a,vs,rfl,.of h1,λp hp=>k _ _ #[p,_,rfl,hp,rfl,Fj h2 lo hi]]
 |_=>cases e
abbrev aep:Hp->List ai->Option Int->Option Int->zk:=λ_ _ a b=>a=b
def aeq (T:Fr) (Z:Xs) (m:DE<|Option Int):TO:=λσ H Q=>∃ F r env bx,Rel T F r σ H env bx /\ End T Z aep F r σ env Q (m env bx)
def aer (X:Cx) (T:Fr) (Z:Xs) (e:Option aD) (m:DE<|Option Int):zk:=PO X e<|aeq T Z m
theorem PO.imp (h:PO X e t) (f:∀ σ H Q,t' σ H Q->t σ H Q):PO X e t':=λpins s σ H Q I q=>h pins s σ H Q I<|f σ H Q q
noncomputable def eU:DE (Option Int):=λ_ bx=>.val ah bx
def dM (m:DE W):DE (Option Int):=λenv bx=>fC (m env bx) λw bx1=>match w with|.d (.int i)=>.val (ae i) bx1|_=>.bad
def d6 (bo:Bool) (m:DE W) (l u:DE<|Option Int):DE W:=λenv bx=>fC (m env bx) λx bx1=>fC (l env bx1) λi aq=>fC (u env aq) λj cb=>b9 bo ((bG cb x).bind λd=>qv d i j) cb
theorem Rp {i:Int}(he:PE X e te):PE X (.Subscript e (.Slice ah ah (ae<|.UnaryOp .USub (.Constant (.int 1) j q1) q2) p2) pos)
 (λσ H Q=>te σ H λx H1=>∃ a xs,x=.ref a /\ bQ X.K H1 a xs /\ ∀ p,H1 p=ah->Q (.ref p) (upd H1 p<|.lst xs.reverse)):=by
 intro pins s σ H Q I h;refine Subscript_<|aV (he pins s σ H _ I h) λv s1 x H1 I1 r1 q1=>?_;refine Xo ?_;refine ax<|ax ?_;refine aV (O6 Js jp pins s1 σ H1 (λy H2=>y=.int (-1) /\ H2=H1) I1 #[1,rfl,rfl,rfl]) λvs s3 y H3 I3 r3 hh=>?_;let#[e1,e2]:=hh;subst e1 e2;let#[t,rfl]:=r3;let#[a,xs,rfl,hx,q]:=q1;cases r1;have I4:Inv X pins σ H3 { s3 with heap:=s3.heap.push { cls:=.type "slice",data:=.fields (List.toArray [.none,.none,.int (-1) t]) } }:=I3.kept λb ob q=>aR _ q;let#[its,r,ht,hz]:=I4.list hx;have hlen:=r.length;have hg:wpAny zd X.A (getItem (.ref a)<|.ref s3.heap.objs.size) (EP X pins σ Q) X.xe { s3 with heap:=s3.heap.push { cls:=.type "slice",data:=.fields (List.toArray [.none,.none,.int (-1) t]) } }:=by
  refine Xt ht.isList (Heap.IsSliceOf.new ..) .none .none (.int (-1) t) zg ?_ (by rw[bZ]<;>lia);rw[HT.AN];refine#[.ref _,_,I4.laid (λb ob q=>aR _ q) (aA _) ?_,rfl,q _<|I4.ay.fresh<|aA _];show#[by rw[List.length_reverse];show hz,_,0,r.reverse,bC _ zj]
 change wpAny zd X.A (subscriptTail e (.Slice ah ah (ae<|.UnaryOp .USub (.Constant (.int 1) j _) q2) p2) (.ref a)<|.ref s3.heap.objs.size) (EP X pins σ Q) X.xe _;show Q4 ht.isList.typeIs slot_list_getitem.lookup hg (by with_unfolding_all rfl)
def VR (bo:Bool) (m:DE W):DE W:=λenv bx=>fC (m env bx) λx bx1=>b9 bo ((bG bx1 x).bind λd=>match d with|.lst l=>ae (.lst l.reverse)|_=>ah) bx1
def sy (m:DE W):DE W:=λenv bx=>fC (m env bx) λw bx1=>match w with|.d (.int i)=>.val (.d<|.int<|-i) bx1|_=>.bad
end L2.DL
namespace HT

theorem m7 (hl:IsTup s.heap l vs.toArray) (hz:vs.length<=sizeLine)
 (h:Q vs { s with heap:=(s.heap.push<|seqObj "list" #[] 0).update s.heap.objs.size (Obj.mapSeq (·++vs.toArray)) }):wpAny zf A (collect<|.ref l) Q E s:=by
 let#[ob,ho,xG,k,qX]:=id hl;refine ak<|Xu<|vd entry_proto_collect'<|ak<|yP<|ax #[UZ _ (by decide +kernel),vd entry_list_iadd' ?_];change wpAny _ _ (Builtin.List.listExtendWith _ _ _) _ _ { s with heap:=s.heap.push _ };have qY:(s.heap.push<|seqObj "list" #[] 0).get? l=ae ob:=aR _ ho;refine ak<|wK #[ob,qY,xG] ?_;rw[if_pos (by rw[show (Value.type "tuple"==Value.type "tuple")=ag by decide,X6])];refine ak<|xc qY qX<|ak<|xc (bC _ zj) zj ?_;rw[if_neg zg];refine ak<|Iu (bC _ zj) zj (ax ?_) (di _) (by change (#[]++vs.toArray).size<=sizeLine+1;simp[Array.size_append,bZ,nZ];lia);refine ak<|HV (YG (bC _ zj) _) (show wpAny _ _ (pure ((#[])++vs.toArray).toList) Q E _ from ?_);rw[show ((#[]:Array au)++vs.toArray).toList=vs by simp];show ax h
theorem Ag (hl:IsTup s.heap l vs.toArray) (hI:IntsAre vs ns) (dF:vs.length<64)
 (h:∀ (out) (pB),IntsAre out.toList pB->pB.Perm ns->pB.Pairwise (·<=·)->Q (.ref<|s.heap.objs.size+1) { s with heap:=sortedAll s.heap vs out }):wpAny zf A (call (.builtin "sorted") [.ref l]) Q E s:=by
 refine UQ Q5 Q6 Q7 (Q8 _) ?_;refine ak<|ax<|ak<|m7 hl (cw (kM dF) zc)<|ak<|yP ?_;have hsz:((s.heap.push<|seqObj "list" #[] 0).update s.heap.objs.size (Obj.mapSeq (·++vs.toArray))).objs.size=s.heap.objs.size+1:=by rw[Ya,Iv]
 have uo:(((s.heap.push<|seqObj "list" #[] 0).update s.heap.objs.size (Obj.mapSeq (·++vs.toArray))).push<|seqObj "list" vs.toArray 0).get? (s.heap.objs.size+1)=ae (seqObj "list" vs.toArray 0):=by rw[<-hsz];show bC _ zj
 rw[hsz];show ak<|eY<|qh Q9 #[_,uo,rfl] UA (list_sort_tree uo hI dF λout pB a1 a2 a3=>#[_,rfl,ax #[_,rfl,h out pB a1 a2 a3]])<|UB _
end HT
namespace L2.DL
noncomputable def sortI (ns:List Int):List Int:=ns.mergeSort λa b=>decide (a<=b)
theorem ju (ns):(sortI ns).Perm ns:=Yh ns _
theorem l5 (ns):(sortI ns).Pairwise (·<=·):=(Yi (le:=λa b:Int=>decide _) (λa b c h1 h2=>by simp at *;lia) (λa b=>by simp;lia) ns).imp λq=>by simpa using q
section
variable {X:Cx}
def VT (K:PySem.W.Frag) (vs:List V) (H:Hp) (Q:VK):zk:=∃ (p:ai) (ns:List Int),vs=[.ref p] /\ (bQ K H p (ns.map V.int) \/ cL K H p (ns.map V.int)) /\ ns.length<64 /\ ∀ l,H l=ah->Q (.ref l) (upd H l<|.lst<|(sortI ns).map V.int)
theorem A7:∀ {us}{ns},IntsAre us ns->Vals (ns.map V.int) us
 |_,_,.nil=>.nil
 |_,_,.cons n t h=>.cons #[t,rfl]<|A7 h
theorem GF:pN X (.builtin "sorted") (VT X.K):=by
 intro pins s σ H xs us Q I rv h;let#[p,ns,rfl,hp,dF,q]:=h;let#[u,rfl,ru]:=Vals.one rv;cases ru;have fin:∀ (its) (out) (pB),IntsAre out.toList pB->pB.Perm ns->pB.Pairwise _->EP X pins σ Q _ { s with heap:=sortedAll s.heap its out }:=λits out pB a1 a2 a3=>by
  let#[k,he]:=YH s.heap its out;have e:=(λp ha hb=>p.eq_of_pairwise (λx y _ _ h1 h2=>Int.le_antisymm h1 h2) ha hb) (a2.trans (ju ns).symm) a3<|l5 ns;subst e;have ll:((sortI ns).map V.int).length<=sizeLine:=by
   rw[aX,(ju ns).length_eq];show cw (kM dF) zc
  refine#[.ref _,_,I.laid (λb ob q=>YI q) (sU _) ?_,rfl,q _<|I.ay.fresh<|sU _];show#[ll,out.toList,k,A7 a1,he]
 rcases hp with hp|hp
 .let#[its,r1,p1,z1]:=I.list hp;have hl:ns.length=its.length:=by have:=r1.length;simpa using this
  show sorted_ints p1.isList (o8 r1) zb λout pB=>fin its out pB
 .let#[its,r1,p1,z1]:=I.tuple hp;have hl:ns.length=its.length:=by have:=r1.length;simpa using this
  show HT.Ag p1 (o8 r1) zb λout pB=>fin its out pB
def tO:List D->Option Res
 |[.lst l]=>(intsOf l).bind λns=>if ns.length<64 then ae (.lst<|(sortI ns).map D.int) else ah
 |[.tup l]=>(intsOf l).bind λns=>if ns.length<64 then ae (.lst<|(sortI ns).map D.int) else ah
 |_=>ah
theorem Cq:∀ (ns:List Int),aG F (ns.map D.int) (ns.map V.int):=by
 intro l_;induction l_ with
 |nil=>show rfl
 |cons n ns aB=>show .cons zj<|aB
theorem aes {K}:qT (VT K) tO:=by
 intro F H xs vs Q s sub rx e k;unfold tO at e;split at e
 .ext l;let#[v,t,rfl,#[a,us,rfl,h1,h2],rt]:=rx;cases (rt);cases e1:intsOf l with
  |none=>rw[e1]at e;cases e
  |some ns=>
    rw[e1]at e;erw[bJ]at e;split at e
    .ext dF;cases e;have q1:=h2.ints e1;subst q1;show#[a,ns,rfl,.inl<|.of h1,dF,λl hl=>k _ _ #[l,_,rfl,hl,rfl,Cq _]]
    .cases e
 .ext l;let#[v,t,rfl,#[a,us,rfl,h1,h2],rt]:=rx;cases (rt);cases e1:intsOf l with
  |none=>rw[e1]at e;cases e
  |some ns=>
    rw[e1]at e;erw[bJ]at e;split at e
    .ext dF;cases e;have q1:=h2.ints e1;subst q1;show#[a,ns,rfl,.inr<|.of<|sub _ _ h1,dF,λl hl=>k _ _ #[l,_,rfl,hl,rfl,Cq _]]
    .cases e
 .cases e
def tP (m:DE W) (k:DE W):DE W:=λenv bx=>fC (m env bx) λx bx1=>match x with
 | .b n=>(match bx1[n]? with
   | some (.lst _)=>fC (k env bx1) λy aq=>(match y,aq[n]? with
     |.d d,ae (.lst l)=>if l.length<sizeLine then .val (.d .non) (aq.set n<|.lst<|l++[d]) else .bad
     |_,_=>.bad)
   |_=>.bad)
 |_=>.bad
theorem S9 (h:tD T Z (tP ma mb) σ H Q):Vp X.K "list" ZT (tD T Z ma) (Vh (tD T Z mb) IW) σ H Q:=by
 let#[F,r,env,bx,R,h]:=h;refine#[F,r,env,bx,R,End.bind h λx bx1 F1 r1 v H1 g1 R1 d1 h1=>?_];cases x with
 |b n=>
   simp at h1;let#[a,rfl,ha]:=d1;let#[c,hc,kc]:=R1.kG ha;rw[hc]at h1;cases c with
   |lst l0=>
     let#[_,xV,k0,_]:=kc;refine#[.inl #[rfl,xV,bQ.of k0],?_];refine#[F1,r1,env,bx1,R1,End.bind h1 λy aq F2 r2 u H2 g2 R2 d2 h2=>?_];let#[t,et]:=g2.p;have EK:r2[n]?=ae a:=by rw[<-et,cS (List.getElem?_eq_some_iff.mp ha).1];show ha
     let#[c2,pQ,vX]:=R2.kG EK;rw[pQ]at h2;cases y with
     |d dd=>
       cases c2 with
       |lst l=>
         simp at h2;split at h2
         .ext hz;let#[hF,vs,k1,k2]:=vX;show#[a,vs,u,rfl,rfl,k1,by rw[<-k2.length];show hz,(h2 F2 r2 _ _ (.refl F2 r2) (R2.write EK hF #[hF,vs++[u],fu,k2.append<|.cons d2 .nil]) zj)]
         .show h2.elim
       |_=>show h2.elim
     |_=>show h2.elim
   |_=>show h1.elim
 |_=>show h1.elim
end
end L2.DL
namespace L2
section
variable {κ:Type} [DecidableEq κ]
noncomputable def nE (ao:List<|κ×V) (k:κ):Option V:=(ao.find? λkv=>decide (kv.1=k)).map (·.2)
noncomputable def putK (ao:List<|κ×V) (k:κ) (v:V):List (κ×V):=
 if (ao.any λkv=>decide (kv.1=k))=ag then ao.map (λkv=>if kv.1=k then (kv.1,v) else kv) else ao++[(k,v)]
noncomputable def tQ (ao:List<|κ×V) (k:κ):List (κ×V):=ao.filter λkv=>decide (kv.1≠k)
theorem l7 {k:κ}(e:p.1=k):nE (p::r) k=ae p.2:=by simp[nE,e]
theorem jU {k:κ}(e:¬ p.1=k):nE (p::r) k=nE r k:=by simp[nE,e]
theorem JZ (k):∀ ao:List (κ×V),(ao.any λkv=>decide (kv.1=k))=(nE ao k).isSome:=by
 intro l_;induction l_ with
 |nil=>show rfl
 |cons p r aB=>
   rw[vn];by_cases e:p.1=k
   .simp[l7 e,decide_eq_true e,Bool.true_or,Option.isSome_some]
   .rw[jU e,decide_eq_false e,Bool.false_or];show aB
theorem jV (ao) (k:κ) (v):(putK ao k v).length<=ao.length+1:=by
 unfold putK;split
 .rw[aX];lia
 .rw[bH,a6,nZ];lia
theorem kO.xW (r:kO o u):o.isSome=u.isSome:=by
 cases o with
 | none=>cases u with
   |none=>rfl
   |some _=>show(r).elim
 | some _=>cases u with
   |none=>show(r).elim
   |some _=>rfl
theorem kO.getD (r:kO o u) (rd:RelV d d'):RelV (o.getD d) (u.getD d'):=by
 cases o with
 | none=>cases u with
   |none=>show rd
   |some _=>show(r).elim
 | some _=>cases u with
   |none=>show(r).elim
   |some _=>show r
theorem KV.val (r:KV ao vs) (k:κ):kO (nE ao k) (valueAt vs k):=by
 induction r with
 |nil=>show True.intro
 |@cons p q ps qs h t ih=>
   let#[h1,h2]:=h;by_cases e:p.1=k
   .have b:valueAt (q::qs) k=ae q.2:=by simp[valueAt,(h1.symm.trans e)]
    rw[l7 e,b];show h2
   .have e':¬ q.1=k:=λz=>e<|h1.trans z;have b:valueAt (q::qs) k=valueAt qs k:=by simp[valueAt,e']
    rw[jU e,b];show ih
theorem KV.any (r:KV ao vs) (k:κ):(ao.any λkv=>decide (kv.1=k))=vs.any λkv=>decide (kv.1=k):=by
 induction r with
 |nil=>rfl
 |cons h t ih=>rw[vn,vn,ih,h.1]
theorem KV.repl (r:KV ao vs) (k:κ) (ry:RelV y u) :
 KV (ao.map λkv=>if kv.1=k then (kv.1,y) else kv) (vs.map λkv=>if kv.1=k then (kv.1,u) else kv):=by
 induction r with
 |nil=>show .nil
 |@cons p q ps qs h t ih=>
   rw[aS,aS];refine .cons ?_ ih;let#[h1,h2]:=h;by_cases e:p.1=k
   .rw[if_pos e,if_pos<|h1.symm.trans e];show#[h1,ry]
   .rw[if_neg e,if_neg λz=>e<|h1.trans z];show#[h1,h2]
theorem KV.put (r:KV ao vs) (k:κ) (ry:RelV y u):KV (putK ao k y) (stored vs k u):=by
 unfold putK stored;rw[r.any k];by_cases e:(vs.any λkv=>decide (kv.1=k))=ag
 .rw[if_pos e,if_pos e];show r.repl k ry
 .rw[if_neg e,if_neg e];show Paired.snoc r #[rfl,ry]
theorem KV.drop (r:KV ao vs) (k:κ):KV (tQ ao k) (without vs k):=by
 unfold tQ without;induction r with
 |nil=>show .nil
 |@cons p q ps qs h t ih=>
   let#[h1,h2]:=h;rw[Im,Im];by_cases e:p.1=k
   .rw[if_neg (by simp[e]),if_neg (by simp[h1.symm.trans e])];show ih
   .have e':¬ q.1=k:=λz=>e<|h1.trans z;rw[if_pos (by simp[e]),if_pos (by simp[e'])];show .cons #[h1,h2] ih
theorem KV.length {vs:List (κ×au)}(r:KV ao vs):ao.length=vs.length:=Paired.length r
end
theorem m8 (r:RelV (kV k) u):(dW P w).is k u=ag:=by
 cases k with
 |inl i=>let#[t,e]:=(r);subst e;show(λprog w i t=>Gk i t) P w i t
 |inr x=>let#[t,e]:=(r);subst e;show(λprog w x t=>Gm x t) P w x t
theorem GG:∀ {ks}{us},Vals (ks.map kV) us->ItemsAre (dW P w) ks us:=by
 intro l_;induction l_ with
 |nil=>(intro _ r;cases r;show .nil)
 |cons k ks aB=>
   intro _ r;cases r with
   |cons h t=>show .cons (m8 h)<|aB t
abbrev KT (H:Hp):List (List Key×V)->List (List Key×ai×au)->zk:=Paired λp q=>p.1=q.1 /\ H q.2.1=ae (.tup<|p.1.map kV) /\ RelV p.2 q.2.2
theorem KT.val (r:KT H ao xs) (k):kO (nE ao k) ((atKey xs k).map (·.2)):=by
 induction r with
 |nil=>show True.intro
 |@cons p q ps qs h t ih=>
   let#[h1,_,h2]:=h;by_cases e:p.1=k
   .have b:atKey (q::qs) k=ae q.2:=by simp[atKey,(h1.symm.trans e)]
    rw[l7 e,b];show h2
   .have e':¬ q.1=k:=λz=>e<|h1.trans z;have b:atKey (q::qs) k=atKey qs k:=by simp[atKey,e']
    rw[jU e,b];show ih
theorem KT.repl (r:KT H ao xs) (k) (ry:RelV y u) :
 KT H (ao.map λkv=>if kv.1=k then (kv.1,y) else kv) (xs.map<|putAt k u):=by
 induction r with
 |nil=>show .nil
 |@cons p q ps qs h t ih=>
   rw[aS,aS];refine .cons ?_ ih;let#[h1,h2,h3]:=h;unfold putAt;by_cases e:p.1=k
   .rw[if_pos e,if_pos<|h1.symm.trans e];show#[h1,h2,ry]
   .rw[if_neg e,if_neg λz=>e<|h1.trans z];show#[h1,h2,h3]
theorem KT.put (r:KT H ao xs) (k) (hb:H b=ae (.tup<|k.map kV)) (ry:RelV y u) :
 KT H (putK ao k y) (storedH xs k b u):=by
 have e:(ao.any λkv=>decide (kv.1=k))=(atKey xs k).isSome:=by
  rw[JZ,(r.val k).xW,xb]
 unfold putK storedH;rw[e];by_cases q:(atKey xs k).isSome=ag
 .rw[if_pos q,if_pos q];show r.repl k ry
 .rw[if_neg q,if_neg q];show Paired.snoc r #[rfl,hb,ry]
theorem KT.keeps (r:KT H ao xs) (ht:∀ b ys,H b=ae (.tup ys)->H' b=ae (.tup ys)):KT H' ao xs:=
 Paired.U2 r λ_ _ z=>#[z.1,ht _ _ z.2.1,z.2.2]

theorem Pb (ok:cu P w H h) (e:Rd H a u):cq P w H h a u:=e.ok ok
theorem m9 (ok:cu P w H h) (e:Rd H a<|.dK ao):ao.length<=sizeLine /\ (a==sysModules)=af /\ ∃ vs,KV ao vs /\ h.DictOf (dW P w) a vs:=
 Pb ok e
theorem J0 (ok:cu P w H h) (e:H a=ae (.dK ao)):ao.length<=sizeLine /\ (a==sysModules)=af /\ ∃ vs,KV ao vs /\ h.DictOf (dW P w) a vs:=m9 ok<|.inl e
theorem lJ (ok:cu P w H h) (e:H a=ae (.tup<|ks.map kV)):(tupleKind<|dW P w).is h ks a:=by
 let#[_,its,r,o,h1,h2,n,h3]:=(ok a _ e);show#[o,its.toArray,n,h1,h2,h3,by simpa using GG r]
theorem Ah (ok:cu P w H h) (e:Rd H a<|.dT ao):ao.length<=sizeLine /\ (a==sysModules)=af /\
 ∃ xs,KT H ao xs /\ h.DictOfH (tupleKind<|dW P w) a xs:=by
 let#[z,y,xs,r,o,es,ep,h1,h2,h3,h4,h5]:=(Pb ok e);refine#[z,y,xs,r,o,es,ep,h1,h2,h3,h4,λx hx=>?_,h5];have all:∀ {l}{m},KT H l m->∀ x∈m,(tupleKind<|dW P w).is h x.1 x.2.1:=by
  intro l m q;induction q with
  |nil=>intro x hx;show nomatch hx
  |@cons p q ps qs hq t ih=>
    intro x hx;rcases a9.mp hx with e|hx
    .subst e;show lJ ok (by rw[<-hq.1];show hq.2.1)
    .show ih x hx
 show all r x hx
theorem Pc (ok:cu P w H h) (e:H a=ae (.dT ao)):ao.length<=sizeLine /\ (a==sysModules)=af /\
 ∃ xs,KT H ao xs /\ h.DictOfH (tupleKind<|dW P w) a xs:=Ah ok<|.inl e
def qZ (H:Hp) (a:ai) (y:V) (r:Option V):zk:=
 (∃ ao k,Rd H a (.dK ao) /\ y=kV k /\ r=nE ao k) \/ ∃ ao k b,Rd H a (.dT ao) /\ y=.ref b /\ H b=ae (.tup<|k.map kV) /\ r=nE ao k
def aas (H:Hp) (a:ai) (y v:V) (H':Hp):zk:=
 (∃ ao k,H a=ae (.dK ao) /\ y=kV k /\ ao.length<sizeLine /\ H'=upd H a (.dK<|putK ao k v)) \/
 ∃ ao k b,H a=ae (.dT ao) /\ y=.ref b /\ H b=ae (.tup<|k.map kV) /\ ao.length<sizeLine /\ H'=upd H a (.dT<|putK ao k v)
theorem qZ.k {k}(e:H a=ae (.dK ao)):qZ H a (kV k) (nE ao k):=.inl #[ao,k,.inl e,rfl,rfl]

theorem Inv.big (I:Inv X pins σ H s):sysModules<s.heap.objs.size:=by
 show vh zc (I.mod.glob.keeps I.bk).lt
theorem GH (hu:A.units+1<cLine) (I:Inv X pins σ H s) (g:qZ H a y<|ae v) (ry:RelV y u) (h:∀ w' s',Inv X pins σ H s'->RelV v w'->Q w' s') :
 wpAny zd A (getItem (.ref a) u) Q E s:=by
 rcases g with⟨ao,k,e,ey,l⟩|⟨ao,k,b,e,ey,eb,l⟩
 .subst ey;let#[z,hd,vs,rel,dd]:=m9 I.ay e;let#[w',hw,nL]:=kO.some_of (by rw[l];show rel.val k);show wpAny_getItem_of (m8 ry) dd.mapOf hw<|h w' _ (I.tok _) nL
 .subst ey;cases (ry);let#[z,hd,xs,rel,dd]:=Ah I.ay e;let#[w',hw,nL]:=kO.some_of (by rw[l];show rel.val k);let#[p,hp,aet]:=Option.map_eq_some_iff.mp hw;refine wpAny_getItem_heap (wM hu) (lJ I.ay eb) dd hp ?_;rw[aet];show h w' _ (I.tok _) nL
theorem Ub (hu:A.units+1<cLine) (I:Inv X pins σ H s) (g:qZ H a y o) (ry:RelV y u) (h:∀ s',Inv X pins σ H s'->Q (.bool o.isSome) s') :
 wpAny zd A (compareOp .In u<|.ref a) Q E s:=by
 rcases g with⟨ao,k,e,ey,l⟩|⟨ao,k,b,e,ey,eb,l⟩
 .subst ey;let#[z,hd,vs,rel,dd]:=m9 I.ay e;refine wpAny_in_of (m8 ry) hd dd.mapOf ?_;rw[<-(rel.val k).xW,<-l];show h _<|I.tok _
 .subst ey;cases (ry);let#[z,hd,xs,rel,dd]:=Ah I.ay e;refine wpAny_in_heap (wM hu) (lJ I.ay eb) hd dd ?_;have q:=(rel.val k).xW;rw[xb]at q;rw[<-q,<-l];show h _<|I.tok _
theorem Ni (hu:A.units+1<cLine) (I:Inv X pins σ H s) (g:qZ H a y o) (ry:RelV y u) (h:∀ s',Inv X pins σ H s'->Q (.bool<|!o.isSome) s') :
 wpAny zd A (compareOp .NotIn u<|.ref a) Q E s:=by
 rcases g with⟨ao,k,e,ey,l⟩|⟨ao,k,b,e,ey,eb,l⟩
 .subst ey;let#[z,hd,vs,rel,dd]:=m9 I.ay e;refine wpAny_notIn_of (m8 ry) hd dd.mapOf ?_;rw[<-(rel.val k).xW,<-l];show h _<|I.tok _
 .subst ey;cases (ry);let#[z,hd,xs,rel,dd]:=Ah I.ay e;refine wpAny_notIn_heap (wM hu) (lJ I.ay eb) hd dd ?_;have q:=(rel.val k).xW;rw[xb]at q;rw[<-q,<-l];show h _<|I.tok _
theorem oF (I:Inv X pins σ H s) (mu:Eb<|H a) (hs:Heap.SameBut a s.heap h') (he:∃ q,h'.get? a=ae q) (new:cq X.prog X.w (upd H a ob) h' a ob) :
 Inv X pins σ (upd H a ob) { s with heap:=h',toks:=t' }:=
 I.write mu (.inl zj) (λb q hb z=>(hs.2 b hb).trans z) he new
theorem Du (z:ao.length<=sizeLine) (hd:(a==sysModules)=af) (rel:KV ao vs) (dd:h'.DictOf (dW P w) a vs) :
 cq P w H' h' a (.dK ao):=#[z,hd,vs,rel,dd]
theorem GI (hu:A.units+1<cLine) (I:Inv X pins σ H s) (g:aas H a y v H') (ry:RelV y u) (rv:RelV v r) (h:∀ s',Inv X pins σ H' s'->Q () s') :
 wpAny zd A (setItem (.ref a) u r) Q E s:=by
 rcases g with⟨ao,k,e,ey,l,eH⟩|⟨ao,k,b,e,ey,eb,l,eH⟩
 .subst ey eH;let#[z,hd,vs,rel,dd]:=J0 I.ay e;have hz:vs.length<=sizeLine:=by rw[<-rel.length];show z
  have hl:(putK ao k v).length<=sizeLine:=by have:=jV ao k v;lia
  refine wpAny_setItem_pairs (m8 ry) dd λh' sC hs=>h _ ?_;have he:∃ q,h'.get? a=ae q:=let ⟨q,_,_,hq,_⟩:=sC;#[q,hq]
  show oF I (by rw[e];show True.intro) hs he<|Du hl hd (rel.put k rv) sC
 .subst ey eH;cases (ry);let#[z,hd,xs,rel,dd]:=Pc I.ay e;have hz:xs.length<=sizeLine:=by rw[<-Paired.length rel];show z
  have hl:(putK ao k v).length<=sizeLine:=by have:=jV ao k v;lia
  refine wpAny_setItem_heap (wM hu) (lJ I.ay eb) dd λh' sC hs=>h _ ?_;let#[q,es,ep,hq,h2,h3,h4,_,h5]:=sC;refine oF I (by rw[e];show True.intro) hs #[q,hq] #[hl,hd,_,(rel.put k eb rv).keeps λc ys ec=>?_,q,es,ep,hq,h2,h3,h4,h5];rw[fv<|SW ec e λz=>nomatch z];show ec

theorem GJ (I:Inv X pins σ H s) (e:H a=ae (.dK ao)) (ry:RelV (kV k) u) (l:(nE ao k).isSome=ag) (h:∀ s',Inv X pins σ (upd H a<|.dK<|tQ ao k) s'->Q () s') :
 wpAny zd A (delItem (.ref a) u) Q E s:=by
 let#[z,hd,vs,rel,dd]:=J0 I.ay e;refine wpAny_delItem_slot dd.typeIs (rfl) YY
  (HZ YY dd.typeIs PySem.F.entry_dict_delitem (PySem.F.args_dict_delitem_2 _ _) (meets_dict_delitem_pairs _ a<|m8 ry) #[vs,dd,by rw[<-rel.length];show z,by rw[<-(rel.val k).xW];show l,λh' sC hs=>h _ ?_])
 show oF I (by rw[e];show True.intro) hs (let ⟨q,_,_,hq,_⟩:=sC;#[q,hq])<|Du (cw ((λao k=>QP _ _) ao k) z) hd (rel.drop k) sC
def VU (i:aD):zk:=∀ ov iv,subscripted i af ov iv=operate [ov,iv] (getItem ov iv)
theorem Nj {id}
 (hl:typeLookup (.type T) "__getitem__"=pure (ae<|.builtin id)) (hs:VU slice)
 (h:wpAny zf A (eval value env) (λo s₁=>wpAny zf A (eval slice env) (λi s₂=>s₂.TypeIs o T /\ wpAny zf A (getItem o i) Q E s₂) E s₁) E s) :
 wpAny zf A (eval (.Subscript value slice pos) env) Q E s:=by
 refine Subscript_<|eX h (λo s₁ h₁=>eX h₁ (λi s₂ h₂=>?_) λ_ _ x=>x) λ_ _ x=>x;let#[hT,h₂]:=h₂;refine ak ?_;refine ak<|Xv hT hl ?_;have fin:wpAny zf A (subscripted slice af o i) (λr s₃=>wpAny zf A (letTemporaryGo value o r >>= λ_=>pure r) Q E s₃) E s₂:=by
  rw[hs o i];show wpAny_operating<|eX h₂ (λr s₃ h₃=>ak<|wpAny_letTemporaryGo<|ax h₃) λ_ _ x=>x
 first
  |show ax<|ak fin
  |show ak _
  |show ak fin
def aat (td ty:TE):TE:=λσ H Q=>td σ H λx H1=>ty σ H1 λy H2=>∃ a v,x=.ref a /\ qZ H2 a y (ae v) /\ Q v H2
def aau (ty td:TE):TE:=λσ H Q=>ty σ H λy H1=>td σ H1 λx H2=>∃ a o,x=.ref a /\ qZ H2 a y o /\ Q (.bl o.isSome) H2
def aav (ty td:TE):TE:=λσ H Q=>ty σ H λy H1=>td σ H1 λx H2=>∃ a o,x=.ref a /\ qZ H2 a y o /\ Q (.bl<|!o.isSome) H2
def aaw (td ty tv:TE):TS:=λD σ H=>tv σ H λv H1=>td σ H1 λx H2=>ty σ H2 λy H3=>∃ a H4,x=.ref a /\ aas H3 a y v H4 /\ D.nx σ H4
def aax (td ty:TE):TS:=λD σ H=>td σ H λx H1=>ty σ H1 λy H2=>∃ a ao k,x=.ref a /\ H2 a=ae (.dK ao) /\ y=kV k /\ (nE ao k).isSome=ag /\ D.nx σ (upd H2 a<|.dK<|tQ ao k)

theorem Nk (hu:X.A.units+1<cLine) (ho:PE X o td) (hi:PE X i ty) (hs:VU i):PE X (.Subscript o i pos) (aat td ty):=by
 intro pins s σ H Q I h;refine Nj PySem.F.slot_dict_getitem.lookup hs<|aV (ho pins s σ H _ I h) λu s1 x H1 I1 rx q1=>aV (hi pins s1 σ H1 _ I1 q1) λiv s2 y H2 I2 ry hh=>?_;let#[a,v,ex,g,q2]:=hh;subst ex;obtain rfl:u=Value.ref a:=rx;show#[(λI g=>by
  rcases g with⟨ao,k,e,_,_⟩|⟨ao,k,b,e,_,_,_⟩
  .let#[_,_,vs,_,dd]:=m9 I.ay e;show dd.typeIs
  .let#[_,_,xs,_,dd]:=Ah I.ay e;show dd.typeIs) I2 g,GH hu I2 g ry λw' s3 I3 nL=>#[v,H2,I3,nL,q2]]
theorem J1 (hu:X.A.units+1<cLine) (hi:PE X i ty) (ho:PE X o td):PC X .In i o (aau ty td):=by
 intro pins s σ H Q I h;refine aV (hi pins s σ H _ I h) λiv s1 y H1 I1 ry q1=>aV (ho pins s1 σ H1 _ I1 q1) λu s2 x H2 I2 rx hh=>?_;let#[a,ov,ex,g,q2]:=hh;subst ex;obtain rfl:u=Value.ref a:=rx;show Ub hu I2 g ry λs3 I3=>#[.bl ov.isSome,H2,I3,rfl,q2]
theorem A8 (hu:X.A.units+1<cLine) (hi:PE X i ty) (ho:PE X o td):PC X .NotIn i o (aav ty td):=by
 intro pins s σ H Q I h;refine aV (hi pins s σ H _ I h) λiv s1 y H1 I1 ry q1=>aV (ho pins s1 σ H1 _ I1 q1) λu s2 x H2 I2 rx hh=>?_;let#[a,ov,ex,g,q2]:=hh;subst ex;obtain rfl:u=Value.ref a:=rx;show Ni hu I2 g ry λs3 I3=>#[.bl _,H2,I3,rfl,q2]
theorem Fk (hu:X.A.units+1<cLine) (ho:PE X o td) (hi:PE X i ty) (hv:PE X value tv) (hs:swapsWith value (ae<|.Subscript o i pos') pos.line X.env=pure af) :
 PS X (.Assign [.Subscript o i pos'] value pos) (aaw td ty tv):=by
 intro pins s σ H D I h;refine wpAny_Assign_Subscript (aV (hv pins s σ H _ I h) λr s1 v H1 I1 rv q1=>aV (ho pins s1 σ H1 _ I1 q1) λu s2 x H2 I2 rx q2=>aV (hi pins s2 σ H2 _ I2 q2) λiv s3 y H3 I3 ry hh=>?_) hs;let#[a,H4,ex,g,q3]:=hh;subst ex;obtain rfl:u=Value.ref a:=rx;show GI hu I3 g ry rv λs4 I4=>#[σ,H4,I4,q3]
theorem Nl (ho:PE X o td) (hi:PE X i ty):PS X (.Delete [.Subscript o i ahl] pos) (aax td ty):=by
 intro pins s σ H D I h;refine wpAny_Delete<|wpAny_deleteEach_cons<|wpAny_delete_Subscript<|aV (ho pins s σ H _ I h) λu s1 x H1 I1 rx q1=>aV (hi pins s1 σ H1 _ I1 q1) λiv s2 y H2 I2 ry hh=>?_;let#[a,ao,k,ex,e,ey,l,q2]:=hh;subst ex ey;obtain rfl:u=Value.ref a:=rx;show GJ I2 e ry l λs3 I3=>wpAny_deleteEach_nil #[σ,_,I3,q2]
theorem Cr (h:aK) (hb:sysModules<h.objs.size):cq P w H (h.push { cls:=.type "dict",data:=.dict #[] }) h.objs.size (.dK []):=
 #[di _,beq_eq_false_iff_ne.mpr<|Ne.symm<|bN hb,[],.nil,Heap.DictOf.new h]
def aeu:TE:=λ_ H Q=>∀ p,H p=ah->Q (.ref p) (upd H p<|.dK [])
def aev:TE:=λ_ H Q=>∀ p,H p=ah->Q (.ref p) (upd H p<|.dT [])

theorem J2:PE X (.Dict [] [] pos) aeu:=λpins s σ H Q I h=>
 Xw #[.ref s.heap.objs.size,_,I.laid (λ_ _ q=>aR _ q) (aA _)<|Cr s.heap I.big,rfl,h _<|I.ay.fresh<|aA _]
theorem J3:PE X (.Dict [] [] pos) aev:=λpins s σ H Q I h=>
 Xw #[.ref s.heap.objs.size,_,I.laid (λ_ _ q=>aR _ q) (aA _)<|(λh hb=>#[di _,beq_eq_false_iff_ne.mpr<|Ne.symm<|bN hb,[],.nil,_,#[],0,bC _ zj,#[rfl,rfl,rfl],rfl,rfl,List.nodup_nil]) s.heap I.big,rfl,h _<|I.ay.fresh<|aA _]
noncomputable def VW:List (TE×TE)->St->Hp->(List (V×V)->Hp->zk)->zk
 |[],_,H,Q=>Q [] H
 |(tk,tv)::r,σ,H,Q=>tk σ H λx H1=>tv σ H1 λy H2=>VW r σ H2 λps H3=>Q ((x,y)::ps) H3
abbrev VV:List (V×V)->List (au×au)->zk:=Paired λp q=>RelV p.1 q.1 /\ RelV p.2 q.2
def Ku (X:Cx) (pos:Pos) (keys:List<|Option aD) (values:List aD) (vY:List<|TE×TE):zk:=
 ∀ (pins) (s) (σ:St) (H) (Q),Inv X pins σ H s->VW vY σ H Q ->
  wpAny zd X.A (evalPairs<|pairTrees keys values X.env pos) (λvs s'=>∃ ps H',Inv X pins σ H' s' /\ VV ps vs /\ Q ps H') X.xe s
theorem BD:Ku X pos [] [] []:=λpins s σ H Q I h=>pairTrees_nil_walk #[[],H,I,.nil,h]
theorem jW (hk:PE X k tk) (hv:PE X v tv) (hr:Ku X pos ks vs vY) :
 Ku X pos (ae k::ks) (v::vs) ((tk,tv)::vY):=λpins s σ H Q I h=>
 pairTrees_cons_walk (aV (hk pins s σ H _ I h) λu s1 x H1 I1 rx q1=>aV (hv pins s1 σ H1 _ I1 q1) λw2 s2 y H2 I2 ry q2=>IL (hr pins s2 σ H2 _ I2 q2) λws s3 ps H3 I3 rel q3=>#[(x,y)::ps,H3,I3,.cons #[rx,ry] rel,q3])
def vZ (ao more:List<|Key×V):List (Key×V):=more.foldl (λacc kv=>putK acc kv.1 kv.2) ao
theorem KV.merge:∀ {more}{rs}{ao}{vs},KV more rs->KV ao vs->KV (vZ ao more) (merged vs rs):=by
 intro more rs ao vs r;induction r generalizing ao vs with
 |nil=>intro q;show q
 |@cons p q ps qs h t ih=>
   intro r0;have e:KV (putK ao p.1 p.2) (stored vs q.1 q.2):=by
    have:=r0.put p.1 h.2;rw[<-h.1];show this
   show ih e
theorem AO:∀ (more ao),(vZ ao more).length<=ao.length+more.length:=by
 intro l_;induction l_ with
 |nil=>(intro ao;change ao.length<=ao.length+0;lia)
 |cons p r aB=>
   intro ao;have h1:=aB<|putK ao p.1 p.2;have h2:=jV ao p.1 p.2;change (vZ _ r).length<=_;rw[a6];lia
theorem Dv:∀ {ao}{ws},VV (ao.map λkv=>(kV kv.1,kv.2)) ws->∃ rs,Carries (dW P w) ws rs /\ KV ao rs:=by
 intro l_;induction l_ with
 |nil=>(intro _ r;cases r;show#[[],True.intro,.nil])
 |cons p ao aB=>
   intro _ r;cases r with
   |@cons a b as bs h t=>
     let#[rs,c,q]:=aB t;let#[b1,b2]:=b;show#[(p.1,b2)::rs,#[m8 h.1,rfl,c],.cons #[rfl,h.2] q]
def aew (vY:List<|TE×TE):TE:=λσ H Q=>∀ p,H p=ah->VW vY σ (upd H p<|.dK []) λps H2=>H2 p=ae (.dK []) /\ ∃ ao,ps=ao.map (λkv=>(kV kv.1,kv.2)) /\ ao.length<=15 /\ Q (.ref p) (upd H2 p<|.dK<|vZ [] ao)
theorem BE (h:Ku X pos keys values vY) (ph:keys.all (·.isSome)=ag) (hl:keys.length=values.length) (h0:keys≠[])
 (aex:keys.length<=15):PE X (.Dict keys values pos) (aew vY):=by
 intro pins s σ H Q I q;refine wpAny_Dict_walk (knd:=dW X.prog X.w) ph hl h0 aex<|IL (h pins _ σ _ _ (I.laid (t':=s.toks) (λ_ _ q=>aR _ q) (aA _)<|Cr s.heap I.big)<|q _<|I.ay.fresh<|aA s.heap.objs.size) λws s2 ps H2 I2 rel ⟨e,ao,ep,lk,q2⟩=>?_;subst ep;let#[rs,c,rk]:=Dv rel;let#[z,hd,xV,r0,dd]:=J0 I2.ay e;cases r0;refine#[rs,c,dd,λh' sC hs=>#[.ref s.heap.objs.size,_,?_,rfl,q2]];have hz:(vZ [] ao).length<=sizeLine:=by
  have h1:=AO ao [];rw[nZ]at h1;rw[bB];lia
 show oF I2 (by rw[e];show True.intro) hs (let ⟨q,_,_,hq,_⟩:=sC;#[q,hq])<|Du hz hd (rk.merge .nil) sC
structure M1 (X:Cx) (o:aD) (m:Str) (apos:Pos) (e:aD) (dI:Pos):zk where
 base:attributeBase o m X.env (eval o X.env)=eval o X.env
 few:((backTo dI<|starEach [e] X.env).all (λx=>!x.1)&&(backToKw dI<|keywordEach [] X.env).all (λx=>x.1.isSome)
  && decide (([e]:List aD).length+([]:List Keyword).length+(if ([]:List Keyword).isEmpty then 0 else 1)<30))=ag
 line:(apos.endLine==dI.line)=ag
 trees:backTo dI (starEach [e] X.env)=[(af,eval e X.env)]
def aay (H:Hp) (a:ai):zk:=(∃ ao,Rd H a<|.dK ao) \/ ∃ ao,Rd H a (.dT ao)
theorem J4 (I:Inv X pins σ H s) (d:aay H a) :
 s.TypeIs (.ref a) "dict" /\ (∀ b,Value.ref a=.ref b->∃ ob,s.heap.get? b=ae ob /\ ob.dict=ah) /\ (a==sysModules)=af:=by
 rcases d with⟨ao,e⟩|⟨ao,e⟩
 .let#[_,hd,vs,_,dd]:=m9 I.ay e;refine#[dd.typeIs,λb q=>?_,hd];cases q;let#[ob,_,_,h1,h2,_]:=dd;show#[ob,h1,h2.2.1]
 .let#[_,hd,xs,_,dd]:=Ah I.ay e;refine#[dd.typeIs,λb q=>?_,hd];cases q;let#[ob,_,_,h1,h2,_]:=dd;show#[ob,h1,h2.2.1]

theorem Rq (hu:A.units+1<cLine) (I:Inv X pins σ H s) (g:qZ H a y o) (ry:RelV y u) (h:∀ w' s',Inv X pins σ H s'->RelV (o.getD .non) w'->Q w' s') :
 wpAny zd A (call (.builtin "dict.get") [.ref a,u]) Q E s:=by
 rcases g with⟨ao,k,e,ey,l⟩|⟨ao,k,b,e,ey,eb,l⟩
 .subst ey;let#[z,hd,vs,rel,dd]:=m9 I.ay e;refine HZ UU dd.typeIs YZ (Y0 _ _) (meets_dict_get _ a (m8 ry) hd) #[_,dd.mapOf,h _ _ (I.tok _) ?_];rw[l];show(rel.val k).getD zj
 .subst ey;cases (ry);let#[z,hd,xs,rel,dd]:=Ah I.ay e;refine HZ UU dd.typeIs YZ (Y0 _ _) (meetsH_dict_get _ a b hd) #[wM hu,k,xs,lJ I.ay eb,dd,h _ _ (I.tok _) ?_];rw[l];show(rel.val k).getD zj
def aaz (td ty:TE):TE:=λσ H Q=>td σ H λx H1=>∃ a,x=.ref a /\ aay H1 a /\ ty σ H1 λy H2=>∃ o,qZ H2 a y o /\ Q (o.getD .non) H2

theorem J5 (hu:X.A.units+1<cLine) (ho:PE X o td) (he:PE X e ty) (m:M1 X o "get" apos e dI):PE X (.Call (.Attribute o "get" apos) [e] [] dI) (aaz td ty):=by
 intro pins s σ H Q I h;refine Xx m.base m.few m.line Y1 UU PySem.F.type_dict_get<|aV (ho pins s σ H _ I h) λu s1 x H1 I1 rx hh=>?_;let#[a,ex,d,q1]:=hh;subst ex;obtain rfl:u=Value.ref a:=rx;let#[t1,t2,_]:=J4 I1 d;refine#[t1,t2,?_];rw[m.trees];show UN zj<|UO<|yY<|aV (he pins s1 σ H1 _ I1 q1) λiv s2 y H2 I2 ry ⟨ov,g,q2⟩=>yX<|Rq hu I2 g ry λw' s3 I3 nL=>#[_,H2,I3,nL,q2]
end L2
namespace L2.DL
noncomputable def cH:Key->PyData
 |.inl i=>.int i
 |.inr x=>.str x
mutual
noncomputable def toPy:D->PyData
 |.non=>.none
 |.bl b=>.bool b
 |.int i=>.int i
 |.str x=>.str x
 |.tup l=>.tuple<|br l
 |.lst l=>.list<|br l
 |.az l=>.dict<|bT l
noncomputable def br:List D->List PyData
 |[]=>[]
 |d::l=>toPy d::br l
noncomputable def bT:List (Key×D)->List (PyData×PyData)
 |[]=>[]
 |(k,d)::l=>(cH k,toPy d)::bT l
end
section
variable {X:Cx}
theorem mK:∀ {es}{vs}{l}{ao},PySem.Pairs (dW X.prog X.w) es vs->KV ao vs->aL F l ao->ReadsAll h (es.map (·.key)) ((bT l).map (·.1)) []
 | _,_,[],_,p,k,d=>by
   cases (d);cases k;cases p;show .nil
 | _,_,(k,x)::l,_,p,q,d=>by
   let#[v,r,e,_,d2]:=d;subst e;cases q with
   |cons q1 q2=>
     cases p with
     |@cons de _ _ _ p1 p2 p3=>
       have e1:=q1.1;simp at e1;rw[<-e1]at p1;have hk:Reads h de.key (cH k) []:=by
        rcases f7 (p1) with⟨i,t,e2,e3⟩|⟨y,t,e2,e3⟩
        .rw[e2,e3];show .int i t
        .rw[e2,e3];show .str y t
       show ReadsAll.cons hk<|mK (h:=h) p3 q2 d2
mutual
theorem gu (I:Inv X pins σ H s) (sub:Sub F H):∀ {d:D}{v:V}{u:au},Den F d v->RelV v u->∃ as,Reads s.heap u (toPy d) as
 |.non,_,_,h,r=>by cases (show _=V.non from h);cases r;show#[[],.none]
 |.bl b,_,_,h,r=>by cases (show _=V.bl b from h);cases r;show#[[],.bool b]
 |.int i,_,_,h,r=>by cases (show _=V.int i from h);let#[t,rfl]:=r;show#[[],.int i t]
 |.str x,_,_,h,r=>by cases (show _=V.str x from h);let#[t,rfl]:=r;show#[[],.str x t]
 | .tup l,_,_,h,r=>by
   let#[a,vs,rfl,h1,h2]:=h;cases r;let#[_,its,rv,ob,e1,e2,n,e3]:=(show cq X.prog X.w H s.heap a (.tup vs) from I.ay a _ (sub _ _ h1));let#[as,ra]:=jv I sub h2 rv;show#[as,.tuple e1 e2 e3 (by simpa using ra)]
 | .lst l,_,_,h,r=>by
   let#[a,vs,rfl,h1,h2]:=h;cases r;let#[_,its,n,rv,e1]:=(show cq X.prog X.w H s.heap a (.lst vs) from I.ay a _ (sub _ _ h1));let#[as,ra]:=jv I sub h2 rv;show#[a::as,.list e1 zj zj (by simpa using ra)]
 | .az l,_,_,h,r=>by
   let#[a,ao,rfl,h1,h2]:=h;cases r;let#[_,_,vs,rk,ob,es,ep,e1,e2,e3,_,pr,_]:=(show cq X.prog X.w H s.heap a (.dK ao) from I.ay a _ (sub _ _ h1));let#[as,ra]:=lK I sub h2 rk pr;show#[a::[]++as,.dict e1 e2.1 e3 (mK (X:=X) pr rk h2) ra]
theorem jv (I:Inv X pins σ H s) (sub:Sub F H):∀ {l:List D}{vs:List V}{us:List au},aG F l vs->Vals vs us->∃ as,ReadsAll s.heap us (br l) as
 |[],_,_,h,r=>by cases (show _=[] from h);cases r;show#[[],.nil]
 | d::l,_,_,h,r=>by
   let#[v,t,e,h1,h2]:=h;subst e;cases r with
   |cons r1 r2=>
     let#[as,ra]:=gu I sub h1 r1;let#[bs,rb]:=jv I sub h2 r2;show#[as++bs,.cons ra rb]
theorem lK (I:Inv X pins σ H s) (sub:Sub F H):∀ {l:List (Key×D)}{ao:List (Key×V)}{vs:List (Key×au)}{es:List DictEntry},aL F l ao->KV ao vs->PySem.Pairs (dW X.prog X.w) es vs->∃ as,ReadsAll s.heap (es.map (·.val)) ((bT l).map (·.2)) as
 |[],_,_,_,h,r,p=>by cases (show _=[] from h);cases r;cases p;show#[[],.nil]
 | (k,d)::l,_,_,_,h,r,p=>by
   let#[v,t,e,h1,h2]:=h;subst e;cases r with
   |cons r1 r2=>
     cases p with
     |cons p1 p2 p3=>
       let#[as,ra]:=gu I sub h1 r1.2;let#[bs,rb]:=lK I sub h2 r2 p3;rw[<-p2]at ra;show#[as++bs,.cons ra rb]
end
abbrev EL (ts:List Str):zk:=∀ t∈ts,t.length<=sizeLine
theorem J6 (e:vA k y=ag) (hs:(cH k).showable=ag) (hz:(cH k).shown.length<=sizeLine) (n):ReprK X.prog X.w [] h n y (cH k).shown:=by
 rcases f7 e with⟨i,t,e2,e3⟩|⟨x,t,e2,e3⟩
 .subst e2;subst e3;show .of_is (ReprIs.int t (by simpa[cH,PyData.showable] using hs)) _ _ _
 .subst e2;subst e3;show .of_is (ReprIs.str x t (by simpa only[cH,PyData.shown] using hz)) _ _ _
theorem mL:∀ {es}{vs}{l}{ao},PySem.Pairs (dW X.prog X.w) es vs->KV ao vs->aL F l ao->PyData.showableKv (bT l)=ag->EL (PyData.shownKv<|bT l) ->
 ReprAllK X.prog X.w [] h n (es.map (·.key)) (PyData.shownAll ((bT l).map (·.1)))
 | _,_,[],_,p,k,d,_,_=>by
   cases (d);cases k;cases p;show .nil
 | _,_,(k,x)::l,_,p,q,d,hs,hz=>by
   let#[v,r,e,_,d2]:=d;subst e;simp[bT,PyData.showableKv,aH]at hs;have z1:=hz _<|bO ..;rw[pF,pF]at z1;cases q with
   |cons q1 q2=>
     cases p with
     |@cons de _ _ _ p1 p2 p3=>
       have e1:=q1.1;simp at e1;rw[<-e1]at p1;show .cons (J6 (p1) hs.1.1 zb n)<|mL p3 q2 d2 hs.2 λt m=>hz t<|bD _ m
mutual
theorem Cs (I:Inv X pins σ H s) (sub:Sub F H):∀ {d:D}{v:V}{u:au},Den F d v->RelV v u->(toPy d).showable=ag->(toPy d).shown.length<=sizeLine->∃ bs,ReadAtMost s.heap (toPy d).depth bs /\ ReprK X.prog X.w bs s.heap (toPy d).depth u (toPy d).shown
 |.non,_,_,h,r,_,_=>by cases (show _=V.non from h);cases r;show#[[],(λ_ z=>nomatch z),.of_is ReprIs.none _ _ _]
 |.bl b,_,_,h,r,_,_=>by cases (show _=V.bl b from h);cases r;show#[[],(λ_ z=>nomatch z),.of_is (ReprIs.bool b) _ _ _]
 |.int i,_,_,h,r,hs,_=>by cases (show _=V.int i from h);let#[t,rfl]:=r;show#[[],(λ_ z=>nomatch z),.of_is (ReprIs.int t<|of_decide_eq_true hs) _ _ _]
 |.str x,_,_,h,r,_,hz=>by cases (show _=V.str x from h);let#[t,rfl]:=r;show#[[],(λ_ z=>nomatch z),.of_is (ReprIs.str x t hz) _ _ _]
 | .tup l,_,_,h,r,hs,hz=>by
   let#[as,rd]:=gu I sub h r;let#[a,vs,rfl,h1,h2]:=h;cases r;let#[_,its,rv,ob,e1,e2,n,e3]:=(show cq X.prog X.w H s.heap a (.tup vs) from I.ay a _ (sub _ _ h1));have nQ:(tupleText<|PyData.shownAll<|br l).length<=sizeLine:=by simpa only[toPy,PyData.shown] using hz
   let#[bs,hb,hk]:=jl I sub h2 rv (by simpa[toPy,PyData.showable] using hs) λt m=>cw (Xy m) nQ;erw[toPy,PyData.depth,PyData.shown]at rd ⊢;show#[a::bs,ReadAtMost.cons rd (sU _) hb,ReprK.tuple e1 e2 e3 (wN rd (qi _) hb) (by simpa using hk)]
 | .lst l,_,_,h,r,hs,hz=>by
   let#[as,rd]:=gu I sub h r;let#[a,vs,rfl,h1,h2]:=h;cases r;let#[_,its,n,rv,e1]:=(show cq X.prog X.w H s.heap a (.lst vs) from I.ay a _ (sub _ _ h1));have nQ:(listText<|PyData.shownAll<|br l).length<=sizeLine:=by simpa only[toPy,PyData.shown] using hz
   let#[bs,hb,hk]:=jl I sub h2 rv (by simpa[toPy,PyData.showable] using hs) λt m=>cw (Xz m) nQ;erw[toPy,PyData.depth,PyData.shown]at rd ⊢;refine#[a::bs,ReadAtMost.cons rd (sU _) hb,?_];cases its with
   |nil=>
     have e:br l=[]:=by
      cases l with
      |nil=>rfl
      |cons x l=>let#[v,t,e,_]:=h2;subst e;cases rv
     rw[e];erw[PyData.shownAll,XA];show ReprK.listEmpty e1 zj zj
   |cons x its=>show ReprK.list e1 zj zj (wN rd (qi _) hb) (by simpa using hk.length_eq) λi y q=>hk.item i y (by simpa using q)
 | .az l,_,_,h,r,hs,hz=>by
   let#[as,rd]:=gu I sub h r;let#[a,ao,rfl,h1,h2]:=h;cases r;let#[_,hy,vs,rk,ob,es,ep,e1,e2,e3,_,pr,_]:=(show cq X.prog X.w H s.heap a (.dK ao) from I.ay a _ (sub _ _ h1));have nQ:(dictText<|PyData.shownKv<|bT l).length<=sizeLine:=by simpa only[toPy,PyData.shown] using hz
   have fit:EL (PyData.shownKv<|bT l):=λt m=>cw (XB m) nQ;have EM:PyData.showableKv (bT l)=ag:=by simpa[toPy,PyData.showable] using hs
   let#[bs,hb,hk]:=mM I sub h2 rk pr EM fit;have hK:=mL (X:=X) (h:=s.heap) (n:=PyData.depthKv<|bT l) pr rk h2 EM fit;erw[toPy,PyData.depth,PyData.shown]at rd ⊢;rw[U0];show#[a::bs,ReadAtMost.cons rd (sU _) hb,ReprK.dict e1 e2.1 e3 hy (wN rd (qi _) hb)<|Zl _ _ _ (hK.more_le (λ_ z=>by cases z)<|aA _) hk]
theorem jl (I:Inv X pins σ H s) (sub:Sub F H):∀ {l:List D}{vs:List V}{us:List au},aG F l vs->Vals vs us->PyData.showableAll (br l)=ag->EL (PyData.shownAll<|br l)->∃ bs,ReadAtMost s.heap (PyData.depthAll<|br l) bs /\ ReprAllK X.prog X.w bs s.heap (PyData.depthAll<|br l) us (PyData.shownAll<|br l)
 |[],_,_,h,r,_,_=>by cases (show _=[] from h);cases r;show#[[],(λ_ z=>nomatch z),.nil]
 | d::l,_,_,h,r,hs,hz=>by
   let#[v,t,e,h1,h2]:=h;subst e;erw[br,PyData.showableAll,aH]at hs;erw[br,PyData.shownAll]at hz;cases r with
   |cons r1 r2=>
     let#[as,ha,ka]:=Cs I sub h1 r1 hs.1<|hz _<|bO ..;let#[bs,hb,kb]:=jl I sub h2 r2 hs.2 λt m=>hz t<|bD _ m;erw[br,PyData.depthAll,PyData.shownAll];have la:=Nat.le_max_left (toPy d).depth<|PyData.depthAll<|br l;have lb:=Nat.le_max_right (toPy d).depth<|PyData.depthAll<|br l;show#[as++bs,(ha.mono la).append<|hb.mono lb,.cons ((ka.more λ_ m=>nX _ m).level_le la)<|kb.more_le (λ_ m=>k9 _ m) lb]
theorem mM (I:Inv X pins σ H s) (sub:Sub F H):∀ {l:List (Key×D)}{ao:List (Key×V)}{vs:List (Key×au)}{es:List DictEntry},aL F l ao->KV ao vs->PySem.Pairs (dW X.prog X.w) es vs->PyData.showableKv (bT l)=ag->EL (PyData.shownKv<|bT l) ->
 ∃ bs,ReadAtMost s.heap (PyData.depthKv<|bT l) bs /\ ReprAllK X.prog X.w bs s.heap (PyData.depthKv<|bT l) (es.map (·.val)) (PyData.shownAll ((bT l).map (·.2)))
 |[],_,_,_,h,r,p,_,_=>by cases (show _=[] from h);cases r;cases p;show#[[],(λ_ z=>nomatch z),.nil]
 | (k,d)::l,_,_,_,h,r,p,hs,hz=>by
   let#[v,t,e,h1,h2]:=h;subst e;erw[bT,PyData.showableKv,aH]at hs;erw[bT,PyData.shownKv]at hz;have z1:=hz _<|bO ..;rw[pF,pF]at z1;cases r with
   |cons r1 r2=>
     cases p with
     |cons p1 p2 p3=>
       let#[as,ha,ka]:=Cs I sub h1 r1.2 hs.1.2 zb;let#[bs,hb,kb]:=mM I sub h2 r2 p3 hs.2 λt m=>hz t<|bD _ m;rw[<-p2]at ka;erw[bT,PyData.depthKv,aS,PyData.shownAll];have la:(toPy d).depth<=max (max (cH k).depth (toPy d).depth) (PyData.depthKv<|bT l):=by lia
       have lb:PyData.depthKv (bT l)<=max (max (cH k).depth (toPy d).depth) (PyData.depthKv<|bT l):=by lia
       show#[as++bs,(ha.mono la).append<|hb.mono lb,.cons ((ka.more λ_ m=>nX _ m).level_le la)<|kb.more_le (λ_ m=>k9 _ m) lb]
end
end

def aey (vs:List V) (H:Hp) (Q:VK):zk:=∃ (F:Hp) (d:D) (v:V),vs=[v] /\ Sub F H /\ Den F d v /\ (toPy d).showable=ag /\ (toPy d).depth<=60 /\ (toPy d).shown.length<=sizeLine /\ Q (.str (toPy d).shown) H
theorem GK (hr:bI k X.A):pN X (.builtin "repr") aey:=by
 intro pins s σ H xs us Q I rv h;let#[F,d,v,rfl,sub,hd,h1,h2,h3,q]:=h;let#[u,rfl,ru]:=Vals.one rv;have fin:∀ (t:Tok) (tk:Nat),EP X pins σ Q (.str (toPy d).shown t) { s with toks:=tk }:=λt tk=>#[.str _,H,I.tok tk,#[t,rfl],q];have Kv:∀ (t':Str),t'=(toPy d).shown->∀ h' u tk,(∀ b o,s.heap.get? b=ae o->h'.get? b=ae o)->∃ x t,Value.str t' u=.str x t /\ EP X pins σ Q (.str t' u) { s with heap:=h',toks:=tk }:=λt' et h' t tk hk=>by
  subst et;show#[_,_,rfl,.str _,H,I.kept hk,#[t,rfl],q]
 have hu:=hr.units;cases d with
 |non=>cases (show v=.non from hd);cases ru;show P.repr_of_none<|fin _ _
 |bl b=>cases (show v=.bl b from hd);cases ru;show P.repr_of_bool<|fin _ _
 |int i=>cases (show v=.int i from hd);let#[t,rfl]:=ru;show P.repr_of_int (of_decide_eq_true h1)<|fin _ _
 |str x=>cases (show v=.str x from hd);let#[t,rfl]:=ru;show P.repr_of_str<|fin _ _
 |tup l=>
   let#[as,rd]:=gu I sub hd ru;let#[a,vs,rfl,k1,k2]:=hd;cases ru;let#[_,its,rv,ob,e1,e2,n,e3]:=(show cq X.prog X.w H s.heap a (.tup vs) from I.ay a _ (sub _ _ k1));have nQ:(tupleText<|PyData.shownAll<|br l).length<=sizeLine:=by simpa only[toPy,PyData.shown] using h3
   let#[bs,hb,hk]:=jl I sub k2 rv (by simpa[toPy,PyData.showable] using h1) λt m=>cw (Xy m) nQ;simp[toPy,PyData.depth]at rd h2;show Qy zb #[ob,e1,e2] PySem.F.slot_tuple_repr<|call_tuple_reprK e1 e2 e3 (wN rd (qi _) hb) (by simpa using hk) hr.gd (λb _=>Clear.nil b) (by change X.A.units+1+_<cLine;lia) (λ_ _ z=>z) (Kv _<|rfl) nQ
 |lst l=>
   let#[as,rd]:=gu I sub hd ru;let#[a,vs,rfl,k1,k2]:=hd;cases ru;let#[_,its,n,rv,e1]:=(show cq X.prog X.w H s.heap a (.lst vs) from I.ay a _ (sub _ _ k1));have nQ:(listText<|PyData.shownAll<|br l).length<=sizeLine:=by simpa only[toPy,PyData.shown] using h3
   let#[bs,hb,hk]:=jl I sub k2 rv (by simpa[toPy,PyData.showable] using h1) λt m=>cw (Xz m) nQ;simp[toPy,PyData.depth]at rd h2;refine Qy zb #[_,e1,rfl] PySem.F.slot_list_repr.toG ?_;cases its with
   |nil=>
     have e:br l=[]:=by
      cases l with
      |nil=>rfl
      |cons x l=>let#[v,t,e,_]:=k2;subst e;cases rv
     show call_list_repr_empty #[_,e1,rfl] e1 zj<|Kv "[]" (by simp[toPy,PyData.shown,e,PyData.shownAll,XA]) s.heap _ _ λ_ _ z=>z
   |cons x its=>show call_list_reprK e1 zj zj (wN rd (qi _) hb) (by simpa using hk.length_eq) (λi y q=>hk.item i y (by simpa using q)) hr.gd (λb _=>Clear.nil b) (by change X.A.units+1+_<cLine;lia) (λ_ _ z=>z) (Kv _<|rfl) nQ
 |az l=>
   let#[as,rd]:=gu I sub hd ru;let#[a,ao,rfl,k1,k2]:=hd;cases ru;let#[_,hy,vs,rk,ob,es,ep,e1,e2,e3,_,pr,_]:=(show cq X.prog X.w H s.heap a (.dK ao) from I.ay a _ (sub _ _ k1));have nQ:(dictText<|PyData.shownKv<|bT l).length<=sizeLine:=by simpa only[toPy,PyData.shown] using h3
   have fit:EL (PyData.shownKv<|bT l):=λt m=>cw (XB m) nQ;have EM:PyData.showableKv (bT l)=ag:=by simpa[toPy,PyData.showable] using h1
   let#[bs,hb,hk]:=mM I sub k2 rk pr EM fit;erw[toPy,PyData.depth]at rd h2;rw[U0]at nQ;show Qy zb #[ob,e1,e2.1] PySem.F.slot_dict_repr<|call_dict_reprK e1 e2.1 e3 hy (wN rd (qi _) hb) (Zl _ _ _ ((mL (X:=X) (h:=s.heap) (n:=PyData.depthKv<|bT l) pr rk k2 EM fit).more_le (λ_ z=>by cases z)<|aA _) hk) hr.gd (λb _=>Clear.nil b) (by change X.A.units+1+_<cLine;lia) (λ_ _ z=>z) (Kv _ (by erw[toPy,PyData.shown,U0])) nQ
def v7 (d:D):Bool:=(toPy d).showable&&decide ((toPy d).depth<=60)&&decide ((toPy d).shown.length<=sizeLine)
theorem Nm (s:Sub F H):∀ {d}{v},nO F H d v->∃ F',Sub F' H /\ Den F' d v
 | .lst l,_,h=>by
   let#[a,vs,rfl,h1,h2]:=h;refine#[upd F a _,λb u e=>?_,a,vs,rfl,fu,aG.mono (λb u e=>?_) l h2]
   .by_cases z:b=a
    .subst z;rw[fu]at e;rw[h1,e]
    .rw[fv z]at e;show s b u e
   .by_cases z:b=a
    .subst z;rw[s b u e]at h1;rw[fu,h1]
    .rw[fv z];show e
 | .az l,_,h=>by
   let#[a,vs,rfl,h1,h2]:=h;refine#[upd F a _,λb u e=>?_,a,vs,rfl,fu,aL.mono (λb u e=>?_) l h2]
   .by_cases z:b=a
    .subst z;rw[fu]at e;rw[h1,e]
    .rw[fv z]at e;show s b u e
   .by_cases z:b=a
    .subst z;rw[s b u e]at h1;rw[fu,h1]
    .rw[fv z];show e
 |.tup _,_,h=>#[F,s,h]
 |.non,_,h=>#[F,s,h]
 |.bl _,_,h=>#[F,s,h]
 |.int _,_,h=>#[F,s,h]
 |.str _,_,h=>#[F,s,h]
def v8 (m:DE W):DE W:=λenv bx=>fC (m env bx) λw bx1=>match bG bx1 w with
 |some d=>if v7 d=ag then .val (.d<|.str (toPy d).shown) bx1 else .bad
 |none=>.bad
end L2.DL
namespace PySem.SeqAt
open Calls MeetsSeq
open PySem.AutoSeq1 (wpAny_loadPart')

theorem jX (l) (es) (ep) (dd) (sl) (b) (u) :
 Meets (Builtin.«dict.__eq__» #[[.ref l,.str b u],[]]) (λ_ R s=>s.heap.get? l=ae { cls:=.type "dict",dict:=dd,data:=.dict es ep,slots:=sl } /\ R (.ok<|.ret .notImplemented) s):=
 .of_wp λprog w A R s h=>by let#[hl,h]:=h;have f1:=Y2;wp_walk using wpAny_loadPart' hl;show#[_,rfl,h]
theorem jY (b) (u) (l) (es) (ep) (dd) (sl) :
 Meets (Builtin.«str.__eq__» #[[.str b u,.ref l],[]]) (λ_ R s=>s.heap.get? l=ae { cls:=.type "dict",dict:=dd,data:=.dict es ep,slots:=sl } /\ R (.ok<|.ret .notImplemented) s):=
 .of_wp λprog w A R s h=>by let#[hl,h]:=h;wp_walk using wpAny_loadPart' hl,HV hl;show#[_,rfl,h]
theorem aez (b) (u) (ho:s.heap.get? l=ae { cls:=.type "dict",dict:=dd,data:=.dict es ep,slots:=sl }) (hu:A.units<cLine):RcAt A s (.ref l) (.str b u) af:=λprog w E Q h=>rc_eq_decline_or #[_,ho,rfl] (HX s b u) (rfl) Y2 Y3 Y4
 (λ_ hq=>wL Y3 #[_,ho,rfl] F.entry_dict_eq (F.args_dict_eq_2 _ _) (jX l es ep dd sl b u) #[ho,hq])
 (λ_ hq=>wL Y4 (HX s b u) F.entry_str_eq (F.args_str_eq_2 _ _) (jY b u l es ep dd sl) #[ho,hq])
 (λ_ hq=>uh (rfl) hq) (.inr hu) h
end PySem.SeqAt
namespace L2.DL
noncomputable def xX:D->Bool
 |.str _=>ag
 |_=>af
def aaA:R2:=λx y H Q=>∃ F d t,Sub F H /\ nO F H d x /\ xX d=af /\ y=.str t /\ Q (.bl af) H
theorem gR (I:Inv X pins σ H s) (sub:Sub F H) (h:nO F H d v) (r:RelV v u):∃ as,Reads s.heap u (toPy d) as:=by
 cases d with
 |lst l=>
   let#[a,vs,rfl,h1,h2]:=h;cases r;let#[_,its,n,rv,e1]:=(I.ay a _ h1);let#[as,ra]:=jv I sub h2 rv;show#[a::as,.list e1 zj zj (by simpa using ra)]
 |az l=>
   let#[a,ao,rfl,h1,h2]:=h;cases r;let#[_,_,vs,rk,ob,es,ep,e1,e2,e3,_,pr,_]:=(I.ay a _ h1);let#[as,ra]:=lK I sub h2 rk pr;show#[a::[]++as,.dict e1 e2.1 e3 (mK pr rk h2) ra]
 |tup l=>show gu I sub h r
 |non=>show gu I sub h r
 |bl b=>show gu I sub h r
 |int i=>show gu I sub h r
 |str x=>show gu I sub h r
def dO (d:D):Bool:=(toPy d).canLay0&&decide ((toPy d).depth<=60)
def eqv (x y:D):Bool:=PyData.eqv (toPy x)<|toPy y
theorem jZ (h:dO d=ag):(toPy d).canLay0=ag /\ (toPy d).depth<=60:=by
 unfold dO at h
 rwa [aH,decide_eq_true_eq]at h
def VX (neg:Bool):R2:=λx y H Q=>∃ F dx dy,Sub F H /\ nO F H dx x /\ nO F H dy y /\ dO dx=ag /\ dO dy=ag /\ Q (.bl (if neg then !eqv dx dy else eqv dx dy)) H

theorem Rs (hu:X.A.units+100<cLine):bV X (compareOp .Eq) (VX af):=by
 intro pins s σ H x y v u Q I rx ry h;let#[F,dx,dy,sub,hx,hy,ox,oy,q]:=h;let#[as,ra]:=gR I sub hx rx;let#[bs,rb]:=gR I sub hy ry;let#[x1,x2]:=jZ ox;let#[y1,y2]:=jZ oy;show SeqAt.compareEq_reads ra rb x1 y1 zb #[.bl _,H,I,rfl,q]
theorem Rt (hu:X.A.units+100<cLine):bV X (compareOp .NotEq) (VX ag):=by
 intro pins s σ H x y v u Q I rx ry h;let#[F,dx,dy,sub,hx,hy,ox,oy,q]:=h;let#[as,ra]:=gR I sub hx rx;let#[bs,rb]:=gR I sub hy ry;let#[x1,x2]:=jZ ox;let#[y1,y2]:=jZ oy;show SeqAt.compareNe_reads ra rb x1 y1 zb #[.bl _,H,I,rfl,q]

theorem Ru (hu:X.A.units+100<cLine):bV X (compareOp .Eq) aaA:=by
 intro pins s σ H x y v u Q I rx ry h;let#[F,d,t,sub,hx,ns,rfl,q]:=h;let#[as,ra]:=gR I sub hx rx;let#[tk,rfl]:=ry;have fin:SeqAt.RcAt X.A s v (.str t tk) af:=by
  have hz:X.A.units<cLine:=by lia
  cases d<;>simp[toPy]at ra
  .cases ra;show ack t tk
  .cases ra;show acm _ t tk
  .cases ra;show acn _ _ t tk
  .cases ns
  .cases ra with|tuple k1 k2 k3 k4=>show aco t tk ⟨_,k1,k2,_,k3⟩ hz
  .cases ra with|list k1 k2 k3 k4=>show acp t tk ⟨_,k1,k2,_,k3⟩ hz
  .cases ra with
   |@dict a o es n ao as bs k1 k2 k3 k4 k5=>
     let#[cls,dd,data,sl]:=o;cases k2;cases k3;show SeqAt.aez t tk k1 hz
 show fin _ _ _ _ #[.bl af,H,I,rfl,q]
def EN (x y:D):Option Res:=match y with
 |.str _=>if xX x then ah else ae (.old<|.bl af)
 |_=>ah
theorem aeA:nD aaA EN:=by
 intro F H x y v w Q s sub rx ry e k;unfold EN at e;split at e
 .ext t;split at e
  .cases e
  .ext n;cases e;show#[F,x,t,sub,rx,by simpa using n,ry,k _ _ #[rfl,rfl]]
 .cases e
def tR (neg:Bool) (x y:D):Option Res:=if dO x&&dO y then ae (.old<|.bl (if neg then !eqv x y else eqv x y)) else ah
theorem aaB (neg):nD (VX neg) (tR neg):=by
 intro F H x y v w Q s sub rx ry e k;unfold tR at e;split at e
 .ext c;rw[aH]at c;cases e;show#[F,x,y,sub,rx,ry,c.1,c.2,k _ _ #[rfl,rfl]]
 .cases e
def aZ:D->D->Option Res
 |.int i,.int j=>ae<|.old<|.bl<|decide (i=j)
 |.str i,.str j=>ae<|.old<|.bl<|decide (i=j)
 |.tup l,.tup []=>ae<|.old<|.bl l.isEmpty
 | .lst a,.lst b=>(match intsOf a,intsOf b with
   |some ns,ae ms=>ae<|.old<|.bl<|decide (ns=ms)
   |_,_=>tR af (.lst a)<|.lst b)
 | x,y=>match EN x y with
   |some r=>ae r
   |none=>tR af x y
def cR:D->D->Option Res
 |.int i,.int j=>ae<|.old<|.bl<|!decide (i=j)
 |.str i,.str j=>ae<|.old<|.bl<|!decide (i=j)
 |.lst l,.lst []=>ae<|.old<|.bl<|!l.isEmpty
 |x,y=>tR ag x y
theorem Rv (h:aZ x y=ae s):(VP x y=ae s \/ tR af x y=ae s) \/ EN x y=ae s:=by
 unfold aZ at h;split at h
 .show .inl<|.inl h
 .show .inl<|.inl h
 .show .inl<|.inl h
 .ext a b;split at h
  .ext ns ms e1 e2;left;left;change ((intsOf a).bind λns=>(intsOf b).map λms=>Res.old _)=_;rw[e1,e2];show h
  .show .inl<|.inr h
 .split at h
  .ext e;show .inr<|e.trans h
  .show .inl<|.inr h
theorem Rw (h:cR x y=ae s):VQ x y=ae s \/ tR ag x y=ae s:=by
 unfold cR at h;split at h
 .show .inl h
 .show .inl h
 .show .inl h
 .show .inr h

end L2.DL
namespace HT
section
open PySem.SeqAt
open PySem.AutoSeq1 (wpAny_loadPart')
open PySem.MeetsSeq PySem.MeetsSeq2 PySem.MeetsSeq3
end
section

open PySem.AutoSeq1 (wpAny_loadPart')
end
end HT
namespace L2.DL

noncomputable def pY:D->D->Option Res:=λx y=>match x,y with|.int i,.int j=>if xx i j then ae (.old<|.int<|i*j) else ah|_,_=>ah
theorem aG.rep (h:aG F l vs):∀ k,aG F (List.replicate k l).flatten (List.replicate k vs).flatten
 |0=>rfl
 |k+1=>h.append<|h.rep k
theorem Rx (hu:X.A.units<cLine):bV X (compareOp .LtE) (vH λi j=>.bl<|decide (i<=j)):=(IV λ_ _ _ _ _ _ _ q=>le_int q)
noncomputable def qw:D->D->Option Res:=λx y=>match x,y with|.int i,.int j=>ae (.old<|.bl<|decide (i<=j))|_,_=>ah
def EO (mo mi:DE W):DG:=λw env bx=>match mo env bx with
 | .val (.b n) bx1=>(match mi env bx1 with
   | .val (.d<|.int k) aq=>(match w,aq[n]? with
     |.d d,ae (.lst l)=>(cA l.length k).map λj=>(env,aq.set n<|.lst<|l.set j d)
     |_,_=>ah)
   |_=>ah)
 |_=>ah
theorem Nn (ho:PD X T Z o mo) (hi:PD X T Z i mi)
 (ha:∀ v,assign (.Subscript o i pos) X.env v=(do
  let ov <-holding [v] (eval o X.env)
  let iv <-holding [v,ov] (eval i X.env)
  standAt pos
  holding [v,ov,iv] (setItem ov iv v)
  release [v,ov,iv] []):=by intro _;rfl):qV X T (.Subscript o i pos) (EO mo mi):=by
 refine PG.imp (PZ ho hi JE ha) λv σ H Q=>EA λF r env bx w R dw h=>?_;unfold EO at h;refine#[F,r,env,bx,R,?_];cases eo:mo env bx with
 |bad=>simp[eo]at h;show h.elim
 |exc c bx1=>simp[eo]at h;show h.elim
 |val ow bx1=>
   simp[eo]at h;intro F1 r1 ov H1 g1 R1 d1;cases ow with
   |b n=>
     refine#[F1,r1,env,bx1,R1,?_];cases ei:mi env bx1 with
     |bad=>simp[ei]at h;show h.elim
     |exc c aq=>simp[ei]at h;show h.elim
     |val iw aq=>
       simp[ei]at h;intro F2 r2 iv H2 g2 R2 d2;cases iw with
       |d id=>
         cases id with
         |int k=>
           simp at h;let#[a,rfl,ha]:=g2.den d1;let#[c2,pQ,vX]:=R2.kG ha;rw[pQ]at h;cases w with
           |d dd=>
             cases c2 with
             |lst l=>
               simp at h;cases ej:cA l.length k with
               |none=>rw[ej]at h;show h.elim
               |some j=>
                 rw[ej]at h;let#[hF,vs,k1,k2]:=vX;show#[a,vs,k,j,rfl,d2,k1,by rw[<-k2.length];show ej,(h F2 r2 σ _ (g1.trans g2)<|R2.write ha hF #[hF,_,fu,aG.set (Den.mono (g1.trans g2).s dd dw) j k2])]
             |_=>show h.elim
           |_=>show h.elim
         |_=>show h.elim
       |_=>show h.elim
   |_=>show h.elim
noncomputable def tT (i:Nat):DE W:=λenv bx=>match env[i]? with
 | some (ae<|.b n)=>(match bx[n]? with
   |some (.lst l)=>.val (.d<|.lst l)<|bx.set n .dead
   |some (.az l)=>.val (.d<|.az l)<|bx.set n .dead
   |_=>.bad)
 |_=>.bad
theorem Ry (i) (hN:X.N[i]?=ae x:=by rfl) (hv:qH X.env.scope x:=by first|show Or.inl zj|show Or.inr _|show Or.inr _) (hd:(x==("__debug__"))=af:=by decide)
 (dn:(x==("__classdict__"))=af:=by decide):PD X T Z (.Name x pos) (tT i):=by
 refine PE.imp (mF hN hv hd dn) λσ H Q=>bg λF r env bx R h=>?_;unfold tT at h;split at h
 .ext n e;let#[v,e1,a,rfl,ha]:=R.slot i _ e;let#[c,hc,kc]:=R.kG ha;rw[hc]at h;cases c with
  |lst l=>
    let#[hF,vs,k1,k2]:=kc;let#[R',g]:=R.freeze ha hF k1;show#[_,e1,h _ r _ H g R' #[a,vs,rfl,fu,aG.mono g.s l k2]]
  |az l=>
    let#[hF,vs,k1,k2]:=kc;let#[R',g]:=R.freeze ha hF k1;show#[_,e1,h _ r _ H g R' #[a,vs,rfl,fu,aL.mono g.s l k2]]
  |_=>show h.elim
 .show h.elim
def uH (m:DE W):DE W:=λenv bx=>fC (m env bx) λw bx1=>match w with|.s l=>.val (.d<|.int l.length) bx1|_=>.bad
def ER (m k:DE W):DE W:=λenv bx=>fC (m env bx) λw bx1=>fC (k env bx1) λu aq=>match w,u with
 |.s l,.d (.int i)=>(match bF l i with|some n=>.val (.d<|.int n) aq|none=>.bad)
 |_,_=>.bad
theorem Rz (ha:PD X T Z a ma) (hb:PD X T Z b mb) (hs:Vo b):PD X T Z (.Subscript a b pos) (ER ma mb):=by
 refine PE.imp (JD Bv ha hb hs) λσ H Q=>bg λF r env bx R h=>?_;refine#[F,r,env,bx,R,End.bind h λw bx1 F1 r1 v H1 g1 R1 d1 h1=>?_];refine#[F1,r1,env,bx1,R1,End.bind h1 λu aq F2 r2 y H2 g2 R2 d2 h2=>?_];cases w with
 |s l=>
   cases u with
   |d d=>
     cases d with
     |int i=>
       let#[q,o,rfl,k]:=d1;simp at h2;cases e:bF l i with
       |none=>rw[e]at h2;show h2.elim
       |some n=>
         rw[e]at h2;refine#[q,l.map V.int,i,.int n,rfl,d2,.inl<|.inr #[o,R2.fh _ _<|g2.s _ _ k],?_,h2 F2 r2 _ H2 (.refl F2 r2) R2 zj];unfold bF at e ⊢;rw[aX];cases ej:cA l.length i with
         |none=>rw[ej]at e;cases e
         |some j=>rw[ej]at e;erw[bJ]at e ⊢;rw[nY,e];rfl
     |_=>show h2.elim
   |_=>show h2.elim
 |_=>show h2.elim
def d7 (bo:Bool) (l:List<|Key×D):DE W:=λ_ bx=>b9 bo (ae<|.az l) bx
theorem No (bo):PD X T Z (.Dict [ae<|.Constant (.int k) j1 q1] [.Constant (.int v) j2 q2] pos) (d7 bo [(.inl k,.int v)]):=by
 refine PE.imp (BE (jW jp jp BD) zj zj (by simp) zg) λσ H Q=>bg λF r env bx R h=>?_;intro p hp;refine#[fu,[(.inl k,.int v)],rfl,by simp,?_];rw[Bp];show gQ R h #[p,[(.inl k,.int v)],rfl,hp,rfl,#[_,_,rfl,rfl,rfl]]
end L2.DL
namespace HT

theorem Dw (hit:s.heap.IsTupleIter it t i) (ht:s.heap.IsTuple t items) (hx:items[i]?=ae x)
 (hQ:∀ h',h'.IsTupleIter it t (i+1)->Heap.SameBut it s.heap h'->Q x { s with heap:=h' }):wpAny zf A (Builtin.SmallTypes.nextOf<|.ref it) Q E s:=by
 let#[ob,qY,xG,qX]:=id hit;let#[ot,ES,_,nt,Es]:=ht;refine ak<|vc hit.typeIs IH<|qh IH hit.typeIs Y5 (show wpAny _ _ (field _ 0 >>= _) _ _ s from ak (kL qY qX zj ?_))<|Y6 _
 change wpAny _ _ _ _ _ s;refine ak<|kL qY qX zj<|ak<|rK ES Es ?_
 simp[vz,hx];refine ak<|Ia qY qX zg<|ax #[x,rfl,ax<|hQ _ #[_,Ii _ qY<|Ze<|II qX _,(Zf ..).trans xG,?_]<|Heap.SameBut.update ..];rw[II qX];simp[rawInt]
theorem GL (hh:A.handled=ah) (hit:s.heap.IsTupleIter it t i) (ht:s.heap.IsTuple t items) (hx:items[i]?=ah)
 (hE:∀ h' e,Heap.ExtBut it s.heap h'->(∃ o,h'.get? e=ae o /\ o.cls=.type "StopIteration")->E (.ref e) { s with heap:=h' }):wpAny zf A (Builtin.SmallTypes.nextOf<|.ref it) Q E s:=by
 let#[ob,qY,xG,qX]:=id hit;let#[ot,ES,_,nt,Es]:=ht;refine ak<|vc hit.typeIs IH<|qh IH hit.typeIs Y5 (show wpAny _ _ (field _ 0 >>= _) _ _ s from ak (kL qY qX zj ?_))<|Y6 _;refine ak<|kL qY qX zj<|ak<|rK ES Es ?_;simp[vz,hx];refine ak<|sR<|ak<|Ia qY qX zg<|ak ?_;refine ak<|qg (ak<|uh (by first|rfl|(rfl))<|qg ?_ (by size_fits)) (by size_fits);refine ak<|XC ?_;first|rw[hh]|rw[hh]
 show ak<|ax<|XD<|hE _ _ (((Heap.SameBut.update ..).extBut.push _).push _) #[_,bC _ zj,rfl]
theorem GM (hh:A.handled=ah) (it l) (pZ:l≠it) (items) :
 Draws prog w A it [it,l] items.size (λi v=>items[i]?=ae v) (λi h=>h.IsTupleIter it l i /\ h.IsTuple l items) where
 live:=λ_ _ st=>let ⟨o,ho,_⟩:=st.1;#[o,ho]
 frame:=λ_ _ _ st hk=>#[st.1.at λo e=>hk it zg o e,st.2.at λo e=>hk l zg o e]
 item:=λi s Q E hi st hQ=>Dw st.1 st.2 (x:=items[i]) zg λh' a b=>hQ _ h' s.toks zg #[a,st.2.at λo e=>b.extBut _ _ pZ e] b
 done:=λs Q E st hE=>GL hh st.1 st.2 zg hE
structure ET (z TI TO i1 i2:ai) (rf rh:List ai):zk where
 a:TI≠z /\ TO≠z /\ i1≠z /\ i2≠z /\ TI≠TO /\ TI≠i1 /\ TI≠i2 /\ TO≠i1 /\ TO≠i2 /\ i1≠i2
 f1:z∉rf /\ TO∉rf /\ i2∉rf
 f2:z∉rh /\ TO∉rh /\ i1∉rh

theorem Draws.same (D:Draws prog w A it fp n P S) (x:Heap.SameBut c h h') (hc:c∉fp) (st:S k h):S k h' :=
 D.frame k h h' st λb hb o e=>x.extBut _ _ (λq=>hc<|q▸hb) e
abbrev tU (h:aK) (z TI TO:ai) (f0 f1:au):zk:=h.get? z=ae { cls:=.type "zip",dict:=ah,data:=.fields (List.toArray [f0,f1,.bool af,.ref TI,.ref TO]),slots:=#[] }
def sD (h:aK) (z TI TO:ai):zk:=∃ f0 f1,(f0=.none \/ ∃ a,f0=rawInt a) /\ tU h z TI TO f0 f1
theorem aeB (h:Q (s.heap.get? a) s):wpAny zf A (loadIfAlive a) Q E s:=λΓ p _=>by simpa[loadIfAlive] using h
theorem Ai (hf:f0=.none \/ ∃ a,f0=rawInt a) (hz:tU s.heap z TI TO f0 f1) (h:∀ r h' aeC,tU h' z TI TO f0 aeC->Heap.SameBut z s.heap h'->Q r { s with heap:=h' }) :
 wpAny zf A (Builtin.SmallTypes.ownedTupleIsFree<|.ref z) Q E s:=by
 have hs:Heap.SameBut z s.heap s.heap:=#[rfl,λ_ _=>rfl];rcases hf with rfl|⟨a,rfl⟩
 .show ak<|kL hz zj zj<|ax<|h _ _ f1 hz hs
 .refine ak<|kL hz zj zj<|ak<|aeB ?_;cases s.heap.get? a.toNat with
  |none=>show ax<|h _ _ f1 hz hs
  |some o=>
    refine ak<|kL hz zj (x:=f1) zj ?_;by_cases q:(f1 != Value.bool ag)=ag
    .rw[if_pos q];show ak<|ui hz zg λg1 v9 e1=>ax<|h _ g1 _ v9 e1
    .rw[if_neg q];show ak<|ax<|ax<|h _ _ f1 hz hs
theorem J7 (D1:Draws prog w A i1 rf n1 P1 S1) (D2:Draws prog w A i2 rh n2 P2 S2) (R:ET z TI TO i1 i2 rf rh) {Q:au->aI->zk}(k1:k<n1) (k2:k<n2)
 (hz:sD s.heap z TI TO) (wa:IsPair s.heap TI (.ref i1)<|.ref i2) (uI:IsPair s.heap TO a b) (s1:S1 k s.heap) (s2:S2 k s.heap)
 (hQ:∀ x y h' tk,P1 k x->P2 k y->sD h' z TI TO->(∃ u v,IsPair h' TO u v)->S1 (k+1) h'->S2 (k+1) h'->IsPair h' s.heap.objs.size x y ->
  (∀ c o,c≠z->c≠TO->c≠i1->c≠i2->s.heap.get? c=ae o->h'.get? c=ae o)->Q (.ref s.heap.objs.size) { s with heap:=h',toks:=tk }) :
 wpAny zf A (Builtin.«zip.__next__» #[[.ref z],[]]) (λfin s'=>∃ v,fin=.done (.ret v) /\ Q v s') E s:=by
 let#[#[r1,r2,r3,r4,r5,r6,r7,r8,r9,VY],#[f1,f2,f3],#[f4,f5,f6]]:=R;let#[o0,o1,ho,hz]:=hz
 change wpAny _ _ (field _ 2 >>= _) _ _ _;refine ak<|kL hz zj (x:=.bool af) zj ?_
 change wpAny _ _ _ _ _ _;refine ak<|kL hz zj zj<|ak<|rK wa zj ?_
 change wpAny _ _ _ _ _ _
 refine ak<|Ai ho hz λr g0 o2 xY e0=>?_;cases r with
 |true=>
   simp only;refine ak<|sR<|ak<|kL xY zj zj<|ak<|ui xY zg λg1 v9 nN=>?_;have e1:Heap.SameBut z s.heap g1:=#[nN.1.trans e0.1,λc hc=>(nN.2 c hc).trans<|e0.2 c hc];refine ak ?_;erw[QQ,Yj,wW,yV];refine ak<|ak<|yQ (show wpAny _ _ (Builtin.SmallTypes.nextOf (.ref i1) >>= _) _ _ _ from ak (D1.item k _ _ _ k1 (Draws.same D1 e1 f1 s1) λx g2 t2 px EU e2=>ax ?_));have EV:IsPair g2 TO a b:=e2.extBut _ _ r8<|e1.extBut _ _ r2 uI;refine ak<|rK EV zj<|ak<|Qz EV λg3 aaC e3=>ak<|QA<|ax ?_;refine ak<|ak<|yQ (show wpAny _ _ (Builtin.SmallTypes.nextOf (.ref i2) >>= _) _ _ _ from ak (D2.item k _ _ _ k2 (Draws.same D2 e3 f5<|Draws.same D2 e2 f6<|Draws.same D2 e1 f4 s2) λy g4 t4 py VZ e4=>ax ?_));have aaD:IsPair g4 TO x b:=e4.extBut _ _ r9 aaC;refine ak<|rK aaD zj<|ak<|Qz aaD λg5 aeD e5=>ak<|QA<|ax<|ax ?_;have aaE:IsPair g5 TO x y:=aeD;refine ak<|rK aaE zj<|ak<|QB ?_;have hsz:g5.objs.size=s.heap.objs.size:=by rw[e5.1,e4.1,e3.1,e2.1,e1.1]
   have aaF:tU g5 z TI TO .ellipsis o2:=e5.extBut _ _ r2.symm<|e4.extBut _ _ r4.symm<|e3.extBut _ _ r2.symm<|e2.extBut _ _ r3.symm v9;have EW:z<g5.objs.size:=ba aaF
   change wpAny _ _ (Builtin.SmallTypes.ownedTupleHandOut (.ref z) (.ref g5.objs.size) >>= _) _ _ _;refine ak ?_
   unfold Builtin.SmallTypes.ownedTupleHandOut;refine ak<|ui (aR _ aaF) zg λg7 aeE e7=>ui (show tU g7 z TI TO (rawInt g5.objs.size) o2 from aeE) zg λg8 aeF e8=>?_;have up:∀ c o,c≠z->g5.get? c=ae o->g8.get? c=ae o:=λc o c1 q=>e8.extBut _ _ c1<|e7.extBut _ _ c1<|aR _ q;have aaG:IsPair g8 g5.objs.size x y:=e8.extBut _ _ (yS EW)<|e7.extBut _ _ (yS EW)<|bC _ zj;refine ax #[_,rfl,(show Q (.ref g5.objs.size) _ from ?_)];rw[hsz]at aaG ⊢;show hQ x y g8 _ px py #[_,_,.inr #[_,rfl],show tU g8 z TI TO (rawInt g5.objs.size) (.bool af) from aeF] #[_,_,up _ _ r2 aaE] (D1.frame _ _ _ (Draws.same D1 e5 f2<|Draws.same D1 e4 f3<|Draws.same D1 e3 f2 EU) λc hc o q=>up c o (λw=>f1<|w▸hc) q) (D2.frame _ _ _ (Draws.same D2 e5 f5 VZ) λc hc o q=>up c o (λw=>f4<|w▸hc) q) aaG λc o c1 c2 c3 c4 q=>up c o c1<|(λc o c1 c2 c3 c4 q=>e5.extBut _ _ c2<|e4.extBut _ _ c4<|e3.extBut _ _ c2<|e2.extBut _ _ c3<|e1.extBut _ _ c1 q) c o c1 c2 c3 c4 q
 |false=>
   erw[wV,if_false];rw[show ((List.toArray [Value.ref i1,Value.ref i2]):Array au)=[Value.ref i1,Value.ref i2].toArray from rfl];erw[Yk,wW,yV];refine ak<|ak<|ak<|eY (show wpAny _ _ (Builtin.SmallTypes.nextOf (.ref i1) >>= _) _ _ _ from ak (D1.item k _ _ _ k1 (Draws.same D1 e0 f1 s1) λx g2 t2 px EU e2=>ax ?_));refine ax<|ak<|ak<|eY (show wpAny _ _ (Builtin.SmallTypes.nextOf (.ref i2) >>= _) _ _ _ from ak (D2.item k _ _ _ k2 (Draws.same D2 e2 f6<|Draws.same D2 e0 f4 s2) λy g4 t4 py VZ e4=>ax ?_));refine ax<|ax<|ak<|QB (ax #[_,rfl,?_]) (show 2<=sizeLine by decide);have hsz:g4.objs.size=s.heap.objs.size:=by rw[e4.1,e2.1,e0.1]
   have up:∀ c o,g4.get? c=ae o->(g4.push { cls:=.type "tuple",data:=.seq (List.toArray [x,y]) }).get? c=ae o:=λc o q=>aR _ q;have hT:IsPair (g4.push { cls:=.type "tuple",data:=.seq (List.toArray [x,y]) }) g4.objs.size x y:=bC _ zj;change Q (.ref g4.objs.size) _;rw[hsz]at hT ⊢;show hQ x y _ _ px py #[o0,o2,ho,up _ _<|e4.extBut _ _ r4.symm<|e2.extBut _ _ r3.symm xY] #[a,b,up _ _<|e4.extBut _ _ r9<|e2.extBut _ _ r8<|e0.extBut _ _ r2 uI] (D1.frame _ _ _ (Draws.same D1 e4 f3 EU) λc hc o q=>up c o q) (D2.frame _ _ _ VZ λc hc o q=>up c o q) hT
    λc o c1 c2 c3 c4 q=>up c o<|e4.extBut _ _ c4<|e2.extBut _ _ c3<|e0.extBut _ _ c1 q
theorem J8 (D1:Draws prog w A i1 rf n1 P1 S1) (D2:Draws prog w A i2 rh n2 P2 S2) (R:ET z TI TO i1 i2 rf rh) (hk:k=n1 \/ (k<n1 /\ k=n2))
 (hz:sD s.heap z TI TO) (wa:IsPair s.heap TI (.ref i1)<|.ref i2) (uI:IsPair s.heap TO a b) (s1:S1 k s.heap) (s2:S2 k s.heap)
 (hE:∀ h' e tk,(∀ c o,c≠z->c≠TO->c≠i1->c≠i2->s.heap.get? c=ae o->h'.get? c=ae o)->(∃ o,h'.get? e=ae o /\ o.cls=.type "StopIteration")->E (.ref e) { s with heap:=h',toks:=tk }) :
 wpAny zf A (Builtin.«zip.__next__» #[[.ref z],[]]) Q E s:=by
 let#[#[r1,r2,r3,r4,r5,r6,r7,r8,r9,VY],#[f1,f2,f3],#[f4,f5,f6]]:=R;let#[o0,o1,ho,hz]:=hz
 change wpAny _ _ (field _ 2 >>= _) _ _ _;refine ak<|kL hz zj (x:=.bool af) zj ?_
 change wpAny _ _ _ _ _ _;refine ak<|kL hz zj zj<|ak<|rK wa zj ?_
 change wpAny _ _ _ _ _ _
 refine ak<|Ai ho hz λr g0 o2 xY e0=>?_;cases r with
 |true=>
   simp only;refine ak<|sR<|ak<|kL xY zj zj<|ak<|ui xY zg λg1 v9 nN=>?_;have e1:Heap.SameBut z s.heap g1:=#[nN.1.trans e0.1,λc hc=>(nN.2 c hc).trans<|e0.2 c hc];have aaH:tU g1 z TI TO .ellipsis o2:=v9;refine ak ?_;erw[QQ,Yj,wW,yV];rcases hk with hk|⟨V0,uJ⟩
   .refine ak<|ak<|yQ (show wpAny _ _ _ _ _ _ from ak (D1.done _ _ _ (hk▸Draws.same D1 e1 f1 s1) λg2 ex e2 hx=>?_));let#[oe,wb,EX]:=hx;have Kw:tU g2 z TI TO .ellipsis o2:=e2 _ _ r3.symm aaH;show ui Kw zg λg3 _ e3=>hE g3 ex _ (λc o c1 _ c3 _ q=>e3.extBut _ _ c1<|e2 _ _ c3<|e1.extBut _ _ c1 q) #[oe,e3.extBut _ _ (λq=>by subst q;rw[Kw]at wb;cases wb;simp at EX) wb,EX]
   .refine ak<|ak<|yQ (show wpAny _ _ (Builtin.SmallTypes.nextOf (.ref i1) >>= _) _ _ _ from ak (D1.item k _ _ _ V0 (Draws.same D1 e1 f1 s1) λx g2 t2 px EU e2=>ax ?_));have EV:IsPair g2 TO a b:=e2.extBut _ _ r8<|e1.extBut _ _ r2 uI;refine ak<|rK EV zj<|ak<|Qz EV λg3 aaC e3=>ak<|QA<|ax ?_;refine ak<|ak<|yQ (show wpAny _ _ (Builtin.SmallTypes.nextOf (.ref i2) >>= _) _ _ _ from ak (D2.done _ _ _ (uJ▸Draws.same D2 e3 f5 (Draws.same D2 e2 f6<|Draws.same D2 e1 f4 s2)) λg4 ex e4 hx=>?_));let#[oe,wb,EX]:=hx;have aaI:tU g4 z TI TO .ellipsis o2:=e4 _ _ r4.symm<|e3.extBut _ _ r2.symm<|e2.extBut _ _ r3.symm aaH;show ui aaI zg λg5 _ e5=>hE g5 ex _ (λc o c1 c2 c3 c4 q=>e5.extBut _ _ c1<|e4 _ _ c4<|e3.extBut _ _ c2<|e2.extBut _ _ c3<|e1.extBut _ _ c1 q) #[oe,e5.extBut _ _ (λq=>by subst q;rw[aaI]at wb;cases wb;simp at EX) wb,EX]
 |false=>
   erw[wV,if_false];rw[show ((List.toArray [Value.ref i1,Value.ref i2]):Array au)=[Value.ref i1,Value.ref i2].toArray from rfl];erw[Yk,wW,yV];rcases hk with hk|⟨V0,uJ⟩
   .show ak<|ak<|ak<|eY (show wpAny _ _ (Builtin.SmallTypes.nextOf (.ref i1) >>= _) _ _ _ from ak (D1.done _ _ _ (hk▸Draws.same D1 e0 f1 s1) λg2 ex e2 hx=>(hE g2 ex _ (λc o c1 _ c3 _ q=>e2 _ _ c3<|e0.extBut _ _ c1 q) hx)))
   .show ak<|ak<|ak<|eY (show wpAny _ _ (Builtin.SmallTypes.nextOf (.ref i1) >>= _) _ _ _ from ak (D1.item k _ _ _ V0 (Draws.same D1 e0 f1 s1) λx g2 t2 px EU e2=>ax<|ax<|ak<|ak<|eY (show wpAny _ _ (Builtin.SmallTypes.nextOf (.ref i2) >>= _) _ _ _ from ak (D2.done _ _ _ (uJ▸Draws.same D2 e2 f6 (Draws.same D2 e0 f4 s2)) λg4 ex e4 hx=>(hE g4 ex _ (λc o c1 _ c3 c4 q=>e4 _ _ c4<|e2.extBut _ _ c3<|e0.extBut _ _ c1 q) hx)))))
theorem J9 (hz:sD s.heap z TI TO) (h:Q (.ref z) s):wpAny zf A (pyIter<|.ref z) Q E s:=by
 have ty:s.TypeIs (.ref z) "zip":=let ⟨_,_,_,hz⟩:=hz;#[_,hz,rfl]
 show XF ty Y7<|qh Y7 ty F.entry_zip_iter (ax #[_,rfl, "zip",_,ty,Ea.lookup,h])<|F.args_zip_iter_1 _
theorem AQ (D1:Draws prog w A.in1 i1 rf n1 P1 S1) (D2:Draws prog w A.in1 i2 rh n2 P2 S2) (R:ET z TI TO i1 i2 rf rh) (k1:k<n1) (k2:k<n2)
 (hz:sD s.heap z TI TO) (wa:IsPair s.heap TI (.ref i1)<|.ref i2) (uI:IsPair s.heap TO a b) (s1:S1 k s.heap) (s2:S2 k s.heap)
 (hQ:∀ x y h' tk,P1 k x->P2 k y->sD h' z TI TO->(∃ u v,IsPair h' TO u v)->S1 (k+1) h'->S2 (k+1) h'->IsPair h' s.heap.objs.size x y ->
  (∀ c o,c≠z->c≠TO->c≠i1->c≠i2->s.heap.get? c=ae o->h'.get? c=ae o)->Q (ae<|.ref s.heap.objs.size) { s with heap:=h',toks:=tk }):wpAny zf A (pyNext<|.ref z) Q E s:=by
 have hT:s.TypeIs (.ref z) "zip":=let ⟨_,_,_,hz⟩:=hz;#[_,hz,rfl]
 show ak<|yO<|vc hT Ea<|qh Ea hT Y8 (J7 D1 D2 R k1 k2 hz wa uI s1 s2 λx y h' tk b1 b2 b3 b4 b5 b6 b7 b8=>ax<|hQ x y h' tk b1 b2 b3 b4 b5 b6 b7 b8)<|Y9 _
theorem RC (hz:sD s.heap z TI TO) (h:∀ h',sD h' z TI TO->Heap.SameBut z s.heap h'->Q () { s with heap:=h' }):wpAny zf A (letOwnedTupleGo tg (.ref z)<|.ref p) Q E s:=by
 have same:=h _ hz #[rfl,λ_ _=>rfl];let#[f0,f1,hf,hz]:=id hz
 have tup:wpAny zf A (do
  let o <-load z
  match o.cls,o.data with
  |.type n,.fields vs=>
    if ["enumerate","zip","dict_itemiterator","dict_reverseitemiterator","odict_iterator","itertools.zip_longest","itertools.pairwise"].contains n&&vs[0]?==ae (rawInt p) then
     rule "for.unpacks-the-owned-tuple"
     updateField z 0 .none
  |_,_=>pure ()) Q E s:=by
  refine ak<|HV hz ?_;dsimp only;split
  .refine ak<|sR<|ui hz zg λg1 v9 e1=>h g1 #[.none,f1,.inl zj,v9] e1
  .show ax same
 cases tg with
 |Tuple es n q=>show tup
 |List es q=>show tup
 |_=>show ax same
theorem AR (D1:Draws prog w A.in1 i1 rf n1 P1 S1) (D2:Draws prog w A.in1 i2 rh n2 P2 S2) (R:ET z TI TO i1 i2 rf rh) (hk:k=n1 \/ (k<n1 /\ k=n2))
 (hz:sD s.heap z TI TO) (wa:IsPair s.heap TI (.ref i1)<|.ref i2) (uI:IsPair s.heap TO a b) (s1:S1 k s.heap) (s2:S2 k s.heap)
 (hQ:∀ h' tk,(∀ c o,c≠z->c≠TO->c≠i1->c≠i2->s.heap.get? c=ae o->h'.get? c=ae o)->Q ah { s with heap:=h',toks:=tk }):wpAny zf A (pyNext<|.ref z) Q E s:=by
 have hT:s.TypeIs (.ref z) "zip":=let ⟨_,_,_,hz⟩:=hz;#[_,hz,rfl]
 refine ak<|yO<|vc hT Ea<|qh Ea hT Y8 (J8 D1 D2 R hk hz wa uI s1 s2 λh' e tk q1 q2=>?_)<|Y9 _;let#[o,ho,hc]:=q2;show ak<|XG #[o,ho,hc] XH<|ax<|hQ h' tk q1
noncomputable def EY (h:aK) (l1:ai):aK:=h.push { cls:=.type "tuple_iterator",data:=.fields (List.toArray [.ref l1,.int 0 0]) }
def xZ (h:aK) (l1 l2:ai):aK:=(EY h l1).push { cls:=.type "tuple_iterator",data:=.fields (List.toArray [.ref l2,.int 0 0]) }
def ya (h:aK) (l1 l2:ai):aK:=(xZ h l1 l2).push { cls:=.type "tuple",data:=.seq (List.toArray [.ref h.objs.size,.ref (EY h l1).objs.size]) }
def EZ (h:aK) (l1 l2:ai):aK:=(ya h l1 l2).push { cls:=.type "tuple",data:=.seq (List.toArray [.none,.none]) }
def E2 (h:aK) (l1 l2:ai):aK:=(EZ h l1 l2).push { cls:=.type "zip",data:=.fields (List.toArray [.none,.bool af,.bool af,.ref (xZ h l1 l2).objs.size,.ref (ya h l1 l2).objs.size]) }
theorem Dx (l1 l2) (xs ys) :
 Meets (Builtin.«zip.__new__» #[[.type "zip",.ref l1,.ref l2],[]]) (λ_ R s=>s.heap.IsTuple l1 xs /\ s.heap.IsTuple l2 ys /\ R (.ok<|.ret<|.ref (EZ s.heap l1 l2).objs.size) { s with heap:=E2 s.heap l1 l2 }):=
 .of_wp λprog w A R s h=>by
  let#[hp,g,d,tk,os]:=s;let#[yb,sf,h]:=h;have ahm:=sub_zip
  wp_walk using QC yb,QC (sf.at λo e=>aR _ e)
  show#[_,rfl,h]
theorem GN (yb:s.heap.IsTuple l1 xs) (sf:s.heap.IsTuple l2 ys)
 (h:∀ h',IsZip h' (s.heap.objs.size+4) (s.heap.objs.size+2) (s.heap.objs.size+3) .none->IsPair h' (s.heap.objs.size+2) (.ref s.heap.objs.size) (.ref<|s.heap.objs.size+1)->IsPair h' (s.heap.objs.size+3) .none .none ->
  h'.IsTupleIter s.heap.objs.size l1 0->h'.IsTupleIter (s.heap.objs.size+1) l2 0->(∀ c o,s.heap.get? c=ae o->h'.get? c=ae o)->Q (.ref<|s.heap.objs.size+4) { s with heap:=h' }):wpAny zf A (call (.type "zip") [.ref l1,.ref l2]) Q E s:=by
 refine callType_new F.called_zip (rfl) (F.typeCall_zip_2 _ _) (F.newCall_zip_2 _ _) (λobj=>F.args_object_init_3 obj _ _) F.entry_zip_new (Dx l1 l2 xs ys) #[yb,sf,?_];have z1:(EY s.heap l1).objs.size=s.heap.objs.size+1:=qB ..;have z2:(xZ s.heap l1 l2).objs.size=s.heap.objs.size+2:=by rw[xZ,qB,z1]
 have z3:(ya s.heap l1 l2).objs.size=s.heap.objs.size+3:=by rw[ya,qB,z2]
 have z4:(EZ s.heap l1 l2).objs.size=s.heap.objs.size+4:=by rw[EZ,qB,z3]
 have g5:(E2 s.heap l1 l2).get? (EZ s.heap l1 l2).objs.size=ae { cls:=.type "zip",data:=.fields (List.toArray [.none,.bool af,.bool af,.ref (xZ s.heap l1 l2).objs.size,.ref (ya s.heap l1 l2).objs.size]) }:=bC _ zj;have g4:(E2 s.heap l1 l2).get? (ya s.heap l1 l2).objs.size=ae { cls:=.type "tuple",data:=.seq (List.toArray [.none,.none]) }:=aR _<|bC _ zj;have g3:(E2 s.heap l1 l2).get? (xZ s.heap l1 l2).objs.size=ae { cls:=.type "tuple",data:=.seq (List.toArray [.ref s.heap.objs.size,.ref (EY s.heap l1).objs.size]) }:=aR _<|aR _<|bC _ zj;have g2:(E2 s.heap l1 l2).get? (EY s.heap l1).objs.size=ae { cls:=.type "tuple_iterator",data:=.fields (List.toArray [.ref l2,.int 0 0]) }:=aR _<|aR _<|aR _<|bC _ zj
 change _ /\ _
 rw[z2,z3,z4]at g5;rw[z1,z2]at g3;rw[z3]at g4;rw[z1]at g2;rw[z4];show#[#[_,g5,rfl],h _ g5 g3 g4 #[_,(aR _<|aR _<|aR _<|aR _<|bC _ zj),rfl,rfl] #[_,g2,rfl,rfl] λc o q=>aR _<|aR _<|aR _<|aR _<|aR _ q]
end HT
namespace L2

theorem Inv.aeG {ch:List ai}(I:Inv X pins σ H s) (hf:∀ b∈ch,n9 X pins H b) (k:∀ b o,b∉ch->s.heap.get? b=ae o->h'.get? b=ae o) (hp:s.heap.objs.size<=p)
 (new:cq X.prog X.w (upd H p o) h' p o):Inv X pins σ (upd H p o) { s with heap:=h',toks:=t' }:=by
 have qJ:∀ b u,H b=ae u->b∉ch:=λb u e z=>by rw[(hf b z).1]at e;cases e
 have eK:∀ b u,H b=ae u->upd H p o b=ae u:=λb u e=>by rw[fv<|(λb u e=>fI e<|I.ay.fresh hp) b u e];show e
 refine I.step (λb hb=>?_) (λb o _ _ hc e _=>k b o hc e) (λb o _ _ hc e _=>#[o.slots,k b o hc e]) (λb ob _ e n=>?_)
  (λb o hc e=>#[o,k b o hc e]) (λb _ e=>eK b _ e) (λb _ _ e=>eK b _ e) (λb ps e=>#[#[],by rw[eK b _ e];simp]) (λm hm=>?_) ?_ I.bare
 .let#[f0,f1,f2,f3,f4,f5]:=hf b hb;show#[f3,f1,f4,f5]
 .rw[fv λz=>eZ _<|dR (ba e) (by rw[z];show hp)];show n
 .let#[ob,es,ep,ho,r]:=hm;show#[ob,es,ep,k _ ob (λz=>(hf _ z).2.1 zj) ho,r]
 .intro b u e;by_cases hb:b=p
  .subst hb;rw[fu]at e;cases e;show new
  .rw[fv hb]at e;refine(I.ay b u e).eK (λc v hc q=>k c v ?_ q) (λc q=>eK c _ q) λc xs q=>eK c _ q;rcases hc with z|z
   .rw[z];show qJ b u e
   .show qJ c _ z
theorem Inv.aeH {ch:List ai}(I:Inv X pins σ H s) (hf:∀ b∈ch,n9 X pins H b) (k:∀ b o,b∉ch->s.heap.get? b=ae o->h'.get? b=ae o):Inv X pins σ H { s with heap:=h',toks:=t' }:=by
 have qJ:∀ b u,H b=ae u->b∉ch:=λb u e z=>by rw[(hf b z).1]at e;cases e
 refine I.step (λb hb=>?_) (λb o _ _ hc e _=>k b o hc e) (λb o _ _ hc e _=>#[o.slots,k b o hc e]) (λb ob _ e n=>n)
  (λb o hc e=>#[o,k b o hc e]) (λb _ e=>e) (λb _ _ e=>e) (λb ps e=>#[#[],by rw[e];simp]) (λm hm=>?_) ?_ I.bare
 .let#[f0,f1,f2,f3,f4,f5]:=hf b hb;show#[f3,f1,f4,f5]
 .let#[ob,es,ep,ho,r]:=hm;show#[ob,es,ep,k _ ob (λz=>(hf _ z).2.1 zj) ho,r]
 .intro b u e;refine(I.ay b u e).eK (λc v hc q=>k c v ?_ q) (λc q=>q) λc xs q=>q;rcases hc with z|z
  .rw[z];show qJ b u e
  .show qJ c _ z
def kT (t:Bool) (K:PySem.W.Frag) (H:Hp) (a:ai) (xs:List V):zk:=match t with|true=>cL K H a xs|false=>bQ K H a xs
def PX (t:Bool) (h:aK) (a:ai) (xs:Array au):zk:=match t with|true=>h.IsTuple a xs|false=>h.IsList a xs
def sF (t:Bool) (h:aK) (it l:ai) (i:Nat):zk:=match t with|true=>h.IsTupleIter it l i|false=>h.IsListIter it l i

theorem yc (I:Inv X pins σ H s) (q:kT t X.K H a xs):∃ its,Vals xs its /\ PX t s.heap a its.toArray /\ a<s.heap.objs.size:=by
 cases t with
 |true=>let#[its,r,p,_]:=I.tuple q;show#[its,r,p,let ⟨_,e,_⟩:=p;ba e]
 |false=>let#[its,r,p,_]:=I.list q;show#[its,r,p.isList,let ⟨_,_,e,_⟩:=p;ba e]
theorem aaJ (I:Inv X pins σ H s) (q:kT t X.K H a xs) (q':kT t X.K H a ys):xs=ys:=by
 cases t with
 |true=>show I.Zw q q'
 |false=>show I.Zv q q'
theorem sF.ob (x:sF t h it l i):∃ o fs,h.get? it=ae o /\ o.data=.fields fs:=by
 cases t with
 |_=>let#[o,e,_,d]:=x;show#[o,_,e,d]
theorem sF.at (x:sF t h it l i) (k:∀ o,h.get? it=ae o->h'.get? it=ae o):sF t h' it l i:=by
 cases t with
 |true=>show Heap.IsTupleIter.at x k
 |false=>show Heap.IsListIter.at x k
theorem Kx (hh:A.handled=ah) (it l) (pZ:l≠it) (items) :
 Draws prog w A it [it,l] items.size (λi v=>items[i]?=ae v) (λi h=>sF t h it l i /\ PX t h l items):=by
 cases t with
 |true=>show HT.GM hh it l pZ items
 |false=>show Draws.list hh it l pZ items
theorem GO (yb:PX t s.heap l1 xs) (sf:PX t s.heap l2 ys)
 (h:∀ h',IsZip h' (s.heap.objs.size+4) (s.heap.objs.size+2) (s.heap.objs.size+3) .none->IsPair h' (s.heap.objs.size+2) (.ref s.heap.objs.size) (.ref<|s.heap.objs.size+1)->IsPair h' (s.heap.objs.size+3) .none .none ->
  sF t h' s.heap.objs.size l1 0->sF t h' (s.heap.objs.size+1) l2 0->(∀ c o,s.heap.get? c=ae o->h'.get? c=ae o)->Q (.ref<|s.heap.objs.size+4) { s with heap:=h' }):wpAny zf A (call (.type "zip") [.ref l1,.ref l2]) Q E s:=by
 cases t with
 |true=>show HT.GN yb sf h
 |false=>show call_zip_2 yb sf λh' b1 b2 b3 b4 b5 _ b6=>h h' b1 b2 b3 b4 b5 b6
def V1 (t:Bool) (K:PySem.W.Frag) (a b:ai):It:=
 #[λi H=>∃ (xs ys:List V) (x y:V),kT t K H a xs /\ kT t K H b ys /\ xs[i]?=ae x /\ ys[i]?=ae y,
  λi H w H'=>∀ (xs ys),kT t K H a xs->kT t K H b ys->∃ (p:ai) (x y:V),xs[i]?=ae x /\ ys[i]?=ae y /\ H p=ah /\ w=.ref p /\ H'=upd H p (.tup [x,y]),
  λi H=>∃ (xs ys:List V),kT t K H a xs /\ kT t K H b ys /\ (i=xs.length \/ (i<xs.length /\ i=ys.length))]
theorem A9 (k:Nat) (h:b<n):b≠n+k:=by lia
theorem Ba (h:n+4<m):m≠n /\ m≠n+1 /\ m≠n+2 /\ m≠n+3 /\ m≠n+4:=by lia
theorem Fl (ha:a<n) (hb:b<n):HT.ET (n+4) (n+2) (n+3) n (n+1) [n,a] [n+1,b] where
 a:=by refine#[?_,?_,?_,?_,?_,?_,?_,?_,?_,?_]<;>show λz=>by have z':(_:Nat)=_:=z;lia
 f1:=by
  have e1:∀ k,n+k≠a:=λk z=>eZ _<|vg (rL n k)<|z▸ha;refine#[?_,?_,?_]<;>(rw[a9,hV];rintro(z|z))
  .have z':(_:Nat)=_:=z;lia
  .show e1 4 z
  .have z':(_:Nat)=_:=z;lia
  .show e1 3 z
  .have z':(_:Nat)=_:=z;lia
  .show e1 1 z
 f2:=by
  have e1:∀ k,n+k≠b:=λk z=>eZ _<|vg (rL n k)<|z▸hb;refine#[?_,?_,?_]<;>(rw[a9,hV];rintro(z|z))
  .have z':(_:Nat)=_:=z;lia
  .show e1 4 z
  .have z':(_:Nat)=_:=z;lia
  .show e1 3 z
  .have z':(_:Nat)=_:=z;lia
  .show e1 0 z
theorem La {K}(ha:a<n) (hb:b<n) :
 Turn P w K tg (V1 t K a b) [n+4,n+2,n+3,n,n+1] (n+4)
  (λi h=>HT.sD h (n+4) (n+2) (n+3) /\ IsPair h (n+2) (.ref n) (.ref<|n+1) /\ (∃ u v,IsPair h (n+3) u v) /\ sF t h n a i /\ sF t h (n+1) b i) where
 mem:=by simp
 obj:=λi h st c hc=>by
  let#[#[_,_,_,z1],z2,#[u,v,z3],z4,z5]:=st;let#[o4,_,e4,d4]:=z4.ob;let#[o5,_,e5,d5]:=z5.ob;simp[a9,pM,or_false]at hc;rcases hc with rfl|rfl|rfl|rfl|rfl
  .show#[_,z1,λv z=>by cases z]
  .show#[_,z2,λv z=>by cases z]
  .show#[_,z3,λv z=>by cases z]
  .show#[o4,e4,λv z=>by rw[d4]at z;cases z]
  .show#[o5,e5,λv z=>by rw[d5]at z;cases z]
 keep:=λi h h' st k=>by
  let#[z1,z2,#[u,v,z3],z4,z5]:=st;let#[w0,w1,w2,z1]:=z1;show#[#[w0,w1,w2,k _ zg _ z1],k _ zg _ z2,#[u,v,k _ zg _ z3],z4.at λo e=>k _ zg o e,z5.at λo e=>k _ zg o e]
 item:=by
  intro X hP hw hK hc i pins s σ H E I hf st hg;subst hP hw hK;let#[xs,ys,x,y,q1,q2,e1,e2]:=hg;let#[z1,z2,#[u,v,z3],z4,z5]:=st;let#[i1,r1,p1,l1]:=yc I q1;let#[i2,r2,p2,l2]:=yc I q2;have R:=Fl ha hb;refine HT.AQ (Kx (t:=t) (prog:=X.prog) (w:=X.w) (A:=X.A.in1) (I.ok.hd hc) n a (bN ha) i1.toArray) (Kx (t:=t) (prog:=X.prog) (w:=X.w) (A:=X.A.in1) (I.ok.hd hc) _ b (A9 1 hb) i2.toArray) R (by rw[bZ,<-r1.length];show(List.getElem?_eq_some_iff.mp e1).1) (by rw[bZ,<-r2.length];show(List.getElem?_eq_some_iff.mp e2).1) z1 z2 z3 #[z4,p1] #[z5,p2] λvx vy h' tk b1 b2 b3 b4 b5 b6 b7 b8=>#[_,rfl,?_];refine HT.RC b3 λh2 Kw kg=>?_;let#[w1,f1,g1]:=r1.get e1;let#[w2,f2,g2]:=r2.get e2;have aaK:i1[i]?=ae vx:=by simpa using b1
  have aaL:i2[i]?=ae vy:=by simpa using b2
  rw[f1]at aaK;cases aaK;rw[f2]at aaL;cases aaL;have EW:(n+4)<s.heap.objs.size:=let ⟨_,_,_,z1⟩:=z1;ba z1
  have I2:Inv X pins σ (upd H s.heap.objs.size<|.tup [x,y]) { s with heap:=h2,toks:=tk }:=by
   refine I.aeG hf (λc o dH e=>?_) (aA _) (#[by change 2<=sizeLine;decide,[vx,vy],.cons g1<|.cons g2 .nil,#[_,(kg.extBut _ _ (Ba EW).2.2.2.2 b7),rfl,_,rfl]])
   .simp[a9,pM,or_false,not_or]at dH;show kg.extBut _ _ dH.1<|b8 c o dH.1 dH.2.2.1 dH.2.2.2.1 dH.2.2.2.2 e
  refine#[.ref s.heap.objs.size,_,I2,rfl,λahn aho y1 y2=>#[_,x,y,by rw[aaJ I y1 q1];show e1,by rw[aaJ I y2 q2];show e2,(I.ay.fresh<|aA _),rfl,rfl],#[Kw,(kg.extBut _ _ R.a.1<|b8 _ _ R.a.1 R.a.2.2.2.2.1 R.a.2.2.2.2.2.1 R.a.2.2.2.2.2.2.1 z2),(let ⟨u,v,b4⟩:=b4;#[u,v,kg.extBut _ _ R.a.2.1 b4]),(b5.1.at λo e=>kg.extBut _ _ R.a.2.2.1 e),(b6.1.at λo e=>kg.extBut _ _ R.a.2.2.2.1 e)],λc dH=>?_]
  .rw[fv]
   .show(hf c dH).1
   .intro z;subst z;simp[a9,pM,or_false]at dH;let#[m1,m2,m3,m4,m5]:=Ba EW;rcases dH with q|q|q|q|q
    .show m5 q
    .show m3 q
    .show m4 q
    .show m1 q
    .show m2 q
 done:=by
  intro X hP hw hK hc i pins s σ H E I hf st hg;subst hP hw hK;let#[xs,ys,q1,q2,hk]:=hg;let#[z1,z2,#[u,v,z3],z4,z5]:=st;let#[i1,r1,p1,l1]:=yc I q1;let#[i2,r2,p2,l2]:=yc I q2;refine HT.AR (Kx (t:=t) (prog:=X.prog) (w:=X.w) (A:=X.A.in1) (I.ok.hd hc) n a (bN ha) i1.toArray) (Kx (t:=t) (prog:=X.prog) (w:=X.w) (A:=X.A.in1) (I.ok.hd hc) (n+1) b (A9 1 hb) i2.toArray) (Fl ha hb) (k:=i) (by rw[bZ,bZ,<-r1.length,<-r2.length];show hk) z1 z2 z3 #[z4,p1] #[z5,p2] λh' tk b8=>#[rfl,I.aeH (ch:=[n+4,n+2,n+3,n,n+1]) hf λc o dH e=>?_];simp[a9,pM,or_false,not_or]at dH;show b8 c o dH.1 dH.2.2.1 dH.2.2.2.1 dH.2.2.2.2 e
 self:=λA i s Q E st h=>HT.J9 st.1 h
def aeI (K:PySem.W.Frag) (ta:TA):TI:=λσ H R=>ta σ H λvs H2=>∃ (t:Bool) (p q:ai) (xs ys:List V),vs=[.ref p,.ref q] /\ kT t K H2 p xs /\ kT t K H2 q ys /\ R (V1 t K p q) H2
theorem RD (hg:Gl X "zip") (hm:X.mg "zip"=ah) (ha:PA X [a,b] ta) (hs:starEach [a,b] X.env=[(af,eval a X.env),(af,eval b X.env)]:=by rfl) (kg:starEach [b] X.env=[(af,eval b X.env)]:=by rfl) :
 PI X tg (.Call (.Name "zip" p) [a,b] [] pos) (aeI X.K ta):=by
 intro pins s σ H R I h;refine rJ<|jc I hg hm (by decide +kernel:bootBuiltins "zip"=ae (.type "zip")) ?_;refine Ir (nv (ha pos pins s σ H _ I h) λus s1 vs H2 I2 r2 q=>?_) (by rw[hs,kg]) (by rw[kg];rfl);let#[t,x,y,xs,ys,rfl,hx,hy,q]:=q;let#[u,v,rfl,ru,rv]:=Vals.two r2;cases ru;cases rv;let#[i1,r1,p1,l1]:=yc I2 hx;let#[i2,r2,p2,l2]:=yc I2 hy;refine GO p1 p2 λh' b1 b2 b3 b4 b5 b6=>?_;refine wpAny_pyIter_zip b1 ?_;refine#[s1.heap.objs.size+4,_,_,_,H2,rfl,I2.kept b6,La l1 l2,#[#[_,_,.inl zj,b1],b2,#[_,_,b3],b4,b5],λc hc=>?_,q];have hle:s1.heap.objs.size<=c:=by
  simp[a9,pM,or_false]at hc;rcases hc with z|z|z|z|z<;>(rw[z];first|show aA _|show rL _ _)
 show I2.xt hle<|I2.ay.fresh hle
end L2
namespace L2.DL

noncomputable def p8:List D->List D->List W
 |x::l,y::r=>.d (.tup [x,y])::p8 l r
 |_,_=>[]
theorem Ct:∀ (l r),(p8 l r).length=min l.length r.length
 |[],_=>rfl
 |_::_,[]=>rfl
 |_::l,_::r=>by erw[p8,a6,Ct l r];lia
theorem Cu:∀ {l r}{i:Nat}{w},(p8 l r)[i]?=ae w->∃ x y,l[i]?=ae x /\ r[i]?=ae y /\ w=.d (.tup [x,y])
 |[],_,_,_,e=>by simp[p8]at e
 |_::_,[],_,_,e=>by simp[p8]at e
 |x::l,y::r,0,w,e=>by simp[p8]at e;show#[x,y,rfl,rfl,e.symm]
 | x::l,y::r,i+1,w,e=>by
   let#[x',y',h1,h2,h3]:=Cu (by simpa[p8] using e);show#[x',y',by simpa using h1,by simpa using h2,h3]
def yd (k:DE<|List W):DE (List W):=λenv bx=>fC (k env bx) λws bx1=>match ws with
 |[.d<|.tup l,.d<|.tup r]=>.val (p8 l r) bx1
 |[.d<|.lst l,.d<|.lst r]=>.val (p8 l r) bx1
 |_=>.bad
theorem Aj {K}{p}(hp:∀ H,Sub F H->kT t K H p vs) (hq:∀ H,Sub F H->kT t K H q us) (dl:aG F l vs) (dm:aG F m us):vT F r (p8 l m) (V1 t K p q):=by
 intro T i F1 r1 σ1 H1 bb bx1 g R;have s1:=hp _<|g.s.trans R.fh;have s2:=hq _<|g.s.trans R.fh;have e1:=dl.length;have e2:=dm.length;refine#[λhl=>?_,λw e=>?_]
 .rw[Ct]at hl;show#[vs,us,s1,s2,by lia]
 .let#[x,y,h1,h2,rfl]:=Cu e;let#[v,f1,d1]:=dl.get h1;let#[u,f2,d2]:=dm.get h2;refine#[#[vs,us,v,u,s1,s2,f1,f2],λw H2 hy=>?_];let#[a,v',u',g1,g2,ha,rfl,rfl]:=hy vs us s1 s2;rw[f1]at g1;cases g1;rw[f2]at g2;cases g2;have gr:=R.tL (o:=.tup [v,u]) ha;show#[_,gr,R.xO ha,a,[v,u],rfl,fu,.cons (Den.mono (g.trans gr).s x d1)<|.cons (Den.mono (g.trans gr).s y d2) .nil]
theorem Np (hg:Gl X "zip") (hm:X.mg "zip"=ah) (ha:pj X T Z [a,b] k) (hs:starEach [a,b] X.env=[(af,eval a X.env),(af,eval b X.env)]:=by rfl) (kg:starEach [b] X.env=[(af,eval b X.env)]:=by rfl) :
 xS X T Z tg (.Call (.Name "zip" p) [a,b] [] pos) (yd k):=by
 refine PI.imp (RD hg hm ha hs kg) λσ H Q=>bg λF r env bx R h=>?_;refine#[F,r,env,bx,R,End.bind h λws bx1 F1 r1 vs H1 g1 R1 d1 h1=>?_];split at h1
 .let#[v,t,rfl,#[p,us,rfl,k1,k2],v2,t2,rfl,#[q,E3,rfl,k3,k4],rt]:=d1;cases (rt);have z1:∀ H,Sub F1 H->kT ag X.K H p us:=λH s=>.of<|s _ _ k1;have z2:∀ H,Sub F1 H->kT ag X.K H q E3:=λH s=>.of<|s _ _ k3;show#[ag,p,q,us,E3,rfl,z1 _ R1.fh,z2 _ R1.fh,h1 F1 r1 _ H1 (.refl F1 r1) R1<|Aj z1 z2 k2 k4]
 .ext l m;let#[v,t,rfl,#[p,us,rfl,k1,k2],v2,t2,rfl,#[q,E3,rfl,k3,k4],rt]:=d1;cases (rt);have z1:∀ H,Sub F1 H->kT af X.K H p us:=λH s=>.of<|s _ _ k1;have z2:∀ H,Sub F1 H->kT af X.K H q E3:=λH s=>.of<|s _ _ k3;show#[af,p,q,us,E3,rfl,z1 _ R1.fh,z2 _ R1.fh,h1 F1 r1 _ H1 (.refl F1 r1) R1<|Aj z1 z2 k2 k4]
 .show h1.elim

def aeJ (K:PySem.W.Frag) (tl:TE):TI:=λσ H R=>tl σ H λx H1=>(∃ a,x=.ref a /\ (∃ xs,bQ K H1 a xs) /\ R (Vb K a) H1) \/ ∃ a,x=.ref a /\ (∃ xs,cL K H1 a xs) /\ R (Vc K a) H1
theorem RE (hl:PE X l tl):PI X tg l (aeJ X.K tl):=by
 intro pins s σ H R I h;refine aV (hl pins s σ H _ I h) λv s1 x H1 I1 r1 q1=>?_;rcases q1 with⟨a,rfl,⟨xs,hq⟩,q⟩|⟨a,rfl,⟨xs,hq⟩,q⟩
 .cases r1;let#[its,rv,p,hz]:=I1.list hq;refine Qx p.isList #[s1.heap.objs.size,[s1.heap.objs.size],_,_,H1,rfl,I1.kept λb o e=>aR _ e,Gn a _,#[_,bC _ zj,rfl,rfl],λb hb=>?_,q];cases hV.mp hb;show I1.xt (aA _)<|I1.ay.fresh<|aA _
 .cases r1;let#[its,rv,p,hz]:=I1.tuple hq;refine QC (p) #[s1.heap.objs.size,[s1.heap.objs.size],_,_,H1,rfl,I1.kept λb o e=>aR _ e,De a _,#[_,bC _ zj,rfl,rfl],λb hb=>?_,q];cases hV.mp hb;show I1.xt (aA _)<|I1.ay.fresh<|aA _
theorem Cw {K}{a}(k1:F a=ae (.lst vs)) (k2:aG F l vs):vT F r (l.map W.d) (Vb K a):=λT' i F2 r2 σ2 H2 cG aq g2 R2=>by
 have hq:bQ K H2 a vs:=.of<|R2.fh _ _<|g2.s _ _ k1;refine#[λhl=>?_,λw e=>?_]
 .rw[aX,k2.length]at hl;show#[vs,hq,ve hl]
 .let#[d,e1,rfl]:=A6 e;let#[u,e2,du]:=k2.get e1;refine#[#[vs,u,hq,e2],λx H3 ⟨e3,hy⟩=>?_];subst e3;have e4:=hy vs hq;rw[e2]at e4;cases e4;show#[F2,.refl F2 r2,R2,Den.mono g2.s d du]
theorem Dy {K}{a}(k1:F a=ae (.tup vs)) (k2:aG F l vs):vT F r (l.map W.d) (Vc K a):=λT' i F2 r2 σ2 H2 cG aq g2 R2=>by
 have hq:cL K H2 a vs:=.of<|R2.fh _ _<|g2.s _ _ k1;refine#[λhl=>?_,λw e=>?_]
 .rw[aX,k2.length]at hl;show#[vs,hq,ve hl]
 .let#[d,e1,rfl]:=A6 e;let#[u,e2,du]:=k2.get e1;refine#[#[vs,u,hq,e2],λx H3 ⟨e3,hy⟩=>?_];subst e3;have e4:=hy vs hq;rw[e2]at e4;cases e4;show#[F2,.refl F2 r2,R2,Den.mono g2.s d du]
theorem l8 (ha:PD X T Z a ma):xS X T Z tg a (bS ma):=by
 refine PI.imp (RE ha) λσ H Q=>bg λF r env bx R h=>?_;refine#[F,r,env,bx,R,End.bind h λw bx1 F1 r1 v H1 g1 R1 d1 h1=>?_];split at h1
 .let#[p,vs,rfl,k1,k2]:=d1;show .inl #[p,rfl,#[vs,.of<|R1.fh _ _ k1],h1 F1 r1 _ H1 (.refl F1 r1) R1<|Cw k1 k2]
 .let#[p,vs,rfl,k1,k2]:=d1;show .inr #[p,rfl,#[vs,.of<|R1.fh _ _ k1],h1 F1 r1 _ H1 (.refl F1 r1) R1<|Dy k1 k2]
 .show h1.elim
noncomputable def V2 (XN:List Str) (sc cs:kz) (N:List Str) (src:List<|Option Nat):Bool:=
 decide (cs.kind=.function)&&decide (cs.names.map (·.1)).Nodup&&cs.names.all (λy=>decide (y.2=.local->cs.names.lookup y.1=ae .local)) &&
 cs.names.all (λy=>decide (y.2=.free->(sc.names.lookup y.1=ae .cell \/ sc.names.lookup y.1=ae .free)))&&decide (src.length=N.length) &&
 (List.range src.length).all λj=>match src[j]?,N[j]? with
  |some (ae i),ae x=>decide (XN[i]?=ae x /\ cs.names.lookup x=ae .free)
  |_,_=>ag
theorem Dz (hX:∀ x,X.env.kindOf x=sc.names.lookup x) (hN:X.N=XN) (h:V2 XN sc cs N src=ag):tH X N src cs:=by
 subst hN;unfold V2 at h;erw[aH,decide_eq_true_eq,cg]at h;let#[#[#[#[#[h1,h2],h3],h4],h5],h6]:=h;refine#[h1,h2,λy hy=>h3 y hy,λy hy hf=>?_,h5,λj i x e1 e2=>?_]
 .rw[hX];show h4 y hy hf
 .have q:=h6 j<|List.mem_range.mpr (List.getElem?_eq_some_iff.mp e1).1;rw[e1,e2]at q;show of_decide_eq_true q
section
variable (P:cT) (w:cj) (K:PySem.W.Frag) (mg:Str -> Option au) (base:aK) (cl:Nat -> ai)
def rm (k:Nat) (x:Str) (ps:List Str) (fn:List W->List Bx->O W):zk:=
 ∃ (f:ai) (fd:FuncData),cQ P w K mg base (dq P w) k f fd ps (qU cl ps.length fn) /\ mg x=ae (.ref f) /\ PySem.W.keepIn K (.ref f)=ag /\ Binds K fd ps [] /\ ∃ o,K.lookup f=ae o /\ o.data=.func fd
def Def (x:Str) (st:bK) (ps:List Str):zk:=∃ (f:ai) (fd:FuncData),dY K x x st f fd /\ mg x=ae (.ref f) /\ Binds K fd ps []
end
section
variable {P:cT} {w:cj} {K:PySem.W.Frag} {mg:Str -> Option au} {base:aK} {cl:Nat -> ai} {k:Nat} {x:Str} {st:bK} {N ps:List Str} {m:aE} {fn:List W -> List Bx -> O W} {nn kk:Nat}
theorem _root_.L2.dY.obj {qual:Str}{f:ai}{fd:FuncData}(F:dY K x qual st f fd):∃ o:Obj,K.lookup f=ae o /\ o.data=.func fd:=by
 let#[#[oc,od,kV,doc,pm,an,cdv,ct,pO,_,l,_],_]:=F;show#[_,l,rfl]
end

theorem RF (h:rm X.prog X.w X.K X.mg X.base Z.cl k x ps fn) (hr:bI k' X.A) (hk:k<=k') (hg:Gl X x) (hx:Passes (dq X.prog X.w) X Z.E) (ha:pj X T Z (e::es) m) (cM:(x==("__debug__"))=af:=by decide)
 (he:starEach (e::es) X.env=(af,eval e X.env)::starEach es X.env:=by rfl) (dX:(backTo pos<|starEach es X.env).any (·.1)=af:=by rfl) (hn:ps.length=nn:=by rfl):PD X T Z (.Call (.Name x p) (e::es) [] pos) (fq fn nn m):=by
 subst hn;let#[f,fd,G,hm,aeK,hb,_]:=h;show(λG hr hg hm hk hb hx ha cM he dX=>PE.imp (MX G hr hg hm hk hb .nil hx ha cM he dX) λσ H Q h=>Rm h) G (hr.mono hk) hg hm aeK hb hx ha cM he dX
end L2.DL
namespace HT
structure SB (kd:SortKind) (b:Array Keyed) (z:SortSt):zk where
 pm:(arrOf z).Perm b
 kd:kindOf z=kd
 fl:failedOf z=ah
 pn:pendingOf z=#[]
theorem SB.len {kd}(g:SB kd b z):(arrOf z).size=b.size:=g.pm.size_eq
theorem SB.put {kd}(g:SB kd b z) (q:c.Perm<|arrOf z):SB kd b (setArr z c):=#[q.trans g.pm,g.kd,g.fl,g.pn]
section

def tV (prog:cT) (w:cj) (A:dj) (E:au->aI->zk) (s:aI) (κ:KeyKind) (kd:SortKind) (b:Array Keyed):zk:=
 ∀ (x y:Keyed),x∈b.toList->y∈b.toList->∀ (Q:Bool->aI->zk) (E':au->aI->zk),Q (κ.blt ((κ.keyOf x.1).getD κ.dflt)<|(κ.keyOf y.1).getD κ.dflt) s->wpAny zf A (keyLt' kd x.1 y.1) Q E' s
variable {kd:SortKind}
noncomputable abbrev kx (κ:KeyKind) (z:SortSt) (i:Nat):κ.α:=KK κ (arrOf z) i
theorem SB.item (g:SB kd b z) (hi:i<b.size):∃ x,(arrOf z)[i]?=ae x /\ x∈b.toList /\ kx κ z i=(κ.keyOf x.1).getD κ.dflt:=by
 have hz:=g.len▸hi;refine#[(arrOf z)[i],getElem?_pos _ i hz,(Array.perm_iff_toList_perm.mp g.pm).mem_iff.mp zg,?_];simp[KK,getElem?_pos (arrOf z) i hz]
theorem ask (C:tV prog w A E s κ kd b) (g:SB kd b z) (hi:i<b.size) (hj:j<b.size)
 (q:Q (ae<|κ.blt (kx κ z i)<|kx κ z j) z):wpS zf A E s (ltAt' i j) Q z:=by
 let#[x,ex,mx,aeL]:=g.item hi;let#[y,ey,my,aeM]:=g.item hj;rw[aeL,aeM]at q;rw[ltAt'_eq];refine cy<|xf ?_;dsimp only;rw[elem'_eq,elem'_eq,ex,ey];refine cy<|dU<|cy<|dU ?_;rw[lt'_eq];refine cy<|xf ?_;rw[g.kd];show cy<|UC<|yO<|C x y mx my _ _ #[rfl,dU q]
def Up (κ:KeyKind) (z:SortSt) (n:Nat):zk:=∀ i j,i<=j->j<n->κ.kle (kx κ z i) (kx κ z j)
def Dn (κ:KeyKind) (z:SortSt) (n:Nat):zk:=∀ i j,i<=j->j<n->κ.kle (kx κ z j) (kx κ z i)
theorem Up.one (h:n<=1):Up κ z n:=λi j a c=>by
 have e:i=j:=by lia
 subst e;show xi _
theorem Up.more (u:Up κ z n) (h:1<=n) (l:κ.kle (kx κ z<|n-1)<|kx κ z n):Up κ z (n+1):=λi j a c=>by
 rcases wO j n with c'|c'
 .show u i j a c'
 obtain rfl:j=n:=by lia
 rcases wO i j with a'|a'
 .show IE (u i _ zb zb) l
 .obtain rfl:i=j:=by lia
  show xi _
theorem Dn.more (u:Dn κ z n) (h:1<=n) (l:κ.kle (kx κ z n)<|kx κ z<|n-1):Dn κ z (n+1):=λi j a c=>by
 rcases wO j n with c'|c'
 .show u i j a c'
 obtain rfl:j=n:=by lia
 rcases wO i j with a'|a'
 .show IE l<|u i _ zb zb
 .obtain rfl:i=j:=by lia
  show xi _
theorem asc (C:tV prog w A E s κ kd b) (g:SB kd b z) (hn:n<=b.size) (h1:1<=a) (h2:a<=n) (u:Up κ z a)
 (q:∀ m,a<=m->m<=n->Up κ z m->(m<n->κ.klt (kx κ z m) (kx κ z<|m-1))->Q (ah,m) z):wpS zf A E s (ascLoop a n) Q z:=by
 refine xg (I:=λm c y=>y=z /\ c=(ah,m) /\ Up κ z m) ?_ ?_ #[rfl,rfl,u]
 .intro m c y g1 g2 ⟨e1,e2,u'⟩;subst e1;subst e2;refine cy<|ask C g zb zb ?_;cases e:κ.blt _ _ with
  |true=>show dU<|q m g1 (kM g2) u' λ_=>e
  |false=>show dU #[rfl,rfl,u'.more zb e]
 .intro c y ⟨e1,e2,u'⟩;subst e1;subst e2;rw[XY h2]at u' ⊢;show q n h2 (aA n) u' λh=>absurd h<|eZ n
theorem Fm (hj:j<=(arrOf z).size):kx κ (setArr z<|mirror (arrOf z) i j<|(j-i) / 2) k=if i<=k /\ k<j then kx κ z (i+j-1-k) else kx κ z k:=KK_mirror hj k
theorem lj (hj:j<=(arrOf z).size) (e:∀ k,i<=k->k<j->kx κ z k=kx κ z (j-1)) (k):kx κ (setArr z<|mirror (arrOf z) i j<|(j-i) / 2) k=kx κ z k:=KK_mirror_equal hj e k
def Ends (prog:cT) (w:cj) (A:dj) (E:au->aI->zk) (s:aI) (κ:KeyKind) (kd:SortKind) (b:Array Keyed) (n:Nat) (Q:Option Nat->SortSt->zk):zk:=
 ∀ m y,SB kd b y->1<=m->m<=n->Up κ y m->Q (ae m) y
theorem turned (C:tV prog w A E s κ kd b) (g:SB kd b z) (hn:n<=b.size) (h1:1<=a) (h2:a<=n) (d:Dn κ z a) (q:Ends prog w A E s κ kd b n Q) :
 wpS zf A E s (tail3 a n) Q z:=by
 have hz:=g.len▸cw h2 hn;have g':SB kd b (setArr z<|mirror _ 0 a<|(a-0) / 2):=g.put<|Iw _ _ _ _;refine cy<|Iy<|cy<|asc C g' hn h1 h2 (λi j c1 c2=>?_) λm m1 m2 um _=>dU<|q m _ g' (cw h1 m1) m2 um;rw[Fm hz,Fm hz,if_pos #[di i,by lia],if_pos #[di j,c2]];show d _ _ zb zb
def Alike (κ:KeyKind) (z:SortSt) (m e:Nat):zk:=e+1<=m /\ ∀ i,m-(e+1)<=i->i<m->kx κ z i=kx κ z (m-1)
theorem Alike.zero (h:1<=m):Alike κ z m 0:=#[h,λi h1 h2=>by rw[show i=m-1 by lia]]
theorem desc (C:tV prog w A E s κ kd b) (g:SB kd b z) (hn:n<=b.size) (h1:1<=a) (h2:a<=n) (d:Dn κ z a)
 (q:∀ m e y,SB kd b y->a<=m->m<=n->Dn κ y m->Alike κ y m e->Q (ah,m,e) y):wpS zf A E s (descLoop a n) Q z:=by
 refine xg (I:=λm c y=>∃ e,c=(ah,m,e) /\ SB kd b y /\ Dn κ y m /\ Alike κ y m e) ?_ ?_ #[0,rfl,g,d,.zero h1]
 .intro m c y g1 g2 ⟨e,ec,gy,dy,al⟩;subst ec;have hm:m<=(arrOf y).size:=by rw[gy.len];lia
  refine cy<|ask C gy (show m<b.size by lia) (show m-1<b.size by lia) ?_;cases t:κ.blt _ _ with
  |true=>
    have d':=dy.more zb<|IG t;dsimp only;by_cases he:e>0
    .rw[if_pos he];refine cy<|Iy<|dU #[0,rfl,gy.put<|Iw _ _ _ _,λi j c1 c2=>?_,.zero zb];rw[lj hm al.2,lj hm al.2];show d' i j c1 c2
    .rw[if_neg he];show dU #[0,rfl,gy,d',.zero zb]
  |false=>
    dsimp only;rw[if_neg zg];refine cy<|ask C gy zb zb ?_;cases t2:κ.blt _ _ with
    |true=>show dU<|q m e y gy g1 zb dy al
    |false=>
      refine dU #[e+1,rfl,gy,dy.more zb t2,by have:=al.1;lia,λi c1 c2=>?_];rw[show m+1-1=m by lia];by_cases hi:i=m
      .rw[hi]
      .rw[(YX t2 t)];show al.2 i zb zb
 .intro c y ⟨e,ec,gy,dy,al⟩;subst ec;rw[XY h2]at dy al ⊢;show q n e y gy h2 (aA n) dy al
theorem fall (C:tV prog w A E s κ kd b) (g:SB kd b z) (hn:n<=b.size) (h2:a+1<=n) (d:Dn κ z<|a+1) (q:Ends prog w A E s κ kd b n Q) :
 wpS zf A E s (descPart a n) Q z:=by
 refine cy<|UC<|sR #[rfl,cy<|desc C g hn (wQ a) h2 d λm e y gy m1 m2 dy al=>?_];by_cases he:e>0
 .rw[if_pos he];have hm:m<=(arrOf y).size:=by rw[gy.len];lia
  refine cy<|Iy<|turned C (gy.put<|Iw _ _ _ _) hn zb m2 (λi j c1 c2=>?_) q;rw[lj hm al.2,lj hm al.2];show dy i j c1 c2
 .rw[if_neg he];show turned C gy hn zb m2 dy q
theorem count (C:tV prog w A E s κ kd b) (g:SB kd b z) (hn:n<=b.size) (h1:1<=n) (q:Ends prog w A E s κ kd b n Q) :
 wpS zf A E s (countRun' 0 n) Q z:=by
 rw[countRun0_eq];refine cy<|asc C g hn (aA 1) h1 (.one<|aA 1) λm m1 m2 um last=>?_;by_cases hm:m=n
 .rw[if_pos (by simp[hm])];show dU<|q m z g m1 m2 um
 rw[if_neg (by simp[hm])];have lt:=last zb;by_cases h3:m>1
 .rw[if_pos h3];refine cy<|ask C g zb zb ?_;cases t:κ.blt _ _ with
  |true=>show dU<|q m z g m1 m2 um
  |false=>
    dsimp only;have al:∀ k,0<=k->k<m->kx κ z k=kx κ z _:=λk _ hk=>
     YX (um k _ zb zb) (IE t<|um 0 k (di k) hk)
    have hz:m<=(arrOf z).size:=by rw[g.len];lia
    refine cy<|Iy<|fall C (g.put<|Iw _ _ _ _) hn zb (λi j c1 c2=>?_) q;rw[lj hz al,lj hz al];have d0:Dn κ z m:=λi j c1 c2=>by rw[al i (di _) zb,al j (di _) c2];show xi _
    show d0.more m1 (IG lt) i j c1 c2
 .rw[if_neg h3];obtain rfl:m=1:=by lia
  have d0:Dn κ z 1:=λi j c1 c2=>by
   obtain rfl:i=j:=by lia
   show xi _
  show fall C g hn zb (d0.more (aA 1)<|IG lt) q
end
section
variable {kd:SortKind}
def Fits (κ:KeyKind) (z:SortSt) (k l r:Nat):zk:=(∀ i,i<l->κ.kle (kx κ z i) (kx κ z k)) /\ ∀ i,r<=i->i<k->κ.klt (kx κ z k) (kx κ z i)
theorem Fn (hk:k<(arrOf z).size) (hl:l<=k):kx κ (setArr z<|bubble (arrOf z) k<|k-l) i=if i=l then kx κ z k else if l<i /\ i<=k then kx κ z (i-1) else kx κ z i:=by
 have e:=KK_bubble (κ:=κ) hk (Nat.sub_le k l) i;rw[show k-(k-l)=l by lia]at e;show e
theorem Up.insert (u:Up κ z k) (hk:k<(arrOf z).size) (hl:l<=k) (f:Fits κ z k l l):Up κ (setArr z<|bubble (arrOf z) k<|k-l) (k+1):=by
 intro i j c1 c2;rw[Fn hk hl,Fn hk hl];by_cases i1:i=l
 .rw[if_pos i1];by_cases j1:j=l
  .rw[if_pos j1];show xi _
  .rw[if_neg j1,if_pos #[by lia,by lia]];show IG<|f.2 _ zb zb
 .rw[if_neg i1];by_cases i2:l<i /\ i<=k
  .rw[if_pos i2,if_neg zb,if_pos #[by lia,by lia]];show u _ _ zb zb
  .rw[if_neg i2];by_cases j1:j=l
   .rw[if_pos j1];show f.1 i zb
   .rw[if_neg j1];by_cases j2:l<j /\ j<=k
    .rw[if_pos j2];show u _ _ zb zb
    .rw[if_neg j2];show u _ _ c1 zb
theorem aeN (C:tV prog w A E s κ kd b) (g:SB kd b z) (hn:n<=b.size) (hm:m<=n) (u:Up κ z m) (q:∀ y,SB kd b y->Up κ y n->Q ag y) :
 wpS zf A E s (binarySort' 0 n m) Q z:=by
 rw[binarySort'_eq];erw[wR];refine cy<|Iz (Q:=λc y=>c=(ah,()) /\ SB kd b y /\ Up κ y n) (xg (I:=λk c y=>c=(ah,()) /\ SB kd b y /\ Up κ y (min k n)) ?_ ?_ ?_) ?_
 .intro k c y k1 k2 ⟨ec,gy,uy⟩;rw[wU<|kM k2]at uy;have kb:k<b.size:=by lia
  refine cy<|Iz (Q:=λc y'=>y'=y /\ ∃ l r,c=(ah,l,r) /\ l<=k /\ Fits κ y k l l) (xg (I:=λx c y'=>y'=y /\ ∃ l r,c=(ah,l,r) /\ l<=r /\ r<=k /\ r-l<=k-x /\ Fits κ y k l r) ?_ ?_<|#[rfl,0,k,rfl,di k,aA k,aA _,λi hi=>absurd hi<|vj i,λi i1 i2=>absurd i2 zb]) ?_
  .intro x c y' _ x2 ⟨ey,l,r,ec,p1,p2,p3,f⟩;subst ey;subst ec;dsimp only;by_cases lr:l>=r
   .rw[if_pos lr];obtain rfl:l=r:=by lia
    show dU #[rfl,l,l,rfl,p2,f]
   rw[if_neg lr];refine cy<|ask C gy kb zb ?_;cases t:κ.blt _ _ with
   |true=>show dU #[rfl,l,(l+r) / 2,rfl,by lia,by lia,by lia,f.1,λi i1 i2=>KeyOrd.klt_of_klt_of_kle t<|uy _ _ i1 i2]
   |false=>show dU #[rfl,(l+r) / 2+1,r,rfl,by lia,by lia,by lia,λi i1=>IE (uy i _ zb zb) t,f.2]
  .intro c y' ⟨ey,l,r,ec,p1,p2,p3,f⟩;obtain rfl:l=r:=by lia
   show#[ey,l,l,ec,p2,f]
  .intro c y' ⟨ey,l,r,ec,p,f⟩;subst ey;subst ec;change wpS _ _ _ _ _ _ _;rw[moveDown'_eq];refine cy<|UD<|dU #[rfl,gy.put<|bubble_perm _ _ _,?_];rw[wU k2];show uy.insert (by rw[gy.len];show kb) p f
 .intro c y ⟨ec,gy,uy⟩;rw[show min _ n=n by lia]at uy;show#[ec,gy,uy]
 .refine#[rfl,g,?_];rcases wO m 1 with m0|m0
  .show .one zb
  .rw[show min (max m 1) n=m by lia];show u
 .intro c y ⟨ec,gy,uy⟩;subst ec;show dU<|q y gy uy
def Ky (κ:KeyKind) (b:Array Keyed) (y:SortSt):zk:=(arrOf y).Perm b /\ failedOf y=ah /\ pendingOf y=(List.toArray [(0,b.size,0)]) /\ Up κ y b.size
theorem SB.fin (g:SB kd b y) (u:Up κ y b.size):Ky κ b (setPending y<|(pendingOf y).push (0,b.size,0)):=#[g.pm,g.fl,by rw[g.pn];rfl,u]
theorem runs (C:tV prog w A E s κ kd b) (g:SB kd b z) (h2:2<=b.size) (dF:b.size<64) (q:∀ y,(arrOf y).Perm b->failedOf y=ah->Up κ y b.size->Q () y) :
 wpS zf A E s sortRuns' Q z:=by
 have mr:minRun' b.size b.size 0=b.size:=by
  let#[f,e]:=Nat.exists_eq_add_of_lt (show 0<b.size by lia);have:minRun' (0+f+1) b.size 0=b.size:=by rw[minRun'_succ,if_pos dF];rfl
  rw[<-e]at this;show this
 rw[sortRuns'_eq];refine cy<|xf ?_;dsimp only;erw[g.len,mr];refine cy (Iz (Q:=λc y=>c=(ah,b.size) /\ Ky κ b y)
  (xg (I:=λx c y=>if x=0 then c=(ah,0) /\ SB kd b y else c=(ah,b.size) /\ Ky κ b y) ?_ ?_ (by rw[if_pos rfl];show#[rfl,g])) ?_)
 .intro x c y _ x2 I;by_cases x0:x=0
  .rw[if_pos x0]at I;let#[ec,gy]:=I;subst ec;subst x0;dsimp only;rw[if_neg zb];erw[Ic,Nat.min_self,wR];have fin:∀ y',SB kd b y'->Up κ y' b.size->(if (1)=0 then ((ah:Option PUnit),b.size)=(ah,0) /\ SB kd b (setPending y'<|(pendingOf y').push (0,b.size,0)) else ((ah:Option PUnit),b.size)=(ah,b.size) /\ Ky κ b _):=
    λy' g' u'=>by rw[if_neg zb];show#[rfl,g'.fin u']
   refine cy<|count C gy (aA _) zb λm y1 g1 m1 m2 u1=>?_;dsimp only;by_cases lt:m<b.size
   .rw[if_pos lt];refine cy<|UC<|sR #[rfl,cy<|aeN C g1 (aA _) m2 u1 λy3 g3 u3=>?_];rw[if_neg zg];refine cy<|xf ?_;rw[show (pendingOf y3).back?=ah by rw[g3.pn];rfl];show cy<|UD<|dU<|fin y3 g3 u3
   .rw[if_neg lt];obtain rfl:m=b.size:=by lia
    refine cy<|xf ?_;rw[show (pendingOf y1).back?=ah by rw[g1.pn];rfl];show cy<|UD<|dU<|fin y1 g1 u1
  .rw[if_neg x0]at I;let#[ec,fy]:=I;subst ec;dsimp only;rw[if_pos<|aA _];show dU #[rfl,fy]
 .intro c y I;rw[if_neg zb]at I;show I
 .intro c y ⟨ec,fy⟩;subst ec;dsimp only;refine cy (Iz (xg (I:=λ_ c y'=>y'=y /\ c=(ah,())) ?_ (λ_ _ h=>h) #[rfl,rfl]) ?_)
  .intro x c y' _ _ ⟨e1,e2⟩;subst e1;subst e2;refine cy<|xf ?_;rw[if_pos (by rw[fy.2.2.1];show aA 1)];show dU #[rfl,rfl]
  .intro c y' ⟨e1,e2⟩;subst e1;subst e2;show dU<|q _ fy.1 fy.2.1 fy.2.2.2
end
theorem ir:∀ a,lexLt a a=af
 |[]=>rfl
 |x::a=>by rw[gL,if_pos rfl];show ir a
theorem jm:∀ a b c,lexLt a b=ag->lexLt b c=ag->lexLt a c=ag
 |[],[],_,h,_=>by cases h
 |[],_::_,[],_,h=>by cases h
 |[],_::_,_::_,_,_=>rfl
 |_::_,[],_,h,_=>by cases h
 |_::_,_::_,[],_,h=>by cases h
 | x::a,y::b,z::c,h,g=>by
   rw[gL]at *;by_cases e1:x=y
   .subst e1;rw[if_pos rfl]at h;by_cases e2:x=z
    .subst e2;rw[if_pos rfl]at g ⊢;show jm a b c h g
    .rw[if_neg e2]at g ⊢;show g
   .rw[if_neg e1]at h;by_cases e2:y=z
    .subst e2;rw[if_neg e1];show h
    .rw[if_neg e2]at g;rw[if_neg zb];show decide_eq_true zb
theorem iT:∀ a b,lexLt a b=af->lexLt b a=af->a=b
 |[],[],_,_=>rfl
 |[],_::_,h,_=>by cases h
 |_::_,[],_,h=>by cases h
 | x::a,y::b,h,g=>by
   rw[gL]at *;by_cases e:x=y
   .subst e;rw[if_pos rfl]at h g;rw[iT a b h g]
   .lia
theorem Bb (a b c) (h:lexLt a c=ag):lexLt a b=ag \/ lexLt b c=ag:=by
 cases e:lexLt a b with
 |true=>show .inl zj
 |false=>
   refine .inr ?_;cases f:lexLt b a with
   |true=>show jm b a c f h
   |false=>rw[<-iT a b e f];show h

theorem DA (k) (h:Q (decide (x<y)) s):wpAny zf A (oneLt' k (.int x t)<|.int y u) Q E s:=by
 cases k with
 |true=>show oneLt_int h
 |false=>
   show ak<|(YJ<|qf h)
theorem BF (f) (x y):keyLt' (tuples' f) x y=(do
 let xs <-Builtin.List.listItems x
 let ys <-Builtin.List.listItems y
 for ((p,q),i) in (xs.toList.zip ys.toList).zipIdx do
  if !(<-eqBool p q) then return <-oneLt' (f&&i==0) p q
 return decide (xs.size<ys.size)):=rfl
structure KP (P:aK->au->List Int->zk):zk where
 inj:∀ {h:aK}{v:au}{ns ms:List Int},P h v ns->P h v ms->ns=ms
 push:∀ {h:aK}{v:au}{ns:List Int},P h v ns->∀ o:Obj,P (h.push o) v ns
 upd:∀ {h:aK}{v:au}{ns:List Int},P h v ns->∀ {l:ai}{xs:Array au}{n:Nat},h.get? l=ae (seqObj "list" xs n)->∀ f:Obj->Obj,P (h.update l f) v ns
section
variable {prog:cT} {w:cj} {A:dj} {E:au -> aI -> zk} {s:aI} {P:aK -> au -> List Int -> zk} (KQ:KP P)
open Classical in
noncomputable def uK (P:aK->au->List Int->zk) (h:aK):KeyKind where
 α:=List Int
 blt:=lexLt
 irrefl:=ir
 trans:=jm
 negTrans:=Bb
 total:=iT
 keyOf v:=if p:∃ ns,P h v ns then ae p.choose else ah
 dflt:=[]
include KQ in
open Classical in
theorem oG (p:P h v ns):((uK P h).keyOf v).getD []=ns:=by
 have e:∃ ns,P h v ns:=#[ns,p];change (if p:∃ ns,P h v ns then ae p.choose else ah).getD []=ns;rw[dif_pos e];show KQ.inj e.choose_spec p
def uL (P:aK->au->List Int->zk) (h:aK) (vs:List au):zk:=vs.Pairwise λx y=>∀ ns ms,P h x ns->P h y ms->lexLt ms ns=af
def V3 (P:aK->au->List Int->zk) (prog:cT) (w:cj) (U:Nat) (s:aI) (vs:List au):zk:=∀ (A) (h'),A.units<=U->(∀ v ns,P s.heap v ns->P h' v ns) ->
 (∀ {Q}{E},Q (tuples' ag) { s with heap:=h' }->wpAny zf A (keyKind' vs.toArray) Q E { s with heap:=h' }) /\ ∀ E,tV prog w A E { s with heap:=h' } (uK P h') (tuples' ag) (pairsOf vs)
include KQ
theorem Lb (H:∀ v∈vs,∃ ns,P h v ns) (up:∀ v ns,P h v ns->P h' v ns) (pm:(arrOf z).Perm<|pairsOf vs) (u:Up (uK P h') z (pairsOf vs).size) :
 ((arrOf z).map (·.2)).toList.Perm vs /\ uL P h ((arrOf z).map (·.2)).toList:=by
 have hl:(arrOf z).toList.Perm (vs.zip vs):=by rw[<-YK];show Array.perm_iff_toList_perm.mp pm
 have me:∀ p∈(arrOf z).toList,p.1=p.2 /\ p.1∈vs:=λp hp=>UE<|hl.mem_iff.mp hp;rw[Array.toList_map];constructor
 .have:=hl.map (·.2);rw[QR<|aA _]at this;show this
 .unfold uL;rw[uj,List.pairwise_iff_getElem];intro i j hi hj Ef ns ms p q;have xK:j<(arrOf z).size:=by simpa using hj
  have g:=u i j (kM Ef) (by rw[<-pm.size_eq];show xK);have ki:kx (uK P h') z i=ns:=by
   simp[KK,getElem?_pos (arrOf z) i (by simpa using hi)];rw[YM,<-(me _ zg).1]at p;show oG KQ<|up _ _ p
  have kj:kx (uK P h') z j=ms:=by
   simp[KK,getElem?_pos (arrOf z) j xK];rw[YM,<-(me _ zg).1]at q;show oG KQ<|up _ _ q
  rw[ki,kj]at g;show g
theorem Fo (ho:s.heap.get? a=ae (seqObj "list" vs.toArray n)) (H:∀ v∈vs,∃ ns,P s.heap v ns) (hU:A.units<=U) (S:vs≠[]->V3 P prog w U s vs) (dF:vs.length<64)
 (h:∀ out,out.toList.Perm vs->uL P s.heap out.toList->R (.done<|.ret .none) { s with heap:=sortedHeap s.heap a vs out }):wpAny zf A (Builtin.«list.sort» #[[.ref a],[]]) R E s:=by
 rw[list_sort_plain];have la:=ba ho;refine ak<|xc ho zj<|ak<|Iu ho zj ?_;obtain⟨k,aaM⟩:∃ k,(s.heap.update a<|Obj.mapSeq λ_=>#[]).get? a=ae (seqObj "list" #[] k):=#[_,YG ho λ_=>#[]];refine ak<|UG aaM zj<|ak<|QB<|ak<|yP<|eY ?_;generalize eh:((s.heap.update a<|Obj.mapSeq λ_=>#[]).push<|seqObj "tuple" vs.toArray 0).push (seqObj "list" #[] 0)=h6;have up:∀ v ns,P s.heap v ns->P h6 v ns:=λv ns p=>eh▸KQ.push (KQ.push (KQ.upd p ho _) _) _;have Kz:h6.get? a=ae (seqObj "list" #[] k):=by
  rw[<-eh];show aR _<|aR _ aaM
 have fin:∀ out,out.toList.Perm vs->uL P s.heap out.toList->R (.done<|.ret .none) { s with heap:=h6.update a (Obj.mapSeq λ_=>out) }:=λout p q=>by
  rw[<-eh];show h out p q
 change wpAny zf A _ R E { s with heap:=h6 };dsimp only;have big:vs.length<=sizeLine+1:=by rw[bB];lia
 by_cases h2:vs.toArray.size<2
 .rw[if_pos h2,if_pos h2];refine ak<|ax ?_;rw[StateT.run_pure];refine ak<|ax ?_;dsimp only;have em:(Array.map (λx=>x.2)<|vs.toArray.zip vs.toArray)=vs.toArray:=by
   apply Array.toList_inj.mp;simp[QR]
  rw[em];refine ak<|UG Kz zj<|ak<|Iu Kz zj ?_;rw[bne_self_eq_false];refine ax<|fin vs.toArray (List.Perm.refl _) ?_;rw[bZ]at h2;unfold uL;show L2.Re h2
 .rw[if_neg h2,if_neg h2];rw[bZ]at h2;have ne:vs≠[]:=λe=>by rw[e]at h2;simp at h2
  have H6:∀ v∈vs,∃ ns,P h6 v ns:=λv m=>let ⟨ns,p⟩:=H v m;#[ns,up v ns p]
  refine ak<|(S ne A h6 hU up).1 ?_;refine ak<|eX (runs
   (Q:=λ_ y=>(arrOf y).Perm (pairsOf vs) /\ failedOf y=ah /\ Up (uK P h6) y (pairsOf vs).size) ((S ne A h6 hU up).2 _) #[Array.Perm.refl _,rfl,rfl,rfl] (by rw[UH];lia) (by rw[UH];show dF) λy a1 a2 a3=>#[a1,a2,a3]) ?_ λ_ _ e=>e
  rintro⟨⟨⟩,y⟩ s' ⟨es,pm,fl,u⟩;subst es;dsimp only;let#[o1,o2]:=Lb KQ H up pm u;refine ak<|UG Kz zj<|ak<|Iu Kz zj ?_ (hsz2:=by rw[Array.size_map,pm.size_eq,UH];show big);rw[fl,bne_self_eq_false];show ax<|fin _ o1 o2
theorem GP (hl:∀ (A) {Q:List au->aI->zk},Q vs { s with heap:=(s.heap.push<|seqObj "list" #[] 0).update s.heap.objs.size (Obj.mapSeq (·++vs.toArray)) }->wpAny zf A (collect<|.ref l) Q E s) (H:∀ v∈vs,∃ ns,P s.heap v ns) (hU:A.units+8<=U) (S:vs≠[]->V3 P prog w U s vs) (dF:vs.length<64)
 (h:∀ out,out.toList.Perm vs->uL P s.heap out.toList->Q (.ref<|s.heap.objs.size+1) { s with heap:=sortedAll s.heap vs out }):wpAny zf A (call (.builtin "sorted") [.ref l]) Q E s:=by
 refine UQ Q5 Q6 Q7 (Q8 _) ?_;refine ak<|ax<|ak<|hl _<|ak<|yP ?_;generalize eg:(s.heap.push<|seqObj "list" #[] 0).update s.heap.objs.size (Obj.mapSeq (·++vs.toArray))=g;have sg:g.objs.size=s.heap.objs.size+1:=by rw[<-eg,Ya,Iv]
 have up:∀ v ns,P s.heap v ns->P (g.push<|seqObj "list" vs.toArray 0) v ns:=λv ns p=>by
  rw[<-eg];show KQ.push (KQ.upd (KQ.push p _) (bC _ zj) _) _
 have gl:(g.push<|seqObj "list" vs.toArray 0).get? (s.heap.objs.size+1)=ae (seqObj "list" vs.toArray 0):=by rw[<-sg];show bC _ zj
 rw[sg];refine ak<|eY<|qh Q9 #[_,gl,rfl] UA (Fo KQ gl (λv m=>let ⟨ns,p⟩:=H v m;#[ns,up v ns p]) zb (λne A h2 hu k=>S ne A h2 hu λv ns p=>k v ns<|up v ns p) dF λout o1 o2=>#[_,rfl,ax #[_,rfl,?_]])<|UB _;have:=h out o1<|List.Pairwise.imp (λ{x y} r ns ms p q=>r ns ms (up _ _ p)<|up _ _ q) o2;unfold sortedAll at this;rw[eg]at this;show this
omit KQ
end
end HT
namespace L2.DL

theorem Cy:∀ {rs:List ai}{us},Vals (rs.map V.ref) us->us=rs.map Value.ref
 |[],_,.nil=>rfl
 | r::rs,_,.cons q t=>by
   cases q;rw[Cy t];rfl
end L2.DL
namespace HT
inductive aO where
 |i (n:Int)|s (x:Str)
 deriving DecidableEq
noncomputable def aO.code:aO->List Int
 |.i n=>[n]
 |.s x=>x.cps.toList.map (λ(c:Nat)=>(c:Int)+1)++[0]
noncomputable def aO.like:aO->aO->Bool
 |.i _,.i _=>ag
 |.s _,.s _=>ag
 |_,_=>af
def a7 (l:List aO):List Int:=l.flatMap (λd=>1::d.code)++[0]
def eG (l m:List aO):Bool:=(l.zip m).all λp=>p.1.like p.2
theorem Cz (r q):∀ (a b:List Nat),a≠b->lexLt ((a.map λ(c:Nat)=>(c:Int)+1)++[0]++r) ((b.map λ(c:Nat)=>(c:Int)+1)++[0]++q)=decide (a<b)
 |[],[],h=>absurd zj h
 | [],y::b,_=>by
   change lexLt (0::_) (((y)+1)::_)=_;rw[gL,if_neg zb,decide_eq_true zb,decide_eq_true zg]
 | x::a,[],_=>by
   change lexLt (((x)+1)::_) (0::_)=_;rw[gL,if_neg zb,decide_eq_false zb,decide_eq_false zg]
 | x::a,y::b,h=>by
   change lexLt (((x)+1)::_) (((y)+1)::_)=_;rw[gL];by_cases e:x=y
   .subst e;rw[if_pos rfl];refine(Cz r q a b λz=>h (by rw[z])).trans ?_;by_cases c:a<b
    .rw[decide_eq_true c,decide_eq_true (by simpa using c)]
    .rw[decide_eq_false c,decide_eq_false (by simpa using c)]
   .rw[if_neg zb];by_cases c:x<y
    .rw[decide_eq_true zb,decide_eq_true<|List.cons_lt_cons_iff.mpr<|.inl c]
    .rw[decide_eq_false zb,decide_eq_false ?_];intro z;rcases List.cons_lt_cons_iff.mp z with z|z
     .lia
     .lia
noncomputable def aO.lt:aO->aO->Bool
 |.i n,.i m=>decide (n<m)
 |.s x,.s y=>decide (x.cps.toList<y.cps.toList)
 |_,_=>af
theorem aO.app (r q):∀ {a b:aO},a.like b=ag->a≠b->lexLt (a.code++r) (b.code++q)=a.lt b
 | .i n,.i m,_,h=>by
   change lexLt (n::r) (m::q)=_;rw[gL,if_neg λz=>h (by rw[z])];rfl
 |.s x,.s y,_,h=>Cz r q _ _ λz=>h (by
  let#[#[a]]:=x;let#[#[b]]:=y;have z':a=b:=z;rw[z'])
theorem Lc (a r q):lexLt (a++r) (a++q)=lexLt r q:=by
 induction a with
 |nil=>rfl
 |cons x a ih=>rw[vp,vp,gL,if_pos rfl,ih]
def cC:List aO->List aO->Bool
 |[],m=>!m.isEmpty
 |_::_,[]=>af
 |a::l,b::m=>if a=b then cC l m else a.lt b
theorem lm:∀ (l m),eG l m=ag->lexLt (a7 l) (a7 m)=cC l m
 |[],[],_=>rfl
 | [],b::m,_=>by
   change lexLt _ _=_;rfl
 | a::l,[],_=>by
   change lexLt _ _=_;rfl
 | a::l,b::m,h=>by
   have h':(a.like b&&eG l m)=ag:=h;rw[aH]at h';have e1:a7 (a::l)=1::(a.code++a7 l):=by simp[a7]
   have e2:a7 (b::m)=1::(b.code++a7 m):=by simp[a7]
   rw[e1,e2,gL,if_pos rfl];unfold cC;by_cases c:a=b
   .rw[if_pos c,c,Lc];show lm l m h'.2
   .rw[if_neg c];show aO.app _ _ h'.1 c
noncomputable def nR (h:aK) (v:au):aO->zk
 |.i n=>∃ t,v=.int n t
 |.s x=>∃ t,v=.str x t
inductive dQ (h:aK):List au->List aO->zk
 |nil:dQ h [] []
 |cons {v:au}{d:aO}{vs:List au}{l:List aO}:nR h v d->dQ h vs l->dQ h (v::vs) (d::l)
def rn (L:List<|List aO) (h:aK) (v:au) (ns:List Int):zk:=∃ a vs n l,v=.ref a /\ IsTup h a vs.toArray /\ dQ h vs (.i n::l) /\ .i n::l∈L /\ ns=a7 (.i n::l)
theorem nR.inj:∀ {a b},nR h v a->nR h v b->a=b
 |.i n,.i m,⟨t,e⟩,⟨u,f⟩=>by rw[e]at f;cases f;rfl
 |.s n,.s m,⟨t,e⟩,⟨u,f⟩=>by rw[e]at f;cases f;rfl
 |.i n,.s m,⟨t,e⟩,⟨u,f⟩=>by rw[e]at f;cases f
 |.s n,.i m,⟨t,e⟩,⟨u,f⟩=>by rw[e]at f;cases f
theorem dQ.inj (p:dQ h vs l) (q:dQ h vs m):l=m:=by
 induction p generalizing m with
 |nil=>cases q;rfl
 |cons a _ ih=>cases q with|cons b q=>rw[a.inj b,ih q]
theorem nR.keep (p:nR h v d):nR h' v d:=by
 cases d with
 |i n=>show p
 |s x=>show p
theorem dQ.keep (p:dQ h vs l):dQ h' vs l:=by
 induction p with
 |nil=>show .nil
 |cons a _ ih=>show .cons a.keep ih
theorem Ld (o):∀ a vs,IsTup h a vs->IsTup (h.push o) a vs:=λa vs ⟨u,e1,e2⟩=>#[u,aR _ e1,e2]
theorem Nq (hl:h.get? l=ae (seqObj "list" xs n)) (f):∀ a vs,IsTup h a vs->IsTup (h.update l f) a vs:=λa vs ⟨u,e1,e2,e3⟩=>by
 refine#[u,?_,e2,e3];by_cases q:l=a
 .subst q;rw[hl]at e1;cases e1;injection (e2) with e4;show absurd e4 zc
 .rw[Heap.get?_update_ne _ _ _ _<|Ne.symm q];show e1
theorem bX (L):KP (rn L) where
 inj:=by
  rintro h v ns ms ⟨a,vs,n,l,rfl,⟨o,e1,_,k,e2⟩,i1,_,rfl⟩ ⟨a',Ex,n',l',e,⟨o',f1,_,k',f2⟩,i2,_,rfl⟩;cases e;rw[e1]at f1;cases f1;rw[e2]at f2;injection f2 with g _;have:vs=Ex:=by simpa using g
  subst this;rw[i1.inj i2]
 push:=λ⟨a,vs,n,l,e,t,i,m,c⟩ o=>#[a,vs,n,l,e,Ld o _ _ t,i.keep,m,c]
 upd:=λ⟨a,vs,n,l,e,t,i,m,c⟩ _ _ _ hl f=>#[a,vs,n,l,e,Nq hl f _ _ t,i.keep,m,c]

theorem Ta (hu:A.units<cLine) (p:nR s.heap v a) (q:nR s.heap u b) (hl:a.like b=ag) (h:Q (decide (a=b)) s):wpAny zf A (eqBool v u) Q E s:=by
 cases a with
 |i n=>
   cases b with
   |i m=>
     let#[t,rfl]:=p;let#[t',rfl]:=q;refine W9 ?_;rw[show (n==m)=decide (aO.i n=aO.i m) by by_cases e:n=m<;>simp[e]];show h
   |_=>cases hl
 |s x=>
   cases b with
   |s y=>
     let#[t,rfl]:=p;let#[t',rfl]:=q;refine UY x t y t' prog w E Q ?_;rw[show (x==y)=decide (aO.s x=aO.s y) by by_cases e:x=y<;>simp[e]];show h
   |_=>cases hl
theorem Tb (hu:A.units<cLine) (k) (hk:k=ag->∃ n,a=.i n) (p:nR s.heap v a) (q:nR s.heap u b) (hl:a.like b=ag) (h:Q (a.lt b) s):wpAny zf A (oneLt' k v u) Q E s:=by
 have gen:∀ {v u}{c},k=af->(∀ {R},R (.bool c) s->wpAny _ A (compareOp .Lt v u) R E s)->Q c s->wpAny zf A (oneLt' k v u) Q E s:=λ{v u c} z f h=>by
  rw[oneLt'_eq,z,if_neg zg];show ak<|f<|qf h
 cases a with
 |i n=>
   cases b with
   |i m=>let#[t,rfl]:=p;let#[t',rfl]:=q;show DA k h
   |_=>cases hl
 |s x=>
   cases b with
   |s y=>let#[t,rfl]:=p;let#[t',rfl]:=q;show gen (by cases k with|true=>let#[n,e]:=hk zj;cases e|false=>rfl) (λr=>lt_str r) h
   |_=>cases hl
theorem dQ.length (p:dQ h vs l):vs.length=l.length:=by
 induction p with
 |nil=>rfl
 |cons _ _ ih=>rw[a6,a6,ih]
theorem Nr (hu:A.units<cLine) (p:dQ s.heap vs l) (q:dQ s.heap us m) (hl:eG l m=ag) (i) (h0:i=0->∀ d r,l=d::r->∃ n,d=.i n)
 (k:∀ r,(r=(ae<|cC l m,PUnit.unit) \/ (r=(ah,PUnit.unit) /\ cC l m=decide (vs.length<us.length)))->R r s) :
 wpAny zf A (forIn ((vs.zip us).zipIdx i) ((ah,PUnit.unit)) λ(z) _=>(do
  let z1 <-eqBool z.1.1 z.1.2
  if (!z1)=ag then do
   let r <-oneLt' (ag&&z.2==0) z.1.1 z.1.2
   pure (ForInStep.done (ae r,PUnit.unit))
  else pure (ForInStep.yield (ah,PUnit.unit)))) R E s:=by
 induction p generalizing us m i with
 |nil=>
   refine ax<|k _<|.inr #[rfl,?_];cases q with
   |nil=>rfl
   |cons _ q=>unfold cC;simp
 |@cons v d vs l pa p ih=>
   cases q with
   |nil=>
     show ax<|k _ (.inr #[rfl,by unfold cC;simp])
   |@cons u e us m qa q=>
     have nC:(d.like e&&eG l m)=ag:=hl;rw[aH]at nC;rw[qm,QQ,wW];refine ak<|ak<|Ta hu pa qa nC.1 ?_;by_cases c:d=e
     .subst c;rw[if_neg zg];refine ax<|ih q nC.2 _ (λz=>by lia) λr hr=>k r ?_;have:cC (d::l) (d::m)=cC l m:=by conv=>lhs;unfold cC;rw[if_pos rfl]
      rw[this];rcases hr with hr|⟨hr,E4⟩
      .show .inl hr
      .show .inr #[hr,by rw[E4];simp]
     .rw[if_pos (by simp[c])];refine ak (Tb hu _ (λz=>?_) pa qa nC.1<|ax<|ax<|k _<|.inl ?_)
      .have:i=0:=by simpa using z
       show h0 this d l zj
      .have:cC (d::l) (e::m)=d.lt e:=by conv=>lhs;unfold cC;rw[if_neg c]
       rw[this]
theorem Bc (C:∀ l∈L,∀ m∈L,eG l m=ag) (hU:U<cLine) (H:∀ v∈vs,∃ ns,rn L s.heap v ns) (ne:vs≠[]):V3 (rn L) prog w U s vs:=λA h' hu up=>by
 have H':∀ v∈vs,∃ ns,rn L h' v ns:=λv m=>let ⟨ns,p⟩:=H v m;#[ns,up v ns p]
 refine#[λ{Q E} h=>?_,λE=>?_]
 .have firsts:∀ (us:List au),(∀ v∈us,∃ ns,rn L h' v ns)->∀ {Q}{E},(∀ (ws) (is),ws.length=us.length->IntsAre ws is->Q (ws.map ae) { s with heap:=h' })->wpAny zf A (us.mapM firstOfTuple') Q E { s with heap:=h' }:=by
   intro us;induction us with
   |nil=>intro _ Q E k;rw[List.mapM_nil];show ax<|k [] [] zj .nil
   |cons u us ih=>
     intro G Q E k;let#[ns,a,xs,n,l,rfl,#[o,e1,e3,c,e2],it,_,_]:=G u<|bO ..;rw[List.mapM_cons];refine ak<|?_;refine ak<|wK #[o,e1,e3] ?_;rw[if_neg zc];refine ak<|xc e1 e2<|ax ?_;cases it with
     |cons hv _=>
       let#[t,rfl]:=hv;show ak<|ih (λv m=>G v<|bD _ m) λws is e q=>ax<|k _ _ (by simp[e])<|.cons n t q
  rw[keyKind'_eq,Yl];refine ak<|?_;rw[<-bind_pure_comp];refine ak<|firsts vs H' λus is e k=>ax ?_;rw[if_pos zg];refine ak<|sR ?_;have e1:((us.map ae).toArray.filterMap id)=us.toArray:=by simp
  rw[e1,oneTypeOnly'_eq,Yl,mapM_typeOf_ints k];cases us with
  |nil=>show absurd (Io e.symm) ne
  |cons u us=>
    erw[map_pure,pure_bind];rw[show ((u::us).map λ_=>Value.type "int").toArray[0]?=ae (Value.type "int") by simp];dsimp only;rw[if_pos zg];show ak<|ax<|ax h
 .intro x y mx my Q E' q;rw[YK]at mx my;let#[ns,hx]:=H' _ (UE mx).2;let#[ms,hy]:=H' _ (UE my).2
  change Q (lexLt (((uK (rn L) h').keyOf x.1).getD [])<|((uK (rn L) h').keyOf y.1).getD []) _ at q
  rw[(oG (bX L) hx),(oG (bX L) hy)]at q;let#[a,ahp,n1,l1,e1,#[o1,x1,x2,c1,x3],i1,m1,rfl]:=hx;let#[b,EI,n2,l2,e2,#[o2,y1,y2,c2,y3],i2,m2,rfl]:=hy;have lk:=C _ m1 _ m2;rw[lm _ _ lk]at q;rw[e1,e2,BF];refine ak<|xc x1 x3<|ak<|xc y1 y3 ?_;refine ak<|Nr (vg hu hU) i1 i2 lk 0 (λ_ d r z=>by cases z;show#[n1,rfl]) λr hr=>?_;rcases hr with rfl|⟨rfl,e⟩
  .show ax q
  .refine ax ?_;rw[bZ,bZ,<-e];show q
end HT
namespace L2.DL
open HT (aO a7 eG lexLt)
noncomputable def KA:D->Option aO
 |.int i=>ae<|.i i
 |.str x=>ae<|.s x
 |_=>ah
noncomputable def km:aO->D
 |.i n=>.int n
 |.s x=>.str x
def sH:List D->Option (List aO)
 |[]=>ae []
 |d::l=>(KA d).bind λa=>(sH l).map λr=>a::r
def rowOf:D->Option (List aO)
 |.tup (.int i::l)=>(sH l).map λr=>.i i::r
 |_=>ah
def rowsOf:List D->Option (List<|List aO)
 |[]=>ae []
 |d::l=>(rowOf d).bind λa=>(rowsOf l).map λr=>a::r
def cU (l:List aO):D:=.tup<|l.map km
theorem Nt (e:KA d=ae a):d=km a:=by
 cases d with
 |int i=>cases e;rfl
 |str x=>cases e;rfl
 |_=>cases e
theorem Ak:∀ {l}{r},sH l=ae r->l=r.map km:=by
 intro l_;induction l_ with
 |nil=>(intro _ e;cases e;rfl)
 |cons d l aB=>
   intro r e;unfold sH at e;cases q:KA d with
   |none=>rw[q]at e;cases e
   |some a=>
     cases q2:sH l with
     |none=>rw[q,q2]at e;cases e
     |some t=>rw[q,q2]at e;cases e;rw[Nt q,aB q2];rfl
theorem Le (e:rowOf d=ae r):d=cU r /\ ∃ n l,r=.i n::l:=by
 unfold rowOf at e;split at e
 .ext i l;cases q:sH l with
  |none=>rw[q]at e;cases e
  |some t=>rw[q]at e;cases e;rw[Ak q];show#[rfl,i,t,rfl]
 .cases e
theorem Bd:∀ {l}{rs},rowsOf l=ae rs->l=rs.map cU /\ ∀ r∈rs,∃ n l,r=.i n::l:=by
 intro l_;induction l_ with
 |nil=>(intro _ e;cases e;show#[rfl,λr m=>nomatch m])
 |cons d l aB=>
   intro rs e;unfold rowsOf at e;cases q:rowOf d with
   |none=>rw[q]at e;cases e
   |some a=>
     cases q2:rowsOf l with
     |none=>rw[q,q2]at e;cases e
     |some t=>
       rw[q,q2]at e;cases e;let#[h1,h2]:=Le q;let#[h3,h4]:=aB q2;refine#[by rw[h1,h3];rfl,λr m=>?_];rcases a9.mp m with rfl|m
       .show h2
       .show h4 r m
def nS (rs:List<|List aO):List (List aO):=rs.mergeSort λa b=>!lexLt (a7 b) (a7 a)
theorem i0 (rs):(nS rs).Perm rs:=Yh rs _
theorem jd (rs):(nS rs).Pairwise (λa b=>lexLt (a7 b) (a7 a)=af):=(Yi (le:=λa b:List aO=>!lexLt _ (a7 a)) (λa b c h1 h2=>by
 cases e:lexLt _ (a7 a) with
 |false=>rfl
 |true=>
   rcases HT.Bb _ _ _ e with z|z
   .rw[z]at h2;cases h2
   .rw[z]at h1;cases h1) (λa b=>by
 rw[sV,kN,kN];cases e:lexLt _ (a7 a) with
 |false=>show .inl zj
 |true=>
   cases f:lexLt _ (a7 b) with
   |false=>show .inr zj
   |true=>have:=HT.jm _ _ _ e f;rw[HT.ir]at this;cases this) rs).imp λ{a b} z=>by simpa using z
theorem Am:∀ {a b:List Nat},¬ a<b->¬ b<a->a=b
 |[],[],_,_=>rfl
 |[],y::b,h,_=>absurd zg h
 |x::a,[],_,h=>absurd zg h
 | x::a,y::b,h,g=>by
   rw[List.cons_lt_cons_iff]at h g;have e:x=y:=by
    rcases Nat.lt_trichotomy x y with z|z|z
    .show absurd (.inl z) h
    .show z
    .show absurd (.inl z) g
   subst e;rw[Am (λz=>h<|.inr #[rfl,z]) λz=>g<|.inr #[rfl,z]]
theorem RG:∀ {a b:aO},a.like b=ag->a.lt b=af->b.lt a=af->a=b
 | .i n,.i m,_,h,g=>by
   have h':=of_decide_eq_false h;have g':=of_decide_eq_false g;rw[show n=m by lia]
 | .s x,.s y,_,h,g=>by
   have:=Am (of_decide_eq_false h)<|of_decide_eq_false g;let#[#[a]]:=x;let#[#[b]]:=y;have z':a=b:=this;rw[z']
theorem code_inj:∀ {l m},eG l m=ag->a7 l=a7 m->l=m
 |[],[],_,_=>rfl
 | [],b::m,_,e=>by
   have e':([0])=1::(b.code++a7 m):=by rw[show (1::(b.code++a7 m))=a7 (b::m) by simp[a7]];show e
   simp at e'
 | a::l,[],_,e=>by
   have e':1::(a.code++a7 l)=([0]):=by rw[show (1::(a.code++a7 l))=a7 (a::l) by simp[a7]];show e
   simp at e'
 | a::l,b::m,h,e=>by
   have h':(a.like b&&eG l m)=ag:=h;rw[aH]at h';have e':a.code++a7 l=b.code++a7 m:=by
    have:1::(a.code++a7 l)=1::(b.code++a7 m):=by rw[show (1::(a.code++a7 l))=a7 (a::l) by simp[a7],show (1::(b.code++a7 m))=a7 (b::m) by simp[a7]];show e
    show(List.cons.inj this).2
   have ab:a=b:=by
    by_cases c:a=b
    .show c
    .have x1:=HT.aO.app (a7 l) (a7 m) h'.1 c;have x2:=HT.aO.app (a7 m) (a7 l) ((λh=>by cases a<;>cases b<;>first|rfl|cases h) h'.1) λz=>c z.symm;rw[e',HT.ir]at x1;rw[<-e',HT.ir]at x2;show RG h'.1 x1.symm x2.symm
   subst ab;rw[code_inj h'.2<|List.append_cancel_left e']
theorem KC {α β:Type}{f}{l n:List β}(h:l.Perm n):∀ {m},n=m.map f->∃ m':List α,l=m'.map f /\ m'.Perm m:=by
 induction h with
 |nil=>intro m e;cases m with|nil=>show⟨[],rfl,.nil⟩|cons _ _=>cases e
 |cons x _ ih=>
   intro m e;cases m with
   |nil=>cases e
   |cons a m=>
     let#[e1,e2]:=List.cons.inj e;let#[m',q1,q2]:=ih e2;show#[a::m',by rw[aS,<-q1,e1],q2.cons a]
 |swap x y l=>
   intro m e;match m,e with
   |a::b::m,e=>
     let#[e1,e2]:=List.cons.inj e;let#[e2,e3]:=List.cons.inj e2;show#[b::a::m,by rw[aS,aS,<-e1,<-e2,<-e3],.swap ..]
 |trans _ _ aeO aeP=>
   intro m e;let#[m2,q1,q2]:=aeP e;let#[m1,q3,q4]:=aeO q1;show#[m1,q3,q4.trans q2]
def tW (rs:List<|List aO):Bool:=rs.all λa=>rs.all λb=>eG a b
theorem oa (hl:tW rs=ag) (p:a.Perm rs) (ha:a.Pairwise λa b=>lexLt (a7 b) (a7 a)=af):a=nS rs:=by
 refine(p.trans (i0 rs).symm).eq_of_pairwise (λx y mx my h1 h2=>code_inj ((λx mx y my=>cg.mp (cg.mp hl x mx) y my) x (p.mem_iff.mp mx) y<|(i0 rs).mem_iff.mp my)<|HT.iT _ _ h2 h1) ha (jd rs)

theorem DB (I:Inv X pins σ H s) (sub:Sub F H):∀ {l}{vs}{us},aG F (l.map km) vs->Vals vs us->HT.dQ s.heap us l:=by
 intro l_;induction l_ with
 |nil=>(intro _ _ h r;cases (h);cases r;show .nil)
 |cons a l aB=>
   intro _ _ h r;let#[v,t,rfl,h1,h2]:=h;cases r with
   | cons r1 r2=>show .cons ((λI sub h r=>by
     cases a with
     |i n=>cases (h);show r
     |s x=>cases (h);show r) I sub h1 r1)<|aB h2 r2
theorem Nu:∀ {rs}{vs},aG F (rs.map cU) vs->∃ ps:List (ai×List aO),vs=ps.map (λp=>V.ref p.1) /\ rs=ps.map (·.2) /\ ∀ p∈ps,Den F (cU p.2) (.ref p.1):=by
 intro l_;induction l_ with
 |nil=>(intro _ h;show#[[],h,rfl,λp m=>nomatch m])
 |cons r rs aB=>
   intro _ h;let#[v,t,rfl,h1,h2]:=h;let#[ps,e1,e2,e3]:=aB h2;let#[a,ws,rfl,h3,h4]:=id h1;refine#[(a,r)::ps,by rw[e1];rfl,by rw[e2];rfl,λp m=>?_];rcases a9.mp m with rfl|m
   .show h1
   .show e3 p m
theorem Lf:∀ {ps:List (ai×List aO)},(∀ p∈ps,Den F (cU p.2)<|.ref p.1)->aG F ((ps.map (·.2)).map cU) (ps.map λp=>V.ref p.1):=by
 intro l_;induction l_ with
 |nil=>show λ_=>rfl
 |cons p ps aB=>show λh=>.cons (h p<|bO ..)<|aB λq m=>h q<|bD _ m

def aaN (K:PySem.W.Frag) (vs:List V) (H:Hp) (Q:VK):zk:=∃ (F:Hp) (p:ai) (xs:List V) (rs:List _),vs=[.ref p] /\ Sub F H /\ (bQ K H p xs \/ cL K H p xs) /\ aG F (rs.map cU) xs /\ (∀ r∈rs,∃ n l,r=.i n::l) /\ rs.length<64 /\ tW rs=ag /\
 ∀ (q) (ys),H q=ah->aG F ((nS rs).map cU) ys->Q (.ref q) (upd H q<|.lst ys)
theorem DC (hu:X.A.units+100<cLine):pN X (.builtin "sorted") (aaN X.K):=by
 intro pins s σ H xs us Q I rv h;let#[F,p,vs,rs,rfl,sub,hp,hd,hf,dF,aaO,q]:=h;let#[u,rfl,ru]:=Vals.one rv;cases ru;have gt:∃ its,Vals vs its /\ ∀ (A) (E) {Q},vs.length<=sizeLine->Q its { s with heap:=(s.heap.push<|seqObj "list" #[] 0).update s.heap.objs.size (Obj.mapSeq (·++its.toArray)) }->wpAny zd A (collect<|.ref p) Q E s:=by
  rcases hp with hp|hp
  .let#[its,r1,p1,z1]:=I.list hp;show#[its,r1,λA E Q z h=>collect_list (hsz:=by have:=r1.length;simp;lia) p1.isList h]
  .let#[its,r1,p1,z1]:=I.tuple hp;show#[its,r1,λA E Q z=>HT.m7 p1 (by rw[<-r1.length];show z)]
 let#[its,r1,p1]:=gt;let#[ps,e1,e2,e3]:=Nu hd;subst e1;have ei:its=ps.map λp=>Value.ref p.1:=by
  have:=Cy (by rw[cx];show r1);rw[this,cx];rfl
 subst ei;have row:∀ p∈ps,HT.rn rs s.heap (.ref p.1) (a7 p.2):=λp m=>by
  have mr:p.2∈rs:=by rw[e2];show bc.mpr #[p,m,rfl]
  let#[n,l,el]:=hf _ mr;let#[b,ws,eb,h3,h4]:=(e3 p m);cases eb;let#[us,r',pl,_]:=I.tuple<|.of<|sub _ _ h3;rw[el]at h4 mr;show#[p.1,us,n,l,rfl,pl,DB I sub h4 r',mr,by rw[el]]
 have HH:∀ v∈ps.map (λp=>Value.ref p.1),∃ ns,HT.rn rs s.heap v ns:=λv m=>by
  let#[r,mr,rfl]:=bc.mp m;show#[_,row r mr]
 have ln:ps.length=rs.length:=by rw[e2,aX]
 refine HT.GP (HT.bX rs) (λA Q=>p1 A _ (by rw[aX,ln];show cw (kM dF) zc)) HH (aA _) (λne=>HT.Bc (λx mx y my=>cg.mp (cg.mp aaO x mx) y my) zb HH ne) (by rw[aX,ln];show dF) λout o1 o2=>?_;let#[uM,q1,q2]:=KC o1 zj;let#[k,he]:=YH s.heap (ps.map λp=>Value.ref p.1) out;have ord:(uM.map (·.2)).Pairwise (λa b=>lexLt (a7 b) (a7 a)=af):=by
  unfold HT.uL at o2;rw[q1,uj]at o2;rw[uj];show Zm (λ{a b} ma mb r=>r _ _ (row a<|q2.mem_iff.mp ma)<|row b<|q2.mem_iff.mp mb) o2
 have ll:(uM.map λp=>V.ref p.1).length<=sizeLine:=by
  rw[aX,q2.length_eq,ln];show cw (kM dF) zc
 refine#[.ref<|s.heap.objs.size+1,_,I.laid (λb ob q=>YI q) (sU _) ?_,rfl,q _ _ (I.ay.fresh<|sU _) (by rw[<-(oa aaO (by rw[e2];show q2.map _) ord)];show Lf λp m=>e3 p<|q2.mem_iff.mp m)];refine#[ll,out.toList,k,?_,he];rw[q1];have:∀ l:List (ai×List aO),Vals (l.map λp=>V.ref p.1) (l.map λp=>Value.ref p.1):=λl=>by
  induction l with
  |nil=>show .nil
  |cons a l ih=>show .cons zj ih
 show this uM
def dG:List D->Option Res:=λxs=>match tO xs with
 |some r=>ae r
 | none=>match xs with
   |[.lst l]=>(rowsOf l).bind λrs=>if rs.length<64 /\ tW rs=ag then ae (.lst<|(nS rs).map cU) else ah
   |[.tup l]=>(rowsOf l).bind λrs=>if rs.length<64 /\ tW rs=ag then ae (.lst<|(nS rs).map cU) else ah
   |_=>ah
theorem DD (hu:X.A.units+100<cLine):pN X (.builtin "sorted") (λvs H Q=>VT X.K vs H Q \/ aaN X.K vs H Q):=λpins s σ H xs us Q I rv h=>h.elim (GF pins s σ H xs us Q I rv)<|DC hu pins s σ H xs us Q I rv
end L2.DL
namespace L2

theorem Fp
 (hc:X.calm=ag) (S:tH X N src scope) (hi:PI X tg iter wi)
 (hg:∀ cl s H C fp,PG (X.comp N scope cl s H C fp) tg g) (hf:∀ cl s H C fp,PF (X.comp N scope cl s H C fp) ifs tf) (he:∀ cl s H C fp,PE (X.comp N scope cl s H C fp) elt te)
 (hN:X.N.Nodup) (nT:X.N[ii]?=ae x) (hx:Loc X.env.scope x) (E5:swapsWith (.ListComp elt [#[tg,iter,ifs,0]] scope pos) (ae<|.Name x pos') E6.line X.env=pure ag)
 (E7:X.fn x=ag \/ X.env.scope.names.lookup x=ae .local)
 (hs:∀ x,foldedSetIterable iter X.env x=pure x:=by intro _;rfl):PS X (.Assign [.Name x pos'] (.ListComp elt [#[tg,iter,ifs,0]] scope pos) E6) (U9 (Kh src wi g tf te)<|U8 ii):=by
 intro pins s σ H Dn I h;rw[exec_Assign_Name_used _ _ _ _ E5];refine ak<|HU<|ak ?_
 change wpAny _ X.A _ _ _ s
 refine ak<|eX (Xq zj hs (Aa<|S.cells I.ok) S.kind S.names<|bP (hi pins s σ H _ I h) λxv s1 h1=>bP h1 λIQ s2 h2=>?_) (λ_ s' hq=>ax<|ax hq) λ_ _ q=>q;let#[it,fp,tn,J,H2,e,I2,T,vF,f2,hW]:=h2;subst e;refine qg ?_;generalize hD:s2.heap.objs.size=D;have I3:Inv X pins σ (upd H2 D<|.lst []) { s2 with heap:=s2.heap.push { cls:=.type "list",dict:=ah,data:=.seq ([]).toArray } }:=by
  subst hD;show I2.laid (λb u e=>aR _ e) (aA _) #[di _,[],0,.nil,bC _ zj]
 let#[W,#[m0,w0],turn]:=hW D<|I2.ay.fresh<|ve hD;have up:∀ b o,s2.heap.get? b=ae o->(s2.heap.push { cls:=.type "list",dict:=ah,data:=.seq ([]).toArray }).get? b=ae o:=λb u e=>aR _ e;have uu:=T.keep _ _ _ vF λb _ o e=>up b o e;have Em:∀ b∈fp,b<s2.heap.objs.size:=λb hb=>by let#[o,e,_]:=(T.obj _ _ vF) b hb;show ba e
 have f3:∀ b∈fp,n9 X pins (upd H2 D<|.lst []) b:=λb hb=>#[by rw[fv (by rw[<-hD];show bN (Em b hb))];show(f2 b hb).1,(f2 b hb).2];generalize Vu:({ s2 with heap:=s2.heap.push { cls:=.type "list",dict:=ah,data:=.seq ([]).toArray } })=s3 at I3 ⊢;have En:s3.heap=s2.heap.push { cls:=.type "list",dict:=ah,data:=.seq ([]).toArray }:=by rw[<-Vu]
 rw[<-En]at uu;have Vv:∀ b∈fp,b<s3.heap.objs.size:=λb hb=>by rw[En,qB];show vi<|Em b hb
 generalize adB:upd H2 D (.lst [])=H3 at I3 f3 w0;refine Ac ?_;generalize Eo:pushCells (s3.heap.push { cls:=.type "dict",data:=.dict #[] }) scope.names=h₁;have k1:∀ b o,s3.heap.get? b=ae o->h₁.get? b=ae o:=λb o e=>by rw[<-Eo];show HY _ _ b o<|aR _ e
 have IY:=Ck S I3 (λb hb=>#[f3 b hb,Vv b hb]) (by rw[Eo]);have Ep:=T.keep _ _ _ uu λb _ o e=>k1 b o e;generalize xG:cellsFrom (s3.heap.objs.size+1) scope.names (eA X.env.cells scope.names [])=cl at IY ⊢;generalize hC:s3.heap.objs.size=C at IY ⊢;have vL:∀ {H'},(∀ b∈fp,H' b=ah)->∀ b∈fp,n9 (X.comp N scope cl s3 H3 C fp) [] H' b:=λhn b hb=>by
  refine#[hn b hb,((IY.ok.vC b hb).1),(IY.ok.vD b hb),.inl hb,?_,λp hp=>absurd (hp) zg]
  .intro x c e z;show(IY.ok.vC b hb).2 x c e z
 have fin:∀ (σ') (H') (s':aI),Inv (X.comp N scope cl s3 H3 C fp) [] σ' H' s'->∀ h',Heap.SameBut C s'.heap h'->Inv X pins σ H' { s' with heap:=h' }:=λσ' H' s' I' h' vM=>by
  have Er:H' C=ah:=I'.free;have kp:∀ b o,b≠C->s'.heap.get? b=ae o->h'.get? b=ae o:=λb o hb e=>vM.extBut b o hb e;have Vw:s3.heap.get? C=ah:=by rw[<-hC];show QL<|aA _
  have qp:∀ b o,s3.heap.get? b=ae o->b≠C:=λb o e z=>by rw[z,Vw]at e;cases e
  have U:=I'.base;refine I3.U6 I'.os #[λb o e n hb hx=>kp b o (qp b o e)<|U.keep b o e n hb hx,λb o e n hb hx=>?_,U.free,λb o e hx=>?_,U.kA,U.kP,U.nJ] ?_ I'.bare λb hb=>(#[(f3 b hb).2.2.2.1,(f3 b hb).2.1,λx c e=>(f3 b hb).2.2.2.2.1 x c e,(f3 b hb).2.2.2.2.2])
  .let#[sl,e1]:=U.slot b o e n hb hx;show#[sl,kp b _ (qp b o e) e1]
  .let#[o',e1]:=U.there b o e hx;show#[o',kp b o' (qp b o e) e1]
  .intro b ob e;refine(I'.ay b ob e).eK (λc w' dH q=>kp c w' (λz=>?_) q) (λ_ q=>q) λ_ _ q=>q;rcases dH with z1|z1
   .rw[<-z1,z,Er]at e;cases e
   .rw[z,Er]at z1;cases z1
 have loop:∀ s4:aI,s4={ s3 with heap:=h₁ } ->
  codeAny zd X.A (.compLoop (.ListComp elt [#[tg,iter,ifs,0]] scope pos) 0 (.ref it) (.ref D)<|compEnvC scope cl C X.env) (compPost zd X.A X.xe (ae<|assign (.Name x pos') X.env) (λ_ s'=>SP X pins Dn .next s') (.ref D) C) s4:=by
  rintro s4 rfl;refine lX (λn s'=>∃ i σ' H',Inv (X.comp N scope cl s3 H3 C fp) [] σ' H' s' /\ tn i s'.heap /\ (∀ b∈fp,H' b=ah) /\ W i n σ' H') _ (λ_ _ _ q=>q) ?_ m0 #[0,_,H3,IY,Ep,λb hb=>(f3 b hb).1,w0];rintro n s5 ⟨i,σ5,H5,I5,tj,vG,w5⟩;have kh:∀ {α:Type}{t:Sem α}{Q1:α->aI->zk}{E1:au->aI->zk}{ss:aI},wpAny zd X.A t Q1 (λ_ _=>False) ss->wpAny zd X.A t Q1 E1 ss:=λhw=>eX hw (λ_ _ q=>q) λ_ _ z=>False.elim z;rcases turn i n σ5 H5 w5 with⟨stop,q5⟩|⟨go,NN,hN,step⟩
  .refine kh<|bP (T.done (X.comp N scope cl s3 H3 C fp) zj zj zj hc i [] s5 σ5 H5 (λ_ _=>False) I5 (vL vG) tj stop) ?_;rintro r s6 ⟨hr,I6⟩;subst hr;let#[m6,Vx,_]:=I6.loc
   change wpAny _ X.A (assign (.Name x pos') X.env<|.ref D) _ _ s6
   refine Xd<|AV (v:=.ref D) (fin σ5 H5 s6 I6 s6.heap<|Heap.SameBut.refl ..) hN nT hx zj (λs7 I7 ⟨a,sb,ha⟩=>?_) E7;refine#[m6,Vx.sameBut sb (λz=>by
    rcases ha with w1|w1
    .have l1:X.env.locals<s3.heap.objs.size:=I3.lt;rw[<-w1,<-z,<-hC]at l1;show eZ _ l1
    .let#[v1,o1,w2,_]:=I3.cell x a w1;have l1:=ba w2;rw[<-z,<-hC]at l1;show eZ _ l1),λh' vM=>?_]
   refine#[σ.set ii<|ae<|.ref D,H5,?_,q5];refine I7.turned (λb o hb e=>vM.extBut b o hb e) I6.free (Ne.symm (λz=>by have l1:=I3.lt;rw[z,<-hC]at l1;show eZ _ l1)) (.inr ?_) (λy c e z=>?_) λp hp z=>?_
   .rw[<-hC];show I3.sz
   .let#[v1,o1,w2,_]:=I3.cell y c e;have l1:=ba w2;rw[z,<-hC]at l1;show eZ _ l1
   .have l1:=ba (I3.pin p hp).1;rw[z,<-hC]at l1;show eZ _ l1
  .refine kh<|bP (T.item (X.comp N scope cl s3 H3 C fp) zj zj zj hc i [] s5 σ5 H5 (λ_ _=>False) I5 (vL vG) tj go) ?_;rintro r s6 ⟨u,hr,h6⟩;subst hr;refine kh<|bP h6 ?_;rintro _ s7 ⟨x,H7,I7,r7,y7,vN,Vy⟩;refine kh<|bP (hg cl s3 H3 C fp _ s7 σ5 H7 x u _ (I7.pinned (vL Vy)<|T.obj _ _ vN) r7<|step x H7 y7) ?_;rintro _ s8 ⟨σ8,H8,I8,q8⟩;refine kh<|xq (hf cl s3 H3 C fp _ s8 σ8 H8 _ I8 q8) λb s9 H9 I9 q9=>?_;have again:∀ {σ9:St}{HA:Hp}{sA:aI},Inv (X.comp N scope cl s3 H3 C fp) ([]++xu fp s7.heap) σ9 HA sA->NN σ9 HA->∃ m,m<n /\ ∃ i σ' H',Inv (X.comp N scope cl s3 H3 C fp) [] σ' H' sA /\ tn i sA.heap /\ (∀ b∈fp,H' b=ah) /\ W i m σ' H':=λ{σ9 HA sA} IA nA=>by
    let#[m',hm,wA]:=hN σ9 HA nA;refine#[m',hm,i+1,σ9,HA,IA.Eg,T.keep _ _ _ vN λb hb o e=>(IA.pin (b,o)<|k9 _<|k9 _<|ip hb e).1,λb hb=>?_,wA];let#[o,e,d]:=T.obj _ _ vN b hb;show(IA.pin (b,o)<|k9 _<|k9 _<|ip hb e).2.1
   cases b with
   |false=>
     rw[if_neg zc]at q9;rw[if_neg zc];show again I9 q9
   |true=>
     rw[if_pos rfl]at q9;rw[if_pos rfl];refine kh<|aV (he cl s3 H3 C fp _ s9 σ8 H9 _ I9 q9) λyv sA y HA IA rA hh=>?_;let#[ys,Vz,VA,nA]:=hh;refine kh<|bP (lg _ sA σ8 HA (.ref D) [y] (.ref D) [yv] (λ_ HB=>NN σ8 HB) IA zj (.cons rA .nil) #[D,ys,y,rfl,rfl,Vz,VA,nA]) λr sB hB=>?_;let#[_,HB,IB,_,nB]:=hB;show again IB nB
 show Xr (loop _ zj)<|T.self _ 0 _ _ _ Ep<|loop _ zj
end L2
namespace L2.DL

theorem Lg (i) (bo) (hc:X.calm=ag) (S:tH X N src scope) (hi:xS X T Z tg iter mi)
 (hg:∀ T cl s H C fp,qV (X.comp N scope cl s H C fp) T tg g) (hf:∀ T cl s H C fp,PF (X.comp N scope cl s H C fp) ifs<|vP T #[E0,Z.cl] tf) (he:∀ T cl s H C fp,PD (X.comp N scope cl s H C fp) T #[E0,Z.cl] elt te)
 (hN:X.N.Nodup) (nT:X.N[i]?=ae x:=by rfl) (hx:Loc X.env.scope x:=by first|show Or.inl zj|show Or.inr zj) (E5:swapsWith (.ListComp elt [#[tg,iter,ifs,0]] scope pos) (ae<|.Name x pos') E6.line X.env=pure ag:=by rfl)
 (E7:X.fn x=ag \/ X.env.scope.names.lookup x=ae .local:=by first|show .inl zj|show .inr zj|assumption)
 (hs:∀ x,foldedSetIterable iter X.env x=pure x:=by intro _;rfl):eB X T Z (.Assign [.Name x pos'] (.ListComp elt [#[tg,iter,ifs,0]] scope pos) E6) (fO (gc bo src mi g tf te)<|ff i):=by
 refine PS.imp (Fp (g:=EF g) (tf:=EG _ tf) (te:=EH _ te) hc S hi (λcl s H C fp pins s' σ' H' v u Q I rv ⟨T,q⟩=>hg T cl s H C fp pins s' σ' H' v u Q I rv q)
  (λcl s H C fp pins s' σ' H' Q I ⟨T,q⟩=>hf T cl s H C fp pins s' σ' H' Q I q) (λcl s H C fp pins s' σ' H' Q I ⟨T,q⟩=>he T cl s H C fp pins s' σ' H' Q I q) hN nT hx E5 E7 hs) λD σ H=>bg λF r env bx R h=>(JX #[F,r,env,bx,R,End.bp h λw bx1 F1 r1 v H1 g1 R1 d1 h1=>h1 F1 r1 _ H1 (.refl F1 r1)<|R1.set d1 i])
noncomputable def cJ:aD->Bool
 |.Starred _ _=>af
 |_=>ag
def eV:List aD->Bool
 |[]=>ag
 |e::es=>cJ e&&eV es
theorem fH (h:cJ e=ag) (es) (env):starEach (e::es) env=(af,eval e env)::starEach es env:=by
 cases e<;>first|rfl|cases h
theorem gZ:∀ {es},eV es=ag->(backTo pos<|starEach es env).any (·.1)=af:=by
 intro l_;induction l_ with
 |nil=>show λ_=>rfl
 |cons e es aB=>
   intro h;have h':(cJ e&&eV es)=ag:=h;rw[aH]at h';rw[fH h'.1];change (af||(backTo pos _).any _)=af;rw[aB h'.2];rfl
theorem gC (h:eV (e::es)=ag):cJ e=ag /\ eV es=ag:=by
 have h':(cJ e&&eV es)=ag:=h
 rwa [aH]at h'
theorem j0 (h:cJ e=ag) (es) (env):assignEach (e::es) env=(af,assign e env)::assignEach es env:=by
 cases e<;>first|rfl|cases h
theorem An:∀ {es},eV es=ag->(assignEach es env).length=es.length /\ (assignEach es env).findIdx? (·.1)=ah:=by
 intro l_;induction l_ with
 |nil=>show λ_=>#[rfl,rfl]
 |cons e es aB=>
   intro h;let#[h1,h2]:=gC h;let#[a,b]:=aB h2;rw[j0 h1];show#[by rw[a6,a6,a],by rw[List.findIdx?_cons,b];rfl]

theorem l9 (ha:PD X T Z e ma) (hr:pj X T Z es m) (hn:cJ e=ag:=by rfl):pj X T Z (e::es) (fc ma m):=(λha hr hs=>PA.imp (fA ha hr hs) λσ H Q ⟨F,r,env,bx,R,h⟩=>(#[F,r,env,bx,R,End.bind h λw bx1 F1 r1 v H1 g1 R1 d1 h1=>(#[F1,r1,env,bx1,R1,End.bind h1 λl aq F2 r2 vs H2 g2 R2 d2 h2=>(h2 F2 r2 _ H2 (.refl F2 r2) R2 #[v,vs,rfl,g2.den d1,d2])])])) ha hr<|fH hn es X.env
theorem Tc {id} (bo) (hc:pN X (.builtin id) q) (hk:qT q g) (hg:Gl X x) (hm:X.mg x=ah) (hv:bootBuiltins x=ae (.builtin id)) (ha:pj X T Z (e::es) m)
 (cD:eV (e::es)=ag:=by rfl) (hn:x ≠ "__name__":=by decide) (cM:(x==("__debug__"))=af:=by decide):PD X T Z (.Call (.Name x p) (e::es) [] pos) (dN bo g m):=
 (λbo hc hk hg hm hv ha hn cM he dX=>PE.imp (fV hc hg hm hv ha hn cM he dX)<|JT hk) bo hc hk hg hm hv ha hn cM (fH (gC cD).1 es X.env) (gZ (gC cD).2)
theorem RH {id} (bo) (hc:pN X (.type id) q) (hk:qT q g) (hg:Gl X x) (hm:X.mg x=ah) (hv:bootBuiltins x=ae (.type id)) (ha:pj X T Z (e::es) m)
 (cD:eV (e::es)=ag:=by rfl) (hn:x ≠ "__name__":=by decide) (cM:(x==("__debug__"))=af:=by decide):PD X T Z (.Call (.Name x p) (e::es) [] pos) (dN bo g m):=
 (λbo hc hk hg hm hv ha hn cM he dX=>PE.imp (Gu hc hg hm hv ha hn cM he dX)<|JT hk) bo hc hk hg hm hv ha hn cM (fH (gC cD).1 es X.env) (gZ (gC cD).2)
theorem Td (h:rm X.prog X.w X.K X.mg X.base Z.cl k x ps fn) (hr:bI k' X.A) (hk:k<=k') (hg:Gl X x) (hx:Passes (dq X.prog X.w) X Z.E) (ha:pj X T Z (e::es) m)
 (cD:eV (e::es)=ag:=by rfl) (hn:ps.length=nn:=by rfl) (cM:(x==("__debug__"))=af:=by decide):PD X T Z (.Call (.Name x p) (e::es) [] pos) (fq fn nn m):=
 RF h hr hk hg hx ha cM (fH (gC cD).1 es X.env) (gZ (gC cD).2) hn
open PySem.W
noncomputable def E8:List Str:=["NoHouse","NoOuts","NoRoom","NoHour","NoPages","NoLot","NoAsks","NoNumber","NoMoves","NoEach","NoOrder","NoPage","NoOut","Twice","Missing","TooMany","NoDeed"]
noncomputable def rq:List Str:=["house","outs","room","hour","pages","lot","asks","number","moves","each","order","page","out","twice","missing","many","deed"]
def wordOf (i:Nat):Str:=rq.getD i ""
structure kU (K:Frag) (mg:Str->Option au) (R:ai) (c:Nat->ai):zk where
 m:∀ i x,E8[i]?=ae x->mg x=ae (.ref<|c i)
 mR:mg "RimeError"=ae (.ref R)
 inst:mg "isinstance"=ah
 aeQ:mg "ValueError"=ah
 ex:∀ i,i<17->excIn K (c i) VD "ValueError.__new__"=ag
 ek:∀ i,i<17->xH K (c i)
 kt:∀ i j,i<17->j<17->kitOne K (.ref<|c i) (.ref<|c j)=ae (decide (i=j))
 kv:∀ i,i<17->kitOne K (.ref<|c i) (.type "ValueError")=ae ag
 kr:∀ i,i<17->kitCls K (.ref<|c i) (.ref R)=ae ag
 rb:mroIn K R (.type "BaseException")=ae ag
def aaP (c:Nat->ai):Sp:=λvs H Q _=>∃ (a:ai) (i:Nat),vs=[.ref a] /\ i<17 /\ H a=ae (.ext (kE a<|c i)) /\ ∀ H',eP H H'->Q (.str<|wordOf i) H'
def E9 (P:cT) (w:cj) (K:Frag) (mg:Str->Option au) (base:aK) (cl:Nat->ai):zk:=
 ∃ (f:ai) (fd:FuncData),Ew P w K mg base qN 1 f fd ["_law_e"] (aaP cl) /\ mg "_law_word"=ae (.ref f) /\ keepIn K (.ref f)=ag /\ Binds K fd ["_law_e"] []
section
variable {st:bK}
def sI (c:Nat) (m:DE W):aE:=λenv bx=>bp (m env bx) λ_ bx1=>.exc c bx1
theorem GQ (c) (E:kU X.K X.mg R Z.cl) (hc:X.calm=ag) (l:uD X Z.E) (hg:Gl X x) (hx:E8[c]?=ae x) (he:PD X T Z e ma) (hi:c<17:=by decide) (cD:eV [e]=ag:=by rfl) (hd:(x==("__debug__"))=af:=by decide) :
 eB X T Z (.Raise (ae<|.Call (.Name x np) [e] [] dI) ah pos) (sI c ma):=
 PS.imp (JO hc l hg (E.m c x hx) (E.ex c hi) he (fH (gC cD).1 [] X.env) hd) λD σ H=>bg λF r env bx Rr h=>
  #[F,r,env,bx,Rr,End.bp h λw bx1 F1 r1 v H1 g1 R1 d1 h1=>#[rfl,h1 F1 r1 H1 (.refl F1 r1) R1.drop]]
noncomputable def cZ:aE:=λ_ _=>.bad
theorem fK:eB X T Z st cZ:=λ_ _ _ _ _ _ h=>by
 let#[_,_,_,_,_,h]:=h;show h.elim
theorem Rel.same (Rr:Rel T F r [] H [] bx) (s:eP H H2):Rel T F r [] H2 [] bx:=
 #[λa u h=>s _ _<|Rr.fh a u h,λi w e=>by simp at e,Rr.len,Rr.nd,λn c a e1 e2=>by
  have:=Rr.box n c a e1 e2;cases c with
  |lst l=>let#[h1,vs,h2,h3]:=this;show#[h1,vs,s _ _ h2,h3]
  |az l=>let#[h1,vs,h2,h3]:=this;show#[h1,vs,s _ _ h2,h3]
  |dT l=>let#[h1,vs,h2,h3]:=this;show#[h1,vs,s _ _ h2,h3]
  |fD l=>let#[o,vs,h1,h2,h3]:=this;show#[o,vs,h1,s _ _ h2,h3]
  |ins C l=>let#[h1,dx,vs,h2,h3]:=this;show#[h1,dx,vs,s _ _ h2,h3]
  |dead=>let#[u,h2]:=this;show#[u,s _ _ h2],λa u h hn=>s _ _<|Rr.keep a u h hn,Rr.new,Rr.n0,aA _,Rr.fs]
def sJ (m:aE):aE:=λenv bx=>match m env bx with
 |.exc c bx1=>if c<17 then .rt (.d<|.str<|wordOf c) bx1 else .bad
 |o=>o
theorem Nv (i:Nat) (E:kU X.K X.mg R Z.cl) (W:E9 X.prog X.w X.K X.mg X.base Z.cl) (hr:bI k' X.A) (qO:1<=k') (n8:X.stack=X.env::X.outer) (nz:X.env.frame=ae L) (Kj:L=X.env.locals) (hg:Gl X "RimeError") (aeR:Gl X "_law_word")
 (hN:X.N.Nodup) (hi:X.N[i]?=ae n) (hn:X.env.kindOf n=ae .local) (hb:∀ pn E,xR (X.qP pn E) T #[E,Z.cl] body m)
 (hv:qH X.env.scope n:=by first|show Or.inl zj|show Or.inr (Or.inl zj)|show Or.inr (Or.inr zj)) (hd:(n==("__debug__"))=af:=by decide) (dn:(n==("__classdict__"))=af:=by decide) :
 eB X T Z (.Try body [.ExceptHandler (ae<|.Name "RimeError" rp) (ae n) [.Return (ae<|.Call (.Name "_law_word" np) [.Name n dI] [] ahq) p] Et] [] [] pos) (sJ m):=by
 intro pins s σ H D I ⟨F,r,env,bx,Rr,h⟩;let#[fW,ahr,gW,mW,kW,bW]:=W;refine Ri (E:=λCv _ H'=>∃ c bx' F' r',m env bx=.exc c bx' /\ Cv=.ref (Z.cl c) /\ bf F r F' r' /\ Rel T F' r' [] H' [] bx') n8 nz Kj hg E.mR E.rb hN hi hn (λpn=>hb pn _)
  (λpn ea=>lS<|Bq<|JP gW ((hr.mono qO).h.mark) aeR mW kW bW .nil adv<|fA (mF hi hv hd dn) fR zj) zc pins s σ H D I #[?_,?_]
 .refine#[F,r,env,bx,Rr,?_];unfold sJ at h;cases e:m env bx with
  |exc c bx1=>show λF' r' H' g R'=>#[c,bx1,F',r',rfl,rfl,g,R']
  |nx bb bx1=>rw[e]at h;show h
  |rt w bx1=>rw[e]at h;show h
  |bk bb bx1=>rw[e]at h;show h
  |ct bb bx1=>rw[e]at h;show h
  |bad=>rw[e]at h;show h
 .rintro σ' ea C H' hl ⟨c,bx1,F',r',e,eC,g,R'⟩ Kk;have aeS:=Value.ref.inj eC;subst aeS;unfold sJ at h;rw[e]at h;simp only at h;split at h
  .ext hc;show#[E.kr c hc,_,pI (by rw[hl];show(List.getElem?_eq_some_iff.mp hi).1),ea,c,rfl,hc,fu,λH2 s2=>(h F' r' (.str<|wordOf c) H2 g (R'.same λb o z=>s2 b o (by rw[fv<|fI z Kk];show z)) zj)]
  .show h.elim
end

noncomputable def V4 (N:List Str) (sc:kz) (i:Nat) (x:Str):Bool:=decide (N[i]?=ae x)&&(decide (sc.names.lookup x=ae .local)||decide (sc.names.lookup x=ae .cell)||decide (sc.names.lookup x=ae .free))&&!(x==("__debug__"))&&!(x==("__classdict__"))
noncomputable def ye:D->V
 |.non=>.non
 |.bl b=>.bl b
 |.int i=>.int i
 |.str x=>.str x
 |_=>.ty ""
noncomputable def kX:D->Bool
 |.non=>ag
 |.bl _=>ag
 |.int _=>ag
 |.str _=>ag
 |_=>af
def aeT (a b:D):Bool:=eu (ye a)<|ye b
theorem Ao (f:kX d=ag) (h:Den F d v):v=ye d /\ eO v=ag:=by
 cases d with
 |non=>cases (h);show#[rfl,rfl]
 |bl b=>cases (h);show#[rfl,rfl]
 |int i=>cases (h);show#[rfl,rfl]
 |str x=>cases (h);show#[rfl,rfl]
 |_=>cases f
theorem Be:∀ {l}{vs},l.all kX=ag->aG F l vs->vs=l.map ye /\ vs.all eO=ag:=by
 intro l_;induction l_ with
 |nil=>(intro _ _ h;cases (h);show#[rfl,rfl])
 |cons d l aB=>
   intro _ f h;let#[v,r,e,h1,h2]:=h;subst e;rw[nG,aH]at f;let#[e1,f1]:=Ao f.1 h1;let#[e2,f2]:=aB f.2 h2;subst e1;subst e2;show#[rfl,by rw[nG,f1,f2];rfl]
def nF (x:D) (l:List D):Bool:=l.any λy=>aeT y x
theorem Fq (x) (l):Kb (ye x) (l.map ye)=nF x l:=by
 unfold Kb nF;rw[QS];rfl
def KD (neg:Bool):D->D->Option Res:=λx y=>match y with
 |.lst l=>if kX x=ag /\ l.all kX=ag then ae (.old<|.bl (if neg then !nF x l else nF x l)) else ah
 |.tup l=>if kX x=ag /\ l.all kX=ag then ae (.old<|.bl (if neg then !nF x l else nF x l)) else ah
 |_=>ah
theorem aaQ {K} (neg):nD (Kc K neg) (KD neg):=by
 intro F H x y v w Q s sub hx hy e k;unfold KD at e;have fx:∀ {d},kX d=ag->nO F H d v->Den F d v:=λ{d} f h=>by
  cases d with
  |non=>show h
  |bl b=>show h
  |int i=>show h
  |str z=>show h
  |_=>cases f
 cases y with
 |lst l=>
   simp only at e;split at e
   .ext f;cases e;let#[a,vs,rfl,h1,h2]:=hy;let#[e1,f1]:=Ao f.1<|fx f.1 hx;let#[e2,f2]:=Be f.2 h2;subst e1;subst e2;refine#[a,_,rfl,.inl<|bQ.of h1,f1,f2,?_];rw[Fq];show k _ _ #[rfl,rfl]
   .cases e
 |tup l=>
   simp only at e;split at e
   .ext f;cases e;let#[a,vs,rfl,h1,h2]:=hy;let#[e1,f1]:=Ao f.1<|fx f.1 hx;let#[e2,f2]:=Be f.2 h2;subst e1;subst e2;refine#[a,_,rfl,.inr<|cL.of<|sub _ _ h1,f1,f2,?_];rw[Fq];show k _ _ #[rfl,rfl]
   .cases e
 |_=>cases e
def aaR (neg:Bool):R2:=λx y H Q=>∃ F dx dy,Sub F H /\ nO F H dx x /\ nO F H dy y /\ dO dx=ag /\ dO dy=ag /\ ∃ l,(dy=.lst l \/ dy=.tup l) /\ Q (.bl (if neg then !(l.any λz=>eqv z dx) else l.any λz=>eqv z dx)) H
theorem lu (dx):∀ l,((br l).any λy=>PyData.eqv y<|toPy dx)=l.any λz=>eqv z dx:=by
 intro l_;induction l_ with
 |nil=>show rfl
 |cons z l aB=>
   change (PyData.eqv _ _||_)=_;rw[aB];rfl
def tX (neg:Bool) (x y:D) (l:List D):Option Res:=if dO x&&dO y then ae (.old<|.bl (if neg then !(l.any λz=>eqv z x) else l.any λz=>eqv z x)) else ah
def inD (neg:Bool):D->D->Option Res:=λx y=>match y with
 |.lst l=>if kX x=ag /\ l.all kX=ag then ae (.old<|.bl (if neg then !nF x l else nF x l)) else tX neg x y l
 |.tup l=>if kX x=ag /\ l.all kX=ag then ae (.old<|.bl (if neg then !nF x l else nF x l)) else tX neg x y l
 |_=>ah
theorem okIn {K} (neg):nD (λx y H Q=>Kc K neg x y H Q \/ aaR neg x y H Q) (inD neg):=by
 intro F H x y v w Q s sub hx hy e k;have g:∀ l,(y=.lst l \/ y=.tup l)->tX neg x y l=ae s->aaR neg v w H Q:=λl hl e=>by
  unfold tX at e;split at e
  .ext c;rw[aH]at c;cases e;show#[F,x,y,sub,hx,hy,c.1,c.2,l,hl,k _ _ #[rfl,rfl]]
  .cases e
 unfold inD at e;split at e
 .ext l;split at e
  .ext f;show .inl<|aaQ neg F H x _ v w Q s sub hx hy (by unfold KD;simp only;rw[if_pos f];show e) k
  .show .inr<|g l (.inl zj) e
 .ext l;split at e
  .ext f;show .inl<|aaQ neg F H x _ v w Q s sub hx hy (by unfold KD;simp only;rw[if_pos f];show e) k
  .show .inr<|g l (.inr zj) e
 .cases e
section
variable {X:Cx}
def yf (m k:DE W):DE W:=λenv bx=>fC (m env bx) λx bx1=>match x with
 | .b n=>(match bx1[n]? with
   | some (.lst _)=>fC (k env bx1) λy aq=>(match y,aq[n]? with
     | .d (.int i),ae (.lst l)=>if -(2 ^ 63)<=i /\ i<2 ^ 63 then (match cA l.length i with
       |some j=>(match l[j]? with|some d=>.val (.d d) (aq.set n<|.lst<|l.eraseIdx j)|none=>.bad)
       |none=>.bad) else .bad
     |_,_=>.bad)
   |_=>.bad)
 |_=>.bad
theorem Nw (h:tD T Z (yf ma mb) σ H Q):Vp X.K "list" ZU (tD T Z ma) (Vh (tD T Z mb) IW) σ H Q:=by
 let#[F,r,env,bx,R,h]:=h;refine#[F,r,env,bx,R,End.bind h λx bx1 F1 r1 v H1 g1 R1 d1 h1=>?_];cases x with
 |b n=>
   simp at h1;let#[a,rfl,ha]:=d1;let#[c,hc,kc]:=R1.kG ha;rw[hc]at h1;cases c with
   |lst l0=>
     let#[_,xV,k0,_]:=kc;refine#[.inl #[rfl,xV,bQ.of k0],F1,r1,env,bx1,R1,End.bind h1 λy aq F2 r2 u H2 g2 R2 d2 h2=>?_];let#[t,et]:=g2.p;have EK:r2[n]?=ae a:=by rw[<-et,cS (List.getElem?_eq_some_iff.mp ha).1];show ha
     let#[c2,pQ,vX]:=R2.kG EK;rw[pQ]at h2;split at h2
     .ext i l eq;cases eq;let#[hF,vs,k1,k2]:=vX;cases (d2);split at h2
      .ext hi;split at h2
       .ext j hj;split at h2
        .ext d hd;let#[y,hy,dy]:=k2.get hd;refine#[a,vs,i,j,y,rfl,rfl,k1,hi.1,hi.2,?_,hy,(h2 F2 r2 _ _ (.refl F2 r2) (R2.write EK hF #[hF,vs.eraseIdx j,fu,k2.eraseIdx j]) dy)]
         .rw[<-k2.length];show(Bs hj).1
        .show h2.elim
       .show h2.elim
      .show h2.elim
     .show h2.elim
   |_=>show h1.elim
 |_=>show h1.elim
noncomputable def qx:D->Option Key
 |.int i=>ae<|.inl i
 |.str x=>ae<|.inr x
 |_=>ah
theorem jw (e:qx d=ae k) (h:Den F d v):v=kV k:=by
 cases d with
 |int i=>cases e;show h
 |str x=>cases e;show h
 |_=>cases e
noncomputable def kH (l:List<|Key×D) (k:Key):Option D:=(l.find? λkv=>decide (kv.1=k)).map (·.2)
noncomputable def Ha (l:List<|Key×D) (k:Key) (d:D):List (Key×D):=
 if (l.any λkv=>decide (kv.1=k))=ag then l.map (λkv=>if kv.1=k then (kv.1,d) else kv) else l++[(k,d)]
theorem aL.some:∀ {l}{vs},aL F l vs->kH l k=ae d->∃ v,nE vs k=ae v /\ Den F d v
 |[],_,_,e=>by cases e
 | (k',d')::l,_,⟨v,r,e,h1,h2⟩,q=>by
   subst e;by_cases c:k'=k
   .simp[kH,yW,c,]at q;cases q;show#[v,l7 c,h1]
   .erw[kH,yW,c]at q;let#[u,e1,e2]:=aL.some h2 q;show#[u,(jU c).trans e1,e2]
theorem aL.none:∀ {l}{vs},aL F l vs->kH l k=ah->nE vs k=ah
 |[],_,h,_=>by cases (h);rfl
 | (k',d')::l,_,⟨v,r,e,h1,h2⟩,q=>by
   subst e;by_cases c:k'=k
   .erw[kH,yW,c,]at q;cases q
   .erw[kH,yW,c]at q;show(jU c).trans (aL.none h2 q)
theorem aL.any (k):∀ {l}{vs},aL F l vs->(l.any λkv=>decide (kv.1=k))=(vs.any λkv=>decide (kv.1=k))
 |[],_,h=>by cases (h);rfl
 |(k',d')::l,_,⟨v,r,e,h1,h2⟩=>by subst e;simp[vn,aL.any k h2]
theorem aL.map (hv:Den F d v):∀ {l}{vs},aL F l vs->aL F (l.map λkv=>if kv.1=k then (kv.1,d) else kv) (vs.map λkv=>if kv.1=k then (kv.1,v) else kv)
 |[],_,h=>by cases (h);show rfl
 | (k',d')::l,_,⟨u,r,e,h1,h2⟩=>by
   subst e;by_cases c:k'=k
   .simp[aS,c];show#[v,_,rfl,hv,aL.map hv h2]
   .simp[aS,c];show#[u,_,rfl,h1,aL.map hv h2]
theorem aL.app (hm:aL F m us):∀ {l}{vs},aL F l vs->aL F (l++m) (vs++us)
 |[],_,h=>by cases (h);show hm
 |(k',d')::l,_,⟨u,r,e,h1,h2⟩=>by subst e;show#[u,_,rfl,h1,aL.app hm h2]
theorem aL.put (h:aL F l vs) (hv:Den F d v):aL F (Ha l k d) (putK vs k v):=by
 unfold Ha putK;rw[aL.any k h];split
 .show aL.map hv h
 .show aL.app (show aL F [(k,d)] _ from#[v,[],rfl,hv,rfl]) h
noncomputable def p9 (bx:List Bx):W->Option (List<|Key×D)
 |.d (.az l)=>ae l
 |.b n=>(match bx[n]? with|some (.az l)=>ae l|some (.fD l)=>ae l|_=>ah)
 |_=>ah
theorem BG (R:Rel T F r σ H env bx) (d:bR F r w v) (e:p9 bx w=ae l):∃ a ao,v=.ref a /\ Rd H a (.dK ao) /\ aL F l ao:=by
 unfold p9 at e;split at e
 .cases e;let#[a,vs,rfl,h1,h2]:=d;show#[a,vs,rfl,.inl<|R.fh _ _ h1,h2]
 .let#[a,rfl,ha]:=d;let#[c,hc,kc]:=R.kG ha;rw[hc]at e;split at e
  .ext q;cases q;cases e;let#[_,vs,h1,h2]:=kc;show#[a,vs,rfl,.inl h1,h2]
  .ext q;cases q;cases e;let#[o,vs,_,h1,h2]:=kc;show#[a,vs,rfl,.inr #[o,h1],h2]
  .cases e
 .cases e
def kY (m k:DE W):DE W:=λenv bx=>fC (m env bx) λx bx1=>fC (k env bx1) λy aq=>match y,p9 aq x with
 |.d d,ae l=>(match (qx d).bind (kH l) with|some u=>.val (.d u) aq|none=>.bad)
 |_,_=>.bad
theorem RI (h:tD T Z (kY ma mb) σ H Q):aat (tD T Z ma) (tD T Z mb) σ H Q:=by
 let#[F,r,env,bx,R,h]:=h;refine#[F,r,env,bx,R,End.bind h λx bx1 F1 r1 v H1 g1 R1 d1 h1=>#[F1,r1,env,bx1,R1,End.bind h1 λy aq F2 r2 u H2 g2 R2 d2 h2=>?_]];split at h2
 .ext d l q;let#[a,ao,rfl,k1,k2]:=BG R2 (g2.den d1) q;split at h2
  .ext w hw;let#[k,e1,e2]:=Option.bind_eq_some_iff.mp hw;cases jw e1 d2;let#[z,e3,e4]:=aL.some k2 e2;show#[a,z,rfl,e3▸.inl #[_,k,k1,rfl,rfl],h2 F2 r2 _ H2 (.refl F2 r2) R2 e4]
  .show h2.elim
 .show h2.elim
def sL (neg:Bool) (k m:DE W):DE W:=λenv bx=>fC (k env bx) λy bx1=>fC (m env bx1) λx aq=>match y,p9 aq x with
 |.d d,ae l=>(match qx d with|some k=>.val (.d<|.bl (if neg then !(kH l k).isSome else (kH l k).isSome)) aq|none=>.bad)
 |_,_=>.bad
theorem Lh (h:aL F l vs) (k):(nE vs k).isSome=(kH l k).isSome:=by
 cases q:kH l k with
 |none=>rw[aL.none h q];rfl
 |some d=>let#[v,e,_]:=aL.some h q;rw[e];rfl
theorem Pd (h:tD T Z (sL af mb ma) σ H Q):aau (tD T Z mb) (tD T Z ma) σ H Q:=by
 let#[F,r,env,bx,R,h]:=h;refine#[F,r,env,bx,R,End.bind h λy bx1 F1 r1 u H1 g1 R1 d1 h1=>#[F1,r1,env,bx1,R1,End.bind h1 λx aq F2 r2 v H2 g2 R2 d2 h2=>?_]];split at h2
 .ext d l q;let#[a,ao,rfl,k1,k2]:=BG R2 d2 q;split at h2
  .ext k e1;cases jw e1 (g2.den d1);refine#[a,_,rfl,.inl #[_,k,k1,rfl,rfl],?_];rw[Lh k2];show h2 F2 r2 _ H2 (.refl F2 r2) R2 zj
  .show h2.elim
 .show h2.elim
theorem Li (h:tD T Z (sL ag mb ma) σ H Q):aav (tD T Z mb) (tD T Z ma) σ H Q:=by
 let#[F,r,env,bx,R,h]:=h;refine#[F,r,env,bx,R,End.bind h λy bx1 F1 r1 u H1 g1 R1 d1 h1=>#[F1,r1,env,bx1,R1,End.bind h1 λx aq F2 r2 v H2 g2 R2 d2 h2=>?_]];split at h2
 .ext d l q;let#[a,ao,rfl,k1,k2]:=BG R2 d2 q;split at h2
  .ext k e1;cases jw e1 (g2.den d1);refine#[a,_,rfl,.inl #[_,k,k1,rfl,rfl],?_];rw[Lh k2];show h2 F2 r2 _ H2 (.refl F2 r2) R2 zj
  .show h2.elim
 .show h2.elim
def wc (m k v:DE W):aE:=λenv bx=>bp (v env bx) λz bx1=>bp (m env bx1) λx aq=>bp (k env aq) λy cb=>match x,y,z with
 | .b n,.d d,.d u=>(match cb[n]?,qx d with
   |some (.az l),ae k=>if l.length<sizeLine then .nx env (cb.set n<|.az<|Ha l k u) else .bad
   |_,_=>.bad)
 |_,_,_=>.bad
theorem Te {D}(h:tS T Z (wc ma mb mc) D σ H):aaw (tD T Z ma) (tD T Z mb) (tD T Z mc) D σ H:=by
 let#[F,r,env,bx,R,h]:=h;refine#[F,r,env,bx,R,End.bp h λz bx1 F1 r1 t H1 g1 R1 d1 h1=>#[F1,r1,env,bx1,R1,End.bp h1 λx aq F2 r2 v H2 g2 R2 d2 h2=>#[F2,r2,env,aq,R2,End.bp h2 λy cb F3 r3 u H3 g3 R3 d3 h3=>?_]]];split at h3
 .let#[a,rfl,ha]:=(g3.den d2);let#[c,hc,kc]:=R3.kG ha;rw[hc]at h3;split at h3
  .ext l k e1 e2;cases e1;split at h3
   .ext hl;let#[hF,ao,k1,k2]:=kc;cases jw e2 d3;show#[a,_,rfl,.inl #[ao,k,k1,rfl,by rw[<-aL.length k2];show hl,rfl],h3 F3 r3 _ _ (.refl F3 r3)<|R3.write ha hF #[hF,_,fu,aL.put k2<|g3.den<|g2.den d1]]
   .show h3.elim
  .show h3.elim
 .show h3.elim
end

def yh (bo:Bool) (k:Int) (i:Nat):DE W:=λenv bx=>match env[i]? with
 |some (ae<|.d d)=>b9 bo (ae<|.az [(.inl k,d)]) bx
 |_=>.bad
theorem Nx (bo) (i) {k}(hv:V4 X.N X.env.scope i x=ag):PD X T Z (.Dict [ae<|.Constant (.int k) j1 q1] [.Name x ahs] pos) (yh bo k i):=by
 erw[V4,aH,sV,decide_eq_true_eq,kN]at hv;let#[#[#[h1,h2],h3],h4]:=hv;have h5:qH X.env.scope x:=by
  rcases h2 with(h2|h2)|h2
  .show .inl h2
  .show .inr<|.inl h2
  .show .inr<|.inr h2
 refine PE.imp (BE (jW jp (mF h1 h5 h3 h4) BD) zj zj (by simp) zg) λσ H Q=>bg λF r env bx R h=>?_;unfold yh at h;split at h
 .ext d he;let#[v,e1,e2]:=R.slot i _ he;intro p hp;refine#[v,e1,fu,[(.inl k,v)],rfl,by simp,?_];rw[Bp];show gQ R h #[p,[(.inl k,v)],rfl,hp,rfl,#[_,_,rfl,e2,rfl]]
 .show h.elim
theorem Lj (i j) (hc:X.calm=ag) (hN:X.N.Nodup) (ha:pj X T Z [a,b] ks) (hi:X.N[i]?=ae x:=by rfl) (hj:X.N[j]?=ae y:=by rfl)
 (hx:Loc X.env.scope x:=by first|show Or.inl zj|show Or.inr zj) (hy:Loc X.env.scope y:=by first|show Or.inl zj|show Or.inr zj)
 (aeU:X.fn x=ag \/ X.env.scope.names.lookup x=ae .local:=by first|show .inl zj|show .inr zj) (aeV:X.fn y=ag \/ X.env.scope.names.lookup y=ae .local:=by first|show .inl zj|show .inr zj)
 (hs:swapsWithSole [.Tuple [.Name x px,.Name y py] kt pt] (.Tuple [a,b] k2 ur) pos.line X.env=pure af:=by rfl)
 (hw:swappedStores [.Tuple [.Name x px,.Name y py] kt pt] (.Tuple [a,b] k2 ur) X.env=pure ah:=by rfl)
 (h0:(assignEach [.Tuple [.Name x px,.Name y py] kt pt] X.env).map (·.2)=[assign (.Tuple [.Name x px,.Name y py] kt pt) X.env]:=by rfl)
 (h1:(assignEach [.Name x px,.Name y py] X.env).map (·.2)=assign (.Name x px) X.env::(assignEach [.Name y py] X.env).map (·.2):=by rfl)
 (h2:(assignEach [.Name y py] X.env).map (·.2)=assign (.Name y py) X.env::(assignEach [] X.env).map (·.2):=by rfl)
 (hn:(assignEach [.Name x px,.Name y py] X.env).length=2:=by rfl) (n8:(assignEach [.Name x px,.Name y py] X.env).findIdx? (·.1)=ah:=by rfl) :
 eB X T Z (.Assign [.Tuple [.Name x px,.Name y py] kt pt] (.Tuple [a,b] k2 ur) pos) (dJ i j ks):=by
 refine PS.imp (Jq (Jy ha) (Jp hc (oV (Br hN hi hx aeU) (oV (Br hN hj hy aeV) D5 h2) h1) hn n8) hs hw h0) λD σ H=>bg λF r env bx R h=>?_;refine#[F,r,env,bx,R,End.bp h λws bx1 F1 r1 vs H1 g1 R1 d1 h1=>?_];split at h1
 .let#[v,t,rfl,q1,u,t2,rfl,q2,q3]:=d1;cases (q3);refine#[by change 2<=sizeLine;decide,λp hp=>?_];have gr:=R1.tL (o:=.tup [v,u]) hp;show#[p,[v,u],rfl,cL.of fu,rfl,v,[u],rfl,u,[],rfl,rfl,h1 _ r1 _ _ gr<|((R1.xO hp).set (gr.den q1) i).set (gr.den q2) j]
 .show h1.elim

def Hb (neg:Bool) (m:DE W):DE W:=λenv bx=>fC (m env bx) λx bx1=>match x with
 |.d d=>.val (.d<|.bl (match d with|.non=>!neg|_=>neg)) bx1
 |_=>.bad
theorem Ft (h:Den F d v):decide (v=.non)=(match d with|.non=>ag|_=>af):=by
 cases d with
 |non=>cases (h);rfl
 |bl b=>cases (h);rfl
 |int i=>cases (show v=.int i from h);rfl
 |str x=>cases (show v=.str x from h);rfl
 |tup l=>let#[a,vs,rfl,_]:=h;rfl
 |lst l=>let#[a,vs,rfl,_]:=h;rfl
 |az l=>let#[a,vs,rfl,_]:=h;rfl
noncomputable def uN (f:Str) (v:D ⊕ Nat):List (Str×(D ⊕ Nat))->List (Str×(D ⊕ Nat))
 |[]=>[(f,v)]
 |(g,x)::r=>if g=f then (g,v)::r else (g,x)::uN f v r
theorem cY.look (f):∀ {l}{vs},cY F r n l vs->(l.lookup f=ah /\ vs.lookup f=ah) \/ ∃ w v,l.lookup f=ae w /\ vs.lookup f=ae v /\ Ey F r n w v
 |[],_,h=>by cases (h);show .inl #[rfl,rfl]
 | (k,w)::l,_,⟨v,t,e,h1,h2⟩=>by
   subst e;rw[hG,hG];cases f==k with
   |true=>show .inr #[w,v,rfl,rfl,h1]
   |false=>show cY.look f h2
theorem cY.put (hw:Ey F r n w v):∀ {l}{vs},cY F r n l vs->cY F r n (uN f w l) (kC f v vs)
 |[],_,h=>by cases (h);show#[v,[],rfl,hw,rfl]
 | (k,u)::l,_,⟨z,t,e,h1,h2⟩=>by
   subst e;unfold uN kC;by_cases c:k=f
   .rw[if_pos c,if_pos c];show#[v,t,rfl,hw,h2]
   .rw[if_neg c,if_neg c];show#[z,_,rfl,h1,cY.put hw h2]
theorem cY.len:∀ {l}{vs},cY F r n l vs->vs.length=l.length
 |[],_,h=>by cases (h);rfl
 |(k,u)::l,_,⟨z,t,e,h1,h2⟩=>by subst e;rw[a6,a6,h2.len]
def dr (C:ai) (m:DE W) (f:Str):DE W:=λenv bx=>fC (m env bx) λx bx1=>match x with
 | .b n=>(match bx1[n]? with
   | some (.ins C' fs)=>if C'=C then (match fs.lookup f with
     |some (.inl d)=>.val (.d d) bx1
     |some (.inr j)=>.val (.b j) bx1
     |none=>.bad) else .bad
   |_=>.bad)
 |_=>.bad
def qb (C:ai) (m:DE W) (f:Str) (v:DE W):aE:=λenv bx=>bp (v env bx) λy bx1=>bp (m env bx1) λx aq=>match x,y with
 | .b n,.d d=>(match aq[n]? with
   |some (.ins C' fs)=>if C'=C /\ fs.length<1000 then .nx env (aq.set n<|.ins C<|uN f (.inl d) fs) else .bad
   |_=>.bad)
 |_,_=>.bad
def nU (C:ai) (fn:List W->List Bx->O W) (nm:Str) (n:Nat) (m:DE W) (k:DE<|List W):DE W:=λenv bx=>fC (m env bx) λx bx1=>match x with
 | .b j=>(match bx1[j]? with
   |some (.ins C' fs)=>if C'=C /\ (fs.lookup nm).isNone=ag then fC (k env bx1) λws aq=>if ws.length+1=n then fn (.b j::ws) aq else .bad else .bad
   |_=>.bad)
 |_=>.bad
section
variable {X:Cx}
theorem RJ (c:kD X.K C) (na:qK X.K C f) (h:PD X T Z e ma) (hb:attributeBase e f X.env (eval e X.env)=eval e X.env):PD X T Z (.Attribute e f pos) (dr C ma f):=by
 refine PE.imp (P6 h hb) λσ H Q=>bg λF r env bx R h=>#[F,r,env,bx,R,End.bind h λx bx1 F1 r1 v H1 g1 R1 d1 h1=>?_];split at h1
 case h_2=>show h1.elim
 let#[a,rfl,ha]:=d1;let#[b,hc,kc]:=R1.kG ha;rw[hc]at h1;split at h1
 case h_2=>show h1.elim
 ext C' fs e0;cases e0;let#[k0,dx,vs,k1,k2]:=kc;split at h1
 case isFalse=>show h1.elim
 ext hC;subst hC;rcases cY.look f k2 with⟨l1,l2⟩|⟨w,u,l1,l2,l3⟩
 .rw[l1]at h1;show h1.elim
 .rw[l1]at h1;refine#[a,C',dx,vs,u,rfl,k1,c,na,l2,?_];cases w with
  |inl d=>show h1 F1 r1 u H1 (.refl F1 r1) R1 l3
  |inr j=>let#[_,b,rfl,hj]:=l3;show h1 F1 r1 _ H1 (.refl F1 r1) R1 #[b,rfl,hj]
theorem Ny (c:kD X.K C) (na:qK X.K C f) (ho:PD X T Z o ma) (hv:PD X T Z value mb) (hs:swapsWith value (ae<|.Attribute o f pos') pos.line X.env=pure af):eB X T Z (.Assign [.Attribute o f pos'] value pos) (qb C ma f mb):=by
 refine PS.imp (Jx ho hv hs) λD σ H=>bg λF r env bx R h=>#[F,r,env,bx,R,End.bp h λy bx1 F1 r1 v H1 g1 R1 d1 h1=>#[F1,r1,env,bx1,R1,End.bp h1 λx aq F2 r2 u H2 g2 R2 d2 h2=>?_]];split at h2
 case h_2=>show h2.elim
 ext n d;let#[a,rfl,ha]:=d2;let#[b,hc,kc]:=R2.kG ha;rw[hc]at h2;split at h2
 case h_2=>show h2.elim
 ext C' fs e0;cases e0;let#[k0,dx,vs,k1,k2]:=kc;split at h2
 case isFalse=>show h2.elim
 ext hC;let#[hC,hl]:=hC;subst hC;refine#[a,C',dx,vs,rfl,k1,c,na,by rw[k2.len];show hl,?_];have aeW:Ey F2 r2 n (.inl d) v:=Den.mono g2.s d d1;show h2 F2 r2 σ _ (.refl F2 r2)<|R2.write ha k0 #[k0,dx,_,fu,k2.put aeW]
theorem Bf (vK:attributeBase o f X.env (eval o X.env)=eval o X.env) (cD:eV args=ag) (hl:args.length<30) (qM:(apos.endLine==pos.line)=ag):∃ pl,eval (.Call (.Attribute o f apos) args [] pos) X.env=(do
 let ov <-eval o X.env
 standAt apos.atName
 let (f,first) <-holding [ov] (getMethod ov f pl)
 callWith pos f first (backTo pos<|starEach args X.env) (backToKw pos<|keywordEach [] X.env)):=by
 have ph:(backTo pos<|starEach args X.env).all (λx=>!x.1)=ag:=by
  have:=gZ (env:=X.env) (pos:=pos) cD;rw[cg];rw[QM]at this;intro x hx;have:=this x hx;simpa using this
 have aeX:methodCallForm (args.length+([]:List Keyword).length) (backTo pos<|starEach args X.env) (backToKw pos<|keywordEach [] X.env)=ag:=by
  unfold methodCallForm;rw[ph];simp[backToKw,keywordEach]
  lia
 have Et:∀ b,methodCallPos b o X.env apos pos=pure pos:=λb=>by unfold methodCallPos;simp[qM]
 refine#[(do return (<-importBound o X.env).getD ag),?_];rw[arm_eval_Call,vK];unfold methodCall;rw[aeX];simp[Et];rfl
end
section
variable (P:cT) (w:cj) (K:PySem.W.Frag) (mg:Str -> Option au) (base:aK) (cl:Nat -> ai)
def Hc (C:ai) (k:Nat) (x:Str) (ps:List Str) (fn:List W->List Bx->O W):zk:=
 ∃ (f:ai) (fd:FuncData),cQ P w K mg base (dq P w) k f fd ps (qU cl ps.length fn) /\ Meth K C x f /\ Binds K fd ps []
end

theorem Lk (h:tD T Z (nU C fn x nn ma mk) σ H Q):Vl C x (qU Z.cl nn fn) [] Z.E (tD T Z ma) (Ez T Z mk) σ H Q:=by
 let#[F,r,env,bx,R,h]:=h;refine#[F,r,env,bx,R,End.bind h λw bx1 F1 r1 v H1 g1 R1 d1 h1=>?_];split at h1
 case h_2=>show h1.elim
 ext j;let#[a,rfl,ha]:=d1;let#[b,hc,kc]:=R1.kG ha;rw[hc]at h1;split at h1
 case h_2=>show h1.elim
 ext C' fs e0;cases e0;let#[k0,dx,vs,k1,k2]:=kc;split at h1
 case isFalse=>show h1.elim
 ext hC;let#[hC,hl]:=hC;subst hC;refine#[a,dx,vs,rfl,k1,?_,F1,r1,env,bx1,R1,End.bind h1 λws aq F2 r2 us H2 g2 R2 d2 h2=>?_]
 .rcases cY.look x k2 with⟨l1,l2⟩|⟨w,u,l1,l2,l3⟩
  .show l2
  .rw[l1]at hl;cases hl
 .split at h2
  .ext hn;refine#[F2,r2,.b j::ws,aq,R2.enter,#[_,_,rfl,#[a,rfl,Dq g2.p j a ha],by rw[rN];show d2],hn,?_];cases e:fn _ aq with
   |val w bx'=>rw[e]at h2;show λF' r' v H' g R' d=>h2 F' r' v H' g (R2.after g R') d
   |exc c bx'=>rw[e]at h2;show λF' r' H' g R'=>h2 F' r' H' g (R2.after g R').drop
   |bad=>rw[e]at h2;show h2
  .show h2.elim
theorem Nz (c:kD X.K C) (h:Hc X.prog X.w X.K X.mg X.base Z.cl C k x ps fn) (hr:bI k' X.A) (hk:k<=k') (hx:Passes (dq X.prog X.w) X Z.E) (ho:PD X T Z o ma) (ha:pj X T Z (e::es) mk) (hb:attributeBase o x X.env (eval o X.env)=eval o X.env)
 (qM:(apos.endLine==pos.line)=ag) (cD:eV (e::es)=ag) (hl:(e::es).length<30) (hn:ps.length=nn):PD X T Z (.Call (.Attribute o x apos) (e::es) [] pos) (nU C fn x nn ma mk):=by
 subst hn;let#[f,fd,G,hm,wg]:=h;let#[pl,ht]:=Bf hb cD hl qM;show PE.imp (MY ho c hm G (hr.mono hk) wg .nil hx ha (fH (gC cD).1 es X.env) (gZ (gC cD).2) ht) λσ H Q h=>Lk h
theorem Ll (c:kD X.K C) (h:Hc X.prog X.w X.K X.mg X.base Z.cl C k x ps fn) (hr:bI k' X.A) (hk:k<=k') (hx:Passes (dq X.prog X.w) X Z.E) (ho:PD X T Z o ma) (hb:attributeBase o x X.env (eval o X.env)=eval o X.env)
 (qM:(apos.endLine==pos.line)=ag) (hn:ps.length=nn):PD X T Z (.Call (.Attribute o x apos) [] [] pos) (nU C fn x nn ma fe):=by
 subst hn;let#[f,fd,G,hm,wg]:=h;let#[pl,ht]:=Bf (args:=[]) hb zj (by decide) qM;refine PE.imp (Jz ho c hm G (hr.mono hk) wg .nil hx ht) λσ H Q h=>?_;let#[F,r,env,bx,R,h]:=Lk h;refine#[F,r,env,bx,R,?_];revert h;generalize ma env bx=O1;intro h;cases O1 with
 |bad=>show h
 |exc c b=>show h
 |val w b=>
   intro F' r' v H' g R' d';let#[a,dx,fs,e1,e2,e3,F2,r2,cG,aq,R2,h]:=h F' r' v H' g R' d';show#[a,dx,fs,e1,e2,e3,h F2 r2 [] H' (.refl F2 r2) R2 zj]
def KG (f:bK->aE):List bK->aE
 |[]=>a8
 |s::r=>fB (f s)<|KG f r
theorem CA {st}(h:∀ s,eB X T Z s<|f s) (hl:PS X st t):∀ b,cX X (b++[st]) (λD σ H=>tS T Z (KG f b) { D with nx:=λσ' H'=>t D σ' H' } σ H)
 |[]=>cX.imp (lS hl) λD σ H=>bg λF r env bx R h=>h F r σ H (.refl F r) R
 | s::b=>by
   refine cX.imp (gX (h s)<|CA h hl b) λD σ H=>bg λF r env bx R h=>#[F,r,env,bx,R,?_];have h':kS T Z F r _ (fB _ _ env bx):=h;unfold fB at h';cases e:f s env bx with
   |nx bb bx1=>rw[e]at h';show λF1 r1 σ1 H1 g R1=>#[F1,r1,bb,bx1,R1,kS.weak g h']
   |rt w bx1=>rw[e]at h';show h'
   |bk bb bx1=>rw[e]at h';show h'
   |ct bb bx1=>rw[e]at h';show h'
   |exc c bx1=>rw[e]at h';show h'
   |bad=>rw[e]at h';show h'
noncomputable def yi (n:Nat) (h:D):bu:=[ae<|.b n,ae<|.d h]
def KH (C:ai) (fl:Str) (m:aE):Sp:=λvs H Q _=>∃ T F r bx x h hv aP fs,vs=[.ref x,hv] /\ Rel T F (r++[x]) [] H [] (bx++[.ins C []]) /\ T.H₀ x=ah /\ T.n₀<=r.length /\ Den F h hv /\
 m (yi r.length h) (bx++[.ins C []])=.nx aP (bx++[.ins C fs]) /\ aP[0]?=ae (ae<|.b r.length) /\ fs.length<1000 /\
 ∀ F' H' l,Sub F F'->Rel T F' (r++[l,x]) [] H' [] (bx++[.lst [],.ins C<|uN fl (.inr r.length) fs])->Q .non H'
theorem Rel.aeY (R:Rel T F (r++[x]) σ H env<|bx++[c]) (hx:T.H₀ x=ah) (hn:T.n₀<=r.length):Rel T F r [] H [] bx:=by
 have up:∀ {n}{a},r[n]?=ae a->(r++[x])[n]?=ae a:=λe=>Dq (pL r [x]) _ _ e;refine#[R.fh,λi w e=>by simp at e,(by have:=R.len;simp at this;show this),(sW.mp R.nd).1,λn c' a e1 e2=>?_,λa u e hn=>?_,λn a h e=>R.new n a h<|up e,hn,aA _,λa u e=>?_]
 .have k:=R.box n c' a (by rw[cS (List.getElem?_eq_some_iff.mp e1).1];show e1)<|up e2;cases c' with
  |ins _ _=>let#[q1,dx,vs,q2,q3]:=k;show#[q1,dx,vs,q2,cY.cB (Sub.refl F).d (λm hm b e=>by rw[cS<|vh hm (List.getElem?_eq_some_iff.mp e2).1]at e;show e) _ q3]
  |_=>show k
 .refine R.keep a u e λz=>?_;rcases d8.mp z with z|z
  .show hn z
  .cases hV.mp z;rw[hx]at e;cases e
 .rcases R.fs a u e with z|z|z|z
  .show .inl z
  .show .inr<|.inl z
  .show .inr<|.inr<|.inl z
  .rcases d8.mp z with z|z
   .show .inr<|.inr<|.inr z
   .cases hV.mp z;show .inr<|.inr<|.inl hx
theorem Rel.aeZ (R:Rel T F r σ H env bx) (hf:F p=ah) (hb:p∉r) (hT:T.H₀ p=ah):Rel T F r σ (upd H p o) env bx:=by
 refine#[λa u e=>?_,R.slot,R.len,R.nd,λn c a e1 e2=>?_,λa u e hn=>?_,R.new,R.n0,R.sl,R.fs]
 .rw[fv (λz=>by rw[z,hf]at e;cases e)];show R.fh a u e
 .have ha:a≠p:=λz=>hb<|List.mem_iff_getElem?.mpr #[n,z▸e2];show(R.box n c a e1 e2).grow (Sub.refl F) (eJ r) id λu z=>by rw[fv ha];show z
 .rw[fv (λz=>by rw[z,hT]at e;cases e)];show R.keep a u e hn
theorem Rel.ae0 (R:Rel T F r σ H env bx) (hb:p∉r) (hT:T.H₀ p=ah) (hc:si F r r.length H p c):Rel T F (r++[p]) σ H env (bx++[c]):=by
 refine#[R.fh,λi w e=>?_,by rw[bH,bH,R.len];rfl,?_,λn c' a e1 e2=>?_,λa u e hn=>R.keep a u e λz=>hn<|nX _ z,λn a hn e=>?_,by rw[bH];show cw R.n0 (rL _ _),R.sl,λa u e=>(R.fs a u e).imp id<|Or.imp id<|Or.imp id λz=>nX _ z]
 .let#[v,e1,e2]:=R.slot i w e;show#[v,e1,e2.mono (Sub.refl F)<|pL r [p]]
 .rw[sW];refine#[R.nd,by simp,λa ha b yj=>?_];rw[hV]at yj;subst yj;show λz=>hb<|z▸ha
 .by_cases hn:n<r.length
  .rw[cS hn]at e2;rw[cS (by rw[<-R.len];show hn)]at e1;show(R.box n c' a e1 e2).grow (Sub.refl F) (pL r [p]) id λ_ z=>z
  .have pV:=(List.getElem?_eq_some_iff.mp e2).1;rw[bH,yT]at pV;have sY:n=r.length:=by lia
   subst sY;rw[dD (by rw[R.len];show aA _),R.len,k8]at e1;simp at e1 e2;subst e1 e2;show hc.grow (Sub.refl F) (pL r _) id λ_ z=>z
 .by_cases hl:n<r.length
  .rw[cS hl]at e;show R.new n a hn e
  .have pV:=(List.getElem?_eq_some_iff.mp e).1;rw[bH,yT]at pV;have sY:n=r.length:=by lia
   subst sY;rw[dD<|aA _,k8]at e;simp at e;subst e;show hT
section
variable {K:PySem.W.Frag} {st:bK}
theorem NA (F:dY K x qual st f fd) (S:qL N ps<|fG st) (ae1:ps.length=2) (hN:N.length=2) (c:kD K C) (na:qK K C fl) (wg:gf st=b4++[.Assign [.Attribute (.Name s0 p1) fl p2] (.List [] p3) p4])
 (ae2:N[0]?=ae s0) (hv:qH (fG st) s0) (hd:(s0==("__debug__"))=af) (dn:(s0==("__classdict__"))=af)
 (nM:∀ (cdv:au) (A:dj) (outer:List Env) (s:aI) (H:Hp) (E:XK) (T:Fr),bI k (A.deeper<|envOfC qual (fG st) s.heap.objs.size f cdv) ->
  ∀ s1,eB (qr qN P w K mg base N qual (fG st) f cdv A outer s H E).sZ T #[E0,cl] s1<|sm s1):cQ P w K mg base (dq P w) (k+1) f fd ps (KH C fl<|KG sm b4):=by
 refine Pa<|F.ok S (λvs H Q E h=>?_) λcdv A outer s H vs Q E hr h=>?_
 .let#[_,_,_,_,_,_,_,_,_,rfl,_]:=h;rw[ae1];rfl
 .let#[T,F1,r,bx,x,h,Ei,aP,fs,rfl,R,hx,ae3,dh,hm,he,Kj,hQ]:=h;have e2:r.length=bx.length:=by have:=R.len;simp at this;show this
  refine#[_,by rw[wg];show CA (nM cdv A outer s H E T hr) (Jx (mF ae2 hv hd dn) (jQ fR) zj) b4,?_];have ae4:kF F1 (r++[x]) [.b r.length,.d h] [.ref x,Ei]:=#[_,_,rfl,#[x,rfl,by rw[dD<|aA _,k8];rfl],_,_,rfl,dh,rfl];have R0:=R.start (N:=N) ae4;have ee:envOf N.length [.b r.length,.d h]=yi r.length h:=by rw[hN];rfl
  rw[ee]at R0;refine#[F1,r++[x],_,_,R0,?_];rw[hm];intro F2 r2 σ2 H2 g2 R2;have er:r2=r++[x]:=by
   let#[t,rfl]:=g2.p;have:=R2.len;simp at this;have:t=[]:=List.length_eq_zero_iff.mp zb;rw[this,rN]
  subst er;have aaS:(r++[x])[r.length]?=ae x:=by rw[dD<|aA _,k8];rfl
  let#[v,e5,a,rfl,ha]:=R2.slot 0 _ he;rw[aaS]at ha;cases ha;let#[q1,dx,vs,q2,q3]:=R2.box r.length (.ins C fs) x (by rw[dD zb,e2,k8];rfl) aaS;have Rc:=R2.aeY hx ae3;have ae5:x∉r:=λz=>(sW.mp R2.nd).2.2 x z x zg zj;refine#[di _,λl hl=>?_];have aaT:x≠l:=fI q2 hl;refine#[_,e5,x,C,dx,vs,rfl,by rw[fv aaT];show q2,c,na,by rw[q3.len];show Kj,?_];have aaU:x∉r++[l]:=by simp[ae5,aaT]
  have ae6:cY F2 (r++[l]) (r++[l]).length fs vs:=by
   have q4:∀ (fs:List<|Str×(D ⊕ Nat)) (vs:List<|Str×V),cY F2 (r++[x]) r.length fs vs->cY F2 (r++[l]) (r++[l]).length fs vs:=λfs=>by
    induction fs with
    |nil=>intro vs z;show z
    |cons y fs ih=>
      let#[ky,wy]:=y;intro vs ⟨v,t,z1,z2,z3⟩;refine#[v,t,z1,?_,ih t z3];cases wy with
      |inl d=>show z2
      |inr m=>
        let#[z4,a,z5,z6]:=z2;rw[cS z4]at z6;show#[by rw[bH];show Nat.lt_add_right _ z4,a,z5,by rw[cS z4];show z6]
   show q4 fs vs q3
  have zz:Ey F2 (r++[l]) (r++[l]).length (.inr r.length) (.ref l):=#[by simp,l,rfl,by rw[dD<|aA _,k8];rfl];show hQ F2 _ l g2.s (by simpa using (((Rc.EC (c:=.lst []) hl #[Rc.uE hl,[],fu,rfl]).aeZ (o:=.ins C dx<|kC fl (.ref l) vs) q1 aaU hx).ae0 (p:=x) (c:=.ins C<|uN fl (.inr r.length) fs) aaU hx #[q1,dx,_,fu,ae6.put zz]))
end
open Classical in
def yk (C:ai) (fl:Str) (m:aE) (k:DE<|List W):DE W:=λenv bx=>fC (k env bx) λws bx1=>match ws with
 | [.d h]=>(match m (yi bx1.length h) (bx1++[.ins C []]) with
   | .nx aP aq=>(match aq.getLast? with
     |some (.ins _ fs)=>if aq=bx1++[.ins C fs] /\ aP[0]?=ae (ae<|.b bx1.length) /\ fs.length<1000 then .val (.b<|bx1.length+1) (bx1++[.lst [],.ins C<|uN fl (.inr bx1.length) fs]) else .bad
     |_=>.bad)
   |_=>.bad)
 |_=>.bad

theorem NB (M:Mk X.K C f) (G:cQ X.prog X.w X.K X.mg X.base (dq X.prog X.w) k f fd ps<|KH C fl m) (hr:bI k' X.A) (hk:k+1<=k') (hg:Gl X x) (hm:X.mg x=ae (.ref C)) (hb:Binds X.K fd ps []) (hx:Passes (dq X.prog X.w) X Z.E) (ha:pj X T Z (e::es) mk)
 (cD:eV (e::es)=ag) (cM:(x==("__debug__"))=af):PD X T Z (.Call (.Name x p) (e::es) [] pos) (yk C fl m mk):=by
 refine PE.imp (MZ M G (hr.mono hk) hg hm hb .nil hx ha cM (fH (gC cD).1 es X.env)<|gZ (gC cD).2) λσ H Q=>bg λF r env bx R h=>?_;refine#[F,r,env,bx,R,End.bind h λws bx1 F1 r1 vs H1 g1 R1 d1 h1=>?_];split at h1
 case h_2=>show h1.elim
 ext hh;let#[v,t,rfl,dh,rt]:=d1;cases (rt);split at h1
 case h_2=>show h1.elim
 ext aP aq em;split at h1
 case h_2=>show h1.elim
 ext C' fs el;split at h1
 case isFalse=>show h1.elim
 ext hc;let#[eb,e0,hl]:=hc;subst eb;intro y dx ny ae7 ne;have R2:=(R1.enter.aad (o:=.own y) ae7);have aaV:upd H1 dx (.own y) y=ah:=by rw[fv<|Ne.symm ne];show ny
 refine#[_,F1,r1,bx1,y,hh,v,aP,fs,rfl,(R2.EC (c:=.ins C []) aaV #[R2.uE aaV,dx,[],fu,rfl]),ny,aA _,dh,by rw[R1.len];show em,by rw[R1.len];show e0,hl,λF' H' l s R'=>#[rfl,?_]];have g:bf F1 r1 F' (r1++[l,y]):=#[s,pL _ _];rw[R1.len]at R';refine h1 F' _ _ H' g (R1.after g (by rw[<-R1.len]at R' ⊢;show R')) #[y,rfl,?_];rw[<-R1.len,dD zb];have:r1.length+1-r1.length=1:=by lia
 rw[this];rfl
end L2.DL
namespace HT
open PySem.W
abbrev Kp (h h':aK):zk:=∀ b o,h.get? b=ae o->h'.get? b=ae o
section
variable {A:dj} {s:aI} {vs:List au}
section
variable {kf:Nat -> Int} (hh:A.handled = ah) (hl:s.heap.IsList l vs.toArray) (ae8:l ≠ I) (ae9:S ≠ I) (afa:s.heap.get? S = ah) (afb:s.heap.get? I = ah)
include hh hl ae8 ae9 afa afb
end
end
abbrev uO (xs:Array Nat):zk:=xs.toList.Pairwise (·<·)
theorem ly (h:uO xs) {j:Nat}(hi:xs[i]?=ae x) (hj:xs[j]?=ae y) (l:i<j):x<y:=by
 let#[a,rfl]:=List.getElem?_eq_some_iff.mp (by rw[nq];show hi);let#[b,rfl]:=List.getElem?_eq_some_iff.mp (by rw[nq];show hj);show List.pairwise_iff_getElem.mp h i j a b l
theorem Lm (h:uO xs) (j):∀ (f lo hi),hi-lo<=f->lo<=hi->hi<=xs.size->(∀ i x,i<lo->xs[i]?=ae x->x<j)->(∀ i x,hi<=i->xs[i]?=ae x->j<=x) ->
 SetTable.below.go xs j f lo hi<=xs.size /\ (∀ i x,i<SetTable.below.go xs j f lo hi->xs[i]?=ae x->x<j) /\ ∀ i x,SetTable.below.go xs j f lo hi<=i->xs[i]?=ae x->j<=x:=by
 intro l_;induction l_ with
 |zero=>
   intro lo hi hf hl hh h1 h2;have:lo=hi:=by lia
   subst this;show#[hh,h1,h2]
 |succ f aB=>
   intro lo hi hf hl hh h1 h2;rw[SetTable.below.go];by_cases c:lo<hi
   .rw[if_pos c];have hm:(lo+hi) / 2<xs.size:=by lia
    have em:xs[(lo+hi) / 2]?=ae xs[(lo+hi) / 2]:=by simp
    have eg:xs.getD ((lo+hi) / 2) j=xs[(lo+hi) / 2]:=by simp[hm]
    erw[eg];by_cases q:xs[(lo+hi) / 2]<j
    .erw[if_pos q];refine aB _ hi zb zb hh (λi x nT e=>?_) h2;by_cases z:i<(lo+hi) / 2
     .have:=ly h e em z
      lia
     .have:i=(lo+hi) / 2:=by lia
      subst this;rw[em]at e;cases e;show q
    .erw[if_neg q];refine aB lo _ zb zb zb h1 λi x nT e=>?_;by_cases z:i=(lo+hi) / 2
     .subst z;rw[em]at e;cases e
      lia
     .have:=ly h em e zb
      lia
   .rw[if_neg c];have:lo=hi:=by lia
    subst this;show#[hh,h1,h2]
theorem lL (h:uO xs) (j):SetTable.below xs j<=xs.size /\ (∀ i x,i<SetTable.below xs j->xs[i]?=ae x->x<j) /\ ∀ i x,SetTable.below xs j<=i->xs[i]?=ae x->j<=x:=
 Lm h j xs.size 0 xs.size zb (di _) (aA _) (λi x hi=>absurd hi<|vj _) λi x hi e=>by
  have:=(Array.getElem?_eq_some_iff.mp e).1
  lia
theorem gh (xs) (p) (x:α):(SetTable.insertAt xs p x).toList=xs.toList.take p++x::xs.toList.drop p:=by
 unfold SetTable.insertAt;rw[Array.toList_append,Array.toList_push,YN,YN];simp[vo,List.singleton_append];congr 2;show QT zg
theorem Ln (h:uO xs) (hn:xs[SetTable.below xs j]?≠ae j):uO (SetTable.insertAt xs (SetTable.below xs j) j):=by
 let#[b1,b2,b3]:=lL h j;unfold uO;rw[gh];have pV:∀ x∈xs.toList.take (SetTable.below xs j),x<j:=λx m=>by
  let#[i,hi,e]:=wX m;rw[pJ]at hi;refine b2 i x zb ?_;rw[<-nq,<-e,List.getElem_take];show cW zb
 have aaW:∀ x∈xs.toList.drop _,j<x:=λx m=>by
  let#[i,hi,e]:=wX m;rw[pK]at hi;have ex:xs[SetTable.below xs j+i]?=ae x:=by
   rw[<-nq,<-e,List.getElem_drop];show cW zb
  have:=b3 _ x (rL _ _) ex;have ne:x≠j:=λz=>by
   subst z;cases i with
   |zero=>show hn ex
   |succ i=>
     have lt:SetTable.below xs x<xs.size:=by
      have:=(Array.getElem?_eq_some_iff.mp ex).1
      lia
     have el:xs[SetTable.below xs x]?=ae xs[SetTable.below xs x]:=by simp
     have a:=b3 _ _ (aA _) el;have b:=ly h el ex zb
     lia
  lia
 rw[List.pairwise_append];refine#[h.sublist<|Yd _ _,List.pairwise_cons.mpr #[aaW,h.sublist<|List.drop_sublist _ _],λa ma b mb=>?_];have:=pV a ma;rcases a9.mp mb with rfl|mb
 .show this
 .have:=aaW b mb
  lia
theorem GR (f:Nat->Option Nat):∀ l:List Nat,l.Pairwise (·<·)->(((l.filterMap λj=>(f j).map (j,·)).map (·.1))).Pairwise (·<·):=by
 intro l_;induction l_ with
 |nil=>show λ_=>.nil
 |cons j l aB=>
   intro h;let#[h1,h2]:=List.pairwise_cons.mp h;have ih:=aB h2;rw[qk];cases e:f j with
   |none=>show ih
   |some z=>
     refine List.pairwise_cons.mpr #[λa ma=>?_,ih];let#[p,mp,rfl]:=bc.mp ma;let#[i,mi,ei]:=List.mem_filterMap.mp mp;cases q:f i with
     |none=>rw[q]at ei;cases ei
     |some w=>
       rw[q]at ei;cases ei;show h1 i mi
noncomputable def qy (m i q:Nat):SetTable.Probe:={ j:=i,more:=SetTable.runEnd m i-i,i,perturb:=q,dummy:=ah }
abbrev qz (m:Nat) (h:Int):SetTable.Probe:=qy m (SetTable.bits h % (m+1))<|SetTable.bits h
noncomputable def lp (m:Nat) (p:Nat×Nat):Nat×Nat:=((p.1*5+1+p.2 / 32) % (m+1),p.2 / 32)
def av (m:Nat) (p:SetTable.Probe):SetTable.Probe:=if p.more>0 then { p with j:=p.j+1,more:=p.more-1 } else
 { p with j:=(lp m (p.i,p.perturb)).1,more:=SetTable.runEnd m (lp m (p.i,p.perturb)).1-(lp m (p.i,p.perturb)).1,i:=(lp m (p.i,p.perturb)).1,perturb:=p.perturb / 32 }
theorem Pe (t:SetTable) (p):t.advance p=av t.mask p:=rfl
def bt (m:Nat):Nat->SetTable.Probe->SetTable.Probe
 |0,p=>p
 |k+1,p=>bt m k<|av m p
def kn (m:Nat):Nat->Nat×Nat->Nat×Nat
 |0,p=>p
 |k+1,p=>kn m k<|lp m p
theorem gU (m) (b):∀ (a) (p),bt m (a+b) p=bt m b (bt m a p):=by
 intro l_;induction l_ with
 |zero=>(intro p;rw[wR];rfl)
 |succ a aB=>(intro p;rw[XZ];show aB _)
structure Pv (m:Nat) (p:SetTable.Probe):zk where
 a:p.more<=9
 b:p.j+p.more<=m
 q:p.perturb<2 ^ 64
 d:p.dummy=ah
theorem Lo (m i) (h:i<=m):SetTable.runEnd m i-i<=9 /\ SetTable.runEnd m i<=m /\ i<=SetTable.runEnd m i:=by
 unfold SetTable.runEnd;split<;>lia
theorem Lp (h:i<=m) (hq:q<2 ^ 64):Pv m (qy m i q):=by
 have:=Lo m i h;show#[this.1,by change i+(SetTable.runEnd m i-i)<=m;lia,hq,rfl]
theorem Lq (m) (p):(lp m p).1<=m:=QH<|QI _<|wQ m
theorem Fv (h:p.more=0) (d:p.dummy=ah):av m p=qy m (lp m (p.i,p.perturb)).1 (p.perturb / 32):=by
 unfold av;rw[if_neg zb];cases p;cases d;rfl
theorem Pv.av (v:Pv m p):Pv m (av m p):=by
 by_cases h:p.more>0
 .unfold HT.av;rw[if_pos h];show#[by have:=v.a;lia,by have:=v.b;lia,v.q,v.d]
 .rw[Fv zb v.d];show Lp (Lq m _)<|vg (X0 _ _) v.q
theorem Pv.bt:∀ (k) {p},Pv m p->Pv m (bt m k p)
 |0,_,v=>v
 |k+1,_,v=>Pv.bt k v.av
theorem Pf:∀ (d) (p),d<=p.more->bt m d p={ p with j:=p.j+d,more:=p.more-d }:=by
 intro l_;induction l_ with
 |zero=>show λp _=>rfl
 |succ d aB=>
   intro p h;change bt m d _=_;unfold av;rw[if_pos zb,aB _ zb]
   lia
theorem BH (v:Pv m p):bt m (p.more+1) p=qy m (lp m (p.i,p.perturb)).1 (p.perturb / 32):=by
 rw[gU,Pf _ _<|aA _];show Fv zb v.d
theorem NC:∀ (L) (p),Pv m p->∃ c,c<=10*(L+1) /\ bt m c p=qy m (kn m (L+1) (p.i,p.perturb)).1 (kn m (L+1) (p.i,p.perturb)).2:=by
 intro l_;induction l_ with
 |zero=>show λp v=>#[p.more+1,by have:=v.a;lia,BH v]
 |succ L aB=>
   intro p v;have v1:Pv m (qy m (lp m (p.i,p.perturb)).1<|p.perturb / 32):=by rw[<-BH v];show v.bt _
   let#[c,hc,e]:=aB _ v1;refine#[p.more+1+c,by have:=v.a;lia,?_];rw[gU,BH v,e];rfl
theorem ND (m) (b):∀ (a) (p),kn m (a+b) p=kn m b (kn m a p):=by
 intro l_;induction l_ with
 |zero=>(intro p;rw[wR];rfl)
 |succ a aB=>(intro p;rw[XZ];show aB _)
theorem Tf (m):∀ (a) (p),(kn m a p).2=p.2 / 32 ^ a:=by
 intro l_;induction l_ with
 |zero=>(intro p;simp[kn])
 |succ a aB=>
   intro p;change (kn m a _).2=_;rw[aB];change p.2 / 32 / 32 ^ a=_;rw[Nat.div_div_eq_div_mul,Nat.pow_succ,Nat.mul_comm]
theorem afc:∀ i,i<8->∀ j,j<8->∃ L,L<8 /\ (kn 7 L (i,0)).1=j:=by decide +kernel
theorem afd:∀ i,i<32->∀ j,j<32->∃ L,L<32 /\ (kn 31 L (i,0)).1=j:=by decide +kernel
theorem cover (hm:m=7 \/ m=31) (hq:q<2 ^ 64) (hj:j<=m):∃ L,L<=12+m /\ (kn m (L+1) (i,q)).1=j:=by
 have e0:kn m 13 (i,q)=((kn m 13 (i,q)).1,0):=by
  have:(kn m 13 (i,q)).2=0:=by rw[Tf];show Nat.div_eq_of_lt<|dR hq zc
  rw[<-this]
 have le:(kn m 13 (i,q)).1<=m:=Lq m _;have:∃ L,L<m+1 /\ (kn m L ((kn m 13 (i,q)).1,0)).1=j:=by
  rcases hm with rfl|rfl
  .show afc _ zb _ zb
  .show afd _ zb _ zb
 let#[L,hL,e]:=this;refine#[12+L,by lia,?_];rw[show 12+L+1=13+L by lia,ND,e0];show e
theorem mO {α:Type} [DecidableEq α]:∀ (a b:List α),a.Nodup->(∀ x∈a,x∈b)->a.length<=b.length:=by
 intro l_;induction l_ with
 |nil=>show λb _ _=>di _
 |cons x a aB=>
   intro b h s;let#[h1,h2]:=rR.mp h;have mx:=s x<|.head _;have:=aB _ h2 λy my=>(List.mem_erase_of_ne λz:y=x=>h1 (by rw[<-z];show my)).mpr<|s y<|.tail _ my;rw[List.length_erase_of_mem mx]at this;have:=List.length_pos_of_mem mx;rw[a6]
   lia
theorem gap {l:List Nat}(h:l.length<=m):∃ j,j<=m /\ j∉l:=by
 apply Classical.byContradiction;intro z;have:=mO (List.range<|m+1) l Ym λx mx=>by
  apply Classical.byContradiction;intro nx;show z #[x,by have:=List.mem_range.mp mx;lia,nx]
 rw[Il]at this
 lia
def On (m:Nat) (l:List Nat) (h:Int) (j:Nat):zk:=∃ c,(bt m c<|qz m h).j=j /\ ∀ c',c'<c->(bt m c'<|qz m h).j∈l
theorem On.mono (o:On m l h j) (s:∀ x∈l,x∈l'):On m l' h j:=let ⟨c,e,a⟩:=o;#[c,e,λc' z=>s _<|a c' z]
theorem BI (h):SetTable.bits h<2 ^ 64:=by
 unfold SetTable.bits
 lia
theorem Ph (m) (h):Pv m (qz m h):=Lp (QH<|QI _<|wQ m)<|BI h
theorem far (hm:m=7 \/ m=31) {l:List Nat}(hl:l.length<=m) (v:Pv m p):∃ c,c<10*SetTable.turns m /\ (bt m c p).j∉l:=by
 let#[j,hj,nj]:=gap hl;let#[L,hL,e]:=cover hm v.q hj;let#[c,hc,e2]:=NC L p v;refine#[c,by unfold SetTable.turns;lia,?_];rw[e2];rw[e];show nj
structure Tab (t:SetTable) (hs:List Int):zk where
 r:uO t.place
 d:t.dummies=#[]
 m:t.mask=7 \/ t.mask=31
 b:∀ x∈t.place.toList,x<=t.mask
 n:t.place.size<=t.mask
 s:t.place.size=hs.length
 p:∀ x∈t.place.toList.zip hs,On t.mask t.place.toList x.2 x.1
section
variable {t:SetTable}
theorem NE (h:uO t.place) (m:j∈t.place.toList):∃ i,t.slot j=.live i /\ t.place[i]?=ae j:=by
 let#[i,hi,e]:=wX m;have ei:t.place[i]?=ae j:=by rw[<-nq,<-e];show cW hi
 let#[b1,b2,b3]:=lL h j;have eb:SetTable.below t.place j=i:=by
  have h1:¬ i<SetTable.below t.place j:=λz=>by have:=b2 i j z ei;lia
  have h2:¬ SetTable.below t.place j<i:=λz=>by
   have lt:=(Array.getElem?_eq_some_iff.mp ei).1;have el:t.place[SetTable.below t.place j]?=ae t.place[SetTable.below t.place j]:=by
    simp
   have a:=b3 _ _ (aA _) el;have b:=ly h el ei z
   lia
  lia
 show#[i,by unfold SetTable.slot;simp[eb,ei],ei]
theorem Lr (hd:t.dummies=#[]) (m:j∉t.place.toList):t.slot j=.empty:=by
 unfold SetTable.slot;have h1:t.place[SetTable.below t.place j]?≠ae j:=λe=>m (by
  rw[<-nq]at e;show eI e)
 simp[h1,hd,SetTable.has]
inductive Mt (t:SetTable) (ha:Nat->Int) (h:Int) (p:SetTable.Probe):SetTable.Met->zk where
 |e {c:Nat}(hn:(bt t.mask c p).j∉t.place.toList) (hc:∀ c',c'<c->∃ i,t.place[i]?=ae (bt t.mask c' p).j /\ ha i≠h):Mt t ha h p (.empty (bt t.mask c p).j ah)
 |c {c i:Nat}(hi:t.place[i]?=ae (bt t.mask c p).j) (hh:ha i=h) (hs:t.slot (bt t.mask c p).j=.live i) (hc:∀ c',c'<c->∃ i,t.place[i]?=ae (bt t.mask c' p).j /\ ha i≠h):Mt t ha h p (.candidate (bt t.mask c p).j i<|bt t.mask (c+1) p)
theorem Fw (T:Tab t hs) (ha) (h):∀ (k f) (p),k<f->Pv t.mask p->(bt t.mask k p).j∉t.place.toList->∃ z,SetTable.probe.go t ha h f p=ae z /\ Mt t ha h p z
 |k,0,p,hf,_,_=>by lia
 | k,f+1,p,hf,v,hk=>by
   rw[SetTable.probe.go];by_cases m:p.j∈t.place.toList
   .let#[i,es,ei]:=NE T.r m;rw[es];dsimp only;by_cases q:ha i=h
    .rw[if_pos (by simpa using q),Pe];show#[_,rfl,Mt.c ei q es λc' z=>absurd z<|vj _]
    .rw[if_neg (by simpa using q),Pe];cases k with
     |zero=>show absurd m hk
     |succ k=>
       let#[z,e,M]:=Fw T ha h k f (av t.mask p) zb v.av hk;refine#[z,e,?_];have st:∀ {c},(∀ c',c'<c->∃ i,t.place[i]?=ae (bt t.mask c'<|av t.mask p).j /\ ha i≠h)->∀ c',c'<c+1->∃ i,t.place[i]?=ae (bt t.mask c' p).j /\ ha i≠h:=λhc c' z=>by
        cases c' with
        |zero=>show#[i,ei,q]
        |succ c'=>show hc c' zb
       cases M with
       |e hn hc=>show Mt.e (p:=p) hn<|st hc
       |c hi hh hs hc=>show Mt.c (c:=_+1) hi hh hs<|st hc
   .rw[Lr T.d m];refine#[.empty p.j ah,?_,Mt.e m λc' z=>absurd z<|vj _];change ae (SetTable.Met.empty p.j p.dummy)=_;rw[v.d]
theorem CB (T:Tab t hs) (ha) (h) (v:Pv t.mask p):∃ z,t.probe ha h p=ae z /\ Mt t ha h p z:=by
 let#[c,hc,nc]:=far T.m (by show T.n) v;show Fw T ha h c _ p hc v nc
theorem Ls (T:Tab t hs) (v:Pv t.mask p) (e:t.probe ha h p=ae z):Mt t ha h p z:=by
 let#[z',e',M]:=CB T ha h v;rw[e]at e';cases e';show M
theorem NG {α β:Type}(l:List α) (r:List β) (p:Nat) (x:α) (y:β) (e:l.length=r.length):(l.take p++x::l.drop p).zip (r.take p++y::r.drop p)=(l.take p).zip (r.take p)++(x,y)::(l.drop p).zip (r.drop p):=by
 rw[QU (by simp[e])];rfl
theorem Lu {α β:Type}(l:List α) (r:List β) (p:Nat) {z:α×β}(e:l.length=r.length) (h:z∈(l.take p).zip (r.take p) \/ z∈(l.drop p).zip (r.drop p)):z∈l.zip r:=by
 have:l.zip r=(l.take p).zip (r.take p)++(l.drop p).zip (r.drop p):=by
  rw[<-QU (by simp[e]),vt,vt]
 rw[this,d8];show h
theorem Tab.put (T:Tab t hs) (ho:On t.mask t.place.toList h j) (hj:j<=t.mask) (hn:j∉t.place.toList) (sz:t.place.size+1<=t.mask) (pl) :
 Tab { (t.put j).1 with plain:=pl } (hs.take zo++h::hs.drop zo):=by
 have nl:t.place[SetTable.below t.place j]?≠ae j:=λe=>hn (by
  rw[<-nq]at e;show eI e)
 have el:t.place.toList.length=hs.length:=by show T.s
 have ml:∀ x∈t.place.toList,x∈(SetTable.insertAt t.place zo j).toList:=λx m=>by
  rw[gh];rw[<-vt zo t.place.toList,d8]at m;rw[d8,a9];show m.imp id .inr
 have sl:(SetTable.insertAt t.place zo j).size=t.place.size+1:=by
  rw[<-nH,gh,bH,a6,pJ,pK,nH]
  lia
 have hh:SetTable.has t.dummies j=af:=by rw[T.d];simp[SetTable.has]
 refine#[Ln T.r nl,?_,T.m,λx m=>?_,?_,?_,λz mz=>?_]
 .change (if SetTable.has t.dummies j then _ else t.dummies)=#[];rw[hh];show T.d
 .have m':x∈(SetTable.insertAt t.place zo j).toList:=m;rw[gh,d8,a9]at m';rcases m' with m|rfl|m
  .show T.b x<|Yn m
  .show hj
  .show T.b x<|Yo m
 .change (SetTable.insertAt t.place zo j).size<=t.mask;rw[sl];show sz
 .change (SetTable.insertAt t.place zo j).size=_;rw[sl,bH,a6,pJ,pK,T.s];have:=T.s
  lia
 .have aaX:z∈(SetTable.insertAt t.place zo j).toList.zip (hs.take zo++h::hs.drop zo):=mz;rw[gh,NG _ _ _ _ _ el,d8,a9]at aaX;have old:=λm=>(T.p z m).mono ml;rcases aaX with m|rfl|m
  .show old<|Lu _ _ _ el<|.inl m
  .show ho.mono ml
  .show old<|Lu _ _ _ el<|.inr m
end
structure Ow (m:Nat) (ow:Array<|Option Nat) (bq:List Nat):zk where
 s:ow.size=m+1
 n:bq.Nodup
 b:∀ x∈bq,x<=m
 e:∀ (j v:Nat),ow[j]?=ae (ae v) ↔ bq[v]?=ae j
theorem Ow.free (O:Ow m ow bq) (hj:j<=m):(ow.getD j<|ae 0).isNone=ag ↔ j∉bq:=by
 have lt:j<ow.size:=by rw[O.s];lia
 have e1:ow[j]?=ae ow[j]:=by simp
 have e2:ow.getD j (ae 0)=ow[j]:=by simp[lt]
 rw[e2];constructor
 .intro h m;let#[v,hv,ev]:=wX m;have:=(O.e j v).mpr (by rw[<-ev];show cW hv);rw[e1]at this;cases aaY:ow[j] with
  |none=>rw[aaY]at this;cases this
  |some z=>rw[aaY]at h;cases h
 .intro h;cases q:ow[j] with
  |none=>rfl
  |some v=>show absurd (eI<|(O.e j v).mp (by rw[e1,q])) h
theorem Lv (O:Ow m ow bq):∀ (L f i q),L<f->i<=m->q<2 ^ 64->(kn m L (i,q)).1∉bq ->
 ∃ j c,SetTable.layClean.free m ow f i q=ae j /\ (bt m c<|qy m i q).j=j /\ j<=m /\ j∉bq /\ ∀ c',c'<c->(bt m c'<|qy m i q).j∈bq
 |L,0,i,q,hf,_,_,_=>by lia
 | L,f+1,i,q,hf,hi,hq,hk=>by
   let#[r1,r2,r3]:=Lo m i hi;have rj:∀ d,d<=SetTable.runEnd m i-i->(bt m d<|qy m i q).j=i+d:=λd hd=>by rw[Pf d _ hd];rfl
   rw[SetTable.layClean.free];cases fd:(List.range<|SetTable.runEnd m i+1-i).find? λk=>(ow.getD (i+k)<|ae 0).isNone with
   |some k=>
     let#[h1,h2,h3]:=List.find?_range_eq_some.mp fd;have h2:=List.mem_range.mp h2;refine#[i+k,k,rfl,rj k zb,by lia,(O.free zb).mp h1,λc' z=>?_];rw[rj c' zb];have:=h3 c' z;apply Classical.byContradiction;intro nm;rw[(O.free zb).mpr nm]at this;cases this
   |none=>
     have h3:=List.find?_range_eq_none.mp fd;have al:∀ c',c'<SetTable.runEnd m i-i+1->(bt m c'<|qy m i q).j∈bq:=λc' z=>by
      rw[rj c' zb];have:=h3 c' zb;apply Classical.byContradiction;intro nm;rw[(O.free zb).mpr nm]at this;cases this
     cases L with
     |zero=>
       have:=al 0<|wQ _;show absurd this hk
     |succ L=>
       have v:=Lp hi hq;let#[j,c,e,ej,hj,nj,hc]:=Lv O L f (lp m (i,q)).1 (q / 32) zb (Lq m _) (vg (X0 _ _) hq) hk;have lv:bt m (SetTable.runEnd m i-i+1) (qy m i q)=qy m (lp m (i,q)).1 (q / 32):=BH v;refine#[j,SetTable.runEnd m i-i+1+c,e,?_,hj,nj,λc' z=>?_]
       .rw[gU,lv];show ej
       .by_cases w:c'<SetTable.runEnd m i-i+1
        .show al c' w
        .have:c'=SetTable.runEnd m i-i+1+(c'-(SetTable.runEnd m i-i+1)):=by lia
         rw[this,gU,lv];show hc _ zb
theorem Ow.more (O:Ow m ow bq) (hj:j<=m) (nj:j∉bq):Ow m (ow.setIfInBounds j<|ae bq.length) (bq++[j]):=by
 refine#[by simp[O.s],?_,λx mx=>?_,λk v=>?_]
 .rw[sW];show#[O.n,by simp,λa ma b mb=>by rw[hV]at mb;subst mb;show λz=>nj<|z▸ma]
 .rcases d8.mp mx with mx|mx
  .show O.b x mx
  .rw[hV]at mx;lia
 .rw[Array.getElem?_setIfInBounds];by_cases kj:j=k
  .subst kj;rw[if_pos rfl,if_pos (by rw[O.s];lia)];simp[Option.some.injEq];constructor
   .rintro rfl;rw[dD<|aA _,k8];rfl
   .intro e;by_cases vl:v<bq.length
    .rw[cS vl]at e;show absurd (eI e) nj
    .have:=(List.getElem?_eq_some_iff.mp e).1;simp at this
     lia
  .rw[if_neg kj,O.e k v];by_cases vl:v<bq.length
   .rw[cS vl]
   .rw[dD zb,rO zb];constructor
    .intro z;cases z
    .intro z;cases q:v-bq.length with
     |zero=>rw[q]at z;simp at z;show absurd z kj
     |succ n=>rw[q]at z;simp at z
theorem RK (hm:m=7 \/ m=31):∀ (l) (ow) (bq) (hs),Ow m ow bq->hs.length=bq.length->(∀ x∈bq.zip hs,On m bq x.2 x.1)->bq.length+l.length<=m ->
 ∃ KI wm,l.foldl (λacc h=>do
  let (owner,k) <-acc
  let j <-SetTable.layClean.free m owner (SetTable.turns m) (SetTable.bits h % (m+1)) (SetTable.bits h)
  pure (owner.setIfInBounds j<|ae k,k+1)) (ae (ow,bq.length))=ae (KI,wm.length) /\ Ow m KI wm /\ (hs++l).length=wm.length /\ ∀ x∈wm.zip (hs++l),On m wm x.2 x.1:=by
 intro l_;induction l_ with
 |nil=>show λow bq hs O e p _=>#[ow,bq,rfl,O,by simpa using e,by simpa using p]
 |cons h l aB=>
   intro ow bq hs O e p sz;rw[a6]at sz;have il:SetTable.bits h % (m+1)<=m:=QH<|QI _<|wQ m;let#[g,hg,ng]:=gap (m:=m) (l:=bq) zb;let#[L,hL,eL]:=cover hm (BI h) hg;let#[j,c,ef,ej,hj,nj,hc]:=Lv O (L+1) (SetTable.turns m) _ _ (by unfold SetTable.turns;lia) il (BI h) (by rw[eL];show ng);have O1:=O.more hj nj;have sub:∀ x∈bq,x∈bq++[j]:=λx mx=>nX _ mx;let#[KI,wm,e1,O',e2,p']:=aB _ (bq++[j]) (hs++[h]) O1 (by simp[e]) (λx mx=>by
    rw[QU (by simp[e])]at mx;rcases d8.mp mx with mx|mx
    .show(p x mx).mono sub
    .simp at mx;subst mx;show#[c,ej,λc' z=>sub _<|hc c' z]) (by simp;lia)
   refine#[KI,wm,?_,O',by simpa using e2,by simpa using p'];rw[List.foldl_cons,<-e1];congr 1;change (SetTable.layClean.free m ow (SetTable.turns m) (SetTable.bits h % (m+1)) (SetTable.bits h) >>= λj=>_)=_;rw[ef];simp
theorem Tg (hm:m=7 \/ m=31) (hs) (sz:hs.size<=m):∃ ow bq,SetTable.layClean m hs=ae ow /\ Ow m ow bq /\ hs.toList.length=bq.length /\ ∀ x∈bq.zip hs.toList,On m bq x.2 x.1:=by
 have O0:Ow m (Array.replicate (m+1) ah) []:=#[by simp,.nil,by simp,λj v=>by
  constructor
  .intro z;rw[Array.getElem?_replicate]at z;split at z<;>cases z
  .intro z;simp at z]
 let#[ow,bq,e,O,e2,p]:=RK hm hs.toList _ [] [] O0 zj (by simp) (by simpa using sz);refine#[ow,bq,?_,O,by simpa using e2,by simpa using p];unfold SetTable.layClean;rw[<-Array.foldl_toList];show(congrArg _ e)
theorem RL (hm:m=7 \/ m=31) (hs) (sz:hs.size<=m) (fg mv) (ld pl) {α:Type}(es:Array<|Int×α) (he:es.map (·.1)=hs) :
 ∃ t od,SetTable.laid m fg mv ld pl hs=ae (t,od) /\ (od.filterMap (es[·]?)).size=es.size /\ Tab t ((od.filterMap (es[·]?)).toList.map (·.1)) /\ t.mask=m /\ t.led=ld /\ ∀ e,e∈(od.filterMap (es[·]?)).toList ↔ e∈es.toList:=by
 let#[ow,bq,e,O,el,p]:=Tg hm hs sz;have afe:es.size=bq.length:=by rw[<-el,<-he];simp
 let live:=(List.range<|m+1).filterMap λj=>(ow.getD j ah).map (j,·)
 have ml:∀ j v,(j,v)∈live ↔ bq[v]?=ae j:=λj v=>by
  rw[<-O.e j v,List.mem_filterMap];constructor
  .rintro⟨i,mi,ei⟩;have lt:i<ow.size:=by rw[O.s];show List.mem_range.mp mi
   cases q:ow.getD i ah with
   |none=>rw[q]at ei;cases ei
   |some z=>
     rw[q]at ei;cases ei;have:ow.getD j ah=ow[j]:=by simp[lt]
     rw[<-q,this];simp
  .intro z;have lt:=(Array.getElem?_eq_some_iff.mp z).1;have z2:=(Array.getElem?_eq_some_iff.mp z).2;refine#[j,List.mem_range.mpr (by rw[<-O.s];show lt),?_];have:ow.getD j ah=ow[j]:=by simp[lt]
   rw[this,z2];rfl
 have rs:(live.map (·.1)).Pairwise (·<·):=GR _ _ List.pairwise_lt_range;have nd:=rs.imp λh=>bN h;have mp:∀ j,j∈live.map (·.1) ↔ j∈bq:=λj=>by
  rw[bc];constructor
  .rintro⟨⟨i,v⟩,mz,rfl⟩;show eI<|(ml i v).mp mz
  .intro mj;let#[v,hv,ev]:=wX mj;show#[(j,v),(ml j v).mpr (by rw[<-ev];show cW hv),rfl]
 have ll:live.length=bq.length:=by
  have a:=mO _ _ nd λx mx=>(mp x).mp mx;have b:=mO _ _ O.n λx mx=>(mp x).mpr mx;rw[aX]at a b
  lia
 have vl:∀ z∈live,∃ y,es[z.2]?=ae y /\ hs.toList[z.2]?=ae y.1:=λz mz=>by
  have:=(ml z.1 z.2).mp mz;have lt:=(List.getElem?_eq_some_iff.mp this).1;have aff:z.2<es.size:=by lia
  refine#[es[z.2],by simp,?_];rw[<-he];simp[aff]
 have fm:∀ l:List (Nat×Nat),(∀ z∈l,z∈live)->∃ ys,(l.map (·.2)).filterMap (es[·]?)=ys /\ ys.length=l.length /\ (∀ x∈(l.map (·.1)).zip (ys.map (·.1)),∃ v,(x.1,v)∈live /\ hs.toList[v]?=ae x.2) /\ ∀ y∈ys,∃ z∈l,es[z.2]?=ae y:=λl=>by
  induction l with
  |nil=>intro _;show#[[],rfl,rfl,by simp,by simp]
  |cons z l ih=>
    intro hl;let#[ys,e1,e2,e3,e4]:=ih λy my=>hl y<|.tail _ my;let#[y,hy,afg]:=vl z<|hl z<|.head _;refine#[y::ys,by rw[aS,qk,hy,e1],by simp[e2],λx mx=>?_,λx mx=>?_]
    .rw[aS,aS,qm,a9]at mx;rcases mx with rfl|mx
     .show#[z.2,hl z<|.head _,afg]
     .show e3 x mx
    .rcases a9.mp mx with rfl|mx
     .show#[z,.head _,hy]
     .let#[w,mw,ew]:=e4 x mx;show#[w,.tail _ mw,ew]
 let#[ys,e1,e2,e3,e4]:=fm live λ_ h=>h;have eo:((live.map (·.2)).toArray.filterMap (es[·]?)).toList=ys:=by
  rw[Array.toList_filterMap,List.toList_toArray];show e1
 refine#[_,_,by unfold SetTable.laid;rw[e];rfl,?_,?_,rfl,rfl,λy=>?_]
 .change ((live.map (·.2)).toArray.filterMap (es[·]?)).size=es.size;rw[<-nH,eo,e2,ll,afe]
 .change Tab _ (((live.map (·.2)).toArray.filterMap (es[·]?)).toList.map (·.1));rw[eo];have hl:(live.map (·.1)).toArray.toList=live.map (·.1):=rfl;refine#[rs,rfl,hm,λx mx=>O.b x<|(mp x).mp mx,?_,?_,λx mx=>?_]
  .change (live.map (·.1)).toArray.size<=m;rw[bZ,aX,ll,<-el];simpa using sz
  .change (live.map (·.1)).toArray.size=_;rw[bZ,aX,aX,e2]
  .let#[v,h1,h2]:=e3 x mx;have h3:=(ml x.1 v).mp h1;refine(p x ?_).mono λz mz=>(mp z).mpr mz;have lv:=(List.getElem?_eq_some_iff.mp h3).1;have:(bq.zip hs.toList)[v]?=ae x:=by
    rw[Q0];show#[h3,h2]
   show eI this
 .change y∈((live.map (·.2)).toArray.filterMap (es[·]?)).toList ↔ _;rw[eo];constructor
  .intro my;let#[z,_,ez]:=e4 y my;rw[<-nq]at ez;show eI ez
  .intro my;let#[v,hv,ev]:=wX my;rw[nH]at hv;have ov:bq[v]?=ae bq[v]:=cW zb;have mv:(bq[v],v)∈live:=(ml _ _).mpr ov;rw[<-e1];refine List.mem_filterMap.mpr #[v,bc.mpr #[_,mv,rfl],?_];rw[<-ev];simp
section
variable {prog:cT} {w:cj} {K:Type} [DecidableEq K] {knd:KeyKind prog w K} {A:dj} {E:au -> aI -> zk} {s:aI}
theorem NH (d) (h:carriedByValue v=ag) (q:Q af s):wpAny zf A (ofAClassStatement d v) Q E s:=by
 cases v with
 |ref a=>simp[carriedByValue]at h
 |_=>show uh (by unfold ofAClassStatement;rfl) q
theorem Fx (hk:IsTupleKey knd s.heap ks a) (h:Q af s):wpAny zf A (ofAClassStatement 8<|.ref a) Q E s:=by
 have hT:=hk.typeIs;let#[o,items,n,ho,_,hd,hi]:=hk;unfold ofAClassStatement;refine ak<|wK hT ?_;refine ak<|ax ?_;refine ak<|rK ho hd ?_;refine ak ?_;rw[<-YO];refine Ib _ (λrest r s'=>r.1=ah /\ s'=s /\ ∀ v∈rest,carriedByValue v=ag) _ ?_ ?_ _ _ #[rfl,rfl,hi.byValue]
 .rintro v rest r s' ⟨hr,rfl,ph⟩;refine ak<|NH _ (ph v bO) ?_;show ax #[rfl,rfl,λu V5=>ph u<|bD _ V5]
 .rintro⟨r1,r2⟩ s' ⟨hr,rfl,_⟩;subst hr;show ax h
theorem NI (hx:IsTupleKey knd s.heap ks x) (hl:∀ v∈l,∃ k a,v=.ref a /\ IsTupleKey knd s.heap k a) (h:Q af s):wpAny zf A (searchCouldBeSeen (.ref x) l) Q E s:=by
 refine ak ?_;refine Ib _ (λrest r s'=>r.1=ah /\ s'=s /\ ∀ v∈rest,∃ k a,v=.ref a /\ IsTupleKey knd s.heap k a) _ ?_ ?_ _ _ #[rfl,rfl,hl]
 .rintro v rest r s' ⟨hr,rfl,ph⟩;let#[k,a,rfl,ha]:=ph _ bO;have fin:r.1=ah /\ s'=s' /\ ∀ v∈rest,∃ k a,v=.ref a /\ IsTupleKey knd s'.heap k a:=#[hr,rfl,λv m=>ph v<|bD _ m];dsimp only;split
  .show ax #[rfl,fin.2]
  .refine ak<|XI hx ?_;refine ak<|XI ha ?_;refine ak<|Fx hx ?_;refine ak<|Fx ha ?_;show ax #[rfl,fin.2]
 .rintro⟨r1,r2⟩ s' ⟨hr,rfl,_⟩;subst hr;show ax h
variable (knd) in
structure ym (h:aK) (o:Obj) (es:Array<|Int×au) (ep:Nat) (t:SetTable) (xs:List<|List K×ai):zk where
 x:o.ExactSet
 d:o.data=.set es ep t
 e:es.toList=xs.map λx=>(tupleKeyHash knd x.1,.ref x.2)
 i:∀ x∈xs,IsTupleKey knd h x.1 x.2
 t:Tab t (es.toList.map (·.1))
theorem ym.f {t}(T:ym knd h o es ep t xs):t.fits es.size=ag:=by
 have e1:t.place.size=es.size:=by rw[T.t.s];simp
 have e2:t.fill=t.place.size:=by unfold SetTable.fill;rw[T.t.d];rfl
 simp[SetTable.fits,e2,e1,beq_self_eq_true,Ie,decide_eq_true_eq];rw[<-e1];show T.t.n
theorem GS (hu:A.units<cLine)
 (ho:s.heap.get? a=ae o) (T:ym knd s.heap o es ep t xs) (hx:IsTupleKey knd s.heap k x)
 (h1:k∈xs.map (·.1)->Q (.there ah) s) (h2:k∉xs.map (·.1)->∀ j,On t.mask t.place.toList (tupleKeyHash knd k) j->j<=t.mask->j∉t.place.toList->Q (.free j af) s) :
 ∀ (n f c) (sd),n<f->sd.getD (t.probeStart<|tupleKeyHash knd k)=bt t.mask c (qz t.mask<|tupleKeyHash knd k)->(bt t.mask (c+n)<|qz t.mask<|tupleKeyHash knd k).j∉t.place.toList ->
  (∀ c',c'<c->∃ (i:Nat) (y:List K×ai),t.place[i]?=ae (bt t.mask c'<|qz t.mask<|tupleKeyHash knd k).j /\ xs[i]?=ae y /\ y.1≠k) ->
  wpAny zf A (setSearchFrom a (.ref x) (tupleKeyHash knd k) ag f sd) Q E s:=by
 have aaZ:∀ {i j:Nat},t.place[i]?=ae j->∃ y,xs[i]?=ae y /\ es[i]?=ae (tupleKeyHash knd y.1,.ref y.2):=λ{i j} hi=>by
  have e1:t.place.size=es.size:=by rw[T.t.s];simp
  have e2:xs.length=es.size:=by rw[<-nH,T.e,aX]
  have lt:=(Array.getElem?_eq_some_iff.mp hi).1;have l2:i<xs.length:=by lia
  show#[xs[i],cW l2,by rw[<-nq,T.e,nY,cW l2];rfl]
 intro n;induction n using Nat.strongRecOn with
 |ind n ih=>
   intro f c sd hf afh hn hc;cases f with
   |zero=>lia
   |succ f=>
     unfold setSearchFrom;refine ak<|yR ho T.d T.f ?_;dsimp only;have gw:t.gaveWay=af:=by
      unfold SetTable.gaveWay;rcases T.t.m with e|e<;>rw[e]<;>rfl
     rw[gw,afh];erw[wV,if_false];have v:Pv t.mask (bt t.mask c<|qz t.mask<|tupleKeyHash knd k):=(Ph t.mask _).bt c
     have seen:∀ {ha:Nat->Int}{c1:Nat},(∀ i y,es[i]?=ae y->ha i=y.1)->(∀ c',c'<c1->∃ i,t.place[i]?=ae (bt t.mask c'<|bt t.mask c<|qz t.mask<|tupleKeyHash knd k).j /\ ha i≠tupleKeyHash knd k) ->
      ∀ c',c'<c+c1->∃ (i:Nat) (y:List K×ai),t.place[i]?=ae (bt t.mask c'<|qz t.mask<|tupleKeyHash knd k).j /\ xs[i]?=ae y /\ y.1≠k:=λafi yn c' z=>by
      by_cases q:c'<c
      .show hc c' q
      .let#[i,hi,hh]:=yn (c'-c) zb;rw[<-gU,show c+(c'-c)=c' by lia]at hi;let#[y,hy,ey]:=aaZ hi;show#[i,y,hi,hy,λz=>hh (by rw[afi i _ ey,z])]
     split
     rotate_left
     .ext hm;let#[z,ez,M]:=CB T.t _ (tupleKeyHash knd k) v;show(hm z ez).elim
     ext met hm;have M:=Ls T.t v hm;cases M with
     |@e c1 Hd yn=>
       have sc:=seen (λi y e=>by change (es[i]?.map (·.1)).getD 0=y.1;rw[e];rfl) yn;rw[<-gU]at Hd;have on:On t.mask t.place.toList (tupleKeyHash knd k) (bt t.mask c1<|bt t.mask c<|qz t.mask<|tupleKeyHash knd k).j:=#[c+c1,by rw[gU],λc' z=>by
        let#[i,_,hi,_]:=sc c' z;rw[<-nq]at hi;show eI hi]
       refine ax<|h2 (λmk=>?_) _ on (by have:=(v.bt c1).b;lia) (by rw[<-gU];show Hd);let#[y,my,ey]:=bc.mp mk;let#[i,hi]:=List.mem_iff_getElem?.mp my;have sz:t.place.size=xs.length:=by rw[T.t.s,T.e];simp
       have il:i<t.place.size:=by rw[sz];show(List.getElem?_eq_some_iff.mp hi).1
       have pi:t.place[i]?=ae t.place[i]:=by simp
       have mz:(t.place[i],tupleKeyHash knd k)∈t.place.toList.zip (es.toList.map (·.1)):=by
        refine eI (i:=i) ?_;rw[Q0];refine#[by rw[nq];show pi,?_];rw[T.e,cx,nY,hi,<-ey];rfl
       let#[c0,e0,a0]:=T.t.p _ mz;dsimp only at e0 a0;have lt:c0<c+c1:=by
        apply Classical.byContradiction;intro nl;by_cases q:c0=c+c1
        .rw[<-q,e0]at Hd;show Hd (by rw[Array.mem_toList_iff];show Array.getElem_mem il)
        .show Hd<|a0 _ zb
       let#[i',y',nT,aa0,ne']:=sc c0 lt;rw[e0]at nT;have:i'=i:=by
        apply Classical.byContradiction;intro ne;rcases Nat.lt_or_gt_of_ne ne with l|l
        .have:=ly T.t.r nT pi l;lia
        .have:=ly T.t.r pi nT l;lia
       subst this;rw[hi]at aa0;cases aa0;show ne' ey
     |@c c1 i hi hh hs yn=>
       have sc:=seen (λi y e=>by change (es[i]?.map (·.1)).getD 0=y.1;rw[e];rfl) yn;let#[y,hy,ey]:=aaZ hi;have iy:=T.i y<|eI hy
       have rest:wpAny zf A (do
        let ae (_,y):=es[i]?|unsupported "internal:set-entry"
        let equal <-holding [y] (eqBool y<|.ref x)
        let (es',_,t') <-setState a
        if ag&&equal then return .there ah
        let ae afj:=t'.sameMemory t.moves t.mask|unsupported "set.changed-during-lookup:is-the-new-block-at-the-old-address"
        let still <-match (if afj then t'.slot (bt t.mask c1<|bt t.mask c<|qz t.mask<|tupleKeyHash knd k).j else .empty) with
         | .live i'=>match es'[i']? with
           |some (_,y')=>do pure (if <-isSame y' y then ae i' else ah)
           |none=>pure ah
         |_=>pure ah
        match still with
        |none=>rule "set.search.anew";setSearchFrom a (.ref x) (tupleKeyHash knd k) ag f ah
        |some i'=>if equal then return .there (ae i') else setSearchFrom a (.ref x) (tupleKeyHash knd k) ag f (ae<|bt t.mask (c1+1)<|bt t.mask c<|qz t.mask<|tupleKeyHash knd k)) Q E s:=by
        rw[ey];dsimp only;refine ak<|eY<|wpAny_eqBool_tuple hu iy hx ?_;refine ak<|yR ho T.d T.f ?_;dsimp only;by_cases ek:y.1=k
        .rw[decide_eq_true ek];erw[if_true];show ax<|h1<|bc.mpr #[y,eI hy,ek]
        .rw[decide_eq_false ek];erw[wV];have sm:t.sameMemory t.moves t.mask=ae ag:=by unfold SetTable.sameMemory;simp
         rw[sm];dsimp only;rw[if_pos rfl,hs];dsimp only;rw[ey];dsimp only;refine ak<|wpAny_isSame_ref_self<|ak<|ax ?_;erw[if_false];have aht:c1<n:=by
          apply Classical.byContradiction;intro nl;by_cases q:n=c1
          .subst q;rw[<-gU]at hi;rw[<-nq]at hi;show hn<|eI hi
          .let#[i',nT,_]:=yn n zb;rw[<-gU]at nT;rw[<-nq]at nT;show hn<|eI nT
         refine ih (n-(c1+1)) zb f (c+(c1+1)) _ zb (by rw[gU t.mask (c1+1) c];rfl) (by rw[show c+(c1+1)+(n-(c1+1))=c+n by lia];show hn) λc' z=>?_;by_cases q:c'<c+c1
         .show sc c' q
         .have:c'=c+c1:=by lia
          subst this;show#[i,y,by rw[gU];show hi,hy,ek]
       cases hl:t.led with
       |true=>
         erw[if_false];show rest
       |false=>
         erw[if_true];refine ak<|NI hx (λv mv=>?_) ?_
         .let#[e,me,rfl]:=bc.mp mv;have afk:=(Array.mem_filter.mp<|Array.mem_toList_iff.mp me).1;have:e∈es.toList:=Array.mem_toList_iff.mpr afk;rw[T.e]at this;let#[z,mz,rfl]:=bc.mp this;show#[z.1,z.2,rfl,T.i z mz]
         .erw[wV,if_false];show rest
end
section
variable {s:aI}
theorem stored (ho:s.heap.get? a=ae o) (hd:o.data=.set es ep t):(s.heap.update a<|Obj.putSet es' t').get? a=ae { o with data:=.set es' (ep+1) t' }:=by
 have z:=Ii (Obj.putSet es' t') ho (by rw[putSet_of es' t' hd];rfl)
 rwa [putSet_of es' t' hd]at z
end
section
variable {prog:cT} {w:cj} {K:Type} [DecidableEq K] {knd:KeyKind prog w K} {A:dj} {E:au -> aI -> zk} {s:aI}
theorem NJ (n) (h:carriedByValue v=ag) (q:∀ b,Q b s):wpAny zf A (hashByValue n v) Q E s:=by
 cases v with
 |ref a=>simp[carriedByValue]at h
 |float b t=>show uh (by unfold hashByValue;rfl)<|q _
 |_=>first|show uh (by rfl) _|show uh (by unfold hashByValue;rfl)<|q _
theorem NK (hk:IsTupleKey knd s.heap ks a) (h:∀ b,Q b s):wpAny zf A (hashByValue 8<|.ref a) Q E s:=by
 have hT:=hk.typeIs;let#[o,items,n,ho,_,hd,hi]:=hk;refine ak<|Xv hT F.slot_tuple_hash.lookup ?_;refine ak<|rK ho hd ?_;refine ak ?_;rw[<-YO];refine Ib _ (λrest r s'=>s'=s /\ (rest≠[]->r.1=ah) /\ ∀ v∈rest,carriedByValue v=ag) _ ?_ ?_ _ _ #[rfl,λ_=>rfl,hi.byValue]
 .rintro v rest r s' ⟨rfl,hr,ph⟩;refine ak<|NJ _ (ph v bO) λb=>?_;cases b with
  |true=>show ax #[rfl,λ_=>rfl,λu V5=>ph u<|bD _ V5]
  |false=>show ax<|ax<|h af
 .rintro⟨r1,r2⟩ s' ⟨rfl,hr,_⟩;cases r1 with
  |none=>show ax<|h ag
  |some z=>show ax<|h z
theorem KJ (x:IsTupleKey knd h ks a) (ho:h.get? d=ae o) (hd:o.data=.set es ep t) (hs:Heap.SameBut d h h'):IsTupleKey knd h' ks a:=by
 let#[o',items,n,d9,hc,rV,hi]:=x;have pZ:a≠d:=by
  rintro rfl;obtain rfl:o'=o:=Option.some.inj<|d9.symm.trans ho;rw[hd]at rV;show nomatch rV
 show#[o',items,n,(hs.2 a pZ).trans d9,hc,rV,hi]
variable (knd) in
def TS (h:aK) (a:ai) (ks:List<|List K):zk:=∃ o es ep t xs,h.get? a=ae o /\ ym knd h o es ep t xs /\ (∀ k,k∈ks ↔ k∈xs.map (·.1)) /\ xs.length=ks.length /\ (t.mask=31 \/ xs.length<5)
theorem NL (ho:s.heap.get? a=ae o) (T:ym knd s.heap o es ep t xs) (h5:es.size=5) (hk:∀ k,k∈ks ↔ k∈xs.map (·.1)) (hl:xs.length=ks.length)
 (h:∀ h',Heap.SameBut a s.heap h'->TS knd h' a ks->Q () { s with heap:=h' }):wpAny zf A (setRelay a<|SetTable.grown 5) Q E s:=by
 refine ak<|yR ho T.d T.f ?_;dsimp only;let#[t',od,e,z,T',em,_,me]:=RL (.inr zj) (es.map (·.1)) (by simp[h5]) t.finger (t.movedTo 31) t.led t.plain es zj;have er:t.relaid (es.map (·.1)) (SetTable.grown 5)=ae (t',od):=e;rw[er];refine ak ?_;change wpAny _ _ (if ((od.filterMap (es[·]?)).size != es.size)=ag then _ else pure (od.filterMap (es[·]?),t')) _ _ _;rw[if_neg (by simp[z])];refine ax ?_;have g:=stored (es':=od.filterMap (es[·]?)) (t':=t') ho T.d;have sb:=Heap.SameBut.update s.heap a (Obj.putSet (od.filterMap (es[·]?)) t');refine XJ ho T.d (h _ sb ?_) (by rw[z,h5,bB];decide);have:∃ ys:List (List K×ai),(od.filterMap (es[·]?)).toList=ys.map (λx=>(tupleKeyHash knd x.1,Value.ref x.2)) /\ ∀ y∈ys,y∈xs:=by
  have al:∀ l,(∀ e∈l,e∈es.toList)->∃ ys:List (List K×ai),l=ys.map (λx=>(tupleKeyHash knd x.1,Value.ref x.2)) /\ ∀ y∈ys,y∈xs:=λl=>by
   induction l with
   |nil=>intro _;show#[[],rfl,by simp]
   |cons e l ih=>
     intro hl;let#[ys,e1,e2]:=ih λy my=>hl y<|.tail _ my;have:=hl e<|.head _;rw[T.e]at this;let#[y,my,ey]:=bc.mp this;refine#[y::ys,by rw[aS,<-e1,ey],λz mz=>?_];rcases a9.mp mz with rfl|mz
     .show my
     .show e2 z mz
  show al _ λe m=>(me e).mp m
 let#[ys,e1,e2]:=this;have xl:xs.length=es.size:=by rw[<-nH,T.e,aX]
 have yl:ys.length=xs.length:=by rw[xl,<-z,<-nH,e1,aX]
 refine#[_,_,_,_,ys,g,#[T.x,rfl,e1,λy my=>KJ (T.i y<|e2 y my) ho T.d sb,T'],λk=>?_,by lia,.inl em];rw[hk k];constructor
 .intro mk;let#[x,mx,rfl]:=bc.mp mk;have m1:(tupleKeyHash knd x.1,Value.ref x.2)∈es.toList:=by rw[T.e];show bc.mpr #[x,mx,rfl]
  have m2:=(me _).mpr m1;rw[e1]at m2;let#[y,my,ey]:=bc.mp m2;have:y.2=x.2:=by injection (Prod.mk.inj ey).2
  have:=IsTupleKey.inj (T.i y<|e2 y my)<|this▸T.i x mx;show bc.mpr #[y,my,this]
 .intro mk;let#[y,my,rfl]:=bc.mp mk;show bc.mpr #[y,e2 y my,rfl]
theorem NM (hu:A.units<cLine) (S:TS knd s.heap a ks) (hb:ks.length<17) (hx:IsTupleKey knd s.heap k x)
 (h:∀ z h',Heap.SameBut a s.heap h'->TS knd h' a (if k∈ks then ks else ks++[k])->Q z { s with heap:=h' }):wpAny zf A (setAddHashed a (.ref x)<|tupleKeyHash knd k) Q E s:=by
 let#[o,es,ep,t,xs,ho,T,hk,hl,hm]:=S;have xl:xs.length=es.size:=by rw[<-nH,T.e,aX]
 have pl:t.place.size=es.size:=by rw[T.t.s];simp
 have gp:t.place.toList.length<=t.mask:=by rw[nH];show T.t.n
 unfold setAddHashed;refine eY ?_;unfold setAddHashedIn;refine ak<|yR ho T.d T.f ?_;dsimp only;rw[if_neg (by unfold byScan;simp[Value.scannable])];let#[c,hc,nc]:=far T.t.m gp<|Ph t.mask<|tupleKeyHash knd k;have lt:c<100000:=by
  unfold SetTable.turns at hc;have:t.mask<=31:=by rcases T.t.m with e|e<;>rw[e]<;>decide
  lia
 refine ak<|GS hu ho T hx (λmk=>?_) (λnk j on hj nj=>?_) c 100000 0 ah lt zj (by rw[wR];show nc) λc' z=>absurd z<|vj _
 .have:=h af s.heap (Heap.SameBut.refl a s.heap) (by rw[if_pos<|(hk k).mpr mk];show#[o,es,ep,t,xs,ho,T,hk,hl,hm]);show ax this
 .dsimp only;have afl:=λz=>nk<|(hk k).mp z;rw[if_neg afl]at h;refine ak<|yR ho T.d T.f ?_;dsimp only;have afm:t.place.size+1<=t.mask:=by
   rcases hm with e|e
   .rw[e];lia
   .rcases T.t.m with e2|e2<;>rw[e2]<;>lia
  have bl:=(lL T.t.r j).1
  have kk:∀ pb,wpAny zf A (do
   storeSet a (SetTable.insertAt es zo (tupleKeyHash knd k,.ref x)) { (t.put j).1 with plain:=pb }
   if (!false&&({ (t.put j).1 with plain:=pb }).tooFull)=ag then do
    setRelay a (SetTable.grown<|es.size+1)
    pure ag
   else pure ag) Q E s:=λpb=>by
   have T1:=T.t.put on hj nj afm pb;have aa1:(SetTable.insertAt es zo (tupleKeyHash knd k,Value.ref x)).size=es.size+1:=by
    rw[<-nH,gh,bH,a6,pJ,pK,nH]
    lia
   have g:=stored (es':=SetTable.insertAt es zo (tupleKeyHash knd k,.ref x)) (t':={ (t.put j).1 with plain:=pb }) ho T.d;have sb:=Heap.SameBut.update s.heap a<|Obj.putSet (SetTable.insertAt es zo (tupleKeyHash knd k,.ref x)) { (t.put j).1 with plain:=pb };have ek:∀ k',k'∈ks++[k] ↔ k'∈(xs.take zo++(k,x)::xs.drop zo).map (·.1):=λk'=>by
    rw[d8,hV,hk k',Ip,aS,d8,a9]
    conv=>lhs;rw[<-vt zo xs,Ip,d8]
    constructor
    .rintro((z|z)|z)
     .show .inl z
     .show .inr<|.inr z
     .show .inr<|.inl z
    .rintro(z|z|z)
     .show .inl<|.inl z
     .show .inr z
     .show .inl<|.inr z
   have TA:ym knd (s.heap.update a<|Obj.putSet (SetTable.insertAt es zo (tupleKeyHash knd k,.ref x)) { (t.put j).1 with plain:=pb }) { o with data:=.set (SetTable.insertAt es zo (tupleKeyHash knd k,.ref x)) (ep+1) { (t.put j).1 with plain:=pb } }
    (SetTable.insertAt es zo (tupleKeyHash knd k,.ref x)) (ep+1) { (t.put j).1 with plain:=pb } (xs.take zo++(k,x)::xs.drop zo):=by
    refine#[T.x,rfl,?_,λy my=>?_,?_]
    .rw[gh,T.e];simp
    .rcases d8.mp my with my|my
     .show KJ (T.i y<|Yn my) ho T.d sb
     .rcases a9.mp my with rfl|my
      .show KJ hx ho T.d sb
      .show KJ (T.i y<|Yo my) ho T.d sb
    .rw[gh];simpa using T1
   have ln:(xs.take zo++(k,x)::xs.drop zo).length=(ks++[k]).length:=by
    rw[bH,a6,pJ,pK,bH,yT]
    lia
   have ln2:(xs.take zo++(k,x)::xs.drop zo).length=es.size+1:=by
    rw[bH,a6,pJ,pK]
    lia
   have fl:({ (t.put j).1 with plain:=pb }).fill=es.size+1:=by
    unfold SetTable.fill;rw[T1.d,T1.s];simp
    lia
   refine ak<|XJ ho T.d ?_ (by rw[aa1,bB];lia);by_cases tf:({ (t.put j).1 with plain:=pb }).tooFull=ag
   .have V6:(!false&&({ (t.put j).1 with plain:=pb }).tooFull)=ag:=tf;rw[if_pos V6];have e5:es.size+1=5:=by
     unfold SetTable.tooFull at tf;rw[fl,decide_eq_true_eq]at tf;have tf:(es.size+1)*5>=t.mask*3:=tf;rcases hm with e|e
     .rw[e]at tf;lia
     .rcases T.t.m with e2|e2<;>rw[e2]at tf<;>lia
    rw[e5];refine ak<|NL g TA (by rw[aa1,e5]) ek ln λh' afn S2=>?_;show ax<|h ag h' (sb.trans afn) S2
   .have V6:¬ (!false&&({ (t.put j).1 with plain:=pb }).tooFull)=ag:=tf;rw[if_neg V6];refine ax<|h ag _ sb #[_,_,_,_,_,g,TA,ek,ln,?_];rcases hm with e|e
    .show .inl e
    .rcases T.t.m with e2|e2
     .right;unfold SetTable.tooFull at tf;rw[fl,decide_eq_true_eq]at tf;have tf:¬ (es.size+1)*5>=t.mask*3:=tf;rw[e2]at tf
      lia
     .show .inl e2
  by_cases cp:(t.put j).1.plain=ag
  .rw[if_pos cp];refine ak<|NK hx λb=>?_;cases b with
   |true=>show kk (t.put j).1.plain
   |false=>show kk af
  .rw[if_neg cp];show ak<|ax<|kk (t.put j).1.plain
end

noncomputable abbrev afo (w:cj):Bool:=w.params.followText "set-order"
abbrev rC (w:cj):Obj:={ cls:=.type "set",dict:=ah,data:=.set #[] 0 (.fresh 0 0<|!afo w) }
theorem NO (a) (h:Q (.ref s.heap.objs.size) { s with heap:=s.heap.push (rC w) }):codeAny zf A (.call (.builtin "set.__new__") #[[.type "set",a],[]]) (wants Q E) s:=by
 refine XM<|ak<|uh (F.newCall_set_1 a)<|ax #[XO F.plain_set_new _,vd F.entry_set_new ?_];have ss:=sub_set_self;unfold Builtin.«set.__new__» Builtin.Frozenset.newClass
 wp_walk
 refine wpAny_askSetting<|ax<|ak<|Xp<|ax<|ax h

section
variable {prog:cT} {w:cj} {K:Type} [DecidableEq K] {knd:KeyKind prog w K} {A:dj} {E:au -> aI -> zk} {s:aI}
noncomputable def dk (kf:Nat->List K):Nat->List (List K)
 |0=>[]
 |i+1=>if kf i∈dk kf i then dk kf i else dk kf i++[kf i]
theorem Fy (kf:Nat->List K):∀ i,(dk kf i).length<=i
 |0=>aA _
 | i+1=>by
   have:=Fy kf i;unfold dk;split
   .lia
   .rw[bH];change _+1<=_;lia
theorem Pi (x:IsTupleKey knd h k b) (e:∀ o,h.get? b=ae o->h'.get? b=ae o):IsTupleKey knd h' k b:=by
 let#[o,its,n,ho,r]:=x;show#[o,its,n,e o ho,r]
theorem TS.move {wr:List ai}(S:TS knd h a ks) (aw:a∉wr) (k:∀ c o,c∉wr->h.get? c=ae o->h'.get? c=ae o) (nw:∀ k b,IsTupleKey knd h k b->b∉wr):TS knd h' a ks:=by
 let#[o,es,ep,t,xs,ho,T,r]:=S;show#[o,es,ep,t,xs,k a o aw ho,#[T.x,T.d,T.e,λx mx=>Pi (T.i x mx) λo e=>k _ o (nw _ _<|T.i x mx) e,T.t],r]
variable {St:Nat -> aI -> zk}
theorem GT (hu:A.units+1<cLine) (W:WalksS prog w A.in1 I fp wr G n P St) (ha:a∉fp) (kf) (hv:∀ i v,P i v->∃ b,v=.ref b /\ IsTupleKey knd h0 (kf i) b) (hb:n<=16)
 (aa2:∀ c o,h0.get? c=ae o->c∉wr /\ c≠a) (aa3:∀ i s,St i s->∀ k b,IsTupleKey knd s.heap k b->b∉wr) :
 ∀ (k i) (s),n=i+k->St i s->(∀ c o,h0.get? c=ae o->s.heap.get? c=ae o)->TS knd s.heap a (dk kf i)->(∀ s',Moved (a::wr) G s s'->TS knd s'.heap a (dk kf n)->R (.ok<|.ret .none) s') ->
  codeAny zf A (.builtin "set.update.loop" #[[.ref a,.ref I],[]]) R s:=by
 have aw:=λz=>ha<|W.sub _ z;have su:∀ c∈wr,c∈a::wr:=λc z=>.tail _ z;intro k;induction k with
 |zero=>
   intro i s hk st k0 S fin;obtain rfl:n=i:=hk;refine vd Zi (by
    rw[Zk U1 _];show ak (W.done s _ _ st λs' mv=>ax<|fin s' (mv.mono su)<|S.move aw (λc o hc e=>mv.heap c o hc e)<|aa3 _ _ st))
 |succ k ih=>
   intro i s hk st k0 S fin;have il:i<n:=by lia
   refine vd Zi ?_;rw[Zk U1 _];refine ak<|W.item i s _ _ il st λv s1 pv afp mv=>?_;let#[b,rfl,afq]:=hv i v pv;have S1:=S.move aw (λc o hc e=>mv.heap c o hc e)<|aa3 _ _ st;have k1:=λc o e=>mv.heap c o (aa2 c o e).1<|k0 c o e;have aa4:=Pi afq λo e=>k1 b o e;have aa5:=wM (knd:=knd) hu;change wpAny _ A.in1 (holding [Value.ref b] (setAdd a<|.ref b) >>= λ_=>_) _ _ s1;refine ak<|eY ?_;unfold setAdd;refine eY<|ak<|(tupleKind knd).pyHash aa5 aa4<|NM aa5 S1 (by have:=Fy kf i;lia) aa4 λz h' sb S2=>?_;have ne:∀ c,c∈fp->c≠a:=λc m z=>ha<|z▸m;have S3:=S2;refine ax #[XO U1 _,ih (i+1) _ zb (W.frame _ s1 _ _ afp (rL _ _) λc hc o e=>(sb.2 c<|ne c hc).trans e) (λc o e=>(sb.2 c (aa2 c o e).2).trans<|k1 c o e) S3 λs2 m2 S4=>fin s2 ?_ S4];refine Moved.trans W.gtrans ((mv.mono su).then_heap (rL _ _) λc o hc e=>?_) m2;show(sb.2 c λz=>hc<|z▸.head _).trans e
variable {vs:List au}
variable (knd) in
def V7 (s:aI) (ks:List<|List K) (s':aI):zk:=∃ h' tk,s'={ s with heap:=h',toks:=tk } /\ TS knd h' s.heap.objs.size ks /\ Kp s.heap h'
theorem afr (hu:A.units+1<cLine) (hh:A.handled=ah) (ht:s.heap.IsList t vs.toArray) (kf) (hi:∀ (i) v,vs[i]?=ae v->∃ b,v=.ref b /\ IsTupleKey knd s.heap (kf i) b) (hb:vs.length<=16) (h:∀ s',V7 knd s (dk kf vs.length) s'->F (.done<|.ret .none) s') :
 wpAny zf A (Builtin.«set.__init__» #[[.ref s.heap.objs.size,.ref t],[]]) F E { s with heap:=s.heap.push (rC w) }:=by
 have gS:(s.heap.push<|rC w).get? s.heap.objs.size=ae (rC w):=bC _ zj;have aa6:(s.heap.push<|rC w).IsList t vs.toArray:=ht.at λo e=>aR _ e;let#[ot,ES,_]:=id ht;have lt:=ba ES;let#[#[oc,od,ahu,pO],g1,g2,n,g3]:=id aa6;simp only at g2 g3;subst g2;subst g3;have y1:=PySem.F.sub_list_set;have y2:=PySem.F.sub_list_frozenset;have y3:(Value.type "list"==Value.type "dict")=af:=by decide
 have sz:(s.heap.push<|rC w).objs.size=s.heap.objs.size+1:=Iv ..;unfold Builtin.«set.__init__» noKeywords Builtin.Frozenset.updateFrom;generalize hP:pyIter=P
 wp_walk
 subst hP;refine Qx aa6<|ak<|Xu ?_;rw[sz];have gI:((s.heap.push<|rC w).push { cls:=.type "list_iterator",data:=.fields (List.toArray [.ref t,.int 0 0]) }).get? (s.heap.objs.size+1)=ae { cls:=.type "list_iterator",data:=.fields (List.toArray [.ref t,.int 0 0]) }:=by
  rw[<-sz];show bC _ zj
 have W:=(Walks.list (prog:=prog) (w:=w) (A:=A.in1) hh (s.heap.objs.size+1) t (bN<|vi lt) vs.toArray).toS;refine GT (a:=s.heap.objs.size) (h0:=s.heap) (I:=s.heap.objs.size+1) hu W ?_ kf (λi v e=>hi i v (by simpa using e)) (by simpa using hb) (λc o e=>?_) (λi s1 st k b x m=>?_) vs.length 0 _ zg #[#[_,gI,rfl,rfl],ht.at λo e=>aR _<|aR _ e] (λc o e=>aR _<|aR _ e) ((λe=>#[_,#[],0,_,[],e,#[#[rfl,rfl,rfl],rfl,rfl,λx m=>(by simp at m),#[.nil,rfl,.inl zj,λx m=>(nomatch m),di _,rfl,λx m=>(nomatch m)]],λk=>Iff.rfl,rfl,.inr<|wQ 4])<|aR _<|bC _ zj) λs' mv S=>?_
 .erw[a9,pM,or_false,not_or];show#[bN<|qi _,yS lt]
 .have cl:=ba e;erw[a9,pM,or_false];show#[bN<|vi cl,bN cl]
 .erw[a9,pM,or_false]at m;subst m;let#[o,its,n,ho,hc,_]:=x;let#[#[o',d9,Ee,_],_]:=st;rw[ho]at d9;cases d9;rw[hc]at Ee;show absurd Ee zc
 .let#[h',g',d',afs,Vj]:=s';have e1:g'=s.gens:=mv.gens;have e2:d'=s.drawn:=mv.drawn;have e3:Vj=s.os:=mv.os;subst e1 e2 e3;refine ax<|ax (h _ #[h',afs,rfl,by simpa using S,λc o e=>mv.heap c o ?_<|aR _<|aR _ e]);have cl:=ba e;erw[a9,pM,or_false,not_or];show#[bN cl,bN<|vi cl]
theorem GU (hu:A.units+100<cLine) (hh:A.handled=ah) (ht:s.heap.IsList t vs.toArray) (kf) (hi:∀ (i) v,vs[i]?=ae v->∃ b,v=.ref b /\ IsTupleKey knd s.heap (kf i) b) (hb:vs.length<=16) (h:∀ s',V7 knd s (dk kf vs.length) s'->Q (.ref s.heap.objs.size) s') :
 wpAny zf A (call (.type "set") [.ref t]) Q E s:=by
 let#[c,tl,f1]:=PySem.F.called_set.mro;have f2:=PySem.F.called_set.made;have f3:=PySem.F.called_set.sub;have f4:=PySem.F.called_set.notType;have f5:=PySem.F.called_set.canCreate;have f6:=PySem.F.typeCall_set_1<|.ref t;refine HW<|XM<|ax #[UZ _ (by decide +kernel),vd PySem.F.entry_type_call ?_];rw[Around.under_plain (weight_type_call_type "set" [.ref t] []) rfl]
 repeat (any_goals (first|assumption|wp_step))
 refine ug (NO (.ref t) (E:=E) (Q:=λo s1=>o=.ref s.heap.objs.size /\ s1={ s with heap:=s.heap.push (rC w) }) #[rfl,rfl]) λr s1 hr=>?_;match r,hr with
 |.error e,hr=>show hr
 |.ok (.ret o),⟨e1,e2⟩=>
   subst e1;subst e2;have gS:(s.heap.push<|rC w).get? s.heap.objs.size=ae (rC w):=bC _ zj;have ty:Shared.TypeIs { s with heap:=s.heap.push (rC w) } (.ref s.heap.objs.size) "set":=#[_,gS,rfl];have k1:=PySem.F.called_set.init.lookup;have k2:=PySem.F.called_set.init.bind<|.ref s.heap.objs.size
   repeat (any_goals (first|assumption|wp_step))
   refine ug (Qw (R:=wants (λr s2=>r=.none /\ V7 knd s (dk kf vs.length) s2) E) PySem.F.called_set.init.plain PySem.F.entry_set_init<|check_set_init_1 ty ?_) λr2 s2 E4=>?_
   .show afr (by erw[Around.in1_units];lia) (by simp[hh]) ht kf hi hb λs' e=>#[rfl,e]
   .match r2,E4 with
    |.error e,E4=>show E4
    |.ok (.ret r),⟨e3,e4⟩=>
      subst e3
      repeat (any_goals (first|assumption|wp_step))
      show h _ e4
end
end HT
namespace L2
open PySem.W
abbrev TK:=St->Hp->List Int->(St->Hp->List Int->zk)->zk
end L2
namespace L2.DL
open PySem.W
abbrev DK:=bu->List Bx->List Int->Option (bu×List Bx×List Int)
def uP:List D->Option (List Key)
 |[]=>ae []
 |d::l=>(qx d).bind λk=>(uP l).map λt=>k::t
theorem Fz:∀ {l}{ks}{vs},uP l=ae ks->aG F l vs->vs=ks.map kV:=by
 intro l_;induction l_ with
 |nil=>(intro _ _ e h;cases e;show h)
 |cons d l aB=>
   intro ks _ e h;let#[v,t,rfl,h1,h2]:=h;unfold uP at e;cases e1:qx d with
   |none=>rw[e1]at e;cases e
   |some k=>
     cases e2:uP l with
     |none=>rw[e1,e2]at e;cases e
     |some t'=>
       rw[e1,e2]at e;cases e;rw[jw e1 h1,aB e2 h2];rfl
theorem bL.length:∀ {l}{r},bL F l r->l.length=r.length
 |[],_,h=>by cases (h);rfl
 | (k,d)::l,_,h=>by
   let#[v,t,rfl,_,h2]:=h;simp[h2.length]

noncomputable def yo:DE W:=λ_ bx=>.val (.b bx.length)<|bx++[.dT []]
theorem NP:PD X T Z (.Dict [] [] pos) yo:=by
 refine PE.imp J3 λσ H Q=>bg λF r env bx R h=>λq hq=>?_;refine h F _ _ _ #[Sub.refl F,pL r [q]] (R.EC hq #[R.uE hq,[],fu,rfl]) #[q,rfl,?_];rw[<-R.len,dD<|aA _,k8];rfl
end L2.DL
namespace L2
open PySem.W

def aa7 (K:Frag) (vs:List V) (H:Hp) (Q:VK):zk:=∃ (p:ai) (ws:List V) (rs:List _),vs=[.ref p] /\ bQ K H p ws /\ ws.length=rs.length /\ rs.length<=16 /\ (∀ (i) w,ws[i]?=ae w->∃ b,w=.ref b /\ H b=ae (.tup<|(rs.getD i []).map kV)) /\ Q (.int (HT.dk (λi=>rs.getD i []) rs.length).length) H
theorem NQ (hu:X.A.units+100<cLine) (hc:X.calm=ag) (hg:Gl X "len") (hm:X.mg "len"=ah) (vV:Gl X "set") (vW:X.mg "set"=ah) (ha:PA X [a] t) (hs:DL.cJ a=ag) :
 PE X (.Call (.Name "len" p) [.Call (.Name "set" p2) [a] [] V8] [] pos) (IX (aa7 X.K) t):=by
 intro pins s σ H Q I h;have st:=DL.fH (e:=.Call (.Name "set" p2) [a] [] V8) zj [] X.env;refine rJ<|jc I hg hm XQ ?_ zc zc;refine callWith_builtin1 ?_ st<|DL.gZ zj;change wpAny _ _ (spliced ((af,eval (.Call (.Name "set" p2) [a] [] V8) X.env)::backTo pos (starEach [] X.env))) _ _ s;refine yY<|rJ<|jc I vV vW (by decide +kernel:bootBuiltins "set"=ae (.type "set")) ?_ zc zc;refine callWith_type1 (nv (ha V8 pins s σ H _ I h) λus s1 vs H1 I1 r1 q1=>?_) (DL.fH hs [] X.env) zj;let#[l,ws,rs,rfl,hl,hw,hn,hk,q]:=q1;let#[u,rfl,ru]:=Vals.one r1;cases ru;let#[its,r',pl,hz]:=I1.list hl;have ln:=r'.length;refine HT.GU (knd:=dW X.prog X.w) hu (I1.ok.hd hc) pl.isList (λi=>rs.getD i []) (λi v e=>?_) zb λs' e=>?_
 .have il:=(List.getElem?_eq_some_iff.mp e).1;have e1:ws[i]?=ae ws[i]:=cW zb;let#[u,e2,e3]:=Vals.get r' e1;rw[e]at e2;cases e2;let#[b,e4,e5]:=hk i _ e1;rw[e4]at e3;cases (e3);show#[b,rfl,lJ I1.ay e5]
 .let#[h',tk,rfl,#[o,es,ep,tb,xs,ho,T,_,xl,_],kp]:=e;have dl:=HT.Fy (λi=>rs.getD i []) rs.length;have sz:es.size=(HT.dk (λi=>rs.getD i []) rs.length).length:=by
   rw[<-nH,T.e,aX,xl,show its.length=rs.length by lia]
  refine yX (call_len_set ho T.x T.d T.f zb #[.int (HT.dk (λi=>rs.getD i []) rs.length).length,H1,I1.kept kp,#[_,by rw[sz]],q])
end L2
namespace L2.DL
open PySem.W
def tY:List D->Option (List<|List Key)
 |[]=>ae []
 |.tup d::l=>(uP d).bind λk=>(tY l).map λt=>k::t
 |_::_=>ah
theorem Lw:∀ {l}{rs}{vs},tY l=ae rs->aG F l vs->vs.length=rs.length /\ ∀ (i) w,vs[i]?=ae w->∃ b,w=.ref b /\ F b=ae (.tup<|(rs.getD i []).map kV):=by
 intro l_;induction l_ with
 |nil=>
   intro _ _ e h;cases e;cases (h);show#[rfl,λi w z=>by simp at z]
 |cons d l aB=>
   intro rs _ e h;let#[v,t,rfl,h1,h2]:=h;cases d<;>try (cases e;done)
   ext d;unfold tY at e;cases e1:uP d with
   |none=>rw[e1]at e;cases e
   |some k=>
     cases e2:tY l with
     |none=>rw[e1,e2]at e;cases e
     |some t'=>
       rw[e1,e2]at e;cases e;let#[b,us,rfl,hb,hu]:=h1;let#[i1,i2]:=aB e2 h2;rw[Fz e1 hu]at hb;refine#[by simp[i1],λi w z=>?_];cases i with
       |zero=>cases z;show#[b,rfl,hb]
       |succ i=>show i2 i w z
def He:List D->Option Res:=λxs=>match xs with
 |[.lst l]=>(tY l).bind λrs=>if rs.length<=16 then ae (.old<|.int (HT.dk (λi=>rs.getD i []) rs.length).length) else ah
 |_=>ah
theorem aft {K}:qT (aa7 K) He:=by
 intro F H xs vs Q s sub rx e k;unfold He at e;split at e
 .ext l;cases e1:tY l with
  |none=>rw[e1]at e;cases e
  |some rs=>
    rw[e1]at e;erw[bJ]at e;split at e
    .ext hn;cases e;let#[v,t,rfl,h1,h2]:=rx;cases (h2);let#[a,ws,rfl,h3,h4]:=h1;let#[i1,i2]:=Lw e1 h4;show#[a,ws,rs,rfl,.of h3,i1,hn,λi w z=>let ⟨b,e,f⟩:=i2 i w z;#[b,e,sub _ _ f],k _ _ #[rfl,rfl]]
    .cases e
 .cases e

end L2.DL
namespace HT
open PySem.W
theorem NR (A) (s) (p:nR h v a) (q:nR h u b) (hl:a.like b=ag):∃ e,SeqAt.EqAt A s v u e /\ (e=ag ↔ a=b):=by
 cases a with
 |i n=>
   cases b with
   |i m=>let#[t,rfl]:=p;let#[t',rfl]:=q;show#[_,UX n t m t',by simp]
   |_=>cases hl
 |s x=>
   cases b with
   |s y=>let#[t,rfl]:=p;let#[t',rfl]:=q;show#[_,UY x t y t',by simp]
   |_=>cases hl
theorem NS (A) (s) (p:nR h v a) (q:nR h u b) (hl:a.like b=ag) (prog) (w) (E) (Q) (k:Q (.bool<|a.lt b) s) :
 wpAny zf A (richCompare .Lt v u) Q E s:=by
 cases a with
 |i n=>
   cases b with
   |i m=>let#[t,rfl]:=p;let#[t',rfl]:=q;show(YJ k)
   |_=>cases hl
 |s x=>
   cases b with
   |s y=>let#[t,rfl]:=p;let#[t',rfl]:=q;show(lt_str k)
   |_=>cases hl
section
open PySem.SeqAt
open PySem.AutoSeq1 (wpAny_loadPart')
open PySem.MeetsSeq PySem.MeetsSeq2 PySem.MeetsSeq3
theorem AS (l b) (items tZ) (n n2) (dd ux) (sl uz) (h0) (x y) (hi:dQ h0 items.toList x) (hj:dQ h0 tZ.toList y) (hl:eG x y=ag) :
 Meets (Builtin.«tuple.__lt__» #[[.ref l,.ref b],[]])
  (λ_ R s=>s.heap.get? l=ae { cls:=.type "tuple",dict:=dd,data:=.seq items n,slots:=sl } /\ s.heap.get? b=ae { cls:=.type "tuple",dict:=ux,data:=.seq tZ n2,slots:=uz } /\
   R (.ok<|.ret<|.bool<|cC x y) s):=
 .of_wp λprog w A R s h=>by
  let#[hp,g,d,tk,os]:=s;let#[nC,hb,h]:=h;have f2:=acq;have z1:items.size=x.length:=by rw[<-hi.length];simp
  have z2:tZ.size=y.length:=by rw[<-hj.length];simp
  wp_walk using wpAny_loadPart' nC,wpAny_loadPart' hb,Ib _ (λrest b s'=>b.1=ah /\ s'=#[hp,g,d,tk,os] /\ ∃ (vs ws:List au) (p q:List aO),rest=vs.zip ws /\
   dQ h0 vs p /\ dQ h0 ws q /\ eG p q=ag /\ p.length+tZ.size=q.length+items.size /\ R (.ok<|.ret<|.bool<|cC p q) #[hp,g,d,tk,os]) _
  case turn=>
   rintro⟨v,u⟩ rest b s' ⟨yj,rfl,vs,ws,p,q,hz,hv,hw,hk,hlen,hR⟩;cases hv with
   |nil=>rw[Yp]at hz;cases hz
   |@cons v' a vs p ha Ei=>
     cases hw with
     |nil=>rw[Iq]at hz;cases hz
     |@cons u' c ws q hc afu=>
       rw[qm]at hz;injection hz with afv afw;injection afv with hy hx;subst hy hx;erw[a6]at hlen;have qO:(a.like c&&eG p q)=ag:=hk;rw[aH]at qO;unfold cC at hR;let#[e,he,aa8]:=NR A.in1 #[hp,g,d,tk,os] ha hc qO.1;refine ak<|he prog w _ _ ?_;cases e with
       |true=>
         rw[if_pos<|aa8.mp rfl]at hR
         wp_walk
         show#[rfl,rfl,_,_,_,_,afw,Ei,afu,qO.2,by lia,hR]
       |false=>
         rw[if_neg λq=>absurd (aa8.mpr q) dS]at hR
         wp_walk using (NS A.in1 #[hp,g,d,tk,os] ha hc qO.1 prog w)
         show#[_,rfl,by simpa using hR]
  case fin=>
   rintro⟨b1,b2⟩ s' ⟨yj,rfl,vs,ws,p,q,hz,hv,hw,hk,hlen,hR⟩;simp only at yj;subst yj;have hx:cC p q=decide (items.size<tZ.size):=by
    cases hv with
    |nil=>
      cases hw with
      |nil=>erw[nZ]at hlen;unfold cC;show(decide_eq_false zb).symm
      |cons c hw=>erw[nZ,a6]at hlen;unfold cC;show(decide_eq_true zb).symm
    |cons a hv=>
      cases hw with
      |nil=>erw[nZ,a6]at hlen;unfold cC;show(decide_eq_false zb).symm
      |cons c hw=>rw[qm]at hz;cases hz
   rw[hx]at hR
   wp_walk
   show#[_,rfl,by simpa[Builtin.Tuple.tupleCompareSizes] using hR]
  case h=>show⟨rfl,rfl,items.toList,tZ.toList,x,y,rfl,hi,hj,hl,by lia,h⟩
end
theorem NT (hl:IsTup s.heap l items) (hb:IsTup s.heap b tZ) (hi:dQ s.heap items.toList x) (hj:dQ s.heap tZ.toList y)
 (hk:eG x y=ag) (hu:A.units<cLine) (h:Q (.bool<|cC x y) s):wpAny zf A (compareOp .Lt (.ref l)<|.ref b) Q E s:=by
 let#[#[cls,dd,data,sl],ho,hc,n,hd]:=id hl;let#[#[ZL,ux,data2,uz],se,pQ,n2,hd2]:=id hb;subst hc hd pQ hd2;show richCompare_meets_room (op:=.Lt) #[_,ho,rfl] #[_,se,rfl] PySem.F.slot_tuple_lt PySem.F.entry_tuple_lt (PySem.F.args_tuple_lt_2 _ _) (AS l b items tZ n n2 dd ux sl uz s.heap x y hi hj hk)
  #[ho,se,#[(λx=>nomatch x),h]] hu
end HT
namespace L2.DL
open PySem.W
open HT (aO eG cC)
def afx:R2:=λx y H Q=>∃ F a b vs us l m,x=.ref a /\ y=.ref b /\ Sub F H /\ F a=ae (.tup vs) /\ F b=ae (.tup us) /\ aG F (l.map km) vs /\ aG F (m.map km) us /\ eG l m=ag /\ Q (.bl<|cC l m) H
theorem RM (hu:X.A.units<cLine):bV X (compareOp .Lt) afx:=by
 intro pins s σ H x y v u Q I rx ry h;let#[F,a,b,vs,us,l,m,rfl,rfl,sub,fa,fb,da,db,k,q]:=h;cases rx;cases ry;let#[_,its,r1,p1]:=(I.ay a _<|sub _ _ fa);let#[_,xD,r2,p2]:=(I.ay b _<|sub _ _ fb);show HT.NT p1 p2 (by simpa using DB I sub da r1) (by simpa using DB I sub db r2) k hu #[.bl _,H,I,rfl,q]
def kZ:D->D->Option Res
 |.int i,.int j=>ae<|.old<|.bl<|decide (i<j)
 | .tup a,.tup b=>(match sH a,sH b with
   |some l,ae m=>if eG l m=ag then ae (.old<|.bl<|cC l m) else ah
   |_,_=>ah)
 |_,_=>ah
end L2.DL
namespace HT
open PySem.W

theorem Pj:∀ {vs}{ns},IntsAre vs ns->dQ h vs (ns.map aO.i)
 |_,_,.nil=>.nil
 |_,_,.cons n t r=>.cons #[t,rfl]<|Pj r
theorem Pk:∀ {vs}{ns},dQ h vs (ns.map aO.i)->IntsAre vs ns
 |_,[],.nil=>.nil
 |_,n::ns,.cons ⟨t,e⟩ r=>by subst e;show .cons n t<|Pk r
theorem BJ:∀ a b:List Int,eG (a.map aO.i) (b.map aO.i)=ag
 |[],_=>rfl
 |_::_,[]=>rfl
 | a::l,b::m=>by
   have:=BJ l m;unfold eG at this ⊢;rw[aS,aS,qm,nG,this];rfl
theorem GV (key) (hh:A.handled=ah) (hu:A.units+8<cLine) (hv:s.heap.IsItemsView r d) (hm:s.heap.DictAt (L2.dW prog w) d ao ep) (dF:ao.length<64)
 (hI:∀ q∈ao,∀ v,(L2.dW prog w).is q.1 v=ag->IntsAre [v,q.2] (key q))
 (h:∀ (h') (tk:Nat) (a:ai) (k:Nat) (qs:List<|ai×List Int),(∀ b o,s.heap.get? b=ae o->h'.get? b=ae o /\ b≠a /\ b∉qs.map (·.1))->a∉qs.map (·.1)->(qs.map (·.1)).Nodup->h'.get? a=ae (seqObj "list" (qs.map λq=>Value.ref q.1).toArray k) ->
  (∀ q∈qs,∃ vs,IsTup h' q.1 vs.toArray /\ IntsAre vs q.2)->(qs.map (·.2)).Perm (ao.map key)->qs.Pairwise (λa b=>lexLt (a7<|b.2.map aO.i) (a7<|a.2.map aO.i)=af)->Q (.ref a) { s with heap:=h',toks:=tk }) :
 wpAny zf A (call (.builtin "sorted") [.ref r]) Q E s:=by
 refine UQ Q5 Q6 Q7 (Q8 _) ?_;unfold Builtin.«sorted»;refine ak<|ax ?_;have h6:ao.length<=sizeLine:=cw (kM dF) zc;refine ak<|kdx_collect hh hv hm h6 λh1 tk as hk hl G=>?_;refine ak<|yP ?_ (by rw[aX,hl];show h6);generalize V9:h1.push (seqObj "list" (as.map Value.ref).toArray 0)=h2;have uo:h2.get? h1.objs.size=ae (seqObj "list" (as.map Value.ref).toArray 0):=by rw[<-V9];show bC _ zj
 have aa9:∀ b o,h1.get? b=ae o->h2.get? b=ae o:=λb o q=>by rw[<-V9];show aR _ q
 change wpAny _ _ _ _ _ { s with heap:=h2,toks:=tk };have afy:∃ ps:List (ai×List Int),ps.map (·.1)=as /\ ps.map (·.2)=ao.map key /\ ∀ p∈ps,rn (ao.map λq=>(key q).map aO.i) h2 (.ref p.1) (a7<|p.2.map aO.i):=by
  refine#[as.zip<|ao.map key,by rw[List.map_fst_zip];rw[aX];lia,by rw[QR];rw[aX];lia,λp m=>?_];let#[j,hj]:=List.mem_iff_getElem?.mp m;let#[e1,e2]:=Q0.mp hj;rw[nY]at e2;let#[q,e3,e4]:=Option.map_eq_some_iff.mp e2;let#[v,k,x,g1,g2,g3]:=G.pairs j p.1 e1;rw[e3]at g1;cases g1;have:=hI _ (eI e3) v g2;have t2:=e4▸this;have it:=Pj (h:=h2) t2;have mm:p.2.map aO.i∈ao.map λq=>(key q).map aO.i:=by rw[<-e4];show bc.mpr #[_,eI e3,rfl]
  cases ek:p.2 with
  |nil=>rw[ek]at t2;cases t2
  |cons n l=>
    rw[ek]at it mm;show#[p.1,[v,x],n,l.map aO.i,rfl,#[_,aa9 _ _ g3,rfl,0,rfl],it,mm,rfl]
 let#[ps,p1,p2,p3]:=afy;have HH:∀ v∈as.map Value.ref,∃ ns,rn (ao.map λq=>(key q).map aO.i) h2 v ns:=λv m=>by
  let#[a,ma,rfl]:=bc.mp m;rw[<-p1]at ma;let#[q,mq,rfl]:=bc.mp ma;show#[_,p3 q mq]
 refine ak<|eY<|qh Q9 #[_,uo,rfl] UA (Fo (bX<|ao.map λq=>(key q).map aO.i) uo HH zb (λne=>Bc (λl m l2 m2=>by let#[x,_,rfl]:=bc.mp m;let#[y,_,rfl]:=bc.mp m2;show BJ _ _) hu HH ne) (by rw[aX,hl];show dF) λout o1 o2=>#[_,rfl,ax #[_,rfl,?_]])<|UB _;let#[e,he]:=sortedHeap_at uo;have pm:out.toList.Perm (ps.map λq=>Value.ref q.1):=by
  rw[show (ps.map λq=>Value.ref q.1)=as.map Value.ref by rw[<-p1,cx];rfl];show o1
 let#[qs,q1,q2]:=L2.DL.KC pm zj;have aba:h2.objs.size=h1.objs.size+1:=by rw[<-V9,Iv]
 have old:∀ b o,h1.get? b=ae o->(sortedHeap h2 h1.objs.size (as.map Value.ref) out).get? b=ae o:=λb o q=>by
  have lt:=ba q;show(YL (bN lt) (by rw[aba];show vi lt)).trans (aa9 b o q)
 have mem:∀ a,a∈qs.map (·.1) ↔ a∈as:=λa=>by rw[<-p1];show(q2.map (·.1)).mem_iff
 refine h _ tk _ e qs (λb o q=>#[old b o<|hk b o q,bN<|ba<|hk b o q,λz=>?_]) (λz=>(absurd (G.there<|(mem _).mp z)<|eZ _)) ?_ ?_ (λq m=>?_) ?_ ?_
 .have:=G.above b<|(mem b).mp z;show absurd (ba q)<|Nat.not_lt.mpr<|kM this
 .rw[(q2.map (·.1)).nodup_iff,p1];show(G.rise.imp λr=>bN r)
 .rw[he];have:out=(qs.map λq=>Value.ref q.1).toArray:=by apply Array.toList_inj.mp;rw[q1]
  rw[<-this]
 .let#[b,vs,n,l,eb,#[o,t1,t2],t3,tm,t4]:=p3 q<|q2.mem_iff.mp m;cases eb;let#[y,_,ey]:=bc.mp tm;refine#[vs,#[o,?_,t2],Pk<|(L2.DL.code_inj (by rw[<-ey];show BJ _ _) t4)▸t3];have lt:=G.there<|(mem q.1).mp<|wY m;show(YL (bN lt) (by rw[aba];show vi lt)).trans t1
 .rw[<-p2];show q2.map _
 .unfold uL at o2;rw[q1,uj]at o2;show Zm (λ{a b} ma mb r=>r _ _ (p3 a<|q2.mem_iff.mp ma)<|p3 b<|q2.mem_iff.mp mb) o2
end HT
namespace L2
open PySem.W
def rD (H:Hp):List (ai×HO)->Hp
 |[]=>H
 |q::l=>upd (rD H l) q.1 q.2
theorem oH:∀ {l},b∉l.map (·.1)->rD H l b=H b:=by
 intro l_;induction l_ with
 |nil=>show λ_=>rfl
 |cons q l aB=>
   intro h;rw[aS,a9,not_or]at h;change upd _ q.1 q.2 b=_;rw[fv h.1,aB h.2]
theorem NU:∀ {l},rD H l b=ae u->(b,u)∈l \/ H b=ae u:=by
 intro l_;induction l_ with
 |nil=>show λh=>.inr h
 |cons q l aB=>
   intro h;by_cases e:b=q.1
   .subst e;rw[show rD H _=upd _ q.1 q.2 from rfl,fu]at h;cases h;show .inl<|bO ..
   .rw[show rD H _=upd _ q.1 q.2 from rfl,fv e]at h;show(aB h).imp (bD _) id
theorem cq.any (x:cq P w H h a o):∃ u,h.get? a=ae u:=by
 cases o with
 |lst xs=>let#[_,_,_,_,e]:=x;show#[_,e]
 |tup xs=>let#[_,_,_,o,e,_]:=x;show#[_,e]
 |dK ao=>let#[_,_,_,_,o,_,_,e,_]:=x;show#[_,e]
 |dT ao=>let#[_,_,_,_,o,_,_,e,_]:=x;show#[_,e]
 |set S n=>let#[o,_,_,_,e,_]:=x;show#[_,e]
 |ins C dx fs=>let#[_,_,_,e,_]:=x;show#[_,e]
 |own y=>show x
 |xd fs=>let#[_,#[_,_,_,e,_],_]:=x;show#[_,e]
 |xj lo hi=>let#[_,_,_,e]:=x;show#[_,e]
 |bA ob u=>let#[e,_]:=x;show#[_,e]
 |qD ps=>show#[_,(x)]
 |met f y=>show#[_,(x)]
 |ext φ=>let#[_,#[_,e],_]:=x;show#[_,e]

theorem Inv.afz (I:Inv X pins σ H s) (k:∀ b u,s.heap.get? b=ae u->h'.get? b=ae u /\ b∉l.map (·.1)) (new:∀ q∈l,cq X.prog X.w (rD H l) h' q.1 q.2) :
 Inv X pins σ (rD H l) { s with heap:=h',toks:=t' }:=by
 have old:∀ b u,H b=ae u->rD H l b=ae u:=λb u e=>by
  let#[ob,eb]:=(I.ay b u e).any;rw[oH (k b ob eb).2];show e
 refine I.un #[λb u q _ _ _=>(k b u q).1,λb u q _ _ _=>#[u.slots,(k b u q).1],λb u q n _=>(oH (k b u q).2).trans n,λb u q _=>#[u,(k b u q).1],λb xs q=>old _ _ q,λb u xs q=>old _ _ q,λb ps q=>#[#[],by rw[old _ _ q];simp]] λb u e=>?_;rcases NU e with m|m
 .show new _ m
 .show(I.ay b u m).eK (λc v _ q=>(k c v q).1) (λc q=>old _ _ q) λc xs q=>old _ _ q

def afA (td:TE):TE:=λσ H Q=>td σ H λx H1=>∃ (a:ai) (ps:List<|Int×Int),x=.ref a /\ Rd H1 a (.dK<|ps.map λp=>(Sum.inl p.1,V.int p.2)) /\ ps.length<64 /\ ∀ (bs:List<|ai×List Int) (l),(∀ b∈bs,H1 b.1=ah)->H1 l=ah->l∉bs.map (·.1)->(bs.map (·.1)).Nodup->bs.map (λb=>b.2.map HT.aO.i)=DL.nS (ps.map λp=>[HT.aO.i p.1,.i p.2]) ->
 Q (.ref l) (upd (rD H1<|bs.map λb=>(b.1,.tup<|b.2.map V.int)) l<|.lst<|bs.map λb=>V.ref b.1)
noncomputable def abb:Key×au->List Int
 |(.inl i,.int j _)=>[i,j]
 |_=>[]
theorem NV:∀ {ps:List (Int×Int)}{vs:List (Key×au)},KV (ps.map λp=>(Sum.inl p.1,V.int p.2)) vs->vs.map abb=(ps.map λp=>[p.1,p.2]) /\ ∀ q∈vs,∃ i j t,q=(Sum.inl i,.int j t):=by
 intro l_;induction l_ with
 |nil=>(intro vs h;cases h;show#[rfl,λ_ m=>nomatch m])
 |cons p ps aB=>
   intro _ h;cases h with
   |@cons _ q _ vs h t=>
     let#[a,b]:=aB t;let#[k,x]:=q;let#[h1,t',h2]:=h;cases h1;cases h2;refine#[by rw[aS,aS,a];rfl,λq m=>?_];rcases a9.mp m with rfl|m
     .show#[_,_,_,rfl]
     .show b q m
theorem Ap:∀ {us}{ns},IntsAre us ns->Vals (ns.map V.int) us
 |_,_,.nil=>.nil
 |_,_,.cons n t h=>.cons #[t,rfl]<|Ap h
theorem GW (hc:X.calm=ag) (hu:X.A.units+8<cLine) (hg:Gl X "sorted") (hm:X.mg "sorted"=ah) (ho:PE X o td) (hb:attributeBase o "items" X.env (eval o X.env)=eval o X.env) (hl:(apos.endLine==dI.line)=ag) :
 PE X (.Call (.Name "sorted" p) [.Call (.Attribute o "items" apos) [] [] dI] [] pos) (afA td):=by
 intro pins s σ H Q I h;have st:=DL.fH (e:=.Call (.Attribute o "items" apos) [] [] dI) zj [] X.env;refine rJ<|jc I hg hm boot_sorted ?_ zc zc;refine callWith_builtin1 ?_ st<|DL.gZ zj;rw[st];change wpAny _ _ (spliced ((af,eval (.Call (.Attribute o "items" apos) [] [] dI) X.env)::backTo pos (starEach [] X.env))) _ _ s;refine yY<|Xx hb zj hl Y1 Za PySem.F.type_dict_items<|aV (ho pins s σ H _ I h) λu s1 x H1 I1 rx hh=>?_;let#[a,ps,ex,ea,dF,q1]:=hh;subst ex;obtain rfl:u=Value.ref a:=rx;let#[t1,t2,_]:=J4 I1<|.inl #[_,ea];refine#[t1,t2,UN zj<|abI ?_];let#[zl,hd,vs,rel,dd]:=m9 I1.ay ea;let#[ep,dat]:=dd.dictAt;let#[k1,k2]:=NV rel;refine HZ Za dd.typeIs PySem.F.entry_dict_items (PySem.F.args_dict_items_1 _) (meets_dict_items (dW X.prog X.w) a hd) #[#[vs,dd],?_];have I2:Inv X pins σ H1 { s1 with heap:=s1.heap.push { cls:=.type "dict_items",data:=.fields (List.toArray [.ref a]) } }:=I1.kept λb o e=>aR _ e;have lv:vs.length=ps.length:=by
  have:=congrArg List.length k1;simpa using this
 refine yX<|HT.GV abb (I1.ok.hd hc) hu #[_,bC _ zj,rfl,rfl] (dat.push _) zb (λq m v hv=>?_) λh' tk l k qs ok nl nd hL tp pm ord=>?_
 .let#[i,j,t,rfl]:=k2 q m;rcases f7 (k:=Sum.inl i) hv with⟨i',t',e1,rfl⟩|⟨y,t',e1,rfl⟩
  .cases (show (Sum.inl i)=Sum.inl i' from e1);show .cons _ _<|.cons _ _ .nil
  .cases (show (Sum.inl i)=Sum.inr y from e1)
 .have fr:∀ b,(b=l \/ b∈qs.map (·.1))->H1 b=ah:=λb z=>by
   cases q:H1 b with
   |none=>rfl
   |some w=>
     let#[ob,eb]:=(I2.ay b w q).any;let#[_,o1,o2]:=ok b ob eb;show z.elim (λz=>absurd z o1) λz=>absurd z o2
  have so:qs.map (λb=>b.2.map HT.aO.i)=DL.nS (ps.map λp=>[HT.aO.i p.1,.i p.2]):=by
   refine DL.oa ?_ ?_ ?_
   .unfold DL.tW;rw[cg];intro a ma;rw[cg];intro b mb;let#[x,_,rfl]:=bc.mp ma;let#[y,_,rfl]:=bc.mp mb;show HT.BJ [x.1,x.2] [y.1,y.2]
   .have:=(k1▸pm).map λl:List Int=>l.map HT.aO.i;rw[cx,cx]at this;show this
   .rw[uj];show ord
  have ahv:qs.length<64:=by
   have:=pm.length_eq;erw[aX]at this
   lia
  have ahw:(64)<=sizeLine:=by decide
  have I3:=I2.afz (t':=tk) (l:=(l,.lst<|qs.map λb=>V.ref b.1)::qs.map λb=>(b.1,HO.tup<|b.2.map V.int)) (λb u e=>by
   let#[o0,o1,o2]:=ok b u e;refine#[o0,?_];rw[aS,a9,cx];show λz=>z.elim o1 o2) (λq m=>by
   rcases a9.mp m with rfl|m
   .refine#[by rw[aX];lia,_,k,?_,hL];have:∀ l:List<|ai×List Int,Vals (l.map λp=>V.ref p.1) (l.map λp=>Value.ref p.1):=λl=>by
     induction l with
     |nil=>show .nil
     |cons a l ih=>show .cons zj ih
    show this qs
   .let#[q,mq,rfl]:=bc.mp m;let#[us,tu,iu]:=tp q mq;refine#[?_,us,Ap iu,tu];let#[q',m3,e3]:=bc.mp<|pm.mem_iff.mp<|wY mq;let#[i,j,t,rfl]:=k2 q' m3;rw[<-e3];change (2:Nat)<=sizeLine
    lia)
  show#[.ref l,_,I3,rfl,q1 qs l (λb m=>fr b.1<|.inr<|wY m) (fr l<|.inl zj) nl nd so]
end L2
namespace L2.DL
open PySem.W

noncomputable def yq:List (Key×D)->Option (List<|Int×Int)
 |[]=>ae []
 |(.inl k,.int v)::l=>(yq l).map ((k,v)::·)
 |_::_=>ah
theorem CC:∀ {l}{ao}{ps},aL F l ao->yq l=ae ps->ao=ps.map λp=>(Sum.inl p.1,V.int p.2)
 | [],_,_,h,e=>by
   cases (h);cases e;rfl
 | (.inl k,.int v)::l,_,_,h,e=>by
   let#[u,t,rfl,h1,h2]:=h;let#[ns,e1,rfl]:=Option.map_eq_some_iff.mp<|e;cases (h1);rw[aS,CC h2 e1]
 |(.inr _,_)::_,_,_,_,e=>by cases e
 |(.inl _,.non)::_,_,_,_,e=>by cases e
 |(.inl _,.bl _)::_,_,_,_,e=>by cases e
 |(.inl _,.str _)::_,_,_,_,e=>by cases e
 |(.inl _,.tup _)::_,_,_,_,e=>by cases e
 |(.inl _,.lst _)::_,_,_,_,e=>by cases e
 |(.inl _,.az _)::_,_,_,_,e=>by cases e
theorem NW:∀ ns:List Int,aG F ((ns.map HT.aO.i).map km) (ns.map V.int):=by
 intro l_;induction l_ with
 |nil=>show rfl
 |cons n ns aB=>show#[_,_,rfl,rfl,aB]
theorem Rel.afB:∀ {bs:List (ai×List Int)}{F},Rel T F r σ H env bx->(∀ b∈bs,H b.1=ah)->(bs.map (·.1)).Nodup->∃ F',bf F r F' r /\ Rel T F' r σ (rD H<|bs.map λb=>(b.1,.tup<|b.2.map V.int)) env bx /\ aG F' ((bs.map λb=>b.2.map HT.aO.i).map cU) (bs.map λb=>V.ref b.1):=by
 intro l_;induction l_ with
 |nil=>(intro F R _ _;show#[F,.refl F r,R,rfl])
 |cons b bs aB=>
   intro F R h nd;rw[aS,rR]at nd;let#[F1,g1,R1,d1]:=aB R (λc m=>h c<|bD _ m) nd.2;have hn:rD H (bs.map λb=>(b.1,HO.tup<|b.2.map V.int)) b.1=ah:=by
    rw[oH (by rw[cx];show nd.1)];show h b<|bO ..
   have g2:=R1.tL (o:=.tup<|b.2.map V.int) hn;show#[_,g1.trans g2,R1.xO hn,.cons #[b.1,_,rfl,fu,NW b.2]<|aG.mono g2.s _ d1]
def Hf (bo:Bool) (m:DE W):DE W:=λenv bx=>fC (m env bx) λx bx1=>match (p9 bx1 x).bind yq with
 |some ps=>if ps.length<64 then b9 bo (ae<|.lst<|(nS<|ps.map λp=>[HT.aO.i p.1,.i p.2]).map cU) bx1 else .bad
 |none=>.bad
theorem GX (bo) (hc:X.calm=ag) (hu:X.A.units+8<cLine) (hg:Gl X "sorted") (hm:X.mg "sorted"=ah) (ho:PD X T Z o ma) (hb:attributeBase o "items" X.env (eval o X.env)=eval o X.env) (hl:(apos.endLine==dI.line)=ag) :
 PD X T Z (.Call (.Name "sorted" p) [.Call (.Attribute o "items" apos) [] [] dI] [] pos) (Hf bo ma):=by
 refine PE.imp (GW hc hu hg hm ho hb hl) λσ H Q=>bg λF r env bx R h=>#[F,r,env,bx,R,End.bind h λx bx1 F1 r1 v H1 g1 R1 d1 h1=>?_];split at h1
 .ext ps q;split at h1
  .ext dF;let#[l,q1,q2]:=Option.bind_eq_some_iff.mp q;let#[a,ao,rfl,k1,k2]:=BG R1 d1 q1;rw[CC k2 q2]at k1;refine#[a,ps,rfl,k1,dF,λbs l hb hl nl nd so=>?_];let#[F2,g2,R2,d2]:=Rel.afB R1 hb nd;rw[so]at d2;refine gQ R2 (End.weak g2 h1) #[l,_,rfl,?_,rfl,d2];rw[oH (by rw[cx];show nl)];show hl
  .show h1.elim
 .show h1.elim

noncomputable def uQ (l:List<|Key×D) (k:Key):List (Key×D):=l.filter λkv=>decide (kv.1≠k)
theorem aL.drop (k):∀ {l}{vs},aL F l vs->aL F (uQ l k) (tQ vs k)
 | [],_,h=>by
   cases (h);show rfl
 | (k',d)::l,_,h=>by
   let#[v,t,rfl,h1,h2]:=h;have ih:=aL.drop k h2;by_cases c:k'=k
   .have e1:uQ ((k',d)::l) k=uQ l k:=wZ (by simp[c]);have e2:tQ ((k',v)::t) k=tQ t k:=wZ (by simp[c]);rw[e1,e2];show ih
   .have e1:uQ _ k=(k',d)::uQ l k:=w8 (by simp[c]);have e2:tQ _ k=(k',v)::tQ t k:=w8 (by simp[c]);rw[e1,e2];show#[v,_,rfl,h1,ih]
theorem bf.at (g:bf F r F' r') {n:Nat}(h:r[n]?=ae a):r'[n]?=ae a:=by
 let#[t,e]:=g.p;rw[<-e,cS (List.getElem?_eq_some_iff.mp h).1];show h
def yr (m k:DE W):DE W:=λenv bx=>fC (m env bx) λx bx1=>match x with
 | .b n=>(match bx1[n]? with
   | some (.az _)=>fC (k env bx1) λy aq=>(match y,aq[n]? with
     |.d d,ae (.az l)=>(match qx d with|some k=>.val (.d<|(kH l k).getD .non) aq|none=>.bad)
     |_,_=>.bad)
   |_=>.bad)
 |_=>.bad
theorem NX (h:tD T Z (yr ma mb) σ H Q):aaz (tD T Z ma) (tD T Z mb) σ H Q:=by
 let#[F,r,env,bx,R,h]:=h;refine#[F,r,env,bx,R,End.bind h λx bx1 F1 r1 v H1 g1 R1 d1 h1=>?_];cases x with
 |b n=>
   simp at h1;let#[a,rfl,ha]:=d1;let#[c,hc,kc]:=R1.kG ha;rw[hc]at h1;cases c with
   |az l0=>
     let#[_,xV,k0,_]:=kc;refine#[a,rfl,.inl #[xV,.inl k0],F1,r1,env,bx1,R1,End.bind h1 λy aq F2 r2 u H2 g2 R2 d2 h2=>?_];let#[c2,pQ,vX]:=R2.kG<|g2.at ha;rw[pQ]at h2;split at h2
     .ext d l eq;cases eq;let#[hF,vs,k1,k2]:=vX;split at h2
      .ext k e1;cases jw e1 d2;refine#[_,qZ.k k1,?_];cases q:kH l k with
       |none=>
         rw[q]at h2;rw[aL.none k2 q];show h2 F2 r2 _ H2 (.refl F2 r2) R2 zj
       |some w=>
         rw[q]at h2;let#[z,e3,e4]:=aL.some k2 q;rw[e3];show h2 F2 r2 _ H2 (.refl F2 r2) R2 e4
      .show h2.elim
     .show h2.elim
   |_=>show h1.elim
 |_=>show h1.elim
def yt (m k:DE W):aE:=λenv bx=>bp (m env bx) λx bx1=>bp (k env bx1) λy aq=>match x,y with
 | .b n,.d d=>(match aq[n]?,qx d with
   |some (.az l),ae k=>if (kH l k).isSome then .nx env (aq.set n<|.az<|uQ l k) else .bad
   |_,_=>.bad)
 |_,_=>.bad
theorem Th {D}(h:tS T Z (yt ma mb) D σ H):aax (tD T Z ma) (tD T Z mb) D σ H:=by
 let#[F,r,env,bx,R,h]:=h;refine#[F,r,env,bx,R,End.bp h λx aq F2 r2 v H2 g2 R2 d2 h2=>#[F2,r2,env,aq,R2,End.bp h2 λy cb F3 r3 u H3 g3 R3 d3 h3=>?_]];split at h3
 .let#[a,rfl,ha]:=(g3.den d2);let#[c,hc,kc]:=R3.kG ha;rw[hc]at h3;split at h3
  .ext l k e1 e2;cases e1;split at h3
   .ext hl;let#[hF,ao,k1,k2]:=kc;cases jw e2 d3;show#[a,ao,k,rfl,k1,rfl,by rw[Lh k2];show hl,h3 F3 r3 _ _ (.refl F3 r3)<|R3.write ha hF #[hF,_,fu,aL.drop k k2]]
   .show h3.elim
  .show h3.elim
 .show h3.elim
end L2.DL
namespace L2
open PySem.W

theorem Inv.abd (I:Inv X pins σ H s) (h:H a=ae u0) (n1:∀ xs,u0≠.tup xs) (n2:∀ o v,X.H₀ a≠ae (.bA o v)) (n3:∀ ps,u0≠.qD ps) (n4:∀ y,u0≠.own y) (new:cq X.prog X.w (upd H a u) s.heap a u):Inv X pins σ (upd H a u) s:=by
 have ne:∀ {b},H b=ah->upd H a u b=ah:=λ{b} e=>by rw[fv (λz=>by rw[z,h]at e;cases e)];show e
 have ke:∀ {b v},H b=ae v->v≠u0->upd H a u b=ae v:=λ{b v} e n=>by rw[fv (λz=>by rw[z,h]at e;cases e;show n rfl)];show e
 refine#[I.ok,I.os,I.bare,#[I.base.keep,I.base.slot,λb o e n x=>ne<|I.base.free b o e n x,I.base.there,λb xs e=>ke (I.base.kA b xs e) λz=>n1 xs z.symm,λb o v e=>?_,λb ps e=>?_],I.loc,I.cell,ne I.free,λx c e=>ne<|I.nK x c e,λp hp=>?_,λb v e=>?_,I.len]
 .rw[fv λz=>n2 o v (by rw[<-z];show e)];show I.base.kP b o v e
 .let#[m,q]:=I.base.nJ b ps e;show#[m,ke q λz=>n3 _ z.symm]
 .let#[q1,q2,q3]:=I.pin p hp;show#[q1,ne q2,q3]
 .by_cases z:b=a
  .subst z;rw[fu]at e;cases e;show new
  .rw[fv z]at e;show(I.ay b v e).eK (λ_ _ _ q=>q) (λc q=>ke q λz=>n4 _ z.symm) λc xs q=>ke q λz=>n1 _ z.symm
theorem Inv.freeze (I:Inv X pins σ H s) (h:H a=ae (.dK ao)):∃ o,s.heap.get? a=ae o /\ (∀ o v,X.H₀ a≠ae (.bA o v)) /\ Inv X pins σ (upd H a<|.bA o<|.dK ao) s:=by
 let#[z,y,vs,r,ob,es,ep,e,c]:=I.ay a _ h;have nf:∀ o v,X.H₀ a≠ae _:=λo v q=>by have:=I.base.kP a o v q;rw[h]at this;cases this
 show#[ob,e,nf,I.abd h (λ_ q=>nomatch q) nf (λ_ q=>nomatch q) (λ_ q=>nomatch q) #[e,z,y,vs,r,ob,es,ep,e,c]]
theorem Inv.Hg (I:Inv X pins σ H s) (h:H a=ae (.bA o<|.dK ao)) (nf:∀ o v,X.H₀ a≠ae (.bA o v)):Inv X pins σ (upd H a<|.dK ao) s:=by
 let#[_,q]:=I.ay a _ h;show I.abd h (λ_ q=>nomatch q) nf (λ_ q=>nomatch q) (λ_ q=>nomatch q) q
def Hh (a:ai) (o:Obj) (ao:List<|Key×V):It:=
 #[λi H=>H a=ae (.bA o<|.dK ao) /\ i<ao.length,λi H x H'=>H'=H /\ ∃ k v,ao[i]?=ae (k,v) /\ x=kV k,λi H=>H a=ae (.bA o<|.dK ao) /\ ao.length<=i]
theorem Paired.at_:∀ {l}{m}{i:Nat}{x},Paired F l m->l[i]?=ae x->∃ y,m[i]?=ae y /\ F x y
 |_,_,_,_,.nil,e=>by simp at e
 |_,_,0,_,.cons r t,e=>by simp at e;subst e;show#[_,rfl,r]
 |_,_,i+1,_,.cons r t,e=>by let#[y,q,f]:=Paired.at_ t (by simpa using e);show#[y,by simpa using q,f]
theorem BK (q:cq P w H h a<|.bA o<|.dK ao) (ed:o.data=.dict es ep):∃ vs,KV ao vs /\ h.DictAt (dW P w) a vs ep:=by
 let#[e,_,_,vs,r,ob,es',IJ,e',c1,c2,c3]:=q;rw[e]at e';cases e';rw[ed]at c2;cases c2;show#[vs,r,o,es,e,c1,ed,c3]
theorem GY {K} (it) (ed:o.data=.dict es ep) (ne:a≠it):Turn P w K tg (Hh a o ao) [it] it (λi h=>h.IsKeyIter it a i ao.length ep) where
 mem:=by simp
 obj:=λi h st b hb=>by
  have e:b=it:=by simpa using hb
  subst e;let#[o,e,c,d]:=st;show#[o,e,λv z=>by rw[d]at z;cases z]
 keep:=λi h h' st k=>st.at λo e=>k it zg o e
 item:=by
  intro X hP hw hK hc i pins s σ H E I hf st hg;subst hP hw hK;let#[ha,hi]:=hg;let#[vs,r,da]:=BK (I.ay a _ ha) ed;have hl:=Paired.length r;obtain⟨⟨k,v⟩,hx⟩:∃ p,ao[i]?=ae p:=#[ao[i],by simp];let#[#[k',v'],hy,e1,_]:=Paired.at_ r hx;cases (e1);let#[f0,f1,f2,f3,f4,f5]:=hf it zg;rw[hl]at st;refine wpAny_pyNext_dict_item st da hy λkey h' Vg pd sb=>?_;let#[o,e,c,d]:=id pd;show#[key,rfl,Cc e c d zc #[kV k,H,(I.turned (λb o hb e=>(sb.2 b hb).trans e) f0 f1 f3 f4 f5),(λh=>by
   rcases f7 h with⟨i,t,rfl,rfl⟩|⟨x,t,rfl,rfl⟩
   .show#[t,rfl]
   .show#[t,rfl]) Vg,#[rfl,k,v,hx,rfl],by rw[hl];show pd,λb hb=>(hf b hb).1]]
 done:=by
  intro X hP hw hK hc i pins s σ H E I hf st hg;subst hP hw hK;let#[ha,hi]:=hg;let#[vs,r,da]:=BK (I.ay a _ ha) ed;have hl:=Paired.length r;let#[f0,f1,f2,f3,f4,f5]:=hf it zg;rw[hl]at st;show wpAny_pyNext_dict_end (I.ok.hd hc) st da (rO zb) λh' eb=>#[rfl,I.turned (λb o hb e=>eb b o hb e) f0 f1 f3 f4 f5]
 self:=λ_ _ _ _ _ st h=>XR st h
def NF (H₀:Hp) (a:ai):zk:=∀ o v,H₀ a≠ae (.bA o v)
def afC (H₀:Hp) (tl:TE):TI:=λσ H R=>tl σ H λx H1=>∃ a ao,x=.ref a /\ ((H1 a=ae (.dK ao) /\ ∀ o,NF H₀ a->R (Hh a o ao) (upd H1 a<|.bA o<|.dK ao)) \/ ∃ o,H1 a=ae (.bA o<|.dK ao) /\ R (Hh a o ao) H1)
def uR {α:Type}(H₀:Hp) (Q:α->Hp->zk):α->Hp->zk:=λx H=>Q x H \/ ∃ a o ao,H a=ae (.bA o<|.dK ao) /\ NF H₀ a /\ Q x (upd H a<|.dK ao)
noncomputable def Ends.Hg (H₀:Hp) (D:Ends):Ends:=#[uR H₀ D.nx,uR H₀ D.rt,uR H₀ D.bk,uR H₀ D.ct]
theorem BL (I:Inv X pins σ H s) (q:uR X.H₀ Q x H):∃ H',Inv X pins σ H' s /\ Q x H':=by
 rcases q with q|⟨a,o,ao,e,nf,q⟩
 .show#[H,I,q]
 .show#[_,I.Hg e nf,q]
theorem NY {st}(h:PS X st t):PS X st (λD=>t<|D.Hg X.H₀):=λpins s σ H D I q=>bP (h pins s σ H _ I q) λf s' q'=>by
 cases f with
 |ret v=>let#[x,σ',H',I',r,q']:=q';let#[H2,I2,q2]:=BL I' q';show#[x,σ',H2,I2,r,q2]
 |_=>let#[σ',H',I',q']:=q';let#[H2,I2,q2]:=BL I' q';show#[σ',H2,I2,q2]
end L2
namespace L2.DL
open PySem.W
noncomputable def KL:Key->D
 |.inl i=>.int i
 |.inr x=>.str x
noncomputable def uS (F:Hp) (a:ai):Hp:=λb=>if b=a then ah else F b
theorem jx (h:b≠a):uS F a b=F b:=if_neg h

theorem FA:∀ {l}{ao}{i:Nat}{k}{v},aL F l ao->ao[i]?=ae (k,v)->∃ d,l[i]?=ae (k,d) /\ Den F d v
 |[],_,i,_,_,h,e=>by cases (h);simp at e
 | (k',d)::l,_,0,_,_,h,e=>by
   let#[u,t,rfl,h1,_]:=h;let#[rfl,rfl]:=e;show#[d,rfl,h1]
 | (k',d)::l,_,i+1,_,_,h,e=>by
   let#[u,t,rfl,_,h2]:=h;show FA (i:=i) h2 (by simpa using e)
theorem oI (h:F a=ae (.bA o<|.dK ao)):vO F (uS F a):=λb u n e=>by
 rw[jx (λz=>by rw[z,h]at e;cases e;show n _ _ rfl)];show e
theorem bR.off (h:F a=ae (.bA o<|.dK ao)):∀ {w}{v},bR F r w v->bR (uS F a) r w v
 |.d x,_,q=>Den.cB (oI h) x q
 |.b _,_,q=>q
 |.s _,_,q=>let ⟨b,ob,e,q⟩:=q;#[b,ob,e,by rw[jx (λz=>by rw[z,h]at q;cases q)];show q]
 |.x _,_,q=>q
 |.t _,_,q=>let ⟨c,as,e,h1,h2⟩:=q;#[c,as,e,oI h _ _ (λ_ _ z=>nomatch z) h1,h2]
 |.m _,_,q=>let ⟨c,as,e,h1,h2⟩:=q;#[c,as,e,oI h _ _ (λ_ _ z=>nomatch z) h1,h2]
theorem Rel.bA (R:Rel T F r σ H env bx) (hb:bx[n]?=ae (.az l)) (ha:r[n]?=ae a) (k0:F a=ah) (k2:aL F l ao) :
 Rel T (upd F a<|.bA o<|.dK ao) r σ (upd H a<|.bA o<|.dK ao) env (bx.set n<|.fD l):=by
 have s:=jt (o:=.bA o<|.dK ao) k0;have ma:=List.mem_iff_getElem?.mpr #[n,ha];refine#[λb u e=>?_,λi w e=>?_,by rw[qC];show R.len,R.nd,λm c b e1 e2=>?_,λb u e hn=>?_,R.new,R.n0,R.sl,λb u e=>?_]
 .by_cases z:b=a
  .subst z;rw[fu]at e ⊢;show e
  .rw[fv z]at e ⊢;show R.fh b u e
 .let#[v,e1,e2]:=R.slot i w e;show#[v,e1,e2.mono s<|eJ r]
 .by_cases z:m=n
  .subst z;rw[pI (List.getElem?_eq_some_iff.mp hb).1]at e1;cases e1;rw[ha]at e2;cases e2;show#[o,ao,fu,fu,aL.mono s _ k2]
  .rw[rM λq=>z q.symm]at e1;have nb:b≠a:=λq=>z<|jS R.nd e2<|q▸ha;show(R.box m c b e1 e2).grow s (eJ r) (λq=>by rw[fv nb];show q) (λu q=>by rw[fv nb];show q)
 .rw[fv λz=>hn (by rw[z];show ma)];show R.keep b u e hn
 .by_cases z:b=a
  .subst z;show .inr<|.inr<|.inr ma
  .rw[fv z]at e;show R.fs b u e
theorem Rel.afD (R:Rel T F r σ H env bx) (hb:bx[n]?=ae (.fD l)) (ha:r[n]?=ae a) :
 ∃ o ao,F a=ae (.bA o<|.dK ao) /\ H a=ae (.bA o<|.dK ao) /\ Rel T (uS F a) r σ (upd H a<|.dK ao) env (bx.set n<|.az l):=by
 let#[o,ao,f1,h1,dk]:=R.box n _ a hb ha;have sd:=oI f1;refine#[o,ao,f1,h1,λb u e=>?_,λi w e=>?_,by rw[qC];show R.len,R.nd,λm c b e1 e2=>?_,λb u e hn=>?_,R.new,R.n0,R.sl,λb u e=>?_]
 .by_cases z:b=a
  .subst z;unfold uS at e;rw[if_pos rfl]at e;cases e
  .rw[jx z]at e;rw[fv z];show R.fh b u e
 .let#[v,e1,e2]:=R.slot i w e;show#[v,e1,e2.off f1]
 .by_cases z:m=n
  .subst z;rw[pI (List.getElem?_eq_some_iff.mp hb).1]at e1;cases e1;rw[ha]at e2;cases e2;show#[if_pos zj,ao,fu,aL.cB sd _ dk]
  .rw[rM λq=>z q.symm]at e1;have nb:b≠a:=λq=>z<|jS R.nd e2<|q▸ha;have q:=R.box m c b e1 e2;have fo:F b=ah->uS F a b=ah:=λz=>by rw[jx nb];show z
   have ho:∀ {u},H b=ae u->upd H a (.dK ao) b=ae u:=λz=>by rw[fv nb];show z
   cases c with
   |lst _=>let#[q1,vs,q2,q3]:=q;show#[fo q1,vs,ho q2,aG.cB sd _ q3]
   |az _=>let#[q1,vs,q2,q3]:=q;show#[fo q1,vs,ho q2,aL.cB sd _ q3]
   |dead=>let#[u,q]:=q;show#[u,ho q]
   |dT _=>let#[q1,vs,q2,q3]:=q;show#[fo q1,vs,ho q2,bL.cB sd _ q3]
   |fD _=>let#[o2,vs,q1,q2,q3]:=q;show#[o2,vs,by rw[jx nb];show q1,ho q2,aL.cB sd _ q3]
   |ins _ _=>let#[q1,dx,vs,q2,q3]:=q;show#[fo q1,dx,vs,ho q2,cY.cB sd (λ_ _ _ z=>z) _ q3]
 .rw[fv λz=>hn (by rw[z];show(List.mem_iff_getElem?.mpr #[n,ha]))];show R.keep b u e hn
 .by_cases z:b=a
  .subst z;unfold uS at e;rw[if_pos rfl]at e;cases e
  .rw[jx z]at e;show R.fs b u e
theorem bf.off (g:bf (upd F a u) r F' r') (k0:F a=ah):bf F r (uS F' a) r':=#[λb v e=>by
 have nb:=fI e k0;rw[jx nb];show g.s b v (by rw[fv nb];show e),g.p]
def uT (l:List<|Key×D):List W:=l.map λp=>.d<|KL p.1
theorem Aq (g:F' a=ae (.bA o<|.dK ao)) (k2:aL F l ao):vT F' r (uT l) (Hh a o ao):=λT' i F1 r1 σ1 H1 bb bx1 g1 R1=>by
 have h:=R1.fh a _<|g1.s a _ g;have hl:=k2.length;refine#[λe=>#[h,by rw[<-hl,<-e];simp[uT]],λw e=>?_];unfold uT at e;rw[nY]at e;have hi:i<ao.length:=by
  rw[<-hl];cases q:l[i]? with
  |none=>rw[q]at e;cases e
  |some p=>show(List.getElem?_eq_some_iff.mp q).1
 refine#[#[h,hi],λx H2 ⟨e2,k,v,e3,e4⟩=>?_];subst e2 e4;let#[d,e5,_]:=FA k2 e3;rw[e5]at e;cases e;refine#[F1,.refl F1 r1,R1,?_];cases k<;>show rfl
noncomputable def qA (n:Nat) (bx:List Bx):Option (List Bx):=match bx[n]? with|some (.fD l)=>ae (bx.set n<|.az l)|_=>ah
def yu (n:Nat):O W->O W
 |.val w bx=>(match qA n bx with|some b=>.val w b|none=>.bad)
 |o=>o
theorem RN (h:qA n bx=ae b):∃ l,bx[n]?=ae (.fD l) /\ b=bx.set n (.az l):=by
 unfold qA at h;split at h
 .cases h;show#[_,by assumption,rfl]
 .cases h
theorem NZ (k0:F a=ah) (ha:r[n]?=ae a) (nf:NF H₀ a):∀ {q},End T Z bR F r σ env Q (yu n q)->End T Z bR (upd F a u) r σ env (uR H₀ Q) q
 | .val w b,h=>λF2 r2 v H2 g2 R2 dv=>by
   cases q:qA n b with
   |none=>simp[yu,q]at h;show h.elim
   |some b2=>
     simp[yu,q]at h;let#[l,hl,rfl]:=RN q;let#[o,ao,f1,h1,R3]:=R2.afD hl<|g2.at ha;show .inr #[a,o,ao,h1,nf,h _ r2 v _ (g2.off k0) R3<|dv.off f1]
 |.exc c b,h=>λF2 r2 H2 g2 R2=>h F2 r2 H2 #[(jt k0).trans g2.s,g2.p] R2
 |.bad,h=>h.elim
theorem End.Hg:∀ {q},End T Z bR F r σ env Q q->End T Z bR F r σ env (uR H₀ Q) q
 |.val _ _,h=>λF2 r2 σ2 H2 g2 R2 d=>.inl<|h F2 r2 σ2 H2 g2 R2 d
 |.exc _ _,h=>h
 |.bad,h=>h
def wo (bo:Bool) (src:List<|Option Nat) (i:Nat) (g:DG) (tf:DE Bool) (te:DE W):DE W:=λenv bx=>match env[i]? with
 | some (ae<|.b n)=>(match bx[n]? with
   |some (.az l)=>yu n<|fC (bw g tf te (uT l) (eF src env) (bx.set n<|.fD l) []) λl aq=>b9 bo (ae<|.lst l) aq
   |some (.fD l)=>fC (bw g tf te (uT l) (eF src env) bx []) λl aq=>b9 bo (ae<|.lst l) aq
   |_=>.bad)
 |_=>.bad
theorem N0 (h:tD T Z (wo bo src i g tf te) σ H Q) :
 Kh src (afC H₀<|tD T Z<|dV i) (EF g) (EG #[E0,Z.cl] tf) (EH #[E0,Z.cl] te) σ H (uR H₀ Q):=by
 let#[F,r,env,bx,R,h]:=h;unfold wo at h;split at h
 case h_2=>show h.elim
 ext n e;refine#[F,r,env,bx,R,(λe h=>by
  unfold dV;rw[e];intro F' r' v H' g R d;let#[a,rfl,ha]:=d;show h F' r' a H' g R ha) e λF' r' a H' g' R' ha=>?_]
 split at h
 .ext l hb;let#[k0,ao,k1,k2]:=R'.box n _ a hb ha;show#[a,ao,rfl,.inl #[k1,λo nf=>Ds (R'.bA hb ha k0 k2) (Aq fu k2)<|NZ k0 ha nf<|End.weak g' h]]
 .ext l hb;let#[o,ao,k0,k1,k2]:=R'.box n _ a hb ha;show#[a,ao,rfl,.inr #[o,k1,Ds R' (Aq k0 k2) (End.weak g' h).Hg]]
 .show h.elim
theorem GZ (i) (bo) (hc:X.calm=ag) (S:tH X N src scope) (hi:PD X T Z iter<|dV j)
 (hg:∀ T cl s H C fp,qV (X.comp N scope cl s H C fp) T tg g) (hf:∀ T cl s H C fp,PF (X.comp N scope cl s H C fp) ifs<|vP T #[E0,Z.cl] tf) (he:∀ T cl s H C fp,PD (X.comp N scope cl s H C fp) T #[E0,Z.cl] elt te)
 (hN:X.N.Nodup) (nT:X.N[i]?=ae x) (hx:Loc X.env.scope x) (E5:swapsWith (.ListComp elt [#[tg,iter,ifs,0]] scope pos) (ae<|.Name x pos') E6.line X.env=pure ag)
 (E7:X.fn x=ag \/ X.env.scope.names.lookup x=ae .local) (hs:∀ x,foldedSetIterable iter X.env x=pure x):eB X T Z (.Assign [.Name x pos'] (.ListComp elt [#[tg,iter,ifs,0]] scope pos) E6) (fO (wo bo src j g tf te)<|ff i):=PS.imp (NY (Fp (g:=EF g) (tf:=EG _ tf) (te:=EH _ te) hc S ((λhl=>by
  intro pins s σ H R I h;refine aV (hl pins s σ H _ I h) λv s1 x H1 I1 r1 q1=>?_;let#[a,ao,e,q]:=q1;subst e;cases r1;obtain⟨o,H2,I2,e2,q2⟩:∃ o H2,Inv X pins σ H2 s1 /\ H2 a=ae (.bA o _) /\ R (Hh a o ao) H2:=by
   rcases q with⟨e,q⟩|⟨o,e,q⟩
   .let#[o,_,nf,I2]:=I1.freeze e;show#[o,_,I2,fu,q o nf]
   .show#[o,H1,I1,e,q]
  let#[e3,_,y,_,_,ob,es,ep,e4,_,ed,_]:=id<|I2.ay a _ e2;rw[e3]at e4;cases e4;let#[vs,r,da]:=BK (I2.ay a _ e2) ed;refine wpAny_pyIter_dict y da ?_;refine#[s1.heap.objs.size,[s1.heap.objs.size],_,_,H2,rfl,I2.kept λb o e=>aR _ e,GY _ ed<|bN<|I2.ay.lt e2,#[_,bC _ zj,rfl,by rw[(Paired.length r)];rfl],λb hb=>?_,q2];have e:b=s1.heap.objs.size:=by simpa using hb
  subst e;show I2.xt (aA _) (I2.ay.fresh<|aA _)) hi) (λcl s H C fp pins s' σ' H' v u Q I rv ⟨T,q⟩=>hg T cl s H C fp pins s' σ' H' v u Q I rv q)
 (λcl s H C fp pins s' σ' H' Q I ⟨T,q⟩=>hf T cl s H C fp pins s' σ' H' Q I q) (λcl s H C fp pins s' σ' H' Q I ⟨T,q⟩=>he T cl s H C fp pins s' σ' H' Q I q) hN nT hx E5 E7 hs)) λD σ H=>bg λF r env bx R h=>(N0 #[F,r,env,bx,R,End.bp h λw bx1 F1 r1 v H1 g1 R1 d1 h1=>h1 F1 r1 _ H1 (.refl F1 r1)<|R1.set d1 i])
end L2.DL
namespace HT
open PySem.W
def wq (h:aK) (d:ai) (vs:List au) (ep:Nat):zk:=∃ o es,h.get? d=ae o /\ o.cls=.type "dict" /\ o.data=.dict es ep /\ es.toList.map (·.key)=vs
theorem wq.at (x:wq h d vs ep) (k:∀ o,h.get? d=ae o->h'.get? d=ae o):wq h' d vs ep:=let ⟨o,es,e,r⟩:=x;#[o,es,k o e,r]

theorem N1 (y:(d==sysModules)=af) (hm:wq s.heap d vs ep)
 (q:Q (.ref s.heap.objs.size) { s with heap:=s.heap.push { cls:=.type "dict_keyiterator",data:=.fields (List.toArray [.ref d,.int 0 0,.int vs.length 0,.int ep 0]) } }):wpAny zf A (pyIter<|.ref d) Q E s:=by
 let#[o,es,e2,c2,d2,ev]:=id hm;have sz:es.size=vs.length:=by rw[<-ev];simp
 have ty:s.TypeIs (.ref d) "dict":=#[o,e2,c2];refine XF ty Zb<|qh Zb ty PySem.F.entry_dict_iter ?_<|PySem.F.args_dict_iter_1 _;refine ak<|ak<|wpAny_notOrdered_dict ty ?_;refine ax ?_;change wpAny _ _ (Builtin.Dict.showsAll d >>= _) _ _ s;unfold Builtin.Dict.showsAll;rw[if_neg (by rw[y];show dS)];refine ak<|ax<|ak<|XS e2 d2<|ak<|XT e2 d2<|ak<|qg<|ax #[_,rfl, "dict_keyiterator",_,#[_,bC _ zj,rfl],UW.lookup,?_];simpa[rawInt,sz] using q
theorem FB (hit:s.heap.IsKeyIter it d i vs.length ep) (hm:wq s.heap d vs ep) (hh:A.handled=ah)
 (q:∀ x h',vs[i]?=ae x->h'.IsKeyIter it d (i+1) vs.length ep->Heap.SameBut it s.heap h'->Q (ae x) { s with heap:=h' })
 (qe:∀ h',vs[i]?=ah->Heap.ExtBut it s.heap h'->Q ah { s with heap:=h' }):wpAny zf A (pyNext<|.ref it) Q E s:=by
 let#[o,e1,c1,d1]:=id hit;let#[od,es,e2,c2,d2,ev]:=id hm;have sz:es.size=vs.length:=by rw[<-ev];simp
 unfold pyNext;refine ak<|yO<|vc hit.typeIs UW<|qh UW hit.typeIs PySem.F.entry_dict_keyiterator_next ?_<|PySem.F.args_dict_keyiterator_next_1 _;refine ak<|ax<|ak<|ak ?_;first|refine ak (QD hit.typeIs<|ax<|ak<|XU e1 d1 ?_)|refine ak<|QE hit.typeIs<|ax<|ak<|XU e1 d1 ?_
 simp only[];change wpAny _ _ (if (Value.ref d==Value.none)=ag then _ else _) _ _ s;rw[if_neg (show ¬ ((Value.ref d==Value.none)=ag) from dS)];refine ak<|ax<|ak<|XS e2 d2 ?_;rw[if_neg (by rw[sz];simp)];refine ak<|ax<|ak<|XT e2 d2 ?_;rw[if_neg zg];refine ax ?_;rcases wO i vs.length with hl|hl
 .have nC:i<es.size:=by rw[sz];show hl
  simp[vz,Array.getElem?_eq_getElem nC];refine ak ?_;first|refine ak (QD hit.typeIs<|ax<|ak<|QF hit.typeIs ?_)|refine ak<|QE hit.typeIs<|ax<|ak<|QF hit.typeIs ?_
  change wpAny _ _ (setField (.ref it) 1 (rawInt<|(i)+1) >>= _) _ _ s;refine ak<|Ia e1 d1 zg ?_;have h2:(s.heap.update it (Obj.mapFields (·.setIfInBounds 1 (rawInt<|(i)+1)))).IsKeyIter it d (i+1) vs.length ep:=
   #[_,Ii _ e1<|Ze<|II d1 _,(Zf ..).trans c1,by rw[II d1];simp[rawInt]]
  refine ak (eY (ak (QF (s:={ s with heap:=s.heap.update it (Obj.mapFields (·.setIfInBounds 1 (rawInt<|(i:Int)+1))) }) h2.typeIs ?_)));change wpAny _ _ (pure es[i].key) _ _ _;show ax<|ax #[_,rfl,ax<|q _ _ (by rw[<-ev];simp[nC]) h2<|Heap.SameBut.update ..]
 .simp[show ¬ ((i:Int)<0) from by lia,if_false,vz,YQ (show es.size<=i by rw[sz];show hl)];refine ak ?_;first|refine ak (QD hit.typeIs<|ax ?_)|refine ak (QE hit.typeIs<|ax ?_)
  change wpAny _ _ (setField (.ref it) 0 .none >>= _) _ _ s;refine ak<|Ia e1 d1 zg ?_;change wpAny _ _ (newExc (.type "StopIteration") [] >>= _) _ _ _;refine ak ?_;simp[newExc,newTuple];refine ak<|qg (ak (m:=firstArgMember _ _)<|uh (a:=Value.none) (by first|rfl|(simp[firstArgMember];rfl))<|qg ?_ (by size_fits)) (by size_fits);erw[raiseNew];refine ak<|XC ?_;rw[show A.in1.handled=ah from hh];refine ak<|ax<|XD ?_;show ak<|XG (T:="StopIteration") (b:=ag) #[_,bC _ zj,rfl] XH<|ax<|qe _ (rO hl)<|((Heap.SameBut.update ..).extBut.push _).push _
theorem N2 (hh:A.handled=ah) (pZ:d≠it) (vs) (ep):Walks prog w A it [it,d] [it] vs.length (λi v=>vs[i]?=ae v) (λi h=>h.IsKeyIter it d i vs.length ep /\ wq h d vs ep) where
 sub:=λb hb=>by simp at hb;simp[hb]
 frame:=λ_ _ _ st hk=>#[st.1.at λo e=>hk it zg o e,st.2.at λo e=>hk d zg o e]
 item:=λi s Q E hi st hQ=>FB st.1 st.2 hh (λx h' hx h2 sb=>hQ x h' s.toks hx #[h2,st.2.at λo e=>sb.extBut d o pZ e] λb o hb e=>sb.extBut b o (λz=>hb (by simp[z])) e) λh' hx _=>by rw[List.getElem?_eq_none_iff]at hx;lia
 done:=λs Q E st hQ=>FB st.1 st.2 hh (λx h' hx _ _=>by simp at hx) λh' _ he=>hQ h' s.toks λb o hb e=>he b o (λz=>hb (by simp[z])) e
 self:=λ_ _ _ _ st hQ=>XR st.1 hQ
theorem RP (y:(d==sysModules)=af) (vs) (ep):KdlSrc prog w "dict" d d vs.length (λi v=>vs[i]?=ae v) (λh=>wq h d vs ep) where
 type:=λ_ hm=>let ⟨o,_,ho,hc,_⟩:=hm;#[o,ho,hc]
 there:=λ_ hm=>let ⟨_,_,ho,_⟩:=hm;#[ba ho,ba ho]
 keep:=λ_ _ hm hk=>hm.at λo e=>hk d (.inr zj) o e
 notList:=rfl
 notTuple:=rfl
 hint:=λ_ _ _ _ hm hq=>kdl_hint_dict (let ⟨o,_,ho,hc,_⟩:=hm;#[o,ho,hc]) hq
 iter:=λ_ _ hh hm=>#[_,_,(λ_ _ hq=>N1 y hm hq),N2 hh (bN (let ⟨_,_,ho,_⟩:=hm;ba ho)) vs ep,#[#[_,bC _ zj,rfl,rfl],hm.at λo e=>aR _ e]]
end HT
namespace L2
open PySem.W

def afE (td:TE):TE:=λσ H Q=>td σ H λx H1=>∃ a ao,x=.ref a /\ H1 a=ae (.dT ao) /\ ∀ bs,Paired (λ(q) (b)=>H1 b=ae (.tup<|q.1.map kV)) ao bs->∀ l,H1 l=ah->Q (.ref l) (upd H1 l<|.lst<|bs.map V.ref)
theorem N3 (r:KT H ao xs):Paired (λ(q) (b)=>H b=ae (.tup<|q.1.map kV)) ao (xs.map (·.2.1)):=by
 induction r with
 |nil=>show .nil
 |cons h t ih=>show .cons h.2.1 ih
theorem G0:∀ bs:List ai,Vals (bs.map V.ref) (bs.map Value.ref):=by
 intro l_;induction l_ with
 |nil=>show .nil
 |cons b bs aB=>show .cons zj<|aB
theorem Lx (hc:X.calm=ag) (hg:Gl X "list") (hm:X.mg "list"=ah) (ho:PE X o td) (hs:DL.cJ o=ag):PE X (.Call (.Name "list" p) [o] [] pos) (afE td):=by
 intro pins s σ H Q I h;refine rJ<|jc I hg hm (by decide +kernel:bootBuiltins "list"=ae (.type "list")) ?_ zc<|rfl;refine callWith_type1 ?_ (DL.fH hs [] X.env) zj;rw[DL.fH hs [] X.env];change wpAny _ _ (spliced ((af,eval o X.env)::backTo pos _)) _ _ s;refine yY<|aV (ho pins s σ H _ I h) λu s1 x H1 I1 rx hh=>?_;let#[a,ao,ex,ea,q1]:=hh;subst ex;obtain rfl:u=Value.ref a:=rx;let#[zl,hd,xs,rel,dd]:=Pc I1.ay ea;let#[ob,es,ep,hq,h2,h3,h4,_,h5]:=id dd;have lx:((xs.map (·.2.1)).map Value.ref).length<=sizeLine:=by rw[aX,aX,<-Paired.length rel];show zl
 refine yX (kdl_call (HT.RP hd _ ep) (I1.ok.hd hc) #[ob,es,hq,h2.1,h3,by rw[h4,cx,cx];rfl] lx λh' tk acc c hk hD abe=>?_);have ev:acc.toList=(xs.map (·.2.1)).map Value.ref:=by
  apply QO;intro j;by_cases hj:j<acc.size
  .have ej:acc[j]?=ae acc[j]:=by simp
   rw[nq,ej];show(abe.2 j _ ej).symm
  .have h3:=abe.1;rw[nq,YQ zb,rO zb]
 show#[.ref _,_,(I1.laid (t':=tk) (o:=.lst ((xs.map (·.2.1)).map V.ref)) (λb u e=>hk b u e) (aA _) #[by rw[aX];rw[aX]at lx;show lx,acc.toList,c,(by rw[ev];show G0 _),by simpa using hD]),rfl,q1 _ (N3 rel) _<|I1.ay.fresh<|aA _]
end L2
namespace L2.DL
open PySem.W

theorem Rel.afF (R:Rel T F r σ H env bx) (hb:H b=ae (.tup vs)):∃ F',bf F r F' r /\ Rel T F' r σ H env bx /\ F' b=ae (.tup vs):=by
 cases q:F b with
 |some u=>
   have:=R.fh b u q;rw[hb]at this;cases this;show#[F,.refl F r,R,q]
 |none=>
   have s:=jt (o:=.tup vs) q;refine#[upd F b _,#[s,eJ r],#[λa u e=>?_,λi w e=>?_,R.len,R.nd,λn c a e1 e2=>?_,R.keep,R.new,R.n0,R.sl,λa u e=>?_],fu]
   .by_cases z:a=b
    .subst z;rw[fu]at e;cases e;show hb
    .rw[fv z]at e;show R.fh a u e
   .let#[v,e1,e2]:=R.slot i w e;show#[v,e1,e2.mono s<|eJ r]
   .have k:=R.box n c a e1 e2;have ne:∀ {u},H a=ae u->(∀ ys,u≠.tup ys)->upd F b (.tup vs) a=F a:=λ{u} z y=>fv λq=>by rw[q,hb]at z;cases z;show y _ zj
    cases c with
    |lst _=>let#[q1,ws,q2,q3]:=k;show#[(ne q2 λ_ z=>nomatch z).trans q1,ws,q2,aG.mono s _ q3]
    |az _=>let#[q1,ws,q2,q3]:=k;show#[(ne q2 λ_ z=>nomatch z).trans q1,ws,q2,aL.mono s _ q3]
    |dead=>show k
    |dT _=>let#[q1,ws,q2,q3]:=k;show#[(ne q2 λ_ z=>nomatch z).trans q1,ws,q2,bL.mono s _ q3]
    |fD _=>let#[o2,ws,q1,q2,q3]:=k;show#[o2,ws,s _ _ q1,q2,aL.mono s _ q3]
    |ins _ _=>let#[q1,dx,ws,q2,q3]:=k;show#[(ne q2 λ_ z=>nomatch z).trans q1,dx,ws,q2,cY.cB s.d (λ_ _ _ z=>z) _ q3]
   .by_cases z:a=b
    .subst z;rw[fu]at e;cases e;show .inl #[_,rfl]
    .rw[fv z]at e;show R.fs a u e
theorem Ly:∀ (k:List Key),aG F (k.map KL) (k.map kV):=by
 intro l_;induction l_ with
 |nil=>show rfl
 |cons k t aB=>show#[_,_,rfl,by cases k<;>show rfl,aB]
abbrev KN (l:List<|List Key×D):List D:=l.map λq=>.tup<|q.1.map KL
theorem Rel.kA:∀ {l}{ao}{bs}{F},Rel T F r σ H env bx->bL F l ao->Paired (λ(q) (b)=>H b=ae (.tup<|q.1.map kV)) ao bs->∃ F',bf F r F' r /\ Rel T F' r σ H env bx /\ aG F' (KN l) (bs.map V.ref)
 | [],_,_,F,R,h,q=>by
   cases (h);cases q;show#[F,.refl F r,R,rfl]
 | (k,d)::l,_,_,F,R,h,q=>by
   let#[v,t,rfl,_,h2]:=h;cases q with
   |@cons _ b _ bs q1 q2=>
     let#[F1,g1,R1,e1]:=R.afF q1;let#[F2,g2,R2,d2]:=Rel.kA R1 (bL.mono g1.s _ h2) q2;show#[F2,g1.trans g2,R2,V.ref b,_,rfl,#[b,_,rfl,g2.s _ _ e1,Ly k],d2]
def KO (bo:Bool) (m:DE W):DE W:=λenv bx=>fC (m env bx) λx bx1=>match x with
 | .b n=>(match bx1[n]? with
   |some (.dT l)=>b9 bo (ae<|.lst<|KN l) bx1
   |_=>.bad)
 |_=>.bad
noncomputable def yx (l:List<|List Key×D) (k:List Key) (d:D):List (List Key×D):=
 if (l.any λkv=>decide (kv.1=k))=ag then l.map (λkv=>if kv.1=k then (kv.1,d) else kv) else l++[(k,d)]
theorem bL.any (k):∀ {l}{vs},bL F l vs->(l.any λkv=>decide (kv.1=k))=(vs.any λkv=>decide (kv.1=k))
 |[],_,h=>by cases (h);rfl
 |(k',d')::l,_,⟨v,r,e,h1,h2⟩=>by subst e;simp[vn,bL.any k h2]
theorem bL.map (hv:Den F d v):∀ {l}{vs},bL F l vs->bL F (l.map λkv=>if kv.1=k then (kv.1,d) else kv) (vs.map λkv=>if kv.1=k then (kv.1,v) else kv)
 |[],_,h=>by cases (h);rfl
 | (k',d')::l,_,⟨u,r,e,h1,h2⟩=>by
   subst e;by_cases c:k'=k
   .simp[aS,c];show#[v,_,rfl,hv,bL.map hv h2]
   .simp[aS,c];show#[u,_,rfl,h1,bL.map hv h2]
theorem bL.app (hm:bL F m us):∀ {l}{vs},bL F l vs->bL F (l++m) (vs++us)
 |[],_,h=>by cases (h);show hm
 |(k',d')::l,_,⟨u,r,e,h1,h2⟩=>by subst e;show#[u,_,rfl,h1,bL.app hm h2]
theorem bL.put2 (h:bL F l vs) (hv:Den F d v):bL F (yx l k d) (putK vs k v):=by
 unfold yx putK;rw[bL.any k h];split
 .show bL.map hv h
 .show bL.app (show bL F [(k,d)] _ from#[v,[],rfl,hv,rfl]) h
def KR (m k v:DE W):aE:=λenv bx=>bp (v env bx) λz bx1=>bp (m env bx1) λx aq=>bp (k env aq) λy cb=>match x,y,z with
 | .b n,.d (.tup d),.d u=>(match cb[n]?,uP d with
   |some (.dT l),ae k=>if l.length<sizeLine then .nx env (cb.set n<|.dT<|yx l k u) else .bad
   |_,_=>.bad)
 |_,_,_=>.bad
end L2.DL
namespace K1
open L2 L2.DL
def Ar:aE:=(fJ<|gT (gJ "int"<|dV 0)<|Kn<|gJ "bool"<|dV 0)
def i8:List W->List Bx->O W:=aN 1<|aU Ar
def oh:aE:=(fJ<|gT (fq K1.i8 1<|fc (dV 0) fe)<|d3 qw qw (dV 1) (dV 0)<|dV 2)
def gk:List W->List Bx->O W:=aN 3<|aU oh
def As:aE:=(fJ<|gT (gJ "tuple"<|dV 0)<|d3 qw qw (dV 1) (dN af aQ<|fc (dV 0) fe)<|dV 2)
def gD:List W->List Bx->O W:=aN 3<|aU As
def oi:aE:=(fJ<|dN af dZ<|fc (gc af [ah,ae 0] (vU<|fc ze<|fc (dN af aQ<|fc (dV 0) fe) fe) (ff 0) ge<|d2 af kZ (d2 af aF (dV 1)<|d2 af dE (dV 0) ze)<|d2 af aF (dV 1)<|dV 0) fe)
def g6:List W->List Bx->O W:=aN 1<|aU oi
def CD:aE:=(fJ<|gT (fq K1.gD 3<|fc (dV 0)<|fc ze<|fc (dC<|.int 5) fe)<|dN af dZ<|fc (gc af [ah] (bS<|dV 0) (ff 0) ge<|fq K1.gk 3<|fc (dV 0)<|fc zh<|fc (dC<|.int 3) fe) fe)
def jy:List W->List Bx->O W:=aN 1<|aU CD
def CF:aE:=(fB (aT (eS (cE<|dB<|fq K1.gD 3<|fc (dV 0)<|fc (d2 af fP (dC<|.int 3) ze)<|fc (d2 af fP (dC<|.int 3) ze) fe)<|cE<|dB<|dN af dZ<|fc (gc af [ah] (bS<|dV 0) (ff 0) ge<|fq K1.gk 3<|fc (dV 0)<|fc zh<|fc (dC<|.int 9) fe) fe) (fJ<|dC<|.bl af) a8)<|fJ<|dN af dZ<|fc (gc af [ah,ah] (yd<|fc (dV 0)<|fc (d6 af (dV 0) (dM ze) eU) fe) (lC 2<|gG (ff 0)<|gG (ff 1) mZ) ge<|d2 af qw (dV 1)<|dV 0) fe)
def jz:List W->List Bx->O W:=aN 1<|aU CF
def G1:aE:=(fJ<|gT (fq K1.gD 3<|fc (dV 0)<|fc (dC<|.int 2)<|fc (dC<|.int 2) fe)<|gT (fq K1.gk 3<|fc (d2 af aF (dV 0) zh)<|fc ze<|fc (dC<|.int 999) fe)<|fq K1.jz 1<|fc (d2 af aF (dV 0) ze) fe)
def lM:List W->List Bx->O W:=aN 1<|aU G1
def CG:aE:=(fJ<|gT (fq K1.gD 3<|fc (dV 0)<|fc ze<|fc (dC<|.int 4) fe)<|dN af dZ<|fc (gc af [ah] (bS<|dV 0) (ff 0) ge<|fq K1.lM 1<|fc (dV 0) fe) fe)
def jA:List W->List Bx->O W:=aN 1<|aU CG
def oA:aE:=(fB (aT (cE<|dB<|fq K1.gD 3<|fc (dV 0)<|fc (dC<|.int 2)<|fc (dC<|.int 2) fe) (fJ<|dC<|.bl af) a8)<|fJ<|gT (dN af dZ<|fc (gc af [ah,ae 1] (bS<|dV 0) (ff 0) ge<|fq K1.gk 3<|fc (dV 0)<|fc zh<|fc (d2 af dE (dV 1) ze) fe) fe)<|d2 af kZ (d2 af aF (dV 0) zh)<|d2 af aF (dV 0) ze)
def iz:List W->List Bx->O W:=aN 2<|aU oA
def CH:aE:=(fB (aT (cE<|dB<|gJ "tuple"<|dV 0) (fJ<|dC<|.bl af) a8)<|fJ<|gT (dN af dZ<|fc (gc af [ah,ae 1] (bS<|dV 0) (ff 0) ge<|fq K1.iz 2<|fc (dV 0) zm) fe)<|fq K1.g6 1<|fc (dV 0) fe)
def jB:List W->List Bx->O W:=aN 2<|aU CH
def DH:aE:=(fB (aT (cE<|dB<|fq K1.gD 3<|fc (dV 0)<|fc (dC<|.int 4)<|fc (dC<|.int 4) fe) (fJ<|dC<|.bl af) a8)<|fB (fO (dV 0)<|lC 4<|gG (ff 1)<|gG (ff 2)<|gG (ff 3)<|gG (ff 4) mZ)<|fJ<|gT (fq K1.jy 1 zm)<|gT (fq K1.jA 1<|fc (dV 2) fe)<|gT (fq K1.jB 2<|fc (dV 3)<|fc (dN af aQ<|fc (dV 2) fe) fe)<|fq K1.gk 3<|fc (dV 4)<|fc ze<|fc (dC<|.int 9) fe)
def j5:List W->List Bx->O W:=aN 5<|aU DH
def jf:aE:=(fB (aT (dB<|d2 af kZ (dV 1)<|uH<|dV 0) (fJ<|ER (dV 0)<|dV 1) a8)<|fJ zh)
def g9:List W->List Bx->O W:=aN 2<|aU jf
abbrev Wa:aE:=(fB (fO (d2 af sk (d2 af pY (d2 af fP (d2 af fP (d2 af sk (dV 0)<|dC<|.int 2147483629)<|d2 af pY (dC<|.int 7919)<|dV 2) ze)<|dC<|.int 48271)<|dC<|.int 2147483647)<|ff 3)<|fB (fO (d2 af sk (d2 af fP (d2 af fP (d2 af pY (dV 3)<|dV 3)<|d2 af pY (dC<|.int 69621)<|dV 2)<|dC<|.int 7)<|dC<|.int 2147483587)<|ff 3)<|fO (d2 af fP (d2 af pY (dV 1)<|dC<|.int 2147483587)<|dV 3)<|ff 1)
def jn:aE:=(fB (aT (dB<|d2 af uG (dV 0)<|d2 af sq (dC<|.int 10)<|dC<|.int 18) (fJ<|gj ag<|fc (d2 af dE (dV 0)<|d2 af sq (dC<|.int 10)<|dC<|.int 18) fe) a8)<|fB (fO zh<|ff 1)<|fB (jT (eT<|fc (dC<|.int 64) fe) (ff 2) Wa)<|fJ<|gj ag zm)
def jC:List W->List Bx->O W:=aN 4<|aU jn
def Au:aE:=(fB (fO (d2 af sk (d2 af aF (dV 0) zh)<|dV 1)<|ff 2)<|fB (fO (d2 af EJ (d2 af aF (dV 0) zh)<|dV 1)<|EO (dV 0) zh)<|fJ<|dV 2)
def fk:List W->List Bx->O W:=aN 3<|aU Au
def oj:aE:=(fJ<|gT (gJ "int"<|dV 0)<|Kn<|gJ "bool"<|dV 0)
def gF:List W->List Bx->O W:=aN 1<|aU oj
def mf:aE:=(fJ<|gT (fq K1.gF 1<|fc (dV 0) fe)<|d3 qw qw (dV 1) (dV 0)<|dV 2)
def gm:List W->List Bx->O W:=aN 3<|aU mf
def Bg:aE:=(fB (fO (gj af<|fc (dC .non)<|fc (dC<|.bl ag)<|fc (dC<|.bl af)<|fc (sy ze)<|fc (d2 af sq (dC<|.int 10)<|dC<|.int 30)<|fc (dC<|.str "")<|fc (dC<|.str "a")<|fc (dC<|.str "1")<|fc (fL fe)<|fc (gj af fe)<|fc (d7 af [])<|fc (gj af<|fc (fL fe) fe)<|fc (fL<|fc (fL fe) fe)<|fc (fL<|fc zh fe)<|fc (gj af<|fc zh fe)<|fc (d7 af [(.inl 0,.int 1)])<|fc (fL<|fc (dC<|.bl ag)<|fc (dC<|.bl ag) fe) fe)<|ff 1)<|fJ<|d2 af aF (dV 1)<|fq K1.fk 2<|fc (dV 0)<|fc (dN af aQ zm) fe)
def fS:List W->List Bx->O W:=aN 2<|aU Bg
def gH (rec:List W->List Bx->O W):aE:=(fB (aT (cE<|dB<|gJ "tuple"<|dV 1) (fB (aT (qt (dB<|fq K1.gF 1 zm)<|dB<|d2 af pz (fq K1.fk 2<|fc (dV 0)<|fc (dC<|.int 3) fe) zh) (fJ<|d2 af fP (dV 1)<|d2 af aF (gj af<|fc ze<|fc (sy ze)<|fc (dC<|.int 9)<|fc (dC<|.int 100)<|fc (dC<|.int 9999)<|fc (sy<|d2 af sq (dC<|.int 10)<|dC<|.int 4) fe)<|fq K1.fk 2<|fc (dV 0)<|fc (dC<|.int 6) fe) a8)<|fJ<|fq K1.fS 1<|fc (dV 0) fe) a8)<|fB (fO (fq K1.fk 2<|fc (dV 0)<|fc (dC<|.int 12) fe)<|ff 2)<|fB (aT (eS (dB<|d2 af aZ (dV 2) zh)<|dB<|d2 af aZ (dV 1)<|fL fe) (fJ<|d2 af aF (gj af<|fc (fq K1.fS 1<|fc (dV 0) fe)<|fc (dN af qW zm)<|fc (d2 af fP (dV 1)<|fL<|fc (fq K1.fS 1<|fc (dV 0) fe) fe)<|fc (d2 af fP (dV 1)<|d6 af (dV 1) (dM<|sy ze) eU) fe)<|fq K1.fk 2<|fc (dV 0)<|fc (dC<|.int 4) fe) a8)<|fB (fO (fq K1.fk 2<|fc (dV 0)<|fc (dN af aQ zm) fe)<|ff 3)<|fB (aT (dB<|d2 af aZ (dV 2) ze) (fJ<|d2 af fP (d6 af (dV 1) eU<|dM<|dV 3)<|d6 af (dV 1) (dM<|d2 af fP (dV 3) ze) eU) a8)<|fB (aT (dB<|d2 af aZ (dV 2)<|dC<|.int 2) (fJ<|d2 af fP (d2 af fP (d6 af (dV 1) eU<|dM<|dV 3)<|d6 af (dV 1) (dM<|dV 3)<|dM<|d2 af fP (dV 3) ze)<|d6 af (dV 1) (dM<|dV 3) eU) a8)<|fJ<|d2 af fP (d2 af fP (d6 af (dV 1) eU<|dM<|dV 3)<|fL<|fc (fq rec 2<|fc (dV 0)<|fc (d2 af aF (dV 1)<|dV 3) fe) fe)<|d6 af (dV 1) (dM<|d2 af fP (dV 3) ze) eU)
def gK:Nat->List W->List Bx->O W
 |0=>λ_ _=>.bad
 |i+1=>aN 4<|aU<|gH<|gK i
def lD:aE:=(fB (fO (d2 af aF (gj af<|fc (dC<|.int 9)<|fc (dC<|.int 3)<|fc ze<|fc (dC<|.int 9) fe)<|fq K1.fk 2<|fc (dV 0)<|fc (dC<|.int 4) fe)<|ff 1)<|fB (fO (VR af<|dN af dG<|fc (gc af [ah,ae 0,ae 1] (eT<|fc (dC<|.int 4) fe) (ff 0) ge<|fq K1.fk 2<|fc (dV 1)<|fc (d2 af fP (dV 2) ze) fe) fe)<|ff 2)<|fJ<|fL<|fc (d2 af aF (gj af<|fc (dC<|.int 30)<|fc (d2 af fP ze<|fq K1.fk 2<|fc (dV 0)<|fc (dC<|.int 20) fe)<|fc (dC<|.int 999)<|fc (dC<|.int 8) fe)<|fq K1.fk 2<|fc (dV 0)<|fc (dC<|.int 4) fe)<|fc (dN af qu<|fc (dV 2) fe) fe)
def ia:List W->List Bx->O W:=aN 3<|aU lD
end K1
namespace K2
open L2 L2.DL
def Bh:aE:=(fJ<|gT (fq K1.i8 1<|fc (dV 0) fe)<|d2 af uG (dV 0) zh)
def iU:List W->List Bx->O W:=aN 1<|aU Bh
def CI:aE:=(aT (cE<|dB<|fq K2.iU 1<|fc (dV 0) fe) (sI 3<|dC<|.str "an hour is a whole number from 0 on") a8)
def jD:List W->List Bx->O W:=aN 1 CI
def lF:aE:=(fJ<|gT (fq K1.gF 1<|fc (dV 0) fe)<|d2 af uG (dV 0) zh)
def ic:List W->List Bx->O W:=aN 1<|aU lF
end K2
namespace bU
open L2 L2.DL
def jE:aE:=(aT (cE<|dB<|fq K1.j5 1<|fc (dV 0) fe) cZ a8)
def iC:List W->List Bx->O W:=aN 1<|aU jE
end bU
namespace aJ
open L2 L2.DL
def CJ:aE:=(fB (fO (dN af qu<|fc (gc af [ah,ae 0] (eT<|fc (d2 af fP ze<|fq K1.fk 2<|fc (dV 0)<|fc (dC<|.int 5) fe) fe) (ff 0) ge<|fq K1.fk 2<|fc (dV 1)<|fc (dC<|.int 4) fe) fe)<|ff 1)<|fB (fO (dN af qu<|fc (gc af [ah,ae 0] (eT<|fc (d2 af fP ze<|fq K1.fk 2<|fc (dV 0)<|fc (dC<|.int 4) fe) fe) (ff 0) ge<|fq K1.ia 1 zm) fe)<|ff 2)<|fB (fO (gj af fe)<|ff 3)<|fB (jT (eT<|fc (dN af aQ<|fc (dV 2) fe) fe) (ff 4)<|fO (d2 af fP (dV 3)<|gc af [ah,ae 0,ae 4] (eT<|fc (dV 4) fe) (ff 0) (dB<|d2 af aZ (fq K1.fk 2<|fc (dV 1)<|fc (dC<|.int 3) fe) zh)<|fL<|fc (dV 0)<|fc (dV 2) fe)<|ff 3)<|fJ<|fL<|fc (dV 1)<|fc (dV 2)<|fc (dN af qu<|fc (dN af dG<|fc (dV 3) fe) fe)<|fc (d2 af aF (gj af<|fc ze<|fc (dC<|.int 2)<|fc (dC<|.int 9)<|fc (d2 af fP ze<|fq K1.fk 2<|fc (dV 0)<|fc (dC<|.int 9) fe) fe)<|fq K1.fk 2<|fc (dV 0)<|fc (dC<|.int 4) fe) fe)
def iO:List W->List Bx->O W:=aN 5<|aU CJ
def j6:aE:=(fB (fO (dN ag qW zm)<|ff 2)<|fJ<|gc af [ah,ae 0,ae 2] (bS<|dV 1) (ff 0) ge<|yf (dV 2)<|fq K1.fk 2<|fc (dV 1)<|fc (dN af aQ<|fc (dV 2) fe) fe)
def jF:List W->List Bx->O W:=aN 3<|aU j6
def Av:aE:=(fB (dJ 3 4<|fc (fq K1.fk 2<|fc (dV 0)<|fc (dV 2) fe)<|fc (fq K1.fk 2<|fc (dV 0)<|fc (d2 af aF (gj af<|fc (dC<|.int 3)<|fc (dC<|.int 10) fe)<|fq K1.fk 2<|fc (dV 0)<|fc (dC<|.int 2) fe) fe) fe)<|fB (dJ 5 6<|fc (fq K1.fk 2<|fc (dV 0)<|fc (dN af aQ<|fc (d2 af aF (dV 1) zh) fe) fe)<|fc (fq K1.fk 2<|fc (dV 0)<|fc (dC<|.int 5) fe) fe)<|fB (aT (dB<|d2 af aZ (dV 6) zh) (fJ<|fL<|fc (dV 3)<|fc (dC<|.str "out")<|fc (dV 4) fe) a8)<|fB (aT (dB<|d2 af kZ (dV 6)<|dC<|.int 3) (fJ<|fL<|fc (dV 3)<|fc (dC<|.str "to")<|fc (dV 4)<|fc (dV 5) fe) a8)<|fB (fO (d2 af aF (gj af<|fc zh<|fc (fq K1.fk 2<|fc (dV 0)<|fc (dC<|.int 9) fe)<|fc (fq K1.fk 2<|fc (dV 0)<|fc (dC<|.int 40) fe)<|fc (dC<|.int 999) fe)<|fq K1.fk 2<|fc (dV 0)<|fc (dC<|.int 4) fe)<|ff 7)<|fJ<|fL<|fc (dV 3)<|fc (dC<|.str "in")<|fc (dV 4)<|fc (fq K1.fk 2<|fc (dV 0)<|fc (dN af aQ<|fc (d2 af aF (dV 1) ze) fe) fe)<|fc (dV 5)<|fc (dV 7)<|fc (fq K1.fk 2<|fc (dV 0)<|fc (dC<|.int 100) fe) fe)
def iH:List W->List Bx->O W:=aN 8<|aU Av
abbrev gB:aE:=(fB (fO (fq aJ.iH 3<|fc (dV 0)<|fc (dV 1)<|fc (dV 3) fe)<|ff 6)<|fB (aT (qt (dB<|d2 af aZ (d2 af aF (dV 6) ze)<|dC<|.str "in")<|dB<|d2 af pz (fq K1.fk 2<|fc (dV 0)<|fc (dC<|.int 3) fe) zh) (fO (d2 af fP (fL<|fc (d2 af EJ (d2 af aF (dV 6) zh)<|dC<|.int 3) fe)<|d6 af (dV 6) (dM ze) eU)<|ff 6) a8)<|KR (dV 4) (dV 6)<|dC<|.bl ag)
def CK:aE:=(fB (fO yo<|ff 4)<|fB (jT (eT<|fc (fq K1.fk 2<|fc (dV 0)<|fc (d2 af fP (dV 2) ze) fe) fe) (ff 5) gB)<|fJ<|fq aJ.jF 2<|fc (dV 0)<|fc (KO af<|dV 4) fe)
def iP:List W->List Bx->O W:=aN 7<|aU CK
def gx:aE:=(fB (dJ 2 3<|fc (d2 af dE (dN af aQ<|fc (d2 af aF (dV 0) ze) fe) ze)<|fc (d2 af dE (dN af aQ<|fc (d2 af aF (dV 0) zh) fe) ze) fe)<|fB (aT (dB<|d2 af aZ (dV 1)<|dC<|.str "in") (fJ<|fL<|fc (dC<|.int 9)<|fc (dV 2)<|fc (dV 3)<|fc (dC<|.int 999)<|fc (dC<|.int 99) fe) a8)<|fB (aT (dB<|d2 af aZ (dV 1)<|dC<|.str "out") (fJ<|fL<|fc (dC<|.int 9) fe) a8)<|fB (aT (dB<|d2 af aZ (dV 1)<|dC<|.str "to") (fJ<|fL<|fc (dC<|.int 9)<|fc (dV 3) fe) a8)<|fJ<|fL fe)
def ie:List W->List Bx->O W:=aN 4<|aU gx
def G2:aE:=(fB (aT (eS (cE<|dB<|gJ "tuple"<|dV 1)<|eS (dB<|d2 af kZ (dN af aQ zm)<|dC<|.int 3)<|cE<|dB<|fq K2.iU 1<|fc (d2 af aF (dV 1) zh) fe) (fJ<|dC<|.bl af) a8)<|fB (fO (fq aJ.ie 2<|fc (dV 0)<|fc (d2 af aF (dV 1) ze) fe)<|ff 2)<|fB (aT (dB<|d2 af cR (dN af aQ<|fc (dV 2) fe)<|d2 af dE (dN af aQ zm)<|dC<|.int 2) (fJ<|dC<|.bl af) a8)<|fJ<|dN af dZ<|fc (gc af [ah,ah] (yd<|fc (d6 af (dV 1) (dM<|dC<|.int 2) eU)<|fc (dV 2) fe) (lC 2<|gG (ff 0)<|gG (ff 1) mZ) ge<|fq K1.gk 3<|fc (dV 0)<|fc zh zm) fe)
def iA:List W->List Bx->O W:=aN 3<|aU G2
def om:aE:=(fB (aT (eS (cE<|dB<|gJ "list"<|dV 1)<|dB<|d2 af pz (dN af aQ zm)<|dC<|.int 16) (fJ<|dC<|.bl af) a8)<|fJ<|gT (dN af dZ<|fc (gc af [ah,ae 0] (bS<|dV 1) (ff 0) ge<|fq aJ.iA 2<|fc (dV 1)<|fc (dV 0) fe) fe)<|fq K1.g6 1<|fc (dN af dG zm) fe)
def gn:List W->List Bx->O W:=aN 2<|aU om
def j7:aE:=(fB (aT (dB<|d2 af aZ (d2 af aF (dV 0) ze)<|dC<|.str "in") (fJ<|d2 af aF (dV 0)<|dC<|.int 4) a8)<|fB (aT (dB<|d2 af aZ (d2 af aF (dV 0) ze)<|dC<|.str "to") (fJ<|d2 af aF (dV 0)<|dC<|.int 3) a8)<|fJ<|dC .non)
def fZ:List W->List Bx->O W:=aN 1<|aU j7
def CL:aE:=(fJ<|d2 af (inD ag) (fL<|fc (dN af minD<|fc (dV 1)<|fc (dV 2) fe)<|fc (dN af maxD<|fc (dV 1)<|fc (dV 2) fe) fe)<|d2 af aF (dV 0)<|dC<|.int 2)
def iQ:List W->List Bx->O W:=aN 3<|aU CL
def lN:aE:=(fB (dJ 4 5<|fc (d2 af aF (dV 3) ze)<|fc (d2 af aF (dV 3)<|dC<|.int 2) fe)<|fB (aT (qt (dB<|d2 af aZ (dV 4)<|dC<|.str "in")<|dB<|sL af (dV 5)<|dV 1) (fJ<|dC<|.str "there") a8)<|fB (aT (qt (dB<|d2 af cR (dV 4)<|dC<|.str "in")<|dB<|sL ag (dV 5)<|dV 2) (fJ<|dC<|.str "none") a8)<|fB (aT (dB<|d2 af aZ (dV 4)<|dC<|.str "out") (fJ<|dC<|.str "takes") a8)<|fB (fO (fq aJ.fZ 1<|fc (dV 3) fe)<|ff 6)<|fB (aT (qt (dB<|d2 af aZ (dV 4)<|dC<|.str "to")<|dB<|d2 af aZ (kY (dV 2)<|dV 5)<|dV 6) (fJ<|dC<|.str "same") a8)<|fB (fO (kR (dB<|d2 af aZ (dV 4)<|dC<|.str "in") (d2 af aF (dV 3)<|dC<|.int 3)<|kY (dV 1)<|dV 5)<|ff 7)<|fB (fO (wo af [ah,ae 2,ae 6] 2 (ff 0) (dB<|d2 af aZ (kY (dV 1)<|dV 0)<|dV 2)<|dV 0)<|ff 8)<|fB (aT (dB<|dN af dZ<|fc (gc af [ah,ae 0,ae 1,ae 7] (bS<|dV 8) (ff 0) ge<|fq aJ.iQ 3<|fc (dV 1)<|fc (dV 3)<|fc (kY (dV 2)<|dV 0) fe) fe) (fJ<|dC<|.str "takes") a8)<|fJ<|dC<|.str "apart")
def i9:List W->List Bx->O W:=aN 9<|aU lN
abbrev rB:aE:=(fB (fO (d2 af aF (dV 5)<|dC<|.int 2)<|ff 6)<|fB (fO (fq aJ.i9 4<|fc (dV 0)<|fc (dV 3)<|fc (dV 4)<|fc (dV 5) fe)<|ff 7)<|fB (aT (dB<|d2 af cR (dV 7)<|dC<|.str "takes") (fB (gO<|tP (dV 2)<|fL<|fc (dV 5)<|fc (dV 7)<|fc (dC .non)<|fc (dC .non) fe) aab) a8)<|fB (gO<|tP (dV 2)<|fL<|fc (dV 5)<|fc (dV 7)<|fc (yr (dV 4)<|dV 6)<|fc (fq aJ.fZ 1<|fc (dV 5) fe) fe)<|fB (aT (dB<|d2 af aZ (d2 af aF (dV 5) ze)<|dC<|.str "in") (wc (dV 3) (dV 6)<|d2 af aF (dV 5)<|dC<|.int 3) a8)<|aT (dB<|d2 af aZ (d2 af aF (dV 5) ze)<|dC<|.str "out") (yt (dV 4)<|dV 6)<|wc (dV 4) (dV 6)<|fq aJ.fZ 1<|fc (dV 5) fe)
def Lz:aE:=(fB (fO (gj ag fe)<|ff 2)<|fB (fO (d7 ag [])<|ff 3)<|fB (fO (d7 ag [])<|ff 4)<|fB (jT (bS<|dN af dG zm) (ff 5) rB)<|fJ<|tT 2)
def oJ:List W->List Bx->O W:=aN 8<|aU Lz
end aJ
namespace kJ
open L2 L2.DL
abbrev g3:DG:=(lC 3<|gG (ff 3)<|gG (ff 4)<|gG (ff 5) mZ)
abbrev KS:aE:=(fB (aT (dB<|d2 af pz (d2 af aF (dV 3) zh)<|dV 1) aaa a8)<|aT (dB<|Hb af<|dV 5) (yt (dV 2)<|d2 af aF (dV 3)<|dC<|.int 2)<|wc (dV 2) (d2 af aF (dV 3)<|dC<|.int 2)<|dV 5)
def j8:aE:=(fB (fO (d7 ag [])<|ff 2)<|fB (jT (bS<|dV 0) g3 KS)<|fJ<|tT 2)
def iJ:List W->List Bx->O W:=aN 6<|aU j8
abbrev _root_.aJ.g4:DG:=(lC 4<|gG (ff 0)<|gG (ff 1)<|gG (ff 2)<|gG (ff 3) mZ)
def AT:aE:=(fJ<|gc af [ah,ah,ah,ah] (bS<|fq aJ.oJ 2<|fc (dV 0) zm) aJ.g4 (dB<|d2 af aZ (dV 1)<|dC<|.str "takes")<|fL<|fc (dV 0)<|fc (dV 2)<|fc (dV 3) fe)
def iV:List W->List Bx->O W:=aN 2<|aU AT
end kJ
namespace K13
open L2 L2.DL
noncomputable section
def oB:aE:=(fB (dJ 2 3<|fc (dN af aQ<|fc (d2 af aF (dV 1) zh) fe)<|fc (dN af aQ<|fc (d2 af aF (dV 1) ze) fe) fe)<|fB (fO (fL<|fc (dC<|.int 4)<|fc (dC<|.str "in")<|fc (dC<|.int 3)<|fc zh<|fc zh<|fc (dC<|.int 7)<|fc (dC<|.int 8) fe)<|ff 4)<|fB (fO (gj ag<|fc (dV 4)<|fc (fL<|fc (dC<|.int 4)<|fc (dC<|.str "out")<|fc (dC<|.int 3) fe)<|fc (fL<|fc (dC<|.int 4)<|fc (dC<|.str "to")<|fc (dC<|.int 3)<|fc zh fe)<|fc (fL<|fc (sy ze)<|fc (dC<|.str "out")<|fc (dC<|.int 3) fe)<|fc (fL<|fc (dC<|.bl ag)<|fc (dC<|.str "out")<|fc (dC<|.int 3) fe)<|fc (fL<|fc (dC<|.int 4)<|fc (dC<|.str "out")<|fc (dC<|.int 10) fe)<|fc (fL<|fc (dC<|.int 4)<|fc (dC<|.str "out")<|fc (sy ze) fe) fe)<|ff 5)<|fB (fO (d2 ag fP (dV 5)<|gj af<|fc (fL<|fc (dC<|.int 4)<|fc (dC<|.str "to")<|fc (dC<|.int 3)<|fc (dV 2) fe)<|fc (fL<|fc (dC<|.int 4)<|fc (dC<|.str "to")<|fc (dC<|.int 3)<|fc (d2 af dE (dV 2) ze) fe)<|fc (fL<|fc (dC<|.int 4)<|fc (dC<|.str "to")<|fc (dC<|.int 3)<|fc (sy ze) fe)<|fc (fL<|fc (dC<|.int 4)<|fc (dC<|.str "out")<|fc (dC<|.int 3)<|fc zh fe)<|fc (fL<|fc (dC<|.int 4)<|fc (dC<|.str "to")<|fc (dC<|.int 3) fe) fe)<|ff 5)<|fB (fO (d2 ag fP (dV 5)<|gj af<|fc (fL<|fc (dC<|.int 4)<|fc (dC<|.str "in")<|fc (dC<|.int 3)<|fc (dV 3)<|fc zh<|fc (dC<|.int 7)<|fc (dC<|.int 8) fe)<|fc (fL<|fc (dC<|.int 4)<|fc (dC<|.str "in")<|fc (dC<|.int 3)<|fc zh<|fc (dV 2)<|fc (dC<|.int 7)<|fc (dC<|.int 8) fe)<|fc (fL<|fc (dC<|.int 4)<|fc (dC<|.str "in")<|fc (dC<|.int 3)<|fc zh<|fc zh<|fc (dC<|.int 1000)<|fc (dC<|.int 8) fe) fe)<|ff 5)<|fB (fO (d2 ag fP (dV 5)<|gj af<|fc (fL<|fc (dC<|.int 4)<|fc (dC<|.str "in")<|fc (dC<|.int 3)<|fc zh<|fc zh<|fc (dC<|.int 999)<|fc (dC<|.int 99) fe)<|fc (fL<|fc (dC<|.int 4)<|fc (dC<|.str "in")<|fc (dC<|.int 3)<|fc zh<|fc zh<|fc (dC<|.int 7)<|fc (dC<|.int 100) fe)<|fc (fL<|fc (dC<|.int 4)<|fc (dC<|.str "in")<|fc (dC<|.int 3)<|fc zh<|fc zh<|fc (sy ze)<|fc (dC<|.int 8) fe)<|fc (fL<|fc (dC<|.int 4)<|fc (dC<|.str "In")<|fc (dC<|.int 3) fe) fe)<|ff 5)<|fB (fO (d2 ag fP (dV 5)<|gj af<|fc (fL<|fc (dC<|.int 4)<|fc (dC<|.str "in")<|fc (dC<|.int 3) fe)<|fc (fL<|fc (dC<|.int 4)<|fc (dC<|.int 5)<|fc (dC<|.int 3) fe)<|fc (fL<|fc (dC<|.int 4)<|fc (dC .non)<|fc (dC<|.int 3) fe)<|fc (fL<|fc (dC<|.int 4)<|fc (dC<|.str "")<|fc (dC<|.int 3) fe)<|fc (dN af qW<|fc (dV 4) fe)<|fc (fL<|fc (dC<|.int 4)<|fc (dC<|.str "to")<|fc (dC<|.bl ag)<|fc zh fe) fe)<|ff 5)<|fB (gO<|tP (dV 5)<|fL<|fc (dC<|.int 4)<|fc (dC<|.str "to")<|fc (dC<|.int 3)<|fc (dC .non) fe)<|fB (fO (fq (K1.gK 12) 2<|fc (dV 0)<|fc (dV 4) fe)<|ff 6)<|fJ<|d2 af fP (dV 5)<|gj af<|fc (dV 6)<|fc (fq (K1.gK 12) 2<|fc (dV 0)<|fc (dV 6) fe)<|fc (fq K1.fS 1<|fc (dV 0) fe)<|fc (fL<|fc (d2 af dE (d2 af sq (dC<|.int 10)<|dC<|.int 40) ze)<|fc (dC<|.str "out")<|fc (dC<|.int 9) fe) fe)
def KU:List W->List Bx->O W:=aN 7<|aU oB
def KW (C:ai):aE:=(fB (gO<|fq bU.iC 1 zm)<|fB (qb C (dV 0) "home"<|dV 1)<|fB (qb C (dV 0) "kept"<|fL fe)<|fB (qb C (dV 0) "dark_hours"<|fL fe) a8)
noncomputable def afG (C:ai):List W->List Bx->O W:=λ_ _=>.bad
def jg:aE:=(fB (aT (eS (cE<|dB<|gJ "tuple"<|dV 1)<|eS (dB<|d2 af (inD ag) (dN af aQ zm)<|fL<|fc (dC<|.int 3)<|fc (dC<|.int 4)<|fc (dC<|.int 7) fe)<|cE<|dB<|fq K2.ic 1<|fc (d2 af aF (dV 1) zh) fe) (fJ<|dC<|.bl af) a8)<|fB (aT (eS (cE<|dB<|gJ "str"<|d2 af aF (dV 1) ze)<|cE<|dB<|fq K1.gm 3<|fc (d2 af aF (dV 1)<|dC<|.int 2)<|fc zh<|fc (dC<|.int 9) fe) (fJ<|dC<|.bl af) a8)<|fB (aT (dB<|d2 af cR (kY (d7 ag [(.inl 3,.str "out"),(.inl 4,.str "to"),(.inl 7,.str "in")])<|dN af aQ zm)<|d2 af aF (dV 1) ze) (fJ<|dC<|.bl af) a8)<|fB (aT (dB<|d2 af aZ (dN af aQ zm)<|dC<|.int 4) (fJ<|fq K1.gm 3<|fc (d2 af aF (dV 1)<|dC<|.int 3)<|fc zh<|fc (d2 af dE (dN af aQ<|fc (d2 af aF (dV 0) zh) fe) ze) fe) a8)<|fB (aT (qt (dB<|d2 af aZ (dN af aQ zm)<|dC<|.int 7)<|cE<|dB<|fq K1.gm 3<|fc (d2 af aF (dV 1)<|dC<|.int 3)<|fc zh<|fc (d2 af dE (dN af aQ<|fc (d2 af aF (dV 0) ze) fe) ze) fe) (fJ<|dC<|.bl af) a8)<|fB (aT (qt (dB<|d2 af aZ (dN af aQ zm)<|dC<|.int 7)<|cE<|dB<|fq K1.gm 3<|fc (d2 af aF (dV 1)<|dC<|.int 4)<|fc zh<|fc (d2 af dE (dN af aQ<|fc (d2 af aF (dV 0) zh) fe) ze) fe) (fJ<|dC<|.bl af) a8)<|fJ<|EE (d2 af aZ (dN af aQ zm)<|dC<|.int 3)<|gT (fq K1.gm 3<|fc (d2 af aF (dV 1)<|dC<|.int 5)<|fc zh<|fc (dC<|.int 999) fe)<|fq K1.gm 3<|fc (d2 af aF (dV 1)<|dC<|.int 6)<|fc zh<|fc (dC<|.int 99) fe)
def uU:List W->List Bx->O W:=aN 2<|aU jg
def jN:aE:=(fB (aT (eS (cE<|dB<|gJ "list"<|dV 1)<|eS (dB<|d2 af pz (dN af aQ zm)<|dC<|.int 16)<|cE<|dB<|dN af dZ<|fc (gc af [ah,ae 0] (bS<|dV 1) (ff 0) ge<|fq K13.uU 2<|fc (dV 1)<|fc (dV 0) fe) fe) (fJ<|dC<|.bl af) a8)<|fJ<|d2 af aZ (dN af He zm)<|dN af aQ zm)
def sM:List W->List Bx->O W:=aN 2<|aU jN
def G3 (C:ai):aE:=(fJ<|dN af qW<|fc (dr C (dV 0) "kept") fe)
def Hi (C:ai):List W->List Bx->O W:=aN 1<|aU<|G3 C
def BM:aE:=(fB (gO<|fq bU.iC 1<|fc (dV 0) fe)<|aT (cE<|dB<|fq aJ.gn 2<|fc (dV 0) zm) (sI 4<|dC<|.str "pages are a list of at most sixteen unlike pages of the house") a8)
def Hj:List W->List Bx->O W:=aN 2<|BM
def DI:aE:=(fB (gO<|fq K13.Hj 2<|fc (dV 0) zm)<|fJ<|gc af [ah,ah,ah,ah] (bS<|fq aJ.oJ 2<|fc (dV 0) zm) aJ.g4 ge<|fL<|fc (dV 0) zm)
def Wb:List W->List Bx->O W:=aN 2<|DI
def LA:aE:=(fB (gO<|fq K13.Hj 2<|fc (dV 0) zm)<|fB (gO<|fq K2.jD 1<|fc (dV 2) fe)<|fB (fO (fq kJ.iJ 2<|fc (fq kJ.iV 2<|fc (dV 0) zm)<|fc (dV 2) fe)<|ff 3)<|fJ<|Hf af<|dV 3)
def Wc:List W->List Bx->O W:=aN 4<|LA
def DJ:aE:=(fB (sJ<|aT (dB<|d2 af aZ (dV 0) zh) (gO<|fq K13.Wb 2<|fc (dV 1)<|fc (dV 2) fe)<|gO<|fq K13.Wc 3<|fc (dV 1)<|fc (dV 2)<|fc (dC<|.int 5) fe)<|fJ<|dC<|.str "")
def Hk:List W->List Bx->O W:=aN 4<|aU DJ
def AU (C:ai):aE:=(aT (cE<|dB<|fq aJ.iA 2<|fc (dr C (dV 0) "home") zm) (sI 11<|dC<|.str "a page is a tuple of the house's own numbers") a8)
def KY (C:ai):List W->List Bx->O W:=aN 2<|AU C
def LB (C:ai):aE:=(fB (gO<|tP (dr C (dV 0) "earlier")<|fL<|fc (dr C (dV 0) "kept")<|fc (dr C (dV 0) "dark_hours") fe)<|fB (qb C (dV 0) "kept"<|dN af qu<|fc (dN af dG zm) fe)<|qb C (dV 0) "dark_hours"<|dN af qu<|fc (dN af dG<|fc (dV 2) fe) fe)
def KZ (C:ai):List W->List Bx->O W:=aN 3<|aU<|LB C
def LC (C:ai):aE:=(fB (gO<|nU C (K13.KY C) "need_page" 2 (dV 0) zm)<|fB (aT (dB<|d2 af (inD af) (dV 1)<|dr C (dV 0) "kept") (sI 13<|dC<|.str "this page is there already") a8)<|fB (aT (dB<|d2 af uG (dN af aQ<|fc (dr C (dV 0) "kept") fe)<|dC<|.int 16) (sI 15<|dC<|.str "sixteen pages are there already") a8)<|gO<|nU C (K13.KZ C) "keep" 3 (dV 0)<|fc (d2 af fP (dr C (dV 0) "kept")<|fL zm)<|fc (dr C (dV 0) "dark_hours") fe)
def Hl (C:ai):List W->List Bx->O W:=aN 2<|LC C
def G4:aE:=(fJ<|dN af qu<|fc (gc af [ah,ae 1] (bS<|dV 0) (ff 0) (dB<|d2 af cR (dV 0)<|dV 1)<|dV 0) fe)
def Wf:List W->List Bx->O W:=aN 2<|aU G4
def DM (C:ai):aE:=(fB (gO<|nU C (K13.KY C) "need_page" 2 (dV 0) zm)<|fB (aT (dB<|d2 af (inD ag) (dV 1)<|dr C (dV 0) "kept") (sI 14<|dC<|.str "this page isn't there") a8)<|gO<|nU C (K13.KZ C) "keep" 3 (dV 0)<|fc (fq K13.Wf 2<|fc (dr C (dV 0) "kept") zm)<|fc (dr C (dV 0) "dark_hours") fe)
def Hm (C:ai):List W->List Bx->O W:=aN 2<|DM C
def G5 (C:ai):aE:=(fB (sJ<|aT (dB<|d2 af aZ (dV 1) zh) (gO<|nU C (K13.Hl C) "tell" 2 (dV 0)<|fc (dV 2) fe)<|gO<|nU C (K13.Hm C) "strike" 2 (dV 0)<|fc (dV 2) fe)<|fJ<|dC<|.str "")
def sN (C:ai):List W->List Bx->O W:=aN 4<|aU<|G5 C
def Pl (C:ai):aE:=(fB (jT (eT<|fc (dN af maxD<|fc ze<|fc (dN af minD<|fc (uH<|dV 0)<|fc (dC<|.int 5) fe) fe) fe) (ff 1)<|fB (fO (fq K1.jC 1<|fc (fq K1.g9 2<|fc (dV 0) zm) fe)<|ff 2)<|fB (fO (fq aJ.iO 1<|fc (dV 2) fe)<|ff 3)<|fB (dJ 4 5<|fc (fq aJ.iP 4<|fc (dV 2)<|fc (dV 3)<|fc (dC<|.int 14)<|fc (dC<|.int 30) fe)<|fc (yk C "earlier" (K13.KW C)<|fc (dV 3) fe) fe)<|fB (jT (bS<|fq K13.KU 2<|fc (dV 2)<|fc (dV 3) fe) (ff 6)<|fB (dJ 7 8<|fc (fq K1.fk 2<|fc (dV 2)<|fc (d2 af fP (dN af aQ<|fc (dV 4) fe) ze) fe)<|fc (v8<|dV 6) fe)<|fB (jT (bS<|gj af<|fc (d2 af fP (d2 af fP (d6 af (dV 4) eU<|dM<|dV 7)<|gj af<|fc (dV 6) fe)<|d6 af (dV 4) (dM<|dV 7) eU)<|fc (gj af<|fc (dV 6) fe)<|fc (dN af qu<|fc (dV 4) fe) fe) (ff 9)<|fB (fO (kR (dB<|fq K13.sM 2<|fc (dV 3)<|fc (dV 9) fe) (dC<|.str "")<|dC<|.str "pages")<|ff 10)<|aT (dB<|d2 af cR (gc af [ah,ae 3,ae 9] (bS<|fL<|fc zh<|fc ze fe) (ff 0) ge<|fq K13.Hk 3<|fc (dV 0)<|fc (dV 1)<|fc (dV 2) fe)<|gj af<|fc (dV 10)<|fc (dV 10) fe) (fJ<|dC<|.bl af) a8)<|fB (fO (kR (dB<|fq K13.uU 2<|fc (dV 3)<|fc (dV 6) fe) (gj af<|fc (dC<|.str "")<|fc (dC<|.str "") fe)<|gj af<|fc (dC<|.str "page")<|fc (dC<|.str "page") fe)<|ff 10)<|aT (eS (dB<|d2 af cR (gc af [ah,ae 5,ae 6] (bS<|fL<|fc zh<|fc ze fe) (ff 0) ge<|fq (K13.sN C) 3<|fc (dV 1)<|fc (dV 0)<|fc (dV 2) fe)<|dV 10)<|eS (dB<|d2 af cR (nU C (K13.Hi C) "pages" 1 (dV 5) fe)<|gj af fe)<|dB<|d2 af cR (v8<|dV 6)<|dV 8) (fJ<|dC<|.bl af) a8)<|fB (fO (gc af [ah] (eT<|fc (dC<|.int 16) fe) (ff 0) ge<|fL<|fc (dV 0)<|fc (dC<|.str "out")<|fc zh fe)<|ff 11)<|jT (bS<|gj af<|fc (dV 11)<|fc (d2 af fP (dV 11)<|gj af<|fc (fL<|fc (dC<|.int 16)<|fc (dC<|.str "out")<|fc zh fe) fe)<|fc (d2 af fP (dV 4)<|d6 af (dV 4) eU<|dM ze)<|fc (yh af 0 4)<|fc (dC .non)<|fc (fq K1.fS 1<|fc (dV 2) fe)<|fc (gj af fe) fe) (ff 9)<|fB (fO (kR (dB<|fq K13.sM 2<|fc (dV 3)<|fc (dV 9) fe) (dC<|.str "")<|dC<|.str "pages")<|ff 10)<|aT (dB<|d2 af cR (gc af [ah,ae 3,ae 9] (bS<|fL<|fc zh<|fc ze fe) (ff 0) ge<|fq K13.Hk 3<|fc (dV 0)<|fc (dV 1)<|fc (dV 2) fe)<|gj af<|fc (dV 10)<|fc (dV 10) fe) (fJ<|dC<|.bl af) a8)<|fJ<|dC<|.bl ag)
def fn_law (C:ai):List W->List Bx->O W:=aN 12<|aU<|Pl C
end
end K13
namespace L2.DL

@[simp] theorem fX {k:α->List Bx->O β}:fC (.val a bx) k=k a bx:=rfl
@[simp] theorem Ux {k:α->List Bx->O β}:fC .bad k=.bad:=rfl
@[simp] theorem iM:bp (.val a bx) k=k a bx:=rfl
@[simp] theorem Uy:bp (.bad) k=.bad:=rfl
@[simp] theorem mP {k:α->List Bx->O β}:bindB (.val a bx) k=k a bx:=rfl

@[simp] theorem iI:dV i env bx=match env[i]? with|some (ae w)=>.val w bx|_=>.bad:=rfl
@[simp] theorem Ti:dC d env bx=.val (.d d) bx:=rfl
@[simp] theorem RQ:fe env bx=.val [] bx:=rfl
@[simp] theorem FC:fc m k env bx=fC (m env bx) λw bx1=>fC (k env bx1) λl aq=>.val (w::l) aq:=rfl
@[simp] theorem FD:fq fn n k env bx=fC (k env bx) λws bx1=>if ws.length=n then fn ws bx1 else .bad:=rfl
@[simp] theorem Uc:dB m env bx=fC (m env bx) λw bx1=>match w with|.d (.bl k)=>.val k bx1|_=>.bad:=rfl
@[simp] theorem LD:qt m k env bx=fC (m env bx) λb bx1=>match b with|true=>k env bx1|false=>.val af bx1:=rfl
@[simp] theorem Pm:eS m k env bx=fC (m env bx) λb bx1=>match b with|true=>.val ag bx1|false=>k env bx1:=rfl
@[simp] theorem RR:cE m env bx=fC (m env bx) λb bx1=>.val (!b) bx1:=rfl
@[simp] theorem N4:gT m k env bx=fC (m env bx) λw bx1=>match w with|.d (.bl ag)=>k env bx1|.d (.bl af)=>.val (.d<|.bl af) bx1|_=>.bad:=rfl
@[simp] theorem LF:EE m k env bx=fC (m env bx) λw bx1=>match w with|.d (.bl ag)=>.val (.d<|.bl ag) bx1|.d (.bl af)=>k env bx1|_=>.bad:=rfl
@[simp] theorem T4:Kn m env bx=fC (m env bx) λw bx1=>match w with|.d (.bl k)=>.val (.d<|.bl<|!k) bx1|_=>.bad:=rfl
@[simp] theorem oK:ge env bx=.val ag bx:=rfl
@[simp] theorem T5:gJ n m env bx=fC (m env bx) λw bx1=>match bG bx1 w with|some d=>.val (.d<|.bl<|sr (pW d) n) bx1|none=>.bad:=rfl
@[simp] theorem G6:d2 b g ma mb env bx=fC (ma env bx) λx bx1=>fC (mb env bx1) λy aq=>b9 b ((bG aq x).bind λp=>(bG aq y).bind λq=>g p q) aq:=rfl
@[simp] theorem N5:dN b g k env bx=fC (k env bx) λws bx1=>b9 b ((nP bx1 ws).bind g) bx1:=rfl
@[simp] theorem Uz:d3 g g' ma mb mc env bx=fC (ma env bx) λx bx1=>fC (mb env bx1) λy aq=>
 fC (b9 af ((bG aq x).bind λp=>(bG aq y).bind λq=>g p q) aq) λz cb=>match z with
  |.d (.bl ag)=>fC (mc env cb) λw eQ=>b9 af ((bG eQ y).bind λp=>(bG eQ w).bind λq=>g' p q) eQ
  |.d (.bl af)=>.val (.d<|.bl af) cb
  |_=>.bad:=rfl
@[simp] theorem oo:bG bx (.d d)=ae d:=rfl
@[simp] theorem LG:nP bx []=ae []:=rfl
@[simp] theorem LH:nP bx (.d d::l)=(nP bx l).map λt=>d::t:=by
 erw[nP];cases nP bx l<;>rfl
@[simp] theorem SV:b9 b ah bx=.bad:=rfl
@[simp] theorem iW:b9 af (ae q) bx=.val (.d q.toD) bx:=by cases q<;>rfl
@[simp] theorem Ud:b9 ag (ae<|.lst l) bx=.val (.b bx.length) (bx++[.lst l]):=rfl
@[simp] theorem FE:(Res.old d).toD=d:=rfl
@[simp] theorem N6:(Res.tup l).toD=.tup l:=rfl
@[simp] theorem mh:(Res.lst l).toD=.lst l:=rfl
@[simp] theorem T6:(Res.az l).toD=.az l:=rfl
@[simp] theorem Ue:a8 env bx=.nx env bx:=rfl
@[simp] theorem mQ:fB m k env bx=match m env bx with|.nx bb bx1=>k bb bx1|o=>o:=rfl
@[simp] theorem FF:gO m env bx=bp (m env bx) λ_ bx1=>.nx env bx1:=rfl
@[simp] theorem LJ:fJ m env bx=bp (m env bx) λw bx1=>.rt w bx1:=rfl
@[simp] theorem Pn:aT t m k env bx=bp (t env bx) λb bx1=>match b with|true=>m env bx1|false=>k env bx1:=rfl
@[simp] theorem DN:fO m g env bx=bp (m env bx) λw bx1=>match g w env bx1 with|some (bb,aq)=>.nx bb aq|none=>.bad:=rfl
@[simp] theorem RS:jT m g body env bx=bp (m env bx) λds bx1=>eD g body ds env bx1:=rfl
@[simp] theorem CM:ff i w env bx=ae (env.set i<|ae w,bx):=rfl
@[simp] theorem T7:mZ [] env bx=ae (env,bx):=rfl
@[simp] theorem Tj:gG g k (w::l) env bx=(g w env bx).bind λ(bb,bx1)=>k l bb bx1:=rfl
@[simp] theorem T8:lC n k (.d<|.tup l) env bx=if l.length=n then k (l.map W.d) env bx else ah:=rfl
@[simp] theorem BN:gc bo src mi g tf te env bx=fC (mi env bx) λds bx1=>fC (bw g tf te ds (eF src env) bx1 []) λl aq=>b9 bo (ae<|.lst l) aq:=rfl
@[simp] theorem Aw:eF [] env=[]:=rfl
@[simp] theorem oq:eF (ah::l) env=ah::eF l env:=rfl
@[simp] theorem ou:eF (ae i::l) env=((env[i]?).bind id)::eF l env:=rfl
@[simp] theorem FG:bS m env bx=fC (m env bx) λw bx1=>match w with|.d (.lst l)=>.val (l.map W.d) bx1|.d (.tup l)=>.val (l.map W.d) bx1|_=>.bad:=rfl
@[simp] theorem RT:fL k env bx=fC (k env bx) λws bx1=>b9 af ((pk ws).bind λl=>if l.length<=sizeLine then ae (.tup l) else ah) bx1:=rfl
@[simp] theorem LK:gj bo k env bx=fC (k env bx) λws bx1=>b9 bo ((pk ws).bind λl=>if l.length<=sizeLine then ae (.lst l) else ah) bx1:=rfl
@[simp] theorem Tk:pk []=ae []:=rfl
@[simp] theorem RU:pk (.d d::l)=(pk l).map λt=>d::t:=rfl
@[simp] theorem Uf:sy m env bx=fC (m env bx) λw bx1=>match w with|.d (.int i)=>.val (.d<|.int<|-i) bx1|_=>.bad:=rfl
@[simp] theorem Tl:d6 bo m l u env bx=fC (m env bx) λx bx1=>fC (l env bx1) λi aq=>fC (u env aq) λj cb=>b9 bo ((bG cb x).bind λd=>qv d i j) cb:=rfl
@[simp] theorem Uw:eU env bx=.val ah bx:=rfl
@[simp] theorem N7:dM m env bx=fC (m env bx) λw bx1=>match w with|.d (.int i)=>.val (ae i) bx1|_=>.bad:=rfl
@[simp] theorem Ug:VR bo m env bx=fC (m env bx) λx bx1=>b9 bo ((bG bx1 x).bind λd=>match d with|.lst l=>ae (.lst l.reverse)|_=>ah) bx1:=rfl
theorem gi (h:m (ws.map ae++List.replicate (n-ws.length) ah) bx=.rt (.d d) bx):aN n (aU m) ws bx=.val (.d d) bx:=by
 simp[aN,aU,DL.envOf,h,pT,pU,rQ]
end L2.DL
namespace K1
open L2 L2.DL
noncomputable def wh:D->Bool
 |.int _=>ag
 |_=>af
noncomputable def wi (d:D) (lo hi:Int):Bool:=match d with
 |.int i=>decide (lo<=i)&&decide (i<=hi)
 |_=>af
noncomputable def tl (d:D) (lo hi:Int):Bool:=match d with
 |.tup l=>decide (lo<=(l.length))&&decide ((l.length)<=hi)
 |_=>af
theorem LL (d):sr (pW d) "int"=(match d with|.int _=>ag|.bl _=>ag|_=>af):=by cases d<;>rfl
theorem FH (d):sr (pW d) "bool"=(match d with|.bl _=>ag|_=>af):=by cases d<;>rfl
theorem RV (d):sr (pW d) "tuple"=(match d with|.tup _=>ag|_=>af):=by cases d<;>rfl
theorem CN (d) (bx):i8 [.d d] bx=.val (.d<|.bl<|wh d) bx:=
 gi (by cases d<;>simp[Ar,LL,FH,wh])
theorem mS (d) (bx):gF [.d d] bx=.val (.d<|.bl<|wh d) bx:=
 gi (by cases d<;>simp[oj,LL,FH,wh])
theorem Bi (d) (lo hi) (bx):gk [.d d,.d<|.int lo,.d<|.int hi] bx=.val (.d<|.bl<|wi d lo hi) bx:=
 gi (by
  cases d<;>simp[oh,CN,wh,wi,qw];ext i;by_cases h:lo<=i<;>simp[h])
theorem DO (d) (lo hi) (bx):gm [.d d,.d<|.int lo,.d<|.int hi] bx=.val (.d<|.bl<|wi d lo hi) bx:=
 gi (by
  cases d<;>simp[mf,mS,wh,wi,qw];ext i;by_cases h:lo<=i<;>simp[h])
theorem LM (d) (lo hi) (bx):gD [.d d,.d<|.int lo,.d<|.int hi] bx=.val (.d<|.bl<|tl d lo hi) bx:=
 gi (by
  cases d<;>simp[As,RV,tl,qw,aQ];ext l;by_cases h:lo<=(l.length)<;>simp[h])
theorem N8 (J:bu->zk) (p) (f):∀ (l:List D) (env) (acc),J env ->
 (∀ d∈l,∀ env,J env->∃ aP,g (.d d) env bx=ae (aP,bx) /\ J aP /\ tf aP bx=.val (p d) bx /\ (p d=ag->te aP bx=.val (.d<|f d) bx))->acc.length+l.length<=sizeLine ->
 bw g tf te (l.map W.d) env bx acc=.val (acc++(l.filter p).map f) bx:=by
 intro l_;induction l_ with
 |nil=>(intro env acc _ _ _;simp[bw])
 |cons d l aB=>
   intro env acc j h n;let#[aP,e1,j',e2,e3]:=h d (bO ..) env j;have n':acc.length<sizeLine:=by erw[a6]at n;lia
   erw[aS,bw,e1,e2];have h':=λx (m)=>h x<|bD _ m;cases q:p d with
   |false=>
     erw[Im,q];show aB aP acc j' h' (by erw[a6]at n;lia)
   |true=>
     erw[Im,q,e3 q,mP,if_pos n'];rw[aB aP (acc++[f d]) j' h' (by erw[bH,a6,nZ]at n ⊢;lia)];simp
theorem CO (J:bu->zk) (f) {l:List D}{env}(j:J env) (h:∀ d∈l,∀ env,J env->∃ aP,g (.d d) env bx=ae (aP,bx) /\ J aP /\ te aP bx=.val (.d<|f d) bx) (n:l.length<=sizeLine) :
 bw g ge te (l.map W.d) env bx []=.val (l.map f) bx:=by
 rw[N8 (tf:=ge) J _ f l env [] j (λd m e je=>let ⟨e',a,b,c⟩:=h d m e je;#[e',a,b,rfl,λ_=>c]) (by simpa using n)];rw[List.filter_eq_self.mpr λ_ _=>rfl];rfl
theorem LN (l:List D) (p):sx (l.map λd=>D.bl<|p d)=ae (l.map p):=by
 induction l with
 |nil=>rfl
 |cons d l ih=>simp[sx,ih]
@[simp] theorem all_map (l:List D) (p):dZ [.lst<|l.map λd=>D.bl<|p d]=ae (.old<|.bl<|l.all p):=by
 simp[dZ,LN]
def rooms (d:D):Bool:=match d with
 |.tup l=>tl (.tup l) 1 5&&l.all λx=>wi x 0 3
 |_=>af
theorem Ax {lo}(h:tl (.tup l) lo hi=ag):lo<=(l.length) /\ (l.length)<=hi:=by simpa[tl] using h
noncomputable def wu:List D->Bool
 |x::y::l=>(match x,y with|.int i,.int j=>decide (j<=i)|_,_=>af)&&wu (y::l)
 |_=>ag
def Hn (d:D):Bool:=match d with
 |.tup l=>tl (.tup l) 4 4&&(l.all (λx=>wi x 0 9)&&wu l)
 |_=>af
theorem afH (h:tl (.tup l) 2 2=ag):∃ a b,l=[a,b]:=by
 have n:=Ax h;obtain⟨a,l,rfl⟩:∃ a t,l=a::t:=w9 zb;obtain⟨b,l,rfl⟩:∃ a t,l=a::t:=w9 (by simp at n;lia);have:l.length=0:=by simp at n;lia
 show#[a,b,by rw[Io this]]
theorem afI (h:tl (.tup l) 4 4=ag):∃ a b c e,l=[a,b,c,e]:=by
 have n:=Ax h;obtain⟨a,l,rfl⟩:∃ a t,l=a::t:=w9 zb;obtain⟨b,l,rfl⟩:∃ a t,l=a::t:=w9 (by simp at n;lia);obtain⟨c,l,rfl⟩:∃ a t,l=a::t:=w9 (by simp at n;lia);obtain⟨e,l,rfl⟩:∃ a t,l=a::t:=w9 (by simp at n;lia);have:l.length=0:=by simp at n;lia
 show#[a,b,c,e,by rw[Io this]]
theorem iN {lo}(h:wi x lo hi=ag):∃ i,x=.int i /\ lo<=i /\ i<=hi:=by
 cases x<;>simp[wi]at h;show#[_,rfl,h]
def kind (d:D):Bool:=match d with
 |.tup l=>tl (.tup l) 2 2&&(match l with|[a,b]=>wi a 1 999&&Hn b|_=>af)
 |_=>af
def kinds (d:D):Bool:=match d with
 |.tup l=>tl (.tup l) 1 4&&l.all kind
 |_=>af
def yy (n:Int) (d:D):Bool:=match d with
 |.tup l=>tl (.tup l) 2 2&&(match l with|[.int a,.int b]=>decide (0<=a)&&decide (a<b)&&decide (b<=n-1)|_=>af)
 |_=>af
noncomputable abbrev dP (p:Int×Int):D:=.tup [.int p.1,.int p.2]
abbrev xP (l:List<|Int×Int):Option W:=ae<|.d<|.lst<|l.map dP
def qc (p q:Int×Int):Bool:=HT.lexLt [p.1,p.2] [q.1,q.2]
noncomputable def rP (p:Int×Int):List HT.aO:=[.i p.1,.i p.2]
theorem Tn (p q):HT.cC (rP p) (rP q)=qc p q:=by simp[rP,qc,HT.cC,HT.lexLt,HT.aO.lt]
theorem To (p q):kZ (dP p) (dP q)=ae (.old<|.bl<|qc p q):=by
 rw[<-Tn];change (if HT.eG (rP p) (rP q)=ag then ae _ else ah)=_;show if_pos zj
def incr:List (Int×Int)->Bool
 |p::q::r=>qc p q&&incr (q::r)
 |_=>ag
theorem Ay:∀ ps,incr ps=(List.range<|ps.length-1).all λi=>qc (ps.getD i (0,0)) (ps.getD (i+1) (0,0))
 |[]=>rfl
 |[p]=>rfl
 | p::q::r=>by
   rw[incr,Ay _];simp[a6,X1];rw[List.range_succ_eq_map,nG,xa];rfl
theorem FJ {ps:List _}(h:i<ps.length):bF (ps.map dP) (i)=ae (dP<|ps.getD i (0,0)):=by
 unfold bF cA;simp[h]
theorem LO (e:k env bx=.val [.d<|.int i,.d<|.int j] bx1):vU k env bx=.val (f9 i (j-i).toNat) bx1:=by
 unfold vU;rw[e,fX]
theorem Az (e:k env bx=.val [.d<|.int j] bx1) (h:-(2 ^ 62)<=j /\ j<2 ^ 62):eT k env bx=.val (f9 0 j.toNat) bx1:=by
 unfold eT;rw[e,fX];show if_pos h
theorem N9 (lo) (n):f9 lo n=((List.range n).map λ(i:Nat)=>D.int<|lo+(i)).map W.d:=by
 rw[cx];rfl
theorem G7 (ps) (n:ps.length<=sizeLine) (bx):g6 [.d<|.tup<|ps.map dP] bx=.val (.d<|.bl<|incr ps) bx:=
 gi (by
  have s2:sizeLine=16777216:=bB;have r:vU (fc ze<|fc (dN af aQ<|fc (dV 0) fe) fe) [ae<|.d<|.tup<|ps.map dP] bx=.val (f9 1 (((ps.length):Int)-1).toNat) bx:=LO (by simp[aQ]);erw[oi,LJ,N5,FC,BN,aS,QV,a6,nZ,k8,List.replicate_zero,rN,r,fX,N9,oq,ou,Aw,Yq,bJ,id];rw[CO (λe=>∃ w,e=[w,ae _]) _ #[ah,rfl] ?_ (by rw[aX,Il];lia)]
  .erw[fX,RQ,iW,mh,LH,LG,vw,bJ];rw[all_map,iW,FE,iM,xa,show ((ps.length:Int)-1).toNat=ps.length-1 by lia];have z:((λx:D=>match x with|.int i=>qc (ps.getD (i.toNat-1) (0,0)) (ps.getD i.toNat (0,0))|_=>af)∘λ(i:Nat)=>D.int<|1+(i:Int))=λi=>qc (ps.getD i (0,0)) (ps.getD (i+1) (0,0)):=by
    funext i;change qc (ps.getD ((1+(i:Int)).toNat-1) (0,0)) (ps.getD (1+(i:Int)).toNat (0,0))=_;rw[show (1+(i:Int)).toNat=i+1 by lia,X1]
   rw[z,<-Ay]
  .intro x m e ⟨w,je⟩;let#[i,mi,rfl]:=bc.mp m;have hi:i<((ps.length:Int)-1).toNat:=List.mem_range.mp mi;refine#[[xN<|1+(i:Int),ae<|.d<|.tup<|ps.map dP],by simp[je],#[_,rfl],?_];have a2:=FJ (ps:=ps) (i:=i+1) zb;rw[show ((i+1:Nat):Int)=1+(i:Int) by lia]at a2;erw[G6,iI,Ti,Yq,List.getElem?_cons_succ,fX,oo,bJ,aF,dE,iW,FE,show 1+(i:Int)-1=(i:Int) by lia,(FJ (ps:=ps) (i:=i) (by lia)),a2,vw,To];rw[show (1+(i:Int)).toNat=i+1 by lia];rfl)
noncomputable def toP:D->Option (Int×Int)
 |.tup [.int a,.int b]=>ae (a,b)
 |_=>ah
theorem FK (ps:List _):(ps.map dP).filterMap toP=ps:=by
 induction ps with
 |nil=>rfl
 |cons p ps ih=>rw[aS,qk,ih];rfl
def apart (n:Int) (d:D):Bool:=match d with
 |.tup l=>l.all (yy n)&&incr (l.filterMap toP)
 |_=>af
noncomputable def lenOf:D->Int
 |.tup l=>l.length
 |_=>0
def house (d:D):Bool:=match d with
 |.tup [r,k,p,h]=>rooms r&&(kinds k&&(apart (lenOf k) p&&wi h 1 9))
 |_=>af
end K1
namespace L2.DL
noncomputable def abf:Key->Nat
 |.inl _=>1921
 |.inr x=>(reprText x).length
mutual
noncomputable def wt:D->Nat
 |.non=>4
 |.bl _=>5
 |.int _=>1921
 |.str x=>(reprText x).length
 |.tup l=>3+dt l
 |.lst l=>3+dt l
 |.az l=>3+Ho l
noncomputable def dt:List D->Nat
 |[]=>0
 |d::l=>wt d+2+dt l
noncomputable def Ho:List (Key×D)->Nat
 |[]=>0
 |(k,d)::l=>abf k+wt d+4+Ho l
end
theorem FL (ts):(Str.join ", " ts).length<=piled ts:=by
 by_cases h:ts=[]
 .subst h;show aA _
 .have:=join_length_add ts h;lia
theorem BO (ts):(tupleText ts).length<=3+piled ts:=by
 unfold tupleText;have h:=FL ts;have e1:(("("):Str).length=1:=rfl;have e2:((",)"):Str).length=2:=rfl;have e3:((")"):Str).length=1:=rfl;rw[pF,pF];split<;>lia
theorem CP:∀ (ts) (k) (acc),(textFrom k acc ts).length<=acc.length+piled ts:=by
 intro l_;induction l_ with
 |nil=>(intro k acc;change acc.length<=_;lia)
 |cons t r aB=>
   intro k acc;have h:=aB (k+1)<|acc++(if k>0 then ", " else "")++t;have e1:((", "):Str).length=2:=rfl;have e2:((""):Str).length=0:=rfl;rw[pF,pF]at h;rw[QG];change (textFrom _ _ r).length<=_;split at h<;>ext hk<;>simp[hk,if_false]at h ⊢<;>lia
theorem CQ (ts):(listText ts).length<=3+piled ts:=by
 unfold listText;have h:=CP ts 0 "[";have e1:(("["):Str).length=1:=rfl;have e2:(("]"):Str).length=1:=rfl;rw[pF];lia
theorem CS (ts):(dictText ts).length<=3+piled ts:=by
 unfold dictText;have h:=FL ts;have e1:(("{"):Str).length=1:=rfl;have e2:(("}"):Str).length=1:=rfl;rw[pF,pF];lia
theorem CT {i:Int}(h:i.natAbs.log2<1920):(Str.ofString<|toString i).length<=1921:=by
 have:=int_text_length_le zc h;rw[PySem.ofString_length];show this
mutual
theorem AA:∀ (d:D),(toPy d).showable=ag->(toPy d).shown.length<=wt d
 |.non,_=>by erw[toPy,PyData.shown,wt];decide
 |.bl b,_=>by cases b<;>erw[toPy,PyData.shown,wt]<;>decide
 | .int i,h=>by
   erw[toPy,PyData.shown,wt];show CT (by simpa[toPy,PyData.showable] using h)
 |.str x,_=>by erw[toPy,PyData.shown,wt];show aA _
 | .tup l,h=>by
   erw[toPy,PyData.shown,wt];have:=mT l (by simpa[toPy,PyData.showable] using h);have:=BO<|PyData.shownAll<|br l
   lia
 | .lst l,h=>by
   erw[toPy,PyData.shown,wt];have:=mT l (by simpa[toPy,PyData.showable] using h);have:=CQ<|PyData.shownAll<|br l
   lia
 | .az l,h=>by
   erw[toPy,PyData.shown,wt];have:=CU l (by simpa[toPy,PyData.showable] using h);have:=CS<|PyData.shownKv<|bT l
   lia
theorem mT:∀ (l:List D),PyData.showableAll (br l)=ag->piled (PyData.shownAll<|br l)<=dt l
 |[],_=>by erw[br,PyData.shownAll,dt];show aA _
 | d::l,h=>by
   erw[br,PyData.showableAll,aH]at h;have h1:=AA d h.1;have h2:=mT l h.2;erw[br,PyData.shownAll,dt,QG]
   lia
theorem CU:∀ (l:List<|Key×D),PyData.showableKv (bT l)=ag->piled (PyData.shownKv<|bT l)<=Ho l
 |[],_=>by erw[bT,PyData.shownKv,Ho];show aA _
 | (k,d)::l,h=>by
   erw[bT,PyData.showableKv,aH]at h;have h1:=AA d h.1.2;have h2:=CU l h.2;have e1:((": ":String):Str).length=2:=rfl;have hk:(PyData.shown<|cH k).length<=abf k:=by
    cases k with
    |inl i=>show CT (by simpa[cH,PyData.showable] using h.1.1)
    |inr x=>show aA _
   erw[bT,PyData.shownKv,Ho,QG];rw[pF,pF]
   lia
end
mutual
noncomputable def ib (B:Nat):D->Bool
 |.int i=>decide (i.natAbs<=B)
 |.tup l=>k6 B l
 |.lst l=>k6 B l
 |.az l=>uV B l
 |_=>ag
noncomputable def k6 (B:Nat):List D->Bool
 |[]=>ag
 |d::l=>ib B d&&k6 B l
noncomputable def uV (B:Nat):List (Key×D)->Bool
 |[]=>ag
 |(k,d)::l=>(match k with|.inl i=>decide (i.natAbs<=B)|_=>ag)&&ib B d&&uV B l
end
theorem LP (hB:B<2 ^ 1900) {i:Int}(h:i.natAbs<=B):i.natAbs.log2<1920:=by
 by_cases h0:i.natAbs=0
 .rw[h0];decide
 .show(X2 h0).mpr (dR (vg h hB)<|Nat.pow_le_pow_right zc zc)
mutual
theorem BP {B:Nat}(hB:B<2 ^ 1900):∀ (d:D),ib B d=ag->(toPy d).showable=ag
 |.non,_=>by simp[toPy,PyData.showable]
 |.bl b,_=>by simp[toPy,PyData.showable]
 | .int i,h=>by
   erw[toPy,PyData.showable,decide_eq_true_eq];show LP hB (by simpa[ib] using h)
 |.str x,_=>by simp[toPy,PyData.showable]
 | .tup l,h=>by
   erw[toPy,PyData.showable];show AB hB l (by simpa[ib] using h)
 | .lst l,h=>by
   erw[toPy,PyData.showable];show AB hB l (by simpa[ib] using h)
 | .az l,h=>by
   erw[toPy,PyData.showable];show CV hB l (by simpa[ib] using h)
theorem AB {B:Nat}(hB:B<2 ^ 1900):∀ (l:List D),k6 B l=ag->PyData.showableAll (br l)=ag
 |[],_=>by simp[br,PyData.showableAll]
 | d::l,h=>by
   erw[k6,aH]at h;erw[br,PyData.showableAll,BP hB d h.1,AB hB l h.2,Ig]
theorem CV {B:Nat}(hB:B<2 ^ 1900):∀ (l:List<|Key×D),uV B l=ag->PyData.showableKv (bT l)=ag
 |[],_=>by simp[bT,PyData.showableKv]
 | (k,d)::l,h=>by
   erw[uV,aH]at h;have hk:(cH k).showable=ag:=by
    cases k with
    |inl i=>
      erw[cH,PyData.showable,decide_eq_true_eq];show LP hB (by simpa using h.1.1)
    |inr x=>simp[cH,PyData.showable]
   erw[bT,PyData.showableKv,hk,BP hB d h.1.2,CV hB l h.2,Ig]
end
mutual
theorem LQ {B B':Nat}(h:B<=B'):∀ (d:D),ib B d=ag->ib B' d=ag
 |.non,_=>by simp[ib]
 |.bl b,_=>by simp[ib]
 | .int i,q=>by
   erw[ib,decide_eq_true_eq]at q ⊢
   lia
 |.str x,_=>by simp[ib]
 | .tup l,q=>by
   erw[ib]at q ⊢;show BQ h l q
 | .lst l,q=>by
   erw[ib]at q ⊢;show BQ h l q
 | .az l,q=>by
   erw[ib]at q ⊢;show LR h l q
theorem BQ {B B':Nat}(h:B<=B'):∀ (l:List D),k6 B l=ag->k6 B' l=ag
 |[],_=>by simp[k6]
 | d::l,q=>by
   erw[k6,aH]at q ⊢;show#[LQ h d q.1,BQ h l q.2]
theorem LR {B B':Nat}(h:B<=B'):∀ (l:List<|Key×D),uV B l=ag->uV B' l=ag
 |[],_=>by simp[uV]
 | (k,d)::l,q=>by
   erw[uV,aH]at q ⊢;refine#[#[?_,LQ h d q.1.2],LR h l q.2];have:=q.1.1;cases k with
   |inl i=>erw[decide_eq_true_eq]at this ⊢;lia
   |inr x=>rfl
end
structure Sm (B a b:Nat) (d:D):zk where
 s:ib B d=ag
 e:(toPy d).depth<=a
 w:wt d<=b
structure bh (B a b:Nat) (l:List D):zk where
 s:k6 B l=ag
 e:PyData.depthAll (br l)<=a
 w:dt l<=b
theorem iX (h:Sm B a b d) (hB:B<2 ^ 1900) (ha:a<=60) (hb:b<=sizeLine):v7 d=ag:=by
 have hs:=BP hB d h.s;have:=AA d hs;have h1:=h.e;have h2:=h.w;unfold v7;rw[hs,decide_eq_true zb,decide_eq_true zb];rfl
theorem Sm.mono (h:Sm B a b d) (ha:a<=a') (hb:b<=b'):Sm B a' b' d:=#[h.s,cw h.e ha,cw h.w hb]
theorem bh.mono (h:bh B a b l) (ha:a<=a') (hb:b<=b'):bh B a' b' l:=#[h.s,cw h.e ha,cw h.w hb]
theorem Sm.up (h:Sm B a b d) (q:B<=B'):Sm B' a b d:=#[LQ q d h.s,h.e,h.w]
theorem bh.up (h:bh B a b d) (q:B<=B'):bh B' a b d:=#[BQ q d h.s,h.e,h.w]
theorem bh.nil:bh B a 0 []:=#[rfl,by simp[br,PyData.depthAll],aA _]
theorem bh.cons {B a b c}{d}{l}(h:Sm B a b d) (t:bh B a c l):bh B a (b+2+c) (d::l):=
 #[by simp[k6,h.s,t.s],Nat.max_le.mpr #[h.e,t.e],by simp[dt];have:=h.w;have:=t.w;lia]
theorem Sm.tup {B a b}{l}(h:bh B a b l):Sm B (a+1) (3+b) (.tup l):=
 #[by simp[ib,h.s],by simp[toPy,PyData.depth];have:=h.e;lia,by simp[wt];have:=h.w;lia]
theorem Sm.lst {B a b}{l}(h:bh B a b l):Sm B (a+1) (3+b) (.lst l):=
 #[by simp[ib,h.s],by simp[toPy,PyData.depth];have:=h.e;lia,by simp[wt];have:=h.w;lia]
theorem Sm.int (h:i.natAbs<=B):Sm B a 1921 (.int i):=
 #[by simp[ib,h],by simp[toPy,PyData.depth],aA _]
theorem jG (l m):dt (l++m)=dt l+dt m:=by
 induction l with
 |nil=>simp[dt]
 |cons d l ih=>simp[vp,dt];lia
theorem bh.append:∀ {l m},bh B a b l->bh B a c m->bh B a (b+c) (l++m):=by
 intro l m h t;refine#[?_,?_,by rw[jG];have:=h.w;have:=t.w;lia]
 .have h1:=h.s;clear h;induction l with
  |nil=>show t.s
  |cons d l ih=>
    simp[k6,aH,vp]at h1 ⊢;show#[h1.1,ih h1.2]
 .have h1:=h.e;clear h;induction l with
  |nil=>show t.e
  |cons d l ih=>
    show Nat.max_le.mpr #[(Nat.max_le.mp h1).1,ih (Nat.max_le.mp h1).2]
theorem bh.left (h:bh B a b<|l++m):bh B a b l:=by
 refine#[?_,?_,by have:=h.w;rw[jG]at this;lia]
 .have h1:=h.s;clear h;induction l with
  |nil=>rfl
  |cons d l ih=>
    simp[k6,aH,vp]at h1 ⊢;show#[h1.1,ih h1.2]
 .have h1:=h.e;clear h;induction l with
  |nil=>show di _
  |cons d l ih=>
    show Nat.max_le.mpr #[(Nat.max_le.mp h1).1,ih (Nat.max_le.mp h1).2]
theorem bh.right (h:bh B a b<|l++m):bh B a b m:=by
 refine#[?_,?_,by have:=h.w;rw[jG]at this;lia]
 .have h1:=h.s;clear h;induction l with
  |nil=>show h1
  |cons d l ih=>
    simp[k6,aH,vp]at h1;show ih h1.2
 .have h1:=h.e;clear h;induction l with
  |nil=>show h1
  |cons d l ih=>
    show ih (Nat.max_le.mp h1).2
theorem bh.take (n) (h:bh B a b l):bh B a b (l.take n):=bh.left (by rw[vt];show h)
theorem bh.drop (n) (h:bh B a b l):bh B a b (l.drop n):=bh.right (by rw[vt];show h)
theorem bh.cut (x y) (h:bh B a b l):bh B a b (cutD l x y):=bh.take _<|bh.drop _ h
theorem bh.mem (h:bh B a b l) (m:d∈l):Sm B a b d:=by
 let#[s,t,rfl]:=List.append_of_mem m;have h1:=h.right;have:=h1.w;have hs:=h1.s;have hd:=h1.e;simp[k6,aH]at hs;simp[dt]at this;show#[hs.1,(Nat.max_le.mp hd).1,by lia]
theorem Sm.afJ (h:Sm B a b<|.tup l):1<=a /\ bh B (a-1) (b-3) l /\ 3<=b:=by
 have h1:=h.e;have h2:=h.w;simp[toPy,PyData.depth]at h1;simp[wt]at h2;show#[by lia,#[by have:=h.s;simpa[ib] using this,by lia,by lia],by lia]

theorem fj (h1:m env bx=.val w bx1) (h2:ks env bx1=.val l aq):fc m ks env bx=.val (w::l) aq:=by rw[FC,h1,fX,h2,fX]
theorem Oa:∀ {ds},nP bx (ds.map W.d)=ae ds:=by
 intro l_;induction l_ with
 |nil=>show rfl
 |cons d ds aB=>(rw[aS,LH,aB];rfl)
theorem BR:∀ {ds},pk (ds.map W.d)=ae ds:=by
 intro l_;induction l_ with
 |nil=>show rfl
 |cons d ds aB=>(rw[aS,RU,aB];rfl)
theorem ig (ds) (h:ks env bx=.val (ds.map W.d) bx1) (hg:g ds=ae r):dN af g ks env bx=.val (.d r.toD) bx1:=by rw[N5,h,fX,Oa,bJ,hg,iW]
theorem gN (ds) (h:ks env bx=.val (ds.map W.d) bx1) (hl:ds.length<=sizeLine):fL ks env bx=.val (.d<|.tup ds) bx1:=by rw[RT,h,fX,BR,bJ,if_pos hl,iW,N6]
theorem ik (ds) (h:ks env bx=.val (ds.map W.d) bx1) (hl:ds.length<=sizeLine):gj af ks env bx=.val (.d<|.lst ds) bx1:=by rw[LK,h,fX,BR,bJ,if_pos hl,iW,mh]
theorem DP (ds) (h:ks env bx=.val (ds.map W.d) bx1) (hl:ds.length<=sizeLine):gj ag ks env bx=.val (.b bx1.length) (bx1++[.lst ds]):=by rw[LK,h,fX,BR,bJ,if_pos hl];rfl
theorem fQ (h1:m env bx=.val (.d x) bx1) (h2:k env bx1=.val (.d y) aq) (hg:g x y=ae r):d2 af g m k env bx=.val (.d r.toD) aq:=by rw[G6,h1,fX,h2,fX,oo,oo,bJ,bJ,hg,iW]
theorem fM (h:ks env bx=.val l bx1) (hn:l.length=n) (hf:fn l bx1=.val w aq):fq fn n ks env bx=.val w aq:=by rw[FD,h,fX,if_pos hn,hf]
theorem fT (h:m env bx=.val (.d<|.bl b) bx1):dB m env bx=.val b bx1:=by rw[Uc,h,fX]
theorem fY (h:t env bx=.val b bx1):cE t env bx=.val (!b) bx1:=by rw[RR,h,fX]
theorem lG (h:t env bx=.val ag bx1):eS t s env bx=.val ag bx1:=by rw[Pm,h,fX]
theorem gM (h:t env bx=.val af bx1) (h2:s env bx1=.val b aq):eS t s env bx=.val b aq:=by rw[Pm,h,fX,h2]
theorem lO (h:t env bx=.val af bx1):qt t s env bx=.val af bx1:=by rw[LD,h,fX]
theorem jh (h:t env bx=.val ag bx1) (h2:s env bx1=.val b aq):qt t s env bx=.val b aq:=by rw[LD,h,fX,h2]
theorem oM (h:m env bx=.val (.d<|.bl b) bx1):gT m k env bx=if b then k env bx1 else .val (.d<|.bl af) bx1:=by rw[N4,h];cases b<;>rfl
theorem iS (h1:mi env bx=.val l bx1) (he:eF src env=e2) (h2:bw g tf te l e2 bx1 []=.val ds aq):gc af src mi g tf te env bx=.val (.d<|.lst ds) aq:=by
 subst he;rw[BN,h1,fX,h2,fX,iW,mh]
theorem FM {lo:DE _}(h1:m env bx=.val (.d x) bx1) (h2:lo env bx1=.val i aq) (h3:hi env aq=.val j cb) (hs:qv x i j=ae r):d6 af m lo hi env bx=.val (.d r.toD) cb:=by
 rw[Tl,h1,fX,h2,fX,h3,fX,oo,bJ,hs,iW]
theorem oN (h:m env bx=.val (.d<|.int i) bx1):dM m env bx=.val (ae i) bx1:=by rw[N7,h,fX]
theorem iD (h:m env bx=.val (.d<|.lst ds) bx1):bS m env bx=.val (ds.map W.d) bx1:=by rw[FG,h,fX]
theorem ja (h:m env bx=.val (.d<|.tup ds) bx1):bS m env bx=.val (ds.map W.d) bx1:=by rw[FG,h,fX]
theorem FN (h:m env bx=.val (.d d) bx1) (c:v7 d=ag):v8 m env bx=.val (.d<|.str (toPy d).shown) bx1:=by
 unfold v8;rw[h,fX];show if_pos c
theorem fE (h:a env bx=.nx bb bx1):fB a b env bx=b bb bx1:=by rw[mQ,h]
theorem jH (h:a env bx=.rt w bx1):fB a b env bx=.rt w bx1:=by rw[mQ,h]
theorem im (h:m env bx=.val w bx1):fO m (ff i) env bx=.nx (env.set i<|ae w) bx1:=by rw[DN,h,iM,CM]
theorem gz (h:m env bx=.val w bx1):fJ m env bx=.rt w bx1:=by rw[LJ,h,iM]
theorem mU (h:m env bx=.val w bx1):gO m env bx=.nx env bx1:=by rw[FF,h,iM]
theorem jI (h:t env bx=.val ag bx1):aT t a b env bx=a env bx1:=by rw[Pn,h,iM]
theorem gV (h:t env bx=.val af bx1):aT t a b env bx=b env bx1:=by rw[Pn,h,iM]
theorem mn (h:mi env bx=.val l bx1):jT mi g body env bx=eD g body l env bx1:=by rw[RS,h,iM]
theorem BS (h1:g w env bx=ae (bb,bx1)) (h2:body bb bx1=.nx cG aq):eD g body (w::l) env bx=eD g body l cG aq:=by
 rw[eD,h1];simp[h2]
theorem mB (I:Nat->bu->List Bx->zk):∀ (l) (k) (env) (bx),I k env bx ->
 (∀ i w env bx,l[i]?=ae w->I (k+i) env bx->∃ bb bx1 cG aq,g w env bx=ae (bb,bx1) /\ body bb bx1=.nx cG aq /\ I (k+i+1) cG aq) ->
 ∃ aP bx',eD g body l env bx=.nx aP bx' /\ I (k+l.length) aP bx':=by
 intro l;induction l with
 |nil=>intro k env bx h _;show#[env,bx,rfl,h]
 |cons w l ih=>
   intro k env bx h st;let#[bb,bx1,cG,aq,e1,e2,h2]:=st 0 w env bx zj h;let#[aP,bx',e3,h3]:=ih _ cG aq h2 λi x env bx e hi=>by
    have:=st (i+1) x env bx (by simpa using e) (by rw[show k+(i+1)=k+1+i by lia];show hi);rw[show k+(i+1)+1=k+1+i+1 by lia]at this;show this
   show#[aP,bx',by rw[BS e1 e2,e3],by rw[a6,show k+(l.length+1)=k+1+l.length by lia];show h3]

theorem qS (h:m env bx=.val w bx1) (k:b (env.set i<|ae w) bx1=o):fB (fO m<|ff i) b env bx=o:=(fE<|im h).trans k
theorem qG (h:m env bx=.val w bx1) (hg:g w env bx1=ae (cG,aq)) (k:b cG aq=o):fB (fO m g) b env bx=o:=by
 rw[mQ,DN,h,iM,hg];show k
theorem qF (h:t env bx=.val af bx1) (k:b env bx1=o):fB (aT t c a8) b env bx=o:=(fE<|(gV h)).trans k
theorem qR (h:t env bx=.val ag bx1) (k:m env bx1=.val w aq):fB (aT t (fJ m) a8) b env bx=.rt w aq:=jH<|(jI h).trans<|gz k
theorem qE (h:m env bx=.val w bx1) (k:b env bx1=o):fB (gO m) b env bx=o:=(fE<|mU h).trans k
theorem cV (hf:fn l bx1=.val w aq) (h:ks env bx=.val l bx1:=by rfl) (hn:l.length=n:=by rfl):fq fn n ks env bx=.val w aq:=fM h hn hf
theorem K0 {α:Type}{e}{E:α->bu}{J:bu->zk} (p) (f) (hJ:∀ a,J<|E a):∀ (l:List α) (env:bu) (acc:List D),acc.length+l.length<=sizeLine->J env ->
 (∀ a∈l,∀ env,J env->g (.d<|e a) env B=ae (E a,B))->(∀ a∈l,tf (E a) B=.val (p a) B /\ (p a=ag->te (E a) B=.val (.d<|f a) B))->bw g tf te ((l.map e).map W.d) env B acc=.val (acc++(l.filter p).map f) B
 |[],_,_,_,_,_,_=>by simp[bw]
 | a::l,env,acc,n,j,hg,h=>by
   let#[h1,h2]:=h a<|bO ..;rw[a6]at n;have n':acc.length<sizeLine:=by lia
   have e0:=hg a (bO ..) env j;cases c:p a with
   |false=>
     rw[c]at h1;rw[wZ (by simp[c]),<-(K0 p f hJ l _ acc zb (hJ a) (λx m=>hg x<|bD _ m) λx m=>h x<|bD _ m)];simp[aS,bw,e0,h1,mP]
   |true=>
     rw[c]at h1;rw[w8 c];erw[aS,bw,e0,h1,h2 c,mP,if_pos n',(K0 p f hJ l _ (acc++[f a]) (by simp;lia) (hJ a) (λx m=>hg x<|bD _ m) λx m=>h x<|bD _ m)];simp
end L2.DL
namespace aJ
open L2 L2.DL K1
open HT (aO a7 eG cC lexLt)
inductive Pg where
 |cz (h l k r p w:Int)|to (h l r:Int)|out (h l:Int)
noncomputable def bX:Pg->List aO
 |.cz h l k r p w=>[.i h,.s "in",.i l,.i k,.i r,.i p,.i w]
 |.to h l r=>[.i h,.s "to",.i l,.i r]
 |.out h l=>[.i h,.s "out",.i l]
def enc (g:Pg):D:=cU<|bX g
theorem BU (g):rowOf (enc g)=ae (bX g):=by cases g<;>rfl
theorem LS:∀ gs:List Pg,rowsOf (gs.map enc)=ae (gs.map bX):=by
 intro l_;induction l_ with
 |nil=>show rfl
 |cons g gs aB=>(simp[rowsOf,BU,aB])
theorem FO (h:bX a=bX b):a=b:=by
 cases a<;>cases b<;>simp[bX]at h<;>simp_all
theorem Ob (h:enc a=enc b):a=b:=by
 have:=BU a;rw[h,BU]at this;show(FO<|Option.some.inj this).symm
theorem lz (a b):eG (bX a) (bX b)=ag:=by cases a<;>cases b<;>rfl
theorem LU (gs:List Pg):tW (gs.map bX)=ag:=by
 erw[tW,cg,bc];rintro _ ⟨a,_,rfl⟩ _ ⟨b,_,rfl⟩;show lz a b
theorem LV (h:(g::gs).length<64):dG [.lst<|(g::gs).map enc]=ae (.lst<|(nS<|(g::gs).map bX).map cU):=by
 have e:tO [.lst<|(g::gs).map enc]=ah:=by cases g<;>rfl
 unfold dG;rw[e];erw[LS,bJ,LU,aX,and_true,if_pos h]
abbrev Wg (gs:List Pg):zk:=gs.Pairwise λa b=>cC (bX a) (bX b)=ag
theorem RW (nd:gs.Nodup) (h:(gs.map bX).Pairwise λa b=>lexLt (a7 b) (a7 a)=af):Wg gs:=by
 rw[uj]at h;refine List.Pairwise.imp₂ (λ{a b} (x) (y)=>?_) h nd;rw[<-HT.lm _ _ (lz a b)];cases e:lexLt _ (a7 _) with
 |true=>rfl
 |false=>show absurd (FO<|code_inj (lz a b)<|HT.iT _ _ e x) y
theorem RX (a b):kZ (enc a) (enc b)=ae (.old<|.bl<|cC (bX a)<|bX b):=by
 have:∀ g,∃ l,enc g=.tup l /\ sH l=ae (bX g):=λg=>by cases g<;>show#[_,rfl,rfl]
 let#[l,e1,e3]:=this a;let#[m,f1,f3]:=this b;rw[e1,f1];unfold kZ;simp[e3,f3,lz,if_true]
end aJ
namespace K1
open L2 L2.DL
theorem LW:∀ ns,intsOf (ns.map D.int)=ae ns:=by
 intro l_;induction l_ with
 |nil=>show rfl
 |cons n ns aB=>(rw[aS,intsOf,aB];rfl)
theorem FP:∀ ns:List Int,wu (ns.map D.int)=ag ↔ ns.Pairwise (λa b=>b<=a)
 |[]=>by simp[wu]
 |[x]=>by simp[wu]
 | x::y::l=>by
   have ih:=FP (y::l);erw[aS]at ih ⊢;erw[wu,aH,decide_eq_true_eq,ih];constructor
   .intro ⟨h,p⟩;refine List.pairwise_cons.mpr #[λz m=>?_,p];rcases a9.mp m with rfl|m
    .show h
    .show Int.le_trans ((List.pairwise_cons.mp p).1 z m) h
   .intro p;have q:=List.pairwise_cons.mp p;show#[q.1 y<|bO ..,q.2]
noncomputable def rF:D->Bool
 |.tup _=>ag
 |_=>af
theorem j9 (d):sr (pW d) "tuple"=rF d:=by cases d<;>rfl
theorem RY (h:rF r=ag):∃ l,r=.tup l:=by
 cases r with
 |tup l=>show#[l,rfl]
 |_=>simp[rF]at h
noncomputable def pt (bx:List Bx) (n:Nat) (p:Int):List Bx:=bx.set n<|.lst [.int p]
theorem fN:(pt bx n p).length=bx.length:=qC ..
theorem RZ (h:n<bx.length):(pt bx n p)[n]?=ae (.lst [.int p]):=by simp[pt,h]
theorem jO (h:m (ws.map ae++List.replicate (n-ws.length) ah) bx=.rt (.d d) bx') (l:bx'.length<=bx.length):aN n (aU m) ws bx=.val (.d d) bx':=by
 simp[aN,aU,DL.envOf,h,pT,pU,QT l]
theorem LX (h:n<bx.length) (p k) (hk:0<k) (uJ:k<10 ^ 40):fk [.b n,.d<|.int k] (pt bx n p)=.val (.d<|.int<|p % k) (pt bx n<|p / k):=by
 refine jO ?_ (by rw[fN,fN];show aA _);have c:xT p k:=#[hk,uJ];simp[Au,bG,(RZ (p:=p) h),aF,bF,cA,sk,EJ,hk,c,EO];rw[pt,pt,Yr]
theorem gP (h:n<bx.length) (p k) (hk:0<k) (uJ:k<1073741824):fk [.b n,.d<|.int k] (pt bx n p)=.val (.d<|.int<|p % k) (pt bx n<|p / k):=LX h p k hk zb
theorem jb (h0:0<=i) (h1:i<l.length):∃ d,bF l i=ae d /\ d∈l:=by
 refine#[l[i.toNat],?_,yU zb];simp[bF,cA,h0,h1]
def Dr (o:O W) (bx:List Bx) (n:Nat) (P:D->zk):zk:=∃ d p,o=.val (.d d) (pt bx n p) /\ P d
theorem ji (p:Int) (h:0<k):0<=p % k:=Int.emod_nonneg _ zb
theorem jj (p:Int) (h:0<k):p % k<k:=Int.emod_lt_of_pos _ h
noncomputable def Hq:List D:=[.non,.bl ag,.bl af,.int<|-1,.int<|10 ^ 30,.str "",.str "a",.str "1",.tup [],.lst [],.az [],.lst [.tup []],.tup [.tup []],.tup [.int 0],.lst [.int 0],.az [(.inl 0,.int 1)],.tup [.bl ag,.bl ag]]
theorem oO:∀ d∈Hq,Sm (10 ^ 30) 2 3850 d:=by
 intro d m;have c:∀ x∈Hq,(ib (10 ^ 30) x&&decide ((toPy x).depth<=2)&&decide (wt x<=3850))=ag:=by
  decide +kernel
 have:=c d m;simp[aH,decide_eq_true_eq]at this;show#[this.1.1,this.1.2,this.2]
theorem AC (h:n<bx.length) (p):Dr (fS [.b n]<|pt bx n p) bx n (λd=>d∈Hq):=by
 let#[d,e,m]:=jb (l:=Hq) (ji p (k:=17) zc) (by change _<(17);show(jj p (k:=17) zc));refine#[d,p / 17,jO ?_ (by rw[fN,fN];show aA _),m];have t:=gP h p 17 zc zc;have c:xw 10 30:=by decide
 have afK:(17)<=sizeLine:=by decide
 have s0:(1)<=sizeLine:=by decide
 have s2:(2)<=sizeLine:=by decide
 unfold Bg;generalize fk=ft at t ⊢;unfold Hq at e;simp[sq,c,d7,aQ,t,aF,afK,s0,s2]at e ⊢;simp[e]
theorem R6 (l) (i:Nat) (h:i<=l.length):DL.cutD l ah (ae<|i)=l.take i:=by
 unfold DL.cutD;rw[HT.oE,HT.Ce,Yg,wU h,Ic]
theorem AD (l) (i:Nat) (h:i<=l.length):DL.cutD l (ae<|i) ah=l.drop i:=by
 unfold DL.cutD;rw[HT.oE,HT.Ce,wU h];show QT (by rw[pK];show aA _)
theorem R7 (l) (i:Nat) (h):DL.cutD l (ae<|i) (ae<|(i)+1)=[l[i]]:=by
 unfold DL.cutD;rw[show (i)+1=((i+1:Nat):Int) by lia,HT.oE,HT.oE,wU zb,wU zb,QJ,QW h];rfl
theorem LY (l:List α) (i) (h:i<l.length):bF l (i)=ae l[i]:=by
 simp[bF,cA,h]
theorem Oc:∀ l,l.length<=dt l:=by
 intro l_;induction l_ with
 |nil=>show aA _
 |cons d l aB=>(simp[a6,dt];lia)
theorem LZ (rec) (h:n<bx.length) (d) (hd:rF d=af) (p) (hB:10 ^ 30<=B) (s:Sm B a b d) :
 Dr (aN 4 (aU<|gH rec) [.b n,.d d]<|pt bx n p) bx n (λd'=>Sm (B+10 ^ 4) (a+2) (2*b+4000) d'):=by
 have t3:=gP h p 3 zc zc;have t6:=gP h (p / 3) 6 zc zc;have lo:=ji (p / 3) (k:=6) zc;have hi:=jj (p / 3) (k:=6) zc;have w:=mS d<|pt bx n p;have fin:∀ q,Dr (fS [.b n]<|pt bx n q) bx n (λd'=>Sm (B+10 ^ 4) (a+2) (2*b+4000) d'):=λq=>by
  let#[o,q',e,m]:=AC h q;show#[o,q',e,((oO o m).up zb).mono zb zb]
 cases hw:wh d with
 |false=>
   let#[o,q',e,m]:=fin p;refine#[o,q',jO ?_ (by rw[fN,fN];show aA _),m];rw[hw]at w;unfold gH;generalize fS=fo at e ⊢;generalize gF=fw at w ⊢;simp[j9,hd,w,e]
 |true=>
   rw[hw]at w;by_cases g:0<p % 3
   .obtain⟨x,rfl⟩:∃ x,d=.int x:=by
     cases d<;>simp[wh]at hw;show#[_,rfl]
    let#[y,e,m]:=jb (l:=[D.int 1,.int<|-1,.int 9,.int 100,.int 9999,.int<|-10000]) lo (by change _<(6);show hi);obtain⟨y,rfl,hy⟩:∃ i:Int,y=.int i /\ i.natAbs<=10 ^ 4:=by
     simp at m;rcases m with rfl|rfl|rfl|rfl|rfl|rfl<;>show#[_,rfl,by decide]
    have hx:x.natAbs<=B:=by have:=s.s;simpa[ib] using this
    refine#[.int<|x+y,p / 3 / 6,jO ?_ (by rw[fN,fN];show aA _),(Sm.int (a:=0) zb).mono zb zb];have c:xw 10 4:=by decide
    have s6:(6)<=sizeLine:=by decide
    unfold gH;generalize fS=fo at fin ⊢;generalize gF=fw at w ⊢;generalize fk=ft at t3 t6 ⊢;simp[j9,rF,w,t3,pz,g,t6,sq,c,s6,aF,e,fP]
   .let#[o,q',e,m]:=fin<|p / 3;refine#[o,q',jO ?_ (by rw[fN,fN];show aA _),m];unfold gH;generalize fS=fo at e ⊢;generalize gF=fw at w ⊢;generalize fk=ft at t3 ⊢;simp[j9,hd,w,e,t3,pz,g]
theorem FQ (h:n<bx.length):∀ (i) (d) (p) (B a b),10 ^ 30<=B->Sm B a b d->a<i->b<=1000000 ->
 Dr (gK i [.b n,.d d]<|pt bx n p) bx n (λd'=>Sm (B+10 ^ 4) (a+2) (2*b+4000) d'):=by
 intro l_;induction l_ with
 |zero=>(intro d p B a b _ _ z _;lia)
 |succ i aB=>
   intro d p B a b hB s hi hb;change Dr (aN 4 (aU<|gH<|gK i) [.b n,.d d]<|pt bx n p) bx n _;cases ht:rF d with
   |false=>show LZ _ h d ht p hB s
   |true=>
     let#[l,rfl]:=RY ht;let#[a1,sl,b3]:=s.afJ;have nu:=sl.up (B':=B+10 ^ 4) zb;have ln:=Oc l;have lw:=sl.w;have sz:=bB;have ih:=λc (m:c∈l) (q:Int)=>aB c q B (a-1) (wt c) hB (let z:=sl.mem m;#[z.s,z.e,aA _]) zb (by have:=(sl.mem m).w;lia);have ua:=gP h p 12 zc zc;by_cases g:p % 12=0 \/ l=[]
     .let#[o1,q1,e1,m1]:=AC h<|p / 12;let#[o2,q2,e2,m2]:=AC h q1;have t4:=gP h q2 4 zc zc;have lo:=ji q2 (k:=4) zc;have afL:=jj q2 (k:=4) zc;have s1:=((oO o1 m1).up (B':=B+10 ^ 4) zb);have s2:=((oO o2 m2).up (B':=B+10 ^ 4) zb);have cl:(DL.cutD l (ae<|-1) ah).length<=l.length:=by
       unfold DL.cutD;rw[pJ,pK]
       lia
      let#[y,e,m]:=jb (l:=[o1,.lst l,.tup<|l++[o2],.tup<|l++DL.cutD l (ae<|-1) ah]) lo (by change _<(4:Int);show afL);refine#[y,q2 / 4,jO ?_ (by rw[fN,fN];show aA _),?_]
      .have t:(p % 12=0) \/ (l.isEmpty=ag):=by
        rcases g with g|g
        .show .inl g
        .show .inr (by rw[g];rfl)
       have z1:l.length+1<=sizeLine:=by lia
       have z2:l.length+(DL.cutD l (ae<|-1) ah).length<=sizeLine:=by lia
       have z4:(4:Nat)<=sizeLine:=by lia
       have z0:(1:Nat)<=sizeLine:=by lia
       unfold gH;generalize fS=fo at e1 e2 ⊢;generalize fk=ft at ua t4 ⊢;by_cases g0:p % 12=0
       .simp[j9,rF,ua,aZ,g0,e1,e2,qW,fP,qv,z1,z2,z4,z0,t4,aF,e]
       .have g1:l.isEmpty=ag:=by
         rcases t with t|t
         .show absurd t g0
         .show t
        simp[j9,rF,ua,aZ,g0,g1,e1,e2,qW,fP,qv,z1,z2,z4,z0,t4,aF,e]
      .simp at m;rcases m with rfl|rfl|rfl|rfl
       .show s1.mono zb zb
       .show(Sm.lst nu).mono zb zb
       .show(Sm.tup (a:=a+1)<|(nu.mono zb<|aA _).append<|bh.cons (s2.mono zb<|aA _) bh.nil).mono zb zb
       .show(Sm.tup<|nu.append<|nu.cut _ _).mono zb zb
     .have g0:¬ p % 12=0:=λz=>g<|.inl z;have g1:l≠[]:=λz=>g<|.inr z;have Wh:l.isEmpty=af:=by cases l<;>simp at g1 ⊢
      have lp:0<l.length:=List.length_pos_iff.mpr g1;have tl:=gP h (p / 12) (l.length:Int) zb zb;have lo:=ji (p / 12) (k:=(l.length:Int)) zb;have afM:=jj (p / 12) (k:=(l.length:Int)) zb;let#[j,ej]:=ID lo;rw[ej]at tl afM;have hj:j<l.length:=by lia
      have w3:dt l=dt (l.take j)+(wt l[j]+2+dt (l.drop<|j+1)):=by
       have e:l.take j++l[j]::l.drop (j+1)=l:=by
        rw[<-QW hj,vt]
       have e2:=congrArg dt e;rw[jG]at e2;erw[dt]at e2
       lia
      have st:bh (B+10 ^ 4) (a-1) (dt<|l.take j) (l.take j):=#[(nu.take j).s,(nu.take j).e,aA _];have sd:bh (B+10 ^ 4) (a-1) (dt<|l.drop<|j+1) (l.drop<|j+1):=#[(nu.drop<|j+1).s,(nu.drop<|j+1).e,aA _];have c1:=R6 l j zb;have c2:=AD l (j+1) zb;rw[show ((j+1:Nat):Int)=(j:Int)+1 by lia]at c2;have c3:=R7 l j hj;have c4:=AD l j zb;have aj:=LY l j hj;have n1:(l.take j).length=j:=by rw[pJ];lia
      have n2:(l.drop<|j+1).length=l.length-(j+1):=pK ..;have n3:(l.drop j).length=l.length-j:=pK ..;have y1:j+(l.length-(j+1))<=sizeLine:=by lia
      have y2:j+1<=sizeLine:=by lia
      have y3:j+1+(l.length-j)<=sizeLine:=by lia
      have y4:j+1+(l.length-(j+1))<=sizeLine:=by lia
      have y5:(1:Nat)<=sizeLine:=by lia
      have y6:min (j+1) l.length+(l.length-j)<=sizeLine:=by lia
      have mj:l[j]∈l:=yU hj;have sj:Sm (B+10 ^ 4) (a-1) (wt l[j]) l[j]:=let z:=nu.mem mj;#[z.s,z.e,aA _]
      let#[o1,q1,e1,m1]:=ih l[j] mj<|p / 12 / (l.length:Int);by_cases k1:p % 12=1
      .refine#[.tup<|l.take j++l.drop (j+1),p / 12 / (l.length:Int),jO ?_ (by rw[fN,fN];show aA _),(Sm.tup<|st.append sd).mono zb zb];unfold gH;generalize fS=fo;generalize fk=ft at ua tl ⊢;simp[j9,rF,ua,aZ,g0,Wh,aQ,tl,k1,qv,c1,c2,fP,n1,n2,y1]
      .by_cases k2:p % 12=2
       .refine#[.tup<|l.take j++[l[j]]++l.drop j,p / 12 / (l.length:Int),jO ?_ (by rw[fN,fN];show aA _),?_]
        .unfold gH;generalize fS=fo;generalize fk=ft at ua tl ⊢;simp[j9,rF,ua,aZ,g0,Wh,aQ,tl,k1,k2,qv,c1,c3,c4,fP,n1,n3,y2,y3,y6]
        .rw[QW hj];show(Sm.tup<|(st.append<|bh.cons sj bh.nil).append<|bh.cons sj sd).mono zb zb
       .refine#[.tup<|l.take j++[o1]++l.drop (j+1),q1,jO ?_ (by rw[fN,fN];show aA _),?_]
        .unfold gH;generalize fS=fo;generalize fk=ft at ua tl ⊢;generalize gK i=fb at e1 ⊢;simp[j9,rF,ua,aZ,g0,Wh,aQ,tl,k1,k2,qv,c1,c2,fP,n1,n2,y2,y4,y5,aF,aj,e1]
        .show(Sm.tup (a:=a+1)<|((st.mono zb<|aA _).append<|bh.cons (m1.mono zb<|aA _) bh.nil).append<|sd.mono zb<|aA _).mono zb zb
theorem FR (J:bu->zk) (P):∀ (l) (env) (p) (acc),J env ->
 (∀ w∈l,∀ env p,J env->∃ aP,g w env (pt bx n p)=ae (aP,pt bx n p) /\ J aP /\ Dr (te aP<|pt bx n p) bx n P)->acc.length+l.length<=sizeLine ->
 ∃ ds p',bw g ge te l env (pt bx n p) acc=.val (acc++ds) (pt bx n p') /\ ds.length=l.length /\ ∀ d∈ds,P d:=by
 intro l_;induction l_ with
 |nil=>show λenv p acc _ _ _=>#[[],p,by simp[bw],rfl,λd m=>by cases m]
 |cons w l aB=>
   intro env p acc j h z;let#[aP,e1,j',d,q,e2,hd]:=h w (bO ..) env p j;have z':acc.length<sizeLine:=by erw[a6]at z;lia
   let#[ds,p',e3,e4,e5]:=aB aP q (acc++[d]) j' (λx m=>h x<|bD _ m) (by erw[bH,a6,nZ]at z ⊢;lia);refine#[d::ds,p',?_,by simp[e4],λx m=>?_]
   .erw[bw,e1,oK,mP,e2,if_pos z',e3];simp
   .rcases a9.mp m with rfl|m
    .show hd
    .show e5 x m
theorem L3 (J:bu->zk) (f):∀ (l) (env) (p) (acc),J env ->
 (∀ w∈l,∀ env p,J env->∃ aP b q,g w env (pt bx n p)=ae (aP,pt bx n p) /\ J aP /\ tf aP (pt bx n p)=.val b (pt bx n q) /\ te aP (pt bx n q)=.val (.d<|f w) (pt bx n q))->acc.length+l.length<=sizeLine ->
 ∃ l' p',bw g tf te l env (pt bx n p) acc=.val (acc++l'.map f) (pt bx n p') /\ List.Sublist l' l:=by
 intro l_;induction l_ with
 |nil=>show λenv p acc _ _ _=>#[[],p,by simp[bw],.slnil]
 |cons w l aB=>
   intro env p acc j h z;let#[aP,b,q,e1,j',e2,e3]:=h w (bO ..) env p j;have z':acc.length<sizeLine:=by erw[a6]at z;lia
   cases b with
   |false=>
     let#[ds,p',e4,e5]:=aB aP q acc j' (λx m=>h x<|bD _ m) (by erw[a6]at z;lia);show#[ds,p',by erw[bw,e1,e2,mP,e4],.cons _ e5]
   |true=>
     let#[ds,p',e4,e5]:=aB aP q (acc++[f w]) j' (λx m=>h x<|bD _ m) (by erw[bH,a6,nZ]at z ⊢;lia);refine#[w::ds,p',?_,.cons_cons _ e5];erw[bw,e1,e2,mP,e3,if_pos z',e4];simp
def digit (d:D):zk:=∃ i,d=.int i /\ 0<=i /\ i<=9
theorem G8:∀ {l},(∀ d∈l,digit d)->∃ ns:List Int,l=ns.map D.int /\ ∀ i∈ns,0<=i /\ i<=9:=by
 intro l_;induction l_ with
 |nil=>show λ_=>#[[],rfl,λ_ m=>by cases m]
 |cons d l aB=>
   intro h;let#[i,rfl,h1]:=h d<|bO ..;let#[ns,rfl,h2]:=aB λx m=>h x<|bD _ m;show#[i::ns,rfl,λx m=>by
    rcases a9.mp m with rfl|m
    .show h1
    .show h2 x m]
theorem L4 (h4:ns.length=4) (h:∀ i∈ns,0<=i /\ i<=9):Hn (.tup ((sortI ns).map D.int).reverse)=ag:=by
 have l4:(sortI ns).length=4:=by rw[(ju ns).length_eq,h4]
 rw[<-List.map_reverse];have a1:tl (.tup<|(sortI ns).reverse.map D.int) 4 4=ag:=by simp[tl,l4]
 have a2:(((sortI ns).reverse.map D.int).all λx=>wi x 0 9)=ag:=by
  rw[xa,cg];intro i m;have:=h i<|(ju ns).mem_iff.mp<|List.mem_reverse.mp m;simp[wi,this.1,this.2]
 erw[Hn,a1,a2,((FP _).mpr<|List.pairwise_reverse.mpr<|l5 ns),Ig]
theorem Oe (h:n<bx.length) (p):Dr (ia [.b n]<|pt bx n p) bx n (λd=>kind d=ag):=by
 have t4:=gP h p 4 zc zc;let#[y,e,m]:=jb (l:=[D.int 9,.int 3,.int 1,.int 9]) (ji p (k:=4) zc) (by change _<(4);show jj p zc);obtain⟨top,rfl,h0,h9⟩:∃ i:Int,y=.int i /\ 0<=i /\ i<=9:=by
  simp at m;rcases m with rfl|rfl|rfl|rfl<;>show#[_,rfl,by decide,by decide]
 have z4:(4)<=sizeLine:=by decide
 let#[ds,q,e1,e2,e3]:=FR (g:=ff 0) (te:=fq fk 2<|fc (dV 1)<|fc (d2 af fP (dV 2) ze) fe) (λe=>∃ w,e=[w,xB n,xN top]) digit (bx:=bx) (n:=n) (f9 0 4) [ah,xB n,xN top] (p / 4) [] #[ah,rfl] (by
  intro w _ env p ⟨w0,je⟩;show#[[ae w,xB n,xN top],by simp[je],#[_,rfl],(#[.int<|p % (top+1),p / (top+1),by simp[fP,(gP h p (top+1) (by lia) (by lia))],_,rfl,ji _ zb,by have:=jj p (k:=top+1) zb;lia])]) (by
  simp;show z4)
 let#[ns,rfl,cD]:=G8 e3;have n4:ns.length=4:=by
  rw[aX]at e2;rw[e2];simp[f9]
 have so:dG [.lst<|ns.map D.int]=ae (.lst<|(sortI ns).map D.int):=by simp[dG,tO,LW,n4]
 have abg:=gP h q 20 zc zc;have tx:=gP h (q / 20) 4 zc zc;have b0:=ji q (k:=20) zc;have b1:=jj q (k:=20) zc;let#[y,ey,my]:=jb (l:=[D.int 30,.int<|1+q % 20,.int 999,.int 8]) (ji (q / 20) (k:=4) zc) (by change _<(4:Int);show jj _ zc);have hy:wi y 1 999=ag:=by
  simp at my;rcases my with rfl|rfl|rfl|rfl
  .rfl
  .simp[wi];lia
  .rfl
  .rfl
 refine#[.tup [y,.tup ((sortI ns).map D.int).reverse],q / 20 / 4,jO ?_ (by rw[fN,fN];show aA _),by simp[kind,tl,hy,(L4 n4 cD)]];have rg:∀ env bx,eT (fc (dC<|.int 4) fe) env bx=.val (f9 0 4) bx:=λenv bx=>Az (j:=4) (bx1:=bx) zg zc;have z2:(2:Nat)<=sizeLine:=by decide
 unfold lD;generalize fk=ft at t4 abg tx e1 ⊢;erw[vv]at e1;simp[z4,z2,t4,aF,e,rg,e1,so,abg,tx,fP,ey,qu]
noncomputable def K3:List HT.aO->Int×Int
 |[.i a,.i b]=>(a,b)
 |_=>(0,0)
theorem DQ:∀ ps:List _,rowsOf (ps.map dP)=ae (ps.map rP):=by
 intro l_;induction l_ with
 |nil=>show rfl
 |cons p ps aB=>(simp[rowsOf,rowOf,sH,KA,aB,rP])
theorem Of (ps) (h:ps.length<64):∃ qs:List (Int×Int),qs.Perm ps /\ qs.Pairwise (λa b=>qc b a=af) /\ dG [.lst<|ps.map dP]=ae (.lst<|qs.map dP):=by
 cases ps with
 |nil=>show#[[],.refl _,.nil,by simp[dG,tO,intsOf,sortI]]
 |cons p ps=>
   have pe:=i0<|(p::ps).map rP;have e:(nS<|(p::ps).map rP).map (rP∘K3)=nS ((p::ps).map rP):=by
    conv=>rhs;rw[<-Ys (nS _)]
    refine vq λx m=>?_;let#[p,_,rfl]:=bc.mp<|pe.mem_iff.mp m;rfl
   refine#[(nS<|(p::ps).map rP).map K3,?_,?_,?_]
   .have:=pe.map K3;rw[cx]at this
    rwa [show (K3∘rP)=id from rfl,Ys]at this
   .have so:=jd<|(p::ps).map rP;rw[<-e,<-cx]at so;show(uj.mp so).imp λ{a b} h=>h
   .change ((rowsOf _).bind λrs=>if rs.length<64 /\ tW rs=ag then ae _ else ah)=_;rw[DQ,bJ,if_pos #[by rw[aX];show h,by erw[tW,cg,bc];rintro _ ⟨a,_,rfl⟩ _ ⟨b,_,rfl⟩;rfl],cx]
    conv=>lhs;rw[<-e]
    rw[cx];rfl
theorem Tp (h:qc q p=af) (n:p≠q):qc p q=ag:=by
 cases e:qc p q with
 |true=>rfl
 |false=>
   have:=HT.iT _ _ e h;simp[List.cons.injEq,and_true]at this;show absurd (Prod.ext this.1 this.2) n
theorem FS:∀ {qs},qs.Pairwise (λa b=>qc b a=af)->qs.Nodup->incr qs=ag
 |[],_,_=>rfl
 |[p],_,_=>rfl
 | p::q::r,h,n=>by
   have h1:=List.pairwise_cons.mp h;have n1:=rR.mp n;simp[incr,aH];show#[Tp (h1.1 q<|bO ..) λe=>n1.1 (by rw[e];show bO ..),FS h1.2 n1.2]
structure Hr (k:Nat) (ps:List<|Int×Int):zk where
 nd:ps.Nodup
 b:∀ p∈ps,0<=p.1 /\ p.1<p.2 /\ p.2<(k:Int)
 l:ps.length<=4*k
theorem Hr.more {is:List Nat}(s:Hr k ps) (s1:is.Sublist<|List.range k) (hk:k<=4):Hr (k+1) (ps++is.map λ(i:Nat)=>((i:Int),(k:Int))):=by
 have li:is.length<=k:=by have:=s1.length_le;simpa using this
 refine#[sW.mpr #[s.nd,(uj.mpr<|(s1.nodup Ym).imp λ{a b} h e=>h (by have z:=congrArg Prod.fst e;lia)),?_],?_,?_]
 .intro a ma b mb e;subst e;let#[i,_,rfl]:=bc.mp mb;have:=(s.b _ ma).2.2;simp at this
 .intro a ma;rcases d8.mp ma with m|m
  .have:=s.b a m
   lia
  .let#[i,mi,rfl]:=bc.mp m;have:=List.mem_range.mp (s1.subset mi)
   lia
 .have:=s.l;simp
  lia
theorem BV (e:m env bx=.val [.d<|.int<|k] bx) (hk:k<=1000000):eT m env bx=.val (f9 0 k) bx:=by
 rw[Az e zb,vz]
theorem Og (h:n<bx.length) (p) (x1 x2 x3 x4):∃ (d:D) (q:Int),wi d 1 9=ag /\
 d2 af aF (gj af<|fc ze<|fc (dC<|.int 2)<|fc (dC<|.int 9)<|fc (d2 af fP ze<|fq fk 2<|fc (dV 0)<|fc (dC<|.int 9) fe) fe) (fq fk 2<|fc (dV 0)<|fc (dC<|.int 4) fe) [xB n,x1,x2,x3,x4] (pt bx n p)=.val (.d d) (pt bx n q):=by
 let#[y,ey,my]:=jb (l:=[D.int 1,.int 2,.int 9,.int<|1+p % 9]) (ji (p / 9) (k:=4) zc)<|jj _ zc;have z4:(4)<=sizeLine:=by decide
 refine#[y,p / 9 / 4,?_,?_]
 .simp at my;rcases my with rfl|rfl|rfl|rfl
  .rfl
  .rfl
  .rfl
  .simp[wi];lia
 .simp[(gP h p 9 (by decide) (by decide)),fP,z4,(gP h _ 4 (by decide) (by decide)),aF,ey]
theorem Oh (h:(k6 B l&&decide (PyData.depthAll (br l)<=a)&&decide (dt l<=b))=ag):bh B a b l:=by
 simp[aH,decide_eq_true_eq]at h;show#[h.1.1,h.1.2,h.2]

theorem FT (h1:m env bx=.val (.b i) bx1) (afN:bx1[i]?=ae (.lst l0)) (h2:k env bx1=.val (.d d) aq) (hb:aq[i]?=ae (.lst l)) (hl:l.length<sizeLine):tP m k env bx=.val (.d .non) (aq.set i<|.lst<|l++[d]):=by
 unfold tP;rw[h1,fX];simp[afN,h2,fX,hb,if_pos hl]

theorem BW (l) (x y):(DL.cutD l x y).length<=l.length:=by
 unfold DL.cutD;rw[pJ,pK]
 lia
theorem lc (h:m (ws.map ae++List.replicate (n-ws.length) ah) bx=.rt (.d d) bx'):aN n (aU m) ws bx=.val (.d d) (bx'.take bx.length):=by
 simp[aN,aU,DL.envOf,h,pT,pU]
theorem Tq (h:env[k]?=ae (xB i)) (hb:bx[i]?=ae (.lst l)):tT k env bx=.val (.d<|.lst l) (bx.set i .dead):=by
 unfold tT;simp[h,hb]
theorem R8 (l) (k:Nat) (bx):∃ c,g9 [.s l,.d<|.int<|k] bx=.val (.d<|.int c) bx:=by
 by_cases h:k<l.length
 .refine#[l[k],gi ?_];have h':(k)<(l.length):=by lia
  simp[jf,uH,kZ,h',ER,(LY l k h)]
 .refine#[0,gi ?_];have h':¬ (k)<(l.length):=by lia
  simp[jf,uH,kZ,h']
theorem L5 (h1:-(2 ^ 64)<i) (h2:i<2 ^ 64):pY (.int i) (.int j)=ae (.old<|.int<|i*j):=if_pos<|.inl #[h1,h2]
theorem Po (h1:-(2 ^ 64)<j) (h2:j<2 ^ 64):pY (.int i) (.int j)=ae (.old<|.int<|i*j):=if_pos<|.inr #[h1,h2]
theorem L6 (h1:0<j):sk (.int i) (.int j)=ae (.old<|.int<|i % j):=if_pos h1
theorem Pp (h1:xw i j):sq (.int i) (.int j)=ae (.old<|.int<|i ^ j.toNat):=if_pos h1
theorem G9 (c x j) (w) (bx):∃ x' y,Wa [xN c,xN x,xN j,w] bx=.nx [xN c,xN x',xN j,xN y] bx:=by
 let a:=(c % 2147483629+7919*j+1)*48271 % 2147483647
 let b:=(a*a+69621*j+7) % 2147483587
 have e1:fO (d2 af sk (d2 af pY (d2 af fP (d2 af fP (d2 af sk (dV 0)<|dC _)<|d2 af pY (dC _)<|dV 2) ze)<|dC _)<|dC _) (ff 3) [ae _,ae _,ae _,w] bx=.nx [ae _,xN x,xN j,xN a] bx:=
  im (fQ (fQ (fQ (r:=.old _) (fQ (fQ zj zj<|L6 zc) (fQ zj zj<|L5 zc zc) zj) zj zj) zj<|Po zc zc) zj<|L6 zc)
 have e2:fO (d2 af sk (d2 af fP (d2 af fP (d2 af pY (dV 3)<|dV 3)<|d2 af pY (dC<|.int 69621)<|dV 2)<|dC<|.int 7)<|dC<|.int 2147483587) (ff 3) [xN c,xN x,xN j,xN a] bx=.nx [xN c,xN x,xN j,xN b] bx:=
  im (fQ (fQ (r:=.old _) (fQ (fQ zj zj<|L5 zb zb) (fQ zj zj<|L5 zc zc) zj) zj zj) zj<|L6 zc)
 have e3:fO (d2 af fP (d2 af pY (dV 1)<|dC<|.int 2147483587)<|dV 3) (ff 1) [xN c,xN x,xN j,xN b] bx=.nx [xN c,xN<|x*2147483587+b,xN j,xN b] bx:=
  im (fQ (r:=.old _) (fQ zj zj<|Po zc zc) zj zj)
 show#[_,_,by unfold Wa;rw[fE e1,fE e2,e3]]
theorem L7 (h:m (ws.map ae++List.replicate (n-ws.length) ah) bx=.rt (.b i) bx'):aN n (aU m) ws bx=.val (.b i) bx':=by
 simp[aN,aU,DL.envOf,h,pT,pU]
theorem Tr (c) (bx):∃ p,jC [.d<|.int c] bx=.val (.b bx.length) (bx++[.lst [.int p]]):=by
 have sz:=bB;have abh:∀ e b,d2 af sq (dC _) (dC<|.int 18) e b=.val (.d<|.int<|10 ^ 18) b:=λe b=>fQ (r:=.old _) zj zj<|Pp zc;have t:dB (d2 af uG (dV 0) _) [xN c,ah,ah,ah] bx=.val (decide (10 ^ 18<=c)) bx:=fT<|fQ (r:=.old _) zj (abh _ _) zj;by_cases h:10 ^ 18<=c
 .rw[decide_eq_true h]at t;refine#[c-10 ^ 18,L7 ?_];change jn [xN c,ah,ah,ah] bx=_;unfold jn;refine(jH<|(jI t).trans<|gz<|DP [.int<|c-10 ^ 18] (fj (fQ (r:=.old _) zj (abh _ _) zj) zj) (show (1)<=sizeLine by lia))
 .rw[decide_eq_false h]at t;have rg:=BV (env:=[xN c,xN 0,ah,ah]) (bx:=bx) (m:=fc (dC<|.int 64) fe) zj zc;let#[aP,bx',e,x,w2,w3,rfl,rfl]:=mB (g:=ff 2) (λ_ env b=>∃ (x:Int) (w2 w3:Option W),env=[xN c,xN x,w2,w3] /\ b=bx) (f9 0 64) 0 [xN c,xN 0,ah,ah] bx #[0,ah,ah,rfl,rfl] (by
   rintro i w env b hw ⟨x,w2,w3,rfl,rfl⟩;let#[j,_,rfl]:=bc.mp<|eI hw;let#[x',y,e]:=G9 c x (0+(j)) w3 b;show#[_,_,_,_,rfl,e,x',_,_,rfl,rfl])
  refine#[x,L7 ?_];change jn [xN c,ah,ah,ah] bx'=_;unfold jn;show(fE<|gV t).trans ((fE<|im zj).trans<|(fE<|(mn rg).trans e).trans<|gz<|DP [.int x] zj (show (1)<=sizeLine by lia))
theorem Oi (x):cR (.str x) (.str x)=ae (.old<|.bl af):=by simp[cR]
end K1
namespace K2
open L2 L2.DL K1
noncomputable def hr (d:D):Bool:=match d with
 |.int i=>decide (0<=i)
 |_=>af
theorem FU (d) (bx):iU [.d d] bx=.val (.d<|.bl<|hr d) bx:=
 gi (by cases d<;>simp[Bh,CN,wh,uG,hr])
theorem L8 (d) (bx):ic [.d d] bx=.val (.d<|.bl<|hr d) bx:=
 gi (by cases d<;>simp[lF,mS,wh,uG,hr])
theorem R9 (h:hr d=ag):∃ i,d=.int i /\ 0<=i:=by
 cases d<;>simp[hr]at h;show#[_,rfl,h]
end K2
namespace L2.DL

theorem oP (h:ks env bx=.val l bx1) (hn:l.length=n) (hf:fn l bx1=.exc c aq):fq fn n ks env bx=.exc c aq:=by rw[FD,h,fX,if_pos hn,hf]
theorem AE (h:m env bx=.exc c bx1):gO m env bx=.exc c bx1:=by rw[FF,h];rfl
theorem FV (h:a env bx=.exc c bx1):fB a b env bx=.exc c bx1:=by rw[mQ,h]
theorem BX (h:m env bx=.val w bx1):sI c m env bx=.exc c bx1:=by unfold sI;rw[h];rfl
theorem AF {m:aE}(h:m (ws.map ae++List.replicate (n-ws.length) ah) bx=.exc c bx):aN n m ws bx=.exc c bx:=by
 simp[aN,DL.envOf,h,pT,pU,rQ]
theorem L9 {m:aE}(h:m (ws.map ae++List.replicate (n-ws.length) ah) bx=.nx e bx):aN n m ws bx=.val (.d .non) bx:=by
 simp[aN,DL.envOf,h,pT,pU,rQ]
theorem Pq {m:aE}(h:m (ws.map ae++List.replicate (n-ws.length) ah) bx=.rt (.d d) bx):aN n m ws bx=.val (.d d) bx:=by
 simp[aN,DL.envOf,h,pT,pU,rQ]
theorem Pr (h:t env bx=.val ag bx1) (h2:m env bx1=.val w aq):kR t m k env bx=.val w aq:=by unfold kR;rw[h,fX];show h2
theorem Ps (h:t env bx=.val af bx1) (h2:k env bx1=.val w aq):kR t m k env bx=.val w aq:=by unfold kR;rw[h,fX];show h2
end L2.DL
namespace K2
open L2 L2.DL K1

theorem CW (t):jD [.d t] bx=if hr t then .val (.d .non) bx else .exc 3 bx:=by
 have e:=FU t bx;cases q:hr t with
 |true=>
   rw[q]at e;show L9<|gV<|fY<|fT<|fM (fj zj zj) zj e
 |false=>
   rw[q]at e;show AF<|(jI<|fY<|fT<|fM (fj zj zj) zj e).trans<|BX zj
end K2
namespace K1
open L2 L2.DL

theorem iY (h:n<bx.length):pt bx n p++E=pt (bx++E) n p:=by
 unfold pt;rw[List.set_append_left _ _ h]
theorem oQ (h:n<bx.length):(pt (bx++[x]) n p)[bx.length]?=ae x:=by
 rw[<-iY h,<-fN];show Yt
theorem FW (h:n<bx.length):(pt (bx++[x]) n p).set bx.length y=pt (bx++[y]) n p:=by
 rw[<-iY h,<-iY h,<-fN,QX _ _<|aA _,k8];rfl
theorem CY (h:n<bx.length):(pt (bx++E) n p).take bx.length=pt bx n p:=by
 rw[<-iY h,<-fN,Yu]
theorem FX (h:n<bx.length) (p k) (hk:0<k) (uJ:k<1073741824):∃ r q,fk [.b n,.d<|.int k] (pt bx n p)=.val (.d<|.int r) (pt bx n q) /\ 0<=r /\ r<k:=
 #[_,_,gP h p k hk uJ,ji p hk,jj p hk]
end K1
namespace bU
open L2 L2.DL K1

theorem DR (h:n<bx.length) (he:env[i]?=ae (xB n)) (hm:m env (pt bx n p)=.val (.d<|.int k) (pt bx n p1)) (h0:0<k) (h1:k<1073741824) :
 ∃ r q,fq K1.fk 2 (fc (dV i)<|fc m fe) env (pt bx n p)=.val (.d<|.int r) (pt bx n q) /\ 0<=r /\ r<k:=by
 let#[r,q,t,a,b]:=FX h p1 k h0 h1;show#[r,q,(fM (fj (by unfold dV;rw[he])<|fj hm zj) zj t),a,b]
theorem afO (h:n<bx.length) (p) (he:env[i]?=ae (xB n)) (k) (h0:0<k) (h1:k<1073741824) :
 ∃ r q,fq K1.fk 2 (fc (dV i)<|fc (dC<|.int k) fe) env (pt bx n p)=.val (.d<|.int r) (pt bx n q) /\ 0<=r /\ r<k:=
 DR h he zj h0 h1
theorem qd (h:n<bx.length) (p k) (h0:0<k) (h1:k<1073741824):∃ r q,(∀ {env}{i}{m}{p0},env[i]?=ae (xB n)->m env (pt bx n p0)=.val (.d<|.int k) (pt bx n p)->fq K1.fk 2 (fc (dV i)<|fc m fe) env (pt bx n p0)=.val (.d<|.int r) (pt bx n q)) /\ 0<=r /\ r<k:=by
 let#[r,q,t,a,b]:=FX h p k h0 h1;show#[r,q,λhe hm=>fM (fj (by rw[iI,he])<|fj hm zj) zj t,a,b]
theorem afP (h:n<bx.length) (p) (l:List Int) (ks) (hk:∀ e b,ks e b=.val ((l.map D.int).map W.d) b) (hl:(l.length:Int)=k) (h0:0<k) (h1:k<1000) :
 ∃ v q,(∀ (env) (i),env[i]?=ae (xB n)->d2 af aF (gj af ks) (fq K1.fk 2<|fc (dV i)<|fc (dC<|.int k) fe) env (pt bx n p)=.val (.d<|.int v) (pt bx n q)) /\ v∈l:=by
 let#[r,q,t,a,b]:=qd h p k h0 zb;let#[d,e,m]:=jb (l:=l.map D.int) a (by rw[aX,hl];show b);let#[v,mv,rfl]:=bc.mp m;have sz:=bB;show#[v,q,λenv i he=>fQ (r:=.old _) (ik _ (hk _ _) (by rw[aX];lia)) (t he zj) (by simp[aF,e,vw]),mv]
theorem Sa (h:m env bx=.val (.b j) bx1) (g:bx1[j]?=ae (.lst l)):dN af aQ (fc m fe) env bx=.val (.d<|.int l.length) bx1:=by
 rw[N5,fj h rfl,fX];have:nP bx1 [.b j]=ae [.lst l]:=by simp[nP,bG,g,bJ,vw]
 rw[this];rfl
theorem DS {lo}(h:(f9 lo m)[j]?=ae w):w=.d (.int<|lo+j) /\ j<m:=by
 have hm:j<m:=by simpa[f9] using (List.getElem?_eq_some_iff.mp h).1
 simp[f9,hm]at h;show#[h.symm,hm]

theorem lH (h1:a env bx=.val x bx1) (h2:b env bx1=.val y aq):dJ i j (fc a<|fc b fe) env bx=.nx ((env.set i<|ae x).set j<|ae y) aq:=by
 unfold dJ;rw[fj h1<|fj h2 rfl,iM]

theorem Oj (h1:m env bx=.val (.b j) bx1) (g0:bx1[j]?=ae (.lst l0)) (h2:k env bx1=.val (.d<|.int i) aq) (g:aq[j]?=ae (.lst l)) (hi:-(2 ^ 63)<=i /\ i<2 ^ 63) (hx:cA l.length i=ae t) (hd:l[t]?=ae d) :
 yf m k env bx=.val (.d d) (aq.set j<|.lst<|l.eraseIdx t):=by
 unfold yf;rw[h1,fX];erw[g0,h2,fX,g,if_pos hi,hx,hd]
open K2
theorem jJ (h:m env bx=.val (.d<|.bl ag) bx1) (h2:k env bx1=r):gT m k env bx=r:=by rw[oM h];show h2
theorem Ma (is:List Int) (b):nF (.int b) (is.map D.int)=is.any λz=>decide (z=b):=by
 unfold nF;rw[QS];rfl
end bU
namespace pC
open L2 L2.DL K1 bU
section
variable {α:Type}
theorem abi (p) (f):∀ (l:List α) (w) (acc),acc.length+l.length<=sizeLine->(∀ a∈l,tf (ae (.d<|enc a)::r) bx=.val (p a) bx /\ (p a=ag->te (ae (.d<|enc a)::r) bx=.val (.d<|f a) bx)) ->
 bw (ff 0) tf te ((l.map enc).map W.d) (w::r) bx acc=.val (acc++(l.filter p).map f) bx:=by
 intro l_;induction l_ with
 |nil=>(intro w acc _ _;simp[bw])
 |cons a l aB=>
   intro w acc n h;let#[h1,h2]:=h a<|bO ..;rw[a6]at n;have n':acc.length<sizeLine:=by lia
   have e0:ff 0 (W.d<|enc a) (w::r) bx=ae (ae (W.d<|enc a)::r,bx):=rfl;cases c:p a with
   |false=>
     rw[wZ (by simp[c]),<-aB (ae<|W.d<|enc a) acc zb λx m=>h x<|bD _ m];rw[c]at h1;erw[aS,bw,e0,h1,mP]
   |true=>
     rw[w8 c];have ih:=aB (ae<|W.d<|enc a) (acc++[f a]) (by simp;lia) λx m=>h x<|bD _ m;rw[c]at h1;erw[aS,bw,e0,h1,h2 c,mP,if_pos n',ih];simp
theorem abj {wx}{l:List α}(p:α->Bool) (f:α->D) (h1:mi env wx=.val ((l.map enc).map W.d) bx) (he:eF src env=ah::r) (n:l.length<=sizeLine)
 (h:∀ a∈l,tf (ae (.d<|enc a)::r) bx=.val (p a) bx /\ (p a=ag->te (ae (.d<|enc a)::r) bx=.val (.d<|f a) bx)):gc af src mi (ff 0) tf te env wx=.val (.d<|.lst<|(l.filter p).map f) bx:=
 iS h1 he (by rw[abi p f l ah [] (by simpa using n) h];rfl)
theorem Wi {wx}{l:List α} (f) (h1:mi env wx=.val ((l.map enc).map W.d) bx) (he:eF src env=ah::r) (n:l.length<=sizeLine)
 (h:∀ a∈l,te (ae (.d<|enc a)::r) bx=.val (.d<|f a) bx):gc af src mi (ff 0) ge te env wx=.val (.d<|.lst<|l.map f) bx:=by
 have:=abj (tf:=ge) _ f h1 he n λa m=>#[rfl,λ_=>h a m]
 rwa [List.filter_eq_self.mpr λ_ _=>rfl]at this
theorem Bj (l:List α) (p):sx (l.map λd=>D.bl<|p d)=ae (l.map p):=by
 induction l with
 |nil=>rfl
 |cons d l ih=>simp[sx,ih]
theorem Wj {l:List α} (p) (h1:mi env wx=.val ((l.map enc).map W.d) bx) (he:eF src env=ah::r) (n:l.length<=sizeLine)
 (h:∀ a∈l,te (ae (.d<|enc a)::r) bx=.val (.d<|.bl<|p a) bx):dN af dZ (fc (gc af src mi (ff 0) ge te) fe) env wx=.val (.d<|.bl<|l.all p) bx:=
 ig (r:=.old _) [.lst _] (fj (Wi _ h1 he n h) zj) (by simp[dZ,Bj])
end
noncomputable abbrev tupI (l:List Int):D:=.tup<|l.map D.int
abbrev xU (l:List Int):Option W:=ae<|.d<|tupI l
theorem CZ:∀ l:List Int,PyData.canLayAll0 (br<|l.map D.int)=ag /\ PyData.depthAll (br<|l.map D.int)=0:=by
 intro l_;induction l_ with
 |nil=>show#[rfl,rfl]
 |cons i l aB=>
   let#[a,b]:=aB;simp[br,toPy,PyData.canLayAll0,PyData.canLay0,PyData.depthAll,PyData.depth,a,b]
theorem Mb:∀ l:List _,PyData.canLayAll0 (br<|l.map tupI)=ag /\ PyData.depthAll (br<|l.map tupI)<=1:=by
 intro l_;induction l_ with
 |nil=>show#[rfl,di _]
 |cons i l aB=>
   let#[a,b]:=aB;let#[c,d]:=CZ i;erw[aS,br,toPy,PyData.canLayAll0,PyData.canLay0,PyData.depthAll,PyData.depth,a,c];show#[rfl,by lia]
theorem Ol (l):dO (tupI l)=ag:=by
 let#[c,d]:=CZ l;simp[dO,toPy,PyData.canLay0,PyData.depth,c,d]
theorem Md (l:List _):dO (.lst<|l.map tupI)=ag:=by
 let#[c,d]:=Mb l;unfold dO;simp[toPy,PyData.canLay0,PyData.depth,c,Ie,decide_eq_true_eq]
 lia
theorem DT (ps:List _):ps.map dP=(ps.map λq=>[q.1,q.2]).map tupI:=by rw[cx];rfl
theorem Me (a b):eqv (dP a) (dP b)=decide (a=b):=by
 rw[qj];let#[a1,a2]:=a;let#[b1,b2]:=b;simp[eqv,toPy,br,PyData.eqv,PyData.eqvAll]
theorem Sb (ps:List _) (q):((ps.map dP).any λz=>eqv z<|dP q)=decide (q∈ps):=by
 rw[qj,List.any_eq_true,decide_eq_true_eq];constructor
 .rintro⟨z,m,e⟩;let#[x,mx,rfl]:=bc.mp m;rw[Me,decide_eq_true_eq]at e;show e▸mx
 .intro m;show#[dP q,bc.mpr #[q,m,rfl],by rw[Me,decide_eq_true_eq]]
theorem Om (neg) (is:List Int) (b):inD neg (.int b) (.tup<|is.map D.int)=ae (.old<|.bl (if neg then !decide (b∈is) else decide (b∈is))):=by
 change (if kX _=ag /\ (is.map D.int).all kX=ag then ae _ else tX neg _ _ _)=_;rw[if_pos #[rfl,(λis=>by rw[xa];show cg.mpr λ_ _=>rfl) is],Ma];have:(is.any λz=>decide (z=b))=decide (b∈is):=by
  rw[qj];simp
 rw[this]
end pC
namespace aJ
open L2 L2.DL K1 pC
open HT (cC)
abbrev hs (rs ks:List D) (ps:List<|Int×Int) (hd:D):D:=.tup [.tup rs,.tup ks,.tup<|ps.map dP,hd]
structure Hs (rs ks:List D) (ps:List<|Int×Int) (hd:D):zk where
 r1:1<=rs.length
 r5:rs.length<=5
 k1:1<=ks.length
 k4:ks.length<=4
 b:∀ p∈ps,p.1<p.2
 l:ps.length<=1000
 hh:house za=ag
noncomputable def uW (nr nk:Nat):Pg->zk
 |.cz h l k r p w=>0<=h /\ (0<=l /\ l<=9) /\ (0<=k /\ k<(nk)) /\ (0<=r /\ r<(nr)) /\ (0<=p /\ p<=999) /\ 0<=w /\ w<=99
 |.to h l r=>0<=h /\ (0<=l /\ l<=9) /\ 0<=r /\ r<(nr)
 |.out h l=>0<=h /\ 0<=l /\ l<=9
theorem eq_str (a b):aZ (.str a) (.str b)=ae (.old<|.bl<|decide (a=b)):=rfl
theorem ne_str (a b):cR (.str a) (.str b)=ae (.old<|.bl<|!decide (a=b)):=rfl

theorem Ts:(("in":Str)="out")=False:=eq_false zc
theorem Uh:(("in":Str)="to")=False:=eq_false zc
theorem Ja:(("out":Str)="in")=False:=eq_false zc
theorem Ui:(("out":Str)="to")=False:=eq_false zc
theorem C0:(("to":Str)="in")=False:=eq_false zc
theorem Mf:(("to":Str)="out")=False:=eq_false zc
noncomputable def dg:Pg->Str
 |.cz ..=>"in"
 |.to ..=>"to"
 |.out ..=>"out"
theorem Tt {qs:List Pg}{i:Nat}(h:qs[i]?=ae g):bF (qs.map enc) (i)=ae (enc g):=Bu (by rw[nY,h];rfl)
theorem C2 {l:List D}{te}(hm:mi env bx=.val (l.map W.d) bx) (he:eF s env=ah::e2) (n:l.length<=1000) (h:∀ x∈l,te (ae (.d x)::e2) bx=.val (.d<|.bl ag) bx):dN af dZ (fc (gc af s mi (ff 0) ge te) fe) env bx=.val (.d<|.bl ag) bx:=by
 have z:=bB;show(ig _ (fj (iS hm he<|CO (λe=>∃ w,e=w::e2) _ #[_,rfl] (λx m e ⟨w,je⟩=>#[ae _::e2,by rw[je];rfl,#[_,rfl],h x m]) zb) zj)<|all_map l λ_=>ag).trans zg
theorem AG {lo}(h:wi d lo hi=ag):K1.gk [.d d,.d<|.int lo,.d<|.int hi] bx=.val (.d<|.bl ag) bx:=by rw[Bi,h]
theorem Bl {lo}(h:tl (.tup l) lo hi=ag):K1.gD [.d<|.tup l,.d<|.int lo,.d<|.int hi] bx=.val (.d<|.bl ag) bx:=by rw[LM,h]
theorem Oo (h:Hn d=ag):K1.jz [.d d] bx=.val (.d<|.bl ag) bx:=by
 have z:=bB;cases d with
 |tup l=>
   simp[Hn,aH,cg]at h;let#[t,a,f]:=h;refine gi<|qF (gM (fY<|fT<|cV<|Bl t)<|fY<|fT<|C2 (ja zj) zj (by have:=Ax t;lia) λx m=>cV<|AG<|a x m)<|gz ?_;let#[p,q,r,s,rfl]:=afI t;let#[p,rfl,_]:=iN<|a p zg;let#[q,rfl,_]:=iN<|a q zg;let#[r,rfl,_]:=iN<|a r zg;let#[s,rfl,_]:=iN<|a s zg;simp[wu,aH,decide_eq_true_eq]at f;refine(ig (r:=.old _) [.lst _] (fj (iS (l:=([(p,q),(q,r),(r,s)].map λa:Int×Int=>D.tup [.int a.1,.int a.2]).map W.d) zj zj<|(K0 (J:=λe=>∃ a b,e=[a,b]) _ _ (λ_=>#[_,_,rfl]) _ _ [] (by simp;lia) #[_,_,rfl] (λx _ env ⟨a,b,e⟩=>by subst e;rfl) λx m=>#[rfl,λ_=>(fQ (r:=.old<|.bl ag) zj zj (by simp at m;simp[qw];rcases m with rfl|rfl|rfl<;>lia))])) zj) zj)
 |_=>cases h
theorem Sc (h:kind d=ag):K1.lM [.d d] bx=.val (.d<|.bl ag) bx:=by
 cases d with
 |tup l=>
   simp[kind,aH]at h;let#[t,h]:=h;let#[a,b,rfl]:=afH t;simp[aH]at h;show gi<|gz<|bU.jJ (cV<|Bl t)<|bU.jJ (cV<|AG h.1)<|cV<|Oo h.2
 |_=>cases h
theorem Sd (h:yy n d=ag):K1.iz [.d d,.d<|.int n] bx=.val (.d<|.bl ag) bx:=by
 cases d with
 |tup l=>
   simp[yy,aH]at h;let#[t,h]:=h;split at h
   .simp[aH,decide_eq_true_eq]at h;show gi<|qF (fY<|fT<|cV<|Bl t)<|gz<|bU.jJ (C2 (ja zj) zj (by simp) λx m=>cV<|AG (d:=x) (lo:=0) (hi:=n-1) (by simp at m;rcases m with rfl|rfl<;>(simp[wi,aH,decide_eq_true_eq];lia)))<|fQ (r:=.old _) zj zj (by simp[kZ];show h.1.2)
   .cases h
 |_=>cases h
theorem Op (h:Hs rs ks ps hd):K1.j5 [.d za] bx=.val (.d<|.bl ag) bx:=by
 have z:=bB;have l:=h.l;have q:=h.hh;erw[house,aH,rooms,kinds,apart,cg]at q;let#[#[t1,q1],#[t2,q2],#[q3,i],q4]:=q;rw[FK]at i;have ri:=G7 ps zb bx;rw[i]at ri;have e1:K1.jy [.d _] bx=.val _ bx:=gi<|gz<|bU.jJ (cV<|Bl t1)<|C2 (ja zj) zj (by have:=Ax t1;lia) λx m=>cV<|AG<|q1 x m;have e2:K1.jA [.d _] bx=.val _ bx:=gi<|gz<|bU.jJ (cV<|Bl t2)<|C2 (ja zj) zj (by have:=Ax t2;lia) λx m=>cV<|Sc<|q2 x m;have e3:K1.jB [.d _,.d _] bx=.val _ bx:=gi<|qF zj<|gz<|bU.jJ (C2 (ja zj) zj (by rw[aX];lia) λx m=>cV<|Sd<|q3 x m)<|cV ri;show gi<|qF (fY<|fT<|cV<|Bl zj)<|qG zj zj<|gz<|bU.jJ (cV e1)<|bU.jJ (cV e2)<|bU.jJ (cV e3)<|cV<|AG q4
theorem jK (h:Hs rs ks ps hd):bU.iC [.d za] bx=.val (.d .non) bx:=by
 have b:bU.jE _ bx=.nx [ae _] bx:=
  (gV<|fY<|fT<|fM zj zj<|Op (bx:=bx) h)
 change pU bx.length (pT<|aU bU.jE [ae _] bx)=_;unfold aU;rw[b];simp[pT,pU]
structure Gs (nr nk:Nat) (gs:List Pg):zk where
 ok:∀ g∈gs,uW nr nk g
 nd:gs.Nodup
 l:gs.length<=16
end aJ
namespace K13
open L2 L2.DL K1 K2 pC bU aJ
noncomputable def bj (nr nk:Int) (b:D):List Int:=match b with
 |.str x=>if x="in" then [9,nk-1,nr-1,999,99] else if x="out" then [9] else if x="to" then [9,nr-1] else []
 |_=>[]
def K4 (nr nk:Int) (l:List D):Bool:=match l with
 | a::l=>(match l with
   |b::r=>hr a&&(decide ((bj nr nk b).length=r.length /\ 1<=r.length)&&(r.zip<|bj nr nk b).all λq=>wi q.1 0 q.2)
   |[]=>af)
 |[]=>af
def cP (nr nk:Int) (d:D):Bool:=match d with
 |.tup l=>K4 nr nk l
 |_=>af
theorem Jb (j:Nat) (h:l[j]?=ae x):aF (.tup l) (.int<|j)=ae (.old x):=by
 change (bF l<|j).map Res.old=_;rw[Bu h];rfl
theorem FY:∀ (l) (is),p8 l (is.map D.int)=((l.zip is).map λq=>D.tup [q.1,.int q.2]).map W.d
 |[],_=>rfl
 |_::_,[]=>rfl
 |x::l,i::is=>by simp[p8,FY l is]
theorem FZ {nr nk} (g) (ok:uW nr nk g):cP nr nk (enc g)=ag:=by
 cases g with
 |cz h l k r p w=>let#[a,#[b,c],#[d,e],#[f,g],#[i,j],m,n]:=ok;simp[cP,K4,enc,cU,bX,km,bj,hr,wi];and_intros<;>lia
 |to h l r=>let#[a,#[b,c],d,e]:=ok;simp[cP,K4,enc,cU,bX,km,bj,hr,wi,C0,Mf];lia
 |out h l=>let#[a,b,c]:=ok;simp[cP,K4,enc,cU,bX,km,bj,hr,wi,Ja];lia
theorem Pt {nr nk:Nat}(h:cP nr nk d=ag):∃ g,d=enc g /\ uW nr nk g:=by
 cases d<;>try (cases h;done)
 ext l;rcases l with _|⟨a,_|⟨b,r⟩⟩<;>try (cases h;done)
 have h:(hr a&&(decide ((bj nr nk b).length=r.length /\ 1<=r.length)&&(r.zip<|bj nr nk b).all λq=>wi q.1 0 q.2))=ag:=h;erw[aH,decide_eq_true_eq]at h;let#[h1,#[h2,h3],h4]:=h;let#[hh,rfl,h0]:=R9 h1;cases b<;>try (erw[bj,nZ]at h2;lia)
 ext x;unfold bj at h2 h4;dsimp only at h2 h4;by_cases e1:x="in"
 .subst e1;rw[if_pos rfl]at h2 h4;rcases r with _|⟨l,_|⟨k,_|⟨p,_|⟨q,_|⟨w,_|_⟩⟩⟩⟩⟩<;>try (simp at h2;done)
  erw[qm,Iq,nG,QY,QK,aH]at h4;let#[a1,a2,a3,a4,a5]:=h4;let#[l,rfl,l1,l2]:=iN a1;let#[k,rfl,k1,k2]:=iN a2;let#[p,rfl,p1,p2]:=iN a3;let#[q,rfl,q1,q2]:=iN a4;let#[w,rfl,w1,w2]:=iN a5;show#[.cz hh l k p q w,rfl,h0,#[l1,l2],#[k1,by lia],#[p1,by lia],#[q1,q2],w1,w2]
 .rw[if_neg e1]at h2 h4;by_cases e2:x="out"
  .subst e2;rw[if_pos rfl]at h2 h4;rcases r with _|⟨l,_|_⟩<;>try (simp at h2;done)
   erw[qm,Iq,nG,QY,QK]at h4;let#[l,rfl,l1,l2]:=iN h4;show#[.out hh l,rfl,h0,l1,l2]
  .rw[if_neg e2]at h2 h4;by_cases e3:x="to"
   .subst e3;rw[if_pos rfl]at h2 h4;rcases r with _|⟨l,_|⟨p,_|_⟩⟩<;>try (simp at h2;done)
    erw[qm,Iq,nG,QY,QK,aH]at h4;let#[a1,a2]:=h4;let#[l,rfl,l1,l2]:=iN a1;let#[p,rfl,p1,p2]:=iN a2;show#[.to hh l p,rfl,h0,#[l1,l2],p1,by lia]
   .rw[if_neg e3,nZ]at h2
    lia

theorem Oq (w):ie [.d za,.d w] bx=.val (.d<|.tup<|(bj rs.length ks.length w).map D.int) bx:=
 gi (by
  have s5:(5)<=sizeLine:=by decide
  have s1:(1)<=sizeLine:=by decide
  have s2:(2)<=sizeLine:=by decide
  cases w with
  |str x=>
    by_cases e1:x="in"
    .subst e1;simp[gx,dJ,aQ,aF,bF,cA,dE,aJ.eq_str,bj,s5]
    .by_cases e2:x="out"
     .subst e2;simp[gx,dJ,aQ,aF,bF,cA,dE,aJ.eq_str,bj,Ja,s1]
     .by_cases e3:x="to"
      .subst e3;simp[gx,dJ,aQ,aF,bF,cA,dE,aJ.eq_str,bj,C0,Mf,s2]
      .simp[gx,dJ,aQ,aF,bF,cA,dE,aJ.eq_str,bj,e1,e2,e3]
  |_=>simp[gx,dJ,aQ,aF,bF,cA,dE,aZ,EN,xX,bj])
theorem Mg (d):aJ.iA [.d za,.d d] bx=.val (.d<|.bl<|cP rs.length ks.length d) bx:=by
 have no:∀ {d:D},sr (pW d) "tuple"=af->cP rs.length ks.length d=af->aJ.iA [.d za,.d d] bx=.val (.d<|.bl<|cP rs.length ks.length d) bx:=λ{d} h e=>by
  rw[e];show gi<|qR (lG<|fY (b:=af)<|fT (by simp[h])) zj
 cases d<;>try show no zj zj
 ext l;have ti:∀ {e:bu},e[1]?=ae (ae<|.d<|.tup l)->cE (dB<|gJ "tuple"<|dV 1) e bx=.val af bx:=λh=>fY (b:=ag)<|fT (by unfold gJ;rw[iI,h];rfl);have ln:∀ {e:bu},e[1]?=ae (ae<|.d<|.tup l)->dN af aQ zm e bx=.val (.d<|.int l.length) bx:=λh=>ig (r:=.old<|.int l.length) [.tup l] (fj (by rw[iI,h]) zj) zj;have lt:∀ {e:bu}{b:Bool},e[1]?=ae (ae<|.d<|.tup l)->decide ((l.length:Int)<3)=b->dB (d2 af kZ (dN af aQ zm)<|dC<|.int 3) e bx=.val b bx:=λh q=>fT<|fQ (r:=.old<|.bl _) (ln h) zj (by rw[<-q];rfl);rcases l with _|⟨a,_|⟨b,r⟩⟩
 .show gi<|qR (gM (ti zj)<|lG<|lt zj zj) zj
 .show gi<|qR (gM (ti zj)<|lG<|lt zj zj) zj
 change _=O.val (W.d<|.bl<|hr a&&(decide ((bj rs.length ks.length b).length=r.length /\ 1<=r.length)&&(r.zip<|bj rs.length ks.length b).all λq=>wi q.1 0 q.2)) bx;by_cases r1:1<=r.length
 case neg=>
  rw[decide_eq_false λz=>r1 z.2,pG,vm];show gi<|qR (gM (ti zj)<|lG<|lt zj (by simp;lia)) zj
 have hv:=FU a bx;cases q1:hr a with
 |false=>
   rw[q1]at hv;show gi<|qR (gM (ti zj)<|gM (lt zj<|decide_eq_false (by rw[a6,a6];lia))<|fY<|fT<|fM (fj (fQ zj zj<|Jb 0 zj) zj) zj hv) zj
 |true=>
   rw[q1]at hv;have h0:(eS (cE<|dB<|gJ "tuple"<|dV 1)<|eS (dB<|d2 af kZ (dN af aQ zm)<|dC<|.int 3)<|cE<|dB<|fq K2.iU 1<|fc (d2 af aF (dV 1) zh) fe) [ae<|.d za,ae<|.d<|.tup (a::b::r),ah] bx=.val af bx:=gM (ti zj)<|gM (lt zj<|decide_eq_false (by rw[a6,a6];lia))<|fY<|fT<|fM (fj (fQ zj zj<|Jb 0 zj) zj) zj hv;have h1:=fM (fj (m:=dV 0) (env:=[ae<|.d za,ae<|.d<|.tup (a::b::r),ah]) zj<|fj (m:=d2 af aF (dV 1) ze) (ks:=fe) (fQ (x:=.tup (a::b::r)) (y:=.int 1) (r:=.old b) zj zj<|Jb 1 zj) zj) zj<|Oq (rs:=rs) (ks:=ks) (ps:=ps) (hd:=hd) (bx:=bx) b;have ne:∀ {c:Bool},(!decide (((bj rs.length ks.length b).length:Int)=(r.length:Int)))=c->dB (d2 af cR (dN af aQ<|fc (dV 2) fe)<|d2 af dE (dN af aQ zm)<|dC<|.int 2) [ae<|.d za,ae<|.d<|.tup (a::b::r),ae<|.d<|.tup<|(bj rs.length ks.length b).map D.int] bx=.val c bx:=λ{c} h=>
    fT (fQ (x:=.int (bj rs.length ks.length b).length) (y:=.int r.length) (r:=.old<|.bl c) (ig (r:=.old<|.int (bj rs.length ks.length b).length) [.tup<|(bj rs.length ks.length b).map D.int] (fj zj zj) (by simp[aQ])) (fQ (x:=.int (a::b::r).length) (y:=.int 2) (r:=.old<|.int r.length) (ln zj) zj (by simp[dE];lia)) (by rw[<-h];rfl))
   by_cases e:(bj rs.length ks.length b).length=r.length
   case neg=>
    rw[decide_eq_false λz=>e z.1,pG];show gi<|qF h0<|qS h1<|qR (ne (by rw[decide_eq_false λz=>e zb];rfl)) zj
   rw[decide_eq_true #[e,r1],Ie,Ie];have gl:(bj rs.length ks.length b).length<=5:=by
    unfold bj;split
    .split
     .show aA _
     .split
      .show X3 1 4
      .split
       .show X3 2 3
       .show di _
    .show di _
   have sz:=bB;have cut:DL.cutD (a::b::r) (ae 2) ah=r:=by
    have:=K1.AD (a::b::r) 2 zg;simpa using this
   have z:yd (fc (d6 af (dV 1) (dM<|dC<|.int 2) eU)<|fc (dV 2) fe) [ae<|.d za,ae<|.d<|.tup (a::b::r),ae<|.d<|.tup<|(bj rs.length ks.length b).map D.int] bx=.val (((r.zip<|bj rs.length ks.length b).map λq=>D.tup [q.1,.int q.2]).map W.d) bx:=by
    unfold yd;rw[fj (w:=.d<|.tup r) (l:=[.d<|.tup<|(bj rs.length ks.length b).map D.int]) (FM (r:=.tup r) rfl (oN rfl) rfl (by rw[qv,cut]))<|fj rfl rfl,fX,<-FY]
   have c:=K0 (e:=λq:D×Int=>D.tup [q.1,.int q.2]) (g:=lC 2<|gG (ff 0)<|gG (ff 1) mZ) (tf:=ge) (te:=fq K1.gk 3<|fc (dV 0)<|fc zh zm) (B:=bx) (E:=λq=>[ae<|.d q.1,xN q.2]) (J:=λe=>∃ a b,e=[a,b]) (λ_=>ag) (λq=>.bl<|wi q.1 0 q.2) (λ_=>#[_,_,rfl]) (r.zip<|bj rs.length ks.length b) [ah,ah] [] (by rw[QZ];simp;lia) #[_,_,rfl] (λx _ env ⟨a,b,e⟩=>by subst e;rfl) λx m=>#[rfl,λ_=>cV<|Bi x.1 0 x.2 bx];rw[List.filter_eq_self.mpr λ_ _=>rfl,vv]at c;have al:dZ [.lst<|(r.zip<|bj rs.length ks.length b).map λq=>D.bl<|wi q.1 0 q.2]=ae (.old<|.bl<|(r.zip<|bj rs.length ks.length b).all λq=>wi q.1 0 q.2):=by simp[dZ,Bj,xa]
   show gi<|qF h0<|qS h1<|qF (ne (by rw[decide_eq_true zb];rfl))<|gz<|ig (r:=.old<|.bl _) [.lst ((r.zip<|bj rs.length ks.length b).map λq:D×Int=>D.bl<|wi q.1 0 q.2)] (fj (iS (bx1:=bx) z zj c) zj) al
end K13
namespace ub
open L2 L2.DL
noncomputable section
end
end ub
namespace aJ
open L2 L2.DL K1 pC
noncomputable abbrev Al:=List<|Int×Int
noncomputable def look (l:Al) (x:Int):Option Int:=(l.find? λq=>decide (q.1=x)).map (·.2)
noncomputable def put {α:Type}(l:List<|Int×α) (x:Int) (v:α):List (Int×α):=if (l.any λq=>decide (q.1=x))=ag then l.map (λq=>if q.1=x then (q.1,v) else q) else l++[(x,v)]
noncomputable def yz {α:Type}(l:List<|Int×α) (x:Int):List (Int×α):=l.filter λq=>decide (q.1≠x)
def kk (K:Al) (l:Int):Int:=(look K l).getD 0
noncomputable def Ht (ps:Al) (a b:Int):Bool:=decide ((a,b)∈ps)||decide ((b,a)∈ps)
def sO (ps K R:Al) (k r:Int):Bool:=R.any λq=>decide (q.2=r)&&Ht ps k (kk K q.1)
def word (ps K R:Al):Pg->Str
 |.cz _ l k r _ _=>if (look K l).isSome then "there" else if sO ps K R k r then "apart" else "takes"
 | .to _ l r=>match look R l with
   |none=>"none"
   |some r0=>if r0=r then "same" else if sO ps K R (kk K l) r then "apart" else "takes"
 | .out _ l=>match look R l with
   |none=>"none"
   |some _=>"takes"
noncomputable def bY:Pg->Int
 |.cz _ l ..=>l
 |.to _ l _=>l
 |.out _ l=>l
def stK (K:Al):Pg->Al
 |.cz _ l k ..=>put K l k
 |_=>K
def rG (R:Al):Pg->Al
 |.cz _ l _ r ..=>put R l r
 |.to _ l r=>put R l r
 |.out _ l=>yz R l
def wordsOf (ps:Al):Al->Al->List Pg->List Str
 |_,_,[]=>[]
 |K,R,g::gs=>word ps K R g::(if word ps K R g="takes" then wordsOf ps (stK K g) (rG R g) gs else wordsOf ps K R gs)
structure kq (K R:Al) (n:Nat):zk where
 nd:(R.map (·.1)).Nodup
 sub:∀ q∈R,(look K q.1).isSome=ag
 lk:K.length<=n
 lr:R.length<=n
section
variable {α:Type}
noncomputable def kK (e:α->D) (l:List<|Int×α):List (Key×D):=l.map λq=>(.inl q.1,e q.2)
abbrev bz (l:Al):List (Key×D):=kK D.int l
theorem F6 (a b):decide ((Sum.inl a:Key)=Sum.inl b)=decide (a=b):=by
 by_cases h:a=b
 .simp
 .rw[decide_eq_false h];show decide_eq_false λz=>h<|Sum.inl.inj z
theorem oR (l:List<|Int×α) (x):kH (kK e l) (.inl x)=((l.find? λq=>decide (q.1=x)).map (·.2)).map e:=by
 unfold kH kK;rw[List.find?_map];have:((λkv:Key×D=>decide (kv.1=Sum.inl x))∘λq:Int×α=>((Sum.inl q.1),e q.2))=λq=>decide (q.1=x):=by
  funext q;show F6 q.1 x
 rw[this];cases l.find? λq=>decide (q.1=x)<;>rfl
theorem Os (l) (x):((kK e l).any λkv=>decide (kv.1=Sum.inl x))=l.any λq=>decide (q.1=x):=by
 unfold kK;rw[QS];congr 1;funext q;show F6 q.1 x
theorem Ot (l) (x) (v):Ha (kK e l) (.inl x) (e v)=kK e (put l x v):=by
 unfold Ha put;rw[Os];split
 .unfold kK;rw[cx,cx];refine vq λq _=>?_;by_cases h:q.1=x
  .simp[h]
  .simp[h]
 .unfold kK;simp
theorem Mh (l) (x):uQ (kK e l) (.inl x)=kK e (yz l x):=by
 unfold uQ yz kK;rw[List.filter_map];congr 1;congr 1;funext q;by_cases h:q.1=x<;>simp
theorem BY (l) (x) (v:α):(put l x v).length<=l.length+1:=by
 unfold put;split<;>simp
end
theorem Mi (nd:(R.map (·.1)).Nodup) (m:q∈R):look R q.1=ae q.2:=by
 induction R with
 |nil=>cases m
 |cons a R ih=>
   rw[aS,rR]at nd;unfold look;rw[yW];rcases a9.mp m with rfl|m
   .simp
   .have:¬ a.1=q.1:=λz=>nd.1 (by rw[z];show wY m);rw[decide_eq_false this];show ih nd.2 m
theorem DU (ps:Al):dO (.tup<|ps.map dP)=ag:=by
 have h:=Md<|ps.map λq=>[q.1,q.2];rw[<-DT]at h;unfold dO at h ⊢;simpa[toPy,PyData.canLay0,PyData.depth] using h
theorem Mj (neg) (q) (ps:Al):inD neg (dP q) (.tup<|ps.map dP)=ae (.old<|.bl (if neg then !decide (q∈ps) else decide (q∈ps))):=by
 change (if kX (dP q)=ag /\ (ps.map dP).all kX=ag then ae (Res.old<|.bl (if neg then !nF (dP q) (ps.map dP) else nF (dP q) (ps.map dP))) else tX neg _ _ _)=_;unfold tX;rw[show dO (dP q)=ag from Ol [q.1,q.2],DU,Sb];rfl

theorem Ou (h:Hs rs ks ps hd) (a b):iQ [.d za,.d<|.int a,.d<|.int b] bx=.val (.d<|.bl<|!Ht ps a b) bx:=by
 have z:(2)<=sizeLine:=by decide
 refine gi<|gz ?_;have e1:fL (fc (dN af minD<|fc (dV 1)<|fc (dV 2) fe)<|fc (dN af maxD<|fc (dV 1)<|fc (dV 2) fe) fe) [ae<|.d za,xN a,xN b] bx=.val (.d<|dP (if b<a then b else a,if b>a then b else a)) bx:=rfl;refine(fQ e1 zj<|Mj ag _ ps).trans ?_;have:decide ((if b<a then b else a,if b>a then b else a)∈ps)=Ht ps a b:=by
  unfold Ht;rw[qj];simp[sV,decide_eq_true_eq];by_cases c:b<a
  .rw[if_pos c,if_neg zb];show#[.inr,λz=>z.elim (λz=>absurd (h.b _ z) (by simp;lia)) id]
  .rw[if_neg c];by_cases d:b>a
   .rw[if_pos d];show#[.inl,λz=>z.elim id λz=>absurd (h.b _ z) (by simp;lia)]
   .rw[if_neg d];have:a=b:=by lia
    subst this;show#[.inl,λz=>z.elim id id]
 rw[this];rfl
theorem BZ (g):fZ [.d<|enc g] bx=.val (.d (match g with|.cz _ _ _ r _ _=>.int r|.to _ _ r=>.int r|.out ..=>.non)) bx:=
 gi (by cases g<;>simp[j7,enc,cU,bX,km,aF,bF,cA,eq_str,C0,Ja,Ui])
section
variable {L:List (Int × α)}
theorem Pu (neg) (hk:k env bx=.val (.d<|.int l) bx) (hm:m env bx=.val (.b i) bx) (hb:p9 bx (.b i)=ae (kK e L)) :
 sL neg k m env bx=.val (.d (.bl (if neg then !((L.find? λq=>decide (q.1=l)).map (·.2)).isSome else ((L.find? λq=>decide (q.1=l)).map (·.2)).isSome))) bx:=by
 unfold sL;rw[hk,fX,hm,fX,hb];change O.val _ bx=_;rw[oR,xb]
theorem B3 (hk:k env bx=.val (.d<|.int l) bx) (hm:m env bx=.val (.b i) bx) (hb:p9 bx (.b i)=ae (kK e L)) (hf:(L.find? λq=>decide (q.1=l)).map (·.2)=ae v):kY m k env bx=.val (.d<|e v) bx:=by
 unfold kY;rw[hm,fX,hk,fX,hb];change (match kH _ _ with|some u=>O.val _ bx|none=>.bad)=_;rw[oR,hf];rfl
theorem C3 {l}(h:bx[i]?=ae (.az l)):p9 bx (.b i)=ae l:=by unfold p9;simp[h]
theorem Tu {l}(h:bx[i]?=ae (.fD l)):p9 bx (.b i)=ae l:=by unfold p9;simp[h]
theorem Ml:uT (kK e L)=(L.map λq=>D.int q.1).map W.d:=by
 unfold uT kK;rw[cx,cx];rfl
end
theorem Mm {bx:List Bx}(h:bx[j]?=ae x):(bx.set j y).set j x=bx:=by
 rw[Yr];apply QO;intro n;by_cases e:j=n
 .subst e;rw[pI (List.getElem?_eq_some_iff.mp h).1,h]
 .rw[rM e]
theorem Tv (h:bx[j]?=ae (.az l)):qA j (bx.set j<|.fD l)=ae bx:=by
 unfold qA;rw[pI (List.getElem?_eq_some_iff.mp h).1];simp[Mm h]
section
variable {K:List (Int × Int)}
abbrev Wk:DE W:=wo af [ah,ae 2,ae 6] 2 (ff 0) (dB<|d2 af aZ (kY (dV 1)<|dV 0)<|dV 2)<|dV 0
theorem Uj (J:kq K R n) (hn:n<=100) (hj:bx[j]?=ae (.az<|bz R)) (h2:env[2]?=ae (xB j)) (h6:env[6]?=ae (xN r)) :
 Wk env bx=.val (.d<|.lst<|(R.filter λq=>decide (q.2=r)).map λq=>D.int q.1) bx:=by
 have z:sizeLine=16777216:=bB;have lr:=J.lr;unfold Wk wo;erw[h2,hj];have s:eF [ah,ae 2,ae 6] env=[ah,xB j,xN r]:=by simp[h2,h6]
 rw[s,show uT (bz R)=(R.map λq=>D.int q.1).map W.d from Ml,(abi (tf:=dB _) (te:=dV 0) (r:=[ae _,ae _]) _ _ R ah [] (by simp;lia) λq m=>
  #[fT<|fQ (r:=.old _) (B3 zj zj (Tu<|pI (a:=.fD<|bz R) (List.getElem?_eq_some_iff.mp hj).1)<|Mi J.nd m) zj<|rfl,λ_=>rfl]),fX]
 change yu j (.val _ _)=_;unfold yu;erw[Tv hj];rfl
abbrev abk:DE W:=dN af dZ<|fc (gc af [ah,ae 0,ae 1,ae 7] (bS<|dV 8) (ff 0) ge<|fq aJ.iQ 3<|fc (dV 1)<|fc (dV 3)<|fc (kY (dV 2)<|dV 0) fe) fe
theorem Uk (h:Hs rs ks ps hd) (J:kq K R n) (hn:n<=100) (hi:bx[i]?=ae (.az<|bz K)) (h0:env[0]?=ae (ae<|.d za)) (h1:env[1]?=ae (xB i)) (h7:env[7]?=ae (xN k))
 (h8:env[8]?=ae (ae<|.d<|.lst<|(R.filter λq=>decide (q.2=r)).map λq=>D.int q.1)):abk env bx=.val (.d<|.bl<|!sO ps K R k r) bx:=by
 have z:sizeLine=16777216:=bB;have lr:=J.lr;have fl:=QP (λq:Int×Int=>decide (q.2=r)) R;have it:bS (dV 8) env bx=.val _ bx:=iD (by unfold dV;rw[h8]);have s:eF [ah,ae 0,ae 1,ae 7] env=ah::[ae<|.d za,xB i,xN k]:=by simp[h0,h1,h7]
 refine(Wj (λq=>!Ht ps k (kk K q.1)) it s zb λq m=>?_).trans ?_
 .let#[v,hv]:=Option.isSome_iff_exists.mp<|J.sub q (List.mem_filter.mp m).1;have e:kk K q.1=v:=by unfold kk;rw[hv];rfl
  rw[e];show fM (fj zj<|fj zj<|fj (B3 zj zj (C3 hi) hv) zj) zj<|Ou h k v
 .congr 3;unfold sO;rw[qj];erw[cg,List.mem_filter,kN,QM,aH,decide_eq_true_eq,not_and,X7];show#[λa q m c=>a q #[m,c],λa q m=>a q m.1 m.2]
def afQ:aE:=(fB (fO Wk<|ff 8)<|fB (aT (dB abk) (fJ<|dC<|.str "takes") a8)<|fJ<|dC<|.str "apart")
theorem Tw (h:Hs rs ks ps hd) (J:kq K R n) (hn:n<=100) (hi:bx[i]?=ae (.az<|bz K)) (hj:bx[j]?=ae (.az<|bz R)) (x3 x4 x5 x8) (k r) :
 afQ [ae<|.d za,xB i,xB j,x3,x4,x5,xN r,xN k,x8] bx=.rt (.d<|.str (if sO ps K R k r then "apart" else "takes")) bx:=by
 have b:=Uk (env:=[ae _,ae _,xB j,x3,x4,x5,xN r,xN k,ae<|.d<|.lst<|(R.filter λq=>decide (q.2=r)).map λq=>D.int q.1]) h J hn hi zj zj zj zj;refine(fE<|im<|Uj (env:=[ae _,ae _,ae _,x3,x4,x5,ae _,ae _,x8]) J hn hj zj zj).trans ?_;cases c:sO ps K R k r with
 |true=>
   rw[c]at b;show(fE<|gV<|fT b)
 |false=>
   rw[c]at b;show jH<|(jI<|fT b)
theorem Se (h:Hs rs ks ps hd) (J:kq K R n) (hn:n<=100) (hi:bx[i]?=ae (.az<|bz K)) (hj:bx[j]?=ae (.az<|bz R)) (g) :
 i9 [.d za,.b i,.b j,.d<|enc g] bx=.val (.d<|.str<|word ps K R g) bx:=by
 refine gi ?_;change lN _ bx=_;have eM:lN=(fB _ _):=rfl;rw[eM];have p1:dJ 4 5 (fc (d2 af aF (dV 3) ze)<|fc (d2 af aF (dV 3)<|dC<|.int 2) fe) [ae<|.d za,xB i,xB j,ae<|.d<|enc g,ah,ah,ah,ah,ah] bx=.nx [ae<|.d za,xB i,xB j,ae<|.d<|enc g,ae<|.d<|.str<|dg g,xN<|bY g,ah,ah,ah] bx:=by
  cases g<;>simp[dJ,enc,cU,bX,km,aF,bF,cA,dg,bY]
 refine(fE p1).trans ?_;have tE:∀ (w:Str) (x6 x7:Option W),dB (d2 af aZ (dV 4)<|dC<|.str w) [ae<|.d za,xB i,xB j,ae<|.d<|enc g,ae<|.d<|.str<|dg g,xN<|bY g,x6,x7,ah] bx=.val (decide (dg g=w)) bx:=λw x6 x7=>fT<|fQ zj zj<|eq_str _ _;have tN:dB (d2 af cR (dV 4)<|dC<|.str "in") [ae<|.d za,xB i,xB j,ae<|.d<|enc g,ae<|.d<|.str<|dg g,xN<|bY g,ah,ah,ah] bx=.val (!decide (dg g="in")) bx:=fT<|fQ zj zj<|ne_str _ _;have iK:dB (sL af (dV 5)<|dV 1) [ae<|.d za,xB i,xB j,ae<|.d<|enc g,ae<|.d<|.str<|dg g,xN<|bY g,ah,ah,ah] bx=.val (look K<|bY g).isSome bx:=fT<|Pu af zj zj<|C3 hi;have iR:dB (sL ag (dV 5)<|dV 2) [ae<|.d za,xB i,xB j,ae<|.d<|enc g,ae<|.d<|.str<|dg g,xN<|bY g,ah,ah,ah] bx=.val (!(look R<|bY g).isSome) bx:=fT<|Pu ag zj zj<|C3 hj;cases g with
 |cz h' l k r p w=>
   change _=OS.rt (W.d<|.str (if (look K l).isSome then "there" else if sO ps K R k r then "apart" else "takes")) bx;have t1:=jh (tE "in" ah ah) iK;cases c:(look K l).isSome with
   |true=>
     rw[show (look K<|bY<|.cz h' l k r p w).isSome=ag from c]at t1;show jH<|(jI t1).trans zj
   |false=>
     rw[show (look K<|bY<|.cz h' l k r p w).isSome=af from c]at t1;refine(fE<|(gV t1).trans zj).trans ?_;refine(fE<|(gV<|lO tN).trans zj).trans ?_;have t3:=tE "out" ah ah;rw[decide_eq_false (show ¬ dg (.cz h' l k r p w)="out" by change ¬ ("in":Str)="out";rw[Ts];show id)]at t3;refine(fE<|(gV t3).trans zj).trans ?_;refine(fE<|im<|fM (l:=[.d<|enc<|.cz h' l k r p w]) zj zj<|BZ _).trans ?_;have t4:=tE "to" (xN r) ah;rw[decide_eq_false (show ¬ dg (.cz h' l k r p w)="to" by change ¬ ("in":Str)="to";rw[Uh];show id)]at t4;refine(fE<|(gV<|lO t4).trans zj).trans ?_;have kv:kR (dB<|d2 af aZ (dV 4)<|dC<|.str "in") (d2 af aF (dV 3)<|dC<|.int 3) (kY (dV 1)<|dV 5) [ae<|.d za,xB i,xB j,ae<|.d<|enc<|.cz h' l k r p w,ae<|.d<|.str<|dg<|.cz h' l k r p w,xN<|bY<|.cz h' l k r p w,xN r,ah,ah] bx=.val (.d<|.int k) bx:=by
      unfold kR;rw[(tE "in" (xN r) ah),fX];rfl
     show(fE<|im kv).trans (Tw h J hn hi hj _ _ _ _ k r)
 |to h' l r=>
   have t1:=tE "in" ah ah;rw[decide_eq_false (show ¬ dg (.to h' l r)="in" by change ¬ ("to":Str)="in";rw[C0];show id)]at t1 tN;refine(fE<|(gV<|lO t1).trans zj).trans ?_;have t2:=jh tN iR;change _=OS.rt (W.d<|.str (match look R l with|none=>"none"|some r0=>if r0=r then "same" else if sO ps K R (kk K l) r then "apart" else "takes")) bx;cases c:look R l with
   |none=>
     rw[show look R (bY<|.to h' l r)=ah from c]at t2;show jH<|(jI t2).trans zj
   |some r0=>
     rw[show look R (bY<|.to h' l r)=ae r0 from c]at t2;refine(fE<|(gV t2).trans zj).trans ?_;have t3:=tE "out" ah ah;rw[decide_eq_false (show ¬ dg (.to h' l r)="out" by change ¬ ("to":Str)="out";rw[Mf];show id)]at t3;refine(fE<|(gV t3).trans zj).trans ?_;refine(fE<|im<|fM (l:=[.d<|enc<|.to h' l r]) zj zj<|BZ _).trans ?_;have t4:qt (dB<|d2 af aZ (dV 4)<|dC<|.str "to") (dB<|d2 af aZ (kY (dV 2)<|dV 5)<|dV 6) [ae<|.d za,xB i,xB j,ae<|.d<|enc<|.to h' l r,ae<|.d<|.str<|dg<|.to h' l r,xN<|bY<|.to h' l r,xN r,ah,ah] bx=.val (decide (r0=r)) bx:=
      jh (tE "to" (xN r) ah) (fT<|fQ (r:=.old<|.bl<|decide (r0=r)) (x:=.int r0) (y:=.int r) (B3 (e:=D.int) (L:=R) zj zj (C3 hj) c) zj<|rfl)
     by_cases d:r0=r
     .rw[decide_eq_true d]at t4;change _=OS.rt (W.d<|.str (if r0=r then "same" else if sO ps K R (kk K l) r then "apart" else "takes")) bx;rw[if_pos d];show jH<|(jI t4).trans zj
     .rw[decide_eq_false d]at t4;change _=OS.rt (W.d<|.str (if r0=r then "same" else if sO ps K R (kk K l) r then "apart" else "takes")) bx;rw[if_neg d];refine(fE<|(gV t4).trans zj).trans ?_;obtain⟨q,mq,eq⟩:∃ q∈R,q.1=l:=by
       unfold look at c;cases f:R.find? λq=>decide (q.1=l) with
       |none=>rw[f]at c;cases c
       |some q=>show#[q,Yv f,by have:=Yw f;simpa using this]
      let#[v,hv]:=Option.isSome_iff_exists.mp<|J.sub q mq;rw[eq]at hv;have ev:kk K l=v:=by unfold kk;rw[hv];rfl
      have t5:=tE "in" (xN r) ah;rw[decide_eq_false (show ¬ dg (.to h' l r)="in" by change ¬ ("to":Str)="in";rw[C0];show id)]at t5;have kv:kR (dB<|d2 af aZ (dV 4)<|dC<|.str "in") (d2 af aF (dV 3)<|dC<|.int 3) (kY (dV 1)<|dV 5) [ae<|.d za,xB i,xB j,ae<|.d<|enc<|.to h' l r,ae<|.d<|.str<|dg<|.to h' l r,xN<|bY<|.to h' l r,xN r,ah,ah] bx=.val (.d<|.int<|kk K l) bx:=by
       unfold kR;rw[t5,fX,ev];show B3 (e:=D.int) (L:=K) zj zj (C3 hi) hv
      show(fE<|im kv).trans (Tw h J hn hi hj _ _ _ _ (kk K l) r)
 |out h' l=>
   have t1:=tE "in" ah ah;rw[decide_eq_false (show ¬ dg (.out h' l)="in" by change ¬ ("out":Str)="in";rw[Ja];show id)]at t1 tN;refine(fE<|(gV<|lO t1).trans zj).trans ?_;have t2:=jh tN iR;change _=OS.rt (W.d<|.str (match look R l with|none=>"none"|some _=>"takes")) bx;cases c:look R l with
   |none=>
     rw[show look R (bY<|.out h' l)=ah from c]at t2;show jH<|(jI t2).trans zj
   |some r0=>
     rw[show look R (bY<|.out h' l)=ae r0 from c]at t2;show(fE<|(gV t2).trans zj).trans (jH<|(jI<|tE "out" ah ah).trans zj)
end
open bU

theorem F7 {q}(m:q∈put L x v):(q.1=x /\ q.2=v) \/ q∈L:=by
 unfold put at m;split at m
 .let#[p,mp,rfl]:=bc.mp m;by_cases h:p.1=x
  .rw[if_pos h];show .inl #[h,rfl]
  .rw[if_neg h];show .inr mp
 .rcases d8.mp m with m|m
  .show .inr m
  .cases hV.mp m;show .inl #[rfl,rfl]
theorem Mn {v:α}(nd:(L.map (·.1)).Nodup):((put L x v).map (·.1)).Nodup:=by
 unfold put;split
 .rw[cx];have:((λq:Int×α=>q.1)∘λq=>if q.1=x then (q.1,v) else q)=λq=>q.1:=by
   funext q;by_cases h:q.1=x<;>simp[h]
  rw[this];show nd
 .ext h;rw[Ip,sW];refine#[nd,by simp,λa ma b mb=>?_];cases (hV.mp mb);let#[q,mq,rfl]:=bc.mp ma;show λz=>h<|List.any_eq_true.mpr #[q,mq,decide_eq_true z]
theorem Bm (h:look L x=ae v):∃ q∈L,q.1=x:=by
 unfold look at h;cases f:L.find? λq=>decide (q.1=x) with
 |none=>rw[f]at h;cases h
 |some q=>show#[q,Yv f,by have:=Yw f;simpa using this]
theorem oS:(look L x).isSome=ag ↔ ∃ q∈L,q.1=x:=by
 constructor
 .intro h;let#[v,h]:=Option.isSome_iff_exists.mp h;show Bm h
 .rintro⟨q,m,rfl⟩;unfold look;rw[xb,List.find?_isSome];show#[q,m,by simp]
theorem Mo (h:y=x \/ (look L y).isSome=ag):(look (put L x v) y).isSome=ag:=by
 rw[oS];have key:∀ z,(∃ q∈L,q.1=z)->∃ q∈put L x v,q.1=z:=λz ⟨q,m,e⟩=>by
  unfold put;split
  .refine#[if q.1=x then (q.1,v) else q,wY m,?_];split<;>show e
  .show#[q,nX _ m,e]
 rcases h with rfl|h
 .by_cases c:(look L y).isSome=ag
  .show key y<|oS.mp c
  .unfold put;rw[if_neg]
   .show#[(y,v),by simp,rfl]
   .intro z;let#[q,m,e]:=List.any_eq_true.mp z;show c<|oS.mpr #[q,m,of_decide_eq_true e]
 .show key y<|oS.mp h
theorem kq.step {K}(J:kq K R n) (h:word ps K R g="takes"):kq (stK K g) (rG R g) (n+1):=by
 have lk:=J.lk;have lr:=J.lr;cases g with
 |cz h' l k r p w=>
   have a:=BY K l k;have b:=BY R l r;refine#[Mn J.nd,λq m=>?_,by change (put K l k).length<=_;lia,by change (put R l r).length<=_;lia];rcases F7 m with m|m
   .show Mo<|.inl m.1
   .show Mo<|.inr<|J.sub q m
 |to h' l r=>
   have b:=BY R l r;refine#[Mn J.nd,λq m=>?_,by change K.length<=_;lia,by change (put R l r).length<=_;lia];rcases F7 m with m|m
   .rw[m.1];cases c:look R l with
    |none=>
      simp[word,c]at h;show absurd h zc
    |some v=>
      let#[q0,m0,e0]:=Bm c;rw[<-e0];show J.sub q0 m0
   .show J.sub q m
 |out h' l=>
   refine#[(λnd=>nd.sublist<|(List.filter_sublist).map _) J.nd,λq m=>J.sub q (List.mem_filter.mp m).1,by change K.length<=_;lia,?_];have:=QP (λq:Int×Int=>decide (q.1≠l)) R;change (yz R l).length<=_;unfold yz
   lia
def tq (x:Pg×Str×D×D):D:=.tup [enc x.1,.str x.2.1,x.2.2.1,x.2.2.2]
section

def Bk (bx:List Bx) (T:List<|Pg×Str×D×D) (K R:Al):List Bx:=bx++[.lst<|T.map tq,.az<|bz K,.az<|bz R]
variable {K:Al}
theorem Hu:(Bk bx T K R)[bx.length]?=ae (.lst<|T.map tq):=by simp[Bk]
theorem abl:(Bk bx T K R)[bx.length+1]?=ae (.az<|bz K):=by simp[Bk]
theorem Hv:(Bk bx T K R)[bx.length+2]?=ae (.az<|bz R):=by simp[Bk]
theorem abm:(Bk bx T K R).set bx.length (.lst<|T'.map tq)=Bk bx T' K R:=by simp[Bk]
theorem afR:(Bk bx T K R).set (bx.length+1) (.az<|bz K')=Bk bx T K' R:=by simp[Bk]
theorem Wl:(Bk bx T K R).set (bx.length+2) (.az<|bz R')=Bk bx T K R':=by simp[Bk]
theorem Sf (h1:g w env bx=ae (bb,bx1)) (h2:body bb bx1=.ct cG aq):eD g body (w::l) env bx=eD g body l cG aq:=by
 rw[eD,h1];simp[h2]
noncomputable abbrev rE (H P:D) (t:Nat) (x5 x6 x7:Option W):bu:=[ae<|.d H,ae<|.d P,ae<|.b t,ae<|.b<|t+1,ae<|.b<|t+2,x5,x6,x7]

theorem Pw (g) (w) (h:env[5]?=ae (ae<|.d<|enc g)):dB (d2 af aZ (d2 af aF (dV 5) ze)<|dC<|.str w) env B=.val (decide (dg g=w)) B:=by
 refine fT<|fQ ?_ zj<|eq_str _ _;cases g<;>simp[h,enc,cU,bX,km,aF,bF,cA,dg]
theorem Mp (h:Hs rs ks ps hd) (J:kq K R n) (hn:n<=100) (g) (x6 x7) :
 fB (fO (d2 af aF (dV 5)<|dC<|.int 2)<|ff 6) (fB (fO (fq aJ.i9 4<|fc (dV 0)<|fc (dV 3)<|fc (dV 4)<|fc (dV 5) fe)<|ff 7) k) (rE za P bx.length (ae<|.d<|enc g) x6 x7) (Bk bx T K R) =
  k (rE za P bx.length (ae<|.d<|enc g) (xN<|bY g)<|ae<|.d<|.str<|word ps K R g) (Bk bx T K R):=
 (fE<|im<|(λg h=>by
  cases g<;>simp[h,enc,cU,bX,km,aF,bF,cA,bY]) g zj).trans (fE<|im<|fM zj zj<|Se h J hn abl Hv g)
theorem Px (w:Str) (h:env[7]?=ae (ae<|.d<|.str w)):dB (d2 af cR (dV 7)<|dC<|.str "takes") env B=.val (!decide (w="takes")) B:=
 fT (fQ (by unfold dV;rw[h]) zj<|ne_str _ _)
theorem Tz (h:Hs rs ks ps hd) (J:kq K R n) (hn:n<=100) (hT:T.length<=100) (g) (x6 x7) (c:¬ word ps K R g="takes") :
 rB (rE za P bx.length (ae<|.d<|enc g) x6 x7) (Bk bx T K R)=.ct (rE za P bx.length (ae<|.d<|enc g) (xN<|bY g)<|ae<|.d<|.str<|word ps K R g) (Bk bx (T++[(g,word ps K R g,.non,.non)]) K R):=by
 have z:=bB;refine(Mp h J hn g x6 x7).trans ?_;have t:=Px _ (env:=rE za P bx.length (ae<|.d<|enc g) (xN<|bY g)<|ae<|.d<|.str<|word ps K R g) (B:=Bk bx T K R) zj;rw[decide_eq_false c]at t;have a:=FT (m:=dV 2) (k:=fL<|fc (dV 5)<|fc (dV 7)<|fc (dC .non)<|fc (dC .non) fe) (env:=rE za P bx.length (ae<|.d<|enc g) (xN<|bY g)<|ae<|.d<|.str<|word ps K R g) (bx:=Bk bx T K R) (d:=tq (g,word ps K R g,.non,.non)) zj Hu (gN [enc g,.str<|word ps K R g,.non,.non] zj (by simp;lia)) Hu (by simp;lia);rw[show T.map tq++[tq (g,word ps K R g,D.non,D.non)]=(T++[(g,word ps K R g,D.non,D.non)]).map tq by simp,abm]at a;rw[mQ,jI t,fE<|mU a];rfl
noncomputable def dz:Pg->D
 |.cz _ _ _ r _ _=>.int r
 |.to _ _ r=>.int r
 |.out ..=>.non
theorem C4 (hv:v env B=.val (.d<|.int x) B) (hm:m env B=.val (.b i) B) (hk:k env B=.val (.d<|.int l) B) (hb:B[i]?=ae (.az<|bz L)) (hl:L.length<=1000):wc m k v env B=.nx env (B.set i<|.az<|bz<|put L l x):=by
 have z:=bB;unfold wc;rw[hv,iM,hm,iM,hk,iM];simp[hb,qx];rw[if_pos (by unfold bz kK;simp;lia),Ot]
theorem Py (hm:m env B=.val (.b i) B) (hk:k env B=.val (.d<|.int l) B) (hb:B[i]?=ae (.az<|bz L)) (hs:(look L l).isSome=ag):yt m k env B=.nx env (B.set i<|.az<|bz<|yz L l):=by
 unfold yt;rw[hm,iM,hk,iM];simp[hb,qx];rw[if_pos (by rw[oR,xb];show hs),Mh]
theorem Sg (hm:m env B=.val (.b i) B) (hk:k env B=.val (.d<|.int l) B) (hb:B[i]?=ae (.az<|bz L)):yr m k env B=.val (.d<|((look L l).map D.int).getD .non) B:=by
 unfold yr;rw[hm,fX];simp[hb,hk,fX,qx];rw[oR];rfl
theorem C5 (c:word ps K R (.out h' l)="takes"):(look R l).isSome=ag:=by
 simp[word]at c;cases e:look R l with
 |none=>rw[e]at c;show absurd c zc
 |some v=>rfl
theorem Sh (h:Hs rs ks ps hd) (J:kq K R n) (hn:n<=100) (hT:T.length<=100) (g) (x6 x7) (c:word ps K R g="takes") :
 rB (rE za P bx.length (ae<|.d<|enc g) x6 x7) (Bk bx T K R)=.nx (rE za P bx.length (ae<|.d<|enc g) (xN<|bY g)<|ae<|.d<|.str<|word ps K R g) (Bk bx (T++[(g,word ps K R g,((look R<|bY g).map D.int).getD .non,dz g)]) (stK K g)<|rG R g):=by
 have z:sizeLine=16777216:=bB;have lk:=J.lk;have lr:=J.lr;refine(Mp h J hn g x6 x7).trans ?_;generalize hE:rE _ P bx.length _ _ _=E;have e2:∀ B,dV 2 E B=.val _ B:=λB=>by subst hE;rfl
 have e3:∀ B,dV 3 E B=.val _ B:=λB=>by subst hE;rfl
 have e4:∀ B,dV 4 E B=.val _ B:=λB=>by subst hE;rfl
 have e5:E[5]?=ae (ae<|.d<|enc g):=by subst hE;rfl
 have v5:∀ B,dV 5 E B=.val _ B:=λB=>by subst hE;rfl
 have e6:∀ B,dV 6 E B=.val _ B:=λB=>by subst hE;rfl
 have e7:∀ B,dV 7 E B=.val _ B:=λB=>by subst hE;rfl
 have t:=Px _ (env:=E) (B:=Bk bx T K R) (by subst hE;rfl);rw[decide_eq_true c]at t;refine(fE<|(gV t).trans zj).trans ?_;have en:∀ B,fq aJ.fZ 1 (fc _ fe) E B=.val (.d<|dz g) B:=λB=>(fM (fj (v5 B) zj) zj<|BZ g).trans (by cases g<;>rfl);have a:=FT (k:=fL<|fc (dV 5)<|fc (dV 7)<|fc (yr (dV 4)<|dV 6)<|fc (fq aJ.fZ 1<|fc (dV 5) fe) fe) (bx:=Bk bx T K R) (d:=tq (g,word ps K R g,((look R<|bY g).map D.int).getD .non,dz g)) (e2 _) Hu
  (gN [enc g,.str<|word ps K R g,((look R<|bY g).map D.int).getD .non,dz g] (fj (v5 _)<|fj (e7 _)<|fj (Sg (e4 _) (e6 _) Hv)<|fj (en _) zj) (by simp;lia)) Hu (by simp;lia)
 rw[show T.map tq++[tq (g,word ps K R g,((look R<|bY g).map D.int).getD .non,dz g)]=(T++[(g,word ps K R g,((look R<|bY g).map D.int).getD .non,dz g)]).map tq by simp,abm]at a;refine(fE<|mU a).trans ?_;generalize T++[(g,word ps K R g,((look R<|bY g).map D.int).getD .non,dz g)]=T2;have ti:=Pw g "in" (B:=Bk bx T2 K R) e5;have to:=λK2=>Pw g "out" (B:=Bk bx T2 K2 R) e5;cases g with
 |cz h' l k r p w=>
   have p1:=C4 (v:=d2 af aF (dV 5)<|dC<|.int 3) (B:=Bk bx T2 K R) (env:=E) (by rw[G6,v5];rfl) (e3 _) (e6 _) abl zb;rw[afR]at p1;refine(fE<|(jI ti).trans p1).trans ?_;have to:=to<|put K l k;rw[decide_eq_false (show ¬ dg (.cz h' l k r p w)="out" by change ¬ ("in":Str)="out";rw[Ts];show id)]at to;have p2:=C4 (v:=fq aJ.fZ 1<|fc (dV 5) fe) (x:=r) (B:=Bk bx T2 (put K l k) R) (env:=E) (en _) (e4 _) (e6 _) Hv zb;rw[Wl]at p2;show(gV to).trans p2
 |to h' l r=>
   rw[decide_eq_false (show ¬ dg (.to h' l r)="in" by change ¬ ("to":Str)="in";rw[C0];show id)]at ti;refine(fE<|(gV ti).trans zj).trans ?_;have to:=to K;rw[decide_eq_false (show ¬ dg (.to h' l r)="out" by change ¬ ("to":Str)="out";rw[Mf];show id)]at to;have p2:=C4 (v:=fq aJ.fZ 1<|fc (dV 5) fe) (x:=r) (B:=Bk bx T2 K R) (env:=E) (en _) (e4 _) (e6 _) Hv zb;rw[Wl]at p2;show(gV to).trans p2
 |out h' l=>
   rw[decide_eq_false (show ¬ dg (.out h' l)="in" by change ¬ ("out":Str)="in";rw[Ja];show id)]at ti;refine(fE<|(gV ti).trans zj).trans ?_;have p2:=Py (B:=Bk bx T2 K R) (env:=E) (e4 _) (e6 _) Hv<|C5 c;rw[show bY (.out h' l)=l from rfl,Wl]at p2;show(jI<|to K).trans p2
def uX (ps:Al):Al->Al->List Pg->List D
 |_,_,[]=>[]
 |K,R,g::gs=>if word ps K R g="takes" then dz g::uX ps (stK K g) (rG R g) gs else .non::uX ps K R gs
theorem Jc (h:Hs rs ks ps hd):∀ (gs) (T) (K R) (n) (x5 x6 x7),kq K R n->n+gs.length<=100->T.length+gs.length<=100 ->
 ∃ T' K' R' y5 y6 y7,eD (ff 5) rB ((gs.map enc).map W.d) (rE za P bx.length x5 x6 x7) (Bk bx T K R)=.nx (rE za P bx.length y5 y6 y7) (Bk bx (T++T') K' R') /\ T'.map (λx=>(x.1,x.2.1))=gs.zip (wordsOf ps K R gs) /\ T'.map (λx=>x.2.2.2)=uX ps K R gs:=by
 intro l_;induction l_ with
 |nil=>show λT K R n x5 x6 x7 _ _ _=>#[[],K,R,x5,x6,x7,by simp[eD],rfl,rfl]
 |cons g gs aB=>
   intro T K R n x5 x6 x7 J hn hT;rw[a6]at hn hT;have g1:ff 5 (W.d<|enc g) (rE za P bx.length x5 x6 x7) (Bk bx T K R)=ae (rE za P bx.length (ae<|.d<|enc g) x6 x7,Bk bx T K R):=rfl;by_cases c:word ps K R g="takes"
   .have e:=Sh (P:=P) (bx:=bx) (T:=T) h J zb zb g x6 x7 c;generalize ((look R<|bY g).map D.int).getD .non=x at e;let#[T',K',R',y5,y6,y7,e2,z,z2]:=aB (T++[(g,word ps K R g,x,dz g)]) (stK K g) (rG R g) (n+1) (ae<|.d<|enc g) (xN<|bY g) (ae<|.d<|.str<|word ps K R g) (J.step c) zb (by simp;lia);refine#[(g,word ps K R g,x,dz g)::T',K',R',y5,y6,y7,?_,?_,?_]
    .rw[aS,aS,BS g1 e,e2,vo];rfl
    .unfold wordsOf;rw[if_pos c,qm,aS,z]
    .unfold uX;rw[if_pos c,aS,z2]
   .have e:=Tz (P:=P) (bx:=bx) h J zb zb (T:=T) g x6 x7 c;let#[T',K',R',y5,y6,y7,e2,z,z2]:=aB (T++[(g,word ps K R g,.non,.non)]) K R n (ae<|.d<|enc g) (xN<|bY g) (ae<|.d<|.str<|word ps K R g) J zb (by simp;lia);refine#[(g,word ps K R g,.non,.non)::T',K',R',y5,y6,y7,?_,?_,?_]
    .rw[aS,aS,Sf g1 e,e2,vo];rfl
    .unfold wordsOf;rw[if_neg c,qm,aS,z]
    .unfold uX;rw[if_neg c,aS,z2]
theorem Wm:kq [] [] 0:=#[by simp,(λq m=>nomatch m),aA _,aA _]
theorem Mq (h:Hs rs ks ps hd) {gs:List Pg}(hl:qs.length<=16) (so:dG [.lst<|gs.map enc]=ae (.lst<|qs.map enc)) :
 ∃ T':List (Pg×Str×D×D),oJ [.d za,.d<|.lst<|gs.map enc] bx=.val (.d<|.lst<|T'.map tq) bx /\ T'.map (λx=>(x.1,x.2.1))=qs.zip (wordsOf ps [] [] qs) /\ T'.map (λx=>x.2.2.2)=uX ps [] [] qs:=by
 let#[T',K',R',y5,y6,y7,e,z,z2]:=Jc h qs [] [] [] 0 ah ah ah Wm zb (by simp;lia);refine#[T',?_,z,z2];have s1:fO (gj ag fe) (ff 2) [ae<|.d za,ae<|.d<|.lst<|gs.map enc,ah,ah,ah,ah,ah,ah] bx=.nx [ae<|.d za,ae<|.d<|.lst<|gs.map enc,xB bx.length,ah,ah,ah,ah,ah] (bx++[.lst []]):=im<|DP [] zj<|di _;have s2:fO (d7 ag []) (ff 3) [ae<|.d za,ae<|.d<|.lst<|gs.map enc,xB bx.length,ah,ah,ah,ah,ah] (bx++[.lst []])=.nx [ae<|.d za,ae<|.d<|.lst<|gs.map enc,xB bx.length,xB<|bx.length+1,ah,ah,ah,ah] (bx++[.lst [],.az []]):=by
  have:d7 ag [] [ae<|.d za,ae<|.d<|.lst<|gs.map enc,xB bx.length,ah,ah,ah,ah,ah] (bx++[.lst []])=.val (.b<|bx.length+1) (bx++[.lst [],.az []]):=by
   simp[d7,b9]
  show im this
 have s3:fO (d7 ag []) (ff 4) [ae<|.d za,ae<|.d<|.lst<|gs.map enc,xB bx.length,xB<|bx.length+1,ah,ah,ah,ah] (bx++[.lst [],.az []])=.nx (rE za (.lst<|gs.map enc) bx.length ah ah ah) (Bk bx [] [] []):=by
  have:d7 ag [] [ae<|.d za,ae<|.d<|.lst<|gs.map enc,xB bx.length,xB<|bx.length+1,ah,ah,ah,ah] (bx++[.lst [],.az []])=.val (.b<|bx.length+2) (Bk bx [] [] []):=by
   simp[d7,b9,Bk,kK]
  show im this
 have it:bS (dN af dG zm) (rE za (.lst<|gs.map enc) bx.length ah ah ah) (Bk bx [] [] [])=.val ((qs.map enc).map W.d) (Bk bx [] [] []):=
  iD (ig (r:=.lst<|qs.map enc) [.lst<|gs.map enc] (fj zj zj) so)
 have b:Lz [ae<|.d za,ae<|.d<|.lst<|gs.map enc,ah,ah,ah,ah,ah,ah] bx=.rt (.d<|.lst<|T'.map tq) ((Bk bx T' K' R').set bx.length .dead):=by
  refine(fE s1).trans ((fE s2).trans<|(fE s3).trans<|(fE<|(mn it).trans e).trans ?_);rw[vv];show gz<|Tq zj Hu
 refine(lc (ws:=[.d za,.d<|.lst<|gs.map enc]) b).trans ?_;simp[Bk,List.take_append]
theorem afS:∀ (T:List _) (w0 w1 w2 w3) (acc),acc.length+T.length<=1000 ->
 bw g4 ge (fL<|fc (dV 0) zm) ((T.map tq).map W.d) [w0,w1,w2,w3] B acc=.val (acc++T.map λx=>.tup [enc x.1,.str x.2.1]) B:=by
 intro l_;induction l_ with
 |nil=>(intro _ _ _ _ acc _;simp[bw])
 |cons x T aB=>
   intro w0 w1 w2 w3 acc hl;have z:=bB;rw[a6]at hl;have ih:=aB (ae<|.d<|enc x.1) (ae<|.d<|.str x.2.1) (ae<|.d x.2.2.1) (ae<|.d x.2.2.2) (acc++[.tup [enc x.1,.str x.2.1]]) (by simp;lia);have e0:g4 (W.d<|tq x) [w0,w1,w2,w3] B=ae ([ae<|.d<|enc x.1,ae<|.d<|.str x.2.1,ae<|.d x.2.2.1,ae<|.d x.2.2.2],B):=rfl;have e1:fL (fc (dV 0) zm) [ae<|.d<|enc x.1,ae<|.d<|.str x.2.1,ae<|.d x.2.2.1,ae<|.d x.2.2.2] B=.val (.d<|.tup [enc x.1,.str x.2.1]) B:=gN [enc x.1,.str x.2.1] zj (by simp;lia);erw[aS,bw,e0,oK,mP,e1];rw[if_pos zb,ih];simp
end
noncomputable abbrev At:=List<|Int×(Int×Int)
noncomputable abbrev ml (n:Nat):List (Str×Nat):=[("there",n),("came",n+1),("gone",n+2),("doors",n+3),("at",n+4),("words",n+5)]
noncomputable def rH:Pg->Int
 |.cz h ..=>h
 |.to h ..=>h
 |.out h _=>h
end aJ
namespace bU
open L2 L2.DL K1 K2

theorem Si (h1:m env bx=.val (.b j) bx1) (h2:k env bx1=.val (.d<|.lst r) aq) (g:aq[j]?=ae (.lst l)) (hl:l.length+r.length<=sizeLine):d2 ag fP m k env bx=.val (.b aq.length) (aq++[.lst<|l++r]):=by
 rw[G6,h1,fX,h2,fX];have r1:bG aq (.b j)=ae (.lst l):=by simp[bG,g]
 rw[r1,oo,bJ,bJ,show fP (.lst l) (.lst r)=ae _ from if_pos hl];rfl
end bU
namespace aJ
open L2 L2.DL K1 pC bU
def yB (ps K R:Al) (g:Pg):Al:=if word ps K R g="takes" then stK K g else K
def yC (ps K R:Al) (g:Pg):Al:=if word ps K R g="takes" then rG R g else R
theorem F8 {K}(h:¬ word ps K R g="takes"):yB ps K R g=K /\ yC ps K R g=R:=#[if_neg h,if_neg h]
theorem B4 {K}(h:word ps K R g="takes"):yB ps K R g=stK K g /\ yC ps K R g=rG R g:=#[if_pos h,if_pos h]
theorem kq.nx {K}(J:kq K R n) (g):kq (yB ps K R g) (yC ps K R g) (n+1):=by
 by_cases c:word ps K R g="takes"
 .rw[(B4 c).1,(B4 c).2];show J.step c
 .rw[(F8 c).1,(F8 c).2];show#[J.nd,J.sub,X4 J.lk,X4 J.lr]

theorem TB (g) (h:env[3]?=ae (ae<|.d<|enc g)):d2 af aF (dV 3) zh env B=.val (.d<|.int<|rH g) B:=by
 cases g<;>simp[h,enc,cU,bX,km,aF,bF,cA,rH]
abbrev Wn (ft:List W->List Bx->O W):aE:=(fO (d2 af fP (dV 3)<|gc af [ah,ae 0,ae 4] (eT<|fc (dV 4) fe) (ff 0) (dB<|d2 af aZ (fq ft 2<|fc (dV 1)<|fc (dC<|.int 3) fe) zh)<|fL<|fc (dV 0)<|fc (dV 2) fe)<|ff 3)
theorem Jd (h:n<bx.length) (k) (hk:k<=4) (p):∃ is:List Nat,∃ q,is.Sublist (List.range k) /\
 bw (ff 0) (dB<|d2 af aZ (fq K1.fk 2<|fc (dV 1)<|fc (dC<|.int 3) fe) zh) (fL<|fc (dV 0)<|fc (dV 2) fe) (f9 0 k) [ah,xB n,xN k] (pt bx n p) []=.val (is.map λ(i:Nat)=>dP ((i),(k))) (pt bx n q):=by
 have z2:(2)<=sizeLine:=by decide
 have sz:=bB
 let#[l',q,e,s]:=L3 (g:=ff 0) (tf:=dB<|d2 af aZ (fq K1.fk 2<|fc (dV 1)<|fc (dC<|.int 3) fe) zh) (te:=fL<|fc (dV 0)<|fc (dV 2) fe) (λe=>∃ w,e=[w,xB n,xN k]) (λw=>.tup [match w with|.d x=>x|_=>.non,.int k]) (bx:=bx) (n:=n) (f9 0 k) [ah,xB n,xN k] p [] #[ah,rfl] (by
  intro w mw env p ⟨w0,je⟩;let#[i,_,rfl]:=bc.mp mw;show#[[xN<|0+(i),xB n,xN k],decide (p % 3=0),p / 3,by simp[je],#[_,rfl],by simp[(gP h p 3 (by decide) (by decide)),aZ],rfl]) (by simp[f9];lia)
 let#[is,s1,rfl]:=List.sublist_map_iff.mp s;refine#[is,q,s1,?_];rw[e,vv,cx];congr 1;refine vq λi _=>?_;simp
theorem Mr (x1 x2:Option W) {ps:List (Int×Int)}{is:List Nat}(hk:k<=4) (y:ps.length+is.length<=sizeLine)
 (e:bw (ff 0) (dB<|d2 af aZ (fq ft 2<|fc (dV 1)<|fc (dC<|.int 3) fe) zh) (fL<|fc (dV 0)<|fc (dV 2) fe) (f9 0 k) [ah,xB n,xN k] (pt bx n p) []=.val (is.map λ(i:Nat)=>dP ((i),(k))) (pt bx n q)) :
 Wn ft [xB n,x1,x2,xP ps,xN<|k] (pt bx n p)=.nx [xB n,x1,x2,xP<|ps++is.map λ(i:Nat)=>((i:Int),(k:Int)),xN<|k] (pt bx n q):=by
 have ad:fP (.lst<|ps.map dP) (.lst<|is.map λ(i:Nat)=>dP ((i),(k)))=ae (.lst<|(ps++is.map λ(i:Nat)=>((i:Int),(k:Int))).map dP):=by
  refine(if_pos (by rw[aX,aX];show y)).trans ?_;rw[Ip,cx];rfl
 unfold Wn
 rw[DN,G6,show dV 3 _ _=.val _ _ from rfl,fX,BN,(BV (env:=[ae _,x1,x2,ae _,ae _]) (bx:=pt bx n p) (k:=k) (m:=fc _ fe) (rfl) zb),fX,
  show eF _ _=[ah,ae _,ae _] from rfl,e,fX,iW,fX,mh,oo,oo,bJ,bJ,ad,iW,mh,iM,CM]
 rfl
theorem Ms (h:n<bx.length) (x1 x2):∀ (c k) (p) (ps) (w),k+c<=4->Hr k ps ->
 ∃ uM w' q,eD (ff 4) (Wn K1.fk) ((List.range' k c).map λ(i:Nat)=>W.d<|.int<|0+(i)) [xB n,x1,x2,xP ps,w] (pt bx n p)=.nx [xB n,x1,x2,xP uM,w'] (pt bx n q) /\ Hr (k+c) uM:=by
 intro c;induction c with
 |zero=>intro k p ps w _ s;show#[ps,w,p,rfl,s]
 |succ c ih=>
   intro k p ps w hk s;let#[is,q,s1,e]:=Jd h k zb p;have li:is.length<=k:=by have:=s1.length_le;simpa using this
   let#[uM,w',q',e2,s2]:=ih _ q _ _ zb<|s.more s1 zb;refine#[uM,w',q',?_,by rw[show k+(c+1)=k+1+c by lia];show s2];have sz:=bB;have pl:=s.l;have g1:ff 4 (W.d<|.int<|0+(k)) [xB n,x1,x2,xP ps,w] (pt bx n p)=ae ([xB n,x1,x2,xP ps,xN<|k],pt bx n p):=by
    rw[YW];rfl
   rw[List.range'_succ,aS,BS g1<|Mr x1 x2 (ps:=ps) zb zb e];show e2
theorem F9 (h:n<bx.length) (p) {P:D->zk}(k0:0<k) (k5:k<=5) (ht:∀ (w) (p),∃ d q,te [ae w,xB n] (pt bx n p)=.val (.d d) (pt bx n q) /\ P d):∃ ds q,(∀ d∈ds,P d) /\ 1<=ds.length /\ (ds.length)<=k /\ ∀ {env},env[0]?=ae (xB n)->dN af qu (fc (gc af [ah,ae 0] (eT<|fc (d2 af fP ze<|fq K1.fk 2<|fc (dV 0)<|fc (dC<|.int k) fe) fe) (ff 0) ge te) fe) env (pt bx n p)=.val (.d<|.tup ds) (pt bx n q):=by
 have sz:=bB;let#[r,q1,t,r0,r1]:=bU.qd h p k k0 zb;let#[j,rfl]:=ID r0
 let#[ds,q,e1,e2,e3]:=FR (g:=ff 0) (λe=>∃ w,e=[w,xB n]) P (f9 0<|1+j) _ q1 [] #[ah,rfl] (by
  intro w _ env p ⟨w0,je⟩;let#[d,q,e,m]:=ht w p;show#[[ae w,xB n],by simp[je],#[_,rfl],d,q,e,m]) (by simp[f9];lia)
 have n5:ds.length=1+j:=by rw[e2];simp[f9]
 simp[vv]at e1;refine#[ds,q,e3,by lia,by lia,λ{env} he=>?_];have rg:=Az (fj (ks:=fe) (fQ (g:=fP) (m:=dC<|.int 1) zj (t (env:=env) he (m:=dC<|.int k) zj) zj) zj) zb;rw[show (1+(j:Int)).toNat=1+j by lia]at rg;show ig (r:=.tup ds) [.lst ds] (fj (iS rg (by simp[oq,ou,Aw,he,bJ,id]) e1) zj) zj
theorem Mu (h:n<bx.length) (p):∃ rs ks ps hd q,iO [.b n] (pt bx n p)=.val (.d za) (pt bx n q) /\ Hs rs ks ps hd:=by
 let#[rs,q1,hr,r1,r5,e1]:=F9 h p (te:=fq K1.fk 2<|fc (dV 1)<|fc (dC<|.int 4) fe) (P:=λd=>wi d 0 3=ag) (k:=5) zc zc (λw p=>by
  let#[r,q,t,a,b]:=bU.qd h p 4 zc zc;show#[.int r,q,t zj zj,by simp[wi];lia])
 let#[ks,q2,hk,k1,k4,e2]:=F9 h q1 (te:=fq K1.ia 1 zm) (k:=4) zc zc (λw p=>by
  let#[d,q,e,m]:=Oe h p;show#[d,q,fM zj zj e,m])
 let#[ps,w',q3,e3,s3]:=Ms h (ae<|.d<|.tup rs) (ae<|.d<|.tup ks) ks.length 0 q2 [] ah zb #[.nil,(λp m=>nomatch m),aA _];rw[wR]at s3;have pl:=s3.l;let#[qs,pq,so,e4]:=Of ps zb;let#[hd,q4,hh,e5]:=Og h q3 (ae<|.d<|.tup rs) (ae<|.d<|.tup ks) (xP ps) w';have hb:∀ p∈qs,0<=p.1 /\ p.1<p.2 /\ p.2<(ks.length):=λp m=>s3.b p<|pq.mem_iff.mp m;have lq:qs.length<=16:=by rw[pq.length_eq];lia
 refine#[rs,ks,qs,hd,q4,jO ?_ (by rw[fN,fN];show aA _),#[by lia,by lia,by lia,by lia,λp m=>(hb p m).2.1,by lia,?_]]
 .have sz:=bB;show qS (e1 zj)<|qS (e2 zj)<|qS (ik [] zj<|di _)<|(fE<|(mn<|BV (env:=[xB n,ae<|.d<|.tup rs,ae<|.d<|.tup ks,xP<|[],ah]) (bx:=pt bx n q2) (k:=ks.length) (m:=fc (dN af aQ<|fc (dV 2) fe) fe) (rfl) zb).trans (by unfold f9;rw[List.range_eq_range'];show e3)).trans<|gz<|gN [.tup rs,.tup ks,.tup<|qs.map dP,hd] (fj zj<|fj zj<|fj (ig (r:=.tup<|qs.map dP) [.lst<|qs.map dP] (fj (ig (r:=.lst<|qs.map dP) [.lst<|ps.map dP] (fj zj zj) e4) zj) zj)<|fj e5 zj) (show (4:Nat)<=sizeLine by lia)
 .have a:apart (ks.length:Int) (.tup<|qs.map dP)=ag:=by
   have b1:(qs.map dP).all (yy (ks.length:Int))=ag:=by
    rw[xa,cg];intro p m;have:=hb p m;simp[yy,tl]
    lia
   change (((qs.map dP).all<|yy (ks.length:Int))&&incr ((qs.map dP).filterMap toP))=ag;rw[FK,b1,(FS so<|pq.nodup_iff.mpr s3.nd)];rfl
  have afT:rooms (.tup rs)=ag:=by simp[rooms,tl,cg.mpr hr];lia
  have qO:kinds (.tup ks)=ag:=by simp[kinds,tl,cg.mpr hk];lia
  simp[house,lenOf,afT,qO,a,hh,Ig]
theorem AH {α:Type}:∀ {l:List α}{c} (h),(l[c]::l.eraseIdx c).Perm l
 |a::l,0,_=>.refl _
 |a::l,c+1,h=>(List.Perm.swap _ _ _).trans<|(AH<|Nat.lt_of_succ_lt_succ h).cons a
abbrev afU:DE W:=yf (dV 2)<|fq K1.fk 2<|fc (dV 1)<|fc (dN af aQ<|fc (dV 2) fe) fe
theorem DV (h:n<bx.length):∀ (l) (left) (w) (p) (acc),left.length=l.length->left.length<=1000->acc.length+l.length<=sizeLine ->
 ∃ ds q,bw (ff 0) ge afU l [w,xB n,xB bx.length] (pt (bx++[.lst left]) n p) acc=.val (acc++ds) (pt (bx++[.lst []]) n q) /\ ds.Perm left:=by
 intro l_;induction l_ with
 |nil=>
   intro left w p acc hl _ _;cases left with
   |nil=>show#[[],p,by simp[bw],.refl _]
   |cons a b=>simp at hl
 |cons u l aB=>
   intro left w p acc hl ahx z;have h1:n<(bx++[Bx.lst left]).length:=by simp;lia
   have b0:=oQ (p:=p) (x:=.lst left) h;have ln:dN af aQ (fc (dV 2) fe) [ae u,xB n,xB bx.length] (pt (bx++[.lst left]) n p)=.val (.d<|.int left.length) (pt (bx++[.lst left]) n p):=Sa zj b0;have lp:0<left.length:=by rw[hl];simp
   let#[r,q,t,r0,r1]:=DR h1 (i:=1) zj ln zb zb;let#[c,rfl]:=ID r0;have hc:c<left.length:=by lia
   have b1:=oQ (p:=q) (x:=.lst left) h;have pv:=Oj (m:=dV 2) zj b0 t b1 #[by lia,by lia] ((λh=>by
    unfold cA;simp
    lia) hc)<|cW hc
   rw[FW h]at pv;have z':acc.length<sizeLine:=by erw[a6]at z;lia
   have el:(left.eraseIdx c).length=l.length:=by rw[List.length_eraseIdx_of_lt hc,hl];simp
   let#[ds,q',e3,e4]:=aB (left.eraseIdx c) (ae u) q (acc++[left[c]]) el (by rw[el];simp at hl;lia) (by erw[bH,a6,nZ]at z ⊢;lia);refine#[left[c]::ds,q',?_,?_]
   .have g0:ff 0 u [w,xB n,xB bx.length] (pt (bx++[.lst left]) n p)=ae ([ae u,xB n,xB bx.length],pt (bx++[.lst left]) n p):=rfl;erw[bw,g0,oK,mP,pv,if_pos z',e3];simp
   .show(e4.cons _).trans (AH hc)
theorem Ov (h:n<bx.length) (p) (l) (hl:l.length<=1000):∃ ds q,jF [.b n,.d<|.lst l] (pt bx n p)=.val (.d<|.lst ds) (pt bx n q) /\ ds.Perm l:=by
 have sz:=bB;let#[ds,q,e1,e2]:=DV h (l.map W.d) l ah p [] zg hl (by simp;lia);have s1:fO (dN ag qW zm) (ff 2) [xB n,ae<|.d<|.lst l,ah] (pt bx n p)=.nx [xB n,ae<|.d<|.lst l,xB bx.length] (pt (bx++[.lst l]) n p):=by
  have a:dN ag qW zm [xB n,ae<|.d<|.lst l,ah] (pt bx n p)=.val (.b bx.length) (pt (bx++[.lst l]) n p):=by
   rw[N5,fj rfl rfl,fX,<-iY h];have:=fN (bx:=bx) (n:=n) (p:=p);change O.val (W.b (pt bx n p).length) _=_;rw[this]
  show im a
 have M:j6 [xB n,ae<|.d<|.lst l,ah] (pt bx n p)=.rt (.d<|.lst ds) (pt (bx++[.lst []]) n q):=by
  unfold j6;show(fE s1).trans (gz<|iS (iD zj) zj e1)
 refine#[ds,q,(lc M).trans ?_,e2];rw[fN,CY h]

theorem B5 (h:env[i]?=ae (ae<|.d za)):dN af aQ (fc (d2 af aF (dV i) zh) fe) env B=.val (.d<|.int<|rs.length) B:=ig (r:=.old<|.int<|rs.length) [.tup rs] (fj (fQ (r:=.old<|.tup rs) (by unfold dV;rw[h]) zj zj) zj)<|rfl
theorem Mv (h:env[i]?=ae (ae<|.d za)):dN af aQ (fc (d2 af aF (dV i) ze) fe) env B=.val (.d<|.int<|ks.length) B:=ig (r:=.old<|.int<|ks.length) [.tup ks] (fj (fQ (r:=.old<|.tup ks) (by unfold dV;rw[h]) zj zj) zj)<|rfl
theorem Ox (h:n<bx.length) (H:Hs rs ks ps hd) (p near) (h0:0<near) (h1:near<=40):∃ g q,iH [.b n,.d za,.d<|.int near] (pt bx n p)=.val (.d<|enc g) (pt bx n q) /\ uW rs.length ks.length g /\ rH g<near:=by
 have sz:=bB;have r1:=H.r1;have r5:=H.r5;have k1:=H.k1;have k4:=H.k4;let#[a,q1,t1,a0,a1]:=qd h p near h0 zb;let#[v,q2,t2,mv]:=afP h q1 [3,10] (fc (dC<|.int 3)<|fc (dC<|.int 10) fe) (λ_ _=>rfl) zj (by decide) zc;have hv:0<v /\ v<=10:=by simp at mv;lia
 let#[l,q3,t3,l0,l1]:=qd h q2 v hv.1 zb;let#[r,q4,t4,c0,c1]:=qd h q3 rs.length zb zb;let#[w,q5,t5,w0,w1]:=qd h q4 5 zc zc;have fin:∀ {g:Pg}{q:Int},Av [xB n,ae<|.d za,xN near,ah,ah,ah,ah,ah] (pt bx n p)=.rt (.d<|enc g) (pt bx n q)->iH [.b n,.d za,.d<|.int near] (pt bx n p)=.val (.d<|enc g) (pt bx n q):=λe=>jO e (by rw[fN,fN];show aA _);have tz:∀ {e:bu},e[6]?=ae (xN w)->dB (d2 af aZ (dV 6) zh) e (pt bx n q5)=.val (decide (w=0)) (pt bx n q5):=λe=>fT<|fQ (r:=.old<|.bl<|decide (w=0)) (by rw[iI,e]) zj<|rfl;have tt:∀ {e:bu},e[6]?=ae (xN w)->dB (d2 af kZ (dV 6)<|dC<|.int 3) e (pt bx n q5)=.val (decide (w<3)) (pt bx n q5):=λe=>fT<|fQ (r:=.old<|.bl<|decide (w<3)) (by rw[iI,e]) zj<|rfl;by_cases abn:w=0
 .rw[decide_eq_true abn]at tz;show#[.out a l,q5,fin<|(fE<|lH (t1 zj zj)<|t3 zj<|t2 _ _ zj).trans<|(fE<|lH (t4 zj<|B5 zj)<|t5 zj zj).trans<|qR (tz zj)<|gN [.int a,.str "out",.int l] zj (by simp;lia),#[a0,l0,by lia],a1]
 .rw[decide_eq_false abn]at tz;by_cases c2:w<3
  .rw[decide_eq_true c2]at tt;show#[.to a l r,q5,fin<|(fE<|lH (t1 zj zj)<|t3 zj<|t2 _ _ zj).trans<|(fE<|lH (t4 zj<|B5 zj)<|t5 zj zj).trans<|qF (tz zj)<|qR (tt zj)<|gN [.int a,.str "to",.int l,.int r] zj (by simp;lia),#[a0,#[l0,by lia],c0,c1],a1]
  .rw[decide_eq_false c2]at tt;let#[x,q6,t6,x0,x1]:=qd h q5 9 zc zc;let#[y,q7,t7,y0,y1]:=qd h q6 40 zc zc;let#[c,q8,t8,e0,e1]:=qd h q7 4 zc zc;let#[d,ed,md]:=jb (l:=[D.int 0,.int x,.int y,.int 999]) e0 (by simpa using e1);obtain⟨z,rfl,z0,z1⟩:∃ z,d=.int z /\ 0<=z /\ z<=999:=by
    simp at md;rcases md with rfl|rfl|rfl|rfl<;>show#[_,rfl,by lia,by lia]
   let#[k,q9,t9,f0,f1]:=qd h q8 ks.length zb zb;let#[u,qa,ta,u0,u1]:=qd h q9 100 zc zc;show#[.cz a l k r z u,qa,fin<|(fE<|lH (t1 zj zj)<|t3 zj<|t2 _ _ zj).trans<|(fE<|lH (t4 zj<|B5 zj)<|t5 zj zj).trans<|qF (tz zj)<|qF (tt zj)<|qS (fQ (r:=.old<|.int z) (ik [.int 0,.int x,.int y,.int 999] (fj zj<|fj (t6 zj zj)<|fj (t7 zj zj)<|fj zj zj) (by simp;lia)) (t8 zj zj) (by erw[aF,ed,vw]))<|gz<|gN [.int a,.str "in",.int l,.int k,.int r,.int z,.int u] (fj zj<|fj zj<|fj zj<|fj (t9 zj<|Mv zj)<|fj zj<|fj zj<|fj (ta zj zj) zj) (by simp;lia),#[a0,#[l0,by lia],#[f0,f1],#[c0,c1],#[z0,z1],u0,by lia],a1]
noncomputable def cH:Pg->List Key
 |.cz h l k r p w=>[.inl h,.inr "in",.inl l,.inl k,.inl r,.inl p,.inl w]
 |.to h l r=>[.inl h,.inr "to",.inl l,.inl r]
 |.out h l=>[.inl h,.inr "out",.inl l]
def ke (g:Pg):List Key×D:=(cH g,.bl ag)
theorem B6 (g):D.tup ((cH g).map KL)=enc g:=by cases g<;>rfl
theorem C6 (g):∃ l,enc g=.tup l /\ uP l=ae (cH g):=by cases g<;>show#[_,rfl,rfl]
theorem C7 (h:cH a=cH b):a=b:=Ob (by rw[<-B6,<-B6,h])
theorem Oy (gs:List Pg):KN (gs.map ke)=gs.map enc:=by
 unfold KN;rw[cx];show vq λg _=>B6 g
theorem Sj {gs:List Pg}:∃ g2:List Pg,yx (gs.map ke) (cH g) (.bl ag)=g2.map ke /\ (gs.Nodup->g2.Nodup) /\ (∀ x∈g2,x∈gs \/ x=g) /\ g2.length<=gs.length+1:=by
 by_cases m:g∈gs
 .refine#[gs,?_,id,λx m=>.inl m,by lia];unfold yx;rw[if_pos]
  .rw[cx];refine vq λx _=>?_;change (if cH x=cH g then (cH x,D.bl ag) else ke x)=ke x;split<;>rfl
  .show List.any_eq_true.mpr #[ke g,wY m,by simp[ke]]
 .refine#[gs++[g],?_,λnd=>?_,λx mx=>?_,by simp]
  .unfold yx;rw[if_neg]
   .simp[ke]
   .intro z;let#[x,mx,e]:=List.any_eq_true.mp z;let#[y,my,rfl]:=bc.mp mx;show m<|C7 (of_decide_eq_true e)▸my
  .rw[sW];show#[nd,by simp,λa ma b mb=>by cases hV.mp mb;show λz=>m<|z▸ma]
  .rcases d8.mp mx with z|z
   .show .inl z
   .show .inr<|hV.mp z

noncomputable abbrev gE (n b:Nat) (H:D) (mo near:Int) (x5 x6:Option W):bu:=[ae<|.b n,ae<|.d H,ae<|.d<|.int mo,ae<|.d<|.int near,ae<|.b b,x5,x6]
def Gd (nr nk:Nat) (near:Int) (g:Pg):zk:=uW nr nk g /\ rH g<near
theorem Ul (g) (near:Int) (h:env[6]?=ae (ae<|.d<|enc g)):dB (d2 af aZ (d2 af aF (dV 6) ze)<|dC<|.str "in") env B=.val (decide (dg g="in")) B:=by
 refine fT<|fQ ?_ zj<|eq_str _ _;cases g<;>simp[h,enc,cU,bX,km,aF,bF,cA,dg]
theorem Um (h:n<bx.length) (H:Hs rs ks ps hd) (near:Int) (h0:0<near) (h1:near<=40) {gs:List Pg}(nd:gs.Nodup) (ok:∀ g∈gs,Gd rs.length ks.length near g) (hl:gs.length<=100) (q:Int) (x5 x6:Option W) :
 ∃ (g2:List Pg) (q':Int) (y6:Option W),gB (gE n bx.length za mo near x5 x6) (pt (bx++[.dT<|gs.map ke]) n q)=.nx (gE n bx.length za mo near x5 y6) (pt (bx++[.dT<|g2.map ke]) n q') /\ g2.Nodup /\ (∀ g∈g2,Gd rs.length ks.length near g) /\ g2.length<=gs.length+1:=by
 have sz:=bB;have hn:n<(bx++[Bx.dT<|gs.map ke]).length:=by simp;lia
 let#[g,q1,e,og,hg]:=Ox hn H q near h0 h1;have s1:fO (fq aJ.iH 3<|fc (dV 0)<|fc (dV 1)<|fc (dV 3) fe) (ff 6) (gE n bx.length za mo near x5 x6) (pt (bx++[.dT<|gs.map ke]) n q)=.nx (gE n bx.length za mo near x5<|ae<|.d<|enc g) (pt (bx++[.dT<|gs.map ke]) n q1):=
  im (fM zj zj e)
 have pu:∀ (g:Pg) (q2:Int),Gd rs.length ks.length near g->∃ g2:List Pg,KR (dV 4) (dV 6) (dC<|.bl ag) (gE n bx.length za mo near x5<|ae<|.d<|enc g) (pt (bx++[.dT<|gs.map ke]) n q2)=.nx (gE n bx.length za mo near x5<|ae<|.d<|enc g) (pt (bx++[.dT<|g2.map ke]) n q2) /\ g2.Nodup /\ (∀ g∈g2,Gd rs.length ks.length near g) /\ g2.length<=gs.length+1:=λg q2 og=>by
  let#[g2,e2,n2,m2,l2]:=Sj;let#[l,el,kl]:=C6 g;refine#[g2,?_,n2 nd,λx mx=>(m2 x mx).elim (ok x) λz=>z▸og,l2];unfold KR;have v6:dV 6 (gE n bx.length za mo near x5<|ae<|.d<|enc g) (pt (bx++[.dT<|gs.map ke]) n q2)=.val (.d<|.tup l) (pt (bx++[.dT<|gs.map ke]) n q2):=by rw[<-el];rfl
  have v4:dV 4 (gE n bx.length za mo near x5<|ae<|.d<|enc g) (pt (bx++[.dT<|gs.map ke]) n q2)=.val (.b bx.length) (pt (bx++[.dT<|gs.map ke]) n q2):=rfl;rw[Ti,iM,v4,iM,v6,iM];erw[(oQ (p:=q2) (x:=.dT<|gs.map ke) h),kl];rw[if_pos (by simp;lia),e2,FW h]
 have tg:=Ul g near (env:=gE n bx.length za mo near x5<|ae<|.d<|enc g) (B:=pt (bx++[.dT<|gs.map ke]) n q1) zj;by_cases c:dg g="in"
 .rw[decide_eq_true c]at tg;let#[r,q2,t,r0,r1]:=afO hn q1 (env:=gE n bx.length za mo near x5<|ae<|.d<|enc g) (i:=0) zj 3 zc zc;have tt:=jh tg<|fT<|fQ (g:=pz) (r:=.old<|.bl<|decide (0<r)) (x:=.int r) (y:=.int 0) (m:=fq K1.fk 2<|fc (dV 0)<|fc (dC<|.int 3) fe) (k:=dC<|.int 0) t zj<|rfl;by_cases d:0<r
  .rw[decide_eq_true d]at tt;cases g with
   |cz h' l k r' p w=>
     let#[o1,o2]:=og;have xQ:h'<near:=hg;let#[g2,e2,n2,m2,l2]:=pu (.cz (h' / 3) l k r' p w) q2 #[#[by lia,o2],by change h' / 3<near;lia];show#[g2,q2,_,(fE s1).trans<|(fE<|(jI tt).trans<|(λx5=>by
      have c:xT h' 3:=by unfold xT;lia
      simp[enc,cU,bX,km,aF,bF,cA,EJ,c,qv,DL.cutD,HT.aY,fP,bB]) x5).trans e2,n2,m2,l2]
   |to _ _ _=>show absurd c (by change ¬ ("to":Str)="in";rw[C0];show id)
   |out _ _=>show absurd c (by change ¬ ("out":Str)="in";rw[Ja];show id)
  .rw[decide_eq_false d]at tt;let#[g2,e2,n2,m2,l2]:=pu g q2 #[og,hg];show#[g2,q2,_,(fE s1).trans<|(fE<|(gV tt).trans zj).trans e2,n2,m2,l2]
 .rw[decide_eq_false c]at tg;let#[g2,e2,n2,m2,l2]:=pu g q1 #[og,hg];show#[g2,q1,_,(fE s1).trans<|(fE<|(gV<|lO tg).trans zj).trans e2,n2,m2,l2]
theorem Mw (h:n<bx.length) (H:Hs rs ks ps hd) (p near) (h0:0<near) (h1:near<=40) (m0:0<=mo) (m1:mo<=16):∃ (gs:List Pg) (q:Int),iP [.b n,.d za,.d<|.int mo,.d<|.int near] (pt bx n p)=.val (.d<|.lst<|gs.map enc) (pt bx n q) /\ gs.Nodup /\ (∀ g∈gs,Gd rs.length ks.length near g) /\ gs.length<=16:=by
 have sz:=bB;have hn:n<(bx++[Bx.dT []]).length:=by simp;lia
 have s1:fO yo (ff 4) [xB n,ae<|.d za,xN mo,xN near,ah,ah,ah] (pt bx n p)=.nx (gE n bx.length za mo near ah ah) (pt (bx++[.dT<|([]).map ke]) n p):=by
  have:yo [xB n,ae<|.d za,xN mo,xN near,ah,ah,ah] (pt bx n p)=.val (.b bx.length) (pt (bx++[.dT []]) n p):=by
   unfold yo;rw[fN,iY h]
  show im this
 let#[c,q1,t,c0,c1]:=DR hn (env:=gE n bx.length za mo near ah ah) (i:=0) (m:=d2 af fP (dV 2) ze) zj (fQ (r:=.old<|.int<|mo+1) zj zj<|rfl) zb zb;let#[c,rfl]:=ID c0;have rg:eT (fc (fq K1.fk 2<|fc (dV 0)<|fc (d2 af fP (dV 2) ze) fe) fe) (gE n bx.length za mo near ah ah) (pt (bx++[.dT []]) n p)=.val (f9 0 c) (pt (bx++[.dT []]) n q1):=by
  rw[Az (fj t rfl) zb,vz]
 let#[aP,bx',e,gs,q,w5,w6,rfl,rfl,nd,ok,l]:=mB (g:=ff 5) (body:=gB) (λi env b=>∃ (gs:List Pg) (q:Int) (w5 w6:Option W),env=gE n bx.length za mo near w5 w6 /\ b=pt (bx++[.dT<|gs.map ke]) n q /\ gs.Nodup /\ (∀ g∈gs,Gd rs.length ks.length near g) /\ gs.length<=i) (f9 0 c) 0 (gE n bx.length za mo near ah ah) (pt (bx++[.dT<|([]:List Pg).map ke]) n q1) #[[],q1,ah,ah,rfl,rfl,.nil,(λg m=>nomatch m),aA _] (by
  rintro i w env b hw ⟨gs,q,w5,w6,rfl,rfl,nd,ok,l⟩;let#[_,hi]:=DS hw;let#[g2,q',y6,e2,n2,m2,l2]:=Um h H near h0 h1 nd ok zb q (ae w) w6;show#[gE n bx.length za mo near (ae w) w6,_,gE n bx.length za mo near (ae w) y6,_,rfl,e2,g2,q',_,y6,rfl,rfl,n2,m2,by lia])
 have lr:(f9 0 c).length=c:=by simp[f9]
 rw[lr]at l;let#[ds,q2,e3,pm]:=Ov (bx:=bx++[.dT<|gs.map ke]) (n:=n) (by simp;lia) q (gs.map enc) (by simp;lia);let#[g2,rfl,pg]:=KC pm zj;have lt:KO af (dV 4) (gE n bx.length za mo near w5 w6) (pt (bx++[.dT<|gs.map ke]) n q)=.val (.d<|.lst<|gs.map enc) (pt (bx++[.dT<|gs.map ke]) n q):=by
  have v4:dV 4 (gE n bx.length za mo near w5 w6) (pt (bx++[.dT<|gs.map ke]) n q)=.val (.b bx.length) (pt (bx++[.dT<|gs.map ke]) n q):=rfl;unfold KO;rw[v4,fX];erw[(oQ (p:=q) (x:=.dT<|gs.map ke) h),Oy];rfl
 refine#[g2,q2,?_,pg.nodup_iff.mpr nd,λg m=>ok g<|pg.mem_iff.mp m,by rw[pg.length_eq];lia];refine(lc (ws:=[.b n,.d za,.d<|.int mo,.d<|.int near])<|(fE s1).trans<|(fE<|(mn rg).trans e).trans<|gz<|fM (l:=[.b n,.d<|.lst<|gs.map enc]) (fj zj<|fj lt zj) zj e3).trans ?_;rw[fN,CY h]
end aJ
namespace kJ
open L2 L2.DL K1 pC bU aJ
def pre (h:Int) (ps:Al):Al->Al->List Pg->Al×Al
 |K,R,[]=>(K,R)
 |K,R,g::gs=>if rH g<=h then pre h ps (yB ps K R g) (yC ps K R g) gs else (K,R)
abbrev abo (gs:List Pg):zk:=gs.Pairwise λa b=>rH a<=rH b
theorem Mx {K}:∀ {gs},(∀ g∈gs,¬ rH g<=h)->pre h ps K R gs=(K,R)
 |[],_=>rfl
 |g::gs,l=>by unfold pre;rw[if_neg<|l g<|bO ..]
def taken (ps:Al):Al->Al->List Pg->List Pg
 |_,_,[]=>[]
 |K,R,g::gs=>if word ps K R g="takes" then g::taken ps (stK K g) (rG R g) gs else taken ps K R gs
theorem My:∀ {gs}{K R}{T:List (Pg×Str×D×D)},T.map (λx=>(x.1,x.2.1))=gs.zip (aJ.wordsOf ps K R gs)->T.map (λx=>x.2.2.2)=uX ps K R gs ->
 (T.filter λx=>decide (x.2.1=("takes":Str))).map (λx=>(x.1,x.2.2.2))=(taken ps K R gs).map λg=>(g,dz g):=by
 intro l_;induction l_ with
 |nil=>
   intro K R T h _;have:=List.map_eq_nil_iff.mp h;subst this;rfl
 |cons g gs aB=>
   intro K R T h1 h2;unfold aJ.wordsOf at h1;unfold uX at h2;cases T with
   |nil=>cases h1
   |cons x T=>
     injection h1 with a b;let#[a1,a2]:=Prod.mk.inj a;unfold taken;by_cases c:word ps K R g="takes"
     .rw[if_pos c]at b h2 ⊢;rw[aS]at h2;injection h2 with c1 c2;rw[w8 (by rw[a2,c];decide),aS,aS,aB b c2,a1,c1]
     .rw[if_neg c]at b h2 ⊢;injection h2 with c1 c2;rw[wZ (by rw[a2];simpa using c),aB b c2]
abbrev uY (q:Pg×D):D:=.tup [enc q.1,q.2,dz q.1]
theorem Wo (g) (h:env[3]?=ae (ae<|.d<|enc g)):d2 af aF (dV 3) (dC<|.int 2) env B=.val (.d<|.int<|bY g) B:=by
 cases g<;>simp[h,enc,cU,bX,km,aF,bF,cA,bY]
theorem Sk (h1:g w env bx=ae (bb,bx1)) (h2:body bb bx1=.bk cG aq):eD g body (w::l) env bx=.nx cG aq:=by
 rw[eD,h1];simp[h2]
theorem Sl (h:a env bx=.bk bb bx1):fB a b env bx=.bk bb bx1:=by rw[mQ,h]

theorem Sn {K}(J:kq K R n) (hn:n<=100) (c:word ps K R g="takes") (t:rH g<=h) (x:D) :
 KS [x0,xN h,xB bx.length,ae<|.d<|enc g,ae<|.d x,ae<|.d<|dz g] (bx++[.az<|bz R])=.nx [x0,xN h,xB bx.length,ae<|.d<|enc g,ae<|.d x,ae<|.d<|dz g] (bx++[.az<|bz<|rG R g]):=by
 have lr:=J.lr;refine(fE<|(gV<|fT<|fQ (r:=.old<|.bl af) (TB g zj) zj (by simp[pz];lia)).trans zj).trans ?_;have b0:(bx++[Bx.az<|bz R])[bx.length]?=ae (.az<|bz R):=by simp
 have st:∀ L:Al,(bx++[Bx.az<|bz R]).set bx.length (.az<|bz L)=bx++[.az<|bz L]:=λL=>by simp
 cases g with
 |cz h' l k r p w=>
   have p2:=C4 (m:=dV 2) (v:=dV 5) (env:=[x0,xN h,xB bx.length,ae<|.d<|enc<|.cz h' l k r p w,ae<|.d x,ae<|.d<|dz<|.cz h' l k r p w]) zj zj (Wo (.cz h' l k r p w) zj) b0 zb;rw[st]at p2;show(gV zj).trans p2
 |to h' l r=>
   have p2:=C4 (L:=R) (m:=dV 2) (k:=d2 af aF (dV 3)<|dC<|.int 2) (v:=dV 5) (x:=r) (l:=l) (i:=bx.length) (B:=bx++[.az<|bz R]) (env:=[x0,xN h,xB bx.length,ae<|.d<|enc<|.to h' l r,ae<|.d x,ae<|.d<|dz<|.to h' l r]) zj zj (Wo (.to h' l r) zj) b0 zb;rw[st]at p2;show(gV (t:=dB<|Hb af<|dV 5) zj).trans p2
 |out h' l=>
   have p2:=Py (L:=R) (m:=dV 2) (k:=d2 af aF (dV 3)<|dC<|.int 2) (l:=l) (i:=bx.length) (B:=bx++[.az<|bz R]) (env:=[x0,xN h,xB bx.length,ae<|.d<|enc<|.out h' l,ae<|.d x,ae<|.d<|dz<|.out h' l]) zj (Wo (.out h' l) zj) b0<|C5 c;rw[st]at p2;show(jI (t:=dB<|Hb af<|dV 5) zj).trans p2
theorem Oz:∀ (gs) (K R) (n:Nat) (S:List<|Pg×D) (y3 y4 y5:Option W),abo gs->kq K R n->n+gs.length<=100->S.map (·.1)=taken ps K R gs ->
 ∃ z3 z4 z5,eD g3 KS ((S.map uY).map W.d) [x0,xN h,xB bx.length,y3,y4,y5] (bx++[.az<|bz R])=.nx [x0,xN h,xB bx.length,z3,z4,z5] (bx++[.az<|bz (pre h ps K R gs).2]):=by
 intro l_;induction l_ with
 |nil=>
   intro K R n S y3 y4 y5 _ _ _ e;have:=List.map_eq_nil_iff.mp e;subst this;show#[y3,y4,y5,rfl]
 |cons g gs aB=>
   intro K R n S y3 y4 y5 s J hn e;let#[s1,s2]:=List.pairwise_cons.mp s;rw[a6]at hn;by_cases c:word ps K R g="takes"
   .rw[show taken ps K R (g::gs)=g::taken ps (stK K g) (rG R g) gs from if_pos c]at e;cases S with
    |nil=>cases e
    |cons q S=>
      let#[q1,x]:=q;rw[aS]at e;injection e with e1 e2;have nN:=e1;subst nN;have g1:g3 (W.d<|uY (q1,x)) [x0,xN h,xB bx.length,y3,y4,y5] (bx++[.az<|bz R])=ae ([x0,xN h,xB bx.length,ae<|.d<|enc q1,ae<|.d x,ae<|.d<|dz q1],bx++[.az<|bz R]):=rfl;by_cases t:rH q1<=h
      .let#[z3,z4,z5,ih]:=aB (stK K q1) (rG R q1) (n+1) S (ae<|.d<|enc q1) (ae<|.d x) (ae<|.d<|dz q1) s2 (J.step c) zb e2;refine#[z3,z4,z5,?_];rw[aS,aS,BS g1<|Sn J zb c t x,ih,show pre h ps K R (q1::gs)=pre h ps (yB ps K R q1) (yC ps K R q1) gs from if_pos t,(B4 c).1,(B4 c).2]
      .have tt:dB (d2 af pz (d2 af aF (dV 3) zh)<|dV 1) [x0,xN h,xB bx.length,ae<|.d<|enc q1,ae<|.d x,ae<|.d<|dz q1] (bx++[.az<|bz R])=.val ag (bx++[.az<|bz R]):=
        fT (fQ (r:=.old<|.bl ag) (TB q1 zj) zj (by simp[pz];lia))
       refine#[ae<|.d<|enc q1,ae<|.d x,ae<|.d<|dz q1,?_];have bk:KS [x0,xN h,xB bx.length,ae<|.d<|enc q1,ae<|.d x,ae<|.d<|dz q1] (bx++[.az<|bz R])=.bk [x0,xN h,xB bx.length,ae<|.d<|enc q1,ae<|.d x,ae<|.d<|dz q1] (bx++[.az<|bz R]):=Sl<|(jI tt).trans zj;rw[aS,aS,Sk g1 bk,show pre h ps K R (q1::gs)=(K,R) from if_neg t]
   .rw[show taken ps K R (g::gs)=taken ps K R gs from if_neg c]at e;let#[z3,z4,z5,ih]:=aB K R n S y3 y4 y5 s2 J zb e;refine#[z3,z4,z5,ih.trans ?_];by_cases t:rH g<=h
    .rw[show pre h ps K R (g::gs)=pre h ps (yB ps K R g) (yC ps K R g) gs from if_pos t,(F8 c).1,(F8 c).2]
    .rw[show pre h ps K R (g::gs)=(K,R) from if_neg t,Mx λg' m=>by have:=s1 g' m;lia]
theorem TC (h:env[k]?=ae (xB i)) (hb:bx[i]?=ae (.az l)):tT k env bx=.val (.d<|.az l) (bx.set i .dead):=by
 unfold tT;simp[h,hb]

theorem OA {S:List _}(s:abo qs) (hl:qs.length<=16) (e:S.map (·.1)=taken ps [] [] qs) :
 iJ [.d<|.lst<|S.map uY,.d<|.int h] bx=.val (.d<|.az<|bz (pre h ps [] [] qs).2) bx:=by
 let#[z3,z4,z5,f]:=Oz qs [] [] 0 S ah ah ah s Wm zb e;have s1:fO (d7 ag []) (ff 2) [ae<|.d<|.lst<|S.map uY,xN h,ah,ah,ah,ah] bx=.nx [ae<|.d<|.lst<|S.map uY,xN h,xB bx.length,ah,ah,ah] (bx++[.az<|bz []]):=by
  have:d7 ag [] [ae<|.d<|.lst<|S.map uY,xN h,ah,ah,ah,ah] bx=.val (.b bx.length) (bx++[.az<|bz []]):=rfl;show im this
 have b:j8 [ae<|.d<|.lst<|S.map uY,xN h,ah,ah,ah,ah] bx=.rt (.d<|.az<|bz (pre h ps [] [] qs).2) ((bx++[Bx.az<|bz (pre h ps [] [] qs).2]).set bx.length .dead):=
  (fE s1).trans ((fE<|(mn<|iD zj).trans f).trans<|gz<|TC zj zg)
 refine(lc b).trans ?_;simp
theorem afV:∀ (T:List _) (w0 w1 w2 w3) (acc),acc.length+T.length<=1000 ->
 bw g4 (dB<|d2 af aZ (dV 1)<|dC<|.str "takes") (fL<|fc (dV 0)<|fc (dV 2)<|fc (dV 3) fe) ((T.map tq).map W.d) [w0,w1,w2,w3] B acc=.val (acc++(T.filter λx=>decide (x.2.1=("takes":Str))).map λx=>.tup [enc x.1,x.2.2.1,x.2.2.2]) B:=by
 intro l_;induction l_ with
 |nil=>(intro _ _ _ _ acc _;simp[bw])
 |cons x T aB=>
   intro w0 w1 w2 w3 acc hl;have z:sizeLine=16777216:=bB;rw[a6]at hl;have e0:g4 (W.d<|tq x) [w0,w1,w2,w3] B=ae ([ae<|.d<|enc x.1,ae<|.d<|.str x.2.1,ae<|.d x.2.2.1,ae<|.d x.2.2.2],B):=rfl;have t:dB (d2 af aZ (dV 1)<|dC<|.str "takes") [ae<|.d<|enc x.1,ae<|.d<|.str x.2.1,ae<|.d x.2.2.1,ae<|.d x.2.2.2] B=.val (decide (x.2.1="takes")) B:=fT<|fQ zj zj<|eq_str _ _;have e1:fL (fc (dV 0)<|fc (dV 2)<|fc (dV 3) fe) [ae<|.d<|enc x.1,ae<|.d<|.str x.2.1,ae<|.d x.2.2.1,ae<|.d x.2.2.2] B=.val (.d<|.tup [enc x.1,x.2.2.1,x.2.2.2]) B:=gN [enc x.1,x.2.2.1,x.2.2.2] zj (by simp;lia);by_cases c:x.2.1=("takes")
   .have ih:=aB (ae<|.d<|enc x.1) (ae<|.d<|.str x.2.1) (ae<|.d x.2.2.1) (ae<|.d x.2.2.2) (acc++[.tup [enc x.1,x.2.2.1,x.2.2.2]]) (by simp;lia);rw[decide_eq_true c]at t;erw[aS,bw,e0,t,mP,e1];rw[if_pos zb,ih,w8 (by simpa using c)];simp
   .have ih:=aB (ae<|.d<|enc x.1) (ae<|.d<|.str x.2.1) (ae<|.d x.2.2.1) (ae<|.d x.2.2.2) acc zb;rw[decide_eq_false c]at t;erw[aS,bw,e0,t,mP];rw[ih,wZ (by simpa using c)]
theorem OB (H:Hs rs ks ps hd) {gs:List Pg}(hl:qs.length<=16) (so:dG [.lst<|gs.map enc]=ae (.lst<|qs.map enc)) :
 ∃ S:List (Pg×D),iV [.d za,.d<|.lst<|gs.map enc] bx=.val (.d<|.lst<|S.map uY) bx /\ S.map (·.1)=taken ps [] [] qs:=by
 let#[T',e,z,z2]:=Mq H hl so;have tl:T'.length<=16:=by
  have:=congrArg List.length z;rw[aX,QZ]at this
  lia
 have c:=afV (B:=bx) T' ah ah ah ah [] (by simp;lia);have tk:=My z z2;generalize hF:(T'.filter λx=>decide (x.2.1=("takes":Str)))=F at c tk;refine#[F.map λx=>(x.1,x.2.2.1),gi<|gz<|iS (iD<|fM zj zj e) zj<|c.trans ?_,?_]
 .rw[vv,cx];congr 1;refine vq λx m=>?_;have:(x.1,x.2.2.2)∈(taken ps [] [] qs).map λg=>(g,dz g):=by rw[<-tk];show bc.mpr #[x,m,rfl]
  let#[g,_,eg]:=bc.mp this;let#[e1,e2]:=Prod.mk.inj eg;change D.tup [enc x.1,x.2.2.1,x.2.2.2]=D.tup [enc x.1,x.2.2.1,dz x.1];rw[<-e2,e1]
 .have:=congrArg (List.map (·.1)) tk;rw[cx,cx]at this;rw[cx];show this.trans (Yx _)
end kJ
namespace ub
open L2 L2.DL K1 K2 pC bU aJ kJ
theorem TD (i j):minD [.int i,.int j]=ae (.old<|.int<|min i j):=by
 change ae _=_;congr 3;split<;>lia
end ub
namespace kJ
open L2 L2.DL K1 pC bU aJ
theorem lH (h:m env B=.val [x,y] B1):dJ i j m env B=.nx ((env.set i<|ae x).set j<|ae y) B1:=by
 unfold dJ;rw[h,iM]
end kJ
namespace ub
open L2 L2.DL K1 K2 pC bU aJ kJ

theorem So (h:m env B=.val (.d<|.bl ag) B1):EE m k env B=.val (.d<|.bl ag) B1:=by rw[LF,h];rfl
theorem Sq (h:m env B=.val (.d<|.bl af) B1) (h2:k env B1=r):EE m k env B=r:=by rw[LF,h];show h2
end ub
namespace K13
open L2 L2.DL K1 K2 pC bU aJ ub
theorem mC:(bj nr nk<|.str x).length=if x="in" then 5 else if x="out" then 1 else if x="to" then 2 else 0:=by
 unfold bj;dsimp only;split
 .rfl
 .split
  .rfl
  .split<;>rfl
theorem Sr (h:xX b=af):bj nr nk b=[]:=by
 cases b<;>first|rfl|cases h
noncomputable abbrev d3:List (Key×D):=[(.inl 3,.str "out"),(.inl 4,.str "to"),(.inl 7,.str "in")]

theorem Ga (d):K13.uU [.d za,.d d] bx=.val (.d<|.bl<|cP rs.length ks.length d) bx:=by
 obtain⟨E,hE⟩:∃ E:bu,E=[ae<|.d za,ae<|.d d]:=#[_,rfl];have e0:E[0]?=ae (ae<|.d za):=by rw[hE];rfl
 have e1:E[1]?=ae (ae<|.d d):=by rw[hE];rfl
 have fin:∀ {b:Bool}{B:List Bx},jg E bx=.rt (.d<|.bl b) B->B.take bx.length=bx->b=cP rs.length ks.length d->K13.uU [.d za,.d d] bx=.val (.d<|.bl<|cP rs.length ks.length d) bx:=λ{b B} h hB hb=>by
  rw[<-hb];rw[hE]at h;have:=lc (n:=2) (ws:=[.d za,.d d]) h;rw[hB]at this;show this
 have no:∀ {b:Bool},jg E bx=.rt (.d<|.bl b) bx->b=cP rs.length ks.length d->K13.uU [.d za,.d d] bx=.val (.d<|.bl<|cP rs.length ks.length d) bx:=λh=>fin h<|rQ ..;cases d<;>try show no (b:=af) (qR (lG<|fY (b:=af)<|fT (by unfold gJ;rw[iI,e1];rfl)) zj) zj
 ext l;have ti:cE (dB<|gJ "tuple"<|dV 1) E bx=.val af bx:=fY (b:=ag)<|fT (by unfold gJ;rw[iI,e1];rfl);have ln:∀ {B:List Bx},dN af aQ zm E B=.val (.d<|.int l.length) B:=ig (r:=.old<|.int l.length) [.tup l] (fj (by rw[iI,e1]) zj) zj;have at_:∀ {B:List Bx}{x:D}(j:Nat),l[j]?=ae x->d2 af aF (dV 1) (dC<|.int (j:Nat)) E B=.val (.d x) B:=λj h=>fQ (x:=.tup l) (y:=.int (j:Nat)) (r:=.old _) (by rw[iI,e1]) zj<|Jb j h;have three:fL (fc (dC<|.int 3)<|fc (dC<|.int 4)<|fc (dC<|.int 7) fe) E bx=.val (.d<|.tup [.int 3,.int 4,.int 7]) bx:=gN [.int 3,.int 4,.int 7] zj (by have:=bB;simp;lia);have ni:∀ {c:Bool},(!decide ((l.length:Int)∈[(3:Int),4,7]))=c->dB (d2 af (inD ag) (dN af aQ zm)<|fL<|fc (dC<|.int 3)<|fc (dC<|.int 4)<|fc (dC<|.int 7) fe) E bx=.val c bx:=λ{c} h=>fT<|fQ (x:=.int l.length) (y:=.tup [.int 3,.int 4,.int 7]) (r:=.old<|.bl c) ln three (by rw[<-h];show Om ag [3,4,7] l.length);have wt:∀ {B:List Bx}{x:D}{m:DE W}{hi:Int}(j:Nat),l[j]?=ae x->m E B=.val (.d<|.int hi) B->fq K1.gm 3 (fc (d2 af aF (dV 1)<|dC<|.int (j:Nat))<|fc zh<|fc m fe) E B=.val (.d<|.bl<|wi x 0 hi) B:=λ{B x m hi} j h hm=>fM (l:=[.d x,.d<|.int 0,.d<|.int hi]) (fj (at_ j h)<|fj (m:=dC<|.int 0) zj<|fj hm zj) zj<|DO x 0 hi B;have nr:∀ {B:List Bx},d2 af dE (dN af aQ<|fc (d2 af aF (dV 0) zh) fe) ze E B=.val (.d<|.int<|(rs.length:Int)-1) B:=fQ (x:=.int rs.length) (y:=.int 1) (r:=.old<|.int<|(rs.length:Int)-1) (ig (r:=.old<|.int rs.length) [.tup rs] (fj (fQ (x:=hs rs ks ps hd) (y:=.int 0) (r:=.old<|.tup rs) (by rw[iI,e0]) zj<|Jb 0 zj) zj) zj) zj zj;have nk:∀ {B:List Bx},d2 af dE (dN af aQ<|fc (d2 af aF (dV 0) ze) fe) ze E B=.val (.d<|.int<|(ks.length:Int)-1) B:=fQ (x:=.int ks.length) (y:=.int 1) (r:=.old<|.int<|(ks.length:Int)-1) (ig (r:=.old<|.int ks.length) [.tup ks] (fj (fQ (x:=hs rs ks ps hd) (y:=.int 1) (r:=.old<|.tup ks) (by rw[iI,e0]) zj<|Jb 1 zj) zj) zj) zj zj;have uZ:∀ {B:List Bx}{c:Bool}(j:Nat),decide ((l.length:Int)=(j:Nat))=c->d2 af aZ (dN af aQ zm) (dC<|.int (j:Nat)) E B=.val (.d<|.bl c) B:=λ{B c} j h=>fQ (x:=.int l.length) (y:=.int (j:Nat)) (r:=.old<|.bl c) ln zj (by rw[<-h];rfl);have sP:∀ {a b:D}{r:List D},l=a::b::r->cP rs.length ks.length (.tup l)=(hr a&&(decide ((bj rs.length ks.length b).length=r.length /\ 1<=r.length)&&(r.zip<|bj rs.length ks.length b).all λq=>wi q.1 0 q.2)):=λh=>by rw[h];rfl
 have ci:((l.length:Int)∈[(3:Int),4,7]) ↔ (l.length=3 \/ l.length=4 \/ l.length=7):=by erw[a9,pM,or_false];lia
 by_cases c:l.length=3 \/ l.length=4 \/ l.length=7
 case neg=>
  refine no (b:=af) (qR (gM ti<|lG<|ni (by rw[decide_eq_false λz=>c<|ci.mp z];rfl)) zj) ?_;rcases l with _|⟨a,_|⟨b,r⟩⟩<;>try rfl
  rw[sP rfl,decide_eq_false,pG,vm];rintro⟨h1,h2⟩;have:(bj rs.length ks.length b).length=0 \/ (bj rs.length ks.length b).length=1 \/ (bj rs.length ks.length b).length=2 \/ (bj rs.length ks.length b).length=5:=by
   cases b with
   |str x=>rw[mC];split<;>(try split)<;>(try split)<;>decide
   |_=>show .inl zj
  rw[a6,a6]at c
  lia
 have c3:3<=l.length:=by lia
 obtain⟨a,b,x,r,hl⟩:∃ a b x r,l=a::b::x::r:=by
  rcases l with _|⟨a,_|⟨b,_|⟨x,r⟩⟩⟩<;>simp at c3;show#[a,b,x,r,rfl]
 have n1:=ni (c:=af) (by rw[decide_eq_true<|ci.mpr c];rfl);have ha:l[0]?=ae a:=by rw[hl];rfl
 have hb:l[1]?=ae b:=by rw[hl];rfl
 have hx:l[2]?=ae x:=by rw[hl];rfl
 have hv:=L8 a bx;have K5:dB (fq K2.ic 1<|fc (d2 af aF (dV 1) zh) fe) E bx=.val (hr a) bx:=fT<|fM (l:=[.d a]) (fj (at_ 0 ha) zj) zj hv;cases q1:hr a with
 |false=>
   rw[q1]at K5;show no (b:=af) (qR (gM ti<|gM n1<|fY K5) zj) (by rw[sP hl,q1,pG])
 |true=>
 rw[q1]at K5;have s1:=gM ti<|gM n1<|fY K5;have iv:dB (gJ "str"<|d2 af aF (dV 1) ze) E bx=.val (xX b) bx:=fT (by unfold gJ;rw[show d2 af aF (dV 1) ze E bx=.val (.d b) bx from at_ 1 hb];cases b<;>rfl);cases q2:xX b with
 |false=>
   rw[q2]at iv;show no (b:=af) (qF s1<|qR (lG<|fY iv) zj) (by rw[sP hl,Sr q2,decide_eq_false (λz=>by have:=z.1;have:=z.2;simp at *),pG,vm])
 |true=>
 rw[q2]at iv;obtain⟨y,rfl⟩:∃ y,b=.str y:=by
  cases b<;>first|show#[_,rfl]|cases q2
 have w2:=wt (B:=bx) (m:=dC<|.int 9) 2 hx zj;have K6:decide ((bj rs.length ks.length<|.str y).length=(x::r).length /\ 1<=(x::r).length)=ag->((x::r).zip<|bj rs.length ks.length<|.str y).all (λq=>wi q.1 0 q.2)=(wi x 0 9&&(r.zip (bj rs.length ks.length<|.str y).tail).all λq=>wi q.1 0 q.2):=λh=>by
  rw[decide_eq_true_eq,mC]at h;unfold bj;dsimp only;split
  .rfl
  .split
   .rfl
   .split
    .rfl
    .ext z1 z2 z3;rw[if_neg z1,if_neg z2,if_neg z3]at h;have:=h.1;simp at this
 cases q3:wi x 0 9 with
 |false=>
   rw[q3]at w2;refine no (b:=af) (qF s1<|qR (gM (fY iv)<|fY<|fT w2) zj) ?_;rw[sP hl];cases q:decide ((bj rs.length ks.length<|.str y).length=(x::r).length /\ 1<=(x::r).length) with
   |false=>rw[pG,vm]
   |true=>rw[K6 q,q3];simp
 |true=>
 rw[q3]at w2;have s2:=gM (fY iv)<|fY<|fT w2;have tk:(bx++[Bx.az d3]).take bx.length=bx:=by simp
 have s3:∀ (wd:Str),kH d3 (.inl (l.length:Int))=ae (.str wd)->dB (d2 af cR (kY (d7 ag d3)<|dN af aQ zm)<|d2 af aF (dV 1) ze) E bx=.val (!decide (wd=y)) (bx++[.az d3]):=λwd h=>by
  refine fT<|fQ (x:=.str wd) (y:=.str y) (r:=.old<|.bl<|!decide (wd=y)) ?_ (at_ 1 hb)<|ne_str _ _;unfold kY;have:d7 ag d3 E bx=.val (.b bx.length) (bx++[.az d3]):=rfl;rw[this,fX,ln,fX];have e:(bx++[Bx.az d3])[bx.length]?=ae (.az d3):=by simp
  erw[p9,e];simp[qx,h]
 have rl:l.length=r.length+3:=by rw[hl];rfl
 rcases c with c|c|c
 .obtain rfl:r=[]:=List.length_eq_zero_iff.mp zb;have h3:=s3 "out" (by rw[c];rfl);by_cases ey:y="out"
  .subst ey;refine fin (b:=ag) (B:=bx++[.az d3]) (qF s1<|qF s2<|qF h3<|qF (fT<|uZ 4 (by rw[c];rfl))<|qF (lO<|fT<|uZ 7 (by rw[c];rfl))<|qF (lO<|fT<|uZ 7 (by rw[c];rfl))<|gz<|So<|uZ 3 (by rw[c];rfl)) tk ?_;rw[sP hl,q1,K6 rfl,q3];rfl
  .rw[decide_eq_false λz=>ey z.symm]at h3;refine fin (b:=af) (B:=bx++[.az d3]) (qF s1<|qF s2<|qR h3 zj) tk ?_;rw[sP hl,decide_eq_false,pG,vm];rw[mC,if_neg ey];intro z;have:=z.1;split at this
   .cases this
   .split at this<;>cases this
 .obtain⟨u,rfl⟩:∃ u,r=[u]:=List.length_eq_one_iff.mp zb;have h3:=s3 "to" (by rw[c];rfl);by_cases ey:y="to"
  .subst ey;refine fin (b:=wi u 0<|(rs.length:Int)-1) (B:=bx++[.az d3]) (qF s1<|qF s2<|qF h3<|qR (fT<|uZ 4 (by rw[c];rfl))<|wt 3 (by rw[hl];rfl) nr) tk ?_;rw[sP hl,q1,K6 rfl,q3];simp[bj,C0,Mf]
  .rw[decide_eq_false λz=>ey z.symm]at h3;refine fin (b:=af) (B:=bx++[.az d3]) (qF s1<|qF s2<|qR h3 zj) tk ?_;rw[sP hl,decide_eq_false,pG,vm];rw[mC,if_neg ey];intro z;have:=z.1;split at this
   .cases this
   .split at this<;>cases this
 .obtain⟨k,p,q,w,rfl⟩:∃ k p q w,r=[k,p,q,w]:=by
   rcases r with _|⟨k,_|⟨p,_|⟨q,_|⟨w,_|_⟩⟩⟩⟩<;>simp at rl c<;>first|lia|show#[_,_,_,_,rfl]
  have h3:=s3 "in" (by rw[c];rfl);by_cases ey:y="in"
  .subst ey;have vk:=wt (B:=bx++[.az d3]) (x:=k) 3 (by rw[hl];rfl) nk;have vr:=wt (B:=bx++[.az d3]) (x:=p) 4 (by rw[hl];rfl) nr;have v5:=wt (B:=bx++[.az d3]) (x:=q) (m:=dC<|.int 999) (hi:=999) 5 (by rw[hl];rfl) zj;have v6:=wt (B:=bx++[.az d3]) (x:=w) (m:=dC<|.int 99) (hi:=99) 6 (by rw[hl];rfl) zj;have pe:cP rs.length ks.length (.tup l)=(wi k 0 ((ks.length:Int)-1)&&(wi p 0 ((rs.length:Int)-1)&&(wi q 0 999&&wi w 0 99))):=by
    rw[sP hl,q1,K6 rfl,q3];simp[bj]
   have four:=fT<|uZ (B:=bx++[.az d3]) (c:=af) 4 (by rw[c];rfl);have Hw:=fT<|uZ (B:=bx++[.az d3]) (c:=ag) 7 (by rw[c];rfl);rw[pe]at fin ⊢;cases k1:wi k 0 ((ks.length:Int)-1) with
   |false=>
     rw[k1]at vk fin;show fin (B:=bx++[.az d3]) (qF s1<|qF s2<|qF h3<|qF four<|qR (jh Hw<|fY<|fT vk) zj) tk zj
   |true=>
   rw[k1]at vk fin;cases k2:wi p 0 ((rs.length:Int)-1) with
   |false=>
     rw[k2]at vr fin;show fin (B:=bx++[.az d3]) (qF s1<|qF s2<|qF h3<|qF four<|qF (jh Hw<|fY<|fT vk)<|qR (jh Hw<|fY<|fT vr) zj) tk zj
   |true=>
   rw[k2]at vr fin;refine fin (b:=wi q 0 999&&wi w 0 99) (B:=bx++[.az d3]) (qF s1<|qF s2<|qF h3<|qF four<|qF (jh Hw<|fY<|fT vk)<|qF (jh Hw<|fY<|fT vr)<|gz<|Sq (uZ 3 (by rw[c];rfl)) ?_) tk zj;refine(oM v5).trans ?_;cases wi q 0 999 with
   |false=>rfl
   |true=>show v6
  .rw[decide_eq_false λz=>ey z.symm]at h3;refine fin (b:=af) (B:=bx++[.az d3]) (qF s1<|qF s2<|qR h3 zj) tk ?_;rw[sP hl,decide_eq_false,pG,vm];rw[mC,if_neg ey];intro z;have:=z.1;split at this
   .cases this
   .split at this<;>cases this
end K13
namespace HT
section
variable {K:Type} [DecidableEq K] {f:Nat -> List K}
theorem TF:dk f (i+1)=if f i∈dk f i then dk f i else dk f i++[f i]:=rfl
theorem Mz:∀ {i},k∈dk f i ↔ ∃ j,j<i /\ f j=k:=by
 intro l_;induction l_ with
 |zero=>show#[λm=>(nomatch m),λ⟨_,z,_⟩=>absurd z<|vj _]
 |succ i aB=>
   have st:(∃ j,j<i+1 /\ f j=k) ↔ (∃ j,j<i /\ f j=k) \/ f i=k:=by
    constructor
    .rintro⟨j,hj,e⟩;by_cases z:j<i
     .show .inl #[j,z,e]
     .obtain rfl:j=i:=by lia
      show .inr e
    .rintro(⟨j,hj,e⟩|e)
     .show#[j,by lia,e]
     .show#[i,by lia,e]
   rw[st,<-aB,TF];split
   .ext m;show#[.inl,λz=>z.elim id λe=>e▸m]
   .rw[d8,hV];show#[λz=>z.imp id Eq.symm,λz=>z.imp id Eq.symm]
theorem MA:∀ {i},(dk f i).length=i ↔ ∀ a b,a<b->b<i->f a≠f b:=by
 intro l_;induction l_ with
 |zero=>show#[λ_ a b _ z=>absurd z<|vj _,λ_=>rfl]
 |succ i aB=>
   have ih:=aB;have le:=Fy f i;rw[TF];split
   .ext m;let#[j,hj,e]:=Mz.mp m;show#[λz=>by lia,λz=>absurd e<|z j i hj<|qi i]
   .ext m;rw[bH,yT];constructor
    .intro z a b ab bi;by_cases q:b<i
     .show ih.mp zb a b ab q
     .obtain rfl:b=i:=by lia
      show λe=>m<|Mz.mpr #[a,ab,e]
    .intro z;rw[ih.mpr λa b ab bi=>z a b ab zb]
end
end HT
namespace K13
open L2 L2.DL K1 K2 pC bU aJ ub
open HT (jm ir a7 lm MA)
theorem TH {nr nk:Nat}:∀ {l},(l.all<|cP nr nk)=ag->∃ gs:List Pg,l=gs.map enc /\ ∀ g∈gs,uW nr nk g:=by
 intro l_;induction l_ with
 |nil=>show λ_=>#[[],rfl,λg m=>(nomatch m)]
 |cons d l aB=>
   intro h;rw[nG,aH]at h;let#[g,rfl,o]:=Pt h.1;let#[gs,rfl,os]:=aB h.2;show#[g::gs,rfl,λx m=>(a9.mp m).elim (λe=>e▸o)<|os x]
def cd (qs:List Pg) (i:Nat):List Int:=a7<|(qs.map bX).getD i []
theorem Bn (h:i<qs.length):cd qs i=a7 (bX qs[i]):=by simp[cd,h]
theorem Pz (h:∀ i,i<qs.length-1->HT.lexLt (cd qs i) (cd qs<|i+1)=ag):∀ d i,i+d+1<qs.length->HT.lexLt (cd qs i) (cd qs<|i+d+1)=ag
 |0,i,z=>h i zb
 |d+1,i,z=>jm _ _ _ (Pz h d i zb)<|h _ zb
theorem Ss (r:Wg qs) (i) (h:i<qs.length-1):HT.lexLt (cd qs i) (cd qs<|i+1)=ag:=by
 rw[Bn zb,Bn zb,lm _ _<|lz _ _];show List.pairwise_iff_getElem.mp r i _ zb zb zb

theorem TJ (qs) (hl:qs.length<=16):K1.g6 [.d<|.lst<|qs.map enc] bx=.val (.d<|.bl<|(List.range<|qs.length-1).all λi=>HT.lexLt (cd qs i)<|cd qs<|i+1) bx:=by
 have z:sizeLine=16777216:=bB;refine gi<|gz ?_;have rg:vU (fc ze<|fc (dN af aQ<|fc (dV 0) fe) fe) [ae<|.d<|.lst<|qs.map enc] bx=.val (((List.range<|qs.length-1).map λ(i:Nat)=>D.int<|1+(i)).map W.d) bx:=by
  rw[LO (i:=1) (j:=(qs.length)) (bx1:=bx) (by simp[aQ]),show ((qs.length:Int)-1).toNat=qs.length-1 by lia,cx];rfl
 refine Wj (enc:=λ(i:Nat)=>D.int<|1+(i:Int)) (r:=[ae<|.d<|.lst<|qs.map enc]) (te:=d2 af kZ (d2 af aF (dV 1)<|d2 af dE (dV 0) ze)<|d2 af aF (dV 1)<|dV 0) (src:=[ah,ae 0]) (λi=>HT.lexLt (cd qs i)<|cd qs<|i+1) rg zj (by simp;lia) λi m=>?_;have hi:=List.mem_range.mp m;have e1:qs[i]?=ae qs[i]:=cW zb;have e2:qs[i+1]?=ae qs[i+1]:=cW zb;have lt:=RX qs[i] qs[i+1];rw[<-lm _ _ (lz _ _),<-Bn,<-Bn]at lt;refine fQ (r:=.old<|.bl _) (x:=enc qs[i]) (y:=enc qs[i+1]) (fQ (r:=.old<|enc qs[i]) (x:=.lst<|qs.map enc) (y:=.int (i:Int)) zj (fQ (r:=.old<|.int (i:Int)) (x:=.int<|1+(i:Int)) (y:=.int 1) zj zj ?_) ?_) (fQ (r:=.old<|enc qs[i+1]) (x:=.lst<|qs.map enc) (y:=.int<|1+(i:Int)) zj zj ?_) lt
 .simp[dE];lia
 .simp[aF,Tt e1]
 .have:=Tt e2;rw[show ((i+1:Nat):Int)=1+(i:Int) by lia]at this;simp[aF,this]
theorem OC:∀ gs:List Pg,tY (gs.map enc)=ae (gs.map aJ.cH):=by
 intro l_;induction l_ with
 |nil=>show rfl
 |cons g gs aB=>
   let#[l,e,k]:=C6 g;rw[aS,e];unfold tY;rw[k,aB];rfl
theorem mD (hl:gs.length<=16):∃ qs,qs.Perm gs /\ dG [.lst<|gs.map enc]=ae (.lst<|qs.map enc) /\ (gs.Nodup->Wg qs):=by
 let#[qs,e,p]:=KC (i0 _) zj;refine#[qs,p,?_,λnd=>RW (p.nodup_iff.mpr nd) (by rw[<-e];show jd _)];cases gs with
 |nil=>
   have:=List.length_eq_zero_iff.mp p.length_eq;subst this;simp[dG,tO,intsOf,sortI]
 |cons g gs=>rw[LV zb,e,cx];rfl
theorem TL (d):∃ b,aJ.gn [.d za,.d d] bx=.val (.d<|.bl b) bx /\ K13.sM [.d za,.d d] bx=.val (.d<|.bl b) bx /\ (b=ag->∃ gs,d=.lst (gs.map enc) /\ Gs rs.length ks.length gs):=by
 obtain⟨E,hE⟩:∃ E:bu,E=[ae<|.d za,ae<|.d d]:=#[_,rfl];have e0:E[0]?=ae (ae<|.d za):=by rw[hE];rfl
 have e1:E[1]?=ae (ae<|.d d):=by rw[hE];rfl
 have f1:∀ {b:Bool},om E bx=.rt (.d<|.bl b) bx->aJ.gn [.d za,.d d] bx=.val (.d<|.bl b) bx:=λh=>gi (by rw[hE]at h;show h);have f2:∀ {b:Bool},jN E bx=.rt (.d<|.bl b) bx->K13.sM [.d za,.d d] bx=.val (.d<|.bl b) bx:=λh=>gi (by rw[hE]at h;show h);have no:sr (pW d) "list"=af->∃ b,aJ.gn [.d za,.d d] bx=.val (.d<|.bl b) bx /\ K13.sM [.d za,.d d] bx=.val (.d<|.bl b) bx /\ (b=ag->∃ gs,d=.lst (gs.map enc) /\ Gs rs.length ks.length gs):=λh=>
  have i:cE (dB<|gJ "list"<|dV 1) E bx=.val ag bx:=fY (b:=af)<|fT (by unfold gJ;rw[iI,e1,<-h];rfl)
  #[af,f1<|qR (lG i) zj,f2<|qR (lG i) zj,λz=>(nomatch z)]
 cases d<;>try show no zj
 ext l;have i:cE (dB<|gJ "list"<|dV 1) E bx=.val af bx:=fY (b:=ag)<|fT (by unfold gJ;rw[iI,e1];rfl);have ln:dN af aQ zm E bx=.val (.d<|.int l.length) bx:=ig (r:=.old<|.int l.length) [.lst l] (fj (by rw[iI,e1]) zj) zj;have gt:∀ {c:Bool},decide ((16)<(l.length:Int))=c->dB (d2 af pz (dN af aQ zm)<|dC<|.int 16) E bx=.val c bx:=λh=>fT<|fQ (r:=.old<|.bl _) ln zj (by rw[<-h];simp[pz]);have z:sizeLine=16777216:=bB;by_cases hl:l.length<=16
 case neg=>
  have g:=gt<|decide_eq_true zb;show#[af,f1<|qR (gM i g) zj,f2<|qR (gM i<|lG g) zj,λz=>(nomatch z)]
 have g:=gt<|decide_eq_false zb;have al:∀ {fn:List W->List Bx->O W},(∀ x,fn [.d za,.d x] bx=.val (.d<|.bl<|cP rs.length ks.length x) bx)->dN af dZ (fc (gc af [ah,ae 0] (bS<|dV 1) (ff 0) ge<|fq fn 2<|fc (dV 1)<|fc (dV 0) fe) fe) E bx=.val (.d<|.bl<|l.all<|cP rs.length ks.length) bx:=λhf=>
  Wj _ (by rw[Yx];show iD (by rw[iI,e1])) (by rw[hE];rfl) zb λx m=>fM zj zj<|hf x
 have a1:=al λx=>Mg x;have a2:=al λx=>Ga x;cases q:l.all (cP rs.length ks.length) with
 |false=>
   rw[q]at a1 a2;show#[af,f1<|qF (gM i g)<|gz<|oM a1,f2<|qR (gM i<|gM g<|fY<|fT a2) zj,λz=>(nomatch z)]
 |true=>
 rw[q]at a1 a2;let#[gs,rfl,ok]:=TH q;rw[aX]at hl;let#[qs,p,so,ri]:=mD hl;have ql:=p.length_eq;have rb:=TJ (bx:=bx) qs zb;have ex:∀ {b:Bool},(b=ag ↔ gs.Nodup)->((List.range<|qs.length-1).all λi=>HT.lexLt (cd qs i)<|cd qs<|i+1)=b:=λ{b} h=>by
  rw[qj,h,cg]
  show#[λz=>p.nodup_iff.mp<|(λh=>List.pairwise_iff_getElem.mpr λi j hi hj ij e=>by
   have:=Pz h (j-i-1) i zb;rw[show i+(j-i-1)+1=j by lia,Bn hi,Bn hj,e,ir]at this;cases this) λi m=>z i<|List.mem_range.mpr m,λz i m=>Ss (ri z) i<|List.mem_range.mp m]
 have dl:∀ {b:Bool},(b=ag ↔ gs.Nodup)->decide (((HT.dk (λi=>(gs.map aJ.cH).getD i []) (gs.map aJ.cH).length).length:Int)=(gs.map enc).length)=b:=λ{b} h=>by
  rw[qj,h,decide_eq_true_eq,aX,aX];have:=MA (f:=λi=>(gs.map aJ.cH).getD i []) (i:=gs.length);constructor
  .intro z;have d:=this.mp zb;show List.pairwise_iff_getElem.mpr λi j hi hj ij e=>d i j ij hj (by simp[hi,hj,e])
  .intro z;have:=this.mpr λi j ij hj e=>by
    have hi:i<gs.length:=by lia
    simp[hi,hj]at e;show List.pairwise_iff_getElem.mp z i j hi hj ij<|C7 e
   lia
 have fin:∀ b:Bool,(b=ag ↔ gs.Nodup)->∃ b,aJ.gn [.d za,.d<|.lst<|gs.map enc] bx=.val (.d<|.bl b) bx /\ K13.sM [.d za,.d<|.lst<|gs.map enc] bx=.val (.d<|.bl b) bx /\ (b=ag->∃ g2,D.lst (gs.map enc)=.lst (g2.map enc) /\ Gs rs.length ks.length g2):=λb h=>by
  rw[ex h]at rb;have s:=ig (r:=.old<|.int (HT.dk (λi=>(gs.map aJ.cH).getD i []) (gs.map aJ.cH).length).length) (g:=He) (env:=E) (bx:=bx) [.lst<|gs.map enc] (fj (m:=dV 1) (ks:=fe) (by rw[iI,e1]) zj) (by change (tY<|gs.map enc).bind _=_;rw[OC,bJ,if_pos (by rw[aX];lia)]);refine#[b,f1<|qF (gM i g)<|gz ?_,f2<|qF (gM i<|gM g<|fY<|fT a2)<|gz<|fQ (r:=.old<|.bl b) s ln<|congrArg (λc=>ae<|Res.old<|.bl c)<|dl h,λz=>#[gs,rfl,ok,h.mp z,hl]];rw[oM a1,if_pos rfl];show fM (l:=[.d<|.lst<|qs.map enc]) (fj (ig (r:=.lst<|qs.map enc) [.lst<|gs.map enc] (fj (by rw[iI,e1]) zj) so) zj) zj rb
 by_cases nd:gs.Nodup
 .show fin ag #[λ_=>nd,λ_=>rfl]
 .show fin af #[λz=>(nomatch z),λz=>absurd z nd]
end K13
namespace abp
open L2 L2.DL
noncomputable section
end
end abp
namespace Hy
open L2 L2.DL
noncomputable section
end
open K1 K2 pC bU aJ kJ ub abp
theorem OD:∀ {gs}{K R}{n},kq K R n->∃ m,kq (pre h ps K R gs).1 (pre h ps K R gs).2 m /\ m<=n+gs.length:=by
 intro l_;induction l_ with
 |nil=>(intro K R n J;show#[n,J,aA _])
 |cons g gs aB=>
   intro K R n J;unfold pre;split
   .let#[m,j,l]:=aB<|J.nx g;show#[m,j,by rw[a6];lia]
   .show#[n,J,rL _ _]

theorem Bo:∀ R,yq (bz R)=ae R
 |[]=>rfl
 | (a,b)::R=>by
   change (yq<|bz R).map _=_;rw[Bo R];rfl
theorem MB (h:m env B=.val (.d<|.az<|bz R) B) (l:R.length<64):Hf af m env B=.val (.d<|.lst<|(nS<|R.map λp=>[HT.aO.i p.1,.i p.2]).map cU) B:=by
 unfold Hf;rw[h,fX];have:(p9 B<|.d<|.az _).bind yq=ae R:=(Bo R);erw[this];rw[if_pos l];rfl
end Hy
namespace K13
open L2 L2.DL K1 K2 pC bU aJ kJ ub

theorem OE (H:Hs rs ks ps hd) (h:aJ.gn [.d za,.d d] bx=.val (.d<|.bl af) bx):K13.Hj [.d za,.d d] bx=.exc 4 bx:=
 AF (qE (cV<|aJ.jK H)<|(jI<|fY<|fT<|cV h).trans<|BX zj)
theorem Gb (H:Hs rs ks ps hd) (h:aJ.gn [.d za,.d d] bx=.val (.d<|.bl ag) bx):K13.Hj [.d za,.d d] bx=.val (.d .non) bx:=
 L9 (qE (cV<|aJ.jK H)<|(gV<|fY<|fT<|cV h))
theorem Su (H:Hs rs ks ps hd) (G:Gs rs.length ks.length gs) (h:aJ.gn [.d za,.d<|.lst<|gs.map enc] bx=.val (.d<|.bl ag) bx):∃ x,K13.Wb [.d za,.d<|.lst<|gs.map enc] bx=.val (.d x) bx:=by
 have gl:=G.l;let#[qs,p,so,_]:=mD gl;have ql:=p.length_eq;let#[T',e,z,_]:=aJ.Mq H zb so;have tl:T'.length<=16:=by
  have:=congrArg List.length z;rw[aX,QZ]at this
  lia
 show#[_,Pq<|qE (cV<|Gb H h)<|gz<|iS (iD<|cV e) zj<|afS T' ah ah ah ah [] (by simp;lia)]
theorem Sv (H:Hs rs ks ps hd) (G:Gs rs.length ks.length gs) (h:aJ.gn [.d za,.d<|.lst<|gs.map enc] bx=.val (.d<|.bl ag) bx):∃ x,K13.Wc [.d za,.d<|.lst<|gs.map enc,.d<|.int 5] bx=.val (.d x) bx:=by
 have gl:=G.l;let#[qs,p,so,ri]:=mD gl;have ql:=p.length_eq;let#[S,sv,st]:=kJ.OB H zb so;let#[m,J,ml]:=Hy.OD (h:=5) (ps:=ps) (gs:=qs) Wm;have lr:=J.lr;show#[_,Pq<|qE (cV<|Gb H h)<|qE (cV<|K2.CW (bx:=bx) _)<|qS (fM (fj (fM zj zj sv) zj) zj<|kJ.OA (bx:=bx) (h:=5) ((λr=>by
  refine r.imp λ{a b} h=>?_;have:∀ {l m}{i j},HT.cC (.i i::l) (.i j::m)=ag->i<=j:=λ{l m i j} h=>by
   unfold HT.cC at h;split at h
   .ext e;cases e;show Int.le_refl _
   .have:decide _=ag:=h;simp at this
    lia
  cases a<;>cases b<;>show this h)<|ri G.nd) zb st)<|gz<|Hy.MB zj zb]
theorem Gc (hc:c<17) (hb:b env bx=gO m env bx) (h:m env bx=.exc c bx):fB (sJ b) (fJ<|dC<|.str "") env bx=.rt (.d<|.str<|wordOf c) bx:=
 jH (by unfold sJ;rw[hb,AE h];show if_pos hc)
theorem Ge (hb:b env bx=gO m env bx) (h:m env bx=.val w B):fB (sJ b) (fJ<|dC<|.str "") env bx=.rt (.d<|.str "") B:=
 (fE (by unfold sJ;rw[hb,mU h]))
noncomputable abbrev pw (b:Bool):Str:=if b then "" else "pages"
theorem Sw (H:Hs rs ks ps hd) (d):∃ b,K13.sM [.d za,.d d] bx=.val (.d<|.bl b) bx /\ ∀ i,K13.Hk [.d<|.int i,.d za,.d d] bx=.val (.d<|.str<|pw b) bx:=by
 let#[b,h1,h2,h3]:=TL d;refine#[b,h2,λi=>?_];have t0:∀ {c:Bool}{s r:aE},decide (i=0)=c->aT (dB<|d2 af aZ (dV 0) zh) s r [xN i,ae<|.d za,ae<|.d d,ah] bx=if c then s [xN i,ae<|.d za,ae<|.d d,ah] bx else r [xN i,ae<|.d za,ae<|.d d,ah] bx:=λ{c s r} h=>by
  have t:=fT<|fQ (g:=aZ) (r:=.old<|.bl c) (env:=[xN i,ae<|.d za,ae<|.d d,ah]) (bx:=bx) (m:=dV 0) (k:=dC<|.int 0) zj zj (by rw[<-h];rfl);cases c with
  |true=>show jI t
  |false=>show gV t
 cases b with
 |false=>
   have nn:=OE H h1;by_cases c:i=0
   .show gi<|Gc zc (t0<|decide_eq_true c)<|oP (l:=[.d za,.d d]) zj zj<|AF<|FV<|AE<|oP (l:=[.d za,.d d]) zj zj nn
   .show gi<|Gc (c:=4) zc (t0<|decide_eq_false c)<|oP (l:=[.d za,.d d,.d<|.int 5]) zj zj<|AF<|FV<|AE<|oP (l:=[.d za,.d d]) zj zj nn
 |true=>
   let#[gs,rfl,G]:=h3 zj;by_cases c:i=0
   .let#[x,e]:=Su H G h1;show gi<|Ge (t0<|decide_eq_true c)<|cV e
   .let#[x,e]:=Sv H G h1;show gi<|Ge (t0<|decide_eq_false c)<|cV e
noncomputable abbrev fld (h K Od:D) (e:Nat):List (Str×(D ⊕ Nat)):=[("home",.inl h),("kept",.inl K),("dark_hours",.inl Od),("earlier",.inr e)]
abbrev bk (L:List Bx) (C:ai) (h K Od:D) (er:List D):List Bx:=L++[.lst er,.ins C<|fld h K Od L.length]
section
variable {K:D}
theorem DW:(bk L C h K Od er)[L.length+1]?=ae (.ins C<|fld h K Od L.length):=by simp
theorem TM:(bk L C h K Od er)[L.length]?=ae (.lst er):=by simp
theorem TN:(bk L C h K Od er).set L.length (.lst nV)=bk L C h K Od nV:=by simp
theorem PB:(bk L C h K Od er).set (L.length+1) (.ins C fs)=L++[.lst er,.ins C fs]:=by simp
theorem AI:(bk L C h K' wz nV).length=(bk L C h K Od er).length:=by simp
theorem Sx (he:env[i]?=ae (xB<|L.length+1)):dr C (dV i) "home" env (bk L C h K Od er)=.val (.d h) (bk L C h K Od er):=by
 unfold dr;rw[iI,he,fX];erw[DW];rfl
theorem lP (he:env[i]?=ae (xB<|L.length+1)):dr C (dV i) "kept" env (bk L C h K Od er)=.val (.d K) (bk L C h K Od er):=by
 unfold dr;rw[iI,he,fX];erw[DW];rfl
theorem DY (he:env[i]?=ae (xB<|L.length+1)):dr C (dV i) "dark_hours" env (bk L C h K Od er)=.val (.d Od) (bk L C h K Od er):=by
 unfold dr;rw[iI,he,fX];erw[DW];rfl
theorem Sy (he:env[i]?=ae (xB<|L.length+1)):dr C (dV i) "earlier" env (bk L C h K Od er)=.val (.b L.length) (bk L C h K Od er):=by
 unfold dr;rw[iI,he,fX];erw[DW];rfl
theorem Sz (he:env[i]?=ae (xB<|L.length+1)) (hv:v env (bk L C h K Od er)=.val (.d K') (bk L C h K Od er)):qb C (dV i) "kept" v env (bk L C h K Od er)=.nx env (bk L C h K' Od er):=by
 unfold qb;rw[hv,iM,iI,he,iM];erw[DW];show congrArg _ PB
theorem SA (he:env[i]?=ae (xB<|L.length+1)) (hv:v env (bk L C h K Od er)=.val (.d wz) (bk L C h K Od er)):qb C (dV i) "dark_hours" v env (bk L C h K Od er)=.nx env (bk L C h K wz er):=by
 unfold qb;rw[hv,iM,iI,he,iM];erw[DW];show congrArg _ PB
theorem iZ (he:env[i]?=ae (xB<|L.length+1)) (hk:k env (bk L C h K Od er)=.val ws (bk L C h K Od er)) (hf:fn (.b (L.length+1)::ws) (bk L C h K Od er)=o) (hn:((fld h K Od L.length).lookup nm).isNone=ag:=by rfl) (hl:ws.length+1=n:=by rfl):nU C fn nm n (dV i) k env (bk L C h K Od er)=o:=by
 unfold nU;rw[iI,he,fX];erw[DW];rw[if_pos #[trivial,hn],hk,fX,if_pos hl,hf]
theorem TQ (h:m (ws.map ae++List.replicate (n-ws.length) ah) bx=.nx e bx') (l:bx'.length=bx.length):aN n (aU m) ws bx=.val (.d .non) bx':=by
 simp[aN,aU,DL.envOf,h,pT,pU];rw[<-l,rQ]
theorem OF:Hi C [.b<|L.length+1] (bk L C h (.tup l) Od er)=.val (.d<|.lst l) (bk L C h (.tup l) Od er):=
 gi (gz<|ig (r:=.lst l) [.tup l] (fj (lP zj) zj) zj)
theorem MC (hp:dG [P]=ae (.lst K')) (hq:dG [Q]=ae (.lst wz)) (hl:er.length<1000) :
 KZ C [.b<|L.length+1,.d P,.d Q] (bk L C h K Od er)=.val (.d .non) (bk L C h (.tup K') (.tup wz)<|er++[.tup [K,Od]]):=by
 have sz:=bB;have a:=FT (k:=fL<|fc (dr C (dV 0) "kept")<|fc (dr C (dV 0) "dark_hours") fe) (Sy (h:=h) (er:=er) (env:=[xB<|L.length+1,ae<|.d P,ae<|.d Q]) (i:=0) zj) TM (gN [K,Od] (fj (lP zj)<|fj (DY zj) zj) (by simp;lia)) TM zb;rw[TN]at a;show TQ (qE a<|(fE<|Sz zj<|ig [.lst K'] (fj (ig [P] zj hp) zj) zj).trans<|SA zj<|ig (r:=.tup wz) [.lst wz] (fj (ig (r:=.lst wz) [Q] zj hq) zj) zj) AI
theorem afW (h:a.length<=1000):fP (.tup a) (.tup [x])=ae (.tup<|a++[x]):=by
 have sz:=bB;change (if a.length+1<=sizeLine then ae _ else ah)=_;rw[if_pos zb]
end
theorem SC (g):(toPy<|enc g).canLay0=ag /\ (toPy<|enc g).depth<=1:=by
 have a:PyData.strOk (Str.ofString "out")=ag:=by decide +kernel
 have b:PyData.strOk (Str.ofString "in")=ag:=by decide +kernel
 have c:PyData.strOk (Str.ofString "to")=ag:=by decide +kernel
 cases g<;>simp[a,b,c,enc,cU,km,bX,toPy,br,PyData.canLay0,PyData.canLayAll0,PyData.depth,PyData.depthAll]
theorem OG:∀ l:List Pg,PyData.canLayAll0 (br<|l.map enc)=ag /\ PyData.depthAll (br<|l.map enc)<=1:=by
 intro l_;induction l_ with
 |nil=>show#[rfl,di _]
 |cons q l aB=>
   let#[a,b]:=SC q;let#[c,d]:=aB;erw[aS,br,PyData.canLayAll0,PyData.depthAll,a,c];show#[rfl,by lia]
theorem MD (h:m (ws.map ae++List.replicate (n-ws.length) ah) bx=.nx e B) (l:B.length=bx.length):aN n m ws bx=.val (.d .non) B:=by
 simp[aN,DL.envOf,h,pT,pU];rw[<-l,rQ]
theorem Gf (h:m (ws.map ae++List.replicate (n-ws.length) ah) bx=.rt (.d d) B) (l:B.length=bx.length):aN n (aU m) ws bx=.val (.d d) B:=by
 rw[lc h,<-l,rQ]

theorem fset (he:env[0]?=ae (xB bx.length)) (hv:v env (bx++[.ins C fs])=.val (.d d) (bx++[.ins C fs])) (hl:fs.length<1000) :
 qb C (dV 0) f v env (bx++[.ins C fs])=.nx env (bx++[.ins C<|uN f (.inl d) fs]):=by
 unfold qb;rw[hv,iM,iI,he,iM];erw[Yt];rw[if_pos #[trivial,hl],QX _ _<|aA _,k8];rfl
theorem SD (H:Hs rs ks ps hd) (hk:k env bx=.val [.d za] L):yk C "earlier" (KW C) k env bx=.val (.b<|L.length+1) (bk L C za (.tup []) (.tup []) []):=by
 have et:∀ b,fL fe (yi L.length za) b=.val (.d<|.tup []) b:=λb=>gN [] zj<|di _;have m:KW C (yi L.length za) (L++[.ins C []])=.nx (yi L.length za) (L++[.ins C [("home",.inl za),("kept",.inl<|.tup []),("dark_hours",.inl<|.tup [])]]):=
  qE (cV<|aJ.jK H) ((fE<|fset zj zj zg).trans<|(fE<|fset (fs:=[("home",.inl za)]) zj (et _) zg).trans<|(fE<|fset (fs:=[("home",.inl za),("kept",.inl<|.tup [])]) zj (et _) zg))
 unfold yk;rw[hk,fX];erw[m,List.getLast?_concat];rw[if_pos #[rfl,rfl,by simp]];rfl
theorem B7 {K}:K13.KY C [.b<|L.length+1,.d d] (bk L C za K (.tup []) er)=if cP rs.length ks.length d then .val (.d .non) (bk L C za K (.tup []) er) else .exc 11 (bk L C za K (.tup []) er):=by
 have t:dB (fq aJ.iA 2<|fc (dr C (dV 0) "home") zm) [ae _,ae _] _=.val _ (bk L C _ K (.tup []) er):=fT<|fM (fj (Sx zj)<|fj zj zj) zj<|Mg (rs:=rs) (ks:=ks) (ps:=ps) (hd:=hd) (bx:=bk L C _ K _ er) d;cases q:cP rs.length ks.length d with
 |true=>
   rw[q]at t;show L9<|(gV<|fY t)
 |false=>
   rw[q]at t;show AF<|(jI<|fY t).trans<|BX zj
theorem TR (neg) (g) (l) (hl:l=[] \/ l=[g]):inD neg (enc g) (.tup<|l.map enc)=ae (.old<|.bl (if neg then decide (l=[]) else !decide (l=[]))):=by
 change (if kX (enc g)=ag /\ (l.map enc).all kX=ag then ae (Res.old<|.bl (if neg=ag then !nF (enc g) (l.map enc) else nF (enc g) (l.map enc))) else tX neg _ _ _)=_;rw[if_neg (λz=>by cases z.1)];unfold tX;let#[a1,a2]:=SC g;have q1:dO (enc g)=ag:=by unfold dO;lia
 let#[b1,b2]:=OG l;have q2:dO (.tup<|l.map enc)=ag:=by unfold dO;simp[toPy,PyData.canLay0,PyData.depth,decide_eq_true_eq];lia
 rw[q1,q2];have r:eqv (enc g) (enc g)=ag:=Zn _ a1;rcases hl with rfl|rfl
 .cases neg<;>rfl
 .simp[r]
theorem afX (g):dG [.tup [enc g]]=ae (.lst [enc g]):=by
 let#[qs,p,so,_]:=mD (gs:=[g]) zg;rw[List.perm_singleton.mp p]at so;show so
theorem Wq:dG [.tup []]=ae (.lst []):=by simp[dG,tO,intsOf,sortI]
theorem SE (g) (ok:uW rs.length ks.length g) (he:er.length<900):K13.Hl C [.b<|L.length+1,.d<|enc g] (bk L C za (.tup []) (.tup []) er)=.val (.d .non) (bk L C za (.tup [enc g]) (.tup [])<|er++[.tup [.tup [],.tup []]]):=by
 have np:=B7 (L:=L) (C:=C) (rs:=rs) (ks:=ks) (ps:=ps) (hd:=hd) (er:=er) (K:=.tup []) (d:=enc g);rw[FZ g ok,if_pos rfl]at np;have sz:=bB;have kv:=MC (C:=C) (h:=hs rs ks ps hd) (K:=.tup []) (Od:=.tup []) (L:=L) (er:=er) (afX g) Wq zb;show MD (qE (iZ zj (fj zj zj) np)<|qF (fT<|fQ zj (lP zj)<|TR af g []<|.inl zj)<|qF (fT<|fQ (r:=.old<|.bl af) (ig [.tup []] (fj (lP zj) zj) zj) zj zj)<|mU<|iZ zj (fj (fQ (x:=.tup []) (y:=.tup [enc g]) (r:=.tup [enc g]) (lP zj) (gN [enc g] zj (by simp;lia))<|afW (a:=[]) zg)<|fj (DY zj) zj) kv) AI
theorem Je (g):K13.Wf [.d<|.tup [enc g],.d<|enc g] B=.val (.d<|.tup []) B:=by
 let#[a1,a2]:=SC g;have q1:dO (enc g)=ag:=by unfold dO;lia
 have r:eqv _ _=ag:=Zn _ a1;have ne:cR (enc g) (enc g)=ae (.old<|.bl af):=by
  have:cR (enc g) (enc g)=tR ag (enc g) (enc g):=by cases g<;>rfl
  rw[this];unfold tR;rw[q1,r];rfl
 show gi<|gz<|ig (r:=.tup []) [.lst []] (fj (abj (l:=[g]) (r:=[ae _]) _ (λ_=>.non) (ja zj) zj (by simp;have:=bB;lia) λx m=>#[fT<|fQ (r:=.old<|.bl af) zj zj (by rw[hV.mp m];show ne),λz=>(nomatch z)]) zj) zj
theorem ME (g) (ok:uW rs.length ks.length g) (he:er.length<900):K13.Hm C [.b<|L.length+1,.d<|enc g] (bk L C za (.tup [enc g]) (.tup []) er)=.val (.d .non) (bk L C za (.tup []) (.tup [])<|er++[.tup [.tup [enc g],.tup []]]):=by
 have np:=B7 (L:=L) (C:=C) (rs:=rs) (ks:=ks) (ps:=ps) (hd:=hd) (er:=er) (K:=.tup [enc g]) (d:=enc g);rw[FZ g ok,if_pos rfl]at np;have kv:=MC (C:=C) (h:=hs rs ks ps hd) (K:=.tup [enc g]) (Od:=.tup []) (L:=L) (er:=er) Wq Wq zb;show MD (qE (iZ zj (fj zj zj) np)<|qF (fT<|fQ zj (lP zj)<|TR ag g [g]<|.inr zj)<|mU<|iZ zj (fj (fM (fj (lP zj)<|fj zj zj) zj<|Je g)<|fj (DY zj) zj) kv) AI
noncomputable abbrev pg (b:Bool):Str:=if b then "" else "page"
theorem TU (d) (he:er.length<800):∃ nV,nV.length<=er.length+2 /\ ∀ {e2:bu}{w},e2=[w,xB<|L.length+1,ae<|.d d] ->
 bw (ff 0) ge (fq (K13.sN C) 3<|fc (dV 1)<|fc (dV 0)<|fc (dV 2) fe) ([D.int 0,.int 1].map W.d) e2 (bk L C za (.tup []) (.tup []) er) []=.val [.str<|pg<|cP rs.length ks.length d,.str<|pg<|cP rs.length ks.length d] (bk L C za (.tup []) (.tup []) nV):=by
 have sz:=bB;have t0:∀ {i:Int}{c:Bool}{s r:aE}{B:List Bx},decide (i=0)=c->aT (dB<|d2 af aZ (dV 1) zh) s r [xB<|L.length+1,xN i,ae<|.d d,ah] B=if c then s [xB<|L.length+1,xN i,ae<|.d d,ah] B else r [xB<|L.length+1,xN i,ae<|.d d,ah] B:=λ{i c s r B} h=>by
  have t:=fT<|fQ (g:=aZ) (r:=.old<|.bl c) (env:=[xB<|L.length+1,xN i,ae<|.d d,ah]) (bx:=B) (m:=dV 1) (k:=dC<|.int 0) zj zj (by rw[<-h];rfl);cases c with
  |true=>show jI t
  |false=>show gV t
 have two:∀ {x y:Str}{B1 B2:List Bx},K13.sN C [.b<|L.length+1,.d<|.int 0,.d d] (bk L C za (.tup []) (.tup []) er)=.val (.d<|.str x) B1->K13.sN C [.b<|L.length+1,.d<|.int 1,.d d] B1=.val (.d<|.str y) B2->∀ {e2:bu}{w:Option W},e2=[w,xB<|L.length+1,ae<|.d d] ->
  bw (ff 0) ge (fq (K13.sN C) 3<|fc (dV 1)<|fc (dV 0)<|fc (dV 2) fe) ([D.int 0,.int 1].map W.d) e2 (bk L C za (.tup []) (.tup []) er) []=.val [.str x,.str y] B2:=λ{x y B1 B2} h1 h2 e2 w h=>by
  subst h;have c1:fq (K13.sN C) 3 (fc (dV 1)<|fc (dV 0)<|fc (dV 2) fe) [xN 0,xB<|L.length+1,ae<|.d d] (bk L C za (.tup []) (.tup []) er)=.val (.d<|.str x) B1:=cV h1;have c2:fq (K13.sN C) 3 (fc (dV 1)<|fc (dV 0)<|fc (dV 2) fe) [xN 1,xB<|L.length+1,ae<|.d d] B1=.val (.d<|.str y) B2:=cV h2;have g0:∀ {i:Int}{w:Option W}{B:List Bx},ff 0 (.d<|.int i) [w,xB<|L.length+1,ae<|.d d] B=ae ([xN i,xB<|L.length+1,ae<|.d d],B):=rfl;have l0:([]:List D).length<sizeLine:=by simp;lia
  have l1:([]++[D.str x]).length<sizeLine:=by simp;lia
  erw[aS,QV,bw,g0,c1,c2,oK,mP,if_pos l0,if_pos l1];rfl
 cases q:cP rs.length ks.length d with
 |false=>
   have np:=B7 (L:=L) (C:=C) (rs:=rs) (ks:=ks) (ps:=ps) (hd:=hd) (er:=er) (K:=.tup []) (d:=d);rw[q,if_neg zc]at np;have f:∀ i:Int,K13.sN C [.b<|L.length+1,.d<|.int i,.d d] (bk L C za (.tup []) (.tup []) er)=.val (.d<|.str "page") (bk L C za (.tup []) (.tup []) er):=λi=>by
    by_cases c:i=0
    .show Gf (Gc (c:=11) zc (t0<|decide_eq_true c)<|iZ (fn:=K13.Hl C) (nm:="tell") (k:=fc (dV 2) fe) (n:=2) (ws:=[.d d]) zj (fj zj zj)<|AF<|FV<|AE<|iZ zj (fj zj zj) np) zj
    .show Gf (Gc (c:=11) zc (t0<|decide_eq_false c)<|iZ (fn:=K13.Hm C) (nm:="strike") (k:=fc (dV 2) fe) (n:=2) (ws:=[.d d]) zj (fj zj zj)<|AF<|FV<|AE<|iZ zj (fj zj zj) np) zj
   show#[er,by lia,two (f 0)<|f 1]
 |true=>
   let#[g,rfl,ok]:=Pt q;have t:=SE (L:=L) (C:=C) (ps:=ps) (hd:=hd) (er:=er) g ok zb;have s:=ME (L:=L) (C:=C) (ps:=ps) (hd:=hd) (er:=er++[.tup [.tup [],.tup []]]) g ok (by rw[bH];change er.length+1<900;lia);refine#[_,?_,two (Gf (Ge (t0 zj)<|iZ (fn:=K13.Hl C) (nm:="tell") (k:=fc (dV 2) fe) (n:=2) (ws:=[.d<|enc g]) zj (fj zj zj) t) AI)<|Gf (Ge (t0 zj)<|iZ (fn:=K13.Hm C) (nm:="strike") (k:=fc (dV 2) fe) (n:=2) (ws:=[.d<|enc g]) zj (fj zj zj) s) AI];rw[bH,bH];show aA _
noncomputable abbrev pH:List D:=[.int 4,.str "in",.int 3,.int 0,.int 0,.int 7,.int 8]
abbrev o1:List D:=[.tup pH,.tup [.int 4,.str "out",.int 3],.tup [.int 4,.str "to",.int 3,.int 0],.tup [.int<|-1,.str "out",.int 3],.tup [.bl ag,.str "out",.int 3],.tup [.int 4,.str "out",.int 10],.tup [.int 4,.str "out",.int<|-1]]
noncomputable abbrev o2 (r:Int):List D:=[.tup [.int 4,.str "to",.int 3,.int r],.tup [.int 4,.str "to",.int 3,.int<|r-1],.tup [.int 4,.str "to",.int 3,.int<|-1],.tup [.int 4,.str "out",.int 3,.int 0],.tup [.int 4,.str "to",.int 3]]
noncomputable abbrev o3 (r k:Int):List D:=[.tup [.int 4,.str "in",.int 3,.int k,.int 0,.int 7,.int 8],.tup [.int 4,.str "in",.int 3,.int 0,.int r,.int 7,.int 8],.tup [.int 4,.str "in",.int 3,.int 0,.int 0,.int 1000,.int 8]]
noncomputable abbrev o4:List D:=[.tup [.int 4,.str "in",.int 3,.int 0,.int 0,.int 999,.int 99],.tup [.int 4,.str "in",.int 3,.int 0,.int 0,.int 7,.int 100],.tup [.int 4,.str "in",.int 3,.int 0,.int 0,.int<|-1,.int 8],.tup [.int 4,.str "In",.int 3]]
abbrev o5:List D:=[.tup [.int 4,.str "in",.int 3],.tup [.int 4,.int 5,.int 3],.tup [.int 4,.non,.int 3],.tup [.int 4,.str "",.int 3],.lst pH,.tup [.int 4,.str "to",.bl ag,.int 0]]
noncomputable abbrev o6:D:=.tup [.int 4,.str "to",.int 3,.non]
noncomputable abbrev o7:D:=.tup [.int<|10 ^ 40-1,.str "out",.int 9]
abbrev oL (r k:Int):List D:=o1++o2 r++o3 r k++o4++o5++[o6]
abbrev bE (r k:Int):List Bx:=[.lst o1,.lst<|o1++o2 r,.lst<|o1++o2 r++o3 r k,.lst<|o1++o2 r++o3 r k++o4,.lst<|oL r k]
def afY (r k:Nat):Bool:=let l:=oL r k
 k6 (10 ^ 30) l&&decide (PyData.depthAll (br l)<=1)&&decide (dt l<=400000)
theorem OH:∀ r,r<6->∀ k,k<6->afY r k=ag:=by decide +kernel
section
variable {ls:List Bx}
theorem K7:(B0++ls)[B0.length+i]?=ls[i]?:=by rw[dD zb,QJ]
theorem K8 (h1:m env (B0++ls)=.val (.b<|B0.length+i) (B0++ls)) (h2:k env (B0++ls)=.val (.d<|.lst r) (B0++ls)) (g:ls[i]?=ae (.lst l)) (hl:l.length+r.length<=sizeLine):d2 ag fP m k env (B0++ls)=.val (.b<|B0.length+ls.length) (B0++(ls++[.lst<|l++r])):=by
 rw[Si h1 h2 (K7.trans g) hl,bH,vo]
theorem afZ (h1:m env (B0++ls)=.val (.b<|B0.length+i) (B0++ls)) (h2:k env (B0++ls)=.val (.d d) (B0++ls)) (g:ls[i]?=ae (.lst l)) (hl:l.length<sizeLine):tP m k env (B0++ls)=.val (.d .non) (B0++ls.set i (.lst<|l++[d])):=by
 rw[FT h1 (K7.trans g) h2 (K7.trans g) hl,QX _ _ zb,QJ]
theorem af0 (h1:m env B=.val (.b j) B1) (h2:k env B1=.val (.d<|.lst r) B2) (g:B2[j]?=ae (.lst l)) (hl:l.length+r.length<=sizeLine):d2 af fP m k env B=.val (.d<|.lst<|l++r) B2:=by
 rw[G6,h1,fX,h2,fX];have r1:bG B2 (.b j)=ae (.lst l):=by simp[bG,g]
 rw[r1,oo,bJ,bJ,show fP (.lst l) (.lst r)=ae _ from if_pos hl];rfl
end

theorem TV (h:n<bx.length) (H:Hs rs ks ps hd) (p):∃ os q,KU [.b n,.d za] (pt bx n p)=.val (.d<|.lst os) (pt bx n q) /\ os.length<=100 /\ ∀ o∈os,v7 o=ag:=by
 have sz:=bB;have sm:=OH rs.length (by have:=H.r5;lia) ks.length (by have:=H.k4;lia);have SL:=Oh sm;have hB:n<(bx++bE rs.length ks.length).length:=by rw[bH];lia
 have sp:Sm (10 ^ 30) 1 20000 (.tup pH):=by
  have:=(SL.mem (d:=.tup pH) zg);show#[this.s,this.e,by decide +kernel]
 let#[d1,q1,b1,s1]:=FQ hB 12 (.tup pH) p _ _ _ (aA _) sp zc zc;let#[ED,q2,b2,s2]:=FQ hB 12 d1 q1 _ _ _ zc s1 zc zc;let#[o,q3,b3,mo]:=AC hB q2;refine#[oL rs.length ks.length++[d1,ED,o,o7],q3,?_,by simp,λx m=>?_]
 .have eE:=(iY (E:=bE rs.length ks.length) (p:=p) h).symm;refine(lc (bx':=pt (bx++bE rs.length ks.length) n q3) ?_).trans (by rw[<-iY h,fN,<-fN,Yu]);have bl:(pt bx n p).length=bx.length:=fN;rw[eE]at b1;generalize pt bx n p=B0 at *;refine(fE<|kJ.lH<|fj (B5 zj)<|fj (Mv zj) zj).trans ?_;refine qS (gN pH zj zc) ?_;refine qS (w:=.b B0.length) (bx1:=B0++[.lst o1]) (by kernel_rfl) ?_;refine qS (K8 (i:=0) (l:=o1) (r:=o2 rs.length) zj (by kernel_rfl) zj (by rw[sz];simp)) ?_;refine qS (K8 (i:=1) (l:=o1++o2 rs.length) (r:=o3 rs.length ks.length) zj (by kernel_rfl) zj (by rw[sz];simp)) ?_;refine qS (K8 (i:=2) (l:=o1++o2 rs.length++o3 rs.length ks.length) (r:=o4) zj (by kernel_rfl) zj (by rw[sz];simp)) ?_;refine qS (K8 (i:=3) (l:=o1++o2 rs.length++o3 rs.length ks.length++o4) (r:=o5) zj (by kernel_rfl) zj (by rw[sz];simp)) ?_;refine qE (afZ (i:=4) (d:=o6) (l:=o1++o2 rs.length++o3 rs.length ks.length++o4++o5) zj (by kernel_rfl) zj (by rw[sz];simp)) ?_;refine qS (cV (l:=[.b n,.d<|.tup pH]) b1) ?_;refine gz (af0 (j:=B0.length+4) (r:=[d1,ED,o,o7]) zj (ik [d1,ED,o,o7] (fj zj<|fj (cV (l:=[.b n,.d d1]) b2)<|fj (cV (l:=[.b n]) b3)<|fj (gN [.int<|10 ^ 40-1,.str "out",.int 9] (fj (fQ (x:=.int<|10 ^ 40) (y:=.int 1) (r:=.old<|.int<|10 ^ 40-1) (fQ (r:=.old _) zj zj<|Pp zc) zj zj) zj) zc) zj) (by rw[sz];simp)) ?_ ?_)
  .rw[<-iY h,bl,<-fN (bx:=bx) (n:=n) (p:=q3),K7];rfl
  .rw[sz];simp
 .rcases d8.mp m with m|m
  .show iX (SL.mem m) zc zc (by rw[sz];decide)
  .erw[a9,pM,or_false]at m;rcases m with rfl|rfl|rfl|rfl
   .show iX s1 zc zc (by rw[sz];decide)
   .show iX s2 zc zc (by rw[sz];decide)
   .show iX (oO _ mo) zc zc (by rw[sz];decide)
   .show iX (B:=10 ^ 40) (a:=1) (b:=10000) #[by decide +kernel,by decide +kernel,by decide +kernel] zc zc (by rw[sz];decide)
abbrev qA:aE:=(fB (fO (kR (dB<|fq K13.sM 2<|fc (dV 3)<|fc (dV 9) fe) (dC<|.str "")<|dC<|.str "pages")<|ff 10)<|aT (dB<|d2 af cR (gc af [ah,ae 3,ae 9] (bS<|fL<|fc zh<|fc ze fe) (ff 0) ge<|fq K13.Hk 3<|fc (dV 0)<|fc (dV 1)<|fc (dV 2) fe)<|gj af<|fc (dV 10)<|fc (dV 10) fe) (fJ<|dC<|.bl af) a8)
abbrev abq (C:ai):aE:=(fB (dJ 7 8<|fc (fq K1.fk 2<|fc (dV 2)<|fc (d2 af fP (dN af aQ<|fc (dV 4) fe) ze) fe)<|fc (v8<|dV 6) fe)<|fB (jT (bS<|gj af<|fc (d2 af fP (d2 af fP (d6 af (dV 4) eU<|dM<|dV 7)<|gj af<|fc (dV 6) fe)<|d6 af (dV 4) (dM<|dV 7) eU)<|fc (gj af<|fc (dV 6) fe)<|fc (dN af qu<|fc (dV 4) fe) fe) (ff 9) qA)<|fB (fO (kR (dB<|fq K13.uU 2<|fc (dV 3)<|fc (dV 6) fe) (gj af<|fc (dC<|.str "")<|fc (dC<|.str "") fe)<|gj af<|fc (dC<|.str "page")<|fc (dC<|.str "page") fe)<|ff 10)<|aT (eS (dB<|d2 af cR (gc af [ah,ae 5,ae 6] (bS<|fL<|fc zh<|fc ze fe) (ff 0) ge<|fq (K13.sN C) 3<|fc (dV 1)<|fc (dV 0)<|fc (dV 2) fe)<|dV 10)<|eS (dB<|d2 af cR (nU C (K13.Hi C) "pages" 1 (dV 5) fe)<|gj af fe)<|dB<|d2 af cR (v8<|dV 6)<|dV 8) (fJ<|dC<|.bl af) a8)
abbrev abr (C:ai):aE:=(fB (fO (fq K1.jC 1<|fc (fq K1.g9 2<|fc (dV 0) zm) fe)<|ff 2)<|fB (fO (fq aJ.iO 1<|fc (dV 2) fe)<|ff 3)<|fB (dJ 4 5<|fc (fq aJ.iP 4<|fc (dV 2)<|fc (dV 3)<|fc (dC<|.int 14)<|fc (dC<|.int 30) fe)<|fc (yk C "earlier" (K13.KW C)<|fc (dV 3) fe) fe)<|fB (jT (bS<|fq K13.KU 2<|fc (dV 2)<|fc (dV 3) fe) (ff 6)<|abq C)<|fB (fO (gc af [ah] (eT<|fc (dC<|.int 16) fe) (ff 0) ge<|fL<|fc (dV 0)<|fc (dC<|.str "out")<|fc zh fe)<|ff 11)<|jT (bS<|gj af<|fc (dV 11)<|fc (d2 af fP (dV 11)<|gj af<|fc (fL<|fc (dC<|.int 16)<|fc (dC<|.str "out")<|fc zh fe) fe)<|fc (d2 af fP (dV 4)<|d6 af (dV 4) eU<|dM ze)<|fc (yh af 0 4)<|fc (dC .non)<|fc (fq K1.fS 1<|fc (dV 2) fe)<|fc (gj af fe) fe) (ff 9) qA)
theorem Uo (C):Pl C=fB (jT (eT<|fc (dN af maxD<|fc ze<|fc (dN af minD<|fc (uH<|dV 0)<|fc (dC<|.int 5) fe) fe) fe) (ff 1)<|abr C) (fJ<|dC<|.bl ag):=rfl
noncomputable abbrev lE (l:List Int) (k:Int) (n:Nat) (H P:D) (j:Nat) (x6 x7 x8 x9 x10 x11:Option W):bu:=[ae<|.s l,ae<|.d<|.int k,ae<|.b n,ae<|.d H,ae<|.d P,ae<|.b j,x6,x7,x8,x9,x10,x11]
theorem Uq (b):cR (.lst [.str<|pw b,.str<|pw b]) (.lst [.str<|pw b,.str<|pw b])=ae (.old<|.bl af):=by cases b<;>kernel_rfl
theorem Ur (b):cR (.lst [.str<|pg b,.str<|pg b]) (.lst [.str<|pg b,.str<|pg b])=ae (.old<|.bl af):=by cases b<;>kernel_rfl

theorem Us (H:Hs rs ks ps hd) (d):∃ y,qA (lE l k n za P j x6 x7 x8 (ae<|.d d) x10 x11) B=.nx (lE l k n za P j x6 x7 x8 (ae<|.d d) y x11) B:=by
 have sz:=bB;let#[b,h1,h2]:=Sw H d;have s:kR (dB<|fq K13.sM 2<|fc (dV 3)<|fc (dV 9) fe) (dC<|.str "") (dC<|.str "pages") (lE l k n za P j x6 x7 x8 (ae<|.d d) x10 x11) B=.val (.d<|.str<|pw b) B:=by
  have t:=fT<|fM (ks:=fc (dV 3)<|fc (dV 9) fe) (env:=lE l k n za P j x6 x7 x8 (ae<|.d d) x10 x11) zj zj h1;cases b with
  |true=>show Pr t zj
  |false=>show Ps t zj
 refine#[ae<|.d<|.str<|pw b,qS s<|(gV<|fT<|fQ (Wi (l:=[0,1]) (λ_=>.str<|pw b) (ja<|gN [.int 0,.int 1] zj (by rw[sz];simp)) zj (by rw[sz];simp) λi _=>cV<|h2 i) (ik [.str<|pw b,.str<|pw b] zj (by rw[sz];simp))<|Uq b)]
theorem PH (H:Hs rs ks ps hd) (ds:List D):∃ y9 k7,eD (ff 9) qA (ds.map W.d) (lE l k n za P j x6 x7 x8 x9 x10 x11) B=.nx (lE l k n za P j x6 x7 x8 y9 k7 x11) B:=by
 let#[aP,b',f,y9,k7,rfl,rfl]:=mB (g:=ff 9) (body:=qA) (λ_ env b=>∃ y9 k7,env=lE l k n _ P j x6 x7 x8 y9 k7 x11 /\ b=B) (ds.map W.d) 0 (lE l k n za P j x6 x7 x8 x9 x10 x11) B #[_,_,rfl,rfl] (by
  rintro i w env b hw ⟨y9,k7,rfl,rfl⟩;let#[d,_,rfl]:=bc.mp<|eI hw;let#[y,e]:=Us H d;show#[_,_,_,_,rfl,e,_,_,rfl,rfl])
 show#[y9,k7,f]
theorem Ut (hn:n<A.length) (H:Hs rs ks ps hd) (hl:gl.length<=100) (he:er.length<800) (d) (rV:v7 d=ag) (q) :
 ∃ nV q' y7 y8 y9 k7,nV.length<=er.length+2 /\ abq C (lE l k n za (.lst gl) (A.length+1) (ae<|.d d) x7 x8 x9 x10 x11) (pt (bk A C za (.tup []) (.tup []) er) n q)=.nx (lE l k n za (.lst gl) (A.length+1) (ae<|.d d) y7 y8 y9 k7 x11) (pt (bk A C za (.tup []) (.tup []) nV) n q'):=by
 have sz:=bB;have hB:n<(bk A C za (.tup []) (.tup []) er).length:=by simp;lia
 let#[r,q1,t,r0,r1]:=qd hB q ((gl.length)+1) zb zb;have eb:∀ er,bk (pt A n q1) C za (.tup []) (.tup []) er=pt (bk A C za (.tup []) (.tup []) er) n q1:=λer=>by unfold bk;rw[fN,iY hn]
 let#[nV,el,mt]:=TU d he;have pv:=OF (L:=pt A n q1) (C:=C) (h:=hs rs ks ps hd) (l:=[]) (Od:=.tup []) (er:=nV);rw[fN,eb er,eb nV]at mt;obtain⟨B1,abt⟩:∃ B1,B1=pt (bk A C za (.tup []) (.tup []) er) n q1:=#[_,rfl];rw[<-abt]at mt;let#[y9,k7,f]:=PH H [.lst<|DL.cutD gl ah (ae r)++[d]++DL.cutD gl (ae r) ah,.lst [d],.tup gl];have c1:=BW gl ah<|ae r;have c2:=BW gl (ae r) ah;have lp:=Ga (rs:=rs) (ks:=ks) (ps:=ps) (hd:=hd) (bx:=B1) d;have due:kR (dB<|fq K13.uU 2<|fc (dV 3)<|fc (dV 6) fe) (gj af<|fc (dC<|.str "")<|fc (dC<|.str "") fe) (gj af<|fc (dC<|.str "page")<|fc (dC<|.str "page") fe) (lE l k n za (.lst gl) (A.length+1) (ae<|.d d) (xN r) (ae<|.d<|.str (toPy d).shown) y9 k7 x11) B1=.val (.d<|.lst [.str<|pg<|cP rs.length ks.length d,.str<|pg<|cP rs.length ks.length d]) B1:=by
  have t:=fT<|fM (ks:=fc (dV 3)<|fc (dV 6) fe) (env:=lE l k n za (.lst gl) (A.length+1) (ae<|.d d) (xN r) (ae<|.d<|.str (toPy d).shown) y9 k7 x11) zj zj lp;cases q:cP rs.length ks.length d with
  |true=>
    rw[q]at t;show Pr t<|ik [.str "",.str ""] zj (by rw[sz];simp)
  |false=>
    rw[q]at t;show Ps t<|ik [.str "page",.str "page"] zj (by rw[sz];simp)
 refine#[nV,q1,_,_,_,_,el,(fE<|kJ.lH<|fj (t zj<|fQ (r:=.old<|.int<|(gl.length:Int)+1) (ig (r:=.old<|.int gl.length) [.lst gl] (fj zj zj) zj) zj zj)<|fj (FN zj rV) zj).trans<|(fE<|(mn<|iD<|ik [.lst<|DL.cutD gl ah (ae r)++[d]++DL.cutD gl (ae r) ah,.lst [d],.tup gl] (fj (fQ (x:=.lst<|DL.cutD gl ah (ae r)++[d]) (y:=.lst<|DL.cutD gl (ae r) ah) (r:=.lst _) (fQ (x:=.lst<|DL.cutD gl ah<|ae r) (y:=.lst [d]) (r:=.lst _) (FM (r:=.lst _) zj zj (oN zj) zj) (ik [d] zj (by rw[sz];simp))<|if_pos (by simp;lia)) (FM (r:=.lst _) zj (oN zj) zj zj)<|if_pos (by simp;lia))<|fj (ik [d] zj (by rw[sz];simp))<|fj (ig (r:=.tup gl) [.lst gl] (fj zj zj) zj) zj) (by rw[sz];simp)).trans (by rw[<-abt];show f)).trans<|qS due<|(gV<|gM (fT<|fQ (r:=.old<|.bl af) (iS (bx1:=B1) (l:=[D.int 0,.int 1].map W.d) (ja<|gN [.int 0,.int 1] zj (by rw[sz];simp)) zj<|mt zj) zj<|Ur _)<|gM (fT<|fQ (x:=.lst []) (y:=.lst []) (r:=.old<|.bl af) ?_ (ik [] zj (by rw[sz];simp)) zj)<|fT<|fQ (r:=.old<|.bl af) (FN zj rV) zj<|Oi _).trans zj];have:=iZ (fn:=K13.Hi C) (nm:="pages") (n:=1) (i:=5) (k:=fe) (ws:=[]) (L:=pt A n q1) (C:=C) (h:=hs rs ks ps hd) (K:=.tup []) (Od:=.tup []) (er:=nV) (env:=lE l k n za (.lst gl) (A.length+1) (ae<|.d d) (xN r) (ae<|.d<|.str (toPy d).shown) y9 (ae<|.d<|.lst [.str<|pg<|cP rs.length ks.length d,.str<|pg<|cP rs.length ks.length d]) x11) (by rw[fN];rfl) zj pv;rw[eb nV]at this;show this
theorem iE {α:Type}{l:List α}(h:l.length=n+1):∃ x t,l=x::t /\ t.length=n:=by
 cases l with
 |nil=>cases h
 |cons x t=>show#[x,t,rfl,Nat.succ.inj h]
theorem abu (h:a.length+b.length<=sizeLine):fP (.lst a) (.lst b)=ae (.lst<|a++b):=if_pos h
noncomputable def u7:List D:=(List.range 16).map λ(i:Nat)=>.tup [.int i,.str "out",.int 0]
theorem TW (C) (l) (k:Nat) (bx) (xs:bu) (hx:xs.length=10):∃ (ys:bu) (bx':List Bx),ys.length=11 /\ abr C (ae (.s l)::xN (k)::xs) bx=.nx (ae (.s l)::ys) bx':=by
 iterate 2 (have h:=iE hx;clear hx;let#[_,xs,rfl,hx]:=h)
 have h:=iE hx;clear hx;let#[x4,xs,rfl,hx]:=h;have h:=iE hx;clear hx;let#[x5,xs,rfl,hx]:=h;have h:=iE hx;clear hx;let#[x6,xs,rfl,hx]:=h;have h:=iE hx;clear hx;let#[x7,xs,rfl,hx]:=h;have h:=iE hx;clear hx;let#[x8,xs,rfl,hx]:=h;have h:=iE hx;clear hx;let#[x9,xs,rfl,hx]:=h;have h:=iE hx;clear hx;let#[x10,xs,rfl,hx]:=h;have h:=iE hx;clear hx;let#[x11,xs,rfl,hx]:=h;cases Io hx;have sz:=bB;let#[c,ec]:=R8 l k bx;let#[p,ep]:=Tr c bx;obtain⟨A,hn,pA⟩:∃ A:List Bx,bx.length<A.length /\ bx++[Bx.lst [D.int p]]=pt A bx.length p:=
  #[bx++[.lst [.int p]],by simp,by unfold pt;simp]
 rw[pA]at ep;generalize bx.length=n at *;let#[rs,ks,ps,hd,q,eh,H]:=aJ.Mu hn p;let#[gs,q2,e3,nd,ok,gl]:=Mw (mo:=14) hn H q 30 zc zc zc zc;have mk:=SD (C:=C) H (k:=fc (dV 3) fe) (env:=[ae<|.s l,xN<|k,xB n,ae<|.d za,x4,x5,x6,x7,x8,x9,x10,x11]) (bx:=pt A n q2) zj;have eb:bk (pt A n q2) C za (.tup []) (.tup []) []=pt (bk A C za (.tup []) (.tup []) []) n q2:=by unfold bk;rw[fN,iY hn]
 rw[fN,eb]at mk;have hB:∀ er,n<(bk A C za (.tup []) (.tup []) er).length:=λer=>by simp;lia
 let#[os,q3,e4,ol,sh]:=TV (hB []) H q2;let#[aP,b',f1,y6,y7,y8,y9,k7,er,q4,rfl,rfl,_]:=mB (g:=ff 6) (λi env b=>∃ y6 y7 y8 y9 k7 er q,env=lE l k n za (.lst<|gs.map enc) (A.length+1) y6 y7 y8 y9 k7 x11 /\ b=pt (bk A C za (.tup []) (.tup []) er) n q /\ er.length<=2*i) (os.map W.d) 0 (lE l k n za (.lst<|gs.map enc) (A.length+1) x6 x7 x8 x9 x10 x11) (pt (bk A C za (.tup []) (.tup []) []) n q3) #[_,_,_,_,_,[],_,rfl,rfl,aA _] (by
  rintro i w env b hw ⟨y6,y7,y8,y9,k7,er,q,rfl,rfl,el⟩;have hi:=(List.getElem?_eq_some_iff.mp hw).1;rw[aX]at hi;let#[d,md,rfl]:=bc.mp<|eI hw;let#[nV,q',z7,z8,z9,af1,le,e]:=Ut (er:=er) hn H (gl:=gs.map enc) (by rw[aX];lia) zb d (sh d md) q;show#[_,_,_,_,rfl,e,_,_,_,_,_,_,_,rfl,rfl,by lia])
 let#[o,q5,e5,_]:=AC (hB er) q4;let#[z9,af1,f2]:=PH (l:=l) (k:=k) (n:=n) (P:=.lst<|gs.map enc) (j:=A.length+1) (x6:=y6) (x7:=y7) (x8:=y8) (x9:=y9) (x10:=k7) (x11:=ae<|.d<|.lst u7) (B:=pt (bk A C za (.tup []) (.tup []) er) n q5) H [.lst u7,.lst<|u7++[.tup [.int 16,.str "out",.int 0]],.lst<|gs.map enc++DL.cutD (gs.map enc) ah (ae 1),.az [(.inl 0,.lst<|gs.map enc)],.non,o,.lst []];have c1:=BW (gs.map enc) ah<|ae 1;have ahy:(gs.map enc).length=gs.length:=aX ..;have things:gj af (fc (dV 11)<|fc (d2 af fP (dV 11)<|gj af<|fc (fL<|fc (dC<|.int 16)<|fc (dC<|.str "out")<|fc zh fe) fe)<|fc (d2 af fP (dV 4)<|d6 af (dV 4) eU<|dM ze)<|fc (yh af 0 4)<|fc (dC .non)<|fc (fq K1.fS 1<|fc (dV 2) fe)<|fc (gj af fe) fe) (lE l k n za (.lst<|gs.map enc) (A.length+1) y6 y7 y8 y9 k7<|ae<|.d<|.lst u7) (pt (bk A C za (.tup []) (.tup []) er) n q4)=.val (.d<|.lst [.lst u7,.lst<|u7++[.tup [.int 16,.str "out",.int 0]],.lst<|gs.map enc++DL.cutD (gs.map enc) ah (ae 1),.az [(.inl 0,.lst<|gs.map enc)],.non,o,.lst []]) (pt (bk A C za (.tup []) (.tup []) er) n q5):=
  ik _ (fj zj<|fj (fQ (x:=.lst u7) (y:=.lst [.tup [.int 16,.str "out",.int 0]]) (r:=.lst _) zj (ik [.tup [.int 16,.str "out",.int 0]] (fj (gN [.int 16,.str "out",.int 0] zj (by rw[sz];simp)) zj) (by rw[sz];simp))<|abu (by rw[sz];simp[u7]))<|fj (fQ (x:=.lst<|gs.map enc) (y:=.lst<|DL.cutD (gs.map enc) ah<|ae 1) (r:=.lst _) zj (FM (r:=.lst _) zj zj (oN zj) zj)<|abu zb)<|fj zj<|fj zj<|fj (cV (l:=[.b n]) e5)<|fj (ik [] zj (by rw[sz];simp)) zj) (by rw[sz];simp)
 refine#[_,_,?_,qS (fM (fj (fM (fj zj<|fj zj zj) zj ec) zj) zj ep)<|qS (fM (fj zj zj) zj eh)<|(fE<|kJ.lH<|fj (fM (l:=[.b n,.d za,.d<|.int 14,.d<|.int 30]) zj zj e3)<|fj mk zj).trans<|(fE<|(mn<|iD<|fM (l:=[.b n,.d za]) zj zj e4).trans f1).trans<|qS (by
  have sz:=bB;refine Wi _ ?_ zj (by rw[sz];simp) λi _=>gN _ zj (by rw[sz];simp);rfl)<|(mn<|iD things).trans f2]
 rfl
theorem af2 (l) (bx) (xs:bu):∃ c,eT (fc (dN af maxD<|fc ze<|fc (dN af minD<|fc (uH<|dV 0)<|fc (dC<|.int 5) fe) fe) fe) (ae (.s l)::xs) bx=.val (f9 0 c) bx:=by
 have e3:=ig [.int 1,.int<|min (l.length) 5] (g:=maxD) (fj (m:=dC _) zj<|fj (ig (env:=ae (.s l)::xs) (bx:=bx) _ (fj (m:=uH<|dV 0) zj<|fj (m:=dC _) (ks:=fe) zj zj)<|TD _ _) (ks:=fe) zj) zj;generalize hz:(if min (l.length:Int) 5>1 then min (l.length:Int) 5 else 1)=z at e3;show#[z.toNat,Az (fj e3 zj) zb]
theorem law_true (C) (l) (hl:l.length<=1000):∃ bx',K13.fn_law C [.s l] []=.val (.d<|.bl ag) bx':=by
 let#[c,ec]:=af2 l [] _;let#[aP,bx',e,ys,rfl,hy]:=mB (g:=ff 1) (λ_ env b=>∃ ys,env=ae _::ys /\ ys.length=11) (f9 0 c) 0 (ae _::List.replicate 11 ah) [] #[_,rfl,rfl] (by
  rintro i w env b hw ⟨ys,rfl,hy⟩;let#[k,_,rfl]:=bc.mp<|eI hw;let#[x,ys,rfl,h]:=iE hy;let#[zs,bx',hz,e]:=TW C l k b ys h;show#[ae _::ae _::ys,b,_,_,by rw[YW];rfl,e,zs,rfl,hz])
 refine#[_,lc (bx':=bx') ?_];show(fE<|(mn ec).trans e).trans (gz zj)
end K13
namespace L2.DL
open PySem.W

theorem OI (bo) (h:k1≠k2 /\ k1≠k3 /\ k2≠k3) :
 PD X T Z (.Dict [ae<|.Constant (.int k1) a1 p1,ae<|.Constant (.int k2) a2 p2,ae<|.Constant (.int k3) a3 p3] [.Constant (.str v1) b1 q1,.Constant (.str v2) b2 q2,.Constant (.str v3) b3 q3] pos) (d7 bo [(.inl k1,.str v1),(.inl k2,.str v2),(.inl k3,.str v3)]):=by
 refine PE.imp (BE (jW jp mG<|jW jp mG<|jW jp mG BD) zj zj (by simp) zg) λσ H Q=>bg λF r env bx R h0=>?_;intro p hp;let#[h1,h2,h3]:=h;have e:vZ [] [((.inl k1),V.str v1),(.inl k2,V.str v2),(.inl k3,V.str v3)]=[(.inl k1,V.str v1),(.inl k2,V.str v2),(.inl k3,V.str v3)]:=by
  simp[vZ,putK,h1,h2,h3]
 refine#[fu,[(.inl k1,.str v1),(.inl k2,.str v2),(.inl k3,.str v3)],rfl,by simp,?_];rw[Bp,e];show gQ R h0 #[p,_,rfl,hp,rfl,#[_,_,rfl,rfl,#[_,_,rfl,rfl,#[_,_,rfl,rfl,rfl]]]]
structure Cf where
 N:List Str
 nm:List (Str×NameKind)
 f:Bool
 bx:List Str
 dc:List Str
 wk:List (Str×Nat)   -- 1: a tuple of ahz,2: a box that is walked,3: a dict with tuple keys
 K9:Str
 fs:List (Str×(Nat×(List W->List Bx->O W)))
 gl:List (Str×Int)
 bl:List Str
 rb:Bool
 rx:Bool
 tr:Bool
 ow:List Str
 C:ai:=0          -- the class of acs own,its attributes,its methods,how it is made
 fl:List Str:=[]
 ms:List (Str×(Nat×(List W->List Bx->O W))):=[]
 mc:Option (Str×(Str×aE)):=ah
structure Qa (P:cT) (w:cj) (K:PySem.W.Frag) (mg:Str->Option au) (base:aK) (cl:Nat->ai) (C:ai) (fl:List Str) (ms:List<|Str×(Nat×(List W->List Bx->O W))) (mk:Option<|Str×(Str×aE)) (k:Nat):zk where
 cls:fl≠[]->kD K C
 na:∀ f,f∈fl->qK K C f
 ms:∀ x n fn,ms.lookup x=ae (n,fn)->∃ kk ps,Hc P w K mg base cl C kk x ps fn /\ ps.length=n /\ kk<=k
 mc:∀ x f m,mk=ae (x,(f,m))->mg x=ae (.ref C) /\ ∃ g fd ps kk,Mk K C g /\ cQ P w K mg base (dq P w) kk g fd ps (KH C f m) /\ Binds K fd ps [] /\ kk+1<=k
structure bM (c:Cf) (k:Nat) (X:Cx) (Z:Xs):zk where
 N:X.N=c.N
 nm:X.env.scope.names=c.nm
 kd:X.env.scope.kind=.function
 calm:X.calm=ag
 fn:c.f=ag->∀ x,X.fn x=ag
 ow:∀ x,x∈c.ow->X.fn x=ag
 nd:c.N.Nodup
 room:bI k X.A
 fs:∀ x n fn,c.fs.lookup x=ae (n,fn)->∃ kk ps,rm X.prog X.w X.K X.mg X.base Z.cl kk x ps fn /\ ps.length=n /\ kk<=k
 gl:∀ x v,c.gl.lookup x=ae v->∃ t,X.mg x=ae (.int v t)
 bl:∀ x,x∈c.bl->X.mg x=ah
 Qb:Passes (dq X.prog X.w) X Z.E
 ti:pX X.K "int"
 tb:pX X.K "bool"
 tt:pX X.K "tuple"
 tl:pX X.K "list"
 ts:pX X.K "str"
 own:c.rx=af->PassesOwn zd X.A X.env X.xe
 af3:c.rx=ag->uD X Z.E /\ ∃ R,kU X.K X.mg R Z.cl
 abv:c.tr=ag->(∃ R,kU X.K X.mg R Z.cl) /\ E9 X.prog X.w X.K X.mg X.base Z.cl /\ 1<=k /\ X.stack=X.env::X.outer /\ X.env.frame=ae X.env.locals
 ob:Qa X.prog X.w X.K X.mg X.base Z.cl c.C c.fl c.ms c.mc k
noncomputable def aM {α}:DE α:=λ_ _=>.bad

theorem fF:PD X T Z e aM:=λ_ _ _ _ _ _ h=>by
 let#[_,_,_,_,_,h]:=h;show h.elim
theorem io:vQ X T Z e aM:=λ_ _ _ _ _ _ h=>by
 let#[_,_,_,_,_,h]:=h;show h.elim
theorem Gg:Km X T Z e aM:=λ_ _ _ _ _ _ _ h=>by
 let#[_,_,_,_,_,h]:=h;show h.elim
theorem B8:xS X T Z tg e aM:=λ_ _ _ _ _ _ h=>by
 let#[_,_,_,_,_,h]:=h;show h.elim
noncomputable def wB:DG:=λ_ _ _=>ah
noncomputable def af4:uF:=λ_ _ _=>ah
theorem lA:qV X T e wB:=λ_ _ _ _ _ _ _ _ _ h=>by
 let#[_,_,_,_,_,_,_,h]:=h;show h.elim
noncomputable def Cf.kd (c:Cf) (x:Str) (n:Nat):Bool:=match c.wk.lookup x with|some k=>k==n|none=>af
def abw (c:Cf) (n:Nat):aD->Bool
 |.Name x _=>c.kd x n
 |.Subscript _ (.Constant (.str x) _ _) _=>c.kd x n
 |_=>af
noncomputable def wC (c:Cf):aD->Bool
 |.Name x _=>c.dc.contains x
 |.Subscript _ (.Constant (.str x) _ _) _=>c.dc.contains x
 |.Call (.Name x _) _ _ _=>c.dc.contains x
 |_=>af
noncomputable def Cf.ix (c:Cf) (x:Str):Option Nat:=c.N.findIdx? λy=>decide (y=x)
theorem Cf.Wr {c:Cf}(h:c.ix x=ae i):c.N[i]?=ae x:=by
 let#[h1,h2,_]:=List.findIdx?_eq_some_iff_getElem.mp h;rw[cW h1,of_decide_eq_true h2]
noncomputable def Cf.wD (c:Cf) (x:Str):Bool:=(decide (c.nm.lookup x=ae .local)||decide (c.nm.lookup x=ae .cell)||decide (c.nm.lookup x=ae .free))&&!(x==("__debug__"))&&!(x==("__classdict__"))
noncomputable def Cf.uc (c:Cf) (x:Str):Bool:=decide (c.nm.lookup x=ae .globalImplicit)&&!(x==("__debug__"))&&decide (x≠("__name__"))
noncomputable def Cf.yD (c:Cf) (x:Str):Bool:=(decide (c.nm.lookup x=ae .local)||decide (c.nm.lookup x=ae .cell))&&(c.f||decide (x∈c.ow)||decide (c.nm.lookup x=ae .local))
def Cf.pD (c:Cf) (x:Str):Bool:=c.uc x&&decide (x∈c.bl)

theorem bM.Ws (O:bM c k X Z) (h:c.wD x=ag):qH X.env.scope x /\ (x==("__debug__"))=af /\ (x==("__classdict__"))=af:=by
 erw[Cf.wD,aH,sV,decide_eq_true_eq,kN]at h;unfold qH;rw[O.nm];show#[or_assoc.mp h.1.1,h.1.2,h.2]
theorem bM.gb (O:bM c k X Z) (h:c.uc x=ag):Gl X x /\ (x==("__debug__"))=af /\ x≠("__name__"):=by
 erw[Cf.uc,aH,decide_eq_true_eq,kN]at h;unfold Gl Env.kindOf;rw[O.nm];show#[h.1.1,h.1.2,h.2]
theorem bM.lo (O:bM c k X Z) (h:c.yD x=ag):Loc X.env.scope x /\ (X.fn x=ag \/ X.env.scope.names.lookup x=ae .local):=by
 simp[Cf.yD,aH,sV,decide_eq_true_eq]at h;unfold Loc;rw[O.nm];show#[h.1,h.2.imp (λz=>z.elim (λz=>O.fn z x)<|O.ow x) id]
theorem bM.blt (O:bM c k X Z) (h:c.pD x=ag):Gl X x /\ (x==("__debug__"))=af /\ x≠("__name__") /\ X.mg x=ah:=by
 simp[Cf.pD,aH,decide_eq_true_eq]at h;let#[a,b,d]:=O.gb h.1;show#[a,b,d,O.bl x h.2]
theorem bM.at (O:bM c k X Z) (h:c.ix x=ae i):X.N[i]?=ae x:=by rw[O.N];show c.Wr h
theorem bM.wF (O:bM c k X Z):X.N.Nodup:=by rw[O.N];show O.nd
theorem bM.u0 (O:bM c k X Z):X.A.units+100<cLine:=by have:=O.room.un;lia
theorem bM.u1 (O:bM c k X Z):X.A.units+1<cLine:=by have:=O.room.un;lia
def Wt (c:Cf) (fz:Bool) (x:Str):DE W:=match c.ix x with
 |some i=>if c.wD x then (if fz&&c.bx.contains x then tT i else dV i) else aM
 | none=>match c.gl.lookup x with
   |some v=>if c.uc x then dC (.int v) else aM
   |none=>aM
theorem MF (O:bM c k X Z) (fz):PD X T Z (.Name x pos) (Wt c fz x):=by
 unfold Wt;split
 .ext i e;split
  .ext h;let#[a,b,d]:=O.Ws h;split
   .show Ry i (O.at e) a b d
   .show JS i (O.at e) a b d
  .show fF
 .split
  .ext v e;split
   .ext h;let#[a,b,_]:=O.gb h;show(λhg hm hd=>by
     let#[t,hm]:=hm;show Cp (gq (v:=.int v) hg hm #[t,rfl] hd) λ_=>rfl) a (O.gl x v e) b
   .show fF
  .show fF

def ud (f:aD->DE W):List aD->DE (List W)
 |[]=>fe
 |e::es=>if cJ e then fc (f e) (ud f es) else aM
theorem lf (h:∀ e,PD X T Z e<|f e):∀ es,pj X T Z es (ud f es)
 |[]=>lh
 | e::es=>by
   unfold ud;split
   .ext n;show l9 (h e) (lf h es) n
   .show(λ_ _ _ _ _ _ _ h=>by
    let#[_,_,_,_,_,h]:=h;show h.elim)
def Wu (f:aD->DE W):List aD->DE W
 |[]=>aM
 |[a]=>f a
 |a::r=>gT (f a)<|Wu f r
theorem Gh (h:∀ e,PD X T Z e<|f e):∀ es,PD X T Z (.BoolOp .And es pos) (Wu f es)
 |[]=>fF
 |[a]=>JU<|h a
 | a::b::r=>(λha hb=>by
   refine PE.imp (PV ha hb) λσ H Q=>bg λF r env bx R h=>?_;refine#[F,r,env,bx,R,End.bind h λw bx1 F1 r1 v H1 g1 R1 d1 h1=>?_];split at h1
   .show#[ag,d1,(#[F1,r1,env,bx1,R1,h1])]
   .show#[af,d1,(h1 F1 r1 _ H1 (.refl F1 r1) R1 zj)]
   .show h1.elim) (h a)<|Gh h _
def Wv (f:aD->DE Bool):List aD->DE Bool
 |[]=>aM
 |[a]=>f a
 |a::r=>qt (f a)<|Wv f r
theorem C8 (h:∀ e,vQ X T Z e<|t e):∀ es,Km X T Z (.BoolOp .And es pos) (Wv t es)
 |[]=>Gg
 |[a]=>(λh=>MU h)<|h a
 | a::b::r=>(λha hb=>by
   refine PW.imp (PR ha hb) λσ H Q=>bg λF r env bx R h=>?_;refine#[F,r,env,bx,R,End.bind h λk bx1 F1 r1 v H1 g1 R1 d1 h1=>?_];subst d1;cases k with
   |true=>show#[F1,r1,env,bx1,R1,h1]
   |false=>show h1 F1 r1 _ H1 (.refl F1 r1) R1 zj) (h a)<|C8 h _
def Ww (f:aD->DE Bool):List aD->DE Bool
 |[]=>aM
 |[a]=>f a
 |a::r=>eS (f a)<|Ww f r
theorem Gi (h:∀ e,vQ X T Z e<|t e):∀ es,Km X T Z (.BoolOp .Or es pos) (Ww t es)
 |[]=>Gg
 |[a]=>(λh=>Jl h)<|h a
 | a::b::r=>(λha hb=>by
   refine PW.imp (O4 ha hb) λσ H Q=>bg λF r env bx R h=>?_;refine#[F,r,env,bx,R,End.bind h λk bx1 F1 r1 v H1 g1 R1 d1 h1=>?_];subst d1;cases k with
   |false=>show#[F1,r1,env,bx1,R1,h1]
   |true=>show h1 F1 r1 _ H1 (.refl F1 r1) R1 zj) (h a)<|Gi h _
def Wx (f:aD->DE W):List aD->DE W
 |[]=>aM
 |[a]=>f a
 |a::r=>EE (f a)<|Wx f r
theorem MG (h:∀ e,PD X T Z e<|f e):∀ es,PD X T Z (.BoolOp .Or es pos) (Wx f es)
 |[]=>fF
 |[a]=>JU<|h a
 | a::b::r=>(λha hb=>by
   refine PE.imp (SX ha hb) λσ H Q=>bg λF r env bx R h=>?_;refine#[F,r,env,bx,R,End.bind h λw bx1 F1 r1 v H1 g1 R1 d1 h1=>?_];split at h1
   .show#[ag,d1,(h1 F1 r1 _ H1 (.refl F1 r1) R1 zj)]
   .show#[af,d1,(#[F1,r1,env,bx1,R1,h1])]
   .show h1.elim) (h a)<|MG h _
def Qc (g:aD->DG):List aD->uF
 |[]=>mZ
 |e::es=>if cJ e then gG (g e) (Qc g es) else af4
theorem MH (h:∀ e,qV X T e<|g e):∀ es,Ko X T es (Qc g es)
 | []=>(rZ.imp D5 λv σ H Q=>EA λF r env bx w R d h=>by
   cases w with
   |nil=>show#[d,h F r σ H (.refl F r) R]
   |cons _ _=>show h.elim)
 | e::es=>by
   unfold Qc;split
   .ext n;show(λh1 h2 hn=>Gz h1 h2 (by rw[j0 hn];rfl)) (h e) (MH h es) n
   .show(λ_ _ _ _ _ _ _ _ _ h=>by
    let#[_,_,_,_,_,_,_,h]:=h;show h.elim)
def abx:Operator->Option (D->D->Option Res)
 |.Add=>ae fP|.Sub=>ae dE|.Mult=>ae pY|.FloorDiv=>ae EJ|.Mod=>ae sk|.Pow=>ae sq
 |_=>ah
def u9:CmpOp->Option (D->D->Option Res)
 |.Eq=>ae aZ|.NotEq=>ae cR|.Lt=>ae kZ|.LtE=>ae qw|.Gt=>ae pz|.GtE=>ae uG|.In=>ae (inD af)|.NotIn=>ae<|inD ag
 |_=>ah
theorem OJ (h:abx op=ae g):∃ q,bV X (binaryOp op) q /\ nD q g:=by
 cases op<;>cases h
 .show#[_,(P4.or<|M4.or<|JY.or<|o9.or Df),aeb]
 .show#[_,(ZD λ_ _ _ _ _ _ _ q=>sub_int q),(Kt λ_ _ _=>rfl)]
 .show#[_,(P5),(Ks λ_ _ _=>rfl)]
 .show#[_,(IU λi j _ _ _ _ _ hc q=>by
  show mod_int' zb (by rw[Int.fmod_eq_emod_of_nonneg i zb];show q)),(Ks λ_ _ _=>rfl)]
 .show#[_,(IU λ_ _ _ _ _ _ _ hc q=>pow_int_small hc.1 hc.2.1 hc.2.2 q),(Ks λ_ _ _=>rfl)]
 .show#[_,(IU λi j _ _ _ _ _ hc q=>by
  have h1:=hc.1;have h2:=hc.2;refine floordiv_int zb (by rw[Int.fdiv_eq_ediv_of_nonneg i zb];show q)<|.inl<|PyProof.noPylong_of_log2 ?_;have h3:j.natAbs.log2<133:=(X2 zb).mpr zb
  lia),(Ks λ_ _ _=>rfl)]
theorem lB (hu:X.A.units+100<cLine) (h:u9 op=ae g):∃ q,bV X (compareOp op) q /\ nD q g:=by
 cases op<;>cases h
 .show#[_,(λhu=>((Nf zb).or<|Rs hu).or<|Ru hu) hu,(λF H x y v w Q s sub rx ry e k=>(Rv e).imp (λe=>e.imp (λe=>aef F H x y v w Q s sub rx ry e k) λe=>aaB af F H x y v w Q s sub rx ry e k) λe=>aeA F H x y v w Q s sub rx ry e k)]
 .show#[_,(λhu=>(Ng zb).or<|Rt hu) hu,(λF H x y v w Q s sub rx ry e k=>(Rw e).imp (λe=>aeh F H x y v w Q s sub rx ry e k) λe=>aaB ag F H x y v w Q s sub rx ry e k)]
 .show#[_,(λhu=>SZ.or<|RM hu) zb,(by
  intro F H x y v w Q s sub rx ry e k;unfold kZ at e;split at e
  .cases e;show .inl #[_,_,rx,ry,k _ _ #[rfl,rfl]]
  .split at e
   .ext l m e1 e2;split at e
    .ext c;cases e;rw[Ak e1]at rx;rw[Ak e2]at ry;let#[p,vs,rfl,h1,h2]:=rx;let#[q,us,rfl,h3,h4]:=ry;show .inr #[F,p,q,vs,us,l,m,rfl,rfl,sub,h1,h3,h2,h4,c,k _ _ #[rfl,rfl]]
    .cases e
   .cases e
  .cases e)]
 .show#[_,Rx zb,(Kt λ_ _ _=>rfl)]
 .show#[_,(IV λ_ _ _ _ _ _ _ q=>gt_int q),(Kt λ_ _ _=>rfl)]
 .show#[_,(IV λ_ _ _ _ _ _ _ q=>ge_int q),(Kt λ_ _ _=>rfl)]
 .show#[_,Gv.or<|(λhu=>by
  intro pins s σ H x y v u Q I rx ry h;let#[F,dx,dy,sub,hx,hy,ox,oy,l,hl,q]:=h;let#[as,ra]:=gR I sub hx rx;let#[bs,rb]:=gR I sub hy ry;let#[x1,x2]:=jZ ox;let#[y1,y2]:=jZ oy;rcases hl with rfl|rfl
  .show SeqAt.in_list_reads rb ra y1 x1 zb (by rw[lu];show#[.bl _,H,I,rfl,q])
  .show SeqAt.in_tuple_reads rb ra y1 x1 zb (by rw[lu];show#[.bl _,H,I,rfl,q])) hu,okIn af]
 .show#[_,By.or<|(λhu=>by
  intro pins s σ H x y v u Q I rx ry h;let#[F,dx,dy,sub,hx,hy,ox,oy,l,hl,q]:=h;let#[as,ra]:=gR I sub hx rx;let#[bs,rb]:=gR I sub hy ry;let#[x1,x2]:=jZ ox;let#[y1,y2]:=jZ oy;rcases hl with rfl|rfl
  .show SeqAt.notIn_list_reads rb ra y1 x1 zb (by rw[lu];show#[.bl _,H,I,rfl,q])
  .show SeqAt.notIn_tuple_reads rb ra y1 x1 zb (by rw[lu];show#[.bl _,H,I,rfl,q])) hu,okIn ag]
def Wy:List (Str×(Bool×(String×(List D->Option Res)))):=
 [("len",af, "len",aQ),("all",af, "all",dZ),("sorted",af, "sorted",dG),("max",af, "max",maxD),("min",af, "min",minD),
  ("tuple",ag, "tuple",qu),("list",ag, "list",qW)]
def af5 (X:Cx) (x:Str) (p:Bool×(String×(List D->Option Res))):zk:=
 match p with
 |(af,id,g)=>bootBuiltins x=ae (.builtin id) /\ ∃ q,pN X (.builtin id) q /\ qT q g
 |(ag,id,g)=>bootBuiltins x=ae (.type id) /\ ∃ q,pN X (.type id) q /\ qT q g
theorem iB {α:Type}{P:Str->α->zk}:∀ {l:List _}{x}{a},(∀ p∈l,P p.1 p.2)->l.lookup x=ae a->P x a
 |[],_,_,_,e=>by cases e
 | (y,b)::r,x,a,h,e=>by
   rw[hG]at e;cases hx:x==y with
   |true=>
     rw[hx]at e;cases e;have:x=y:=by simpa using hx
     subst this;show h _<|bO ..
   |false=>
     rw[hx]at e;show iB (λp m=>h p<|bD _ m) e
theorem OK (hc:X.calm=ag) (hu:X.A.units+100<cLine) (h:Wy.lookup x=ae p):af5 X x p:=by
 refine iB (λp m=>?_) h;simp[Wy,a9,pM,or_false]at m;rcases m with rfl|rfl|rfl|rfl|rfl|rfl|rfl
 .show#[rfl,_,lV,(by
  intro F H xs vs Q s sub rx e k;unfold aQ at e;split at e
  .cases e;let#[v,t,rfl,#[a,us,rfl,h1,h2],rt]:=rx;cases (rt);show#[a,us,rfl,.inl<|.of h1,k _ _ #[rfl,by rw[<-h2.length];rfl]]
  .cases e;let#[v,t,rfl,#[a,us,rfl,h1,h2],rt]:=rx;cases (rt);show#[a,us,rfl,.inr<|.of<|sub _ _ h1,k _ _ #[rfl,by rw[<-h2.length];rfl]]
  .cases e)]
 .show#[rfl,_,GE hc,(by
  intro F H xs vs Q s sub rx e k;unfold dZ at e;split at e
  .ext l;let#[v,t,rfl,#[a,us,rfl,h1,h2],rt]:=rx;cases (rt);cases e1:sx l with
   |none=>rw[e1]at e;cases e
   |some bs=>
     rw[e1]at e;cases e;have q1:=h2.aap e1;subst q1;show#[a,bs,rfl,h1,k _ _ #[rfl,rfl]]
  .cases e)]
 .show#[rfl,_,DD hu,(by
  intro F H xs vs Q s sub rx e k;unfold dG at e;cases er:tO xs with
  |some r=>
    rw[er]at e;cases e;show .inl<|aes F H xs vs Q s sub rx er k
  |none=>
    rw[er]at e;dsimp only at e;split at e
    .ext l;cases e1:rowsOf l with
     |none=>rw[e1]at e;cases e
     |some rs=>
       rw[e1]at e;erw[bJ]at e;split at e
       .ext hc;cases e;let#[v,t,rfl,#[a,us,rfl,h1,h2],rt]:=rx;cases (rt);let#[b1,b2]:=Bd e1;subst b1;show .inr #[F,a,us,rs,rfl,sub,.inl<|.of h1,h2,b2,hc.1,hc.2,λq ys hq hy=>k _ _ #[q,ys,rfl,hq,rfl,hy]]
       .cases e
    .ext l;cases e1:rowsOf l with
     |none=>rw[e1]at e;cases e
     |some rs=>
       rw[e1]at e;erw[bJ]at e;split at e
       .ext hc;cases e;let#[v,t,rfl,#[a,us,rfl,h1,h2],rt]:=rx;cases (rt);let#[b1,b2]:=Bd e1;subst b1;show .inr #[F,a,us,rs,rfl,sub,.inr<|.of<|sub _ _ h1,h2,b2,hc.1,hc.2,λq ys hq hy=>k _ _ #[q,ys,rfl,hq,rfl,hy]]
       .cases e
    .cases e)]
 .show#[rfl,_,(λhc=>by
  intro pins s σ H xs us Q I r h;let#[i,j,rfl,q]:=h;let#[u,w',rfl,#[t,rfl],#[t',rfl]]:=vals2 r;refine max_two_ints (I.ok.hd hc) λh' tk k=>#[_,H,I.kept k,?_,q];by_cases hj:j>i
  .rw[if_pos hj,if_pos hj];show#[_,rfl]
  .rw[if_neg hj,if_neg hj];show#[_,rfl]) hc,ael]
 .show#[rfl,_,(λhc=>by
  intro pins s σ H xs us Q I r h;let#[i,j,rfl,q]:=h;let#[u,w',rfl,#[t,rfl],#[t',rfl]]:=vals2 r;refine min_two_ints (I.ok.hd hc) λh' tk k=>#[_,H,I.kept k,?_,q];by_cases hj:j<i
  .rw[if_pos hj,if_pos hj];show#[_,rfl]
  .rw[if_neg hj,if_neg hj];show#[_,rfl]) hc,aem]
 .show#[rfl,_,(by
  intro pins s σ H xs us Q I r h;let#[p,ys,rfl,h]:=h;let#[u,rfl,rx]:=vals1 r;cases rx;rcases h with⟨hq,q⟩|⟨hq,q⟩
  .let#[its,r',pl,hz]:=I.list hq;have hlen:=r'.length;refine call_tuple_list pl.isList (λh' kp=>?_) (by simp[bZ]<;>lia);have I1:Inv X pins σ H { s with heap:=h' }:=I.kept kp;have I2:Inv X pins σ (upd H h'.objs.size<|.tup ys) { s with heap:=h'.push { cls:=.type "tuple",data:=.seq its.toArray } }:=
    I1.laid (λb o e=>aR _ e) (aA _) (#[hz,its,r',IsTup.new _ _])
   show#[.ref h'.objs.size,_,I2,rfl,q _<|I1.ay.fresh<|aA _]
  .let#[its,r',pl,hz]:=I.tuple hq;show call_tuple_same pl #[.ref p,H,I,rfl,q]),aej]
 .show#[rfl,_,(by
  intro pins s σ H xs us Q I r h;let#[p,ys,rfl,hq,q]:=h;let#[u,rfl,rx]:=vals1 r;cases rx
  have fin:∀ (its),Vals ys its->ys.length<=sizeLine->∀ (h') (c'),(∀ b o',s.heap.get? b=ae o'->h'.get? b=ae o') ->
   h'.get? s.heap.objs.size=ae { cls:=.type "list",dict:=ah,data:=.seq its.toArray c',slots:=#[] }->EP X pins σ Q _ { s with heap:=h' }:=λits r' hz h' c' kp e=>
   #[.ref s.heap.objs.size,_,I.laid kp (aA _) (show cq X.prog X.w _ h' _ (.lst ys) from#[hz,its,c',r',e]),rfl,q _<|I.ay.fresh<|aA _]
  rcases hq with hq|hq
  .let#[its,r',pl,hz]:=I.list hq;have hlen:=r'.length;let#[o,ho,hc,n,hd]:=pl.isList;show XX p (.inl zj) ho hc hd (λh' c' kp e=>fin its r' hz h' c' kp e) (by simp[bZ]<;>lia)
  .let#[its,r',pl,hz]:=I.tuple hq;have hlen:=r'.length;let#[o,ho,hc,n,hd]:=pl;show XX p (.inr zj) ho hc hd (λh' c' kp e=>fin its r' hz h' c' kp e) (by simp[bZ]<;>lia)),aek]
noncomputable def aby:List (Str×String):=[("int","int"),("bool","bool"),("tuple","tuple"),("list","list"),("str","str")]
noncomputable def yE:aD->Bool
 |.Call ..=>af
 |_=>ag
theorem iF (h:yE o=ag):attributeBase o a env whole=whole:=by
 cases o<;>first|rfl|cases h
noncomputable def plainT:aD->Bool
 |.BoolOp ..|.UnaryOp ..|.IfExp ..|.Compare ..=>af
 |_=>ag
theorem Jf (h:plainT e=ag) (whole):PySem.isTrue e env whole=(do let v <-whole;standAt e.pos;holding [v] (truthy v)):=by
 cases e<;>first|rfl|cases h
noncomputable def Qd:aD->Bool
 |.Set ..=>af
 |_=>ag
theorem mE (h:Qd e=ag) (x):foldedSetIterable e env x=pure x:=by
 cases e<;>first|rfl|cases h
noncomputable def vb:aD->Bool
 |.ListComp ..|.SetComp ..|.DictComp ..=>ag
 |_=>af
theorem jo (h:vb e=af):swapsWith e t l env=pure af:=by
 cases e<;>first|rfl|cases h
noncomputable def Hz:aD->Bool
 |.Slice ..=>af
 |_=>ag

theorem AJ (h:Hz b=ag):Vo b:=λ_ _=>by
 cases b<;>first|rfl|cases h
theorem OL (h:Hz b=ag):VU b:=λ_ _=>by
 cases b<;>first|rfl|cases h
theorem Wz (h:cJ e=ag):((backTo pos<|starEach [e] env).all (λx=>!x.1)&&(backToKw pos<|keywordEach [] env).all (λx=>x.1.isSome)&&decide ([e].length+([]:List Keyword).length+(if ([]:List Keyword).isEmpty then 0 else 1)<30))=ag:=by
 rw[fH h];rfl

def WA (c:Cf) (f:aD->DE W) (x:Str) (es:List aD):DE W:=match c.mc with
 | some (y,(fl,m))=>(match es with
   |[]=>aM
   |e::es=>if x=y /\ (c.uc x&&eV (e::es))=ag then yk c.C fl m (ud f (e::es)) else aM)
 |none=>aM
theorem SF (O:bM c k X Z) (h:∀ e,PD X T Z e<|f e) (es):PD X T Z (.Call (.Name x p) es [] pos) (WA c f x es):=by
 unfold WA;split
 .ext y fl m e;split
  .show fF
  .split
   .ext q;let#[rfl,q]:=q;rw[aH]at q;let#[g1,g2,_]:=O.gb q.1;let#[hm,g,fd,ps,kk,M,G,hb,hk]:=O.ob.mc _ _ _ e;show NB M G O.room hk g1 hm hb O.Qb (lf h _) q.2 g2
   .show fF
 .show fF
def yF (c:Cf) (f:aD->DE W) (bo:Bool) (x:Str) (es:List aD):DE W:=
 match c.fs.lookup x with
 | some (n,fn)=>(match es with
   |[]=>aM
   |e::es=>if c.uc x&&eV (e::es) then fq fn n (ud f (e::es)) else aM)
 | none=>match Wy.lookup x with
   | some (_,_,g)=>(match es with
     |[]=>aM
     |e::es=>if c.pD x&&eV (e::es) then dN bo g (ud f (e::es)) else aM)
   |none=>WA c f x es
theorem oT (O:bM c k X Z) (h:∀ e,PD X T Z e<|f e) (bo) (es):PD X T Z (.Call (.Name x p) es [] pos) (yF c f bo x es):=by
 unfold yF;split
 .ext n fn e;split
  .show fF
  .split
   .ext a as q;rw[aH]at q;let#[g1,g2,_]:=O.gb q.1;let#[kk,ps,hh,hn,hk]:=O.fs x n fn e;show Td hh O.room hk g1 O.Qb (lf h _) q.2 hn g2
   .show fF
 .split
  .ext ty id g e;split
   .show fF
   .split
    .ext a as q;rw[aH]at q;let#[g1,g2,g3,g4]:=O.blt q.1;have b:=OK O.calm O.u0 e;cases ty with
     |false=>
       let#[b1,qq,b2,b3]:=b;show Tc bo b2 b3 g1 g4 b1 (lf h _) q.2 g3 g2
     |true=>
       let#[b1,qq,b2,b3]:=b;show RH bo b2 b3 g1 g4 b1 (lf h _) q.2 g3 g2
    .show fF
  .show SF O h _
noncomputable def WB (c:Cf):aD->Bool
 |.Name x _=>decide (x=c.K9)
 |_=>af
def yG (c:Cf) (f:aD->DE W) (bo:Bool) (x:Str) (es:List aD):DE W:=match es with
 | [a]=>if x="repr" then (if c.pD "repr"&&cJ a then v8 (f a) else aM) else if x="len" /\ WB c a=ag then (if c.pD "len"&&cJ a then uH (f a) else aM)
   else if x="list" /\ abw c 3 a=ag then (if c.pD "list"&&cJ a then KO bo (f a) else aM) else yF c f bo x es
 |_=>yF c f bo x es
def WC (c:Cf) (f:aD->DE W) (bo:Bool) (x:Str) (es:List aD):DE W:=
 if x="isinstance" then (match es with
  | [a,.Name t _]=>(match aby.lookup t with
    |some n=>if c.pD "isinstance"&&c.pD t&&cJ a then gJ n (f a) else aM
    |none=>aM)
  |_=>aM)
 else match es with
  | [.Call g as [] cp]=>(match g with
    | .Name y _=>(match as with
      |[a]=>if x="len" /\ y="set" then (if c.pD "len"&&c.pD "set"&&cJ a then dN af He (fc (f a) fe) else aM) else yF c f bo x es
      |_=>yG c f bo x es)
    | .Attribute o n ap=>(match as with
      |[]=>if x="sorted" /\ n="items" then (if c.pD "sorted"&&yE o&&(ap.endLine==cp.line) then Hf bo (f o) else aM) else yF c f bo x es
      |_=>yG c f bo x es)
    |_=>yG c f bo x es)
  |_=>yG c f bo x es
theorem B9 (O:bM c k X Z) (h:∀ e,PD X T Z e<|f e) (bo) (es):PD X T Z (.Call (.Name x p) es [] pos) (yG c f bo x es):=by
 unfold yG;split
 .ext a;split
  .ext hx;subst hx;split
   .ext q;rw[aH]at q;let#[g1,g2,g3,g4]:=O.blt q.1;show(λhr hg hm ha he=>by
     refine PE.imp (fV (GK hr) hg hm (by decide +kernel) (fA ha fR he) zc (rfl) he (by rfl)) λσ H Q=>bg λF r env bx R h=>?_;refine#[F,r,env,bx,R,End.bind h λw bx1 F1 r1 v H1 g1 R1 d1 h1=>?_];split at h1
     .ext d er;let#[F2,sub,d2]:=Nm R1.fh<|R1.qQ d1 er;split at h1
      .ext hc;unfold v7 at hc;rw[aH,aH]at hc;show#[F2,d,v,rfl,sub,d2,hc.1.1,of_decide_eq_true hc.1.2,of_decide_eq_true hc.2,h1 F1 r1 _ H1 (.refl F1 r1) R1 zj]
      .show h1.elim
     .show h1.elim) O.room g1 g4 (h a) (fH q.2 _ _)
   .show fF
  split
  .ext hx;let#[rfl,_]:=hx;split
   .ext q;rw[aH]at q;let#[g1,g2,g3,g4]:=O.blt q.1;show(λhg hm ha he=>by
     refine PE.imp (fV lV hg hm XQ (fA ha fR he) zc (rfl) he (by rfl)) λσ H Q=>bg λF r env bx R h=>?_;refine#[F,r,env,bx,R,End.bind h λw bx1 F1 r1 v H1 g1 R1 d1 h1=>?_];cases w with
     |b _=>show h1.elim
     |d _=>show h1.elim
     |x _=>show h1.elim
     |t _=>show h1.elim
     |m _=>show h1.elim
     |s l=>
       let#[q,o,rfl,k]:=d1;refine#[q,_,rfl,.inl<|.inl<|.inr #[o,R1.fh _ _ k],?_];rw[aX];show h1 F1 r1 _ H1 (.refl F1 r1) R1 zj) g1 g4 (h a) (fH q.2 _ _)
   .show fF
  .split
   .ext hx;let#[rfl,_]:=hx;split
    .ext q;rw[aH]at q;let#[g1,g2,g3,g4]:=O.blt q.1;show(λbo hc hg hm ho hs=>by
      refine PE.imp (Lx hc hg hm ho hs) λσ H Q=>bg λF r env bx R h=>#[F,r,env,bx,R,End.bind h λx bx1 F1 r1 v H1 g1 R1 d1 h1=>?_];split at h1
      case h_2=>show h1.elim
      let#[a,rfl,ha]:=d1;let#[c,hc,kc]:=R1.kG ha;rw[hc]at h1;split at h1
      case h_2=>show h1.elim
      ext l0 e0;cases e0;let#[_,ao,k1,k2]:=kc;refine#[a,ao,rfl,k1,λbs hb l hl=>?_];let#[F2,g2,R2,d2]:=Rel.kA R1 k2 hb;show gQ R2 (End.weak g2 h1) #[l,_,rfl,hl,rfl,d2]) bo O.calm g1 g4 (h a) q.2
    .show fF
   .show oT O h bo _
 .show oT O h bo _
theorem MI (O:bM c k X Z) (h:∀ e,PD X T Z e<|f e) (bo) (es):PD X T Z (.Call (.Name x p) es [] pos) (WC c f bo x es):=by
 unfold WC;split
 .ext hx;subst hx;split
  .ext a t tp;split
   .ext n e;split
    .ext q;erw[aH]at q;let#[g1,g2,g3,g4]:=O.blt q.1.1;let#[j1,j2,j3,j4]:=O.blt q.1.2;let#[y1,y2]:=(λO h=>by
      refine iB (P:=λx n=>pX X.K n /\ bootBuiltins x=ae (.type n)) (λp m=>?_) h;simp[aby,a9,pM,or_false]at m;rcases m with rfl|rfl|rfl|rfl|rfl
      .show#[O.ti,rfl]
      .show#[O.tb,rfl]
      .show#[O.tt,rfl]
      .show#[O.tl,rfl]
      .show#[O.ts,rfl]) O e
     show(λhT hg hm vV vW hv ha hs hn cM=>Nd hT hg hm vV vW hv ha hn cM (fH hs _ X.env) (fH zj _ X.env)<|gZ zj) y1 g1 g4 j1 j4 y2 (h a) q.2 j3 j2
    .show fF
   .show fF
  .show fF
 .split
  .ext g as cp;cases g<;>try show B9 O h bo _
   case Name y q1=>
    rcases as with _|⟨a,_|_⟩<;>try show B9 O h bo _
    dsimp only;split
    .ext hx;let#[rfl,rfl]:=hx;split
     .ext q;erw[aH]at q;let#[g1,g2,g3,g4]:=O.blt q.1.1;let#[j1,j2,j3,j4]:=O.blt q.1.2;show(λhu hc hg hm vV vW ha hs=>PE.imp (NQ hu hc hg hm vV vW ha hs)<|JT aft) O.u0 O.calm g1 g4 j1 j4 (l9 (h a) lh q.2) q.2
     .show fF
    .show oT O h bo _
   case Attribute o n ap=>
    cases as<;>try show B9 O h bo _
    dsimp only;split
    .ext hx;let#[rfl,rfl]:=hx;split
     .ext q;erw[aH]at q;let#[g1,g2,g3,g4]:=O.blt q.1.1;show GX bo O.calm (by have:=O.u0;lia) g1 g4 (h o) (iF q.1.2) q.2
     .show fF
    .show oT O h bo _
  .show B9 O h bo _
def WD (dd:Bool) (f:aD->DE W) (o:aD) (m:Str) (es:List aD):DE W:=match es with
 |[e]=>if cJ e then (if dd then (if m="get" then yr (f o) (f e) else aM) else if m="append" then tP (f o) (f e) else if m="pop" then yf (f o) (f e) else aM) else aM
 |_=>aM
theorem OM (hu:X.A.units+1<cLine) (dd) (h:∀ e,PD X T Z e<|f e) (es) (hb:yE o=ag) (hl:(apos.endLine==pos.line)=ag):PD X T Z (.Call (.Attribute o m apos) es [] pos) (WD dd f o m es):=by
 unfold WD;split
 .ext e;split
  .ext n;split
   .split
    .ext z;subst z;show(λhu ho ha m=>PE.imp (J5 hu ho ha m) λσ H Q h=>NX h) hu (h o) (h e) #[iF hb,Wz n,hl,by rw[fH n];rfl]
    .show fF
   .split
    .ext z;subst z;show(λho ha vK El qM hs=>PE.imp (Cg yZ Zc Zd lg ho (fA ha fR hs) vK El qM hs (by rfl)) λσ H Q h=>S9 h) (h o) (h e) (iF hb) (Wz n) hl (fH n _ _)
    .split
     .ext z;subst z;show(λho ha cD vK El qM=>PE.imp (Cg yZ PySem.F.slot_list_pop PySem.F.type_list_pop JH ho (fA ha fR<|fH cD [] X.env) vK El qM (fH cD [] X.env) (by rfl)) λσ H Q h=>Nw h) (h o) (h e) n (iF hb) (Wz n) hl
     .show fF
  .show fF
 .show fF
def WE (c:Cf) (f:aD->DE W) (o:aD) (x:Str) (n:Nat) (fn:List W->List Bx->O W) (es:List aD):DE W:=if c.fl≠[] then (match es with
 |[]=>nU c.C fn x n (f o) fe
 |e::es=>if eV (e::es)=ag /\ (e::es).length<30 then nU c.C fn x n (f o) (ud f (e::es)) else aM) else aM
theorem SG (O:bM c k X Z) (h:∀ e,PD X T Z e<|f e) (e:c.ms.lookup m=ae (n,fn)) (es) (hb:yE o=ag) (hl:(apos.endLine==pos.line)=ag):PD X T Z (.Call (.Attribute o m apos) es [] pos) (WE c f o m n fn es):=by
 unfold WE;split
 .ext hf;let#[kk,ps,H,hn,hk]:=O.ob.ms _ _ _ e;split
  .show Ll (O.ob.cls hf) H O.room hk O.Qb (h o) (iF hb) hl hn
  .split
   .ext q;show Nz (O.ob.cls hf) H O.room hk O.Qb (h o) (lf h _) (iF hb) hl q.1 q.2 hn
   .show fF
 .show fF
noncomputable def WG (on names:List<|Str×NameKind):List (Str×NameKind):=names.map λ(n,k)=>if k==NameKind.free&&on.lookup n==ae .cell then (n,NameKind.cell) else (n,k)
noncomputable def Qe:Nat->aD->List Str
 |_,.Name x _=>[x]
 |n+1,.Tuple es _ _=>es.flatMap<|Qe n
 |_,_=>[]
def Cf.cN (c:Cf) (tg:aD) (sc:kz):List Str:=Qe 4 tg++c.N.filter λx=>decide (sc.names.lookup x=ae .free)
def Cf.src (c:Cf) (tg:aD) (sc:kz):List (Option Nat):=(Qe 4 tg).map (λ_=>ah)++(c.N.filter λx=>decide (sc.names.lookup x=ae .free)).map c.ix
def Cf.inner (c:Cf) (tg:aD) (sc:kz):Cf:={ c with N:=c.cN tg sc,nm:=WG c.nm sc.names,f:=af,bx:=[],rx:=af,tr:=af,ow:=(Qe 4 tg).filter λx=>decide (sc.names.lookup x=ae .cell) }
def Cf.Qf (c:Cf) (tg:aD) (sc:kz):Bool:=V2 c.N { kind:=.function,names:=c.nm,isGenerator:=af,isCoroutine:=af } sc (c.cN tg sc) (c.src tg sc)&&decide (c.cN tg sc).Nodup

theorem bM.inner (O:bM c k X Z) (h:c.Qf tg sc=ag):tH X (c.cN tg sc) (c.src tg sc) sc /\ ∀ cl s H C fp,bM (c.inner tg sc) k (X.comp (c.cN tg sc) sc cl s H C fp) #[E0,Z.cl]:=by
 unfold Cf.Qf at h;rw[aH,decide_eq_true_eq]at h;have S:=Dz (λx=>by unfold Env.kindOf;rw[O.nm]) O.N h.1;refine#[S,λcl s H C fp=>#[rfl,?_,S.kind,O.calm,λz=>(by cases z),λx m=>(List.mem_filter.mp m).2,h.2,O.room,O.fs,O.gl,O.bl,BC,O.ti,O.tb,O.tt,O.tl,O.ts,λ_=>PassesOwn.never,λz=>(by cases z),λz=>(by cases z),O.ob]];change (relabel sc X.env).names=WG c.nm sc.names;unfold relabel WG Env.kindOf;rw[O.kd,O.nm];simp
structure Cm where
 e:Cf->Bool->Bool->aD->DE W
 t:Cf->aD->DE Bool
 g:Cf->aD->DG
 s:Cf->bK->aE
structure Good (m:Cm):zk where
 e:∀ {c:Cf}{k:Nat}{X:Cx}{Z:Xs},bM c k X Z->∀ {T:Fr}(bo fz:Bool) (e:aD),PD X T Z e (m.e c bo fz e)
 t:∀ {c:Cf}{k:Nat}{X:Cx}{Z:Xs},bM c k X Z->∀ {T:Fr}(e:aD),vQ X T Z e (m.t c e)
 g:∀ {c:Cf}{k:Nat}{X:Cx}{Z:Xs},bM c k X Z->∀ {T:Fr}(e:aD),qV X T e (m.g c e)
 s:∀ {c:Cf}{k:Nat}{X:Cx}{Z:Xs},bM c k X Z->∀ {T:Fr}(st:bK),eB X T Z st (m.s c st)
section
variable (m:Cm) (c:Cf)
def cI (tg it:aD):DE (List W):=match it with
 |.Call (.Name x _) [a] [] _=>
   if x="range" then (if c.pD "range"&&cJ a then eT (fc (m.e c af af a) fe) else aM)
   else bS (m.e c af ag it)
 |.Call (.Name x _) [a,b] [] _=>
   if x="range" then (if c.pD "range"&&cJ a&&cJ b then vU (fc (m.e c af af a)<|fc (m.e c af af b) fe) else aM)
   else if x="zip" then (if c.pD "zip"&&cJ a&&cJ b then yd (fc (m.e c af af a)<|fc (m.e c af af b) fe) else aM)
   else bS (m.e c af ag it)
 |_=>bS<|m.e c af ag it
def cF (ifs:List aD):DE Bool:=match ifs with
 |[]=>ge
 |[t]=>m.t c t
 |_=>aM
def WH (e:aD):Option Nat:=match e with
 |.Name x _=>if c.dc.contains x&&c.wD x then c.ix x else ah
 |_=>ah
def WI (bo:Bool) (elt tg it:aD) (ifs:List aD) (sc:kz):DE W:=
 if c.Qf tg sc&&Qd it then gc bo (c.src tg sc) (cI m c tg it) (m.g (c.inner tg sc) tg) (cF m (c.inner tg sc) ifs) (m.e (c.inner tg sc) af af elt) else aM
def cO (o:Option aD):DE (Option Int):=match o with
 |none=>eU
 |some e=>dM<|m.e c af af e
def HC (a:aD) (op:CmpOp) (b:aD):DE W:=
 if wC c b then (match op with
  |.In=>if behindInMarks .In b=af then sL af (m.e c af af a) (m.e c af af b) else aM
  |.NotIn=>if behindInMarks .NotIn b=af then sL ag (m.e c af af a) (m.e c af af b) else aM
  |_=>aM)
 else match op,b with
  |.Is,.Constant .none _ _=>Hb af<|m.e c af af a
  | _,_=>match u9 op with
    |some g=>if behindInMarks op b=af then d2 af g (m.e c af af a) (m.e c af af b) else aM
    |none=>aM
def WJ (a:aD) (op kB:CmpOp) (b d:aD):DE W:=match u9 op,u9 kB with
 |some g,ae g'=>if lastMarks [op,kB] [b,d]=af then d3 g g' (m.e c af af a) (m.e c af af b) (m.e c af af d) else aM
 |_,_=>aM
noncomputable def Qg:aD->Bool
 |.Dict ..=>ag
 |_=>af
def WK (bo:Bool) (a b:aD):DE W:=match b with
 |.Slice lo hi ah _=>d6 bo (m.e c af af a) (cO m c lo)<|cO m c hi
 |.Slice ah ah (ae<|.UnaryOp .USub (.Constant (.int i) _ _) _) _=>if i=1 then VR bo (m.e c af af a) else aM
 |b=>if Hz b then (if WB c a then ER (m.e c af af a) (m.e c af af b) else if wC c a||Qg a then kY (m.e c (Qg a) af a) (m.e c af af b) else d2 af aF (m.e c af af a) (m.e c af af b)) else aM
noncomputable def kI:Option aD->Option Int
 | some e=>(match e with
   | .Constant v _ _=>(match v with
     |.int i=>ae i
     |_=>ah)
   |_=>ah)
 |none=>ah
noncomputable def vS:aD->Option Str
 | .Constant v _ _=>(match v with
   |.str x=>ae x
   |_=>ah)
 |_=>ah
def WL (bo:Bool) (ks:List<|Option aD) (vs:List aD):DE W:=match ks,vs with
 |[],[]=>d7 bo []
 | [k],[v]=>(match kI k with
   | some k=>(match v with
     | .Constant v _ _=>(match v with
       |.int v=>d7 bo [(.inl k,.int v)]
       |_=>aM)
     | .Name x _=>(match c.ix x with
       |some i=>if c.wD x then yh bo k i else aM
       |none=>aM)
     |_=>aM)
   |none=>aM)
 | [k1,k2,k3],[v1,v2,v3]=>(match kI k1,kI k2,kI k3 with
   | some k1,ae k2,ae k3=>(match vS v1,vS v2,vS v3 with
     |some v1,ae v2,ae v3=>if k1≠k2 /\ k1≠k3 /\ k2≠k3 then d7 bo [(.inl k1,.str v1),(.inl k2,.str v2),(.inl k3,.str v3)] else aM
     |_,_,_=>aM)
   |_,_,_=>aM)
 |_,_=>aM
def WM (v:Const):DE W:=match v with
 |.int i=>dC<|.int i
 |.bool b=>dC<|.bl b
 |.none=>dC .non
 |.str x=>dC<|.str x
 |_=>aM
def WN (op:UnaryOp) (a:aD):DE W:=match op with
 |.USub=>sy<|m.e c af af a
 |.Not=>Kn<|m.e c af af a
 |_=>aM
def WO (op:BoolOp) (es:List aD):DE W:=match op with
 |.And=>Wu (m.e c af af) es
 |.Or=>Wx (m.e c af af) es
def abz (a:aD) (ops:List CmpOp) (bs:List aD):DE W:=match ops,bs with
 |[op],[b]=>HC m c a op b
 |[op,kB],[b,d]=>WJ m c a op kB b d
 |_,_=>aM
def WQ (bo:Bool) (f:aD) (es:List aD) (ks:List Keyword) (pos:Pos):DE W:=match f with
 | .Name x _=>(match ks with
   |[]=>WC c (m.e c af af) bo x es
   |_::_=>aM)
 | .Attribute o n apos=>(match ks with
   | []=>if yE o&&(apos.endLine==pos.line) then (match c.ms.lookup n with
     |some (k,fn)=>WE c (m.e c af af) o n k fn es
     |none=>WD (wC c o) (m.e c af af) o n es) else aM
   |_::_=>aM)
 |_=>aM
def WR (bo:Bool) (elt:aD) (gs:List Comprehension) (sc:kz):DE W:=match gs with
 |[⟨tg,it,ifs,0⟩]=>WI m c bo elt tg it ifs sc
 |_=>aM
def abA (o:aD) (n:Str):DE W:=if yE o=ag /\ n∈c.fl then dr c.C (m.e c af af o) n else aM
def sE (bo fz:Bool) (e:aD):DE W:=match e with
 |.Constant v _ _=>WM v
 |.Name x _=>Wt c fz x
 |.Tuple es _ _=>fL<|ud (m.e c af af) es
 |.List es _=>gj bo<|ud (m.e c af af) es
 |.Dict ks vs _=>WL c bo ks vs
 | .BinOp a op b _=>(match abx op with
   |some g=>d2 bo g (m.e c af af a)<|m.e c af af b
   |none=>aM)
 |.UnaryOp op a _=>WN m c op a
 |.BoolOp op es _=>WO m c op es
 |.Compare a ops bs _=>abz m c a ops bs
 |.IfExp t a b _=>kR (m.t c t) (m.e c af af a)<|m.e c af af b
 |.Subscript a b _=>WK m c bo a b
 |.Call f es ks pos=>WQ m c bo f es ks pos
 |.ListComp elt gs sc _=>WR m c bo elt gs sc
 |.Attribute o n _=>abA m c o n
 |_=>aM
def sT (e:aD):DE Bool:=match e with
 |.BoolOp .And es _=>Wv (m.t c) es
 |.BoolOp .Or es _=>Ww (m.t c) es
 |.UnaryOp .Not a _=>cE<|m.t c a
 | .Compare a [op] [b] _=>if wC c b then dB (HC m c a op b) else (match op,b with
   |.Is,.Constant .none _ _=>dB<|Hb af<|m.e c af af a
   | _,_=>match u9 op with
     |some g=>if behindInMarks op b=af then dB (d2 af g (m.e c af af a)<|m.e c af af b) else aM
     |none=>aM)
 | .Compare a [op,kB] [b,d] _=>(match u9 op,u9 kB with
   |some g,ae g'=>if lastMarks [op,kB] [b,d]=af then dB (d3 g g' (m.e c af af a) (m.e c af af b)<|m.e c af af d) else aM
   |_,_=>aM)
 |e=>if plainT e then dB (m.e c af af e) else aM
def sG (tg:aD):DG:=match tg with
 | .Name x _=>(match c.ix x with
   |some i=>if c.yD x then ff i else wB
   |none=>wB)
 |.Tuple es _ _=>if eV es then lC es.length (Qc (m.g c) es) else wB
 |.Subscript o i _=>if Hz i then EO (m.e c af af o) (m.e c af af i) else wB
 |_=>wB
end
section
variable {m:Cm} {c:Cf} {k:Nat} {X:Cx} {Z:Xs} {T:Fr} (G:Good m) (O:bM c k X Z)
include G O
theorem MJ (tg it):xS X T Z tg it (cI m c tg it):=by
 cases it<;>try show l8<|G.e O _ _ _
 ext f es ks pos;cases f<;>try show l8<|G.e O _ _ _
 rcases es with _|⟨a,_|⟨b,_|_⟩⟩<;>cases ks<;>try show l8<|G.e O _ _ _
 .unfold cI;dsimp only;split
  .ext z;subst z;split
   .ext q;rw[aH]at q;let#[g1,g2,g3,g4]:=O.blt q.1;show(λhg hm ha hs=>by
     refine PI.imp (Go hg hm ha hs) λσ H Q=>bg λF r env bx R h=>?_;refine#[F,r,env,bx,R,End.bind h λws bx1 F1 r1 vs H1 g1 R1 d1 h1=>?_];split at h1
     .ext j;split at h1
      .ext hj;let#[v,t,rfl,e1,e2]:=d1;cases (e2);cases (e1);show#[j,rfl,hj.1,hj.2,h1 F1 r1 _ H1 (.refl F1 r1) R1<|lY 0 j.toNat]
      .show h1.elim
     .show h1.elim) g1 g4 (l9 (G.e O _ _ a) lh q.2) (fH q.2 _ _)
   .show B8
  .show l8<|G.e O _ _ _
 .unfold cI;dsimp only;split
  .ext z;subst z;split
   .ext q;simp[aH]at q;let#[#[q,n1],n2]:=q;let#[g1,g2,g3,g4]:=O.blt q;show Dt g1 g4 (l9 (G.e O _ _ a) (l9 (G.e O _ _ b) lh n2) n1) (by rw[fH n1,fH n2];rfl)<|fH n2 _ _
   .show B8
  .split
   .ext z;subst z;split
    .ext q;simp[aH]at q;let#[#[q,n1],n2]:=q;let#[g1,g2,g3,g4]:=O.blt q;show Np g1 g4 (l9 (G.e O _ _ a) (l9 (G.e O _ _ b) lh n2) n1) (by rw[fH n1,fH n2];rfl)<|fH n2 _ _
    .show B8
   .show l8<|G.e O _ _ _
theorem MK (ifs):PF X ifs (vP T Z<|cF m c ifs):=by
 unfold cF;split
 .show(λpins s σ H Q I ⟨F,r,env,bx,R,h⟩=>Rf pins s σ H Q I<|h F r ag H (.refl F r) R zj)
 .show(λh=>Rg h) (G.t O _)
 .show λ_ _ _ _ _ _ h=>by let#[_,_,_,_,_,h]:=h;show h.elim
omit G in
theorem ON (h:WH c e=ae i):PD X T Z e (dV i):=by
 unfold WH at h;split at h
 .split at h
  .ext q;rw[aH]at q;let#[a,b,d]:=O.Ws q.2;show JS i (O.at h) a b d
  .cases h
 .cases h
theorem ML (bo) (elt tg it) (ifs) (sc) (pos):PD X T Z (.ListComp elt [#[tg,it,ifs,0]] sc pos) (WI m c bo elt tg it ifs sc):=by
 unfold WI;split
 .ext q;rw[aH]at q;let#[S,OO]:=O.inner q.1
  show(λbo hc S hi hg hf he hs=>PE.imp (M5 hc S hi (λcl s H C fp pins s' σ' H' v u Q I rv ⟨T,q⟩=>hg T cl s H C fp pins s' σ' H' v u Q I rv q)
   (λcl s H C fp pins s' σ' H' Q I ⟨T,q⟩=>hf T cl s H C fp pins s' σ' H' Q I q) (λcl s H C fp pins s' σ' H' Q I ⟨T,q⟩=>he T cl s H C fp pins s' σ' H' Q I q) hs) λσ H Q h=>JX h) bo O.calm S (MJ G O tg it) (λ_ _ _ _ _ _=>G.g (OO _ _ _ _ _) tg) (λ_ _ _ _ _ _=>MK G (OO _ _ _ _ _) ifs) (λ_ _ _ _ _ _=>G.e (OO _ _ _ _ _) _ _ elt) (λx=>mE q.2 x)
 .show fF
theorem MM (a) (op) (b) (pos):PD X T Z (.Compare a [op] [b] pos) (HC m c a op b):=by
 unfold HC;split
 .split
  .split
   .ext q;show(λhu hi ho hm=>PE.imp (Dc (J1 hu hi ho) hm) λσ H Q h=>Pd h) O.u1 (G.e O _ _ a) (G.e O _ _ b) q
   .show fF
  .split
   .ext q;show(λhu hi ho hm=>PE.imp (Dc (A8 hu hi ho) hm) λσ H Q h=>Li h) O.u1 (G.e O _ _ a) (G.e O _ _ b) q
   .show fF
  .show fF
 .split
  .show(λha=>by
   refine PE.imp (Dc<|Jj ha) λσ H Q=>bg λF r env bx R h=>?_;refine#[F,r,env,bx,R,End.bind h λx bx1 F1 r1 v H1 g1 R1 d1 h1=>?_];cases x with
   |d d=>
     rw[Ft<|d1];cases d<;>show h1 F1 r1 _ H1 (.refl F1 r1) R1 zj
   |_=>show h1.elim) (G.e O _ _ a)
  .split
   .ext g e;let#[q,h1,h2]:=lB O.u0 e;split
    .ext z;show(λho hg ha hb hm=>PE.imp (MV ho ha hb hm)<|Fd hg) h1 h2 (G.e O _ _ a) (G.e O _ _ b) z
    .show fF
   .show fF
theorem MN (a) (op kB) (b d) (pos):PD X T Z (.Compare a [op,kB] [b,d] pos) (WJ m c a op kB b d):=by
 unfold WJ;split
 .ext g g' e e';let#[q,h1,h2]:=lB O.u0 e;let#[q',WS,WT]:=lB O.u0 e';split
  .ext z;show(λho d9 hg xQ ha hb hc hm=>PE.imp (Ju ho d9 ha hb hc hm) λσ H Q h=>Fe hg xQ h) h1 WS h2 WT (G.e O _ _ a) (G.e O _ _ b) (G.e O _ _ d) z
  .show fF
 .show fF
theorem PJ (o):aer X T Z o (cO m c o):=by
 unfold cO;split
 .show(PO.imp M2 λσ H Q=>bg λF r env bx R h=>h F r ah H (.refl F r) R zj)
 .show(λh=>by
  refine PO.imp (M3 h) λσ H Q=>bg λF r env bx R h=>?_;refine#[F,r,env,bx,R,End.bind h λw bx1 F1 r1 v H1 g1 R1 d1 h1=>?_];split at h1
  .ext i;show#[i,d1,h1 F1 r1 _ H1 (.refl F1 r1) R1 zj]
  .show h1.elim) (G.e O _ _ _)
theorem OP (bo) (a b) (pos):PD X T Z (.Subscript a b pos) (WK m c bo a b):=by
 have third:∀ b,Hz b=ag->PD X T Z (.Subscript a b pos) (if WB c a then ER (m.e c af af a) (m.e c af af b) else if wC c a||Qg a then kY (m.e c (Qg a) af a) (m.e c af af b) else d2 af aF (m.e c af af a) (m.e c af af b)):=λb n=>by
  split
  .show Rz (G.e O _ _ a) (G.e O _ _ _)<|AJ n
  .split
   .show(λhu ho hi hs=>PE.imp (Nk hu ho hi hs) λσ H Q h=>RI h) O.u1 (G.e O _ _ a) (G.e O _ _ _) (OL n)
   .show(λho hg ha hb hs=>PE.imp (JD ho ha hb hs)<|Fd hg) (Bv.or<|P8.or P9) aec (G.e O _ _ a) (G.e O _ _ _) (AJ n)
 cases b<;>try show third _ zj
 rename_i lo hi st _;rcases st with _|st
 .show(λbo ha hl hu=>by
  refine PE.imp (JC Ro ha hl hu) λσ H Q=>bg λF r env bx R h=>?_;refine#[F,r,env,bx,R,End.bind h λx bx1 F1 r1 v H1 g1 R1 d1 h1=>?_];refine#[F1,r1,env,bx1,R1,End.bind h1 λi aq F2 r2 i' H2 g2 R2 d2 h2=>?_];refine#[F2,r2,env,aq,R2,End.bind h2 λj cb F3 r3 j' H3 g3 R3 d3 h3=>?_];subst d2 d3;cases e1:bG cb x with
  |none=>rw[e1]at h3;show h3.elim
  |some d=>
    rw[e1]at h3;simp[bJ]at h3;cases e2:qv d i j with
    |none=>rw[e2]at h3;show h3.elim
    |some s=>
      rw[e2]at h3;show aeo R3.fh (R3.qQ (g3.den<|g2.den d1) e1) e2 λu H' k=>gQ R3 h3 k) bo (G.e O _ _ a) (PJ G O _) (PJ G O _)
 cases st<;>try show fF
 rename_i op e _;cases op<;>try show fF
 cases e<;>try show fF
 rename_i v _ _;cases v<;>try show fF
 cases lo<;>cases hi<;>try show fF
 unfold WK;try dsimp only
 split
 .ext z;subst z;show(λbo ha=>by
  refine PE.imp (Rp (i:=0) ha) λσ H Q=>bg λF r env bx R h=>?_;refine#[F,r,env,bx,R,End.bind h λx bx1 F1 r1 v H1 g1 R1 d1 h1=>?_];cases e1:bG bx1 x with
  |none=>rw[e1]at h1;show h1.elim
  |some d=>
    rw[e1]at h1;cases d with
    |lst l=>
      let#[a,vs,rfl,k1,k2]:=R1.qQ d1 e1;show#[a,vs,rfl,.of k1,λp hp=>gQ R1 h1 #[p,_,rfl,hp,rfl,k2.reverse]]
    |_=>show h1.elim) bo (G.e O _ _ a)
 .show fF
omit G O in
theorem Gj {k:Option aD}(h:kI k=ae i):∃ n p,k=ae (.Constant (.int i) n p):=by
 cases k with
 |none=>cases h
 |some e=>
   cases e<;>try (cases h;done)
   rename_i v _ _;cases v<;>cases h;show#[_,_,rfl]
omit G O in
theorem MO {k:aD}(h:vS k=ae i):∃ n p,k=.Constant (.str i) n p:=by
 cases k<;>try (cases h;done)
 rename_i v _ _;cases v<;>cases h;show#[_,_,rfl]
omit G in
theorem OQ (bo:Bool) (ks:List<|Option aD) (vs:List aD) (pos:Pos):PD X T Z (.Dict ks vs pos) (WL c bo ks vs):=by
 unfold WL;split
 .show(λbo=>PE.imp (J2) λσ H Q ⟨F,r,env,bx,R,h⟩=>(λp hp=>gQ R h #[p,[],rfl,hp,rfl,rfl])) bo
 .split
  .ext e;let#[_,_,rfl]:=Gj e;split
   .split
    .show No bo
    .show fF
   .split
    .ext e;split
     .ext h;refine Nx bo _ ?_;have:=O.at e;erw[Cf.wD,aH,sV,decide_eq_true_eq,kN]at h;erw[V4,aH,sV,decide_eq_true_eq,kN,O.nm];show#[#[#[this,h.1.1],h.1.2],h.2]
     .show fF
    .show fF
   .show fF
  .show fF
 .split
  .ext e1 e2 e3;split
   .ext f1 f2 f3;let#[_,_,rfl]:=Gj e1;let#[_,_,rfl]:=Gj e2;let#[_,_,rfl]:=Gj e3;let#[_,_,rfl]:=MO f1;let#[_,_,rfl]:=MO f2;let#[_,_,rfl]:=MO f3;split
    .ext h;show OI bo h
    .show fF
   .show fF
  .show fF
 .show fF
omit G O in
theorem OR (v:Const) (k:Nat) (pos:Pos):PD X T Z (.Constant v k pos) (WM v):=by
 unfold WM;split
 .show(Cp jp λ_=>rfl)
 .show(Cp Ji λ_=>rfl)
 .show(Cp PQ λ_=>rfl)
 .show(Cp mG λ_=>rfl)
 .show fF
theorem SH (op) (a) (pos):PD X T Z (.UnaryOp op a pos) (WN m c op a):=by
 unfold WN;split
 .show(λha=>by
  refine PE.imp (O6 Js ha) λσ H Q=>bg λF r env bx R h=>?_;refine#[F,r,env,bx,R,End.bind h λw bx1 F1 r1 v H1 g1 R1 d1 h1=>?_];split at h1
  .ext i;show#[i,d1,h1 F1 r1 _ H1 (.refl F1 r1) R1 zj]
  .show h1.elim) (G.e O _ _ _)
 .show(λha=>by
  refine PE.imp (PY ha) λσ H Q=>bg λF r env bx R h=>?_;refine#[F,r,env,bx,R,End.bind h λw bx1 F1 r1 v H1 g1 R1 d1 h1=>?_];split at h1
  .ext k;show#[k,d1,h1 F1 r1 _ H1 (.refl F1 r1) R1 zj]
  .show h1.elim) (G.e O _ _ _)
 .show fF
theorem SI (op) (es) (pos):PD X T Z (.BoolOp op es pos) (WO m c op es):=by
 unfold WO;split
 .show Gh (G.e O _ _) _
 .show MG (G.e O _ _) _
theorem SJ (a) (ops) (bs) (pos):PD X T Z (.Compare a ops bs pos) (abz m c a ops bs):=by
 rcases ops with _|⟨op,_|⟨kB,_|_⟩⟩<;>rcases bs with _|⟨b,_|⟨d,_|_⟩⟩<;>try show fF
 .show MM G O _ _ _ _
 .show MN G O _ _ _ _ _ _
theorem SK (bo) (f) (es) (ks) (pos):PD X T Z (.Call f es ks pos) (WQ m c bo f es ks pos):=by
 unfold WQ;split
 .split
  .show MI O (G.e O _ _) bo _
  .show fF
 .split
  .split
   .ext q;rw[aH]at q;split
    .ext e;show SG O (G.e O _ _) e _ q.1 q.2
    .show OM O.u1 _ (G.e O _ _) _ q.1 q.2
   .show fF
  .show fF
 .show fF
theorem SM (bo) (elt) (gs) (sc) (pos):PD X T Z (.ListComp elt gs sc pos) (WR m c bo elt gs sc):=by
 unfold WR;split
 .show ML G O bo _ _ _ _ _ _
 .show fF
theorem TX (bo fz) (e):PD X T Z e (sE m c bo fz e):=by
 cases e<;>try show fF
 .show SI G O _ _ _
 .unfold sE;dsimp only;split
  .ext g e;let#[q,h1,h2]:=OJ e;show(λbo ho hg ha hb=>PE.imp (Cd ho ha hb)<|Fd hg) bo h1 h2 (G.e O _ _ _) (G.e O _ _ _)
  .show fF
 .show SH G O _ _ _
 .show(λhc ha hb=>by
  refine PE.imp (Jn hc ha hb) λσ H Q=>bg λF r env bx R h=>?_;refine#[F,r,env,bx,R,End.bind h λk bx1 F1 r1 v H1 g1 R1 d1 h1=>?_];subst d1;cases k with
  |true=>show#[F1,r1,env,bx1,R1,h1]
  |false=>show#[F1,r1,env,bx1,R1,h1]) (G.t O _) (G.e O _ _ _) (G.e O _ _ _)
 .show OQ O bo _ _ _
 .show SM G O bo _ _ _ _
 .show SJ G O _ _ _ _
 .show SK G O bo _ _ _ _
 .show OR _ _ _
 .unfold sE abA;dsimp only;split
  .ext q;show RJ (O.ob.cls λz=>by rw[z]at q;cases q.2) (O.ob.na _ q.2) (G.e O _ _ _)<|iF q.1
  .show fF
 .show OP G O bo _ _ _
 .show MF O fz
 .show(λbo h=>by
  refine PE.imp (jQ h) λσ H Q=>bg λF r env bx R h=>?_;refine#[F,r,env,bx,R,End.bind h λws bx1 F1 r1 vs H1 g1 R1 d1 h1=>?_];cases e:pk ws with
  |none=>rw[e]at h1;show h1.elim
  |some l=>
    rw[e]at h1;simp[bJ]at h1;split at h1
    .have dl:=d1.ds e;refine#[by rw[<-dl.length];assumption,λp hp=>gQ R1 h1 #[p,vs,rfl,hp,rfl,dl]]
    .show h1.elim) bo (lf (G.e O _ _) _)
 .show(λh=>by
  refine PE.imp (Jy h) λσ H Q=>bg λF r env bx R h=>?_;refine#[F,r,env,bx,R,End.bind h λws bx1 F1 r1 vs H1 g1 R1 d1 h1=>?_];cases e:pk ws with
  |none=>rw[e]at h1;show h1.elim
  |some l=>
    rw[e]at h1;simp[bJ]at h1;split at h1
    .have dl:=d1.ds e;refine#[by rw[<-dl.length];assumption,λp hp=>gQ R1 h1<|.inr #[p,vs,rfl,hp,rfl,dl]]
    .show h1.elim) (lf (G.e O _ _) _)
theorem TY (e):vQ X T Z e (sT m c e):=by
 cases e<;>try show(λh he=>PT.imp (Jk h he) λσ H Q h=>Na h) (G.e O _ _ _) (λw=>Jf zj w)
 .rename_i op _ _;cases op
  .show O9<|C8 (G.t O) _
  .show O9<|Gi (G.t O) _
 .rename_i op _ _;cases op<;>try show io
  show(λh=>by
   refine PT.imp (Jm h) λσ H Q=>bg λF r env bx R h=>?_;refine#[F,r,env,bx,R,End.bind h λk bx1 F1 r1 v H1 g1 R1 d1 h1=>?_];subst d1;show h1 F1 r1 _ H1 (.refl F1 r1) R1 zj) (G.t O _)
 .show io
 .ext a ops bs pos;rcases ops with _|⟨op,_|⟨kB,_|_⟩⟩<;>rcases bs with _|⟨b,_|⟨d,_|_⟩⟩<;>try show io
  .unfold sT;dsimp only;split
   .ext h;unfold HC;rw[if_pos h];cases op<;>try show io
    .dsimp only;split
     .ext q;show(λhu hi ho hm=>PT.imp (Dd (J1 hu hi ho) hm) λσ H Q h=>Pd<|Na h) O.u1 (G.e O _ _ a) (G.e O _ _ b) q
     .show io
    .dsimp only;split
     .ext q;show(λhu hi ho hm=>PT.imp (Dd (A8 hu hi ho) hm) λσ H Q h=>Li<|Na h) O.u1 (G.e O _ _ a) (G.e O _ _ b) q
     .show io
   .have dflt:∀ op b,vQ X T Z (.Compare a [op] [b] pos) (match u9 op with
     |some g=>if behindInMarks op b=af then dB (d2 af g (m.e c af af a)<|m.e c af af b) else aM
     |none=>aM):=λop b=>by
     split
     .ext g e;let#[q,h1,h2]:=lB O.u0 e;split
      .ext z;show(λho hg ha hb hm=>by
       refine PT.imp (D9 ho ha hb hm) λσ H Q h=>?_;let#[F,r,env,bx,R,h]:=h;refine Fd hg σ H _ #[F,r,env,bx,R,End.bind h λw bx1 F1 r1 v H1 g1 R1 d1 h1=>?_];split at h1
       .ext k;show#[k,d1,h1 F1 r1 k H1 (.refl F1 r1) R1 zj]
       .show h1.elim) h1 h2 (G.e O _ _ _) (G.e O _ _ _) z
      .show io
     .show io
    cases op<;>try show dflt _ _
    all_goals (cases b<;>try show dflt _ _)
    all_goals (rename_i v _ _ _;cases v<;>try show dflt _ _)
    .show PT.imp (Dd (Jj<|G.e O _ _ _) zj) λσ H Q h=>(λh=>by
     let#[F,r,env,bx,R,h]:=h;refine#[F,r,env,bx,R,End.bind h λx bx1 F1 r1 v H1 g1 R1 d1 h1=>?_];cases x with
     |d d=>
       rw[Ft<|d1];cases d<;>show h1 F1 r1 _ H1 (.refl F1 r1) R1 zj
     |_=>show h1.elim)<|Na h
  .unfold sT;dsimp only;split
   .ext g g' e e';let#[q,h1,h2]:=lB O.u0 e;let#[q',WS,WT]:=lB O.u0 e';split
    .ext z;show(λho d9 hg xQ ha hb hc hm=>by
     refine PT.imp (Jv ho d9 ha hb hc hm) λσ H Q h=>?_;let#[F,r,env,bx,R,h]:=h;refine Fe hg xQ #[F,r,env,bx,R,End.bind h λw bx1 F1 r1 v H1 g1 R1 d1 h1=>?_];split at h1
     .ext k;show#[k,d1,h1 F1 r1 k H1 (.refl F1 r1) R1 zj]
     .show h1.elim) h1 WS h2 WT (G.e O _ _ _) (G.e O _ _ _) (G.e O _ _ _) z
    .show io
   .show io
theorem TZ (tg):qV X T tg (sG m c tg):=by
 unfold sG;split
 .split
  .ext i e;split
   .ext h;let#[a,b]:=O.lo h;show JW i O.wF (O.at e) a b
   .show lA
  .show lA
 .split
  .ext h;show(λhc h cD hn=>Nb hc h ((An cD).1.trans hn) (An cD).2) O.calm (MH (G.g O) _) h zj
  .show lA
 .split
  .ext o i pos h;show Nn (G.e O _ _ o) (G.e O _ _ i) (λv=>by cases i<;>first|rfl|cases h)
  .show lA
 .show lA
end

theorem OT (hk:env.blockKind=.function) (na:cJ a=ag) (nb:cJ b=ag) (h:(env.kindOf x==ae .local&&env.kindOf y==ae .local)=af) :
 swappedStores [.Tuple [.Name x px,.Name y py] kt pt] (.Tuple [a,b] k2 ur) env=pure ah:=by
 have hp:∀ (x:Str) (p:Pos),(Expr.Name x p).pos=p:=λ_ _=>rfl;unfold swappedStores;erw[Yy,vw,hp];rw[X8]at h;rcases h with h|h
 .erw[qk,Yz,h,pG];by_cases q:(env.kindOf y==ae .local&&py.line==px.line)=ag
  .simp[q]
  .simp[q]
 .erw[qk,Yz,h,pG];by_cases z:env.kindOf x=ae .local<;>simp[z]
def wG (f:bK->aE):List bK->aE
 |[]=>a8
 |[s]=>f s
 |s::r=>fB (f s)<|wG f r
theorem lQ (h:∀ s,eB X T Z s<|f s):∀ b,xR X T Z b (wG f b)
 |[]=>(cX.imp D3 λD σ H=>bg λF r env bx R h=>h F r σ H (.refl F r) R)
 |[s]=>(λh1=>lS h1)<|h s
 |s::a::r=>JV (h s)<|lQ h _
noncomputable def WU:aD->aD->Bool
 |.Tuple ..,.Tuple ..|.List ..,.Tuple ..=>af
 |_,_=>ag
theorem PK (h:WU tg e=ag):swappedStores [tg] e env=pure ah:=by
 cases tg with
 |Tuple es n p=>cases e<;>first|rfl|cases h
 |List es p=>cases e<;>first|rfl|cases h
 |_=>rfl
noncomputable def WV (c:Cf) (x:Str) (tp cp:Pos) (sc:kz):Bool:=c.nm.lookup x==ae .local&&tp.line==cp.line&&!(sc.names.any λ(n,k)=>n==x&&(k==.local||k==.cell))

theorem bM.block (O:bM c k X Z):X.env.blockKind=.function:=by unfold Env.blockKind;rw[O.kd];rfl
theorem OU (O:bM c k X Z):swapsWith (.ListComp elt gs sc cp) (ae<|.Name x tp) l X.env=pure (WV c x tp cp sc):=by
 have h:swapsWith (.ListComp elt gs sc cp) (ae<|.Name x tp) l X.env=pure _:=rfl;rw[h,O.block];unfold Env.kindOf WV;rw[O.nm];rfl
noncomputable def Cf.qP (c:Cf):Cf:={ c with rx:=ag,tr:=af }

theorem bM.qP (O:bM c k X Z) (h:c.tr=ag) (pn) (E):bM c.qP k (X.qP pn E) #[E,Z.cl]:=
 #[O.N,O.nm,O.kd,O.calm,O.fn,O.ow,O.nd,O.room,O.fs,O.gl,O.bl,A5.passes,O.ti,O.tb,O.tt,O.tl,O.ts,λz=>(by cases z),λ_=>#[A5,(O.abv h).1],λz=>(by cases z),O.ob]
theorem jL (h:vb e=af):swapsWithSole [t] e l env=pure af:=jo h
section
variable (m:Cm) (c:Cf)
noncomputable def WW:aD->Bool
 |.Dict [] [] _=>ag
 |_=>af
def WX (x:Str) (tp:Pos) (e:aD):aE:=match c.ix x with
 | some i=>if c.yD x then (match e with
   | .ListComp elt [⟨tg,it,ifs,0⟩] sc cp=>if c.Qf tg sc&&Qd it&&WV c x tp cp sc then (match WH c it with
     |some j=>fO (wo (c.bx.contains x) (c.src tg sc) j (m.g (c.inner tg sc) tg) (cF m (c.inner tg sc) ifs)<|m.e (c.inner tg sc) af af elt)<|ff i
     |none=>fO (gc (c.bx.contains x) (c.src tg sc) (cI m c tg it) (m.g (c.inner tg sc) tg) (cF m (c.inner tg sc) ifs)<|m.e (c.inner tg sc) af af elt)<|ff i) else cZ
   |e=>if vb e then cZ else fO (if c.kd x 3&&WW e then yo else m.e c (c.bx.contains x) af e) (ff i)) else cZ
 |none=>cZ
def abB (c:Cf) (x y:Str) (px py:Pos) (a b:aD):Bool:=cJ a&&cJ b&&decide (x≠y)&&c.yD x&&c.yD y&&(if c.nm.lookup x==ae .local&&c.nm.lookup y==ae .local then px.line==py.line&&!([a,b].all<|foldedForSure 8)&&!([a,b].all<|constantsAlone 8) else ag)
def WY (x y:Str) (px py:Pos) (a b:aD):aE:=match c.ix x,c.ix y with
 |some i,ae j=>if abB c x y px py a b then dJ i j (fc (m.e c (c.bx.contains x) af a)<|fc (m.e c (c.bx.contains y) af b) fe) else cZ
 |_,_=>cZ
def Qh (tg e:aD):aE:=match tg,e with
 |.Name x tp,e=>WX m c x tp e
 |.Tuple [.Name x px,.Name y py] _ _,.Tuple [a,b] _ _=>WY m c x y px py a b
 |.Subscript o i p,e=>if vb e then cZ else if abw c 3 o then KR (m.e c af af o) (m.e c af af i) (m.e c af af e) else if wC c o then wc (m.e c af af o) (m.e c af af i) (m.e c af af e) else fO (m.e c af af e) (m.g c<|.Subscript o i p)
 |.Attribute o n _,e=>if vb e=af /\ n∈c.fl then qb c.C (m.e c af af o) n (m.e c af af e) else cZ
 |tg,e=>if !vb e&&cJ tg&&WU tg e then fO (m.e c af af e) (m.g c tg) else cZ
def WZ (e:Option aD):aE:=match e with
 | some (.Call (.Name x _) [a] [] _)=>(match E8.findIdx? λy=>decide (y=x) with
   |some i=>if c.rx&&decide (i<17)&&cJ a&&c.uc x then sI i (m.e c af af a) else cZ
   |none=>cZ)
 |_=>cZ
def Qi (e:aD) (k:Str->aE):aE:=match e with
 |.Name x _=>k x
 |_=>cZ
def W0 (body:List bK) (hs:List ExceptHandler):aE:=match hs with
 | [.ExceptHandler (ae r) (ae n) [.Return (ae e) _] _]=>Qi r λr=>(match e with
   | .Call f as [] _=>Qi f λw=>(match as with
     | [a]=>Qi a λn'=>(match c.ix n with
       |some i=>if c.tr&&decide (r="RimeError")&&decide (w="_law_word")&&decide (n=n')&&c.uc "RimeError"&&c.uc "_law_word"&&c.wD n&&decide (c.nm.lookup n=ae .local) then sJ (wG (m.s c.qP) body) else cZ
       |none=>cZ)
     |_=>cZ)
   |_=>cZ)
 |_=>cZ
def sS (st:bK):aE:=match st with
 |.Assign [tg] e _=>Qh m c tg e
 |.Return (ae e) _=>fJ<|m.e c c.rb (!c.rb) e
 |.Expr e _=>if vb e then cZ else gO (m.e c af af e)
 |.If t a b _=>aT (m.t c t) (wG (m.s c) a)<|wG (m.s c) b
 |.For tg it body [] _=>if Qd it&&!c.rx then jT (cI m c tg it) (m.g c tg) (wG (m.s c) body) else cZ
 |.Raise e ah _=>WZ m c e
 |.Try body hs [] [] _=>W0 m c body hs
 |.Delete [.Subscript o i _] _=>if wC c o then yt (m.e c af af o) (m.e c af af i) else cZ
 |.Break _=>aaa
 |.Continue _=>aab
 |_=>cZ
end
section
variable {m:Cm} {c:Cf} {k:Nat} {X:Cx} {Z:Xs} {T:Fr} (G:Good m) (O:bM c k X Z)
include G O
theorem OV (x) (e) (tp pos):eB X T Z (.Assign [.Name x tp] e pos) (WX m c x tp e):=by
 unfold WX;split
 .ext i hi;split
  .ext hl;let#[l1,l2]:=O.lo hl;split
   .ext elt tg it ifs sc cp;split
    .ext q;rw[aH,aH]at q;let#[S,OO]:=O.inner q.1.1;have sw:=OU O (elt:=elt) (gs:=[#[tg,it,ifs,0]]) (sc:=sc) (cp:=cp) (tp:=tp) (x:=x) (l:=pos.line);rw[q.2]at sw;split
     .show GZ i _ O.calm S (ON O (by assumption)) (λ_ _ _ _ _ _=>G.g (OO _ _ _ _ _) tg) (λ_ _ _ _ _ _=>MK G (OO _ _ _ _ _) ifs) (λ_ _ _ _ _ _=>G.e (OO _ _ _ _ _) _ _ elt) O.wF (O.at hi) l1 sw l2 λx=>mE q.1.2 x
     .show Lg i _ O.calm S (MJ G O tg it) (λ_ _ _ _ _ _=>G.g (OO _ _ _ _ _) tg) (λ_ _ _ _ _ _=>MK G (OO _ _ _ _ _) ifs) (λ_ _ _ _ _ _=>G.e (OO _ _ _ _ _) _ _ elt) O.wF (O.at hi) l1 sw l2 λx=>mE q.1.2 x
    .show fK
   .split
    .show fK
    .ext h;refine Nc i ?_ O.wF (O.at hi) l1 (jo (by simpa using h)) l2;split
     .ext q;rw[aH]at q;revert q;cases e with
      |Dict ks vs p=>cases ks<;>cases vs<;>first|(intro _;show NP)|(intro q;show absurd q.2 (by simp[WW]))
      |_=>intro q;show absurd q.2 (by simp[WW])
     .show G.e O _ _ _
  .show fK
 .show fK
theorem OW (x y) (a b) (px py pt ur pos) (kt k2):eB X T Z (.Assign [.Tuple [.Name x px,.Name y py] kt pt] (.Tuple [a,b] k2 ur) pos) (WY m c x y px py a b):=by
 unfold WY;split
 .ext i j hi hj;split
  .ext q;unfold abB at q;rw[aH,aH,aH,aH,aH,decide_eq_true_eq]at q;let#[#[#[#[#[na,nb],pZ],hx],hy],q]:=q;have ps:pj X T Z _ (fc (m.e c (c.bx.contains x) af a)<|fc (m.e c (c.bx.contains y) af b) fe):=l9 (G.e O _ _ a) (l9 (G.e O _ _ b) lh nb) na;have kx:X.env.kindOf x=c.nm.lookup x:=by unfold Env.kindOf;rw[O.nm]
   have ky:X.env.kindOf y=c.nm.lookup y:=by unfold Env.kindOf;rw[O.nm]
   by_cases h:(c.nm.lookup x==ae NameKind.local&&c.nm.lookup y==ae NameKind.local)=ag
   .rw[if_pos h]at q;erw[aH,kN]at q;rw[aH]at h;have h1:c.nm.lookup x=ae .local:=by simpa using h.1
    have h2:c.nm.lookup y=ae .local:=by simpa using h.2
    refine(λi j hc hN ha hi hj Ef hx hy hw hs=>PS.imp (P0 hc hN hi hj Ef hx hy ha hw hs) λD σ H h=>S0 h) i j O.calm O.wF ps (O.at hi) (O.at hj) (λz=>?_) (by rw[O.nm];show h1) (by rw[O.nm];show h2) ((λhk hx hy hl pZ na nb nf nc=>by
     have hd:([x,y]).eraseDups.length=2:=by
      have:(y==x)=af:=by simpa using Ne.symm pZ
      simp[List.eraseDups_cons,this]
     have hp:∀ (x) (p),(Expr.Name x p).pos=p:=λ_ _=>rfl;unfold swappedStores;erw[hk,Yy,vw,hp,];simp[(by simpa using hl),hd,hx,hy,nf,nc];rintro(h|h)
     .cases a<;>first|(cases h;done)|cases na
     .cases b<;>first|(cases h;done)|cases nb) O.block (kx.trans h1) (ky.trans h2) q.1.1 pZ na nb q.1.2 q.2) (jL rfl)
    subst z;have:=(c.Wr hi).symm.trans<|c.Wr hj;show pZ<|Option.some.inj this
   .let#[l1,l2]:=O.lo hx;let#[l3,l4]:=O.lo hy;refine Lj i j O.calm O.wF ps (O.at hi) (O.at hj) l1 l3 l2 l4 (jL zj) (OT O.block na nb ?_) zj zj zj zj zj;rw[kx,ky];simpa using h
  .show fK
 .show fK
theorem OX (tg e) (pos):eB X T Z (.Assign [tg] e pos) (Qh m c tg e):=by
 have dflt:∀ tg e,eB X T Z (.Assign [tg] e pos) (if !vb e&&cJ tg&&WU tg e then fO (m.e c af af e) (m.g c tg) else cZ):=λtg e=>by
  split
  .ext q;erw[aH,kN]at q;show Ff (G.e O _ _ _) (G.g O _) (jL q.1.1) (PK q.2) (by rw[j0 q.1.2];rfl)
  .show fK
 cases tg<;>try show dflt _ _
 .unfold Qh;try dsimp only
  split
  .ext q;show Ny (O.ob.cls λz=>by rw[z]at q;cases q.2) (O.ob.na _ q.2) (G.e O _ _ _) (G.e O _ _ _)<|jo q.1
  .show fK
 .unfold Qh;try dsimp only
  split
  .show fK
  .ext h;split
   .show(λhu ho hi hv hs=>by
    refine PS.imp (Fk hu ho hi hv hs) λD σ H=>bg λF r env bx R h=>?_;refine#[F,r,env,bx,R,End.bp h λz bx1 F1 r1 t H1 g1 R1 d1 h1=>#[F1,r1,env,bx1,R1,End.bp h1 λx aq F2 r2 v H2 g2 R2 d2 h2=>#[F2,r2,env,aq,R2,End.bp h2 λy cb F3 r3 u H3 g3 R3 d3 h3=>?_]]];split at h3
    .let#[a,rfl,ha]:=(g3.den d2);let#[c,hc,kc]:=R3.kG ha;rw[hc]at h3;split at h3
     .ext l k e1 e2;cases e1;split at h3
      .ext hl;let#[hF,ao,k1,k2]:=kc;let#[b,us,rfl,f1,f2]:=d3;cases Fz e2 f2;show#[a,_,rfl,.inr #[ao,k,b,k1,rfl,R3.fh _ _ f1,by rw[<-k2.length];show hl,rfl],h3 F3 r3 _ _ (.refl F3 r3)<|R3.write ha hF #[hF,_,fu,k2.put2<|g3.den<|g2.den d1]]
      .show h3.elim
     .show h3.elim
    .show h3.elim) O.u1 (G.e O _ _ _) (G.e O _ _ _) (G.e O _ _ _) (jo (by simpa using h))
   split
   .show(λhu ho hi hv hs=>PS.imp (Fk hu ho hi hv hs) λD σ H h=>Te h) O.u1 (G.e O _ _ _) (G.e O _ _ _) (G.e O _ _ _) (jo (by simpa using h))
   .show Ff (G.e O _ _ _) (G.g O _) (jL (by simpa using h)) (PK zj) zj
 .show OV G O _ _ _ _
 .rename_i es _ _;rcases es with _|⟨x,_|⟨y,es⟩⟩<;>try show dflt _ _
  all_goals (cases x<;>try show dflt _ _)
  all_goals (cases y<;>try show dflt _ _)
  cases es<;>try show dflt _ _
  cases e<;>try show dflt _ _
  rename_i vs _ _;rcases vs with _|⟨a,_|⟨b,vs⟩⟩<;>try show dflt _ _
  cases vs<;>try show dflt _ _
  show OW G O _ _ _ _ _ _ _ _ _ _ _
theorem T0 (st):eB X T Z st (sS m c st):=by
 cases st<;>try show fK
 .rename_i v _;cases v<;>try show fK
  show(λh=>PS.imp (Bq h) λD σ H ⟨F,r,env,bx,R,h⟩=>(#[F,r,env,bx,R,End.bp h λw bx1 F1 r1 v H1 g1 R1 d1 h1=>h1 F1 r1 v H1 (.refl F1 r1) R1.drop d1])) (G.e O _ _ _)
 .rename_i ts _;rcases ts with _|⟨t,ts⟩<;>try show fK
  cases t<;>try show fK
  cases ts<;>try show fK
  unfold sS;dsimp only;split
  .show(λho hi=>PS.imp (Nl ho hi) λD σ H h=>Th h) (G.e O _ _ _) (G.e O _ _ _)
  .show fK
 .rename_i ts _ _;rcases ts with _|⟨_,_|_⟩<;>try show fK
  show OX G O _ _ _
 .rename_i tg it bd oe _;cases oe<;>try show fK
  unfold sS;dsimp only;split
  .ext h;rw[aH,kN]at h;show(λhp hc hi hg hb hs=>PS.imp (P3 hp hc hi hg hb hs) λD σ H h=>S5 h) (O.own h.2) O.calm (MJ G O _ _) (G.g O _) (lQ (G.s O) _) (λx=>mE h.1 x)
  .show fK
 .show(λhc ha hb=>by
  refine PS.imp (O5 hc ha hb) λD σ H=>bg λF r env bx R h=>?_;refine#[F,r,env,bx,R,End.bp h λw bx1 F1 r1 v H1 g1 R1 d1 h1=>?_];subst d1;cases w with
  |true=>show#[F1,r1,env,bx1,R1,h1]
  |false=>show#[F1,r1,env,bx1,R1,h1]) (G.t O _) (lQ (G.s O) _) (lQ (G.s O) _)
 .rename_i e ca _;cases ca<;>try show fK
  change eB X T Z _ (WZ m c e);unfold WZ;split
  .split
   .ext i hi;split
    .ext q;erw[aH,decide_eq_true_eq]at q;let#[#[#[q1,q2],q3],q4]:=q;let#[l,R,E]:=O.af3 q1;let#[g1,g2,_]:=O.gb q4;let#[h1,h2,_]:=List.findIdx?_eq_some_iff_getElem.mp hi;refine GQ i E O.calm l g1 (by rw[cW h1,of_decide_eq_true h2]) (G.e O _ _ _) q2 ?_ g2;simp[eV,q3]
    .show fK
   .show fK
  .show fK
 .rename_i bd hs oe fi _;cases oe<;>cases fi<;>try show fK
  change eB X T Z _ (W0 m c bd hs);unfold W0;split
  .rename_i r n e _ _;cases r<;>try show fK
   cases e<;>try show fK
   rename_i f as kw _;cases kw<;>try show fK
   cases f<;>try show fK
   rcases as with _|⟨a,_|_⟩<;>try show fK
   cases a<;>try show fK
   dsimp only[Qi];split
   .ext i hi;split
    .ext q;erw[aH,decide_eq_true_eq]at q;let#[#[#[#[#[#[#[q1,rfl],rfl],rfl],q5],q6],q7],q8]:=q;let#[#[R,E],W,hk,n8,nz]:=O.abv q1;let#[v1,v2,v3]:=O.Ws q7;show Nv i E W O.room hk n8 nz zj (O.gb q5).1 (O.gb q6).1 O.wF (O.at hi) (by unfold Env.kindOf;rw[O.nm];show q8) (λpn E=>lQ (G.s<|O.qP q1 pn E) _) v1 v2 v3
    .show fK
   .show fK
  .show fK
 .unfold sS;dsimp only;split
  .show fK
  .ext h;show(λh hs=>PS.imp (D4 h hs) λD σ H ⟨F,r,env,bx,R,h⟩=>(#[F,r,env,bx,R,End.bp h λw bx1 F1 r1 v H1 g1 R1 d1 h1=>h1 F1 r1 σ H1 (.refl F1 r1) R1])) (G.e O _ _ _) (jo (by simpa using h))
 .show(PS.imp Jo λD σ H=>bg λF r env bx R h=>h F r σ H (.refl F r) R)
 .show(PS.imp Cb λD σ H=>bg λF r env bx R h=>h F r σ H (.refl F r) R)
end
def af6 (m:Cm):Cm:=#[λc bo fz e=>sE m c bo fz e,λc e=>sT m c e,λc e=>sG m c e,λc st=>sS m c st]
def cm:Nat->Cm
 |0=>#[λ_ _ _ _=>aM,λ_ _=>aM,λ_ _=>wB,λ_ _=>cZ]
 |n+1=>af6<|cm n
theorem jM:∀ n,Good (cm n)
 |0=>#[λ_ _ _ _ _=>fF,λ_ _ _=>io,λ_ _ _=>lA,λ_ _ _=>fK]
 |n+1=>#[λO _ bo fz e=>TX (jM n) O bo fz e,λO _ e=>TY (jM n) O e,λO _ e=>TZ (jM n) O e,λO _ st=>T0 (jM n) O st]
structure FI where
 x:Str
 ps:List Str
 N:List Str
 bx:List Str
 dc:List Str
 wk:List (Str×Nat)
 fl:Nat   -- 1: its list is a box as it is returned,2: may raise,4: has a try,8: calls itself,16: a method,32: __init__
 st:bK
 fn:List W->List Bx->O W
structure Tx where
 K9:Str
 gl:List (Str×Int)
 bl:List Str
 C:ai
 fl:List Str
 cn:Str
 cf:Str
noncomputable abbrev Fs:=List<|Str×(Nat×(List W->List Bx->O W))
abbrev Mc:=Option<|Str×(Str×aE)
noncomputable def FI.b (f:FI) (i:Nat):Bool:=f.fl / i % 2==1
def HD (r:List FI):Fs:=(r.filter λg=>!(g.b 16||g.b 32)).map λg=>(g.x,(g.ps.length,g.fn))
def yH (r:List FI):Fs:=(r.filter λg=>g.b 16&&!g.b 32).map λg=>(g.x,(g.ps.length,g.fn))
def FI.cf (t:Tx) (fs ms:Fs) (mc:Mc) (f:FI):Cf:=
 { N:=f.N,nm:=(fG f.st).names,f:=ag,bx:=f.bx,dc:=f.dc,wk:=f.wk,K9:=t.K9,fs:=fs,gl:=t.gl,bl:=t.bl,rb:=f.b 1,rx:=f.b 2,tr:=f.b 4,ow:=[],C:=t.C,fl:=t.fl,ms:=ms,mc:=mc }
def FI.body (t:Tx) (fs ms:Fs) (mc:Mc) (f:FI):List W->List Bx->O W:=
 let m:=wG ((cm 40).s<|f.cf t fs ms mc)<|gf f.st
 aN f.N.length (if f.b 2 then m else aU m)
def abC (t:Tx) (r:List FI) (f:FI):aE:=KG ((cm 40).s<|f.cf t (HD r) (yH r) ah) (gf f.st).dropLast
def HE (t:Tx):List FI->Mc
 |[]=>ah
 |f::r=>if f.b 32 then ae (t.cn,(t.cf,abC t r f)) else HE t r
def FI.ok (f:FI):Bool:=decide ((fG f.st).kind=.function)&&!(fG f.st).isCoroutine&&!(fG f.st).isGenerator&&decide f.N.Nodup&&decide (f.N.take f.ps.length=f.ps) &&
 f.ps.all (λx=>decide ((fG f.st).names.lookup x=ae .local)||decide ((fG f.st).names.lookup x=ae .cell))&&(fG f.st).names.all λy=>decide (y.2≠.free)
theorem FI.scope {f:FI}(h:f.ok=ag):qL f.N f.ps (fG f.st):=by
 erw[FI.ok,aH,decide_eq_true_eq,cg,sV,kN]at h;let#[#[#[#[#[#[h1,h2],h3],h4],h5],h6],h7]:=h;show#[h1,h2,h3,h4,h5,h6,λy m=>h7 y m]
def FI.Is (t:Tx) (r:List FI) (f:FI):zk:=
 (f.b 8=af /\ f.fn=f.body t (HD r) (yH r) (HE t r)) \/
 (f.b 8=ag /\ (f.b 16||f.b 32)=af /\ ∃ g:Nat->List W->List Bx->O W,(g 0=λ_ _=>.bad) /\ (∀ i,g (i+1)=f.body t ((f.x,(f.ps.length,g i))::HD r) (yH r) (HE t r)) /\ f.fn=g 12) \/ f.b 32=ag
noncomputable def abD (t:Tx):List FI->zk
 |[]=>True
 |f::r=>f.Is t r /\ abD t r
def eW:List FI->Nat
 |[]=>0
 |f::r=>eW r+(if f.b 8 then 13 else 2)
def Qj (t:Tx) (f:FI):Bool:=match (gf f.st).getLast? with
 |some (.Assign [.Attribute (.Name s _) n _] (.List [] _) _)=>decide (n=t.cf)&&decide (n∈t.fl)&&decide (f.N[0]?=ae s)&&(decide ((fG f.st).names.lookup s=ae .local))&&!(s==("__debug__"))&&!(s==("__classdict__"))&&decide (f.ps.length=2)&&decide (f.N.length=2)&&decide (f.x="__init__")
 |_=>af
section
variable {K:PySem.W.Frag}
structure Qk (P:cT) (w:cj) (K:PySem.W.Frag) (mg:Str->Option au) (base:aK) (cl:Nat->ai) (t:Tx) (ex tr:Bool):zk where
 gl:∀ x v,t.gl.lookup x=ae v->∃ u,mg x=ae (.int v u)
 bl:∀ x,x∈t.bl->mg x=ah
 ti:pX K "int"
 tb:pX K "bool"
 tt:pX K "tuple"
 tl:pX K "list"
 ts:pX K "str"
 ext:ex=ag->∃ R,kU K mg R cl
 hw:tr=ag->E9 P w K mg base cl
 na:∀ f,f∈t.fl->qK K t.C f
 cls:t.fl≠[]->kD K t.C /\ mg t.cn=ae (.ref t.C) /\ makesIn K t.C=ag /\ keepIn K (.ref t.C)=ag
def af7 (K:PySem.W.Frag) (C:ai) (x:Str) (st:bK) (ps:List Str):zk:=∃ (f:ai) (fd:FuncData) (q:Str),dY K x q st f fd /\ Meth K C x f /\ Binds K fd ps []
def wH (K:PySem.W.Frag) (mg:Str->Option au) (C:ai) (f:FI):zk:=if (f.b 16||f.b 32)=ag then af7 K C f.x f.st f.ps else Def K mg f.x f.st f.ps
theorem Ca (B:Qk P w K mg base cl t ex tr) {f:FI}(d:dY K f.x q f.st fa fd) (ho:f.ok=ag) (hex:f.b 2=ag \/ f.b 4=ag->ex=ag) (HF:f.b 4=ag->tr=ag) (tF:f.b 2=ag->f.b 4=af) (hk:f.b 4=ag->1<=k) (F:∀ x n fn,fs.lookup x=ae (n,fn)->∃ kk ps,rm P w K mg base cl kk x ps fn /\ ps.length=n /\ kk<=k) (B2:Qa P w K mg base cl t.C t.fl ms mc k):cQ P w K mg base (dq P w) (k+1) fa fd f.ps (qU cl f.ps.length<|f.body t fs ms mc):=by
 have S:=FI.scope ho;unfold FI.body;cases h2:f.b 2 with
 |false=>
   refine S7 d S λcdv A outer s H E n F0 hr=>lQ ((jM 40).s (k:=k) ?_) _;show#[rfl,rfl,S.kind,rfl,λ_ _=>rfl,(λx m=>nomatch m),S.nd,hr,F,B.gl,B.bl,BC,B.ti,B.tb,B.tt,B.tl,B.ts,λ_=>PassesOwn.never,λz=>absurd (h2.symm.trans z) zc,λz=>#[B.ext (hex<|.inr z),B.hw<|HF z,hk z,rfl,rfl],B2]
 |true=>
   refine Ua d S λcdv A outer s H E n F0 hr=>lQ ((jM 40).s (k:=k) ?_) _;show#[rfl,rfl,S.kind,rfl,λ_ _=>rfl,(λx m=>nomatch m),S.nd,hr,F,B.gl,B.bl,Cn.passes,B.ti,B.tb,B.tt,B.tl,B.ts,λz=>absurd (h2.symm.trans z) zc,λ_=>#[Cn,B.ext (hex<|.inl h2)],λz=>absurd ((tF h2).symm.trans z) zc,B2]
theorem MP (B:Qk P w K mg base cl t ex tr) (d:dY K f.x q f.st fa fd) (ho:f.ok=ag) (hi:Qj t f=ag) (h2:f.b 2=af) (h4:f.b 4=af)
 (F:∀ x n fn,(HD r).lookup x=ae (n,fn)->∃ kk ps,rm P w K mg base cl kk x ps fn /\ ps.length=n /\ kk<=k) (B2:Qa P w K mg base cl t.C t.fl (yH r) ah k):cQ P w K mg base (dq P w) (k+1) fa fd f.ps (KH t.C t.cf<|abC t r f):=by
 have S:=FI.scope ho;unfold Qj at hi;split at hi
 case h_2=>cases hi
 ext s p1 n p2 p3 p4 el;erw[aH,decide_eq_true_eq,kN]at hi;let#[#[#[#[#[#[#[#[rfl,i1],i2],i3],i4],i5],i6],i7],_]:=hi;have wg:gf f.st=(gf f.st).dropLast++[.Assign [.Attribute (.Name s p1) t.cf p2] (.List [] p3) p4]:=by
  let#[b,e]:=List.getLast?_eq_some_iff.mp el;rw[e];simp
 refine NA (cl:=cl) d S i6 i7 (B2.cls λz=>by rw[z]at i1;cases i1) (B2.na _ i1) wg i2 (Or.inl i3) i4 i5 λcdv A outer s H E T hr=>(jM 40).s (k:=k) ?_;show#[rfl,rfl,S.kind,rfl,λ_ _=>rfl,(λx m=>nomatch m),S.nd,hr,F,B.gl,B.bl,BC,B.ti,B.tb,B.tt,B.tl,B.ts,λ_=>PassesOwn.never,λz=>absurd (h2.symm.trans z) zc,λz=>absurd (h4.symm.trans z) zc,B2]
def W2 (t:Tx) (ex tr:Bool) (r:List FI) (f:FI):Bool:=f.ok&&(!(f.b 2||f.b 4)||ex)&&(!f.b 4||tr)&&!(f.b 2&&f.b 4)&&(!f.b 4||decide (1<=eW r))&&(!f.b 32||(Qj t f&&!f.b 2&&!f.b 4))
def Ql (t:Tx) (ex tr:Bool):List FI->Bool
 |[]=>ag
 |f::r=>W2 t ex tr r f&&Ql t ex tr r
def wI (P:cT) (w:cj) (K:PySem.W.Frag) (mg:Str->Option au) (base:aK) (cl:Nat->ai) (C:ai) (k:Nat) (f:FI):zk:=
 if f.b 32=ag then True else if f.b 16=ag then Hc P w K mg base cl C k f.x f.ps f.fn else rm P w K mg base cl k f.x f.ps f.fn
theorem OY (B:Qk P w K mg base cl t ex tr):∀ (l),abD t l->Ql t ex tr l=ag->(∀ f∈l,wH K mg t.C f)->(∀ f∈l,∃ kk,wI P w K mg base cl t.C kk f /\ kk<=eW l) /\ Qa P w K mg base cl t.C t.fl (yH l) (HE t l) (eW l):=by
 intro l_;induction l_ with
 |nil=>show λ_ _ _=>#[(λf m=>nomatch m),λz=>(B.cls z).1,B.na,(λx n fn e=>nomatch e),(λx f m e=>nomatch e)]
 |cons f r aB=>
   intro A C D;let#[A1,A2]:=A;have C':(W2 t ex tr r f&&Ql t ex tr r)=ag:=C;rw[aH]at C';let#[ih,B2]:=aB A2 C'.2 λg m=>D g<|bD _ m;have F:∀ x n fn,(HD r).lookup x=ae (n,fn)->∃ kk ps,rm P w K mg base cl kk x ps fn /\ ps.length=n /\ kk<=eW r:=λx n fn e=>by
    refine iB (P:=λx (p)=>∃ kk ps,rm P w K mg base cl kk x ps p.2 /\ ps.length=p.1 /\ kk<=eW r) (λp m=>?_) e;let#[g,wJ,rfl]:=bc.mp m;let#[wJ,nb]:=List.mem_filter.mp wJ;let#[kk,h1,h2]:=ih g wJ;erw[kN,Ih]at nb;unfold wI at h1;rw[if_neg (by rw[nb.2];decide),if_neg (by rw[nb.1];decide)]at h1;show#[kk,g.ps,h1,rfl,h2]
   have c1:=C'.1;erw[W2,aH,sV,kN,Ih,X8,decide_eq_true_eq]at c1;let#[#[#[#[#[o1,o2],o3],o4],o5],o6]:=c1;have hex:f.b 2=ag \/ f.b 4=ag->ex=ag:=λz=>by
    rcases o2 with⟨a,b⟩|a
    .rcases z with z|z
     .rw[a]at z;cases z
     .rw[b]at z;cases z
    .show a
   have HF:f.b 4=ag->tr=ag:=λz=>by
    rcases o3 with a|a
    .rw[a]at z;cases z
    .show a
   have tF:f.b 2=ag->f.b 4=af:=λz=>by
    rcases o4 with a|a
    .rw[a]at z;cases z
    .show a
   have hk:f.b 4=ag->1<=eW r:=λz=>by
    rcases o5 with a|a
    .rw[a]at z;cases z
    .show a
   have df:=D f<|bO ..;have ahA:eW r+2<=eW (f::r):=by
    change _<=eW r+(if f.b 8 then 13 else 2);split<;>lia
   have main:∃ kk,wI P w K mg base cl t.C kk f /\ kk<=eW (f::r):=by
    unfold wI;by_cases sQ:f.b 32=ag
    .show#[0,by rw[if_pos sQ];trivial,di _]
    erw[if_neg sQ];rw[X7]at sQ;rcases A1 with⟨a1,a2⟩|⟨a1,a0,q,a2,a3,a4⟩|a1
    .refine#[eW r+1,?_,by lia];unfold wH at df;rw[sQ,X5]at df;by_cases Qm:f.b 16=ag
     .rw[if_pos Qm]at df ⊢;let#[fa,fd,q,Fu,hm,hb]:=df;show#[fa,fd,a2▸Ca B Fu o1 hex HF tF hk F B2,hm,hb]
     .rw[if_neg Qm]at df ⊢;let#[fa,fd,Fu,hm,hb]:=df;show#[fa,fd,a2▸Ca B Fu o1 hex HF tF hk F B2,hm,Fu.kp,hb,Fu.obj]
    .have Qm:f.b 16=af:=by
      rw[Ih]at a0;show a0.1
     unfold wH at df;rw[a0,if_neg zc]at df;erw[if_neg (show ¬ f.b 16=ag by rw[Qm];decide)];have hg:∀ i,rm P w K mg base cl (eW r+i+1) f.x f.ps (q i):=λi=>by
      induction i with
      | zero=>rw[a2];show(λd=>by
        let#[f,fd,F,hm,hb]:=d;refine#[f,fd,#[λvs H Q E h=>?_,λA outer s H args us vs Q E _ _ _ _ h=>?_],hm,F.kp,hb,F.obj]
        .let#[_,_,_,_,_,_,_,h]:=h;show h.elim
        .let#[_,_,_,_,_,_,_,h]:=h;show h.elim) df
      |succ i hi=>
        rw[a3];let#[fa,fd,Fu,hm,hb]:=df;refine#[fa,fd,Ca (k:=eW r+(i+1)) B Fu o1 hex HF tF (λz=>by lia) (λx n fn e=>?_) #[B2.cls,B2.na,λx n fn e=>?_,λx f m e=>?_],hm,Fu.kp,hb,Fu.obj]
        .rw[hG]at e;cases hx:x==f.x with
         |true=>
           rw[hx]at e;cases e;have:x=f.x:=by simpa using hx
           subst this;show#[_,_,hi,rfl,by lia]
         |false=>
           rw[hx]at e;let#[kk,ps,h1,h2,h3]:=F x n fn e;show#[kk,ps,h1,h2,by lia]
        .let#[kk,ps,h1,h2,h3]:=B2.ms x n fn e;show#[kk,ps,h1,h2,by lia]
        .let#[y,g,fd,ps,kk,M,G,b,h3]:=B2.mc x f m e;show#[y,g,fd,ps,kk,M,G,b,by lia]
     refine#[eW r+12+1,a4▸hg 12,?_];change _<=eW r+(if f.b 8 then 13 else 2);rw[a1,if_pos rfl]
     lia
    .rw[a1]at sQ;cases sQ
   refine#[λg m=>?_,B2.cls,B2.na,λx n fn e=>?_,λx fl m e=>?_]
   .rcases a9.mp m with rfl|m
    .show main
    .let#[kk,h1,h2]:=ih g m;show#[kk,h1,by lia]
   .refine iB (P:=λx (p:Nat×(List W->List Bx->O W))=>∃ kk ps,Hc P w K mg base cl t.C kk x ps p.2 /\ ps.length=p.1 /\ kk<=eW (f::r)) (l:=yH (f::r)) (λp m=>?_) e;let#[g,wJ,rfl]:=bc.mp m;let#[wJ,nb]:=List.mem_filter.mp wJ;rw[aH,kN]at nb;have key:∃ kk,wI P w K mg base cl t.C kk g /\ kk<=eW (f::r):=by
     rcases a9.mp wJ with rfl|mm
     .show main
     .let#[kk,h1,h2]:=ih g mm;show#[kk,h1,by lia]
    let#[kk,h1,h2]:=key;unfold wI at h1;rw[nb.2,if_neg zc,if_pos nb.1]at h1;show#[kk,g.ps,h1,rfl,h2]
   .unfold HE at e;split at e
    .ext sQ;cases e;rcases o6 with a|⟨⟨i1,i2⟩,i3⟩
     .rw[a]at sQ;cases sQ
     have yI:=i1;unfold Qj at yI;split at yI
     case h_2=>cases yI
     ext s p1 n p2 p3 p4 el;erw[aH,decide_eq_true_eq]at yI;have af8:t.fl≠[]:=λz=>by have:=yI.1.1.1.1.1.1.1.2;rw[z]at this;cases this
     let#[cc,mm,af9,aga]:=B.cls af8;unfold wH at df;rw[sQ,X6,if_pos rfl]at df;let#[fa,fd,q,Fu,hm,hb]:=df;refine#[mm,fa,fd,f.ps,eW r+1,#[af9,yI.2▸hm.at_,hm.fn,aga],MP B Fu o1 i1 i2 i3 F #[B2.cls,B2.na,B2.ms,λx f m e=>nomatch e],hb,by lia]
    .let#[y,g,fd,ps,kk,M,G,b,h3]:=B2.mc x fl m e;show#[y,g,fd,ps,kk,M,G,b,by lia]
end
noncomputable def abE (o:Obj):Bool:=match o.cls with|.type n=>n == "list"|_=>af
def W3 (K:PySem.W.Frag):Bool:=K.all λp=>!abE p.2
theorem Jg {K}(h:W3 K=ag) (e:K.lookup a=ae o):o.cls≠.type "list":=by
 intro c;unfold W3 at h;rw[cg]at h;have m:(a,o)∈K:=by
  clear h;induction K with
  |nil=>cases e
  |cons p K ih=>
    rw[hG]at e;cases q:a==p.1 with
    |true=>
      rw[q]at e;cases e;have:a=p.1:=by simpa using q
      subst this;show bO ..
    |false=>
      rw[q]at e;show bD _<|ih e
 have:=h _ m;simp[abE,c]at this
noncomputable def tys:List String:=["NoneType","bool","int","str","tuple","list","dict"]
def Qn (K:PySem.W.Frag):Bool:=tys.all λS=>["int","bool","tuple","list","str"].all λT=>PySem.W.kitOne K (.type S) (.type T)==ae (sr S T)
theorem AK {K}(h:Qn K=ag) (m:T∈["int","bool","tuple","list","str"]):pX K T:=by
 intro d;unfold Qn at h;rw[cg]at h;have m1:pW d∈tys:=by cases d<;>simp[pW,tys]
 have z:=h _ m1;rw[cg]at z;show beq_iff_eq.mp<|z _ m
theorem SN {K:PySem.W.Frag}{st}{kV}(X:K.In h) (G:h.Ns mainGlobals mg)
 (a:PySem.W.nsIn K mainGlobals x=ae (ae<|.ref f)) (l:K.lookup f=ae #[oc,od,.func<|PySem.W.fnOf x x (gY st) (gf st) (fG st) .none kV doc pm an cdv ct,pO])
 (c:PySem.W.codeIn K cdv x=ag) (k:PySem.W.keepIn K (.ref f)=ag) (hb:∀ fd,dY K x x st f fd->Binds K fd ps []):Def K mg x st ps:=
 #[f,_,Bz l c k,PySem.W.mg_of X G a,hb _<|Bz l c k]
theorem SO {l:PySem.W.OpenLaw}{K:PySem.W.Frag}{st:bK}(cl:Nat->ai) (yJ:mg "law"=ae (.ref fa)) (D:Def K mg "law" st ["_law_script"])
 (hB:∀ (fd:FuncData) (f:ai),dY K "law" "law" st f fd->∀ (s:aI) (u:au),BindsTo s fd #[[u],[]] [("_law_script",u)])
 (H:∀ base:aK,K.In base->base.Ns mainGlobals mg->rm l.prog w K mg base cl k "law" ["_law_script"] fn) :
 ∃ (cl:Nat->ai) (fd:FuncData),(∀ (s:aI) (u:au),BindsTo s fd #[[u],[]] [("_law_script",u)]) /\ ∀ base:aK,K.In base->base.Ns mainGlobals mg->cQ l.prog w K mg base (dq l.prog w) k fa fd ["_law_script"] (qU cl 1 fn):=by
 let#[f,fd,F,hm,_]:=D;rw[yJ]at hm;cases hm;refine#[cl,fd,hB fd fa F,λbase hK hN=>?_];let#[f',ahB,ok,abF,_,_,o,hl,hd]:=H base hK hN;rw[yJ]at abF;cases abF;let#[o2,sf,hd2]:=F.obj;rw[hl]at sf;cases sf;rw[hd]at hd2;cases hd2;show ok
open PySem.W in
def Qo (K:Frag) (R C:ai):Bool:=excIn K C VD "ValueError.__new__"&&(findIn K (.ref C) "__getattribute__"==ae (ae<|.builtin "BaseException.__getattribute__"))&&(findIn K (.ref C) "__getattr__"==ae ah) &&
 (findIn K (.ref C) "__class__"==ae (ae<|.builtin "object.__class__"))&&(mroIn K C (.type "object")==ae ag)&&(mroIn K C (.type "BaseException")==ae ag)&&(clsIn K C).isSome&&(kitOne K (.ref C) (.type "ValueError")==ae ag)&&(kitCls K (.ref C) (.ref R)==ae ag)
open PySem.W in
noncomputable def W4 (K:Frag) (cs:List ai):Bool:=(List.range 17).all λi=>(List.range 17).all λj=>kitOne K (.ref<|cs.getD i 0) (.ref<|cs.getD j 0)==ae (decide (i=j))
open PySem.W in
noncomputable def W5 (K:Frag) (R:ai):Bool:=(mroIn K R (.type "BaseException")==ae ag)&&(specialIn K (.builtin "object.__class__") "__get__"==ae (ae<|.builtin "getset_descriptor.__get__"))&&(takesIn K (.builtin "object.__class__")==ae ag)
theorem MQ {l:List ai}(h:i<l.length):l.getD i 0∈l:=by
 rw[List.getD,cW h];show yU h
open PySem.W in
theorem SQ {K:Frag}(X:K.In h) (G:h.Ns mainGlobals mg) (hl:cs.length=17) (eR:nsIn K mainGlobals "RimeError"=ae (ae<|.ref R))
 (e:∀ i x,E8[i]?=ae x->nsIn K mainGlobals x=ae (ae<|.ref<|cs.getD i 0)) (zi:nsIn K mainGlobals "isinstance"=ae ah) (zv:nsIn K mainGlobals "ValueError"=ae ah)
 (h1:cs.all (Qo K R)=ag) (h2:W4 K cs=ag) (h3:W5 K R=ag):kU K mg R (λi=>cs.getD i 0):=by
 unfold W5 at h3;simp[aH,beq_iff_eq]at h3;let#[#[q1,q3],q4]:=h3;have hc:∀ i,i<17->Qo K R _=ag:=λi hi=>by
  rw[cg]at h1;show h1 _<|MQ (by rw[hl];show hi)
 erw[Qo,aH,beq_iff_eq]at hc;refine#[λi x hx=>mg_of X G<|e i x hx,mg_of X G eR,UM X G zi,UM X G zv,λi hi=>(hc i hi).1.1.1.1.1.1.1.1,λi hi=>?_,λi j hi hj=>?_,λi hi=>(hc i hi).1.2,λi hi=>(hc i hi).2,q1]
 .let#[#[#[#[#[#[#[#[_,y2],y3],y4],y5],y6],y7],_],_]:=hc i hi;show#[y2,y3,y4,q3,q4,y5,y6,y7]
 .unfold W4 at h2;rw[cg]at h2;have z:=h2 i<|List.mem_range.mpr hi;rw[cg]at z;show beq_iff_eq.mp<|z j<|List.mem_range.mpr hj
noncomputable def W6 (K:Frag) (bl:List Str):Bool:=bl.all λx=>match nsIn K mainGlobals x with|some ah=>ag|_=>af
noncomputable def Qp (K:Frag) (gl:List<|Str×Int):Bool:=gl.all λp=>match nsIn K mainGlobals p.1 with|some (ae<|.int v _)=>v==p.2|_=>af
theorem MR {K:Frag}(X:K.In h) (G:h.Ns mainGlobals mg) (c:Qp K gl=ag):∀ x v,gl.lookup x=ae v->∃ u,mg x=ae (.int v u):=λx v e=>by
 unfold Qp at c;rw[cg]at c;refine iB (P:=λx (v)=>∃ u,mg x=ae (.int v u)) (λp m=>?_) e;have z:=c p m;split at z
 .next v u e=>
  have:v=p.2:=by simpa using z
  subst this;show#[u,mg_of X G e]
 .cases z
theorem T3 {K:Frag}(X:K.In h) (G:h.Ns mainGlobals mg) (z:W6 K t.bl=ag) (g:Qp K t.gl=ag) (y:Qn K=ag)
 (e:ex=ag->∃ R,kU K mg R cl) (hw:tr=ag->E9 P w K mg base cl) (na:(t.fl.all λf=>findIn K (.ref t.C) f==ae ah)=ag) (c:t.fl≠[]->kD K t.C /\ nsIn K mainGlobals t.cn=ae (ae<|.ref t.C) /\ makesIn K t.C=ag /\ keepIn K (.ref t.C)=ag):Qk P w K mg base cl t ex tr:=
 #[MR X G g,(λX G c=>λx m=>by
  unfold W6 at c;rw[cg]at c;have z:=c x m;split at z
  .next e=>show UM X G e
  .cases z) X G z,AK y zg,AK y zg,AK y zg,AK y zg,AK y zg,e,hw,λf m=>beq_iff_eq.mp<|cg.mp na f m,λz=>#[(c z).1,mg_of X G (c z).2.1,(c z).2.2]]
theorem OZ {l:PySem.W.OpenLaw}{K}{st} (cl) (yJ:mg "law"=ae (.ref fa)) (D:Def K mg "law" st ["_law_script"])
 (hB:∀ (fd:FuncData) (f:ai),dY K "law" "law" st f fd->∀ (s:aI) (u:au),BindsTo s fd #[[u],[]] [("_law_script",u)])
 (H:∀ base:aK,K.In base->base.Ns mainGlobals mg->∃ kk,rm l.prog w K mg base cl kk "law" ["_law_script"] fn /\ kk<=k) :
 ∃ (cl:Nat->ai) (fd:FuncData),(∀ (s:aI) (u:au),BindsTo s fd #[[u],[]] [("_law_script",u)]) /\ ∀ base:aK,K.In base->base.Ns mainGlobals mg->cQ l.prog w K mg base (dq l.prog w) k fa fd ["_law_script"] (qU cl 1 fn):=
 SO cl yJ D hB λbase a b=>by
  let#[kk,#[f,fd,ok,r],le]:=H base a b;show#[f,fd,ok.mono le,r]
def HG (K:Frag) (x:Str) (st:bK):zk:=∃ (f:ai) (oc:au) (od:Option ai) (kV dc pm:au) (an:Option ai) (cd ct:au) (sl:Array _),nsIn K mainGlobals x=ae (ae<|.ref f) /\
 K.lookup f=ae #[oc,od,.func<|fnOf x x (gY st) (gf st) (fG st) .none kV dc pm an cd ct,sl] /\ codeIn K cd x=ag /\ keepIn K (.ref f)=ag
theorem dIn_mk {K}{st}{kV}(a:nsIn K mainGlobals x=ae (ae<|.ref f))
 (l:K.lookup f=ae #[oc,od,.func<|fnOf x x (gY st) (gf st) (fG st) .none kV dc pm an cd ct,sl]) (c:codeIn K cd x=ag) (k:keepIn K (.ref f)=ag):HG K x st:=#[f,oc,od,kV,dc,pm,an,cd,ct,sl,a,l,c,k]
noncomputable def W7 (a:Arguments) (ps:List Str):Bool:=a.posonlyargs.isEmpty&&a.vararg.isNone&&a.kwonlyargs.isEmpty&&a.kwarg.isNone&&decide (a.args.map (·.arg)=ps)&&decide ps.Nodup
theorem Ae {β:Type}{f g:Str->Option β}:∀ {l:List Str},(∀ n∈l,f n=g n)->l.filterMap f=l.filterMap g:=by
 intro l_;induction l_ with
 |nil=>show λ_=>rfl
 |cons n l aB=>(intro h;rw[qk,qk,h n<|bO ..,aB λm q=>h m<|bD _ q])
theorem C9:∀ {ps:List Str}{us:List au},us.length=ps.length->ps.Nodup->(∀ n∈ps,((ps.zip us).lookup n).isNone=af) /\ ps.filterMap (λn=>((ps.zip us).lookup n).map (n,·))=ps.zip us
 |[],_,_,_=>#[(λ_ h=>nomatch h),rfl]
 |p::ps,[],h,_=>by cases h
 | p::ps,u::us,h,nd=>by
   let#[n1,n2]:=rR.mp nd;let#[a,b]:=C9 (by simpa using h) n2;have ne:∀ n∈ps,(n==p)=af:=λn m=>beq_eq_false_iff_ne.mpr λz=>n1<|z▸m;refine#[λn m=>?_,?_]
   .rw[qm,hG];cases q:n==p with
    |true=>rfl
    |false=>
      rcases a9.mp m with z|z
      .rw[z]at q;simp at q
      .show a n z
   .rw[qm,List.filterMap_cons_some (b:=(p,u)) zg];congr 1;show Eq.trans (Ae λn m=>by rw[hG,ne n m]) b
theorem AL (h:W7 a ps=ag) (kV doc pm) (an) (cdv ct) (us) (hl:us.length=ps.length) :
 bindArgs (fnOf x y a b sc .none kV doc pm an cdv ct) #[us,[]]=pure (ps.zip us):=by
 let#[po,ar,va,ko,kd,kw,df]:=a;erw[W7,aH,decide_eq_true_eq,List.isEmpty_iff,Option.isNone_iff_eq_none]at h;let#[#[#[#[#[rfl,rfl],rfl],rfl],rfl],nd]:=h;let#[z1,z2]:=C9 hl nd;erw[bindArgs];have m0:∀ l:List Str,(∀ n∈l,n∈ar.map (·.arg))->l.filter (λn=>(((ar.map (·.arg)).zip us).lookup n).isNone)=[]:=λl h=>List.filter_eq_nil_iff.mpr λn m=>by rw[z1 n<|h n m];decide
 have n0:(do notAStandIn Value.none;pure (ah:Option<|Array au))=pure ah:=rfl;erw[QV,vv,rN,yV,pure_bind,seqItems?,n0,hl,eZ,decide_false,pG,wV,if_false,Q2,List.drop_nil,nZ,Ic,rQ,List.drop_length,Yp,m0 _ λ_ h=>h,List.isEmpty_nil,Bool.not_true,z2]
def HI (K:Frag) (C:ai) (x:Str) (st:bK):zk:=∃ (q:Str) (f:ai) (oc:au) (od:Option ai) (kV dc pm:au) (an:Option ai) (cd ct:au) (sl:Array _),findIn K (.ref C) x=ae (ae<|.ref f) /\ isFn K (.ref f)=ag /\
 K.lookup f=ae #[oc,od,.func<|fnOf x q (gY st) (gf st) (fG st) .none kV dc pm an cd ct,sl] /\ codeIn K cd q=ag /\ keepIn K (.ref f)=ag
theorem dInM_mk {K}{st}{kV}(a:findIn K (.ref C) x=ae (ae<|.ref f)) (i:isFn K (.ref f)=ag)
 (l:K.lookup f=ae #[oc,od,.func<|fnOf x q (gY st) (gf st) (fG st) .none kV dc pm an cd ct,sl]) (c:codeIn K cd q=ag) (k:keepIn K (.ref f)=ag):HI K C x st:=#[q,f,oc,od,kV,dc,pm,an,cd,ct,sl,a,i,l,c,k]
def AllIn (K:Frag) (C:ai):List FI->zk
 |[]=>True
 |f::r=>(if (f.b 16||f.b 32)=ag then HI K C f.x f.st else HG K f.x f.st) /\ AllIn K C r
theorem abG {K:Frag}(X:K.In h) (G:h.Ns mainGlobals mg):∀ {l},AllIn K C l->(l.all λf=>W7 (gY f.st) f.ps)=ag->∀ f∈l,wH K mg C f
 |[],_,_=>λ_ m=>nomatch m
 | g::r,d,q=>λf m=>by
   rw[nG,aH]at q;rcases a9.mp m with rfl|m
   .have d1:=d.1;unfold wH;split at d1
    .ext b;rw[if_pos b];let#[qn,fa,oc,od,kV,dc,pm,an,cd,ct,sl,a,i,l,c,k]:=d1;have F:=Bz l c k;show#[fa,_,qn,F,#[a,i,k],F.binds<|AL q.1]
    .ext b;rw[if_neg b];let#[f,oc,od,kV,dc,pm,an,cd,ct,sl,a,l,c,k]:=d1;show SN X G a l c k λfd F=>F.binds<|AL q.1
   .show abG X G d.2 q.2 f m
section
variable {K:Frag}
abbrev DX (K:Frag) (C:ai) (f:FI):zk:=if (f.b 16||f.b 32)=ag then HI K C f.x f.st else HG K f.x f.st
theorem Uu (h:(f.b 16||f.b 32)=af) (d:HG K f.x f.st):DX K C f:=by unfold DX;rw[if_neg (by rw[h];decide)];show d
theorem Uv (h:(f.b 16||f.b 32)=ag) (d:HI K C f.x f.st):DX K C f:=by unfold DX;rw[if_pos h];show d
end
noncomputable def HJ (K:Frag) (C:ai):List (Bool×Str×bK)->zk
 |[]=>True
 |(af,x,st)::r=>HG K x st /\ HJ K C r
 |(ag,x,st)::r=>HI K C x st /\ HJ K C r
def FI.key (f:FI):Bool×Str×bK:=(f.b 16||f.b 32,f.x,f.st)
theorem O2 {K}:∀ {r},HJ K C (r.map FI.key)->AllIn K C r:=by
 intro l_;induction l_ with
 |nil=>show λ_=>trivial
 |cons f r aB=>
   intro h;have h:HJ K C (f.key::r.map FI.key):=h;unfold FI.key at h;cases a:f.b 16||f.b 32 with
   |true=>rw[a]at h;show#[Uv a h.1,aB h.2]
   |false=>rw[a]at h;show#[Uu a h.1,aB h.2]
theorem walk_o {l:PySem.W.OpenLaw}{K:Params->PySem.W.Frag}{fn:ai->List W->List Bx->O W}(hk:bI k callerA) (hn:l.most=ae 63) (Vr:d.params.defaults=[])
 (hY:∀ (w:cj) (h:aK),YP w h->(K w.params).In h) (nl:∀ w:cj,W3 (K w.params)=ag) (hf:∀ (C:ai) (ns:List Int),ns.length<=63->∃ bx',fn C [.s ns] []=.val (.d<|.bl ag) bx')
 (F:∀ (w:cj) (mg:Str->Option au) (fa:ai) (h:aK),(K w.params).In h->h.Ns mainGlobals mg->mg d.name=ae (.ref fa) ->
  ∃ (C:ai) (cl:Nat->ai) (fd:FuncData),(∀ (s:aI) (u:au),BindsTo s fd #[[u],[]] [("_law_script",u)]) /\ ∀ base:aK,(K w.params).In base->base.Ns mainGlobals mg->cQ l.prog w (K w.params) mg base (dq l.prog w) k fa fd ["_law_script"] (qU cl 1<|fn C)) :
 PySem.W.WalkO q loose XP YP l.row.toRowW d [] (λf vs=>PySem.call f vs):=by
 refine ZW.adn hn Vr λw s0 s1 mg mb fa o pm cd doc a vs ns G Y ho hd dn hmg Vs hints hlen hg=>?_;have KX:=hY w _ Y;let#[C,cl,fd,hb,hF]:=F w mg fa _ KX G.T.g hmg;show JI KX G.T.g G.T.b G.T.builtins G.T.nolimit hg Vs hints (cw hlen zc) hk hF hb (λH hO hS=>(λnl hO hS hf=>by
  rcases hS with hS|⟨o,its,n,e1,e2,_⟩
  .rcases hS with hS|⟨o,hS⟩
   .rcases hO a with z|⟨o,xs,z⟩
    .rw[hS]at z;cases z
    .rw[hS]at z;cases z
   .let#[bx',hf]:=hf;refine#[H,[],[.s ns],[],#[Sub.refl H,λi w e=>by simp at e,rfl,.nil,λn c a e=>by simp,λa u e _=>e,λn a _ e=>by simp at e,aA _,aA _,λa u e=>.inr<|.inl e],#[.ref a,[],rfl,#[a,o,rfl,hS],rfl],rfl,?_];rw[hf];intro F' r' v H' _ _ d;show d
  .show absurd e2 (Jg nl e1)) (nl w) hO hS<|hf C ns hlen) λH e s' z=>by
  let#[_,_,_,_,_,_,_,_,_,_,_,_,_,z]:=z;show z
end L2.DL
namespace K13
open L2 L2.DL
noncomputable section
def top (i:Nat):bK:=PySem.Challenge.pw_rimehold_k13_what_are_no_pages.main.body.getD i<|.Pass #[0,0,0,0]
noncomputable def tx (C:ai):Tx:=#["_law_script",[("COLDEST",3),("MOST_PAGES",16),("LAST_LOT",9)],["all","bool","int","isinstance","len","list","max","min","range","repr","set","sorted","str","tuple","zip"],C,["dark_hours","earlier","home","kept"], "Ledger","earlier"]
noncomputable def r0 (C:ai):List FI:=[]
def r1 (C:ai):List FI:=#["_law_pot",["_law_cell"],["_law_cell","_law_number","_law_j","_law_more"],[],[],[],1,top 57,K1.jC]::r0 C
def r2 (C:ai):List FI:=#["_law_take",["_law_pot_here","_law_far"],["_law_pot_here","_law_far","_law_found"],[],[],[],0,top 58,K1.fk]::r1 C
def r3 (C:ai):List FI:=#["_law_kind_of",["_law_pot_here"],["_law_pot_here","_law_top","_law_rates"],[],[],[],0,top 64,K1.ia]::r2 C
def r4 (C:ai):List FI:=#["_law_house",["_law_pot_here"],["_law_pot_here","_law_rooms","_law_kinds","_law_pairs","_law_other"],[],[],[],0,top 65,aJ.iO]::r3 C
def r5 (C:ai):List FI:=#["_law_odd",["_law_pot_here"],["_law_pot_here","_law_some"],[],[],[],0,top 62,K1.fS]::r4 C
def r6 (C:ai):List FI:=#["_law_whole",["_law_thing"],["_law_thing"],[],[],[],0,top 59,K1.gF]::r5 C
def r7 (C:ai):List FI:=#["_law_bent",["_law_pot_here","_law_thing"],["_law_pot_here","_law_thing","_law_way","_law_at"],[],[],[],8,top 63,K1.gK 12]::r6 C
def r8 (C:ai):List FI:=#["_law_odd_pages",["_law_pot_here","_law_house_here"],["_law_pot_here","_law_house_here","_law_rooms","_law_kinds","_law_page_here","_law_found","_law_bad"],["_law_found"],[],[],0,top 74,K13.KU]::r7 C
def r9 (C:ai):List FI:=#["_law_cell_at",["_law_script","_law_k"],["_law_script","_law_k"],[],[],[],0,top 56,K1.g9]::r8 C
def VY (C:ai):List FI:=#["_law_mixed",["_law_pot_here","_law_some"],["_law_pot_here","_law_some","_law_left"],["_law_left"],[],[],0,top 61,aJ.jF]::r9 C
def agb (C:ai):List FI:=#["_law_page",["_law_pot_here","_law_house_here","_law_near"],["_law_pot_here","_law_house_here","_law_near","_law_hour","_law_lot","_law_room","_law_way","_law_ripe"],[],[],[],0,top 66,aJ.iH]::VY C
def agc (C:ai):List FI:=#["_law_pages",["_law_pot_here","_law_house_here","_law_most","_law_near"],["_law_pot_here","_law_house_here","_law_most","_law_near","_law_found","_law_turn","_law_page_here"],["_law_found"],[],[("_law_found",3)],0,top 67,aJ.iP]::agb C
def agd (C:ai):List FI:=#["is_tuple",["thing","fewest","most"],["thing","fewest","most"],[],[],[],0,top 24,K1.gD]::agc C
def age (C:ai):List FI:=#["is_whole",["thing"],["thing"],[],[],[],0,top 21,K1.i8]::agd C
def agf (C:ai):List FI:=#["is_within",["thing","least","greatest"],["thing","least","greatest"],[],[],[],0,top 22,K1.gk]::age C
def agg (C:ai):List FI:=#["are_rooms",["thing"],["thing"],[],[],[],0,top 30,K1.jy]::agf C
def agh (C:ai):List FI:=#["are_rates",["thing"],["thing"],[],[],[],0,top 33,K1.jz]::agg C
def agi (C:ai):List FI:=#["is_kind",["thing"],["thing"],[],[],[],0,top 32,K1.lM]::agh C
def agj (C:ai):List FI:=#["are_kinds",["thing"],["thing"],[],[],[],0,top 31,K1.jA]::agi C
def agk (C:ai):List FI:=#["is_rising",["things"],["things"],[],[],[],0,top 25,K1.g6]::agj C
def agl (C:ai):List FI:=#["is_pair_apart",["thing","many"],["thing","many"],[],[],[],0,top 35,K1.iz]::agk C
def agm (C:ai):List FI:=#["are_apart",["thing","many"],["thing","many"],[],[],[],0,top 34,K1.jB]::agl C
def agn (C:ai):List FI:=#["is_house",["thing"],["thing","rooms","kinds","apart","hold"],[],[],[],0,top 29,K1.j5]::agm C
def ago (C:ai):List FI:=#["need_house",["thing"],["thing"],[],[],[],0,top 36,bU.iC]::agn C
def agp (C:ai):List FI:=#["__init__",["self","house"],["self","house"],[],[],[],32,inClass (top 53) 0,K13.afG C]::ago C
def agq (C:ai):List FI:=#["_law_within",["_law_thing","_law_low","_law_high"],["_law_thing","_law_low","_law_high"],[],[],[],0,top 60,K1.gm]::agp C
def agr (C:ai):List FI:=#["_law_is_hour",["_law_thing"],["_law_thing"],[],[],[],0,top 68,K2.ic]::agq C
def ags (C:ai):List FI:=#["_law_is_page",["_law_house_here","_law_thing"],["_law_house_here","_law_thing"],[],[],[],0,top 69,K13.uU]::agr C
def agt (C:ai):List FI:=#["_law_are_pages",["_law_house_here","_law_thing"],["_law_house_here","_law_thing"],[],[],[],0,top 70,K13.sM]::ags C
def agu (C:ai):List FI:=#["pages",["self"],["self"],[],[],[],16,inClass (top 53) 8,K13.Hi C]::agt C
def agv (C:ai):List FI:=#["greatest_parts",["house","word"],["house","word","last_kind","last_room"],[],[],[],0,top 41,aJ.ie]::agu C
def agw (C:ai):List FI:=#["is_hour",["thing"],["thing"],[],[],[],0,top 23,K2.iU]::agv C
def agx (C:ai):List FI:=#["is_page",["house","thing"],["house","thing","greatest"],[],[],[],0,top 42,aJ.iA]::agw C
def agy (C:ai):List FI:=#["are_pages",["house","thing"],["house","thing"],[],[],[],0,top 43,aJ.gn]::agx C
def agz (C:ai):List FI:=#["need_pages",["house","thing"],["house","thing"],[],[],[],2,top 44,K13.Hj]::agy C
def agA (C:ai):List FI:=#["room_entered",["page"],["page"],[],[],[],0,top 48,aJ.fZ]::agz C
def agB (C:ai):List FI:=#["may_share",["house","kind","other"],["house","kind","other"],[],[],[],0,top 37,aJ.iQ]::agA C
def agC (C:ai):List FI:=#["word_for",["house","kinds","rooms","page"],["house","kinds","rooms","page","deed","lot","room","kind","neighbours"],[],["kinds","rooms"],[],0,top 49,aJ.i9]::agB C
def agD (C:ai):List FI:=#["read",["house","pages"],["house","pages","told","kinds","rooms","page","lot","word"],["kinds","rooms","told"],["kinds","rooms"],[],0,top 47,aJ.oJ]::agC C
def agE (C:ai):List FI:=#["outcomes",["house","pages"],["house","pages"],[],[],[],2,top 45,K13.Wb]::agD C
def agF (C:ai):List FI:=#["need_hour",["thing"],["thing"],[],[],[],2,top 26,K2.jD]::agE C
def agG (C:ai):List FI:=#["rooms_behind",["steps","hour"],["steps","hour","rooms","page","left","entered"],["rooms"],["rooms"],[],0,top 51,kJ.iJ]::agF C
def agH (C:ai):List FI:=#["steps_taken",["house","pages"],["house","pages"],[],[],[],0,top 50,kJ.iV]::agG C
def agI (C:ai):List FI:=#["places",["house","pages","hour"],["house","pages","hour","rooms"],[],[],[],2,top 46,K13.Wc]::agH C
def agJ (C:ai):List FI:=#["_law_told",["_law_way","_law_house_here","_law_thing"],["_law_way","_law_house_here","_law_thing","_law_e"],[],[],[],4,top 72,K13.Hk]::agI C
def agK (C:ai):List FI:=#["need_page",["self","page"],["self","page"],[],[],[],18,inClass (top 53) 15,K13.KY C]::agJ C
def agL (C:ai):List FI:=#["keep",["self","pages","outs"],["self","pages","outs"],[],[],[],16,inClass (top 53) 16,K13.KZ C]::agK C
def agM (C:ai):List FI:=#["tell",["self","page"],["self","page"],[],[],[],18,inClass (top 53) 1,K13.Hl C]::agL C
def agN (C:ai):List FI:=#["without",["things","thing"],["things","thing"],[],[],[],0,top 54,K13.Wf]::agM C
def agO (C:ai):List FI:=#["strike",["self","page"],["self","page"],[],[],[],18,inClass (top 53) 2,K13.Hm C]::agN C
def agP (C:ai):List FI:=#["_law_met",["_law_book","_law_way","_law_thing"],["_law_book","_law_way","_law_thing","_law_e"],[],[],[],4,top 73,K13.sN C]::agO C
def iL (C:ai):FI:=#["law",["_law_script"],["_law_script","_law_k","_law_pot_here","_law_house_here","_law_some","_law_book","_law_bad","_law_at","_law_kept","_law_thing","_law_due","_law_long"],[],[],[],0,top 75,K13.fn_law C]
def Qq (C:ai):List FI:=iL C::agP C
theorem SR (C):Ql (tx C) ag ag (Qq C)=ag:=by kernel_rfl
end
end K13
namespace K13.Wd
open L2 L2.DL PySem.W
abbrev ue:bK:=PySem.Challenge.pw_rimehold_k13_what_are_no_pages.main.body.getD 71<|.Pass #[0,0,0,0]
theorem MS (h:H l=ah):eP H (upd H l o):=λb u e=>by rw[fv<|fI e h];show e
noncomputable def uf (i n:Nat):List V:=(List.range n).map λj=>V.bl<|decide (i=j)
theorem Db (i n):(uf i n).all eO=ag:=by
 rw[cg];intro x hx;let#[j,_,rfl]:=bc.mp hx;rfl
theorem Jh:∀ i,i<17->(uf i 17).countP (λz=>eu z<|.bl ag)=1:=by decide
theorem SS:∀ i,i<17->(uf i 17)[i]?=ae (.bl ag):=by decide
theorem SU:∀ i,i<17->∀ m,m<i->(uf i 17)[m]?=ae (.bl af):=by decide
theorem yL:qL ["_law_e","_law_some","_law_words"] ["_law_e"] (fG ue):=#[rfl,rfl,rfl,by decide +kernel,rfl,by decide +kernel,by decide +kernel]
def dA (i:Nat):bK:=(gf ue).getD i<|.Pass #[0,0,0,0]
theorem DZ (es) (p pos') (line):swapsWith (.List es p) (ae<|.Name x pos') line env=pure af:=by rfl
section
variable {K:Frag}
abbrev XW (P:cT) (w:cj) (K:Frag) (mg:Str->Option au) (base:aK) (f:ai) (cdv:au) (A:dj) (outer:List Env) (s:aI) (H:Hp) (E:XK):Cx:=(Kl qN P w K mg base ["_law_e","_law_some","_law_words"] "_law_word" (fG ue) f cdv A outer s H E).sZ
theorem iG (s:eP H0 H) (h:H0 l=ah):eP H0 (upd H l o):=λb u e=>by rw[fv<|fI e h];show s b u e
theorem w0 (T:kU K mg R c) (hi:i<17) (ha:H0 a=ae (.ext (kE a<|c i))):∃ t,PS (XW P w K mg base f cdv A outer s Hx E) (dA 0) t /\ ∀ D,
 (∀ l H',H0 l=ah->eP H0 H'->H' l=ae (.lst [.bl<|decide (i=0),.bl<|decide (i=1),.bl<|decide (i=2),.bl<|decide (i=3)])->D.nx [ae<|.ref a,ae<|.ref l,ah] H')->t D [ae<|.ref a,ah,ah] H0:=#[_,mH (i:=1) yL.nd zj (Or.inl zj)<|jQ<|fA (fV fU (by rfl) T.inst ku<|fA (pv 0)<|fA (gq (v:=.ref<|c 0) zj (T.m 0 _ zj) zj) fR)<|fA (fV fU (by rfl) T.inst ku<|fA (pv 0)<|fA (gq (v:=.ref<|c 1) zj (T.m 1 _ zj) zj) fR)<|fA (fV fU (by rfl) T.inst ku<|fA (pv 0)<|fA (gq (v:=.ref<|c 2) zj (T.m 2 _ zj) zj) fR)<|fA (fV fU (by rfl) T.inst ku<|fA (pv 0)<|fA (gq (v:=.ref<|c 3) zj (T.m 3 _ zj) zj) fR) fR,λD k=>(#[_,rfl,_,_,_,_,_,rfl,.exc ha<|T.ek i hi,rfl,T.kt i 0 hi zc,_,rfl,_,_,_,_,_,rfl,.exc ha<|T.ek i hi,rfl,T.kt i 1 hi zc,_,rfl,_,_,_,_,_,rfl,.exc ha<|T.ek i hi,rfl,T.kt i 2 hi zc,_,rfl,_,_,_,_,_,rfl,.exc ha<|T.ek i hi,rfl,T.kt i 3 hi zc,by change 4<=sizeLine;decide,λl n=>k l _ n (MS n) fu])]
theorem w1 (T:kU K mg R c) (hi:i<17) (ha:H0 a=ae (.ext (kE a<|c i))):∃ t,PS (XW P w K mg base f cdv A outer s Hx E) (dA 1) t /\ ∀ D H l xs,eP H0 H->H0 l=ah->H l=ae (.lst xs)->xs.length<=100 ->
 (∀ p H',H0 p=ah->eP H0 H'->H' p=ae (.lst<|xs++[.bl<|decide (i=4),.bl<|decide (i=5),.bl<|decide (i=6),.bl<|decide (i=7)])->D.nx [ae<|.ref a,ae<|.ref p,ah] H')->t D [ae<|.ref a,ae<|.ref l,ah] H:=by
 refine#[_,mH (i:=1) yL.nd zj (Or.inl zj)<|Cd o9 (pv 1)<|jQ<|fA (fV fU (by rfl) T.inst ku<|fA (pv 0)<|fA (gq (v:=.ref<|c 4) zj (T.m 4 _ zj) zj) fR)<|fA (fV fU (by rfl) T.inst ku<|fA (pv 0)<|fA (gq (v:=.ref<|c 5) zj (T.m 5 _ zj) zj) fR)<|fA (fV fU (by rfl) T.inst ku<|fA (pv 0)<|fA (gq (v:=.ref<|c 6) zj (T.m 6 _ zj) zj) fR)<|fA (fV fU (by rfl) T.inst ku<|fA (pv 0)<|fA (gq (v:=.ref<|c 7) zj (T.m 7 _ zj) zj) fR) fR,λD H l xs sm hn hl hx k=>?_];have pE:=sm _ _ ha;refine#[_,rfl,_,rfl,_,_,_,_,_,rfl,.exc pE<|T.ek i hi,rfl,T.kt i 4 hi zc,_,rfl,_,_,_,_,_,rfl,.exc pE<|T.ek i hi,rfl,T.kt i 5 hi zc,_,rfl,_,_,_,_,_,rfl,.exc pE<|T.ek i hi,rfl,T.kt i 6 hi zc,_,rfl,_,_,_,_,_,rfl,.exc pE<|T.ek i hi,rfl,T.kt i 7 hi zc,by change 4<=sizeLine;decide,λl2 n2=>?_];refine#[l,l2,xs,_,rfl,rfl,by rw[fv<|fI hl n2];show hl,fu,Kg (by simp;lia) |> kM,λp np=>?_];have s2:=iG (o:=.lst [.bl<|decide (i=4),.bl<|decide (i=5),.bl<|decide (i=6),.bl<|decide (i=7)]) sm<|sm.free n2;have mp:H0 p=ah:=s2.free np;show k p _ mp (iG s2 mp) fu
theorem w2 (T:kU K mg R c) (hi:i<17) (ha:H0 a=ae (.ext (kE a<|c i))):∃ t,PS (XW P w K mg base f cdv A outer s Hx E) (dA 2) t /\ ∀ D H l xs,eP H0 H->H0 l=ah->H l=ae (.lst xs)->xs.length<=100 ->
 (∀ p H',H0 p=ah->eP H0 H'->H' p=ae (.lst<|xs++[.bl<|decide (i=8),.bl<|decide (i=9),.bl<|decide (i=10),.bl<|decide (i=11)])->D.nx [ae<|.ref a,ae<|.ref p,ah] H')->t D [ae<|.ref a,ae<|.ref l,ah] H:=by
 refine#[_,mH (i:=1) yL.nd zj (Or.inl zj)<|Cd o9 (pv 1)<|jQ<|fA (fV fU (by rfl) T.inst ku<|fA (pv 0)<|fA (gq (v:=.ref<|c 8) zj (T.m 8 _ zj) zj) fR)<|fA (fV fU (by rfl) T.inst ku<|fA (pv 0)<|fA (gq (v:=.ref<|c 9) zj (T.m 9 _ zj) zj) fR)<|fA (fV fU (by rfl) T.inst ku<|fA (pv 0)<|fA (gq (v:=.ref<|c 10) zj (T.m 10 _ zj) zj) fR)<|fA (fV fU (by rfl) T.inst ku<|fA (pv 0)<|fA (gq (v:=.ref<|c 11) zj (T.m 11 _ zj) zj) fR) fR,λD H l xs sm hn hl hx k=>?_];have pE:=sm _ _ ha;refine#[_,rfl,_,rfl,_,_,_,_,_,rfl,.exc pE<|T.ek i hi,rfl,T.kt i 8 hi zc,_,rfl,_,_,_,_,_,rfl,.exc pE<|T.ek i hi,rfl,T.kt i 9 hi zc,_,rfl,_,_,_,_,_,rfl,.exc pE<|T.ek i hi,rfl,T.kt i 10 hi zc,_,rfl,_,_,_,_,_,rfl,.exc pE<|T.ek i hi,rfl,T.kt i 11 hi zc,by change 4<=sizeLine;decide,λl2 n2=>?_];refine#[l,l2,xs,_,rfl,rfl,by rw[fv<|fI hl n2];show hl,fu,Kg (by simp;lia) |> kM,λp np=>?_];have s2:=iG (o:=.lst [.bl<|decide (i=8),.bl<|decide (i=9),.bl<|decide (i=10),.bl<|decide (i=11)]) sm<|sm.free n2;have mp:H0 p=ah:=s2.free np;show k p _ mp (iG s2 mp) fu
theorem w3 (T:kU K mg R c) (hi:i<17) (ha:H0 a=ae (.ext (kE a<|c i))):∃ t,PS (XW P w K mg base f cdv A outer s Hx E) (dA 3) t /\ ∀ D H l xs,eP H0 H->H0 l=ah->H l=ae (.lst xs)->xs.length<=100 ->
 (∀ p H',H0 p=ah->eP H0 H'->H' p=ae (.lst<|xs++[.bl<|decide (i=12),.bl<|decide (i=13),.bl<|decide (i=14),.bl<|decide (i=15)])->D.nx [ae<|.ref a,ae<|.ref p,ah] H')->t D [ae<|.ref a,ae<|.ref l,ah] H:=by
 refine#[_,mH (i:=1) yL.nd zj (Or.inl zj)<|Cd o9 (pv 1)<|jQ<|fA (fV fU (by rfl) T.inst ku<|fA (pv 0)<|fA (gq (v:=.ref<|c 12) zj (T.m 12 _ zj) zj) fR)<|fA (fV fU (by rfl) T.inst ku<|fA (pv 0)<|fA (gq (v:=.ref<|c 13) zj (T.m 13 _ zj) zj) fR)<|fA (fV fU (by rfl) T.inst ku<|fA (pv 0)<|fA (gq (v:=.ref<|c 14) zj (T.m 14 _ zj) zj) fR)<|fA (fV fU (by rfl) T.inst ku<|fA (pv 0)<|fA (gq (v:=.ref<|c 15) zj (T.m 15 _ zj) zj) fR) fR,λD H l xs sm hn hl hx k=>?_];have pE:=sm _ _ ha;refine#[_,rfl,_,rfl,_,_,_,_,_,rfl,.exc pE<|T.ek i hi,rfl,T.kt i 12 hi zc,_,rfl,_,_,_,_,_,rfl,.exc pE<|T.ek i hi,rfl,T.kt i 13 hi zc,_,rfl,_,_,_,_,_,rfl,.exc pE<|T.ek i hi,rfl,T.kt i 14 hi zc,_,rfl,_,_,_,_,_,rfl,.exc pE<|T.ek i hi,rfl,T.kt i 15 hi zc,by change 4<=sizeLine;decide,λl2 n2=>?_];refine#[l,l2,xs,_,rfl,rfl,by rw[fv<|fI hl n2];show hl,fu,Kg (by simp;lia) |> kM,λp np=>?_];have s2:=iG (o:=.lst [.bl<|decide (i=12),.bl<|decide (i=13),.bl<|decide (i=14),.bl<|decide (i=15)]) sm<|sm.free n2;have mp:H0 p=ah:=s2.free np;show k p _ mp (iG s2 mp) fu
theorem w4 (T:kU K mg R c) (hi:i<17) (ha:H0 a=ae (.ext (kE a<|c i))):∃ t,PS (XW P w K mg base f cdv A outer s Hx E) (dA 4) t /\ ∀ D H l xs,eP H0 H->H0 l=ah->H l=ae (.lst xs)->xs.length<=100 ->
 (∀ H',eP H0 H'->H' l=ae (.lst<|xs++[.bl<|decide (i=16)])->D.nx [ae<|.ref a,ae<|.ref l,ah] H')->t D [ae<|.ref a,ae<|.ref l,ah] H:=#[_,D4<|Cg yZ Zc Zd lg (pv 1)<|fA (fV fU (by rfl) T.inst ku<|fA (pv 0)<|fA (gq (v:=.ref<|c 16) zj (T.m 16 _ zj) zj) fR) fR,λD H l xs sm hn hl hx k=>(#[_,rfl,.inl #[rfl,_,bQ.of hl],_,rfl,_,_,_,_,_,rfl,.exc (sm _ _ ha)<|T.ek i hi,rfl,T.kt i 16 hi zc,l,xs,_,rfl,rfl,hl,Kg zb,k _ (iG sm hn) fu])]
theorem w5 (T:kU K mg R c) (hi:i<17) (ha:H0 a=ae (.ext (kE a<|c i))):∃ t,PS (XW P w K mg base f cdv A outer s Hx E) (dA 5) t /\ ∀ D H l,eP H0 H->H l=ae (.lst<|uf i 17) ->
 D.nx [ae<|.ref a,ae<|.ref l,ah] H->t D [ae<|.ref a,ae<|.ref l,ah] H:=by
 refine#[_,(O5 (PW.pt<|O4 (D9 O7 (Cg yZ PySem.F.slot_list_count PySem.F.type_list_count JQ (pv 1)<|fA Ji fR) jp<|acZ _)<|Jl<|Jm<|Jk<|fV fU (by rfl) T.inst ku<|fA (pv 0)<|fA (D0 (v:=.ty "ValueError") zj T.aeQ (by decide +kernel) zj) fR) (lS<|Bq mG) D3),λD H l sm hl k=>?_];refine#[_,rfl,.inl #[rfl,_,bQ.of hl],l,_,_,rfl,rfl,hl,Db i 17,rfl,rfl,_,rfl,?_];rw[Jh i hi];show ZZ<|#[_,rfl,_,_,_,_,_,rfl,.exc (sm _ _ ha)<|T.ek i hi,rfl,T.kv i hi,_,rfl,ZZ k]
theorem w6 (T:kU K mg R c):∃ t,PS (XW P w K mg base f cdv A outer s Hx E) (dA 6) t /\ ∀ D H l,eP H0 H ->
 (∀ l2 H',H l2=ah->H'=upd H l2 (.lst<|(rq.take 12).map V.str)->D.nx [ae<|.ref a,ae<|.ref l,ae<|.ref l2] H')->t D [ae<|.ref a,ae<|.ref l,ah] H:=by
 have e:∃ p es q r,dA 6=.Assign [.Name "_law_words" p] (.List es q) r /\ es.map Z7=(rq.take 12).map ae:=#[_,_,_,_,rfl,rfl];let#[p,es,q,r,h,he]:=e;rw[h];show#[_,mH (i:=2) yL.nd zj (Or.inl zj) (jQ<|BB he)<|DZ _ _ _ _,λD H l sm k=>(#[by decide,λl2 n2=>k l2 _ n2 zj])]
theorem w7 (T:kU K mg R c) (hi:i<17):∃ t,PS (XW P w K mg base f cdv A outer s Hx E) (dA 7) t /\ ∀ D H l l2,eP H0 H->H l=ae (.lst<|uf i 17)->H l2=ae (.lst<|(rq.take 12).map V.str) ->
 (∀ H',eP H0 H'->D.rt (.str<|wordOf i) H')->t D [ae<|.ref a,ae<|.ref l,ae<|.ref l2] H:=by
 refine#[_,(Bq<|JD Bv (Cd o9 (pv 2)<|jQ<|BB (xs:=rq.drop 12) zj) (Cg yZ PySem.F.slot_list_index PySem.F.type_list_index JR (pv 1)<|fA Ji fR) λ_ _=>rfl),λD H l l2 sm hl h2 k=>?_];refine#[_,rfl,by decide,λl3 n3=>?_];refine#[l2,l3,_,_,rfl,rfl,by rw[fv<|fI h2 n3];show h2,fu,by decide,λp np=>?_];have s3:=iG (o:=.lst<|(rq.drop 12).map V.str) sm<|sm.free n3;have lp:l≠p:=by
  intro z;rw[<-z,fv<|fI hl n3,hl]at np;cases np
 have nC:(upd (upd H l3<|.lst<|(rq.drop 12).map V.str) p<|.lst<|(rq.take 12).map V.str++(rq.drop 12).map V.str) l=ae (.lst<|uf i 17):=by rw[fv lp,fv<|fI hl n3];show hl
 refine#[_,rfl,.inl #[rfl,_,bQ.of nC],l,_,_,i,rfl,rfl,nC,Db i 17,rfl,(hi),?_,?_,p,_,_,_,rfl,rfl,bQ.of fu,Bu ?_,k _<|iG s3<|s3.free np]
 .intro z e;rw[SS i hi]at e;cases e;rfl
 .intro m z hm e;rw[SU i hi m hm]at e;cases e;rfl
 .have:∀ i,i<17->((rq.take 12).map V.str++(rq.drop 12).map V.str)[i]?=ae (.str<|wordOf i):=by decide
  show this i hi
theorem agQ:gf ue=[dA 0,dA 1,dA 2,dA 3,dA 4,dA 5,dA 6,dA 7]:=rfl
end
section
variable {K:Frag}
theorem agR (i:Nat):(([.bl<|decide (i=0),.bl<|decide (i=1),.bl<|decide (i=2),.bl<|decide (i=3)]++[.bl<|decide (i=4),.bl<|decide (i=5),.bl<|decide (i=6),.bl<|decide (i=7)]++[.bl<|decide (i=8),.bl<|decide (i=9),.bl<|decide (i=10),.bl<|decide (i=11)]++[.bl<|decide (i=12),.bl<|decide (i=13),.bl<|decide (i=14),.bl<|decide (i=15)]++[.bl<|decide (i=16)]))=uf i 17:=rfl
theorem O3 (F:dY K "_law_word" "_law_word" ue f fd) (T:kU K mg R c):Ew P w K mg base qN 1 f fd ["_law_e"] (aaP c):=by
 refine F.adT yL (λvs H Q E h=>?_) λcdv A outer s H vs Q E hr h=>?_
 .let#[a,i,rfl,_]:=h;rfl
 .let#[a,i,rfl,hi,ha,q]:=h;rw[agQ];let#[t0,p0,r0]:=w0 T hi ha;let#[t1,p1,r1]:=w1 (P:=P) (w:=w) (base:=base) (f:=f) (cdv:=cdv) (A:=A) (outer:=outer) (s:=s) (Hx:=H) (E:=E) T hi ha;let#[t2,p2,r2]:=w2 (P:=P) (w:=w) (K:=K) (mg:=mg) (base:=base) (f:=f) (cdv:=cdv) (A:=A) (outer:=outer) (s:=s) (Hx:=H) (E:=E) T hi ha;let#[t3,p3,r3]:=w3 (P:=P) (w:=w) (K:=K) (mg:=mg) (base:=base) (f:=f) (cdv:=cdv) (A:=A) (outer:=outer) (s:=s) (Hx:=H) (E:=E) T hi ha;let#[t4,p4,r4]:=w4 (P:=P) (w:=w) (K:=K) (mg:=mg) (base:=base) (f:=f) (cdv:=cdv) (A:=A) (outer:=outer) (s:=s) (Hx:=H) (E:=E) T hi ha;let#[t5,p5,r5]:=w5 (P:=P) (w:=w) (K:=K) (mg:=mg) (base:=base) (f:=f) (cdv:=cdv) (A:=A) (outer:=outer) (s:=s) (Hx:=H) (E:=E) T hi ha;let#[t6,p6,r6]:=w6 (P:=P) (w:=w) (K:=K) (mg:=mg) (base:=base) (f:=f) (cdv:=cdv) (A:=A) (outer:=outer) (s:=s) (Hx:=H) (E:=E) (a:=a) (H0:=H) T;let#[t7,p7,r7]:=w7 (P:=P) (w:=w) (K:=K) (mg:=mg) (base:=base) (f:=f) (cdv:=cdv) (A:=A) (outer:=outer) (s:=s) (Hx:=H) (E:=E) (a:=a) (H0:=H) T hi;generalize dA 0=x0 at p0 ⊢;generalize dA 1=x1 at p1 ⊢;generalize dA 2=x2 at p2 ⊢;generalize dA 3=x3 at p3 ⊢;generalize dA 4=x4 at p4 ⊢;generalize dA 5=x5 at p5 ⊢;generalize dA 6=x6 at p6 ⊢;generalize dA 7=x7 at p7 ⊢;refine#[_,gX p0<|gX p1<|gX p2<|gX p3<|gX p4<|gX p5<|gX p6<|lS p7,?_];refine r0 _ λl1 H1 n1 s1 e1=>?_;refine r1 _ _ _ _ s1 n1 e1 zg λl2 H2 n2 s2 e2=>?_;refine r2 _ _ _ _ s2 n2 e2 zg λl3 H3 n3 s3 e3=>?_;refine r3 _ _ _ _ s3 n3 e3 zg λl4 H4 n4 s4 e4=>?_;refine r4 _ _ _ _ s4 n4 e4 zg λH5 s5 e5=>?_;have W8:H5 l4=ae (.lst<|uf i 17):=by rw[<-agR i];show e5
  refine r5 _ _ _ s5 W8 ?_;refine r6 _ _ _ s5 λl6 H6 n6 e6=>?_;subst e6;refine r7 _ _ _ _ (iG s5<|s5.free n6) (by rw[fv<|fI W8 n6];show W8) fu λH7 s7=>q H7 s7
end
end K13.Wd
namespace K13
open L2 L2.DL PySem.W
abbrev nl:List (Bool×Str×bK):=(af, "law",top 75)::(af, "_law_met",top 73)::(ag, "strike",inClass (top 53) 2)::(af, "without",top 54)::(ag, "tell",inClass (top 53) 1)::(ag, "keep",inClass (top 53) 16)::(ag, "need_page",inClass (top 53) 15)::(af, "_law_told",top 72)::(af, "places",top 46)::(af, "steps_taken",top 50)::(af, "rooms_behind",top 51)::(af, "need_hour",top 26)::(af, "outcomes",top 45)::(af, "read",top 47)::(af, "word_for",top 49)::(af, "may_share",top 37)::(af, "room_entered",top 48)::(af, "need_pages",top 44)::(af, "are_pages",top 43)::(af, "is_page",top 42)::(af, "is_hour",top 23)::(af, "greatest_parts",top 41)::(ag, "pages",inClass (top 53) 8)::(af, "_law_are_pages",top 70)::(af, "_law_is_page",top 69)::(af, "_law_is_hour",top 68)::(af, "_law_within",top 60)::(ag, "__init__",inClass (top 53) 0)::(af, "need_house",top 36)::(af, "is_house",top 29)::(af, "are_apart",top 34)::(af, "is_pair_apart",top 35)::(af, "is_rising",top 25)::(af, "are_kinds",top 31)::(af, "is_kind",top 32)::(af, "are_rates",top 33)::(af, "are_rooms",top 30)::(af, "is_within",top 22)::(af, "is_whole",top 21)::(af, "is_tuple",top 24)::(af, "_law_pages",top 67)::(af, "_law_page",top 66)::(af, "_law_mixed",top 61)::(af, "_law_cell_at",top 56)::(af, "_law_odd_pages",top 74)::(af, "_law_bent",top 63)::(af, "_law_whole",top 59)::(af, "_law_odd",top 62)::(af, "_law_house",top 65)::(af, "_law_kind_of",top 64)::(af, "_law_take",top 58)::(af, "_law_pot",top 57)::[]
theorem all_mk {l:PySem.W.OpenLaw}{K:Frag}(X:K.In h) (G:h.Ns mainGlobals mg) (yJ:mg "law"=ae (.ref fa)) (aC:nsIn K mainGlobals "Ledger"=ae (ae<|.ref C)) (z0:W6 K (tx C).bl=ag) (g0:Qp K (tx C).gl=ag) (y1:Qn K=ag) (cp:plainGet K C Str.empty=ag) (cd:hasDictIn K C=ag) (co:plainOver K C=ag) (cs:findIn K (.ref C) "__setattr__"=ae (ae<|.builtin "object.__setattr__")) (cm:makesIn K C=ag) (ck:keepIn K (.ref C)=ag) (cn:((tx C).fl.all λf=>findIn K (.ref C) f==ae ah)=ag)
 (D:HJ K C nl)
 (eR:nsIn K mainGlobals "RimeError"=ae (ae<|.ref R))
 (e0:nsIn K mainGlobals "NoHouse"=ae (ae<|.ref c0))
 (e1:nsIn K mainGlobals "NoOuts"=ae (ae<|.ref c1))
 (e2:nsIn K mainGlobals "NoRoom"=ae (ae<|.ref c2))
 (e3:nsIn K mainGlobals "NoHour"=ae (ae<|.ref c3))
 (e4:nsIn K mainGlobals "NoPages"=ae (ae<|.ref c4))
 (e5:nsIn K mainGlobals "NoLot"=ae (ae<|.ref c5))
 (e6:nsIn K mainGlobals "NoAsks"=ae (ae<|.ref c6))
 (e7:nsIn K mainGlobals "NoNumber"=ae (ae<|.ref c7))
 (e8:nsIn K mainGlobals "NoMoves"=ae (ae<|.ref c8))
 (e9:nsIn K mainGlobals "NoEach"=ae (ae<|.ref c9))
 (agS:nsIn K mainGlobals "NoOrder"=ae (ae<|.ref HK))
 (agT:nsIn K mainGlobals "NoPage"=ae (ae<|.ref HL))
 (agU:nsIn K mainGlobals "NoOut"=ae (ae<|.ref HM))
 (agV:nsIn K mainGlobals "Twice"=ae (ae<|.ref HN))
 (agW:nsIn K mainGlobals "Missing"=ae (ae<|.ref HP))
 (agX:nsIn K mainGlobals "TooMany"=ae (ae<|.ref HQ))
 (agY:nsIn K mainGlobals "NoDeed"=ae (ae<|.ref HR))
 (zi:nsIn K mainGlobals "isinstance"=ae ah) (zv:nsIn K mainGlobals "ValueError"=ae ah)
 (h1:([c0,c1,c2,c3,c4,c5,c6,c7,c8,c9,HK,HL,HM,HN,HP,HQ,HR]).all (Qo K R)=ag) (h2:W4 K ([c0,c1,c2,c3,c4,c5,c6,c7,c8,c9,HK,HL,HM,HN,HP,HQ,HR])=ag) (h3:W5 K R=ag) (aW:nsIn K mainGlobals "_law_word"=ae (ae<|.ref fW)) (lW:K.lookup fW=ae #[ahC,ahD,.func<|fnOf "_law_word" "_law_word" (gY Wd.ue) (gf Wd.ue) (fG Wd.ue) .none ahE ahF ahG ahH agZ ahI,ahJ]) (gW:codeIn K agZ "_law_word"=ag) (kW:keepIn K (.ref fW)=ag) :
 ∃ (C:ai) (cl:Nat->ai) (fd:FuncData),(∀ (s:aI) (u:au),BindsTo s fd #[[u],[]] [("_law_script",u)]) /\ ∀ base:aK,K.In base->base.Ns mainGlobals mg->cQ l.prog w K mg base (dq l.prog w) 115 fa fd ["_law_script"] (qU cl 1<|K13.fn_law C):=by
 have DF:=abG X G (O2<|(show (Qq C).map FI.key=nl by kernel_rfl)▸D) (by kernel_rfl);have nm:((iL C).b 16||(iL C).b 32)=af:=by kernel_rfl
 refine#[C,OZ (λi=>([c0,c1,c2,c3,c4,c5,c6,c7,c8,c9,HK,HL,HM,HN,HP,HQ,HR]).getD i 0) yJ ((λh d=>by
  unfold wH at d;rw[if_neg (by rw[h];decide)]at d;show d) nm<|DF (iL C)<|bO ..) (λfd f F s u=>?_) λbase _ _=>?_]
 .let#[#[oc,od,kV,doc,pm,an,cdv,ct,pO,rfl,_,_],_]:=F;show .of_eq zj
 .have ext:kU K mg R (λi=>([c0,c1,c2,c3,c4,c5,c6,c7,c8,c9,HK,HL,HM,HN,HP,HQ,HR]).getD i 0):=SQ X G zj eR (λi x hx=>by
   match i,hx with
   |0,hx=>cases hx;show e0
   |1,hx=>cases hx;show e1
   |2,hx=>cases hx;show e2
   |3,hx=>cases hx;show e3
   |4,hx=>cases hx;show e4
   |5,hx=>cases hx;show e5
   |6,hx=>cases hx;show e6
   |7,hx=>cases hx;show e7
   |8,hx=>cases hx;show e8
   |9,hx=>cases hx;show e9
   |10,hx=>cases hx;show agS
   |11,hx=>cases hx;show agT
   |12,hx=>cases hx;show agU
   |13,hx=>cases hx;show agV
   |14,hx=>cases hx;show agW
   |15,hx=>cases hx;show agX
   |16,hx=>cases hx;show agY
   |n+17,hx=>simp[E8]at hx) zi zv h1 h2 h3
  have hw:E9 l.prog w K mg base (λi=>([c0,c1,c2,c3,c4,c5,c6,c7,c8,c9,HK,HL,HM,HN,HP,HQ,HR]:List ai).getD i 0):=by
   have F:=Bz (st:=Wd.ue) lW gW kW;show#[fW,_,Wd.O3 F ext,mg_of X G aW,kW,F.binds (ps:=["_law_e"]) λ_ _ _ _ _ _ us hl=>match us,hl with|[_],_=>rfl]
  let#[kk,h1,h2]:=(OY (T3 X G z0 g0 y1 (λ_=>#[R,ext]) (λ_=>hw) cn λ_=>#[#[cp,cd,co,cs],aC,cm,ck]) (Qq C) ((λC=>by
   iterate 52 refine And.intro (by first|(refine .inr<|.inr ?_;simp[FI.b];done)|(refine .inl ⟨?_,by kernel_rfl⟩;simp[FI.b,iL];done)|(refine .inr (.inl ⟨?_,?_,K1.gK,rfl,λ_=>by kernel_rfl,rfl⟩)<;>simp[FI.b]<;>done)) ?_
   trivial) C) (SR C) DF).1 (iL C)<|bO ..
  have lv:eW (Qq C)=115:=by kernel_rfl
  show#[kk,(λh d=>by
   rw[Ih]at h;unfold wI at d;rw[if_neg (by rw[h.2];decide),if_neg (by rw[h.1];decide)]at d;show d) nm h1,lv▸h2]
end K13
end
structure PySem.W.Fast:Prop where(tw9092321131299576469 tw12472803509106841921 tw14101722254871028056 tw1353710762102830407 tw8398529801104201926 tw6342060503477785051 tw16317717634300321789 tw17412285471598292673 tw11004684373621616845 tw16134638026195634582 tw7829146602744212591 tw5701752782995110084 tw8576568750206802965 tw2868716461355830683 tw5979483432239994113 tw7312406278073898451 tw4795767626054815955 tw282508884457673873 tw12207503837984587953 tw16921471932606653336 tw13135322477106434844 tw6099930445204033030 tw16488416788328678942 tw5507522817191920308 tw1972874114520604400 tw5207205069833064282 tw3155433242616244686 tw1168224355337179221 tw1947127842799075160 tw2934056466709035730 tw14354622633008295663 tw14445973788057585 tw5951607940069512281 tw11391956686293800639 tw17031077359968555482 tw8314463722032433069 tw2041928436759240811 tw5466873800159156168 tw3903305610641280905 tw5493343401816595821 tw10846224222864619540 tw10257087362399302967 tw1029120451052701831 tw16906141154248046727 tw15129739391649215881 tw16470049138672077887 tw14514903551992568271 tw2840385876920476638 tw8300597371252533010 tw14381236078780712940 tw11413280553963849690 tw3943103966442199563 tw111083743846104601 tw2184216921159724509 tw5165993456830009897 tw483258239157283923 tw17195493742316423560 tw6181278205065702386 tw2452090478318313594 tw2200833017630571502 tw16642310685504912344 tw6384606245739047060 tw839552161114365722 tw2795265841990126806 tw7844313910091013906 tw12429469656860932632 tw1146552163882043262 tw14562820084883095406 tw15679566102696790001 tw5717837225555817279 tw8681098063180537763 tw16892803848956650632 tw16562588282633773739 tw174745753688999062 tw2067467978142247051 tw9036948925594399945 tw11825990546962331419 tw4896817230727172017 tw1229175294377518412 tw18326912656125559742 tw5186309320967207212 tw1308195237366525165 tw10332313841228648094 tw9575211272882384990 tw10938461257509333572 tw14884899976393942273 tw6221221868316988973 tw2857752018200395156 tw14761021489849701904 tw7196947970865146314 tw10025783311478969338 tw15656548748437003518 tw15380386847795934514 tw9512329437539977561 tw6943686319990263914 tw7597317067163371151 tw12840078323568088285 tw7732830239189614531 tw164852887509144929 tw14227790358493234820 tw1989166881540767248 tw11008346043707219190 tw5688478882519178748 tw16818651957978391211 tw7617030978336267967 tw14577835151072231225 tw16567990020278169274 tw4330153729879895173 tw18009931042327445789 tw14891578427081744568 tw18052625332584917621 tw10653194496657638126 tw11251162491748489806 tw15532448285687799908 tw15514473694225502049 tw5723053870435289927 tw7063897247772929332 tw890523579636261239 tw4521864355992114668 tw10784577459020067296 tw14158422598387379141 tw6123490160987864013 tw7377883063304354173 tw1210436501622003903 tw2649855576165360109 tw16646904075929552151 tw4043481263173748608 tw1107081392731457670 tw10802384548664615933 tw881707585931193853 tw10787126878955604550 tw4958925882008808156 tw5056559156744633895 tw13843264539640763900 tw8490019342792544167 tw16100435593996568437 tw13739995083509900595 tw14750364133395508976 tw11540248507977712652 tw16168098469676701239 tw16173810989085281515 tw5488035628905586366 tw14865058403199011097 tw12585754997881678604 tw11214123707869098304 tw489760499720909147 tw4033639393952420727 tw15603760161926066335 tw1148955382884364664 tw8585750601789670104 tw11579627323905678742 tw11442794521728546298 tw4301862152383603823 tw9879330493944288126 tw13874042550820488690 tw13818735641391099734 tw15131996726416101418 tw9558453091306229726 tw15071267588697940325 tw2139746592879757362 tw13451379020400289778 tw3163647354322165152 tw15849995890872765762 tw16043383507976635478 tw10550786212387091369 tw11282167025775964520 tw3462118318916669516 tw12285888592382324168 tw4171189516252943398 tw1238705550308948384 tw9704977938762763619 tw2242324208094449459 tw8231738509279800242 tw17589598870796169237 tw16189357439134160877 tw3243123563151937195 tw1952797063700310287 tw17984044777822299656 tw11294275626275325895 tw9429345876259784345 tw8435041215820462611 tw6968713223151226130 tw11787862233249021212 tw15730460479700963580 tw8703782305942300789 tw7660133583258282088 tw747678472759383043 tw3352923544899409497 tw16612085179678597031 tw12906479931920792122 tw6293788559135637256 tw3615132707344990552 tw6843786636077690945 tw1487709007155388829 tw6585674611291578599 tw16511126620846006315 tw13905315388291461334 tw8490961113072086164 tw7016746252771549131 tw6869006171710627853 tw3528015954962254246 tw15252019853973007345 tw17905624004565248241 tw2072473328639942767 tw2198145726533096705 tw10509135844571252541 tw3130329493978707080 tw571598792121502392 tw10808709613093945059 tw14289971583034911726 tw374524781994508877 tw9701450303247019064 tw8861083384082881860 tw2012177900043028155 tw4974183501175596029 tw1293868968839709317 tw92210656121953203 tw7895073147550732337 tw5365374822040881888 tw6751625882531522973 tw4290357020545090330 tw4143702382755921028 tw13491145417124742643 tw6579561883904515394 tw12606847122662723611 tw13944059966308383410 tw11502214972347633942 tw9893042411265483885 tw13676240736664240434 tw7961333578557745763 tw12014015147677248681 tw4775123938526185603 tw13267403758505403379 tw9226176514463252700 tw2327421784902150576 tw3481926017972608715 tw16354870437995951614 tw8951600110905555381 tw14168616397467743457 tw4315875173919000212 tw14726756464351619035 tw12554776572582136065 tw10575856358563431466 tw8474390746373678339 tw4273834580609423811 tw17512334889517536589 tw2848236430942234629 tw14339523887343037742 tw10049523634927052697 tw10023665195313954643 tw17726288927783341766 tw2034587899135552436 tw18290126880305118747 tw14861691682079598382 tw7931085711447348336 tw13059162006649960563 tw17667845917526386589 tw4507524048976114041 tw10175356758511479469 tw17459742953369542921 tw3865312952902734800 tw11029250942257014372 tw936665686749882983 tw17369181712837850522 tw4843120496949095923 tw9451726454829200695 tw16973792891879826949 tw15895244604302853127 tw10443920707520554022 tw11649004733215678668 tw8977198316195585597 tw12493777934297700845 tw17640148817793081420 tw4794486459850930138 tw9531765350969153796 tw1494288957231027244 tw3578525211374112838 tw2013913306582335804 tw4063431859398674170 tw12058592195223408951 tw14227461966285425250 tw13779205020001481331 tw18221194653225518508 tw2086237472729549830 tw11430886994430916585 tw8409736881046356722 tw15003499092970274125 tw4570308250831113525 tw9334445159513057311 tw2535742257663741167 tw11648817787483999590 tw16745326927953824641 tw7046828268605908068 tw14844311444276257911 tw14509460387708133375 tw17773521337916120619 tw15742121108063948115 tw10629604347647229009 tw10382210947435093685 tw17295577291136768073 tw364462309180587554 tw15988968898964685358 tw8903546460455666369 tw1581994772179428633 tw804955545533073271 tw9647233788299364061 tw9480130473246116875 tw5363403807044608222 tw3594556732574633366 tw10082537748374767708 tw2160590034334948339 tw10516648540266196806 tw11149677900086314741 tw8201320369740526267 tw4583914652502705198 tw10783589132990874187 tw13983809587689578140 tw18012839991852459863 tw11804088875507438154 tw13963767319397550068 tw3519701050936504739 tw13329622274415442534 tw12700292673186071880 tw1257407412627092519 tw4157238585137911538 tw277959303952639102 tw10081350921048735208 tw10731085072569683877 tw17668052090301875536 tw11105452294072549471 tw18126240149931684938 tw9024560850021120122 tw8459375714537813144 tw10270367422689541377 tw4766243817834036355 tw14155874254427952621 tw11069110942867138819 tw3028917741632783058 tw14590961034963072266 tw10669325187393767351 tw9923439411430597989 tw11480765424373379863 tw4868668260947631088 tw6592513703411959643 tw9764888301959999492 tw7007350465404231859 tw9182230511794930797 tw9709857311798032664 tw6166658097298320100 tw16721643807568693911 tw6813031864867288483 tw11558212567653276951 tw14501751118475765613 tw3382094641250976710 tw7548404054080511159 tw5082924639736577748 tw8058955636124053035 tw12967452959349976850 tw17992425987103532228 tw13050547544928542957 tw8319455048118015617 tw436573115064959246 tw3537553749654447245 tw1225031240113073270 tw8817636178625746456 tw6081168835524376480 tw5637079807702136541 tw13733205521487650485 tw15321055200249631354 tw7367978120976694015 tw1863330277614026952 tw1658755119856346230 tw12890340108082327922 tw1553307181334253562 tw15412523691267163600 tw3305883314443020481 tw3256800979376951039 tw7134558714786109403 tw17895211046531404428 tw9732840512939872392 tw11387221081237560852 tw831178900017958340 tw7300880472013628319 tw15698494973806718520 tw8494346575255503608 tw10508260269828698821 tw12529763972672762507 tw5460556536891014645 tw9581843199793136910 tw13689360943958432031 tw1399717027797216378 tw106018471683899743 tw251371626647819162 tw16231370704464804252 tw4745045813531479768 tw8693556322752988978 tw7665528426667540683 tw13118865428255318640 tw2343648495946446381 tw12440382178035418881 tw6503832783588980380 tw7270265692858546267 tw575129364058524394 tw5115967792504605416 tw17218967286490800482 tw10765047610904745722 tw13412154837716633512 tw13007721840627991655 tw5166749362413134088 tw2602143536825035920 tw17565291254564126460 tw4894948307249396131 tw3711044122905138208 tw9449068938096291867 tw11721442764608790978 tw2540481365351298701 tw17498967847585041225 tw2731618778257361085 tw4990186199467124077 tw17049453430877086459 tw9790741129670563966 tw3420375509059040801 tw8956408700077536404 tw5476792069202850280 tw4229993465331474131 tw6679164105173373269 tw1704411966232323028 tw8220618154071914831 tw15281116162264981496 tw3436132781963076806 tw6082992999348799978 tw16981230096937120996 tw1371211636543737204 tw15028123820317277787 tw1626400638751533428 tw4082547082873712534 tw15376039146272555274 tw11670614961883111492 tw6093990671678352268 tw16576450443390673172 tw10717204665032894784 tw7003698581273609881 tw12663401872408047077 tw18402621417122509281 tw12216592263345786214 tw8349309418644030184 tw77740687651838747 tw10698442522869740374 tw13805157804824066538 tw5018045668791490192 tw13526636978019582284 tw18017579138799161208 tw8806415987060565324 tw1109852420838606766 tw9540075081980044072 tw15441764017619447014 tw10931924940108029059 tw5303648174758825596 tw4187755906792093471 tw13238741387263226058 tw10859326390602569721 tw10762217223945950185 tw16318591947158208344 tw5130143031416223721 tw5437526456563453474 tw666188771409471739 tw1167000766512083753 tw9926897684090094125 tw12131358263685034353 tw16330607691279871167 tw12611297246731532373 tw15161197003531228529 tw17821627084554123515 tw17319682172791343366 tw11695670795445807509 tw7473175743974969431 tw18060516835907658261 tw1214370938769958764 tw14369054451619499841 tw2099799529056473965 tw5754220733750777382 tw4194253359458380775 tw12873011915385473683 tw1440290267571289289 tw8649987118943893036 tw664911414040595512 tw1371080067482016298 tw14212412549668044617 tw7143503635544774468 tw16287828370864016226 tw6542259951448807058 tw11044881447891968589 tw6011764506124604071 tw15043976929605540453 tw9440887208895192952 tw12233746991009086604 tw9037625530664836842 tw4236414174550276507 tw848658859442081896 tw9490421056101848965 tw18401639541237484763 tw10791023613762104635 tw10725849744714635533 tw9714988304097191556 tw8714210130927996882 tw17766854140635877518 tw9435335700539807464 tw12117399292704942583 tw7501749394758215917 tw1803379110292256877 tw360515599395763518 tw12848187319188318687 tw5712756070572643825 tw15066198638302418791 tw9682990514291201559 tw17510120180704567860 tw10297205686710322920 tw12048150755352260996 tw13483051140675380667 tw13945693281695980944 tw4924655321207395281 tw781420079204490381 tw3778738553667860119 tw9612051045446762465 tw8694097264378942454 tw4805154704802282968:True)
open_top hdk13 for PySem.Challenge.rw_rimehold_k13_what_are_no_pages

set_option maxRecDepth 100000 in
set_option maxHeartbeats 0 in
theorem PySem.Challenge.cw_rimehold_k13_what_are_no_pages_holds : PySem.Challenge.rw_rimehold_k13_what_are_no_pages.Holds :=
 hdk13 (by
 k_fill
 refine L2.DL.walk_o (l:=PySem.Challenge.rw_rimehold_k13_what_are_no_pages) (k:=115) (fn:=K13.fn_law) ⟨rfl,by decide,by decide,rfl⟩ rfl rfl (λw h Y=>PySem.W.kIn_of Y) ?kq_nl (λC ns h=>K13.law_true C ns (by lia)) ?kq_F
 case kq_nl =>
  intro w;kernel_rfl
 case kq_F =>
  intro w mg fa h KX G hmg
  refine' K13.all_mk KX G hmg ?kq_aC ?kq_z0 ?kq_g0 ?kq_y1 ?kq_cp ?kq_cd ?kq_co ?kq_cs ?kq_cm ?kq_ck ?kq_cn ?kq_D ?kq_eR ?kq_e0 ?kq_e1 ?kq_e2 ?kq_e3 ?kq_e4 ?kq_e5 ?kq_e6 ?kq_e7 ?kq_e8 ?kq_e9 ?kq_e10 ?kq_e11 ?kq_e12 ?kq_e13 ?kq_e14 ?kq_e15 ?kq_e16 ?kq_zi ?kq_zv ?kq_h1 ?kq_h2 ?kq_h3 ?kq_aW ?kq_lW ?kq_gW ?kq_kW
  (case kq_aC=>k_is)
  (case kq_z0=>kernel_rfl)
  (case kq_g0=>kernel_rfl)
  (case kq_y1=>kernel_rfl)
  (case kq_cp=>k_is)
  (case kq_cd=>k_is)
  (case kq_co=>k_is)
  (case kq_cs=>k_is)
  (case kq_cm=>k_is)
  (case kq_ck=>k_is)
  (case kq_cn=>kernel_rfl)
  (case kq_D=>(iterate 52 refine And.intro (by first|exact L2.DL.dIn_mk (by k_is) (by k_is) (by k_is) (by k_is)|exact L2.DL.dInM_mk (by k_is) (by k_is) (by k_is) (by k_is) (by k_is)) ?_);exact trivial)
  (case kq_eR=>k_is)
  (case kq_e0=>k_is)
  (case kq_e1=>k_is)
  (case kq_e2=>k_is)
  (case kq_e3=>k_is)
  (case kq_e4=>k_is)
  (case kq_e5=>k_is)
  (case kq_e6=>k_is)
  (case kq_e7=>k_is)
  (case kq_e8=>k_is)
  (case kq_e9=>k_is)
  (case kq_e10=>k_is)
  (case kq_e11=>k_is)
  (case kq_e12=>k_is)
  (case kq_e13=>k_is)
  (case kq_e14=>k_is)
  (case kq_e15=>k_is)
  (case kq_e16=>k_is)
  (case kq_zi=>k_is)
  (case kq_zv=>k_is)
  (case kq_h1=>kernel_rfl)
  (case kq_h2=>kernel_rfl)
  (case kq_h3=>kernel_rfl)
  (case kq_aW=>k_is)
  (case kq_lW=>k_is)
  (case kq_gW=>k_is)
  (case kq_kW=>k_is)
 )
