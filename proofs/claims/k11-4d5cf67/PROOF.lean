import PyProof.Rows.All
import Wide.All
import OpenK.AllK
import Wide.FinOn
import Lean
import PyProof.EqAt
import PyProof.EqKinds
import PyProof.TupleCall
import PyProof.Walks
import PyProof.ListMulRoad
import PyProof.ReprRoads
import PyProof.NeData
import PyProof.P3In
import PyProof.ZipIter
import PyProof.Draws
import PyProof.TupleIter
import PyProof.Rows.StrRules
import PyProof.CompUse
import PyProof.ListRange
import KE.KDictLaws
import PyProof.EnumFor
import PyProof.EnumMake
import PyProof.EnumStmt
import PyProof.ConsumeWalk
import KE.KMinKey
import PyProof.ListNew
import PyProof.Rows.SetFrom
import PyProof.WalksMore
import KE.KDictList
import PyProof.DictWalks
import KE.KDictOf
import PySem.Challenge.RW_rimehold_k11_what_pages_do
set_option Elab.async false
set_option linter.all false
set_option maxRecDepth 100000
set_option maxHeartbeats 4000000
set_option exponentiation.threshold 3000
noncomputable section
variable {a p : PySem.Addr}{u : PySem.Value}{P prog : PySem.Program}{w : PySem.World}{h h' base : PySem.Heap}{x : PySem.Str}{e tg iter : PySem.Expr}{pins : List (PySem.Addr × PySem.Obj)}{s : PySem.Shared}{t' i j n : Nat}{ch fp r : List PySem.Addr}{N : List PySem.Str}{M : PySem.Model}{A : PySem.Around}{E Q : PySem.Value -> PySem.Shared -> Prop}{α : Type}{pos pos' apos : PySem.Pos}{op : PySem.CmpOp}{K : PySem.W.Frag}{st : PySem.Stmt}{es ifs : List PySem.Expr}{vs us : List PySem.Value}{R : PySem.Result -> PySem.Shared -> Prop}{f : PySem.Value -> PySem.Value -> PySem.Sem PySem.Value}{mA mg : PySem.Str -> Option PySem.Value}{fd : PySem.FuncData}{ps : List (Int × Int)}{pF : Array (Option PySem.Value)}{items : Array PySem.Value}{ns : List Int}{cl : Nat -> PySem.Addr}{bo : Bool}
open PySem renaming wpAny_bind->af,wpAny_pure->ai,sizeLine_eq->ba,wpAny_mono->eE,wpAny_field->eF,wpAny_holding->kh,mem_of_lookup->km,strLen_append->kI,wpAny_newObj_type->k7,wpAny_call_entry->nP,wpAny_rule->pG,wpAny_truthy_bool->p8,wpAny_seqItems->qS,wpAny_setField_rec->qT,wpAny_callSpecial?_slot->sr,wpAny_Call_Name_kw->ud,wpAny_typeOf->ue,not_mem_of_deeper->uf,wpAny_passesOwn->vh,tupleKind_room_in1->vi,wpAny_onRaise->vj,wpAny_standAt->w8,codeAny_mono->w9,pushCells_keeps->xa,wpAny_newList->xb,call_meetsIn->xc,wpAny_setField->xf,wpAny_attempt->xg,wpAny_eqBool_int->zZ,wpAny_Name->Ea,wpAny_execs_nil->Eb,wpAny_load->Ec,concat_meets->Ed,noFill_tuple_add->Ee,seq_tuple_add->Ef,evalPart_none->Eg,seqIndex_of->Eh,call_repr_slot->Ei,wpAny_updateSeq_pair->Ej,wpAny_letGo->Ek,wpAny_newTuple->El,wpAny_pyIter_tuple->Em,wpAny_typeNameOfWhole_keyiter->En,wpAny_typeNameOf_keyiter->Eo,wpAny_isOneOf_keyiter->Ep,piled_cons->Er,wpAny_Compare1->Qh,wpAny_isTrue_Compare1->Qi,wpAny_execs_cons->Qj,wpAny_assign_Name->Qk,wpAny_bindName->Ql,intBits_le_64->Qm,name_of_addr->Qn,wpAny_forIn_list->Qo,richCompare_meets_room->Qp,wpAny_sequenceKey->Qq,evalPart_some->Qr,wpAny_Slice->Qs,wpAny_getItem_list_slice->Qt,call_list_seq->Qu,wpAny_comprehension_free->Qv,codeAny_compStart_list->Qw,wpAny_pyIter_list->Qx,codeAny_builtin->Qy,wpAny_Dict_empty->Qz,wpAny_Call_method->QA,tupleText_mem_le->QB,listText_mem_le->QC,listText_nil->QD,dictText_mem_le->QE,wpAny_of_eq->QF,wpAny_handled->QG,wpAny_throw->QH,wpAny_pyIter_slot->QI,wpAny_isInstance->QJ,isSubtype_stop->QK,wpAny_pyIter_keyiter->QL,wpAny_dictEntries->QM,wpAny_dictEpoch->QN,wpAny_fieldsOf->QO
open Nat renaming le_refl->ao,le_trans->bP,ne_of_lt->cS,lt_of_lt_of_le->dF,lt_irrefl->dG,zero_le->eG,le_of_lt->k8,le_succ->pH,sub_self->p9,lt_succ_self->qU,le_of_not_lt->su,le_of_eq->ug,lt_or_ge->uh,ne_of_gt->vk,le_add_right->vm,lt_trans->xh,lt_of_le_of_lt->xi,sub_zero->Es,zero_add->Et,le_succ_of_le->Eu,lt_succ_of_lt->QP,max_eq_right->QQ,min_eq_left->QR,add_sub_cancel->QS
open Bool renaming and_eq_true->aB,false_ne_true->cb,eq_iff_iff->kn,not_eq_true'->nQ,or_eq_true->vn,and_self->vo,false_eq_true->xj,false_and->QT,false_or->QU,true_and->QV
open List renaming map_cons->aG,length_map->aR,length_cons->bb,size_toArray->bc,mem_cons_of_mem->bC,mem_cons_self->bL,map_map->bQ,getElem?_append_right->cE,length_append->cG,getElem?_append_left->c6,lookup_cons->dH,mem_append_right->eI,length_nil->eJ,find?_cons->kq,prefix_refl->kJ,getElem?_eq_getElem->kK,nil_append->kL,getElem?_set_self->k9,zip_cons_cons->ng,length_set->nh,all_eq_true->cT,getElem?_map->nR,mem_cons->bG,filterMap_cons->pI,map_congr_left->pJ,exists_cons_of_length_pos->pK,mem_append_left->qb,getElem?_set_ne->qf,map_nil->qh,append_assoc->qi,forIn_nil->qj,not_mem_nil->qk,append_nil->qV,all_cons->qW,any_cons->qX,getElem?_eq_none->qY,forIn_cons->sv,all_map->sx,set_append->sy,prefix_append->ui,zipIdx_nil->uj,pairwise_map->nS,zip_nil_left->vp,filterMap_map->vq,nodup_append->uk,length_filter_le->vt,map_id->vv,filter_cons_of_neg->vw,filter_cons_of_pos->vz,map_append->vA,mem_map_of_mem->vB,length_take->xk,mem_of_getElem?->xl,zip_nil_right->xm,reverse_cons->xn,replicate_succ->xo,flatten_cons->xp,mem_singleton->nT,mergeSort_perm->xq,filter_cons->xr,zipIdx_cons->xt,mapM_toArray->xu,eq_nil_of_length_eq_zero->xw,any_map->xx,any_eq_true->pL,of_mem_zip->Ew,length_replicate->Ex,nodup_cons->qm,cons_append->Ey,getElem_mem->Ez,length_range->EA,ext_getElem?->EB,take_length->EC,pairwise_mergeSort->ED,mem_map->bV,set_append_left->EE,mem_filter->qZ,find?_isSome->EF,length_zip->EG,any_eq_false->QW,getElem?_replicate->QX,getElem?_take_of_lt->QY,length_drop->QZ,take_zero->Q0,filterMap_eq_map->Q2,forIn_toArray->Q3,mapM_nil->Q4,mapM_cons->Q5,map_snd_zip->Q6,getElem?_cons_zero->Q7,set_set->Q8,map_reverse->Q9,filter_map->Sq,mem_of_find?_eq_some->Sr,find?_some->Ss
open PySem.Heap renaming get?_push_of_some->aL,lt_size->aZ,get?_push_size->bR,size_push->qo,get?_none_of_le->EH,get?_update_self->EI,get?_update_other->Su,size_update->Sv,get?_update_ne->Sw
open Option renaming bind_some->bD,map_some->kM,isSome_map->qp,getD_none->EJ,getD_some->Sx
open PyProof.Rows renaming wpS_bind->bM,wpS_pure->cH,listItems_at->qr,wpS_get->uo,wpS_forRange->uq,mem_zip_self->vC,callWith_type1->xy,slot_tuple_getitem->ur,listUpdate_at->xA,mirror_perm->xC,wpS_reverse->xD,wpS_mono->xE,assignInOrder_cons->EK,lt_int->EL,tail_any->EM,sortedAll_at->EN,sortedAll_old->EO,wpS_lift->ER,wpS_modify->ES,pairsOf_toList->ET,seqEpoch_at->EU,pairsOf_size->EV,assignInOrder_nil->Sy,slicePart_none->Sz,entry_tuple_getitem->SA,args_tuple_getitem->SD,tupleItemsOf_->SE,subscriptTail_builtinR->SF,get?_update_seq->SG,kind_sorted->SH,plain_sorted->SI,entry_sorted->SJ,args_sorted1->SK,slot_list_sort->SM,entry_list_sort->SN,args_list_sort->SQ,keyKind'_eq->SR,oneTypeOnly'_eq->SS,mapM_typeOf_ints->SU,callWith_builtin1->V2
open PySem.W renaming kia_one->nU,kitx_list->SV,kitx_dict->SW,cellsFrom_some->SX,mg_of->SY
open Int renaming toNat_natCast->rf,eq_ofNat_of_zero_le->xF,ediv_one->S0,zero_add->S3
open PyProof.Rows.KeyOrd renaming kle_refl->uu,kle_trans->xG,kle_of_klt->xH,kle_antisymm->S4
open PySem.Calls renaming spliced_nil->vD,spliced_cons->vE,callWith_builtin->EW,evalArgs_plain->EX,call_function_entry->S5
open PySem.SeqAt.EqAt renaming int_int->xI,str_str->EY,int_str->S6,str_int->S7,none_bool->V3,none_int->V4,none_str->V5,bool_none->V6,bool_bool->V7,bool_int->V8,bool_str->V9,int_none->Wa,int_bool->Wb,str_none->Wc,str_bool->Wd
open PySem.F renaming slot_tuple_iterator_next->xK,slot_zip_next->vF,slot_tuple_add->EZ,entry_tuple_add->E2,args_tuple_add_2->E3,slot_dict_get->E4,slot_tuple_lt->S8,entry_tuple_lt->S9,args_tuple_lt_2->Ta,slot_dict_delitem->Tb,slot_dict_pop->Tc,entry_dict_get->Td,args_dict_get_2->Te,plainAttrs_dict->Tf,plainAttrs_list->Tg,entry_tuple_iterator_next->Th,args_tuple_iterator_next_1->Ti,slot_zip_iter->Tj,entry_zip_next->Tn,args_zip_next_1->Tp,slot_dict_iter->Tq,slot_dict_keyiterator_next->E5
open PySem.Obj renaming data_mapFields->xM,isFreed_of_fields->Ts,cls_mapFields->Tt
open Array renaming length_toList->E6,getElem?_toList->E7,getElem_toList->Tu,getElem?_eq_none->Tv
open PySem.PyData renaming shownKv_eq->E8
open PySem.AutoSeq1 renaming sub_tuple_tuple->Tw
open PySem.ReprEntriesK renaming of_two->Tz
open List.Pairwise renaming imp_of_mem->TB
open PySem.EqNone renaming eq_none_none->We,eq_none_bool->Wf,eq_none_int->Wg,eq_none_str->Wh,eq_bool_none->Wi,eq_int_none->Wj,eq_str_none->Wk,ne_none_none->Wl,ne_none_bool->Wm,ne_none_int->Wn,ne_none_str->Wo,ne_bool_none->Wq,ne_int_none->Wr,ne_str_none->Ws
open PySem.EqMixed renaming eq_bool_str->Wt,eq_int_str->Wu,eq_str_bool->Wv,eq_str_int->Ww,ne_bool_str->Wx,ne_int_str->Wy,ne_str_bool->Wz,ne_str_int->WA
open PySem.MeetsSeq renaming list_pop_at->WB
open PySem.SeqAt.RcNeAt renaming lists_lengths->WC
open Function renaming comp_def->WD
open PySem PySem.Spec PyProof.Rows
namespace L2
noncomputable abbrev Key:=Sum Int Str
noncomputable def qt:Key->Value->Bool
 |.inl k,v=>Value.isInt k v
 |.inr x,v=>Value.isStrOf x v
noncomputable def WE (w:World):Key->Int
 |.inl k=>hashInt k
 |.inr x=>hashStr w x
theorem fR:∀ {k:Key}{v:Value},qt k v=true->(∃ i t,k=Sum.inl i /\ v=Value.int i t) \/ (∃ x t,k=Sum.inr x /\ v=Value.str x t)
 | .inl i,v,h=>by
   obtain⟨t,e⟩:=Value.isInt_shape (k:=i) (v:=v) h;exact .inl ⟨i,t,rfl,e⟩
 | .inr x,v,h=>by
   obtain⟨t,e⟩:=Value.isStrOf_shape (x:=x) (v:=v) h;exact .inr ⟨x,t,rfl,e⟩
theorem DY (i:Int) (t:Tok):qt (.inl i) (.int i t)=true:=by simp[qt,Value.isInt]
theorem DZ (x:Str) (t:Tok):qt (.inr x) (.str x t)=true:=by simp[qt,Value.isStrOf]
theorem Nw (a b:Int):decide ((Sum.inl a:Key)=Sum.inl b)=(a==b):=by
 by_cases e:a=b
 ·subst e;simp
 ·have h:¬ (Sum.inl a:Key)=Sum.inl b:=λq=>e (Sum.inl.inj q);rw[decide_eq_false h];exact(beq_eq_false_iff_ne.mpr e).symm
theorem Nx (a b:Str):decide ((Sum.inr a:Key)=Sum.inr b)=decide (a=b):=by
 by_cases e:a=b
 ·subst e;simp
 ·have h:¬ (Sum.inr a:Key)=Sum.inr b:=λq=>e (Sum.inr.inj q);rw[decide_eq_false h,decide_eq_false e]
theorem Ny (a:Int) (b:Str):decide ((Sum.inl a:Key)=Sum.inr b)=false:=decide_eq_false (λq=>nomatch q)
theorem Nz (a:Str) (b:Int):decide ((Sum.inr a:Key)=Sum.inl b)=false:=decide_eq_false (λq=>nomatch q)
def cg (prog:Program) (w:World):PySem.KeyKind prog w Key where
 is:=qt
 hash:=WE w
 inj:=λv a b ha hb=>by
  rcases fR ha with⟨i,t,rfl,rfl⟩|⟨x,t,rfl,rfl⟩
  ·rcases fR hb with⟨j,u,rfl,e⟩|⟨y,u,rfl,e⟩
   ·injection e with e1 _;rw[e1]
   ·exact nomatch e
  ·rcases fR hb with⟨j,u,rfl,e⟩|⟨y,u,rfl,e⟩
   ·exact nomatch e
   ·injection e with e1 _;rw[e1]
 byValue:=λk v h=>by
  rcases fR h with⟨i,t,rfl,rfl⟩|⟨x,t,rfl,rfl⟩<;>rfl
 pyHash:=λhv h=>by
  rcases fR hv with⟨i,t,rfl,rfl⟩|⟨x,t,rfl,rfl⟩
  ·exact wpAny_pyHash_int h
  ·exact wpAny_pyHash_str h
 eqBool:=λhu hv h=>by
  rcases fR hu with⟨i,t,rfl,rfl⟩|⟨x,t,rfl,rfl⟩
  ·rcases fR hv with⟨j,u,rfl,rfl⟩|⟨y,u,rfl,rfl⟩
   ·rw[Nw]at h;exact zZ h
   ·rw[Ny]at h;exact S6 i t y u _ _ _ _ h
  ·rcases fR hv with⟨j,u,rfl,rfl⟩|⟨y,u,rfl,rfl⟩
   ·rw[Nz]at h;exact S7 x t j u _ _ _ _ h
   ·rw[Nx]at h;exact wpAny_eqBool_str h
 «strs»:=λk x t v h=>by
  rcases fR h with⟨i,u,rfl,e⟩|⟨y,u,rfl,e⟩
  ·exact nomatch e
  ·injection e with e1 _;subst e1;cases v<;>rfl
theorem Bm (prog:Program) (w:World) (i:Int) (t:Tok):(cg prog w).is (.inl i) (.int i t)=true:=DY i t
theorem Bn (prog:Program) (w:World) (x:Str) (t:Tok):(cg prog w).is (.inr x) (.str x t)=true:=DZ x t
end L2
variable {xs : List (List L2.Key × PySem.Addr × PySem.Value)}
namespace L2
inductive V where
 |non|bl (b:Bool)|int (i:Int)|str (x:Str)|nj (b:Array UInt8)|sC (b:UInt64)|ref (a:Addr)|ty (n:String)
 deriving DecidableEq
noncomputable def RelV:V->Value->Prop
 |.non,u=>u=Value.none
 |.bl b,u=>u=Value.bool b
 |.int i,u=>∃ t,u=Value.int i t
 |.str x,u=>∃ t,u=Value.str x t
 |.nj b,u=>∃ t,u=Value.bytes b t
 |.sC b,u=>∃ t,u=Value.float b t
 |.ref a,u=>u=Value.ref a
 |.ty n,u=>u=Value.type n
abbrev Vals:List V->List Value->Prop:=Paired RelV
theorem Vals.length {xs:List V}{us:List Value}(r:Vals xs us):xs.length=us.length:=Paired.length r
theorem Vals.get:∀ {xs:List V}{us:List Value}{i:Nat}{x:V},Vals xs us->xs[i]?=some x->∃ u,us[i]?=some u /\ RelV x u
 |_,_,_,_,.nil,e=>by simp at e
 |_,_,0,_,.cons r _,e=>by simp at e;subst e;exact⟨_,rfl,r⟩
 | _,_,i+1,x,.cons _ t,e=>by
   obtain⟨u,h1,h2⟩:=Vals.get (i:=i) (x:=x) t (by simpa using e);exact⟨u,by simpa using h1,h2⟩
theorem Vals.set {x:V}{u:Value}(r:RelV x u):∀ {xs:List V}{us:List Value}(i:Nat),Vals xs us->Vals (xs.set i x) (us.set i u)
 |_,_,_,.nil=>.nil
 |_,_,0,.cons _ t=>.cons r t
 |_,_,i+1,.cons q t=>.cons q (Vals.set r i t)
theorem Vals.append:∀ {xs ys:List V}{us ws:List Value},Vals xs us->Vals ys ws->Vals (xs++ys) (us++ws)
 |_,_,_,_,.nil,s=>s
 |_,_,_,_,.cons r t,s=>.cons r (Vals.append t s)
theorem Vals.take:∀ {xs:List V}{us:List Value}(n:Nat),Vals xs us->Vals (xs.take n) (us.take n)
 |_,_,0,_=>.nil
 |_,_,_+1,.nil=>.nil
 |_,_,n+1,.cons r t=>.cons r (Vals.take n t)
theorem Vals.drop:∀ {xs:List V}{us:List Value}(n:Nat),Vals xs us->Vals (xs.drop n) (us.drop n)
 |_,_,0,r=>r
 |_,_,_+1,.nil=>.nil
 |_,_,n+1,.cons _ t=>Vals.drop n t
def kr:Option V->Option Value->Prop
 |some v,some u=>RelV v u
 |none,none=>True
 |_,_=>False
def KV {κ:Type}:List (κ×V)->List (κ×Value)->Prop:=Paired λ(p:κ×V) (q:κ×Value)=>p.1=q.1 /\ RelV p.2 q.2
noncomputable def kV:Key->V
 |.inl i=>.int i
 |.inr x=>.str x
inductive HO where
 /-- a list -/
 |lst (xs:List V)
 /-- a tuple (never changes) -/
 |tup (xs:List V)
 /-- a dict whose keys are ints and texts;one whose keys are tuples of ints and texts (the empty one is both) -/
 |dK (ae:List (Key×V))|dT (ae:List (List Key×V))
 /-- a set of ints: its members,its size -/
 |set (S:Int->Bool) (n:Nat)
 /-- an instance of the class at C,its dict at dx,its attributes -/
 |ins (C dx:Addr) (fs:List (Str×V))
 /-- the dict of the instance at x -/
 |own (x:Addr)
 /-- the dict of an exception -/
 |xd (fs:List (Str×V))
 /-- a bound method,f of x -/
 |met (f x:Addr)
 /-- a range object lo,lo+1,.. below hi -/
 |E9 (lo hi:Int)
 /-- a thing that is known to the object (the aay;a dict while a loop walks it): read,never written while it is so -/
 |a4 (o:Obj) (u:HO)
 /-- a code aaz table -/
 |rh (ps:Array Value)
 /-- any other thing,by what is true of its one object (a def of aaA own: aaB a S n:=HO.ext λh=>..) -/
 |ext (φ:Heap->Prop)
noncomputable abbrev Hp:=Addr->Option HO
noncomputable def upd (H:Hp) (a:Addr) (o:HO):Hp:=λb=>if b=a then some o else H b
theorem fu {H:Hp}{o:HO}:upd H a o a=some o:=by unfold upd;rw[if_pos rfl]
theorem fv {H:Hp}{b:Addr}{o:HO}(h:b≠a):upd H a o b=H b:=by unfold upd;rw[if_neg h]
theorem PN {H:Hp}{b:Addr}{o u:HO}(h:H a=some o) (h':H b=some u) (d:o≠u):a≠b:=by
 intro e;subst e;rw[h]at h';exact d (Option.some.inj h')
theorem fU {H:Hp}{b:Addr}{o:HO}(h:H a=some o) (h':H b=none):a≠b:=by
 intro e;subst e;rw[h]at h';cases h'
section
variable (P : Program) (w : World)
noncomputable def aV (H:Hp) (h:Heap) (a:Addr):HO->Prop
 |.lst xs=>xs.length<=sizeLine /\ ∃ (its:List Value) (n:Nat),Vals xs its /\ h.get? a=some { cls:=.type "list",data:=.seq its.toArray n }
 |.tup xs=>xs.length<=sizeLine /\ ∃ its:List Value,Vals xs its /\ IsTup h a its.toArray
 |.dK ae=>ae.length<=sizeLine /\ (a==sysModules)=false /\ ∃ vs,KV ae vs /\ h.DictOf (cg P w) a vs
 |.dT ae=>ae.length<=sizeLine /\ (a==sysModules)=false /\ ∃ xs:List (List Key×Addr×Value),
  Paired (λ(p:List Key×V) (q:List Key×Addr×Value)=>p.1=q.1 /\ H q.2.1=some (.tup (p.1.map kV)) /\ RelV p.2 q.2.2) ae xs /\
  ∃ o es ep,h.get? a=some o /\ o.ExactDict /\ o.data=.dict es ep /\ es.toList=xs.map (entryOfKey (tupleKind (cg P w))) /\ (xs.map (·.1)).Nodup
 |.set S n=>h.SetOf (intKind P w) a S n
 |.ins C dx fs=>H dx=some (.own a) /\ fs.length<=1000 /\ dx≠a /\ h.get? a=some (PySem.W.instObj C dx) /\
  ∃ mA,h.Ns1 dx mA /\ (∀ f,kr (fs.lookup f) (mA f)) /\ PySem.Within mA (fs.map (·.1))
 |.own _=>∃ o,h.get? a=some o
 |.xd fs=>∃ mA,h.Ns1 a mA /\ ∀ f,kr (fs.lookup f) (mA f)
 |.E9 lo hi=>∃ t u v,h.get? a=some { cls:=.type "range",data:=.fields #[.int lo t,.int hi u,.int 1 v] }
 |.a4 o u=>h.get? a=some o /\ aV H h a u
 |.rh ps=>h.get? a=some { cls:=.none,data:=.fields ps }
 |.met f x=>h.get? a=some (PySem.W.methodObj (.ref f) (.ref x))
 |.ext φ=>φ h /\ (∃ o,h.get? a=some o) /\ ∀ h1 h2:Heap,φ h1->(∀ o,h1.get? a=some o->h2.get? a=some o)->φ h2
def bO (H:Hp) (h:Heap):Prop:=∀ a o,H a=some o->aV P w H h a o
end
section
variable {H H' : Hp} {o : HO}
theorem aV.lt (x:aV P w H h a o):a<h.objs.size:=by
 cases o with
 |lst xs=>obtain⟨_,_,_,_,e⟩:=x;exact aZ e
 |tup xs=>obtain⟨_,_,_,p⟩:=x;exact p.lt
 |dK ae=>obtain⟨_,_,_,_,o,_,_,e,_⟩:=x;exact aZ e
 |dT ae=>obtain⟨_,_,_,_,o,_,_,e,_⟩:=x;exact aZ e
 |set S n=>obtain⟨o,_,_,_,e,_⟩:=x;exact aZ e
 |ins C dx fs=>obtain⟨_,_,_,e,_⟩:=x;exact aZ e
 |own y=>obtain⟨_,e⟩:=x;exact aZ e
 |xd fs=>obtain⟨_,⟨_,_,_,e,_⟩,_⟩:=x;exact aZ e
 |E9 lo hi=>obtain⟨_,_,_,e⟩:=x;exact aZ e
 |a4 ob u=>obtain⟨e,_⟩:=x;exact aZ e
 |rh ps=>exact aZ (show h.get? a=some _ from x)
 |met f y=>exact aZ (show h.get? a=some _ from x)
 |ext φ=>obtain⟨_,⟨_,e⟩,_⟩:=x;exact aZ e
theorem Paired.Ha {α β:Type}{F G:α->β->Prop}:∀ {l₁:List α}{l₂:List β},Paired F l₁ l₂->(∀ a b,F a b->G a b)->Paired G l₁ l₂
 |_,_,.nil,_=>.nil
 |_,_,.cons r t,f=>.cons (f _ _ r) (Paired.Ha t f)
theorem aV.eK (x:aV P w H h a o) (k:∀ b u,(b=a \/ H b=some (.own a))->h.get? b=some u->h'.get? b=some u)
 (ho:∀ b,H b=some (.own a)->H' b=some (.own a)) (ht:∀ b xs,H b=some (.tup xs)->H' b=some (.tup xs)):aV P w H' h' a o:=by
 induction o with
 |lst xs=>obtain⟨z,its,n,r,e⟩:=x;exact⟨z,its,n,r,k _ _ (.inl rfl) e⟩
 |tup xs=>obtain⟨z,its,r,ob,e,c⟩:=x;exact⟨z,its,r,ob,k _ _ (.inl rfl) e,c⟩
 |dK ae=>obtain⟨z,y,vs,r,ob,es,ep,e,c⟩:=x;exact⟨z,y,vs,r,ob,es,ep,k _ _ (.inl rfl) e,c⟩
 | dT ae =>
   obtain⟨z,y,xs,r,ob,es,ep,e,c⟩:=x;exact⟨z,y,xs,Paired.Ha r λp q z=>⟨z.1,ht _ _ z.2.1,z.2.2⟩,ob,es,ep,k _ _ (.inl rfl) e,c⟩
 |set S n=>obtain⟨ob,es,ep,t,e,c⟩:=x;exact⟨ob,es,ep,t,k _ _ (.inl rfl) e,c⟩
 | ins C dx fs =>
   obtain⟨d,z,ne,e,mA,⟨od,es,ep,e2,c⟩,r⟩:=x;exact⟨ho _ d,z,ne,k _ _ (.inl rfl) e,mA,⟨od,es,ep,k _ _ (.inr d) e2,c⟩,r⟩
 |own y=>obtain⟨ob,e⟩:=x;exact⟨ob,k _ _ (.inl rfl) e⟩
 |xd fs=>obtain⟨mA,⟨od,es,ep,e,c⟩,r⟩:=x;exact⟨mA,⟨od,es,ep,k _ _ (.inl rfl) e,c⟩,r⟩
 |E9 lo hi=>obtain⟨t,u,v,e⟩:=x;exact⟨t,u,v,k _ _ (.inl rfl) e⟩
 |a4 ob u ih=>obtain⟨e,q⟩:=x;exact⟨k _ _ (.inl rfl) e,ih q⟩
 | rh ps =>
   have e:h.get? a=some { cls:=.none,data:=.fields ps }:=x;show h'.get? a=some { cls:=.none,data:=.fields ps };exact k a _ (.inl rfl) e
 | met f y =>
   have e:h.get? a=some (PySem.W.methodObj (.ref f) (.ref y)):=x;show h'.get? a=some (PySem.W.methodObj (.ref f) (.ref y));exact k a _ (.inl rfl) e
 |ext φ=>obtain⟨p,⟨o,e⟩,st⟩:=x;exact⟨st _ _ p λo q=>k _ _ (.inl rfl) q,⟨o,k _ _ (.inl rfl) e⟩,st⟩
theorem bO.lt (x:bO P w H h) (e:H a=some o):a<h.objs.size:=(x a o e).lt
theorem bO.fresh (x:bO P w H h) (e:h.objs.size<=a):H a=none:=by
 cases q:H a with
 |none=>rfl
 |some u=>exact absurd (dF (x.lt q) e) (dG _)
theorem bO.kept (x:bO P w H h) (k:∀ b u,h.get? b=some u->h'.get? b=some u):bO P w H h':=λa o e =>
 (x a o e).eK (λb u _ q=>k b u q) (λ_ q=>q) λ_ _ q=>q
theorem bO.laid (x:bO P w H h) (k:∀ b u,h.get? b=some u->h'.get? b=some u) (hp:h.objs.size<=a) (new:aV P w (upd H a o) h' a o):bO P w (upd H a o) h':=λb u e=>by
 have hn:=x.fresh hp;by_cases hb:b=a
 ·subst hb;rw[fu]at e;cases e;exact new
 ·rw[fv hb]at e;exact(x b u e).eK (λc v _ q=>k c v q) (λc q=>by rw[fv (fU q hn)];exact q) λc xs q=>by rw[fv (fU q hn)];exact q
end
def Rd (H:Hp) (a:Addr) (u:HO):Prop:=H a=some u \/ ∃ o,H a=some (.a4 o u)
theorem Rd.ok {H:Hp}{u:HO}(r:Rd H a u) (x:bO P w H h):aV P w H h a u:=by
 rcases r with r|⟨o,r⟩
 ·exact x a u r
 ·obtain⟨_,q⟩:=x a _ r;exact q
noncomputable def vG:Option HO->Prop
 |some (.lst _)=>True
 |some (.dK _)=>True
 |some (.dT _)=>True
 |some (.set _ _)=>True
 |some (.ins _ _ _)=>True
 |some (.ext _)=>True
 |_=>False
section
variable {H : Hp} {x e : Addr} {o' : HO}
theorem bO.write (ok:bO P w H h) (mu:vG (H x)) (he:e=x \/ H e=some (.own x)) (k:∀ b u,b≠e->h.get? b=some u->h'.get? b=some u) (uv:∃ u,h'.get? e=some u)
 (new:aV P w (upd H x o') h' x o'):bO P w (upd H x o') h':=λb u q=>by
 have TC:∀ c y,H c=some (.own y)->c≠x:=λc y r z=>by subst z;rw[r]at mu;exact mu
 have WG:∀ c xs,H c=some (.tup xs)->c≠x:=λc xs r z=>by subst z;rw[r]at mu;exact mu
 by_cases hb:b=x
 ·subst hb;rw[fu]at q;cases q;exact new
 ·rw[fv hb]at q;by_cases sD:b=e
  ·have q':H b=some (.own x):=by
    rcases he with z|z
    ·exact absurd (sD.trans z) hb
    ·rw[sD];exact z
   rw[q]at q';cases q';obtain⟨v,hv⟩:=uv;exact⟨v,by rw[sD];exact hv⟩
  ·refine(ok b u q).eK (λc v hc r=>k c v ?_ r) (λc r=>by rw[fv (TC c b r)];exact r) λc xs r=>by rw[fv (WG c xs r)];exact r
   rcases hc with rfl|hc
   ·exact sD
   ·rintro rfl;rcases he with z|z
    ·exact TC c b hc z
    ·rw[hc]at z;cases z;exact hb rfl
end
structure Un (fs ex:List Addr) (H H':Hp) (h h':Heap):Prop where
 keep:∀ b o,h.get? b=some o->H b=none->b∉fs->b∉ex->h'.get? b=some o
 slot:∀ b o,h.get? b=some o->H b=none->b∈fs->b∉ex->∃ sl,h'.get? b=some { o with slots:=sl }
 free:∀ b o,h.get? b=some o->H b=none->b∉ex->H' b=none
 there:∀ b o,h.get? b=some o->b∉ex->∃ o',h'.get? b=some o'
 ku:∀ b xs,H b=some (.tup xs)->H' b=some (.tup xs)
 kN:∀ b o u,H b=some (.a4 o u)->H' b=some (.a4 o u)
 nV:∀ b ps,H b=some (.rh ps)->∃ more,H' b=some (.rh (ps++more))
section
variable {fs WH ex aaC : List Addr} {H H1 H2 : Hp} {h1 h2 : Heap} {x e : Addr} {o : HO}
theorem Un.any (u:Un fs ex H H1 h h1) {b:Addr}{ob:Obj}(q:h.get? b=some ob) (n:H b=none) (hx:b∉ex):∃ sl,h1.get? b=some { ob with slots:=sl }:=by
 by_cases hb:b∈fs
 ·exact u.slot b ob q n hb hx
 ·exact⟨ob.slots,u.keep b ob q n hb hx⟩
theorem Un.kept (k:∀ b u,h.get? b=some u->h'.get? b=some u):Un fs ex H H h h' :=
 ⟨λb ob q _ _ _=>k b ob q,λb ob q _ _ _=>⟨ob.slots,k b ob q⟩,λ_ _ _ n _=>n,λb ob q _=>⟨ob,k b ob q⟩,λ_ _ q=>q,λ_ _ _ q=>q,λ_ ps q=>⟨#[],by rw[q];simp⟩⟩
theorem Un.refl:Un fs ex H H h h:=Un.kept λ_ _ q=>q
theorem Un.laid (k:∀ b u,h.get? b=some u->h'.get? b=some u) (hp:h.objs.size<=a) (hn:H a=none):Un fs ex H (upd H a o) h h' where
 keep:=λb u q _ _ _=>k b u q
 slot:=λb u q _ _ _=>⟨u.slots,k b u q⟩
 free:=λb u q n _=>by rw[fv (cS (dF (aZ q) hp))];exact n
 there:=λb u q _=>⟨u,k b u q⟩
 ku:=λb xs q=>by rw[fv (fU q hn)];exact q
 kN:=λb u xs q=>by rw[fv (fU q hn)];exact q
 nV:=λb ps q=>⟨#[],by rw[fv (fU q hn),q];simp⟩
theorem Un.write (mu:vG (H x)) (he:e=x \/ H e=some (.own x)) (k:∀ b u,b≠e->h.get? b=some u->h'.get? b=some u) (uv:∃ u,h'.get? e=some u):Un fs ex H (upd H x o) h h':=by
 have hx:∀ b,H b=none->b≠x:=λb n z=>by subst z;rw[n]at mu;exact mu
 have hb:∀ b,H b=none->b≠e:=λb n z=>by
  subst z;rcases he with r|r
  ·exact hx b n r
  ·rw[n]at r;cases r
 have hm:∀ b u,H b=some u->¬ vG (some u)->b≠x:=λb u q nm z=>by subst z;rw[q]at mu;exact nm mu
 refine⟨λb u q n _ _=>k b u (hb b n) q,λb u q n _ _=>⟨u.slots,k b u (hb b n) q⟩,λb u q n _=>by rw[fv (hx b n)];exact n,λb u q _=>?_,
  λb xs q=>by rw[fv (hm b _ q λz=>z)];exact q,λb u xs q=>by rw[fv (hm b _ q λz=>z)];exact q,λb ps q=>⟨#[],by rw[fv (hm b _ q λz=>z),q];simp⟩⟩
 by_cases sD:b=e
 ·subst sD;exact uv
 ·exact⟨u,k b u sD q⟩
end
noncomputable def xO (h:Heap) (H:Hp):List Addr:=(List.range h.objs.size).filter λa=>(H a).isSome
def qu (h:Heap) (H:Hp):Heap:=PySem.W.hideAll h (xO h H)
theorem D0 (h:Heap) (H:Hp):(qu h H).objs.size=h.objs.size:=PySem.W.hideAll_size _ _
theorem FT {H:Hp}{b:Addr}{o:Obj}(e:h.get? b=some o) (n:H b=none):(qu h H).get? b=some o :=
 PySem.W.hideAll_get _ e λhm=>by
  have q:(H b).isSome=true:=(qZ.mp hm).2;rw[n]at q;simp at q
theorem JZ {H:Hp}{b:Addr}{o:Obj}(e:(qu h H).get? b=some o):h.get? b=some o /\ H b=none:=by
 have e':h.get? b=some o:=PySem.W.of_hideAll (xO h H) e;refine⟨e',?_⟩;cases q:H b with
 |none=>rfl
 | some x =>
   have hm:b∈xO h H:=qZ.mpr ⟨List.mem_range.mpr (aZ e'),by simp[q]⟩;have z:(qu h H).get? b=none:=PySem.W.hideAll_none (xO h H) hm;rw[z]at e;cases e
end L2
variable {H H' F F' : L2.Hp}{o : L2.HO}{v : L2.V}{ae : List (List L2.Key × L2.V)}
namespace L2
structure Mod (K:PySem.W.Frag) (mg:Str->Option Value) (base:Heap):Prop where
 Hb:K.In base
 glob:base.Ns mainGlobals mg
 blt:∃ mb,base.Ns builtinsNs mb /\ ∀ x:Str,x ≠ "__name__"->mb x=bootBuiltins x
 nolimit:base.NoLimit
structure Cx where
 prog:Program
 w:World
 K:PySem.W.Frag
 mg:Str->Option Value
 base:Heap
 A:Around
 N:List Str
 s₀:Shared
 H₀:Hp
 env:Env
 outer:List Env
 stack:List Env
 ex:List Addr
 fn:Str->Bool
 calm:Bool
 pn:List (Addr×Obj)
 xe:Value->Shared->Prop
noncomputable def kO (l:List Env):List Addr:=l.filterMap (·.frame)
abbrev Cx.fs (X:Cx):List Addr:=kO X.outer
def uw (sc:Scope) (x:Str):Prop:=sc.names.lookup x=some .local \/ sc.names.lookup x=some .cell \/ sc.names.lookup x=some .free
def Loc (sc:Scope) (x:Str):Prop:=sc.names.lookup x=some .local \/ sc.names.lookup x=some .cell
def Look (env:Env) (h:Heap) (m:Str->Option Value) (x:Str) (u:Value):Prop :=
 (env.kindOf x=some .local /\ m x=some u) \/ ((env.kindOf x=some .cell \/ env.kindOf x=some .free) /\ ∃ c,env.cells.lookup x=some c /\ h.IsCell c (some u))
structure Cx.Ok (X:Cx):Prop where
 mod:Mod X.K X.mg X.base
 kind:X.env.scope.kind=.function
 glob:X.env.globals=mainGlobals
 blt:X.env.builtins=builtinsNs
 above:X.s₀.heap.objs.size<=X.env.locals
 inj:∀ x y c,X.env.cells.lookup x=some c->X.env.cells.lookup y=some c->x=y
 has:∀ x,(X.env.kindOf x=some .cell \/ X.env.kindOf x=some .free)->∃ c,X.env.cells.lookup x=some c
 vH:∀ x c,X.fn x=true->X.env.cells.lookup x=some c->X.s₀.heap.objs.size<=c
 hd:X.calm=true->X.A.handled=none
 frames:X.A.frames=some X.stack
 xQ:X.stack=X.outer \/ (X.stack=X.env::X.outer /\ X.env.frame=some X.env.locals)
 ux:∀ b∈X.ex,b≠X.env.locals /\ ∀ x c,X.env.cells.lookup x=some c->c≠b
 bs:∀ b o,X.base.get? b=some o->X.s₀.heap.get? b=some o /\ X.H₀ b=none
 sF:X.base.objs.size<=X.s₀.heap.objs.size
 vI:∀ b o,X.base.get? b=some o->b∉X.ex
 uz:∀ b∈X.ex,b∉X.fs
 nW:X.s₀.heap.FunFrames X.base X.outer
 uA:∀ b∈X.fs,X.H₀ b=none
structure Inv (X:Cx) (pins:List (Addr×Obj)) (σ:List (Option V)) (H:Hp) (s:Shared):Prop where
 ok:X.Ok
 os:s.os=X.s₀.os
 bare:AllBare s.gens
 base:Un X.fs X.ex X.H₀ H X.s₀.heap s.heap
 loc:∃ m,s.heap.Ns X.env.locals m /\ ∀ (i:Nat) (x:Str) (v:V),X.N[i]?=some x->σ[i]?=some (some v)->uw X.env.scope x->∃ u,RelV v u /\ Look X.env s.heap m x u
 cell:∀ x c,X.env.cells.lookup x=some c->∃ v,s.heap.IsCell c v
 free:H X.env.locals=none
 nX:∀ x c,X.env.cells.lookup x=some c->H c=none
 pin:∀ p∈X.pn++pins,s.heap.get? p.1=some p.2 /\ H p.1=none /\ p.1≠X.env.locals /\ p.1∉X.fs /\ ∀ v,p.2.data≠.cell v
 aj:bO X.prog X.w H s.heap
 len:σ.length=X.N.length
section
variable {X : Cx} {σ : List (Option V)} 
theorem Cx.Ok.WI (ok:X.Ok) {b:Addr}{o:Obj}(e:X.base.get? b=some o):b∉X.fs:=λhb=>by
 have:=(ok.nW.mem hb).1;rw[e]at this;cases this
theorem Inv.bs (I:Inv X pins σ H s):∀ b o,X.base.get? b=some o->s.heap.get? b=some o /\ H b=none:=λb o e =>
 ⟨I.base.keep b o (I.ok.bs b o e).1 (I.ok.bs b o e).2 (I.ok.WI e) (I.ok.vI b o e),I.base.free b o (I.ok.bs b o e).1 (I.ok.bs b o e).2 (I.ok.vI b o e)⟩
theorem Inv.bk (I:Inv X pins σ H s):∀ b o,X.base.get? b=some o->s.heap.get? b=some o:=λb o e=>(I.bs b o e).1
theorem Inv.mod (I:Inv X pins σ H s):Mod X.K X.mg X.base:=I.ok.mod
theorem Inv.dR (I:Inv X pins σ H s):X.K.In s.heap:=I.ok.mod.Hb.keeps I.bk
theorem Inv.lt (I:Inv X pins σ H s):X.env.locals<s.heap.objs.size:=let ⟨_,hn,_⟩:=I.loc;hn.lt
theorem Inv.sz (I:Inv X pins σ H s):X.s₀.heap.objs.size<=s.heap.objs.size:=bP I.ok.above (k8 I.lt)
theorem Inv.WJ (I:Inv X pins σ H s) (h:s.heap.objs.size<=a):a∉X.fs:=λhb=>by
 obtain⟨_,o,ho,_⟩:=I.ok.nW.mem hb;exact absurd (dF (aZ ho) (bP I.sz h)) (dG _)
theorem Inv.sH (I:Inv X pins σ H s):∀ x c,X.env.cells.lookup x=some c->c≠X.env.locals:=λx c e z=>by
 obtain⟨v,o,ho,hd⟩:=I.cell x c e;obtain⟨m,⟨o',es,ep,nY,WK,_⟩,_⟩:=I.loc;rw[z,nY]at ho;cases ho;rw[WK]at hd;cases hd
theorem Inv.nW (I:Inv X pins σ H s):s.heap.FunFrames X.base X.outer:=by
 have all:∀ (l:List Env),(∀ b∈kO l,b∈X.fs)->X.s₀.heap.FunFrames X.base l->s.heap.FunFrames X.base l:=by
  intro l;induction l with
  |nil=>intro _ _;trivial
  | cons env r ih =>
    intro hs hl;obtain⟨hk,⟨L,o,hf,hn,ho,hd⟩,hr⟩:=hl;have hL:L∈X.fs:=hs L (by unfold kO;rw[pI,hf];exact bL);obtain⟨sl,e⟩:=I.base.slot L o ho (I.ok.uA L hL) hL λz=>I.ok.uz L z hL;exact⟨hk,⟨L,_,hf,hn,e,hd⟩,ih (λb hb=>hs b (by unfold kO;rw[pI,hf];exact bC _ hb)) hr⟩
 exact all X.outer (λ_ hb=>hb) I.ok.nW
theorem Inv.stack (I:Inv X pins σ H s):s.heap.FunFrames X.base X.stack:=by
 rcases I.ok.xQ with e|⟨e,hf⟩
 ·rw[e];exact I.nW
 ·rw[e];obtain⟨m,hn,_⟩:=I.loc;refine .cons (by rw[I.ok.kind];decide) hf hn ?_ I.nW;exact EH (bP I.ok.sF I.ok.above)
theorem Inv.Hc (I:Inv X pins σ H s):∀ b∈kO X.stack,b∈X.env.locals::X.fs:=λb hb=>by
 rcases I.ok.xQ with e|⟨e,hf⟩
 ·rw[e]at hb;exact bC _ hb
 ·rw[e]at hb;unfold kO at hb;rw[pI,hf]at hb;exact hb
theorem Inv.TF (I:Inv X pins σ H s):∀ b∈kO X.stack,H b=none:=λb hb=>by
 rcases bG.mp (I.Hc b hb) with e|hb
 ·rw[e];exact I.free
 ·obtain⟨_,o,ho,_⟩:=I.ok.nW.mem hb;exact I.base.free b o ho (I.ok.uA b hb) λz=>I.ok.uz b z hb
theorem Inv.step {g':Array GenState}{d':Drawn}(I:Inv X pins σ H s)
 (pM:∀ b∈ch,(b∈X.ex \/ X.s₀.heap.objs.size<=b) /\ b≠X.env.locals /\ (∀ x c,X.env.cells.lookup x=some c->c≠b) /\ ∀ p∈X.pn++pins,p.1≠b)
 (keep:∀ b o,b≠X.env.locals->b∉X.fs->b∉ch->s.heap.get? b=some o->H b=none->h'.get? b=some o)
 (slot:∀ b o,b≠X.env.locals->b∈X.fs->b∉ch->s.heap.get? b=some o->H b=none->∃ sl,h'.get? b=some { o with slots:=sl }) (free:∀ b o,b∉ch->s.heap.get? b=some o->H b=none->H' b=none)
 (there:∀ b o,b∉ch->s.heap.get? b=some o->∃ o',h'.get? b=some o')
 (ku:∀ b xs,H b=some (.tup xs)->H' b=some (.tup xs)) (kN:∀ b o u,H b=some (.a4 o u)->H' b=some (.a4 o u)) (nV:∀ b ps,H b=some (.rh ps)->∃ more,H' b=some (.rh (ps++more)))
 (ns:∀ m,s.heap.Ns X.env.locals m->h'.Ns X.env.locals m) (aj:bO X.prog X.w H' h') (hg:AllBare g') :
 Inv X pins σ H' { s with heap:=h',gens:=g',drawn:=d',toks:=t' }:=by
 have TH:∀ b o,X.s₀.heap.get? b=some o->b≠X.env.locals:=λb o e=>cS (dF (aZ e) I.ok.above);have nq:∀ b o,X.s₀.heap.get? b=some o->b∉X.ex->b∉ch:=λb o e hx hb=>by
  rcases(pM b hb).1 with z|z
  ·exact hx z
  ·exact absurd (dF (aZ e) z) (dG _)
 have cellK:∀ x c,X.env.cells.lookup x=some c->∀ v,s.heap.IsCell c v->h'.IsCell c v:=λx c e v ⟨o,ho,hd⟩=>by
  have nZ:c∉ch:=λz=>(pM c z).2.2.1 x c e rfl;by_cases hc:c∈X.fs
  ·obtain⟨sl,q⟩:=slot c o (I.sH x c e) hc nZ ho (I.nX x c e);exact⟨_,q,hd⟩
  ·exact⟨o,keep c o (I.sH x c e) hc nZ ho (I.nX x c e),hd⟩
 refine⟨I.ok,I.os,hg,⟨λb o e n hb hx=>?_,λb o e n hb hx=>?_,λb o e n hx=>?_,λb o e hx=>?_,λb xs e=>ku b xs (I.base.ku b xs e),λb o xs e=>kN b o xs (I.base.kN b o xs e),λb ps e=>?_⟩,?_,λx c e=>?_,?_,λx c e=>?_,λp hp=>?_,aj,I.len⟩
 ·exact keep b o (TH b o e) hb (nq b o e hx) (I.base.keep b o e n hb hx) (I.base.free b o e n hx)
 ·obtain⟨sl,e1⟩:=I.base.slot b o e n hb hx;obtain⟨WL,e2⟩:=slot b _ (TH b o e) hb (nq b o e hx) e1 (I.base.free b o e n hx);exact⟨WL,e2⟩
 ·obtain⟨o',e1⟩:=I.base.there b o e hx;exact free b o' (nq b o e hx) e1 (I.base.free b o e n hx)
 ·obtain⟨o',e1⟩:=I.base.there b o e hx;exact there b o' (nq b o e hx) e1
 ·obtain⟨m1,e1⟩:=I.base.nV b ps e;obtain⟨m2,e2⟩:=nV b _ e1;exact⟨m1++m2,by rw[e2,Array.append_assoc]⟩
 ·obtain⟨m,hn,hl⟩:=I.loc;refine⟨m,ns m hn,λi x v e1 e2 e3=>?_⟩;obtain⟨u,r,l⟩:=hl i x v e1 e2 e3;refine⟨u,r,?_⟩;rcases l with l|⟨k,c,e,z⟩
  ·exact .inl l
  ·exact .inr ⟨k,c,e,cellK x c e _ z⟩
 ·obtain⟨v,z⟩:=I.cell x c e;exact⟨v,cellK x c e v z⟩
 ·obtain⟨m,⟨o,_,_,ho,_⟩,_⟩:=I.loc;exact free _ o (λz=>(pM _ z).2.1 rfl) ho I.free
 ·obtain⟨v,o,ho,hd⟩:=I.cell x c e;exact free c o (λz=>(pM c z).2.2.1 x c e rfl) ho (I.nX x c e)
 ·obtain⟨e,n,ne,nf,d⟩:=I.pin p hp;have nZ:p.1∉ch:=λz=>(pM p.1 z).2.2.2 p hp rfl;exact⟨keep p.1 p.2 ne nf nZ e n,free p.1 p.2 nZ e n,ne,nf,d⟩
theorem Inv.un (I:Inv X pins σ H s) (u:Un X.fs [] H H' s.heap h') (aj:bO X.prog X.w H' h'):Inv X pins σ H' { s with heap:=h',toks:=t' }:=by
 obtain⟨m,⟨o,es,ep,ho,r⟩,_⟩:=id I.loc;obtain⟨sl,hL⟩:=u.any ho I.free (by simp);exact I.step (g':=s.gens) (d':=s.drawn) (ch:=[]) (λ_ z=>nomatch z) (λb o _ hb _ e n=>u.keep b o e n hb (by simp)) (λb o _ hb _ e n=>u.slot b o e n hb (by simp)) (λb o _ e n=>u.free b o e n (by simp)) (λb o _ e=>u.there b o e (by simp)) u.ku u.kN u.nV (λm' hm=>by
  obtain⟨o',xR,xS,nY,r'⟩:=hm;rw[ho]at nY;cases nY;exact⟨_,xR,xS,hL,r'⟩) aj I.bare
theorem Inv.call {g':Array GenState}{d':Drawn}(I:Inv X pins σ H s) (u:Un (kO X.stack) ch H H' s.heap h') (aj:bO X.prog X.w H' h') (hg:AllBare g')
 (pM:∀ b∈ch,(b∈X.ex \/ X.s₀.heap.objs.size<=b) /\ b≠X.env.locals /\ (∀ x c,X.env.cells.lookup x=some c->c≠b) /\ ∀ p∈X.pn++pins,p.1≠b) :
 Inv X pins σ H' { s with heap:=h',gens:=g',drawn:=d',toks:=t' }:=by
 obtain⟨m,⟨o,es,ep,ho,r⟩,_⟩:=id I.loc;obtain⟨sl,hL⟩:=u.any ho I.free λz=>(pM _ z).2.1 rfl;exact I.step (ch:=ch) pM (λb o hL hb hc e n=>u.keep b o e n (λz=>(bG.mp (I.Hc b z)).elim hL hb) hc) (λb o _ _ hc e n=>u.any e n hc) (λb o hc e n=>u.free b o e n hc) (λb o hc e=>u.there b o e hc) u.ku u.kN u.nV (λm' hm=>by
  obtain⟨o',xR,xS,nY,r'⟩:=hm;rw[ho]at nY;cases nY;exact⟨_,xR,xS,hL,r'⟩) aj hg
theorem Inv.turned {it:Addr}(I:Inv X pins σ H s) (k:∀ b o,b≠it->s.heap.get? b=some o->h'.get? b=some o) (hn:H it=none) (hL:it≠X.env.locals)
 (h1:it∈X.ex \/ X.s₀.heap.objs.size<=it) (h2:∀ x c,X.env.cells.lookup x=some c->c≠it) (h3:∀ p∈X.pn++pins,p.1≠it):Inv X pins σ H { s with heap:=h',toks:=t' }:=by
 have TJ:∀ b u,H b=some u->b≠it:=λb u e z=>by rw[z,hn]at e;cases e
 refine I.step (g':=s.gens) (d':=s.drawn) (ch:=[it]) (λb hb=>?_) (λb o _ _ hc e _=>k b o (λz=>hc (by simp[z])) e) (λb o _ _ hc e _=>⟨o.slots,k b o (λz=>hc (by simp[z])) e⟩) (λ_ _ _ _ n=>n)
  (λb o hc e=>⟨o,k b o (λz=>hc (by simp[z])) e⟩) (λ_ _ e=>e) (λ_ _ _ e=>e) (λb ps e=>⟨#[],by rw[e];simp⟩) (λm hm=>?_) (λb u e=>?_) I.bare
 ·have e:b=it:=by simpa using hb
  subst e;exact⟨h1,hL,h2,h3⟩
 ·obtain⟨o,es,ep,ho,r⟩:=hm;exact⟨o,es,ep,k _ o (Ne.symm hL) ho,r⟩
 ·refine(I.aj b u e).eK (λc v hc q=>k c v ?_ q) (λ_ q=>q) λ_ _ q=>q;rcases hc with z|z
  ·rw[z];exact TJ b u e
  ·exact TJ c _ z
theorem Inv.tok (I:Inv X pins σ H s) (t:Nat):Inv X pins σ H { s with toks:=t }:=I.un (h':=s.heap) (t':=t) Un.refl I.aj
theorem Inv.kept {t':Nat}(I:Inv X pins σ H s) (k:∀ b u,s.heap.get? b=some u->h'.get? b=some u):Inv X pins σ H { s with heap:=h',toks:=t' }:=I.un (Un.kept k) (I.aj.kept k)
theorem Inv.laid {a:Addr}{o:HO}{t':Nat}(I:Inv X pins σ H s) (k:∀ b u,s.heap.get? b=some u->h'.get? b=some u) (hp:s.heap.objs.size<=a) (new:aV X.prog X.w (upd H a o) h' a o) :
 Inv X pins σ (upd H a o) { s with heap:=h',toks:=t' }:=I.un (Un.laid k hp (I.aj.fresh hp)) (I.aj.laid k hp new)
theorem Inv.write {x e:Addr}{o:HO}{t':Nat}(I:Inv X pins σ H s) (mu:vG (H x)) (he:e=x \/ H e=some (.own x)) (k:∀ b u,b≠e->s.heap.get? b=some u->h'.get? b=some u) (uv:∃ u,h'.get? e=some u)
 (new:aV X.prog X.w (upd H x o) h' x o):Inv X pins σ (upd H x o) { s with heap:=h',toks:=t' }:=I.un (Un.write mu he k uv) (I.aj.write mu he k uv new)
theorem Inv.TL {TM:List (Addr×Obj)}(I:Inv X pins σ H s) (h:∀ p∈TM,s.heap.get? p.1=some p.2 /\ H p.1=none /\ p.1≠X.env.locals /\ p.1∉X.fs /\ ∀ v,p.2.data≠.cell v):Inv X TM σ H s :=
 ⟨I.ok,I.os,I.bare,I.base,I.loc,I.cell,I.free,I.nX,λp hp=>(List.mem_append.mp hp).elim (λz=>I.pin p (qb _ z)) (h p),I.aj,I.len⟩
theorem Bo (hN:N.Nodup) (a:N[i]?=some x) (b:N[j]?=some x):i=j:=by
 obtain⟨h1,e1⟩:=List.getElem?_eq_some_iff.mp a;obtain⟨h2,e2⟩:=List.getElem?_eq_some_iff.mp b;exact(List.getElem_inj hN).mp (e1.trans e2.symm)
theorem Ag {Q:Unit->Shared->Prop}(I:Inv X pins σ H s) (hN:X.N.Nodup) (hi:X.N[i]?=some x) (hx:Loc X.env.scope x) (r:RelV v u)
 (h:∀ s',Inv X pins (σ.set i (some v)) H s'->(∃ a,Heap.SameBut a s.heap s'.heap /\ (a=X.env.locals \/ X.env.cells.lookup x=some a))->Q () s') (hf:X.fn x=true \/ X.env.scope.names.lookup x=some .local):wpAny M A (storeName X.env x u) Q E s:=by
 obtain⟨m,hn,hl⟩:=id I.loc;have WM:(X.env.scope.kind==.class||(X.env.scope.kind==.module&&X.env.locals != X.env.globals))=false:=by rw[I.ok.kind];rfl
 have TN:i<σ.length:=by rw[I.len];exact(List.getElem?_eq_some_iff.mp hi).1
 have sH:=I.sH;have tracked:∀ {a:Addr}{h':Heap},(∃ o,s.heap.get? a=some o /\ H a=none)->Heap.SameBut a s.heap h'->bO X.prog X.w H h':=λ{a h'} ha hs b ob e=>by
  obtain⟨_,_,TQ⟩:=ha;refine(I.aj b ob e).eK (λc w' hc q=>(hs.2 c ?_).trans q) (λ_ q=>q) λ_ _ q=>q;rintro rfl;rcases hc with rfl|hc
  ·rw[TQ]at e;cases e
  ·rw[TQ]at hc;cases hc
 rcases hx with hk|hk
 ·refine wpAny_storeName_local hk hn (λh' WN hs=>?_) WM;obtain⟨oL,_,_,xT,_⟩:=id hn;refine h _ ⟨I.ok,I.os,I.bare,⟨λb o e n hb hx=>?_,λb o e n hb hx=>?_,I.base.free,λb o e hx=>?_,I.base.ku,I.base.kN,I.base.nV⟩,⟨_,WN,λj y v' e1 e2 e3=>?_⟩,λy c e=>?_,I.free,I.nX,λp hp=>?_,tracked ⟨oL,xT,I.free⟩ hs,by simpa using I.len⟩ ⟨_,hs,.inl rfl⟩
  ·exact(hs.2 b (cS (dF (aZ e) I.ok.above))).trans (I.base.keep b o e n hb hx)
  ·obtain⟨sl,e1⟩:=I.base.slot b o e n hb hx;exact⟨sl,(hs.2 b (cS (dF (aZ e) I.ok.above))).trans e1⟩
  ·obtain⟨o',e1⟩:=I.base.there b o e hx;exact⟨o',(hs.2 b (cS (dF (aZ e) I.ok.above))).trans e1⟩
  ·by_cases hj:j=i
   ·subst hj;rw[hi]at e1;cases e1;rw[k9 TN]at e2;cases e2;exact⟨u,r,.inl ⟨hk,by simp⟩⟩
   ·rw[qf (Ne.symm hj)]at e2;obtain⟨u',r',q⟩:=hl j y v' e1 e2 e3;refine⟨u',r',?_⟩;rcases q with⟨k,e⟩|⟨k,c,e,z⟩
    ·refine .inl ⟨k,?_⟩;have:y≠x:=λe=>hj (Bo hN e1 (e▸hi));simp[this,e]
    ·exact .inr ⟨k,c,e,z.sameBut hs (sH y c e)⟩
  ·obtain⟨w',z⟩:=I.cell y c e;exact⟨w',z.sameBut hs (sH y c e)⟩
  ·obtain⟨e,n,ne,nf,d⟩:=I.pin p hp;exact⟨(hs.2 p.1 ne).trans e,n,ne,nf,d⟩
 ·have Hd:X.fn x=true:=by
   rcases hf with z|z
   ·exact z
   ·rw[z]at hk;cases hk
  obtain⟨c,hc⟩:=I.ok.has x (.inl hk);obtain⟨w',z⟩:=I.cell x c hc;refine wpAny_storeName_cell I.ok.kind hk hc z (λh' TR hs=>?_);obtain⟨oc,TU,WO⟩:=id z;refine h { s with heap:=h' } ⟨I.ok,I.os,I.bare,⟨λb o e n hb hx=>?_,λb o e n hb hx=>?_,I.base.free,λb o e hx=>?_,I.base.ku,I.base.kN,I.base.nV⟩,⟨m,hn.sameBut hs (Ne.symm (sH x c hc)),λj y v' e1 e2 e3=>?_⟩,λy c' e=>?_,I.free,I.nX,λp hp=>?_,tracked ⟨oc,TU,I.nX x c hc⟩ hs,by simpa using I.len⟩ ⟨c,hs,.inr hc⟩
  ·exact(hs.2 b (cS (dF (aZ e) (I.ok.vH x c Hd hc)))).trans (I.base.keep b o e n hb hx)
  ·obtain⟨sl,e1⟩:=I.base.slot b o e n hb hx;exact⟨sl,(hs.2 b (cS (dF (aZ e) (I.ok.vH x c Hd hc)))).trans e1⟩
  ·obtain⟨o',e1⟩:=I.base.there b o e hx;exact⟨o',(hs.2 b (cS (dF (aZ e) (I.ok.vH x c Hd hc)))).trans e1⟩
  ·by_cases hj:j=i
   ·subst hj;rw[hi]at e1;cases e1;rw[k9 TN]at e2;cases e2;exact⟨u,r,.inr ⟨.inl hk,c,hc,TR⟩⟩
   ·rw[qf (Ne.symm hj)]at e2;obtain⟨u',r',q⟩:=hl j y v' e1 e2 e3;refine⟨u',r',?_⟩;rcases q with q|⟨k,c',e,z'⟩
    ·exact .inl q
    ·refine .inr ⟨k,c',e,z'.sameBut hs ?_⟩;rintro rfl;exact hj (Bo hN e1 (I.ok.inj _ _ _ e hc▸hi))
  ·by_cases cy:c'=c
   ·subst cy;exact⟨_,TR⟩
   ·obtain⟨w2,z2⟩:=I.cell y c' e;exact⟨w2,z2.sameBut hs cy⟩
  ·obtain⟨e,n,ne,nf,d⟩:=I.pin p hp;refine⟨(hs.2 p.1 ?_).trans e,n,ne,nf,d⟩;intro q;rw[q,TU]at e;have q':oc=p.2:=Option.some.inj e;exact d w' (by rw[<-q'];exact WO)
theorem lw {Q:Unit->Shared->Prop}(I:Inv X pins σ H s) (hN:X.N.Nodup) (hi:X.N[i]?=some x) (hx:Loc X.env.scope x) (r:RelV v u)
 (h:∀ s',Inv X pins (σ.set i (some v)) H s'->Q () s') (hf:X.fn x=true \/ X.env.scope.names.lookup x=some .local):wpAny M A (storeName X.env x u) Q E s :=
 Ag I hN hi hx r (λs' I' _=>h s' I') hf
theorem Inv.TV {s':Shared}(I:Inv X pins σ H s) (ho:s'.os=s.os) (u:Un (kO X.stack) ch H H' s.heap s'.heap) (aj:bO X.prog X.w H' s'.heap) (hg:AllBare s'.gens)
 (pM:∀ b∈ch,(b∈X.ex \/ X.s₀.heap.objs.size<=b) /\ b≠X.env.locals /\ (∀ x c,X.env.cells.lookup x=some c->c≠b) /\ ∀ p∈X.pn++pins,p.1≠b):Inv X pins σ H' s':=by
 obtain⟨h',g',d',t',o'⟩:=s';have e:o'=s.os:=ho;subst e;exact I.call (g':=g') (t':=t') (d':=d') u aj hg pM
end
abbrev XK:=Value->Option Addr->Hp->Prop
noncomputable abbrev St:=List (Option V)
abbrev VK:=V->Hp->Prop
abbrev TE:=St->Hp->VK->Prop
abbrev TT:=St->Hp->(Bool->Hp->Prop)->Prop
abbrev TA:=St->Hp->(List V->Hp->Prop)->Prop
structure Ends where
 nx:St->Hp->Prop
 rt:VK
 bk:St->Hp->Prop:=λ_ _=>False
 ct:St->Hp->Prop:=λ_ _=>False
abbrev TS:=Ends->St->Hp->Prop
def EP (X:Cx) (pins:List (Addr×Obj)) (σ:St) (Q:VK) (u:Value) (s':Shared):Prop:=∃ v H',Inv X pins σ H' s' /\ RelV v u /\ Q v H'
def TP (X:Cx) (pins:List (Addr×Obj)) (σ:St) (Q:Bool->Hp->Prop) (b:Bool) (s':Shared):Prop:=∃ H',Inv X pins σ H' s' /\ Q b H'
def AP (X:Cx) (pins:List (Addr×Obj)) (σ:St) (Q:List V->Hp->Prop) (us:List Value) (s':Shared):Prop:=∃ vs H',Inv X pins σ H' s' /\ Vals vs us /\ Q vs H'
def SP (X:Cx) (pins:List (Addr×Obj)) (D:Ends) (f:Flow) (s':Shared):Prop :=
 match f with
 |.next=>∃ σ' H',Inv X pins σ' H' s' /\ D.nx σ' H'
 |.brk=>∃ σ' H',Inv X pins σ' H' s' /\ D.bk σ' H'
 |.cont=>∃ σ' H',Inv X pins σ' H' s' /\ D.ct σ' H'
 |.ret u=>∃ v σ' H',Inv X pins σ' H' s' /\ RelV v u /\ D.rt v H'
def PE (X:Cx) (e:Expr) (t:TE):Prop :=
 ∀ (pins:List (Addr×Obj)) (s:Shared) (σ:St) (H:Hp) (Q:VK),Inv X pins σ H s->t σ H Q->wpAny (model X.prog X.w) X.A (eval e X.env) (EP X pins σ Q) X.xe s
def PT (X:Cx) (e:Expr) (t:TT):Prop :=
 ∀ (pins:List (Addr×Obj)) (s:Shared) (σ:St) (H:Hp) (Q:Bool->Hp->Prop),Inv X pins σ H s->t σ H Q->wpAny (model X.prog X.w) X.A (isTrue e X.env (eval e X.env)) (TP X pins σ Q) X.xe s
def PW (X:Cx) (e:Expr) (t:TT):Prop :=
 ∀ (whole:Sem Value) (pins:List (Addr×Obj)) (s:Shared) (σ:St) (H:Hp) (Q:Bool->Hp->Prop),Inv X pins σ H s->t σ H Q->wpAny (model X.prog X.w) X.A (isTrue e X.env whole) (TP X pins σ Q) X.xe s
theorem PW.pt {X:Cx}{t:TT}(h:PW X e t):PT X e t:=h _
def PA (X:Cx) (es:List Expr) (t:TA):Prop :=
 ∀ (pos:Pos) (pins:List (Addr×Obj)) (s:Shared) (σ:St) (H:Hp) (Q:List V->Hp->Prop),Inv X pins σ H s->t σ H Q->wpAny (model X.prog X.w) X.A (spliced (backTo pos (starEach es X.env))) (AP X pins σ Q) X.xe s
def PS (X:Cx) (st:Stmt) (t:TS):Prop :=
 ∀ (pins:List (Addr×Obj)) (s:Shared) (σ:St) (H:Hp) (D:Ends),Inv X pins σ H s->t D σ H->wpAny (model X.prog X.w) X.A (exec st X.env) (SP X pins D) X.xe s
def dI (X:Cx) (st:List Stmt) (t:TS):Prop :=
 ∀ (pins:List (Addr×Obj)) (s:Shared) (σ:St) (H:Hp) (D:Ends),Inv X pins σ H s->t D σ H->wpAny (model X.prog X.w) X.A (execs st X.env) (SP X pins D) X.xe s
theorem au {t:Sem α}{Q Q':α->Shared->Prop}(h:wpAny M A t Q E s) (hQ:∀ a s,Q a s->Q' a s):wpAny M A t Q' E s:=eE h hQ λ_ _ x=>x
end L2
variable {X : L2.Cx}{σ : L2.St}{q : List L2.V -> L2.Hp -> L2.VK -> Prop}
namespace L2
section
def WQ (i:Nat):TE:=λσ H Q=>∃ v,σ[i]?=some (some v) /\ Q v H
def tC (v:V):TE:=λ_ H Q=>Q v H
theorem FU (hN:X.N[i]?=some x) (hv:uw X.env.scope x) (hd:(x==("__debug__":Str))=false) (kP:(x==("__classdict__":Str))=false):PE X (.Name x pos) (WQ i):=by
 intro pins s σ H Q I h;obtain⟨v,e,h⟩:=h;obtain⟨m,hn,hl⟩:=I.loc;obtain⟨u,r,l⟩:=hl i x v hN e hv;have fin:EP X pins σ Q u s:=⟨v,H,I,r,h⟩;rcases l with⟨hk,hm⟩|⟨hk,c,hc,xV⟩
 ·exact Ea (wpAny_loadName_local I.ok.kind hk hn hm fin) hd
 ·rcases hk with hk|hk
  ·exact Ea (wpAny_loadName_cell I.ok.kind hk hc xV fin) hd
  ·exact Ea (wpAny_loadName_free I.ok.kind hk hc xV fin kP) hd
theorem FV {i j pos}:PE X (.Constant (.int i) j pos) (tC (.int i)):=λ_ _ _ H _ I h=>wpAny_Constant_int ⟨.int i,H,I.tok _,⟨_,rfl⟩,h⟩
theorem PP {b j pos}:PE X (.Constant (.bool b) j pos) (tC (.bl b)):=λ_ _ _ H _ I h=>Constant_bool ⟨.bl b,H,I,rfl,h⟩
theorem NA {j pos}:PE X (.Constant .none j pos) (tC .non):=λ_ _ _ H _ I h=>Constant_none ⟨.non,H,I,rfl,h⟩
theorem mT {x j pos}:PE X (.Constant (.str x) j pos) (tC (.str x)):=λ_ _ _ H _ I h=>Calls.Constant_str ⟨.str x,H,I.tok _,⟨_,rfl⟩,h⟩
def Gl (X:Cx) (x:Str):Prop:=X.env.kindOf x=some .globalImplicit
theorem CV (I:Inv X pins σ H s) (hg:Gl X x) (hm:X.mg x=some u) (h:Q u s)
 (hd:(x==("__debug__":Str))=false):wpAny (model X.prog X.w) X.A (eval (.Name x pos) X.env) Q E s :=
 Calls.Name_function_global I.ok.kind hg (Calls.loadGlobal_global (by rw[I.ok.glob];exact I.mod.glob.keeps I.bk) hm h) hd
theorem jq (I:Inv X pins σ H s) (hg:Gl X x) (hm:X.mg x=none) (hv:bootBuiltins x=some u) (h:Q u s)
 (hn:x ≠ "__name__":=by decide) (hd:(x==("__debug__":Str))=false:=by decide):wpAny (model X.prog X.w) X.A (eval (.Name x pos) X.env) Q E s:=by
 obtain⟨mb,h1,h2⟩:=I.mod.blt;exact Calls.Name_function_global I.ok.kind hg (Calls.loadGlobal_builtin (by rw[I.ok.glob];exact I.mod.glob.keeps I.bk) hm (by rw[I.ok.blt];exact h1.keeps I.bk) ((h2 x hn).trans hv) h) hd
theorem J0 (hg:Gl X x) (hm:X.mg x=some u) (r:RelV v u) (hd:(x==("__debug__":Str))=false):PE X (.Name x pos) (tC v):=
 λ_ _ _ H _ I h=>CV I hg hm ⟨v,H,I,r,h⟩ hd
theorem J1 (hg:Gl X x) (hm:X.mg x=none) (hv:bootBuiltins x=some u) (r:RelV v u) (hn:x ≠ "__name__") (hd:(x==("__debug__":Str))=false):PE X (.Name x pos) (tC v):=
 λ_ _ _ H _ I h=>jq I hg hm hv ⟨v,H,I,r,h⟩ hn hd
variable {a b : Expr} {ta tb : TE} 
def PC (X:Cx) (op:CmpOp) (a b:Expr) (t:TE):Prop :=
 ∀ (pins:List (Addr×Obj)) (s:Shared) (σ:St) (H:Hp) (Q:VK),Inv X pins σ H s->t σ H Q ->
  wpAny (model X.prog X.w) X.A (eval a X.env) (λv s₁=>wpAny (model X.prog X.w) X.A (eval b X.env) (λu s₂=>wpAny (model X.prog X.w) X.A (compareOp op v u) (EP X pins σ Q) X.xe s₂) X.xe s₁) X.xe s
noncomputable def tB (t:TE):TT:=λσ H Q=>t σ H λx H1=>∃ c,x=.bl c /\ Q c H1
theorem FW {t:TE}(h:PC X op a b t) (h1:behindInMarks op b=false:=by first|exact aaD _ (by decide) (by decide)|rfl):PE X (.Compare a [op] [b] pos) t:=λpins s σ H Q I hw=>Qh (h pins s σ H Q I hw) h1
theorem FX {t:TE}(h:PC X op a b t) (h1:behindInMarks op b=false):PT X (.Compare a [op] [b] pos) (tB t):=by
 intro pins s σ H Q I hw;refine Qi (au (h pins s σ H _ I hw) λv s1 h1=>au h1 λu s2 h2=>au h2 λc s3 ⟨x,H1,I1,r1,q1⟩=>?_) h1;obtain⟨d,rfl,q⟩:=q1;cases r1;exact p8 ⟨H1,I1,q⟩
theorem NB {t:TE}(h:PE X e t) (he:∀ whole,isTrue e X.env whole=(do let v <-whole;standAt e.pos;holding [v] (truthy v))):PT X e (tB t):=by
 intro pins s σ H Q I hw;refine isTrue_plain (au (h pins s σ H _ I hw) λv s1 ⟨x,H1,I1,r1,q1⟩=>?_) (he _);obtain⟨d,rfl,q⟩:=q1;cases r1;exact p8 ⟨H1,I1,q⟩
variable {tA xW : TT} {rest : List Expr}
noncomputable def WR (t u:TT):TT:=λσ H Q=>t σ H λc H1=>if c=true then u σ H1 Q else Q false H1
noncomputable def WS (t u:TT):TT:=λσ H Q=>t σ H λc H1=>if c=true then Q true H1 else u σ H1 Q
noncomputable def WT (t:TT):TT:=λσ H Q=>t σ H λc H1=>Q (!c) H1
theorem J2 (ha:PT X a tA):PW X (.BoolOp .And [a] pos) tA:=by
 intro wh pins s σ H Q I h;refine isTrue_and (au (ha pins s σ H Q I h) λc s1 e=>?_);cases c with
 |true=>exact isTrue_and_nil e
 |false=>exact e
theorem NC (ha:PT X a tA):PW X (.BoolOp .Or [a] pos) tA:=by
 intro wh pins s σ H Q I h;refine isTrue_or (au (ha pins s σ H Q I h) λc s1 e=>?_);cases c with
 |false=>exact isTrue_or_nil e
 |true=>exact e
theorem ND (ha:PT X a tA) (hb:PW X (.BoolOp .And (b::rest) pos) xW):PW X (.BoolOp .And (a::b::rest) pos) (WR tA xW):=by
 intro wh pins s σ H Q I h;refine isTrue_and (au (ha pins s σ H _ I h) λc s1 ⟨H1,I1,q1⟩=>?_);cases c with
 |true=>exact hb wh pins s1 σ H1 Q I1 q1
 |false=>exact⟨H1,I1,q1⟩
theorem PQ (ha:PT X a tA) (hb:PW X (.BoolOp .Or (b::rest) pos) xW):PW X (.BoolOp .Or (a::b::rest) pos) (WS tA xW):=by
 intro wh pins s σ H Q I h;refine isTrue_or (au (ha pins s σ H _ I h) λc s1 ⟨H1,I1,q1⟩=>?_);cases c with
 |true=>exact⟨H1,I1,q1⟩
 |false=>exact hb wh pins s1 σ H1 Q I1 q1
theorem NE (ha:PT X a tA):PT X (.UnaryOp .Not a pos) (WT tA):=by
 intro pins s σ H Q I h;exact isTrue_not (ha pins s σ H (λc H1=>Q (!c) H1) I h)
def WU (ta tb:TE):TE:=λσ H Q=>ta σ H λx H1=>∃ c,x=.bl c /\ if c=true then tb σ H1 Q else Q (.bl false) H1
def WV (ta:TE):TE:=λσ H Q=>ta σ H λx H1=>∃ c,x=.bl c /\ Q (.bl (!c)) H1
theorem NG {op}{t:TE}(h:PE X a t):PE X (.BoolOp op [a] pos) t:=λpins s σ H Q I hw=>BoolOp_one (h pins s σ H Q I hw)
theorem NH (ha:PE X a ta) (hb:PE X (.BoolOp .And (b::rest) pos) tb):PE X (.BoolOp .And (a::b::rest) pos) (WU ta tb):=by
 intro pins s σ H Q I h;refine BoolOp_and (au (ha pins s σ H _ I h) λv s1 ⟨x,H1,I1,r1,q1⟩=>?_);obtain⟨c,rfl,q1⟩:=q1;cases r1;refine p8 ?_;cases c with
 |true=>exact hb pins s1 σ H1 Q I1 q1
 |false=>exact⟨.bl false,H1,I1,rfl,q1⟩
theorem NI (ha:PE X a ta):PE X (.UnaryOp .Not a pos) (WV ta):=by
 intro pins s σ H Q I h;refine UnaryOp_ (au (ha pins s σ H _ I h) λv s1 ⟨x,H1,I1,r1,q1⟩=>?_);obtain⟨c,rfl,q1⟩:=q1;cases r1;exact not_of (p8 ⟨.bl (!c),H1,I1,rfl,q1⟩)
def WW (t:TT) (ta tb:TE):TE:=λσ H Q=>t σ H λc H1=>if c=true then ta σ H1 Q else tb σ H1 Q
theorem FY {c:Expr}(hc:PT X c tA) (ha:PE X a ta) (hb:PE X b tb):PE X (.IfExp c a b pos) (WW tA ta tb):=by
 intro pins s σ H Q I h;refine wpAny_IfExp (au (hc pins s σ H _ I h) λd s1 ⟨H1,I1,q1⟩=>?_);cases d with
 |true=>exact ha pins s1 σ H1 Q I1 q1
 |false=>exact hb pins s1 σ H1 Q I1 q1
end
def bz (K:PySem.W.Frag) (H:Hp) (a:Addr) (xs:List V):Prop :=
 Rd H a (.lst xs) \/
  ∃ (o:Obj) (its:Array Value) (n:Nat),K.lookup a=some o /\ o.cls=.type "list" /\ o.dict=none /\ o.data=.seq its n /\ its.size<=sizeLine /\ Vals xs its.toList
def a6 (K:PySem.W.Frag) (H:Hp) (a:Addr) (xs:List V):Prop :=
 Rd H a (.tup xs) \/
  ∃ (o:Obj) (its:Array Value) (n:Nat),K.lookup a=some o /\ o.cls=.type "tuple" /\ o.data=.seq its n /\ its.size<=sizeLine /\ Vals xs its.toList
noncomputable def WX:Value->Option V
 |.none=>some .non
 |.bool b=>some (.bl b)
 |.int i _=>some (.int i)
 |.str x _=>some (.str x)
 |.bytes b _=>some (.nj b)
 |.float b _=>some (.sC b)
 |.ref a=>some (.ref a)
 |.type n=>some (.ty n)
 |_=>none
theorem RelV.abs {x:V}(r:RelV x u):WX u=some x:=by
 cases x with
 |non=>cases r;rfl
 |bl _=>cases r;rfl
 |int _=>obtain⟨t,rfl⟩:=r;rfl
 |str _=>obtain⟨t,rfl⟩:=r;rfl
 |nj _=>obtain⟨t,rfl⟩:=r;rfl
 |sC _=>obtain⟨t,rfl⟩:=r;rfl
 |ref _=>cases r;rfl
 |ty _=>cases r;rfl
theorem RelV.inj {x y:V}{u:Value}(r:RelV x u) (q:RelV y u):x=y:=Option.some.inj (r.abs.symm.trans q.abs)
theorem Vals.inj:∀ {xs ys:List V}{us:List Value},Vals xs us->Vals ys us->xs=ys
 |_,_,_,.nil,.nil=>rfl
 |_,_,_,.cons r t,.cons r' t'=>by rw[r.inj r',Vals.inj t t']
section
variable {xs ys : List V}
theorem bz.of (h:H a=some (.lst xs)):bz K H a xs:=.inl (.inl h)
theorem a6.of (h:H a=some (.tup xs)):a6 K H a xs:=.inl (.inl h)
theorem Inv.list (I:Inv X pins σ H s) (h:bz X.K H a xs):∃ its:List Value,Vals xs its /\ PlainL s.heap a its.toArray /\ xs.length<=sizeLine:=by
 rcases h with h|⟨o,its,n,hk,hc,hd,hs,hz,r⟩
 ·obtain⟨z,its,n,r,e⟩:=h.ok I.aj;exact⟨its,r,⟨_,n,e,rfl,rfl,rfl⟩,z⟩
 ·refine⟨its.toList,r,⟨o,n,I.dR a o hk,hc,hd,by simpa using hs⟩,?_⟩;have e:=r.length;simp only[E6]at e;omega
theorem Inv.tuple (I:Inv X pins σ H s) (h:a6 X.K H a xs):∃ its:List Value,Vals xs its /\ IsTup s.heap a its.toArray /\ xs.length<=sizeLine:=by
 rcases h with h|⟨o,its,n,hk,hc,hs,hz,r⟩
 ·obtain⟨z,its,r,p⟩:=h.ok I.aj;exact⟨its,r,p,z⟩
 ·refine⟨its.toList,r,⟨o,I.dR a o hk,hc,n,by simpa using hs⟩,?_⟩;have e:=r.length;simp only[E6]at e;omega
theorem Inv.WY (I:Inv X pins σ H s) (h:bz X.K H a xs) (h':bz X.K H a ys):xs=ys:=by
 obtain⟨its,r,⟨o,n,e,_,_,d⟩,_⟩:=I.list h;obtain⟨its',r',⟨o',n',e',_,_,d'⟩,_⟩:=I.list h';rw[e]at e';cases e';rw[d]at d';injection d' with d1 _;have:its=its':=by simpa using congrArg Array.toList d1
 subst this;exact r.inj r'
theorem Inv.He (I:Inv X pins σ H s) (h:a6 X.K H a xs) (h':a6 X.K H a ys):xs=ys:=by
 obtain⟨its,r,⟨o,e,_,n,d⟩,_⟩:=I.tuple h;obtain⟨its',r',⟨o',e',_,n',d'⟩,_⟩:=I.tuple h';rw[e]at e';cases e';rw[d]at d';injection d' with d1 _;have:its=its':=by simpa using congrArg Array.toList d1
 subst this;exact r.inj r'
end
noncomputable abbrev Cx.pN (X:Cx) (E:Value->Shared->Prop):Cx:={ X with xe:=E }
abbrev Cx.uB (X:Cx):Cx:=X.pN λ_ _=>False
theorem Cx.Ok.pN {X:Cx}(ok:X.Ok) (E:Value->Shared->Prop):(X.pN E).Ok :=
 ⟨ok.mod,ok.kind,ok.glob,ok.blt,ok.above,ok.inj,ok.has,ok.vH,ok.hd,ok.frames,ok.xQ,ok.ux,ok.bs,ok.sF,ok.vI,ok.uz,ok.nW,ok.uA⟩
theorem Cx.Ok.rj (ok:(X.pN E).Ok):X.Ok :=
 ⟨ok.mod,ok.kind,ok.glob,ok.blt,ok.above,ok.inj,ok.has,ok.vH,ok.hd,ok.frames,ok.xQ,ok.ux,ok.bs,ok.sF,ok.vI,ok.uz,ok.nW,ok.uA⟩
theorem Inv.pN (I:Inv X pins σ H s) (E:Value->Shared->Prop):Inv (X.pN E) pins σ H s:=⟨I.ok.pN E,I.os,I.bare,I.base,I.loc,I.cell,I.free,I.nX,I.pin,I.aj,I.len⟩
theorem Inv.rj (I:Inv (X.pN E) pins σ H s):Inv X pins σ H s:=⟨I.ok.rj,I.os,I.bare,I.base,I.loc,I.cell,I.free,I.nX,I.pin,I.aj,I.len⟩
theorem SP.rj {D:Ends}{f:Flow}{s':Shared}(h:SP (X.pN E) pins D f s'):SP X pins D f s':=by
 cases f with
 |next=>obtain⟨σ',H',I,q⟩:=h;exact⟨σ',H',I.rj,q⟩
 |brk=>obtain⟨σ',H',I,q⟩:=h;exact⟨σ',H',I.rj,q⟩
 |cont=>obtain⟨σ',H',I,q⟩:=h;exact⟨σ',H',I.rj,q⟩
 |ret u=>obtain⟨v,σ',H',I,r,q⟩:=h;exact⟨v,σ',H',I.rj,r,q⟩
theorem dI.uB {st:List Stmt}{t:TS}(h:dI X.uB st t):dI X st t:=λpins s σ H D I hw =>
 eE (h pins s σ H D (I.pN _) hw) (λ_ _ q=>q.rj) λ_ _ z=>False.elim z
section
variable {rest : List Stmt} {t u : TS} {te : TE} 
def WZ:TS:=λD σ H=>D.nx σ H
def W0 (t u:TS):TS:=λD σ H=>t { D with nx:=u D } σ H
theorem J3:dI X [] WZ:=λ_ _ σ H _ I h=>Eb ⟨σ,H,I,h⟩
theorem FZ (h1:PS X st t) (h2:dI X rest u):dI X (st::rest) (W0 t u):=by
 intro pins s σ H D I h;refine Qj (au (h1 pins s σ H { D with nx:=u D } I h) λf s1 q=>?_);cases f with
 | next =>
   obtain⟨σ',H',I',q⟩:=q;exact h2 pins s1 σ' H' D I' q
 |ret v=>exact q
 |brk=>exact q
 |cont=>exact q
theorem J4 (h1:PS X st t):dI X [st] t:=by
 intro pins s σ H D I h;refine Qj (au (h1 pins s σ H D I h) λf s1 q=>?_);cases f with
 |next=>exact Eb q
 |ret v=>exact q
 |brk=>exact q
 |cont=>exact q
def W2:TS:=λD σ H=>D.ct σ H
theorem Bp:PS X (.Continue pos) W2:=λ_ _ σ H _ I h=>wpAny_Continue ⟨σ,H,I,h⟩
theorem Inv.quiet (I:Inv X pins σ H s):interactive X.env=false:=by simp[interactive,I.ok.kind]
def W3 (te:TE):TS:=λD σ H=>te σ H λ_ H1=>D.nx σ H1
theorem J5 (he:PE X e te) (hs:swapsWith e none pos.line X.env=pure false):PS X (.Expr e pos) (W3 te):=by
 intro pins s σ H D I h;exact wpAny_Expr_any (au (he pins s σ H _ I h) λv s1 ⟨x,H1,I1,r1,q1⟩=>⟨σ,H1,I1,q1⟩) I.quiet hs
def W4 (te:TE):TS:=λD σ H=>te σ H D.rt
theorem NJ (he:PE X e te):PS X (.Return (some e) pos) (W4 te):=by
 intro pins s σ H D I h;exact wpAny_Return_some (au (he pins s σ H _ I h) λv s1 ⟨x,H1,I1,r1,q1⟩=>⟨x,σ,H1,I1,r1,q1⟩)
def W5 (c:TT) (t u:TS):TS:=λD σ H=>c σ H λb H1=>if b=true then t D σ H1 else u D σ H1
theorem PR {c:Expr}{a b:List Stmt}{tc:TT}(hc:PT X c tc) (ha:dI X a t) (hb:dI X b u):PS X (.If c a b pos) (W5 tc t u):=by
 intro pins s σ H D I h;refine wpAny_If (au (hc pins s σ H _ I h) λd s1 ⟨H1,I1,q1⟩=>?_);cases d with
 |true=>exact ha pins s1 σ H1 D I1 q1
 |false=>exact hb pins s1 σ H1 D I1 q1
end
abbrev TG:=V->St->Hp->(St->Hp->Prop)->Prop
abbrev qv:=List V->St->Hp->(St->Hp->Prop)->Prop
def PG (X:Cx) (target:Expr) (t:TG):Prop :=
 ∀ (pins:List (Addr×Obj)) (s:Shared) (σ:St) (H:Hp) (v:V) (u:Value) (Q:St->Hp->Prop),Inv X pins σ H s->RelV v u->t v σ H Q ->
  wpAny (model X.prog X.w) X.A (assign target X.env u) (λ_ s'=>∃ σ' H',Inv X pins σ' H' s' /\ Q σ' H') X.xe s
def pO (X:Cx) (ts:List Expr) (t:qv):Prop :=
 ∀ (pins:List (Addr×Obj)) (s:Shared) (σ:St) (H:Hp) (vs:List V) (us:List Value) (Q:St->Hp->Prop),Inv X pins σ H s->Vals vs us->t vs σ H Q ->
  wpAny (model X.prog X.w) X.A (assignInOrder ((assignEach ts X.env).map (·.2)) us) (λ_ s'=>∃ σ' H',Inv X pins σ' H' s' /\ Q σ' H') X.xe s
abbrev Hf:=V->V->V->Hp->(Hp->Prop)->Prop
def TX (X:Cx) (t:Hf):Prop :=
 ∀ (pins:List (Addr×Obj)) (s:Shared) (σ:St) (H:Hp) (o i v:V) (ov iv u:Value) (Q:Hp->Prop),Inv X pins σ H s->RelV o ov->RelV i iv->RelV v u->t o i v H Q ->
  wpAny (model X.prog X.w) X.A (setItem ov iv u) (λ_ s'=>∃ H',Inv X pins σ H' s' /\ Q H') X.xe s
def Hg (i:Nat):TG:=λv σ H Q=>Q (σ.set i (some v)) H
theorem J6 (hN:X.N.Nodup) (hi:X.N[i]?=some x) (hx:Loc X.env.scope x) (hf:X.fn x=true \/ X.env.scope.names.lookup x=some .local):PG X (.Name x pos) (Hg i):=by
 intro pins s σ H v u Q I r h;exact Qk (lw I hN hi hx r (λs' I'=>⟨_,H,I',h⟩) hf)
noncomputable def W6:qv:=λvs σ H Q=>vs=[] /\ Q σ H
noncomputable def W7 (t:TG) (u:qv):qv:=λvs σ H Q=>∃ v r,vs=v::r /\ t v σ H λσ' H'=>u r σ' H' Q
theorem J7:pO X [] W6:=by
 intro pins s σ H vs us Q I r h;obtain⟨e,h⟩:=h;subst e;cases r;exact Sy ⟨σ,H,I,h⟩
theorem F6 {t:TG}{u:qv}(h1:PG X e t) (h2:pO X es u)
 (hs:(assignEach (e::es) X.env).map (·.2)=assign e X.env::(assignEach es X.env).map (·.2)):pO X (e::es) (W7 t u):=by
 intro pins s σ H vs us Q I r h;obtain⟨v,vr,e1,h⟩:=h;subst e1;cases r with
 | cons r rr =>
   rw[hs];refine EK (au (h1 pins s σ H _ _ _ I r h) λ_ s1 ⟨σ1,H1,I1,q1⟩=>?_);exact h2 pins s1 σ1 H1 _ _ Q I1 rr q1
def W8 (K:PySem.W.Frag) (n:Nat) (t:qv):TG:=λv σ H Q=>∃ a xs,v=.ref a /\ a6 K H a xs /\ xs.length=n /\ t xs σ H Q
theorem NK {k:Nat}{t:qv}(hc:X.calm=true) (h:pO X es t)
 (hn:(assignEach es X.env).length=n) (Hh:(assignEach es X.env).findIdx? (·.1)=none):PG X (.Tuple es k pos) (W8 X.K n t):=by
 intro pins s σ H v u Q I r hw;obtain⟨a,xs,e1,hq,hl,hw⟩:=hw;subst e1;cases r;obtain⟨its,rv,ht,hz⟩:=I.tuple hq;refine assign_Tuple_tuple (I.ok.hd hc) ht (by simp[hn,<-hl,rv.length]) Hh λh' hx=>?_;have I1:Inv X pins σ H { s with heap:=h' }:=I.kept (t':=s.toks) λb o e=>hx b o (cS (aZ e)) e;exact h pins _ σ H xs _ Q I1 (by simpa using rv) hw
def W9 (to ti:TE) (t:Hf):TG:=λv σ H Q=>to σ H λo H1=>ti σ H1 λi H2=>t o i v H2 λH3=>Q σ H3
theorem NL {o i:Expr}{to ti:TE}{t:Hf}(ho:PE X o to) (hi:PE X i ti) (hs:TX X t)
 (ha:∀ v,assign (.Subscript o i pos) X.env v=(do
  let ov <-holding [v] (eval o X.env)
  let iv <-holding [v,ov] (eval i X.env)
  standAt pos
  holding [v,ov,iv] (setItem ov iv v)
  release [v,ov,iv] [])):PG X (.Subscript o i pos) (W9 to ti t):=by
 intro pins s σ H v u Q I r h;rw[ha];refine af (kh (au (ho pins s σ H _ I h) λov s1 ⟨x,H1,I1,r1,q1⟩=>?_));refine af (kh (au (hi pins s1 σ H1 _ I1 q1) λiv s2 ⟨y,H2,I2,r2,q2⟩=>?_));refine af (w8 (af (kh (au (hs pins s2 σ H2 x y v ov iv u _ I2 r1 r2 r q2) λ_ s3 ⟨H3,I3,q3⟩=>?_))));exact wpAny_release ⟨σ,H3,I3,q3⟩
def xX (te:TE) (g:TG):TS:=λD σ H=>te σ H λx H1=>g x σ H1 D.nx
theorem NM {te:TE}{g:TG}(he:PE X e te) (hg:PG X tg g) (hs:swapsWithSole [tg] e pos.line X.env=pure false) (hw:swappedStores [tg] e X.env=pure none)
 (h1:(assignEach [tg] X.env).map (·.2)=[assign tg X.env]):PS X (.Assign [tg] e pos) (xX te g):=by
 intro pins s σ H D I h;refine wpAny_Assign_stores (au (he pins s σ H _ I h) λv s1 ⟨x,H1,I1,r1,q1⟩=>?_) hs hw;rw[h1];exact au (hg pins s1 σ H1 x v _ I1 r1 q1) λ_ s2 q=>q
theorem NO {te:TE}(hN:X.N.Nodup) (hi:X.N[i]?=some x) (hx:Loc X.env.scope x) (he:PE X e te) (hs:swapsWith e (some (.Name x pos')) pos.line X.env=pure false) (hf:X.fn x=true \/ X.env.scope.names.lookup x=some .local) :
 PS X (.Assign [.Name x pos'] e pos) (xX te (Hg i)):=by
 intro pins s σ H D I h;refine wpAny_Assign_Name (au (he pins s σ H _ I h) λv s1 ⟨y,H1,I1,r1,q1⟩=>?_) hs;exact lw I1 hN hi hx r1 (λs2 I2=>⟨_,H1,I2,q1⟩) hf
def TY (i j:Nat) (ta:TA):TS:=λD σ H=>ta σ H λvs H1=>∃ v w,vs=[v,w] /\ D.nx ((σ.set i (some v)).set j (some w)) H1
theorem NP {y:Str}{a b:Expr}{ta:TA}{px py pt:Pos}{kt k2 n6}(hc:X.calm=true) (hN:X.N.Nodup) (hi:X.N[i]?=some x) (hj:X.N[j]?=some y) (vJ:i≠j)
 (hx:X.env.scope.names.lookup x=some .local) (hy:X.env.scope.names.lookup y=some .local) (ha:PA X [a,b] ta)
 (hw:swappedStores [.Tuple [.Name x px,.Name y py] kt pt] (.Tuple [a,b] k2 n6) X.env=pure (some [x,y]))
 (hs:swapsWithSole [.Tuple [.Name x px,.Name y py] kt pt] (.Tuple [a,b] k2 n6) pos.line X.env=pure false) :
 PS X (.Assign [.Tuple [.Name x px,.Name y py] kt pt] (.Tuple [a,b] k2 n6) pos) (TY i j ta):=by
 intro pins s σ H D I h;rw[exec_Assign_arm];refine af (w8 ?_);rw[hs];refine af (ai ?_);rw[if_neg (by decide)];refine af (Tuple_ (au (ha _ pins s σ H _ I h) λus s1 ⟨vs,H1,I1,r1,q1⟩=>?_));obtain⟨v,w,e1,q1⟩:=q1;subst e1;obtain⟨u1,u2,rfl,rv,di⟩:∃ u1 u2,us=[u1,u2] /\ RelV v u1 /\ RelV w u2:=by
  cases r1 with
  | cons p q =>
    cases q with
    | cons p' q' =>
      cases q';exact⟨_,_,rfl,p,p'⟩
 refine k7 ?_ (by show 2<=sizeLine;decide);have I2:Inv X pins σ H1 { s1 with heap:=s1.heap.push { cls:=.type "tuple",data:=.seq [u1,u2].toArray } }:=I1.kept (t':=s1.toks) λb o e=>aL _ e;rw[hw];refine af (ai ?_);show wpAny (model X.prog X.w) X.A (do rule "assign.swapped-stores";let items <-unpackItems (.ref s1.heap.objs.size) 2 none;assignInOrder [λv=>bindName X.env y v,λv=>bindName X.env x v] items.reverse;pure Flow.next) _ _ _;refine af (pG (af (unpackItems_tuple (items:=#[u1,u2]) (I.ok.hd hc) (IsTup.new s1.heap _) λh' Xa=>?_)));have I3:=I2.kept (h':=h') (t':=s1.toks) λb o e=>Xa b o (cS (aZ e)) e;show wpAny _ _ (assignInOrder [λv=>bindName X.env y v,λv=>bindName X.env x v] [u2,u1] >>= λ_=>pure Flow.next) _ _ _;refine af (EK (Ql (lw I3 hN hj (.inl hy) di (λs2 I4=>?_) (.inr hy))));refine EK (Ql (lw I4 hN hi (.inl hx) rv (λs3 I5=>Sy (ai ?_)) (.inr hx)));rw[List.set_comm _ _ (Ne.symm vJ)]at I5;exact⟨_,H1,I5,q1⟩
structure It where
 go:Nat->Hp->Prop
 vK:Nat->Hp->V->Hp->Prop
 stop:Nat->Hp->Prop
def kQ (X:Cx) (pins:List (Addr×Obj)) (H:Hp) (b:Addr):Prop :=
 H b=none /\ b≠X.env.locals /\ b∉X.fs /\ (b∈X.ex \/ X.s₀.heap.objs.size<=b) /\ (∀ x c,X.env.cells.lookup x=some c->c≠b) /\ ∀ p∈X.pn++pins,p.1≠b
theorem Inv.vL {b:Addr}(I:Inv X pins σ H s) (hb:s.heap.objs.size<=b) (hn:H' b=none):kQ X pins H' b:=by
 refine⟨hn,vk (dF I.lt hb),I.WJ hb,.inr (bP I.sz hb),λx c e z=>?_,λp hp z=>?_⟩
 ·obtain⟨v,q⟩:=I.cell x c e;exact absurd (dF q.lt (by rw[z];exact hb)) (dG _)
 ·exact absurd (dF (aZ (I.pin p hp).1) (by rw[z];exact hb)) (dG _)
structure Turn (P:Program) (w:World) (K:PySem.W.Frag) (tg:Expr) (J:It) (fp:List Addr) (it:Addr) (tn:Nat->Heap->Prop):Prop where
 mem:it∈fp
 obj:∀ i h,tn i h->∀ b∈fp,∃ o,h.get? b=some o /\ ∀ v,o.data≠.cell v
 keep:∀ i h h',tn i h->(∀ b∈fp,∀ o,h.get? b=some o->h'.get? b=some o)->tn i h'
 item:∀ (X:Cx),X.prog=P->X.w=w->X.K=K->X.calm=true->∀ (i:Nat) (pins:List (Addr×Obj)) (s:Shared) (σ:St) (H:Hp) (E:Value->Shared->Prop),Inv X pins σ H s->(∀ b∈fp,kQ X pins H b)->tn i s.heap->J.go i H ->
  wpAny (model P w) X.A (pyNext (.ref it)) (λr s1=>∃ u,r=some u /\
   wpAny (model P w) X.A (letOwnedTupleGo tg (.ref it) u) (λ_ s2=>∃ x H',Inv X pins σ H' s2 /\ RelV x u /\ J.vK i H x H' /\ tn (i+1) s2.heap /\ ∀ b∈fp,H' b=none) E s1) E s
 done:∀ (X:Cx),X.prog=P->X.w=w->X.K=K->X.calm=true->∀ (i:Nat) (pins:List (Addr×Obj)) (s:Shared) (σ:St) (H:Hp) (E:Value->Shared->Prop),Inv X pins σ H s->(∀ b∈fp,kQ X pins H b)->tn i s.heap->J.stop i H ->
  wpAny (model P w) X.A (pyNext (.ref it)) (λr s1=>r=none /\ Inv X pins σ H s1) E s
 self:∀ (A:Around) (i:Nat) (s:Shared) (Q:Value->Shared->Prop) (E:Value->Shared->Prop),tn i s.heap->Q (.ref it) s->wpAny (model P w) A (pyIter (.ref it)) Q E s
abbrev TI:=St->Hp->(It->Hp->Prop)->Prop
def TZ (X:Cx) (pins:List (Addr×Obj)) (σ:St) (tg:Expr) (R:It->Hp->Prop) (xY:Value) (s2:Shared):Prop :=
 ∃ (it:Addr) (fp:List Addr) (tn:Nat->Heap->Prop) (J:It) (H':Hp),xY=.ref it /\ Inv X pins σ H' s2 /\ Turn X.prog X.w X.K tg J fp it tn /\ tn 0 s2.heap /\ (∀ b∈fp,kQ X pins H' b) /\ R J H'
def PI (X:Cx) (tg iter:Expr) (wi:TI):Prop :=
 ∀ (pins:List (Addr×Obj)) (s:Shared) (σ:St) (H:Hp) (R:It->Hp->Prop),Inv X pins σ H s->wi σ H R ->
  wpAny (model X.prog X.w) X.A (eval iter X.env) (λv s1=>wpAny (model X.prog X.w) X.A (pyIter v) (TZ X pins σ tg R) X.xe s1) X.xe s
theorem CW {it:Addr}{o:Obj}{n:String}{vs:Array Value}{Q:Unit->Shared->Prop}(ho:s.heap.get? it=some o) (hc:o.cls=.type n) (hd:o.data=.fields vs)
 (hn:["enumerate", "zip", "dict_itemiterator", "dict_reverseitemiterator", "odict_iterator", "itertools.zip_longest", "itertools.pairwise"].contains n=false) (hQ:Q () s):wpAny M A (letOwnedTupleGo tg (.ref it) u) Q E s:=by
 unfold letOwnedTupleGo;cases tg<;>first
  |exact ai hQ
  |(cases u<;>first
   |exact ai hQ
   | (refine af (Ec ho ?_)
      rw[hc,hd];show wpAny M A (if (["enumerate", "zip", "dict_itemiterator", "dict_reverseitemiterator", "odict_iterator", "itertools.zip_longest", "itertools.pairwise"].contains n&&vs[0]?==some (rawInt _))=true then _ else _) Q E s;rw[if_neg (by intro h;rw[hn,QT]at h;cases h)];exact ai hQ))
noncomputable def Hi (K:PySem.W.Frag) (a:Addr):It :=
 ⟨λi H=>∃ xs x,bz K H a xs /\ xs[i]?=some x,λi H x H'=>H'=H /\ ∀ xs,bz K H a xs->xs[i]?=some x,λi H=>∃ xs,bz K H a xs /\ xs.length<=i⟩
noncomputable def Hj (K:PySem.W.Frag) (a:Addr):It :=
 ⟨λi H=>∃ xs x,a6 K H a xs /\ xs[i]?=some x,λi H x H'=>H'=H /\ ∀ xs,a6 K H a xs->xs[i]?=some x,λi H=>∃ xs,a6 K H a xs /\ xs.length<=i⟩
noncomputable def vM (lo:Int) (n:Nat):It:=⟨λi _=>i<n,λi H x H'=>H'=H /\ x=.int (lo+i),λi _=>n<=i⟩
theorem D3 (a it:Addr):Turn P w K tg (Hi K a) [it] it (λi h=>h.IsListIter it a i) where
 mem:=by simp
 obj:=λi h st b hb=>by
  have e:b=it:=by simpa using hb
  subst e;obtain⟨o,e,c,d⟩:=st;exact⟨o,e,λv z=>by rw[d]at z;cases z⟩
 keep:=λi h h' st k=>st.at λo e=>k it (by simp) o e
 item:=by
  intro X hP hw hK hc i pins s σ H E I hf st hg;subst hP hw hK;obtain⟨xs,x,hq,hx⟩:=hg;obtain⟨its,rv,p,hz⟩:=I.list hq;obtain⟨u,hu,ru⟩:=rv.get hx;obtain⟨f0,f1,f2,f3,f4,f5⟩:=hf it (by simp);refine wpAny_pyNext_list_item st p.isList (x:=u) (by simpa using hu) λh' n8 sb=>?_;have I1:Inv X pins σ H { s with heap:=h' }:=I.turned (t':=s.toks) (λb o hb e=>(sb.2 b hb).trans e) f0 f1 f3 f4 f5;obtain⟨o,e,c,d⟩:=id n8;exact⟨u,rfl,CW (s:={ s with heap:=h' }) e c d (by decide) ⟨x,H,I1,ru,⟨rfl,λys hy=>by rw[I.WY hy hq];exact hx⟩,n8,λb hb=>(hf b hb).1⟩⟩
 done:=by
  intro X hP hw hK hc i pins s σ H E I hf st hg;subst hP hw hK;obtain⟨xs,hq,hx⟩:=hg;obtain⟨its,rv,p,hz⟩:=I.list hq;obtain⟨f0,f1,f2,f3,f4,f5⟩:=hf it (by simp);have hl:=rv.length;exact wpAny_pyNext_list_end (I.ok.hd hc) st p.isList (by simp;omega) λh' eb=>⟨rfl,I.turned (t':=s.toks) (λb o hb e=>eb b o hb e) f0 f1 f3 f4 f5⟩
 self:=λ_ _ _ _ _ st h=>wpAny_pyIter_listiter st h
theorem Ci (a it:Addr):Turn P w K tg (Hj K a) [it] it (λi h=>h.IsTupleIter it a i) where
 mem:=by simp
 obj:=λi h st b hb=>by
  have e:b=it:=by simpa using hb
  subst e;obtain⟨o,e,c,d⟩:=st;exact⟨o,e,λv z=>by rw[d]at z;cases z⟩
 keep:=λi h h' st k=>st.at λo e=>k it (by simp) o e
 item:=by
  intro X hP hw hK hc i pins s σ H E I hf st hg;subst hP hw hK;obtain⟨xs,x,hq,hx⟩:=hg;obtain⟨its,rv,p,hz⟩:=I.tuple hq;obtain⟨u,hu,ru⟩:=rv.get hx;obtain⟨f0,f1,f2,f3,f4,f5⟩:=hf it (by simp);refine wpAny_pyNext_tuple_item st (show s.heap.IsTuple a its.toArray from p) (x:=u) (by simpa using hu) λh' n8 sb=>?_;have I1:Inv X pins σ H { s with heap:=h' }:=I.turned (t':=s.toks) (λb o hb e=>(sb.2 b hb).trans e) f0 f1 f3 f4 f5;obtain⟨o,e,c,d⟩:=id n8;exact⟨u,rfl,CW (s:={ s with heap:=h' }) e c d (by decide) ⟨x,H,I1,ru,⟨rfl,λys hy=>by rw[I.He hy hq];exact hx⟩,n8,λb hb=>(hf b hb).1⟩⟩
 done:=by
  intro X hP hw hK hc i pins s σ H E I hf st hg;subst hP hw hK;obtain⟨xs,hq,hx⟩:=hg;obtain⟨its,rv,p,hz⟩:=I.tuple hq;obtain⟨f0,f1,f2,f3,f4,f5⟩:=hf it (by simp);have hl:=rv.length;exact wpAny_pyNext_tuple_end (I.ok.hd hc) st (show s.heap.IsTuple a its.toArray from p) (by simp;omega) λh' eb=>⟨rfl,I.turned (t':=s.toks) (λb o hb e=>eb b o hb e) f0 f1 f3 f4 f5⟩
 self:=λ_ _ _ _ _ st h=>wpAny_pyIter_tupleiter st h
theorem Cj (it:Addr) (lo:Int) (n:Nat):Turn P w K tg (vM lo n) [it] it (λi h=>IsRangeIter h it (lo+(i:Nat)*1) ((n:Int)-(i:Nat)) 1) where
 mem:=by simp
 obj:=λi h st b hb=>by
  have e:b=it:=by simpa using hb
  subst e;exact⟨_,st,λv z=>by
   have z':Data.fields _=Data.cell v:=z;cases z'⟩
 keep:=λi h h' st k=>k it (by simp) _ st
 item:=by
  intro X hP hw hK hc i pins s σ H E I hf st hg;subst hP hw hK;obtain⟨f0,f1,f2,f3,f4,f5⟩:=hf it (by simp);have W:=Walks.range (prog:=X.prog) (w:=X.w) (I.ok.hd hc) it lo 1 n;refine W.item i s _ _ hg st λv h' tk hv n8 kk=>?_;obtain⟨t,rfl⟩:=hv;have I1:Inv X pins σ H { s with heap:=h',toks:=tk }:=I.turned (λb o hb e=>kk b o (by simpa using hb) e) f0 f1 f3 f4 f5;refine⟨_,rfl,CW (s:={ s with heap:=h',toks:=tk }) (n:="range_iterator") n8 rfl rfl (by decide) ⟨.int (lo+i),H,I1,⟨t,?_⟩,⟨rfl,rfl⟩,n8,λb hb=>(hf b hb).1⟩⟩;rw[Int.mul_one]
 done:=by
  intro X hP hw hK hc i pins s σ H E I hf st hg;subst hP hw hK;obtain⟨f0,f1,f2,f3,f4,f5⟩:=hf it (by simp);exact wpAny_pyNext_range_end (I.ok.hd hc) st (by have:n<=i:=hg;omega) λh' eb=>⟨rfl,I.turned (t':=s.toks) (λb o hb e=>eb b o hb e) f0 f1 f3 f4 f5⟩
 self:=λ_ _ _ _ _ st h=>wpAny_pyIter_rangeiter st h
theorem Bq {R:It->Hp->Prop}{lo hi:Int}{t u v:Tok}{tk:Nat}(I:Inv X pins σ H s) (h1:-(2 ^ 62)<=lo) (h2:lo<2 ^ 62) (h3:-(2 ^ 62)<=hi) (h4:hi<2 ^ 62)
 (q:R (vM lo (hi-lo).toNat) H):wpAny (model X.prog X.w) X.A (pyIter (.ref s.heap.objs.size)) (TZ X pins σ tg R) E { s with heap:=s.heap.push { cls:=.type "range",data:=.fields #[.int lo t,.int hi u,.int 1 v] },toks:=tk }:=by
 refine wpAny_pyIter_range (IsRange.new ..) (small_one h1 h2 h3 h4) ?_;have I1:Inv X pins σ H { s with heap:=s.heap.push { cls:=.type "range",data:=.fields #[.int lo t,.int hi u,.int 1 v] },toks:=tk }:=I.kept λb o e=>aL _ e;refine⟨(s.heap.push { cls:=.type "range",data:=.fields #[.int lo t,.int hi u,.int 1 v] }).objs.size,[(s.heap.push { cls:=.type "range",data:=.fields #[.int lo t,.int hi u,.int 1 v] }).objs.size],_,_,H,rfl,
  I1.kept (t':=tk) λb o e=>aL _ e,Cj _ lo (hi-lo).toNat,?_,λb hb=>?_,q⟩
 ·have e1:lo+((0:Nat):Int)*1=lo:=by simp
  have e2:(((hi-lo).toNat:Nat):Int)-((0:Nat):Int)=Builtin.Range.rangeSize lo hi 1:=by rw[rangeSize_one];split<;>omega
  show IsRangeIter _ _ (lo+((0:Nat):Int)*1) ((((hi-lo).toNat:Nat):Int)-((0:Nat):Int)) 1;rw[e1,e2];exact bR _ rfl
 ·have e:b=(s.heap.push { cls:=.type "range",data:=.fields #[.int lo t,.int hi u,.int 1 v] }).objs.size:=by simpa using hb
  subst e;exact I1.vL (ao _) (I1.aj.fresh (ao _))
def Xb (ta:TA):TI:=λσ H R=>ta σ H λvs H1=>∃ j:Int,vs=[.int j] /\ -(2 ^ 62)<=j /\ j<2 ^ 62 /\ R (vM 0 j.toNat) H1
def Xc (ta:TA):TI:=λσ H R=>ta σ H λvs H1=>∃ i j:Int,vs=[.int i,.int j] /\ (-(2 ^ 62)<=i /\ i<2 ^ 62 /\ -(2 ^ 62)<=j /\ j<2 ^ 62) /\ R (vM i (j-i).toNat) H1
theorem D4 {a:Expr}{ta:TA}{p:Pos}(hg:Gl X "range") (hm:X.mg "range"=none) (ha:PA X [a] ta) (hs:starEach [a] X.env=[(false,eval a X.env)]):PI X tg (.Call (.Name "range" p) [a] [] pos) (Xb ta):=by
 intro pins s σ H R I h;refine Call_ (jq I hg hm boot_range (xy (au (ha pos pins s σ H _ I h) λus s1 ⟨vs,H1,I1,r1,q1⟩=>?_) hs rfl));obtain⟨j,e,q1,q2,q⟩:=q1;subst e;cases r1 with
 | cons r rr =>
   cases rr;obtain⟨t,rfl⟩:=r;exact call_range_1 (Bq I1 (by omega) (by omega) q1 q2 (by simpa using q))
theorem D5 {a b:Expr}{ta:TA}{p:Pos}(hg:Gl X "range") (hm:X.mg "range"=none) (ha:PA X [a,b] ta) (hs:starEach [a,b] X.env=[(false,eval a X.env),(false,eval b X.env)]) (eL:starEach [b] X.env=[(false,eval b X.env)]) :
 PI X tg (.Call (.Name "range" p) [a,b] [] pos) (Xc ta):=by
 intro pins s σ H R I h;refine Call_ (jq I hg hm boot_range (xy (au (ha pos pins s σ H _ I h) λus s1 ⟨vs,H1,I1,r1,q1⟩=>?_) (by rw[hs,eL]) (by rw[eL];rfl)));obtain⟨i,j,e,⟨q1,q2,q3,q4⟩,q⟩:=q1;subst e;cases r1 with
 | cons r rr =>
   cases rr with
   | cons r' rr =>
     cases rr;obtain⟨t,rfl⟩:=r;obtain⟨t',rfl⟩:=r';exact call_range_2 (Bq I1 q1 q2 q3 q4 q)
def Hk (wi:TI) (g:TG) (tb:TS):TS:=λD σ H=>wi σ H λJ H1=>∃ W:Nat->Nat->St->Hp->Prop,(∃ m,W 0 m σ H1) /\ ∀ i m σ H,W i m σ H ->
 (J.stop i H /\ D.nx σ H) \/ (J.go i H /\ ∃ N:St->Hp->Prop,(∀ σ' H',N σ' H'->∃ m',m'<m /\ W (i+1) m' σ' H') /\ ∀ x H',J.vK i H x H'->g x σ H' λσ2 H2=>tb { D with nx:=N,ct:=N,bk:=D.nx } σ2 H2)
noncomputable def uC (fp:List Addr) (h:Heap):List (Addr×Obj):=fp.filterMap λb=>(h.get? b).map λo=>(b,o)
theorem gQ {b:Addr}{o:Obj}(hb:b∈fp) (e:h.get? b=some o):(b,o)∈uC fp h:=List.mem_filterMap.mpr ⟨b,hb,by rw[e];rfl⟩
theorem D6 {p:Addr×Obj}(hp:p∈uC fp h):p.1∈fp /\ h.get? p.1=some p.2:=by
 obtain⟨b,hb,e⟩:=List.mem_filterMap.mp hp;cases q:h.get? b with
 |none=>rw[q]at e;cases e
 | some o =>
   rw[q]at e;have e':(b,o)=p:=Option.some.inj e;subst e';exact⟨hb,q⟩
theorem Inv.pinned (I:Inv X pins σ H s) (hf:∀ b∈fp,kQ X pins H b) (ho:∀ b∈fp,∃ o,s.heap.get? b=some o /\ ∀ v,o.data≠.cell v):Inv X (pins++uC fp s.heap) σ H s :=
 I.TL λp hp=>(List.mem_append.mp hp).elim (λz=>I.pin p (eI _ z)) λz=>by
  obtain⟨hb,e⟩:=D6 z;obtain⟨f0,f1,f2,_⟩:=hf p.1 hb;obtain⟨o,e',d⟩:=ho p.1 hb;rw[e]at e';cases e';exact⟨e,f0,f1,f2,d⟩
theorem Inv.vN {pl:List (Addr×Obj)}(I:Inv X (pins++pl) σ H s):Inv X pins σ H s:=I.TL λp hp=>I.pin p (eI _ (qb _ hp))
theorem F7 {body:List Stmt}{wi:TI}{g:TG}{tb:TS}(hp:PassesOwn (model X.prog X.w) X.A X.env X.xe) (hc:X.calm=true) (hi:PI X tg iter wi) (hg:PG X tg g) (hb:dI X body tb)
 (hs:∀ x,foldedSetIterable iter X.env x=pure x):PS X (.For tg iter body [] pos) (Hk wi g tb):=by
 intro pins s σ H D I h;refine wpAny_For (au (hi pins s σ H _ I h) λv s1 h1=>au h1 λxY s2 h2=>?_) hs;obtain⟨it,fp,tn,J,H2,e,I2,T,sI,f2,W,⟨m0,w0⟩,turn⟩:=h2;subst e;have stat:∀ {H':Hp},(∀ b∈fp,H' b=none)->∀ b∈fp,kQ X pins H' b:=λhn b hb=>⟨hn b hb,(f2 b hb).2⟩;refine codeAny_forLoop_any (λn s'=>∃ i σ' H',Inv X pins σ' H' s' /\ tn i s'.heap /\ (∀ b∈fp,H' b=none) /\ W i n σ' H') ?_ m0 ⟨0,σ,H2,I2,sI,λb hb=>(f2 b hb).1,w0⟩;rintro n s3 ⟨i,σ3,H3,I3,rl,T1,w3⟩;rcases turn i n σ3 H3 w3 with⟨stop,qn⟩|⟨go,N,hN,step⟩
 ·refine vh hp (au (T.done X rfl rfl rfl hc i pins s3 σ3 H3 X.xe I3 (stat T1) rl stop) λr s4 ⟨hr,I4⟩=>?_);subst hr;exact Eb ⟨σ3,H3,I4,qn⟩
 ·refine vh hp (au (T.item X rfl rfl rfl hc i pins s3 σ3 H3 X.xe I3 (stat T1) rl go) λr s4 ⟨u,hr,h4⟩=>?_);subst hr;refine vh hp (au h4 λ_ s5 ⟨x,H5,I5,r5,y5,qw,sJ⟩=>?_);have Xd:=I5.pinned (stat sJ) (T.obj _ _ qw);refine vh hp (au (hg _ s5 σ3 H5 x u _ Xd r5 (step x H5 y5)) λ_ s6 ⟨σ6,H6,I6,q6⟩=>?_);refine vh hp (au (hb _ s6 σ6 H6 _ I6 q6) λf s7 q7=>?_);have again:∀ {σ7:St}{H7:Hp},Inv X (pins++uC fp s5.heap) σ7 H7 s7->N σ7 H7->∃ m,m<n /\ ∃ i σ' H',Inv X pins σ' H' s7 /\ tn i s7.heap /\ (∀ b∈fp,H' b=none) /\ W i m σ' H':=λ{σ7 H7} I7 n7=>by
   obtain⟨m',hm,w7⟩:=hN σ7 H7 n7;refine⟨m',hm,i+1,σ7,H7,I7.vN,T.keep _ _ _ qw λb hb o e=>(I7.pin (b,o) (eI _ (eI _ (gQ hb e)))).1,λb hb=>?_,w7⟩;obtain⟨o,e,d⟩:=T.obj _ _ qw b hb;exact(I7.pin (b,o) (eI _ (eI _ (gQ hb e)))).2.1
  cases f with
  |next=>obtain⟨σ7,H7,I7,n7⟩:=q7;exact again I7 n7
  |cont=>obtain⟨σ7,H7,I7,n7⟩:=q7;exact again I7 n7
  |brk=>obtain⟨σ7,H7,I7,q7⟩:=q7;exact⟨σ7,H7,I7.vN,q7⟩
  |ret v=>obtain⟨x7,σ7,H7,I7,r7,q7⟩:=q7;exact⟨x7,σ7,H7,I7.vN,r7,q7⟩
abbrev R2:=V->V->Hp->VK->Prop
def aH (X:Cx) (f:Value->Value->Sem Value) (r:R2):Prop :=
 ∀ (pins:List (Addr×Obj)) (s:Shared) (σ:St) (H:Hp) (x y:V) (v u:Value) (Q:VK),Inv X pins σ H s->RelV x v->RelV y u->r x y H Q ->
  wpAny (model X.prog X.w) X.A (f v u) (EP X pins σ Q) X.xe s
def Hl (X:Cx) (f:Value->Sem Value) (r:V->Hp->VK->Prop):Prop :=
 ∀ (pins:List (Addr×Obj)) (s:Shared) (σ:St) (H:Hp) (x:V) (v:Value) (Q:VK),Inv X pins σ H s->RelV x v->r x H Q ->
  wpAny (model X.prog X.w) X.A (f v) (EP X pins σ Q) X.xe s
def cU (X:Cx) (f:Value) (r:List V->Hp->VK->Prop):Prop :=
 ∀ (pins:List (Addr×Obj)) (s:Shared) (σ:St) (H:Hp) (xs:List V) (us:List Value) (Q:VK),Inv X pins σ H s->Vals xs us->r xs H Q ->
  wpAny (model X.prog X.w) X.A (call f us) (EP X pins σ Q) X.xe s
def vO (r:R2) (ta tb:TE):TE:=λσ H Q=>ta σ H λx H1=>tb σ H1 λy H2=>r x y H2 Q
def Xe (r:V->Hp->VK->Prop) (ta:TE):TE:=λσ H Q=>ta σ H λx H1=>r x H1 Q
def rI (C:Int->Int->Prop) (g:Int->Int->V):R2:=λx y H Q=>∃ i j,x=.int i /\ y=.int j /\ C i j /\ Q (g i j) H
def dj (g:Int->Int->V):R2:=λx y H Q=>∃ i j,x=.int i /\ y=.int j /\ Q (g i j) H
def rU (g:Int->V):V->Hp->VK->Prop:=λx H Q=>∃ i,x=.int i /\ Q (g i) H
section
variable {a b c : Expr} {ta tb tc : TE} 
theorem Hm (ha:PE X a ta) (hb:PE X b tb) {R:V->V->Hp->Prop}(I:Inv X pins σ H s)
 (h:ta σ H λx H1=>tb σ H1 λy H2=>R x y H2) 
 (hf:∀ v u s2 x y H2,Inv X pins σ H2 s2->RelV x v->RelV y u->R x y H2->wpAny (model X.prog X.w) X.A (f v u) Q X.xe s2) :
 wpAny (model X.prog X.w) X.A (eval a X.env) (λv s₁=>wpAny (model X.prog X.w) X.A (eval b X.env) (λu s₂=>wpAny (model X.prog X.w) X.A (f v u) Q X.xe s₂) X.xe s₁) X.xe s:=by
 refine au (ha pins s σ H _ I h) λv s1 ⟨x,H1,I1,r1,q1⟩=>?_;refine au (hb pins s1 σ H1 _ I1 q1) λu s2 ⟨y,H2,I2,r2,q2⟩=>?_;exact hf v u s2 x y H2 I2 r1 r2 q2
theorem PU {op:Operator}{r:R2}(ho:aH X (binaryOp op) r) (ha:PE X a ta) (hb:PE X b tb):PE X (.BinOp a op b pos) (vO r ta tb):=by
 intro pins s σ H Q I h;exact wpAny_BinOp (Hm ha hb I h λv u s2 x y H2 I2 rx ry q=>ho pins s2 σ H2 x y v u Q I2 rx ry q)
theorem PV {op:UnaryOp}{r:V->Hp->VK->Prop}(ho:Hl X (unaryOp op) r) (ha:PE X a ta):PE X (.UnaryOp op a pos) (Xe r ta):=by
 intro pins s σ H Q I h;exact UnaryOp_ (au (ha pins s σ H _ I h) λv s1 ⟨x,H1,I1,r1,q1⟩=>ho pins s1 σ H1 x v Q I1 r1 q1)
theorem xZ {C:Int->Int->Prop}{g:Int->Int->Int}
 (rule:∀ (i j:Int) (t u:Tok) (s:Shared) (Q:Value->Shared->Prop) (E:Value->Shared->Prop),C i j->Q (.int (g i j) s.toks) { s with toks:=s.toks+1 }->wpAny (model X.prog X.w) X.A (f (.int i t) (.int j u)) Q E s) :
 aH X f (rI C λi j=>.int (g i j)):=by
 intro pins s σ H x y v u Q I rx ry h;obtain⟨i,j,rfl,rfl,hc,q⟩:=h;obtain⟨t,rfl⟩:=rx;obtain⟨t',rfl⟩:=ry;exact rule i j t t' s _ _ hc ⟨.int (g i j),H,I.tok _,⟨_,rfl⟩,q⟩
theorem T3 {g:Int->Int->Int}
 (rule:∀ (i j:Int) (t u:Tok) (s:Shared) (Q:Value->Shared->Prop) (E:Value->Shared->Prop),Q (.int (g i j) s.toks) { s with toks:=s.toks+1 }->wpAny (model X.prog X.w) X.A (f (.int i t) (.int j u)) Q E s) :
 aH X f (dj λi j=>.int (g i j)):=by
 intro pins s σ H x y v u Q I rx ry h;obtain⟨i,j,rfl,rfl,q⟩:=h;obtain⟨t,rfl⟩:=rx;obtain⟨t',rfl⟩:=ry;exact rule i j t t' s _ _ ⟨.int (g i j),H,I.tok _,⟨_,rfl⟩,q⟩
theorem ya {g:Int->Int->Bool}
 (rule:∀ (i j:Int) (t u:Tok) (s:Shared) (Q:Value->Shared->Prop) (E:Value->Shared->Prop),Q (.bool (g i j)) s->wpAny (model X.prog X.w) X.A (f (.int i t) (.int j u)) Q E s) :
 aH X f (dj λi j=>.bl (g i j)):=by
 intro pins s σ H x y v u Q I rx ry h;obtain⟨i,j,rfl,rfl,q⟩:=h;obtain⟨t,rfl⟩:=rx;obtain⟨t',rfl⟩:=ry;exact rule i j t t' s _ _ ⟨.bl (g i j),H,I,rfl,q⟩
def rm (i j:Int):Prop:=0<j /\ j<1073741824
def uD (i j:Int):Prop:=0<=j /\ j<=1000000 /\ i.natAbs<2 ^ 64
def rn (i j:Int):Prop:=(-(2 ^ 64)<i /\ i<2 ^ 64) \/ (-(2 ^ 64)<j /\ j<2 ^ 64)
theorem rn.ok {i j:Int}(h:rn i j):IntMulOk i j:=by
 rcases h with⟨h1,h2⟩|⟨h1,h2⟩
 ·exact .of_left (Qm h1 h2)
 ·exact .of_right (Qm h1 h2)
theorem NQ:aH X (binaryOp .Add) (dj λi j=>.int (i+j)):=T3 λ_ _ _ _ _ _ _ q=>add_int q
theorem NR:aH X (binaryOp .Sub) (dj λi j=>.int (i-j)):=T3 λ_ _ _ _ _ _ _ q=>sub_int q
theorem NS:aH X (binaryOp .Mult) (rI rn λi j=>.int (i*j)):=xZ λ_ _ _ _ _ _ _ hc q=>mul_int q hc.ok
theorem J8:aH X (binaryOp .FloorDiv) (rI rm λi j=>.int (i / j)):=xZ λi j _ _ _ _ _ hc q=>by
 have h1:(0:Int)<j:=hc.1;have h2:j<1073741824:=hc.2;exact floordiv_int (by omega) (by rw[Int.fdiv_eq_ediv_of_nonneg i (by omega)];exact q) (.inl (PyProof.noPylong_small (by omega)))
theorem NT:aH X (binaryOp .Mod) (rI (λ_ j=>0<j) λi j=>.int (i % j)):=xZ λi j _ _ _ _ _ hc q=>by
 have h1:(0:Int)<j:=hc;exact mod_int' (by omega) (by rw[Int.fmod_eq_emod_of_nonneg i (by omega)];exact q)
theorem NU:aH X (binaryOp .Pow) (rI uD λi j=>.int (i ^ j.toNat)):=xZ λ_ _ _ _ _ _ _ hc q=>pow_int_small hc.1 hc.2.1 hc.2.2 q
theorem Xf {f:Value->Sem Value}{g:Int->Int}
 (rule:∀ (i:Int) (t:Tok) (s:Shared) (Q:Value->Shared->Prop) (E:Value->Shared->Prop),Q (.int (g i) s.toks) { s with toks:=s.toks+1 }->wpAny (model X.prog X.w) X.A (f (.int i t)) Q E s) :
 Hl X f (rU λi=>.int (g i)):=by
 intro pins s σ H x v Q I rx h;obtain⟨i,rfl,q⟩:=h;obtain⟨t,rfl⟩:=rx;exact rule i t s _ _ ⟨.int (g i),H,I.tok _,⟨_,rfl⟩,q⟩
theorem NV:Hl X (unaryOp .USub) (rU λi=>.int (-i)):=Xf λ_ _ _ _ _ q=>neg_int q
end
noncomputable def T4:V->V->Bool
 |.non,.non=>true|.non,.int _=>true|.int _,.non=>true|.non,.bl _=>true|.bl _,.non=>true|.non,.str _=>true|.str _,.non=>true
 |.int _,.int _=>true|.bl _,.bl _=>true|.str _,.str _=>true|.nj _,.nj _=>true
 |.int _,.str _=>true|.str _,.int _=>true|.bl _,.str _=>true|.str _,.bl _=>true
 |_,_=>false
def T5:R2:=λx y H Q=>T4 x y=true /\ Q (.bl (decide (x=y))) H
def T6:R2:=λx y H Q=>T4 x y=true /\ Q (.bl (!decide (x=y))) H
theorem CY {i j:Int}:decide (V.int i=V.int j)=(i==j):=by
 rw[kn];simp
theorem F8 {i j:Bool}:decide (V.bl i=V.bl j)=(i==j):=by
 rw[kn];simp
theorem CZ {i j:Str}:decide (V.str i=V.str j)=(i==j):=by
 rw[kn];simp
theorem C0 {i j:Array UInt8}:decide (V.nj i=V.nj j)=(i.toList==j.toList):=by
 rw[kn];cases i;cases j;simp
section
variable {a b c : Expr} {ta tb tc : TE} 
theorem fO {Q:VK}{k k':Bool}(I:Inv X pins σ H s) (q:Q (.bl k) H) (e:k=k'):EP X pins σ Q (.bool k') s:=by
 subst e;exact⟨.bl k,H,I,rfl,q⟩
theorem PX:aH X (compareOp .Eq) T5:=by
 intro pins s σ H x y v u Q I rx ry h;obtain⟨hs,q⟩:=h;cases x with
 | non =>
   cases rx;cases y with
   |non=>cases ry;exact We (fO I q (by simp))
   |bl j=>cases ry;exact Wf (fO I q (by simp))
   |int j=>obtain⟨t',rfl⟩:=ry;exact Wg (fO I q (by simp))
   |str j=>obtain⟨t',rfl⟩:=ry;exact Wh (fO I q (by simp))
   |_=>exact absurd (show false=true from hs) cb
 | bl i =>
   cases rx;cases y with
   |non=>cases ry;exact Wi (fO I q (by simp))
   |bl j=>cases ry;exact eq_bool (fO I q F8)
   |str j=>obtain⟨t',rfl⟩:=ry;exact Wt (fO I q (by simp))
   |_=>exact absurd (show false=true from hs) cb
 | int i =>
   obtain⟨t,rfl⟩:=rx;cases y with
   |non=>cases ry;exact Wj (fO I q (by simp))
   |int j=>obtain⟨t',rfl⟩:=ry;exact eq_int (fO I q CY)
   |str j=>obtain⟨t',rfl⟩:=ry;exact Wu (fO I q (by simp))
   |_=>exact absurd (show false=true from hs) cb
 | str i =>
   obtain⟨t,rfl⟩:=rx;cases y with
   |non=>cases ry;exact Wk (fO I q (by simp))
   |bl j=>cases ry;exact Wv (fO I q (by simp))
   |int j=>obtain⟨t',rfl⟩:=ry;exact Ww (fO I q (by simp))
   |str j=>obtain⟨t',rfl⟩:=ry;exact eq_str (fO I q CZ)
   |_=>exact absurd (show false=true from hs) cb
 | nj i =>
   obtain⟨t,rfl⟩:=rx;cases y with
   |nj j=>obtain⟨t',rfl⟩:=ry;exact PySem.W.eq_bytes (fO I q C0)
   |_=>exact absurd (show false=true from hs) cb
 |_=>cases y<;>exact absurd (show false=true from hs) cb
theorem PY:aH X (compareOp .NotEq) T6:=by
 intro pins s σ H x y v u Q I rx ry h;obtain⟨hs,q⟩:=h;cases x with
 | non =>
   cases rx;cases y with
   |non=>cases ry;exact Wl (fO I q (by simp))
   |bl j=>cases ry;exact Wm (fO I q (by simp))
   |int j=>obtain⟨t',rfl⟩:=ry;exact Wn (fO I q (by simp))
   |str j=>obtain⟨t',rfl⟩:=ry;exact Wo (fO I q (by simp))
   |_=>exact absurd (show false=true from hs) cb
 | bl i =>
   cases rx;cases y with
   |non=>cases ry;exact Wq (fO I q (by simp))
   |bl j=>cases ry;exact ne_bool (fO I q (congrArg not F8))
   |str j=>obtain⟨t',rfl⟩:=ry;exact Wx (fO I q (by simp))
   |_=>exact absurd (show false=true from hs) cb
 | int i =>
   obtain⟨t,rfl⟩:=rx;cases y with
   |non=>cases ry;exact Wr (fO I q (by simp))
   |int j=>obtain⟨t',rfl⟩:=ry;exact ne_int (fO I q (congrArg not CY))
   |str j=>obtain⟨t',rfl⟩:=ry;exact Wy (fO I q (by simp))
   |_=>exact absurd (show false=true from hs) cb
 | str i =>
   obtain⟨t,rfl⟩:=rx;cases y with
   |non=>cases ry;exact Ws (fO I q (by simp))
   |bl j=>cases ry;exact Wz (fO I q (by simp))
   |int j=>obtain⟨t',rfl⟩:=ry;exact WA (fO I q (by simp))
   |str j=>obtain⟨t',rfl⟩:=ry;exact ne_str (fO I q (congrArg not CZ))
   |_=>exact absurd (show false=true from hs) cb
 | nj i =>
   obtain⟨t,rfl⟩:=rx;cases y with
   |nj j=>obtain⟨t',rfl⟩:=ry;exact PySem.W.ne_bytes (fO I q (congrArg not C0))
   |_=>exact absurd (show false=true from hs) cb
 |_=>cases y<;>exact absurd (show false=true from hs) cb
theorem PZ:aH X (compareOp .Lt) (dj λi j=>.bl (decide (i<j))):=ya λ_ _ _ _ _ _ _ q=>lt_int q
theorem P0:aH X (compareOp .LtE) (dj λi j=>.bl (decide (i<=j))):=ya λ_ _ _ _ _ _ _ q=>le_int q
theorem P3:aH X (compareOp .Gt) (dj λi j=>.bl (decide (j<i))):=ya λ_ _ _ _ _ _ _ q=>gt_int q
theorem P4:aH X (compareOp .GtE) (dj λi j=>.bl (decide (j<=i))):=ya λ_ _ _ _ _ _ _ q=>ge_int q
theorem aH.or {r r':R2}(h:aH X f r) (h':aH X f r'):aH X f (λx y H Q=>r x y H Q \/ r' x y H Q):=by
 intro pins s σ H x y v u Q I rx ry q;rcases q with q|q
 ·exact h pins s σ H x y v u Q I rx ry q
 ·exact h' pins s σ H x y v u Q I rx ry q
theorem J9 {r:R2}(ho:aH X (compareOp op) r) (ha:PE X a ta) (hb:PE X b tb) (hm:behindInMarks op b=false):PE X (.Compare a [op] [b] pos) (vO r ta tb):=by
 intro pins s σ H Q I h;exact Qh (Hm ha hb I h λv u s2 x y H2 I2 rx ry q=>ho pins s2 σ H2 x y v u Q I2 rx ry q) hm
noncomputable def Xg (t:TE):TT:=λσ H Q=>t σ H λx H'=>∃ k,x=.bl k /\ Q k H'
theorem La {r:R2}(ho:aH X (compareOp op) r) (ha:PE X a ta) (hb:PE X b tb) (hm:behindInMarks op b=false):PT X (.Compare a [op] [b] pos) (Xg (vO r ta tb)):=by
 intro pins s σ H Q I h;refine Qi (au (ha pins s σ H _ I h) λv s1 ⟨x,H1,I1,r1,q1⟩=>au (hb pins s1 σ H1 _ I1 q1) λu s2 ⟨y,H2,I2,r2,q2⟩ =>
  au (ho pins s2 σ H2 x y v u _ I2 r1 r2 q2) λc s3 ⟨z,H3,I3,r3,k,e,q3⟩=>?_) hm
 subst e;cases r3;exact p8 ⟨H3,I3,q3⟩
def T7 (r r':R2) (ta tb tc:TE):TE:=λσ H Q=>ta σ H λx H1=>tb σ H1 λy H2=>r x y H2 λz H3=>∃ k,z=.bl k /\
 (if k=true then tc σ H3 λw' H4=>r' y w' H4 Q else Q (.bl false) H3)
theorem F9 {eU:CmpOp}{r r':R2}(ho:aH X (compareOp op) r) (nY:aH X (compareOp eU) r') (ha:PE X a ta) (hb:PE X b tb) (hc:PE X c tc)
 (hm:lastMarks [op,eU] [b,c]=false):PE X (.Compare a [op,eU] [b,c] pos) (T7 r r' ta tb tc):=by
 intro pins s σ H Q I h;refine Compare_chain (au (ha pins s σ H _ I h) λv s1 ⟨x,H1,I1,r1,q1⟩=>chain_link (au (hb pins s1 σ H1 _ I1 q1) λu s2 ⟨y,H2,I2,r2,q2⟩ =>
  au (ho pins s2 σ H2 x y v u _ I2 r1 r2 q2) λd s3 ⟨z,H3,I3,r3,k,e,q3⟩=>?_)) hm
 subst e;cases r3;refine p8 ?_;cases k with
 |false=>exact ite_ff ⟨.bl false,H3,I3,rfl,q3⟩
 |true=>exact ite_tt (chain_last (au (hc pins s3 σ H3 _ I3 q3) λw' s4 ⟨z',H4,I4,r4,q4⟩=>nY pins s4 σ H4 y z' u w' Q I4 r2 r4 q4))
theorem vP:(sizeLine:Nat)<2 ^ 63:=by rw[ba];decide
theorem Ck:aH X (binaryOp .Add) (λx y H Q=>∃ i j,x=.str i /\ y=.str j /\ i.length+j.length<=sizeLine /\ Q (.str (i++j)) H):=by
 intro pins s σ H x y v u Q I rx ry h;obtain⟨i,j,rfl,rfl,hz,q⟩:=h;obtain⟨t,rfl⟩:=rx;obtain⟨t',rfl⟩:=ry;exact add_str (λt' tk=>⟨.str (i++j),H,I.tok _,⟨_,rfl⟩,q⟩) hz
theorem vals1 {x:V}(r:Vals [x] us):∃ u,us=[u] /\ RelV x u:=by
 cases r with
 |cons r1 r2=>cases r2;exact⟨_,rfl,r1⟩
theorem vals2 {x y:V}(r:Vals [x,y] us):∃ u w',us=[u,w'] /\ RelV x u /\ RelV y w':=by
 cases r with
 | cons r1 r2 =>
   cases r2 with
   |cons r3 r4=>cases r4;exact⟨_,_,rfl,r1,r3⟩
theorem D7 (hc:X.calm=true):cU X (.builtin "max") (λxs H Q=>∃ i j,xs=[.int i,.int j] /\ Q (.int (if j>i then j else i)) H):=by
 intro pins s σ H xs us Q I r h;obtain⟨i,j,rfl,q⟩:=h;obtain⟨u,w',rfl,⟨t,rfl⟩,⟨t',rfl⟩⟩:=vals2 r;refine max_two_ints (I.ok.hd hc) λh' tk k=>⟨_,H,I.kept k,?_,q⟩;by_cases hj:j>i
 ·rw[if_pos hj,if_pos hj];exact⟨_,rfl⟩
 ·rw[if_neg hj,if_neg hj];exact⟨_,rfl⟩
theorem D8 (hc:X.calm=true):cU X (.builtin "min") (λxs H Q=>∃ i j,xs=[.int i,.int j] /\ Q (.int (if j<i then j else i)) H):=by
 intro pins s σ H xs us Q I r h;obtain⟨i,j,rfl,q⟩:=h;obtain⟨u,w',rfl,⟨t,rfl⟩,⟨t',rfl⟩⟩:=vals2 r;refine min_two_ints (I.ok.hd hc) λh' tk k=>⟨_,H,I.kept k,?_,q⟩;by_cases hj:j<i
 ·rw[if_pos hj,if_pos hj];exact⟨_,rfl⟩
 ·rw[if_neg hj,if_neg hj];exact⟨_,rfl⟩
end
structure Hn (h:Heap) (x dx C:Addr) (mA:Str->Option Value):Prop where
 obj:h.get? x=some (PySem.W.instObj C dx)
 ns:h.Ns1 dx mA
 ne:dx≠x
theorem D9 {dx:Addr}(n:h.Ns1 dx mA):∃ od,h.get? dx=some od /\ ∀ name,PySem.W.lookIn name od=some (mA name):=by
 obtain⟨o,es,ep,ho,hd,hk,_,hm⟩:=n;refine⟨o,ho,λname=>?_⟩;have e:=hm name;unfold nsFind findBy at e;rw[<-Array.find?_toList]at e;unfold PySem.W.lookIn;rw[hd];dsimp only;split
 ·rename_i y q;rw[q]at e;exact congrArg some e
 ·rename_i q;rw[q]at e;have a:es.toList.any (·.refKey)=false:=by
   rw[QW];intro y hy;obtain⟨z,t,Ho⟩:=hk y (Array.mem_toList_iff.mp hy);simp[DictEntry.refKey,Ho]
  have a':¬ es.toList.any (·.refKey)=true:=by rw[a];exact cb
  rw[if_neg a'];exact congrArg some e
theorem Hn.look {x dx C:Addr}(I:Hn h x dx C mA):∃ od,PySem.W.InstAt h x (PySem.W.instObj C dx) C (some od) /\ ∀ name,PySem.W.lookIn name od=some (mA name):=
 let ⟨od,ho,hl⟩:=D9 I.ns
 ⟨od,⟨I.obj,rfl,rfl,ho⟩,hl⟩
section
variable {x dx C f : Addr} {name : Str} {v : Value}
end
theorem kr.some_of {o:Option Value}(r:kr (some v) o):∃ u,o=some u /\ RelV v u:=by
 cases o with
 |none=>exact(show False from r).elim
 |some u=>exact⟨u,rfl,r⟩
section
variable {C dx : Addr} {fs WH : List (Str × V)}
theorem Lc (aj:bO P w H h) (e:H a=some (.ins C dx fs)):∃ mA,Hn h a dx C mA /\ (∀ f,kr (fs.lookup f) (mA f)) /\ PySem.Within mA (fs.map (·.1)) /\ fs.length<=1000 /\ H dx=some (.own a):=by
 obtain⟨d,z,ne,ob,mA,n,r,q⟩:=(show aV P w H h a (.ins C dx fs) from aj a _ e);exact⟨mA,⟨ob,n,ne⟩,r,q,z,d⟩
end
structure Hq (K:PySem.W.Frag) (C:Addr):Prop where
 pg:PySem.W.plainGet K C Str.empty=true
 hd:PySem.W.hasDictIn K C=true
 po:PySem.W.plainOver K C=true
 sa:PySem.W.findIn K (.ref C) "__setattr__"=some (some (.builtin "object.__setattr__"))
theorem Hq.get {C:Addr}(c:Hq K C) (f:Str):PySem.W.plainGet K C f=true:=c.pg
section
variable {C dx : Addr} {fs : List (Str × V)} {f : Str} 
end
section
variable {o value : Expr} {f : Str} {yb : Pos} {ta tv : TE}
end
section
variable {c : Value} {b : Bool}
inductive kz (K:PySem.W.Frag) (H:Hp):V->Value->Prop where
 |non:kz K H .non (.type "NoneType")
 |bl (x:Bool):kz K H (.bl x) (.type "bool")
 |int (i:Int):kz K H (.int i) (.type "int")
 |str (x:Str):kz K H (.str x) (.type "str")
 |sC (x:UInt64):kz K H (.sC x) (.type "float")
 |lst {a:Addr}{xs:List V}(e:H a=some (.lst xs)):kz K H (.ref a) (.type "list")
 |a4 {a:Addr}{o:Obj}{xs:List V}(e:H a=some (.a4 o (.lst xs))):kz K H (.ref a) (.type "list")
 |tup {a:Addr}{xs:List V}(e:H a=some (.tup xs)):kz K H (.ref a) (.type "tuple")
 |dK {a:Addr}{ae:List (Key×V)}(e:H a=some (.dK ae)):kz K H (.ref a) (.type "dict")
 |dT {a:Addr}{ae:List (List Key×V)}(e:H a=some (.dT ae)):kz K H (.ref a) (.type "dict")
 |ins {a C dx:Addr}{fs:List (Str×V)}(e:H a=some (.ins C dx fs)) (cl:Hq K C) (ha:PySem.W.findIn K (.ref C) "__class__"=some (some (.builtin "object.__class__")))
  (hn:PySem.W.specialIn K (.builtin "object.__class__") "__get__"=some (some (.builtin "getset_descriptor.__get__"))) (T8:PySem.W.takesIn K (.builtin "object.__class__")=some true)
  (hm:PySem.W.mroIn K C (.type "object")=some true):kz K H (.ref a) (.ref C)
theorem Fa {x:V}{t:Value}(I:Inv X pins σ H s) (rx:RelV x u) (ty:kz X.K H x t) (e:PySem.W.kitOne X.K t c=some b) (h:∀ tk,Q (.bool b) { s with toks:=tk }) :
 wpAny (model X.prog X.w) A (call (.builtin "isinstance") [u,c]) Q E s:=by
 cases ty with
 |non=>cases (show u=Value.none from rx);exact nU PySem.W.kitx_none I.dR True.intro e (λz=>nomatch z) h
 |bl y=>cases (show u=Value.bool y from rx);exact nU PySem.W.kitx_bool I.dR True.intro e (λz=>nomatch z) h
 |int i=>obtain⟨t,q⟩:=(show ∃ t,u=Value.int i t from rx);cases q;exact nU PySem.W.kitx_int I.dR True.intro e (λz=>nomatch z) h
 |str y=>obtain⟨t,q⟩:=(show ∃ t,u=Value.str y t from rx);cases q;exact nU PySem.W.kitx_str I.dR True.intro e (λz=>nomatch z) h
 |sC y=>obtain⟨t,q⟩:=(show ∃ t,u=Value.float y t from rx);cases q;exact nU PySem.W.kitx_float I.dR True.intro e (λz=>nomatch z) h
 | @lst a xs ea =>
   cases (show u=Value.ref a from rx);obtain⟨_,_,n,_,h1⟩:=(show aV X.prog X.w H s.heap a (.lst xs) from I.aj a _ ea);exact nU SV I.dR ⟨_,h1,rfl⟩ e (λz=>nomatch z) h
 | @a4 a ob xs ea =>
   cases (show u=Value.ref a from rx);obtain⟨_,_,_,n,_,h1⟩:=(show aV X.prog X.w H s.heap a (.a4 ob (.lst xs)) from I.aj a _ ea);exact nU SV I.dR ⟨_,h1,rfl⟩ e (λz=>nomatch z) h
 | @tup a xs ea =>
   cases (show u=Value.ref a from rx);obtain⟨_,_,_,p⟩:=(show aV X.prog X.w H s.heap a (.tup xs) from I.aj a _ ea);obtain⟨o,h1,h2,_⟩:=p;exact nU PySem.W.kitx_tuple I.dR ⟨o,h1,h2⟩ e (λz=>nomatch z) h
 | @dK a ae ea =>
   cases (show u=Value.ref a from rx);obtain⟨_,_,vs,_,p⟩:=(show aV X.prog X.w H s.heap a (.dK ae) from I.aj a _ ea);obtain⟨o,es,ep,h1,h2,_⟩:=p;exact nU SW I.dR ⟨o,h1,h2.1⟩ e (λz=>nomatch z) h
 | @dT a ae ea =>
   cases (show u=Value.ref a from rx);obtain⟨_,_,xs,_,o,es,ep,h1,h2,_⟩:=(show aV X.prog X.w H s.heap a (.dT ae) from I.aj a _ ea);exact nU SW I.dR ⟨o,h1,h2.1⟩ e (λz=>nomatch z) h
 | @ins a C dx fs ea cl ha hn T8 hm =>
   cases (show u=Value.ref a from rx);obtain⟨mA,O,_⟩:=Lc I.aj ea;obtain⟨od,J,_⟩:=O.look;exact nU (PySem.W.kitx_own (cl.get _) cl.hd ha hn T8 hm) I.dR J e (λz=>nomatch z) h
end
structure cj (k:Nat) (A:Around):Prop where
 hd:A.handled=none
 dp:A.depth+3*k+5<recursionLimit
 un:A.units+16*k+200<cLine
 gd:A.guards=some []
theorem cj.mono {k:Nat}(r:cj k A) (h:j<=k):cj j A:=⟨r.hd,by have:=r.dp;omega,by have:=r.un;omega,r.gd⟩
theorem cj.deeper {k:Nat}{A:Around}(r:cj (k+1) A) (env:Env):cj k (A.deeper env):=
 ⟨r.hd,by have:=r.dp;show A.depth+1+3*k+5<_;omega,by have:=r.un;show A.units+3+16*k+200<_;omega,by first|exact r.gd|(rw[<-r.gd];first|rfl|simp[Around.under,Code.isGuard,guardIds])⟩
theorem cj.depth {k:Nat}{A:Around}(r:cj k A):A.depth<recursionLimit:=by have:=r.dp;omega
theorem cj.units {k:Nat}{A:Around}(r:cj k A):A.units+64<cLine:=by have:=r.un;omega
def Hr:TA:=λ_ H Q=>Q [] H
def Ht (ta:TE) (tr:TA):TA:=λσ H Q=>ta σ H λx H1=>tr σ H1 λxs H2=>Q (x::xs) H2
section
variable {te : TE} {t : TA} 
theorem jY:PA X [] Hr:=λ_ _ _ _ H Q I h=>vD ⟨[],H,I,.nil,h⟩
theorem iV (ha:PE X e te) (hr:PA X es t) (hs:starEach (e::es) X.env=(false,eval e X.env)::starEach es X.env):PA X (e::es) (Ht te t):=by
 intro pos pins s σ H Q I h;rw[hs];show wpAny _ _ (spliced ((false,eval e X.env)::backTo pos (starEach es X.env))) _ _ s;refine vE (au (ha pins s σ H _ I h) λu s1 ⟨x,H1,I1,r1,q1⟩=>?_);exact au (hr pos pins s1 σ H1 _ I1 q1) λus s2 ⟨xs,H2,I2,r2,q2⟩=>⟨x::xs,H2,I2,.cons r1 r2,q2⟩
def Xh (t:TA):TE:=λσ H Q=>t σ H λxs H1=>xs.length<=sizeLine /\ ∀ p,H1 p=none->Q (.ref p) (upd H1 p (.tup xs))
def Xi (t:TA):TE:=λσ H Q=>t σ H λxs H1=>xs.length<=sizeLine /\ ∀ p,H1 p=none->Q (.ref p) (upd H1 p (.lst xs))
theorem NW {x1}(h:PA X es t):PE X (.Tuple es x1 pos) (Xh t):=by
 intro pins s σ H Q I hq;refine wpAny_Tuple_spliced (au (h pos pins s σ H _ I hq) λus s1 ⟨xs,H1,I1,r,z,q⟩=>⟨by rw[<-r.length];exact z,?_⟩);have hf:H1 s1.heap.objs.size=none:=I1.aj.fresh (ao _);refine⟨.ref s1.heap.objs.size,upd H1 s1.heap.objs.size (.tup xs),I1.laid (t':=s1.toks) (λb u e=>aL _ e) (ao _) ?_,rfl,q _ hf⟩;exact⟨z,us,r,⟨_,bR _ rfl,rfl,_,rfl⟩⟩
theorem Ga (h:PA X es t):PE X (.List es pos) (Xi t):=by
 intro pins s σ H Q I hq;refine wpAny_List_spliced (au (h pos pins s σ H _ I hq) λus s1 ⟨xs,H1,I1,r,z,q⟩=>⟨by rw[<-r.length];exact z,?_⟩);have hf:H1 s1.heap.objs.size=none:=I1.aj.fresh (ao _);refine⟨.ref s1.heap.objs.size,upd H1 s1.heap.objs.size (.lst xs),I1.laid (t':=s1.toks) (λb u e=>aL _ e) (ao _) ?_,rfl,q _ hf⟩;exact⟨z,us,0,r,bR _ rfl⟩
end
abbrev Sp:=List V->Hp->VK->XK->Prop
abbrev nu:=List Env->Hp->Shared->XK->Value->Shared->Prop
structure yc (P:Program) (w:World) (K:PySem.W.Frag) (mg:Str->Option Value) (base:Heap) (A:Around) (outer:List Env) (s:Shared) (H:Hp):Prop where
 frames:A.frames=some outer
 mod:Mod K mg base
 bs:∀ b o,base.get? b=some o->s.heap.get? b=some o /\ H b=none
 sF:base.objs.size<=s.heap.objs.size
 nW:s.heap.FunFrames base outer
 uA:∀ b∈kO outer,H b=none
 aj:bO P w H s.heap
 bare:AllBare s.gens
def CE (outer:List Env) (P:Program) (w:World) (H:Hp) (s:Shared) (Q:VK) (u:Value) (s':Shared):Prop :=
 ∃ v H',s'.os=s.os /\ AllBare s'.gens /\ Un (kO outer) [] H H' s.heap s'.heap /\ bO P w H' s'.heap /\ RelV v u /\ Q v H'
def CR (CX:nu) (outer:List Env) (P:Program) (w:World) (H:Hp) (s:Shared) (Q:VK) (E:XK) (r:Result) (s':Shared):Prop :=
 match r with
 |.ok (.ret u)=>CE outer P w H s Q u s'
 |.ok _=>False
 |.error e=>CX outer H s E e s'
structure dS (P:Program) (w:World) (K:PySem.W.Frag) (mg:Str->Option Value) (base:Heap) (CX:nu) (k:Nat) (f:Addr) (fd:FuncData) (ps:List Str) (sp:Sp):Prop where
 len:∀ vs H Q E,sp vs H Q E->vs.length=ps.length
 run:∀ (A:Around) (outer:List Env) (s:Shared) (H:Hp) (args:Args) (us:List Value) (vs:List V) (Q:VK) (E:XK),cj k A->yc P w K mg base A outer s H->BindsTo s fd args (ps.zip us)->Vals vs us->sp vs H Q E ->
  codeAny (model P w) A (.call (.ref f) args) (CR CX outer P w H s Q E) s
theorem dS.mono {P:Program}{w:World}{K:PySem.W.Frag}{mg:Str->Option Value}{base:Heap}{CX:nu}{j k:Nat}{f:Addr}{fd:FuncData}{ps:List Str}{sp:Sp}(F:dS P w K mg base CX j f fd ps sp) (h:j<=k) :
 dS P w K mg base CX k f fd ps sp:=⟨F.len,λA outer s H args us vs Q E hr=>F.run A outer s H args us vs Q E (hr.mono h)⟩
section
variable {s' : Shared}
theorem Inv.Xj (I:Inv X pins σ H s):yc X.prog X.w X.K X.mg X.base X.A X.stack s H :=
 ⟨I.ok.frames,I.ok.mod,I.bs,bP I.ok.sF I.sz,I.stack,I.TF,I.aj,I.bare⟩
theorem Inv.after {Q:VK}(I:Inv X pins σ H s) (h:CE X.stack X.prog X.w H s Q u s'):EP X pins σ Q u s':=by
 obtain⟨v,H',os,bare,un,aj,r,q⟩:=h;obtain⟨hh,g,d,t,Xk⟩:=s';obtain rfl:Xk=s.os:=os;exact⟨v,H',I.call (h':=hh) (g':=g) (d':=d) (t':=t) (ch:=[]) un aj bare (λb z=>absurd z (by simp)),r,q⟩
end
def T9 (sp:Sp) (qx:List V) (E:XK) (t:TA):TE:=λσ H Q=>t σ H λvs H1=>sp (vs++qx) H1 Q E
def Binds (K:PySem.W.Frag) (fd:FuncData) (ps:List Str) (ds:List Value):Prop :=
 ∀ (s:Shared) (us:List Value),K.In s.heap->(us++ds).length=ps.length->BindsTo s fd ⟨us,[]⟩ (ps.zip (us++ds))
theorem Binds.all {ps:List Str}(h:∀ us:List Value,us.length=ps.length->bindArgs fd ⟨us,[]⟩=pure (ps.zip us)):Binds K fd ps []:=λs us _ hl=>by
 rw[qV]at hl ⊢;exact .of_eq (h us hl)
def Passes (CX:nu) (X:Cx) (E:XK):Prop:=∀ (pins:List (Addr×Obj)) (σ:St) (H:Hp) (s:Shared) (e:Value) (s':Shared),Inv X pins σ H s->CX X.stack H s E e s'->X.xe e s'
section
variable {CX : nu} {k : Nat} {f C : Addr} {ps : List Str} {sp : Sp} {qx : List V} {ds : List Value} {E : XK} {m : Str} {p : Pos} {o : Expr} {ta : TE} {t : TA}
theorem NX {Q:VK}{vs:List V}(F:dS X.prog X.w X.K X.mg X.base CX k f fd ps sp) (hr:cj k X.A) (hb:Binds X.K fd ps ds) (hd:Vals qx ds) (hx:Passes CX X E)
 (I:Inv X pins σ H s) (r:Vals vs us) (h:sp (vs++qx) H Q E):wpAny (model X.prog X.w) X.A (call (.ref f) us) (EP X pins σ Q) X.xe s:=by
 have r2:Vals (vs++qx) (us++ds):=r.append hd;have hl:(us++ds).length=ps.length:=by rw[<-r2.length];exact F.len _ _ _ _ h
 refine wpAny_call (w9 (F.run X.A X.stack s H ⟨us,[]⟩ (us++ds) (vs++qx) Q E hr I.Xj (hb s us I.dR hl) r2 h) λr s' hq=>?_);cases r with
 |error e=>exact hx pins σ H s e s' I hq
 | ok fl =>
   cases fl with
   |ret u=>exact I.after hq
   |next=>exact False.elim hq
   |brk=>exact False.elim hq
   |cont=>exact False.elim hq
theorem Ld (F:dS X.prog X.w X.K X.mg X.base CX k f fd ps sp) (hr:cj k X.A) (hg:Gl X x) (hm:X.mg x=some (.ref f)) (hk:PySem.W.keepIn X.K (.ref f)=true) (hb:Binds X.K fd ps ds) (hd:Vals qx ds) (hx:Passes CX X E)
 (ha:PA X (e::es) t) (cz:(x==("__debug__":Str))=false) (he:starEach (e::es) X.env=(false,eval e X.env)::starEach es X.env) (eN:(backTo pos (starEach es X.env)).any (·.1)=false) :
 PE X (.Call (.Name x p) (e::es) [] pos) (T9 sp qx E t):=by
 intro pins s σ H Q I h;refine ud (CV I hg hm ?_ cz);refine PySem.W.callWith_K (h₀:=X.base) I.ok.mod.Hb hk (au (ha pos pins s σ H _ I h) λus s1 ⟨vs,H1,I1,r,q⟩=>⟨I1.dR,?_⟩) he eN;exact NX F hr hb hd hx I1 r q
end
section
variable {CX : nu} {k : Nat} {f C : Addr} {ps ks : List Str} {sp : Sp} {E : XK} {m : Str} {p aaE : Pos} {o : Expr} {aaF : List Keyword} {te ta : TE} {t tk : TA} {nm : Option Str}
variable {g : List Value -> List Value -> List Value} {gV : List V -> List V -> List V}
end
structure uE (N P:List Str) (sc:Scope):Prop where
 kind:sc.kind=.function
 co:sc.isCoroutine=false
 gen:sc.isGenerator=false
 nd:N.Nodup
 pre:N.take P.length=P
 par:∀ x∈P,sc.names.lookup x=some .local \/ sc.names.lookup x=some .cell
 Xl:∀ y∈sc.names,y.2≠.free
theorem Ah {kindOf:Str->Option NameKind}{x:Str}:∀ {binds:List (Str×Value)}{m:Str->Option Value},(∀ v,(x,v)∉binds)->bindL kindOf binds m x=m x
 |[],_,_=>rfl
 | (n,v)::r,m,h=>by
   unfold bindL;rw[Ah λw hw=>h w (bC _ hw)];split
   ·have:x≠n:=by rintro rfl;exact h v bL
    simp[this]
   ·rfl
theorem Ai {kindOf:Str->Option NameKind}{x:Str}:∀ {binds:List (Str×Value)}{m:Str->Option Value},(∀ v,(x,v)∉binds)->bindC kindOf binds m x=m x
 |[],_,_=>rfl
 | (n,v)::r,m,h=>by
   unfold bindC;rw[Ai λw hw=>h w (bC _ hw)];split
   ·rfl
   ·have:x≠n:=by rintro rfl;exact h v bL
    simp[this]
theorem Aj {kindOf:Str->Option NameKind}{x:Str}{v:Value}:∀ {P:List Str}{vs:List Value}{i:Nat}{m:Str->Option Value},P.Nodup->P[i]?=some x->vs[i]?=some v->kindOf x=some .local ->
 bindL kindOf (P.zip vs) m x=some v
 |[],_,_,_,_,h,_,_=>by simp at h
 |_::_,[],_,_,_,_,h,_=>by simp at h
 | p::P,w::vs,0,m,nd,h1,h2,hk=>by
   simp at h1 h2;subst h1;subst h2;show bindL kindOf ((p,w)::P.zip vs) m p=_;unfold bindL;rw[Ah λv hv=>(qm.mp nd).1 (Ew hv).1,if_pos hk];simp
 | p::P,w::vs,i+1,m,nd,h1,h2,hk=>by
   show bindL kindOf ((p,w)::P.zip vs) m x=_;unfold bindL;exact Aj (i:=i) (qm.mp nd).2 (by simpa using h1) (by simpa using h2) hk
theorem Ak {kindOf:Str->Option NameKind}{x:Str}{v:Value}:∀ {P:List Str}{vs:List Value}{i:Nat}{m:Str->Option Value},P.Nodup->P[i]?=some x->vs[i]?=some v->kindOf x≠some .local ->
 bindC kindOf (P.zip vs) m x=some v
 |[],_,_,_,_,h,_,_=>by simp at h
 |_::_,[],_,_,_,_,h,_=>by simp at h
 | p::P,w::vs,0,m,nd,h1,h2,hk=>by
   simp at h1 h2;subst h1;subst h2;show bindC kindOf ((p,w)::P.zip vs) m p=_;unfold bindC;rw[Ai λv hv=>(qm.mp nd).1 (Ew hv).1,if_neg hk];simp
 | p::P,w::vs,i+1,m,nd,h1,h2,hk=>by
   show bindC kindOf ((p,w)::P.zip vs) m x=_;unfold bindC;exact Ak (i:=i) (qm.mp nd).2 (by simpa using h1) (by simpa using h2) hk
noncomputable def start (N:List Str) (vs:List V):St:=vs.map some++List.replicate (N.length-vs.length) none
noncomputable def rq (CX:nu) (P:Program) (w:World) (K:PySem.W.Frag) (mg:Str->Option Value) (base:Heap) (N:List Str) (qual:Str) (scope:Scope) (f:Addr) (cd:Value) (A:Around) (outer:List Env) (s:Shared) (H:Hp) (E:XK):Cx where
 prog:=P
 w:=w
 K:=K
 mg:=mg
 base:=base
 A:=A.deeper (envOfC qual scope s.heap.objs.size f cd)
 N:=N
 s₀:=s
 H₀:=H
 env:=envOfC qual scope s.heap.objs.size f cd
 outer:=outer
 stack:=envOfC qual scope s.heap.objs.size f cd::outer
 ex:=[]
 calm:=true
 fn:=λ_=>true
 pn:=[]
 xe:=λe s'=>wpAny (model P w) (A.deeper (envOfC qual scope s.heap.objs.size f cd)) (leaving (envOfC qual scope s.heap.objs.size f cd) e) (λ_ Hu=>CX outer H s E e Hu) (λe' Hu=>CX outer H s E e' Hu) s'
theorem mU {sc:Scope}(h:sc.names.lookup x=some .cell):∃ c,(cellsFrom n sc.names []).lookup x=some c:=by
 have q:=SX sc.names n [] (.inl h);exact Option.isSome_iff_exists.mp q
theorem Fb {CX:nu}{ps:List Str}{qual:Str}{scope:Scope}{f:Addr}{cd:Value}{outer:List Env}{s1:Shared}{E:XK}{vs:List V}
 (S:uE N ps scope) (hd:A.handled=none) (e0:yc P w K mg base A outer s H) (hl:vs.length=ps.length) (r:Vals vs us)
 (x:InCallC s s.heap.objs.size (bindL (envOfC qual scope s.heap.objs.size f cd).kindOf (ps.zip us) λ_=>none) (cellsFrom (s.heap.objs.size+1) scope.names []) (bindC (envOfC qual scope s.heap.objs.size f cd).kindOf (ps.zip us) λ_=>none) s1) :
 Inv (rq CX P w K mg base N qual scope f cd A outer s H E) [] (start N vs) H s1:=by
 have eN:ps.length<=N.length:=by have:=congrArg List.length S.pre;rw[xk]at this;omega
 obtain⟨h1,tk,rfl,hk⟩:=x.done;have vQ:∀ b:Addr,b∉(rq CX P w K mg base N qual scope f cd A outer s H E).ex:=λb z=>absurd (show b∈([]:List Addr) from z) (by simp);refine⟨⟨e0.mod,S.kind,rfl,rfl,ao _,λy z c h1 h2=>?_,λy hy=>?_,λy c _ h=>?_,λ_=>hd,Around.frames_deeper e0.frames,.inr ⟨rfl,rfl⟩,λb z=>absurd z (vQ b),e0.bs,e0.sF,λb _ _=>vQ b,λb z=>absurd z (vQ b),e0.nW,e0.uA⟩,
  rfl,e0.bare,Un.kept hk,⟨_,x.toInCall.ns,λi y v h1 h2 h3=>?_⟩,λy c h=>⟨_,x.cell y c h⟩,e0.aj.fresh (ao _),λy c h=>?_,λp hp=>absurd (show p∈([]:List (Addr×Obj)) from hp) (by simp),e0.aj.kept hk,?_⟩
 ·exact Qn x.apart (km h1) (km h2)
 ·have hy:scope.names.lookup y=some .cell \/ scope.names.lookup y=some .free:=hy;rcases hy with hy|hy
  ·exact mU hy
  ·exact absurd rfl (S.Xl _ (km hy))
 ·exact k8 (x.above y c (km h))
 ·have hi:i<vs.length:=by
   unfold start at h2;by_cases hi:i<vs.length
   ·exact hi
   ·rw[cE (by simpa using hi)]at h2;rw[QX]at h2;split at h2<;>cases h2
  have ha:vs[i]?=some v:=by
   unfold start at h2;rw[c6 (by simpa using hi),nR]at h2;cases e:vs[i]? with
   |none=>rw[e]at h2;cases h2
   |some a=>rw[e]at h2;cases h2;rfl
  obtain⟨u,hu,rv⟩:=r.get ha;have hp:ps[i]?=some y:=by
   rw[<-S.pre,QY (by omega)];exact h1
  have Ua:ps.Nodup:=by rw[<-S.pre];exact S.nd.sublist (List.take_sublist _ _)
  refine⟨u,rv,?_⟩;rcases S.par y (xl hp) with k|k
  ·exact .inl ⟨k,Aj Ua hp hu k⟩
  ·obtain⟨c,e⟩:=mU (n:=s.heap.objs.size+1) k;refine .inr ⟨.inl k,c,e,?_⟩;have q:=x.cell y c e;rw[Ak Ua hp hu (by show scope.names.lookup y≠_;rw[k];decide)]at q;exact q
 ·exact e0.aj.fresh (k8 (x.above y c (km h)))
 ·unfold start;show _=N.length;rw[cG,aR,Ex];omega
theorem P5 {CX:nu}{k:Nat}{f:Addr}{name qual:Str}{params:Arguments}{body:List Stmt}{scope:Scope}{dV kV doc pm aW ct oc:Value}{an od:Option Addr}
 {ps:List Str}{sp:Sp}(lk:K.lookup f=some ⟨oc,od,.func (PySem.W.fnOf name qual params body scope dV kV doc pm an aW ct),pF⟩) (kP:PySem.W.codeIn K aW qual=true) (S:uE N ps scope)
  (len:∀ vs H Q E,sp vs H Q E->vs.length=ps.length)
  (sL:∀ (A:Around) (outer:List Env) (s:Shared) (H:Hp) (vs:List V) (Q:VK) (E:XK),cj k (A.deeper (envOfC qual scope s.heap.objs.size f aW))->sp vs H Q E ->
   ∃ t,dI (rq CX P w K mg base N qual scope f aW A outer s H E) body t /\ t { nx:=λ_ H'=>Q .non H',rt:=Q } (start N vs) H) :
  dS P w K mg base CX (k+1) f (PySem.W.fnOf name qual params body scope dV kV doc pm an aW ct) ps sp:=by
  refine⟨len,λA outer s H args us vs Q E hr e0 hb r uF=>?_⟩;have hl:=len _ _ _ _ uF;have KX:K.In s.heap:=e0.mod.Hb.keeps λb o e=>(e0.bs b o e).1;have lim:s.heap.NoLimit:=e0.mod.nolimit.keeps λb o e=>(e0.bs b o e).1;have Xm:∀ y∈ps.zip us,scope.names.lookup y.1=some .local \/ (scope.names.lookup y.1=some .cell /\ ((cellsFrom (s.heap.objs.size+1) scope.names []).lookup y.1).isSome=true):=λ⟨n,v⟩ hy=>by
   rcases S.par n (Ew hy).1 with q|q
   ·exact .inl q
   ·exact .inr ⟨q,SX _ _ _ (.inl q)⟩
  refine codeAny_call_function hr.depth (KX _ _ lk) rfl S.co S.gen rfl (PySem.W.codeRec_of KX kP) (hb _ _ _ _ ?_);refine wpAny_newFunctionEnv_cells S.kind Xm λenv he s1 x=>?_;subst he;refine⟨lim.keeps x.toInCall.keep,codeAny_func ?_⟩;obtain⟨t,ht,hq⟩:=sL A outer s H vs Q E (hr.deeper _) uF;have I:Inv (rq CX P w K mg base N qual scope f aW A outer s H E) [] (start N vs) H s1:=Fb S hr.hd e0 hl r x;refine eE (ht [] s1 (start N vs) H _ I hq) (λfl s' hs=>?_) λe s' hs=>hs;have fin:∀ {σ':St}{H':Hp}{v:V}{u:Value},Inv (rq CX P w K mg base N qual scope f aW A outer s H E) [] σ' H' s'->RelV v u->Q v H'->CE outer P w H s Q u s' :=
   λ{σ' H' v u} J rv q=>⟨v,H',J.os,J.bare,J.base,J.aj,rv,q⟩
  cases fl with
  | ret u =>
    obtain⟨v,σ',H',J,rv,q⟩:=hs;exact fin J rv q
  | next =>
    obtain⟨σ',H',J,q⟩:=hs;exact fin (v:=V.non) (u:=Value.none) J rfl q
  | brk =>
    obtain⟨_,_,_,q⟩:=hs;exact False.elim q
  | cont =>
    obtain⟨_,_,_,q⟩:=hs;exact False.elim q
end L2
variable {CX : L2.nu}
namespace L2
section
variable {p : Pos} {t : TA} {id T : String} {r : List V -> Hp -> VK -> Prop}
def Hv (r:List V->Hp->VK->Prop) (t:TA):TE:=λσ H Q=>t σ H λvs H1=>r vs H1 Q
theorem ly (hc:cU X (.builtin id) r) (hg:Gl X x) (hm:X.mg x=none) (hv:bootBuiltins x=some (.builtin id)) (ha:PA X (e::es) t) (hn:x ≠ "__name__") (cz:(x==("__debug__":Str))=false)
 (he:starEach (e::es) X.env=(false,eval e X.env)::starEach es X.env) (eN:(backTo pos (starEach es X.env)).any (·.1)=false):PE X (.Call (.Name x p) (e::es) [] pos) (Hv r t):=by
 intro pins s σ H Q I h;refine ud (jq I hg hm hv ?_ hn cz);exact V2 (au (ha pos pins s σ H _ I h) λus s1 ⟨vs,H1,I1,r1,q1⟩=>hc pins s1 σ H1 vs us Q I1 r1 q1) he eN
theorem Fc (hc:cU X (.type T) r) (hg:Gl X x) (hm:X.mg x=none) (hv:bootBuiltins x=some (.type T)) (ha:PA X (e::es) t) (hn:x ≠ "__name__") (cz:(x==("__debug__":Str))=false)
 (he:starEach (e::es) X.env=(false,eval e X.env)::starEach es X.env) (eN:(backTo pos (starEach es X.env)).any (·.1)=false):PE X (.Call (.Name x p) (e::es) [] pos) (Hv r t):=by
 intro pins s σ H Q I h;refine ud (jq I hg hm hv ?_ hn cz);exact xy (au (ha pos pins s σ H _ I h) λus s1 ⟨vs,H1,I1,r1,q1⟩=>hc pins s1 σ H1 vs us Q I1 r1 q1) he eN
end
end L2
namespace HT
noncomputable def lexLt:List Int->List Int->Bool
 |[],[]=>false
 |[],_::_=>true
 |_::_,[]=>false
 |x::xs,y::ys=>if x=y then lexLt xs ys else decide (x<y)
theorem fI (x y:Int) (xs ys:List Int):lexLt (x::xs) (y::ys)=if x=y then lexLt xs ys else decide (x<y):=rfl
theorem o8:lexLt [] []=false:=rfl
theorem jr (y:Int) (ys:List Int):lexLt [] (y::ys)=true:=rfl
theorem js (x:Int) (xs:List Int):lexLt (x::xs) []=false:=rfl
theorem Gb (A:Around) (s:Shared) (a:Int) (t:Tok) (c:Int) (u:Tok):∃ e,SeqAt.EqAt A s (.int a t) (.int c u) e /\ (e=true ↔ a=c):=
 ⟨(a==c),xI a t c u,by simp⟩
theorem Gc (A:Around) (s:Shared) (a:Int) (t:Tok) (c:Int) (u:Tok) (prog:Program) (w:World) (E:Value->Shared->Prop) (Q:Value->Shared->Prop) (h:Q (.bool (decide (a<c))) s) :
 wpAny (model prog w) A (richCompare .Lt (.int a t) (.int c u)) Q E s :=
 (EL h:wpAny (model prog w) A (compareOp .Lt (.int a t) (.int c u)) Q E s)
section
open PySem.SeqAt
open PySem.AutoSeq1 (wpAny_loadPart')
open PySem.MeetsSeq PySem.MeetsSeq2 PySem.MeetsSeq3
theorem o9 (l b:Addr) (items items2:Array Value) (n n2:Nat) (dd nv:Option Addr) (sl kA:Array (Option Value)) (ns ms:List Int) (hi:IntsAre items.toList ns) (hj:IntsAre items2.toList ms) :
 Meets (Builtin.«tuple.__lt__» ⟨[.ref l,.ref b],[]⟩)
  (λ_ R s=>s.heap.get? l=some { cls:=.type "tuple",dict:=dd,data:=.seq items n,slots:=sl } /\ s.heap.get? b=some { cls:=.type "tuple",dict:=nv,data:=.seq items2 n2,slots:=kA } /\
   R (.ok (.ret (.bool (lexLt ns ms)))) s):=
 .of_wp λprog w A R s h=>by
  obtain⟨hp,g,d,tk,os⟩:=s;obtain⟨hl,hb,h⟩:=h;have f2:=Tw;have z1:items.size=ns.length:=by rw[<-hi.length];simp
  have z2:items2.size=ms.length:=by rw[<-hj.length];simp
  wp_walk using wpAny_loadPart' hl,wpAny_loadPart' hb,Qo _ (λrest b s'=>b.1=none /\ s'=⟨hp,g,d,tk,os⟩ /\ ∃ (vs ws:List Value) (cJ uG:List Int),rest=vs.zip ws /\
   IntsAre vs cJ /\ IntsAre ws uG /\ cJ.length+items2.size=uG.length+items.size /\ R (.ok (.ret (.bool (lexLt cJ uG)))) ⟨hp,g,d,tk,os⟩) _
  case turn =>
   rintro⟨y,x⟩ rest b s' ⟨qy,rfl,vs,ws,cJ,uG,hz,Hw,yd,hlen,hR⟩;cases Hw with
   |nil=>rw[vp]at hz;cases hz
   | cons a t Xn =>
     cases yd with
     |nil=>rw[xm]at hz;cases hz
     | cons c u Xo =>
       rw[ng]at hz;injection hz with Hx Hy;injection Hx with hy hx;subst hy hx;rw[fI]at hR;simp only[bb]at hlen;obtain⟨e,he,vR⟩:=Gb A.in1 ⟨hp,g,d,tk,os⟩ a t c u;refine af (he prog w _ _ ?_);cases e with
       | true =>
         rw[if_pos (vR.mp rfl)]at hR
         wp_walk
         exact⟨rfl,rfl,_,_,_,_,Hy,Xn,Xo,by omega,hR⟩
       | false =>
         rw[if_neg (λq=>absurd (vR.mpr q) cb)]at hR;have Hz:=Gc A.in1 ⟨hp,g,d,tk,os⟩ a t c u prog w
         wp_walk using Hz
         exact⟨_,rfl,by simpa using hR⟩
  case fin =>
   rintro⟨b1,b2⟩ s' ⟨qy,rfl,vs,ws,cJ,uG,hz,Hw,yd,hlen,hR⟩;simp only at qy;subst qy;have hv:lexLt cJ uG=decide (items.size<items2.size):=by
    cases Hw with
    | nil =>
      cases yd with
      | nil =>
        simp only[eJ]at hlen;rw[o8];exact(decide_eq_false (by omega)).symm
      | cons c u hw =>
        simp only[eJ,bb]at hlen;rw[jr];exact(decide_eq_true (by omega)).symm
    | cons a t hv =>
      cases yd with
      | nil =>
        simp only[eJ,bb]at hlen;rw[js];exact(decide_eq_false (by omega)).symm
      | cons c u hw =>
        rw[ng]at hz;cases hz
   rw[hv]at hR
   wp_walk
   exact⟨_,rfl,by simpa[Builtin.Tuple.tupleCompareSizes] using hR⟩
  case h =>
   exact⟨rfl,rfl,items.toList,items2.toList,ns,ms,rfl,hi,hj,by omega,h⟩
end
theorem mV {l b:Addr}{items2:Array Value}{ms:List Int}(hl:IsTup s.heap l items) (hb:IsTup s.heap b items2) (hi:IntsAre items.toList ns) (hj:IntsAre items2.toList ms)
 (hu:A.units<cLine) (h:Q (.bool (lexLt ns ms)) s):wpAny (model prog w) A (compareOp .Lt (.ref l) (.ref b)) Q E s:=by
 obtain⟨⟨cls,dd,data,sl⟩,ho,hc,n,hd⟩:=id hl;obtain⟨⟨HC,nv,data2,kA⟩,kR,cV,n2,hd2⟩:=id hb;simp only at hc hd cV hd2;subst hc hd cV hd2;exact Qp (op:=.Lt) ⟨_,ho,rfl⟩ ⟨_,kR,rfl⟩ S8 S9 (Ta _ _) (o9 l b items items2 n n2 dd nv sl kA ns ms hi hj)
  ⟨ho,kR,show Value.bool (lexLt ns ms)≠Value.notImplemented /\ Q (.bool (lexLt ns ms)) s from⟨(λx=>nomatch x),h⟩⟩ hu
theorem Le {t b:Addr}{ws:List Value}(ht:IsTup s.heap t vs.toArray) (hb:IsTup s.heap b ws.toArray) (hv:vs≠[])
 (h1:ws=[]->Q (.ref t) s) (h2:ws≠[]->Q (.ref s.heap.objs.size) { s with heap:=s.heap.push { cls:=.type "tuple",data:=.seq (vs++ws).toArray } })
 (hsz:vs.length+ws.length<=sizeLine):wpAny (model prog w) A (binaryOp .Add (.ref t) (.ref b)) Q E s:=by
 obtain⟨⟨cls,dd,data,sl⟩,ho,hc,n,hd⟩:=id ht;obtain⟨⟨HC,nv,data2,kA⟩,kR,cV,n2,hd2⟩:=id hb;simp only at hc hd cV hd2;subst hc hd cV hd2;have e:vs.toArray++ws.toArray=(vs++ws).toArray:=by simp
 by_cases hw:ws=[]
 ·exact Ed ⟨_,ho,rfl⟩ ⟨_,kR,rfl⟩ Ee Ef EZ E2 (E3 _ _)
   (tuple_addW1 t b vs.toArray ws.toArray n n2 dd nv sl kA (by simpa using hv) (by simp[hw])) ⟨ho,kR,h1 hw⟩
 ·refine Ed ⟨_,ho,rfl⟩ ⟨_,kR,rfl⟩ Ee Ef EZ E2 (E3 _ _)
   (tuple_addW2 t b vs.toArray ws.toArray n n2 dd nv sl kA (by simpa using hv) (by simpa using hw) (by rw[bc,bc];exact hsz)) ⟨ho,kR,?_⟩
  rw[e];exact h2 hw
noncomputable def aA (n d:Nat):Option Int->Nat
 |none=>d
 |some v=>if v<0 then (v+(n:Int)).toNat else min v.toNat n
theorem NY (n d:Nat) (hd:d<=n) (o:Option Int):aA n d o<=n:=by
 cases o with
 |none=>exact hd
 | some v =>
   show (if v<0 then (v+(n:Int)).toNat else min v.toNat n)<=n;by_cases hv:v<0
   ·rw[if_pos hv];omega
   ·rw[if_neg hv];exact Nat.min_le_right _ _
theorem C1 (v:Int) (n d:Nat):(if v<0 then max (v+(n:Int)) 0 else min v (n:Int))=((aA n d (some v):Nat):Int):=by
 show (if v<0 then max (v+(n:Int)) 0 else min v (n:Int))=(((if v<0 then (v+(n:Int)).toNat else min v.toNat n):Nat):Int);by_cases hv:v<0
 ·simp only[if_pos hv];omega
 ·simp only[if_neg hv];omega
theorem Cl (lo hi:Option Int) (n:Nat):Builtin.Slice.sliceAdjust lo hi 1 (n:Int)=(((aA n 0 lo:Nat):Int),((aA n n hi:Nat):Int)):=by
 have h1:¬ ((1:Int)<0):=by omega
 unfold Builtin.Slice.sliceAdjust;simp only[h1,if_false];refine Prod.ext ?_ ?_
 ·cases lo with
  |none=>rfl
  |some v=>exact C1 v n 0
 ·cases hi with
  |none=>rfl
  |some v=>exact C1 v n n
theorem Cn (i j:Nat):Builtin.Slice.slicePlaces (i:Int) (j:Int) 1=j-i:=by
 unfold Builtin.Slice.slicePlaces;have h1:(1:Int)>0:=by omega
 simp only[h1,if_true,S0];split<;>omega
theorem mW {v:Value}{o:Option Int}{Q:Option Int->Shared->Prop}(p:IsPart v o) (h:Q o s):wpAny (model prog w) A (Builtin.Slice.slicePartIndex v) Q E s:=by
 cases p with
 |none=>exact Sz h
 |int i t=>exact slicePart_int h
theorem iL {sl:Addr}{vl vu:Value}{lo hi:Option Int}{Q:Int×Int×Nat->Shared->Prop}(hs:s.heap.IsSliceOf sl vl vu .none) (pl:IsPart vl lo) (pu:IsPart vu hi)
 (h:Q (((aA n 0 lo:Nat):Int),1,aA n n hi-aA n 0 lo) s):wpAny (model prog w) A (Builtin.Slice.sliceApplied (.ref sl) (pure (n:Int))) Q E s:=by
 obtain⟨os,sM,ye,kS⟩:=id hs;unfold Builtin.Slice.sliceApplied Builtin.Slice.sliceFields;refine af (af (eF sM kS (x:=vl) rfl (af (eF sM kS (x:=vu) rfl (af (eF sM kS (x:=.none) rfl (ai ?_)))))));refine af (Sz ?_);show wpAny _ _ (if ((1:Int)==0)=true then _ else _) _ _ s;rw[if_neg (by decide)];refine af (mW pl (af (mW pu (af (ai ?_)))));show wpAny _ _ (match Builtin.Slice.sliceAdjust lo hi 1 (n:Int) with|(lo,hi)=>pure (lo,(1:Int),Builtin.Slice.slicePlaces lo hi 1)) _ _ s;rw[Cl lo hi n];show wpAny _ _ (pure (((aA n 0 lo:Nat):Int),(1:Int),Builtin.Slice.slicePlaces ((aA n 0 lo:Nat):Int) ((aA n n hi:Nat):Int) 1)) _ _ s;rw[Cn];exact ai h
theorem Ge (xs:Array Value) (i k:Nat):((List.range k).filterMap λ(m:Nat)=>xs[((i:Int)+(m:Int)*1).toNat]?).toArray=((xs.toList.drop i).take k).toArray:=by
 have e:(λ(m:Nat)=>xs[((i:Int)+(m:Int)*1).toNat]?)=λm=>xs[i+m]?:=by
  funext m;have:((i:Int)+(m:Int)*1).toNat=i+m:=by omega
  rw[this]
 rw[e];have:=pick_run xs i k;rw[vq]at this;have e2:((λx=>xs[x]?)∘λx=>i+x)=λm=>xs[i+m]?:=rfl;rw[e2]at this;rw[this]
theorem lz {t sl:Addr}{vl vu:Value}{lo hi:Option Int}(ht:IsTup s.heap t items) (hs:s.heap.IsSliceOf sl vl vu .none) (pl:IsPart vl lo) (pu:IsPart vu hi)
 (hw:¬ (aA items.size 0 lo=0 /\ aA items.size items.size hi=items.size))
 (h:Q (.ref s.heap.objs.size) { s with heap:=s.heap.push { cls:=.type "tuple",data:=.seq ((items.toList.drop (aA items.size 0 lo)).take (aA items.size items.size hi-aA items.size 0 lo)).toArray } })
 (hsz:items.size<=sizeLine):wpAny (model prog w) A (getItem (.ref t) (.ref sl)) Q E s:=by
 have yf:sizeOk (.seq ((items.toList.drop (aA items.size 0 lo)).take (aA items.size items.size hi-aA items.size 0 lo)).toArray):=by
  show ((items.toList.drop (aA items.size 0 lo)).take (aA items.size items.size hi-aA items.size 0 lo)).toArray.size<=sizeLine;rw[bc,xk,QZ,E6];omega
 have hj:aA items.size items.size hi<=items.size:=NY _ _ (ao _) hi;obtain⟨os,sM,ye,kS⟩:=id hs;have HD:s.TypeIs (.ref sl) "slice":=⟨os,sM,ye⟩;unfold getItem;try with_reducible refine kh ?_
 first|refine af (ai ?_)|skip
 refine af (Qq ht.typeIs (by decide) ?_);refine af (sr (name:=Str.ofString "__getitem__") ht.typeIs ur
  (nP ur ht.typeIs SA ?_ (SD _ _)))
 show wpAny _ _ (Builtin.Tuple.tupleItemsOf (.ref t) >>= _) _ _ s;refine af (SE ht ?_);refine af (ue HD ?_);rw[if_pos (by decide)];refine af (iL hs pl pu ?_);have Xp:¬ ((((aA items.size 0 lo:Nat):Int)==0&&(1:Int)==1&&(aA items.size items.size hi-aA items.size 0 lo)==items.size)=true):=by
  intro q;rw[aB,aB]at q;have q1:((aA items.size 0 lo:Nat):Int)=0:=eq_of_beq q.1.1;have q2:aA items.size items.size hi-aA items.size 0 lo=items.size:=eq_of_beq q.2;exact hw ⟨by omega,by omega⟩
 show wpAny _ _ (if (((aA items.size 0 lo:Nat):Int)==0&&(1:Int)==1&&(aA items.size items.size hi-aA items.size 0 lo)==items.size)=true then _ else _) _ _ s;rw[if_neg Xp,Ge];first
  |exact af (m:=Builtin.Tuple.tupleExact _) (k7 (ai ⟨_,rfl,ai h⟩) yf)
  |exact af (m:=Builtin.Tuple.tupleExact _) (k7 (af (ai (ai ⟨_,rfl,ai h⟩))) yf)
  |exact af (af (m:=Builtin.Tuple.tupleExact _) (k7 (ai (ai ⟨_,rfl,ai h⟩)) yf))
  |exact af (af (m:=Builtin.Tuple.tupleExact _) (k7 (ai ⟨_,rfl,ai h⟩) yf))
end HT
namespace L2
abbrev TO:=St->Hp->(Option Int->Hp->Prop)->Prop
def PO (X:Cx) (e:Option Expr) (t:TO):Prop :=
 ∀ (pins:List (Addr×Obj)) (s:Shared) (σ:St) (H:Hp) (Q:Option Int->Hp->Prop),Inv X pins σ H s->t σ H Q ->
  wpAny (model X.prog X.w) X.A (evalPart e X.env) (λu s'=>∃ o H',Inv X pins σ H' s' /\ IsPart u o /\ Q o H') X.xe s
noncomputable def Xq:TO:=λ_ H Q=>Q none H
noncomputable def Xr (t:TE):TO:=λσ H Q=>t σ H λx H1=>∃ i,x=.int i /\ Q (some i) H1
theorem gR:∀ {us:List Value},Vals (ns.map V.int) us->IntsAre us ns:=by
 induction ns with
 |nil=>intro us r;rw[qh]at r;cases r;exact .nil
 | cons n ns ih =>
   intro us r;rw[aG]at r;cases r with
   | cons r1 r2 =>
     obtain⟨t,e⟩:=r1;subst e;exact .cons n t (ih r2)
section
variable {te : TE} {lo hi : Option Expr} {tl th : TO} {p2 : Pos}
theorem Lf:PO X none Xq:=by
 intro pins s σ H Q I h;rw[Eg];exact ai ⟨none,H,I,.none,h⟩
theorem Lg (h:PE X e te):PO X (some e) (Xr te):=by
 intro pins s σ H Q I hw;rw[Qr];refine au (h pins s σ H _ I hw) λu s1 ⟨x,H1,I1,r1,q1⟩=>?_;obtain⟨i,rfl,q⟩:=q1;obtain⟨t,rfl⟩:=r1;exact⟨some i,H1,I1,.int i t,q⟩
def qz (X:Cx) (r:V->Option Int->Option Int->Hp->VK->Prop):Prop :=
 ∀ (pins:List (Addr×Obj)) (s:Shared) (σ:St) (H:Hp) (x:V) (v vl vu:Value) (lo hi:Option Int) (sl:Addr) (Q:VK),Inv X pins σ H s->RelV x v->s.heap.IsSliceOf sl vl vu .none->IsPart vl lo->IsPart vu hi->r x lo hi H Q ->
  ∃ T id,typeLookup (.type T) "__getitem__"=pure (some (.builtin id)) /\ s.TypeIs v T /\ wpAny (model X.prog X.w) X.A (getItem v (.ref sl)) (EP X pins σ Q) X.xe s
theorem qz.or {r r':V->Option Int->Option Int->Hp->VK->Prop}(h:qz X r) (h':qz X r'):qz X (λx lo hi H Q=>r x lo hi H Q \/ r' x lo hi H Q):=by
 intro pins s σ H x v vl vu lo hi sl Q I rx hs pl pu q;rcases q with q|q
 ·exact h pins s σ H x v vl vu lo hi sl Q I rx hs pl pu q
 ·exact h' pins s σ H x v vl vu lo hi sl Q I rx hs pl pu q
def Xt (r:V->Option Int->Option Int->Hp->VK->Prop) (te:TE) (tl th:TO):TE:=λσ H Q=>te σ H λx H1=>tl σ H1 λl H2=>th σ H2 λu H3=>r x l u H3 Q
theorem Gf {r:V->Option Int->Option Int->Hp->VK->Prop}(hr:qz X r) (he:PE X e te) (hl:PO X lo tl) (hu:PO X hi th):PE X (.Subscript e (.Slice lo hi none p2) pos) (Xt r te tl th):=by
 intro pins s σ H Q I h;refine Subscript_ (au (he pins s σ H _ I h) λv s1 ⟨x,H1,I1,r1,q1⟩=>?_);refine Qs (au (hl pins s1 σ H1 _ I1 q1) λvl s2 ⟨l,H2,I2,pl,q2⟩=>au (hu pins s2 σ H2 _ I2 q2) λvu s3 ⟨u,H3,I3,pu,q3⟩=>?_);rw[Eg];refine ai ?_;have I4:Inv X pins σ H3 { s3 with heap:=s3.heap.push { cls:=.type "slice",data:=.fields #[vl,vu,.none] } }:=I3.kept (t':=s3.toks) λb ob q=>aL _ q;obtain⟨T,id,hT,ht,hg⟩:=hr pins { s3 with heap:=s3.heap.push { cls:=.type "slice",data:=.fields #[vl,vu,.none] } } σ H3 x v vl vu l u s3.heap.objs.size Q I4 r1 (Heap.IsSliceOf.new ..) pl pu q3;show wpAny (model X.prog X.w) X.A (subscriptTail e (.Slice lo hi none p2) v (.ref s3.heap.objs.size)) (EP X pins σ Q) X.xe { s3 with heap:=s3.heap.push { cls:=.type "slice",data:=.fields #[vl,vu,.none] } };exact EM (ops:=[.ref s3.heap.objs.size,v]) ht hT hg (by with_unfolding_all rfl)
def rz (xs:List V) (lo hi:Option Int):List V:=(xs.drop (HT.aA xs.length 0 lo)).take (HT.aA xs.length xs.length hi-HT.aA xs.length 0 lo)
theorem mz (xs:List V) (lo hi:Option Int):(rz xs lo hi).length<=xs.length:=by
 unfold rz;rw[xk,QZ];omega
def Ub (K:PySem.W.Frag):V->Option Int->Option Int->Hp->VK->Prop:=λx lo hi H Q=>∃ a xs,x=.ref a /\ a6 K H a xs /\
 ¬ (HT.aA xs.length 0 lo=0 /\ HT.aA xs.length xs.length hi=xs.length) /\ ∀ p,H p=none->Q (.ref p) (upd H p (.tup (rz xs lo hi)))
theorem NZ:qz X (Ub X.K):=by
 intro pins s σ H x v vl vu lo hi sl Q I rx hs pl pu h;obtain⟨a,xs,rfl,hx,hw,q⟩:=h;cases rx;obtain⟨its,r,ht,hz⟩:=I.tuple hx;have hlen:its.toArray.size=xs.length:=by rw[bc];exact r.length.symm
 refine⟨"tuple",_,ur.lookup,ht.typeIs,?_⟩;refine HT.lz ht hs pl pu (by rw[hlen];exact hw) ?_ (by rw[hlen];exact hz);rw[hlen];refine⟨.ref s.heap.objs.size,_,I.laid (t':=s.toks) (o:=.tup (rz xs lo hi)) (λb ob q=>aL _ q) (ao _) ?_,rfl,q _ (I.aj.fresh (ao _))⟩;exact⟨bP (mz xs lo hi) hz,_,(r.drop (HT.aA xs.length 0 lo)).take (HT.aA xs.length xs.length hi-HT.aA xs.length 0 lo),IsTup.new _ _⟩
def vS (K:PySem.W.Frag):R2:=λx y H Q=>∃ a b ns ms,x=.ref a /\ y=.ref b /\ a6 K H a (ns.map V.int) /\ a6 K H b (ms.map V.int) /\ Q (.bl (HT.lexLt ns ms)) H
theorem N0 (hu:X.A.units<cLine):aH X (compareOp .Lt) (vS X.K):=by
 intro pins s σ H x y v u Q I rx ry h;obtain⟨a,b,ns,ms,rfl,rfl,ha,hb,q⟩:=h;cases rx;cases ry;obtain⟨its,r1,p1,_⟩:=I.tuple ha;obtain⟨rC,r2,p2,_⟩:=I.tuple hb;have i1:IntsAre its.toArray.toList ns:=gR r1;have i2:IntsAre rC.toArray.toList ms:=gR r2;exact HT.mV p1 p2 i1 i2 hu ⟨.bl (HT.lexLt ns ms),H,I,rfl,q⟩
def Uc (K:PySem.W.Frag):R2:=λx y H Q=>∃ a b xs ys,x=.ref a /\ y=.ref b /\ a6 K H a xs /\ a6 K H b ys /\ xs≠[] /\ xs.length+ys.length<=sizeLine /\
 (ys=[]->Q (.ref a) H) /\ (ys≠[]->∀ p,H p=none->Q (.ref p) (upd H p (.tup (xs++ys))))
theorem Vals.HE {xs:List V}(r:Vals xs us):us=[] ↔ xs=[]:=by
 cases r with
 |nil=>simp
 |cons _ _=>simp
theorem Lh:aH X (binaryOp .Add) (Uc X.K):=by
 intro pins s σ H x y v u Q I rx ry h;obtain⟨a,b,xs,ys,rfl,rfl,ha,hb,hx,hz,q1,q2⟩:=h;cases rx;cases ry;obtain⟨its,r1,p1,_⟩:=I.tuple ha;obtain⟨rC,r2,p2,_⟩:=I.tuple hb;refine HT.Le p1 p2 (λz=>hx (r1.HE.mp z)) (λz=>⟨.ref a,H,I,rfl,q1 (r2.HE.mp z)⟩) (λz=>?_) (by rw[<-r1.length,<-r2.length];exact hz);refine⟨.ref s.heap.objs.size,_,I.laid (t':=s.toks) (o:=.tup (xs++ys)) (λb ob q=>aL _ q) (ao _) ?_,rfl,q2 (λw=>z (r2.HE.mpr w)) _ (I.aj.fresh (ao _))⟩;exact⟨by rw[cG];exact hz,_,r1.append r2,IsTup.new _ _⟩
end
noncomputable def bA (n:Nat) (i:Int):Option Nat:=if 0<=i then (if i<n then some i.toNat else none) else if -(n:Int)<=i then some (i+n).toNat else none
def a5 (xs:List α) (i:Int):Option α:=(bA xs.length i).bind λj=>xs[j]?
theorem AK {i:Int}(h:bA n i=some j):seqIndex? i n=some j /\ j<n /\ -(n:Int)<=i /\ i<n:=by
 unfold bA at h;by_cases h0:0<=i
 ·rw[if_pos h0]at h;by_cases h1:i<n
  ·rw[if_pos h1]at h;have e:i.toNat=j:=Option.some.inj h;exact⟨by rw[Eh h0 h1,e],by omega,by omega,h1⟩
  ·rw[if_neg h1]at h;cases h
 ·rw[if_neg h0]at h;by_cases h1:-(n:Int)<=i
  ·rw[if_pos h1]at h;have e:(i+n).toNat=j:=Option.some.inj h;exact⟨by rw[seqIndex_neg (by omega) h1,e],by omega,h1,by omega⟩
  ·rw[if_neg h1]at h;cases h
theorem AL {xs:List α}{i:Int}{v:α}(h:a5 xs i=some v):∃ j,seqIndex? i xs.length=some j /\ xs[j]?=some v /\ j<xs.length /\ -(xs.length:Int)<=i /\ i<xs.length:=by
 unfold a5 at h;cases e:bA xs.length i with
 |none=>rw[e]at h;cases h
 | some j =>
   rw[e]at h;obtain⟨h1,h2,h3,h4⟩:=AK e;exact⟨j,h1,h,h2,h3,h4⟩
theorem Li {xs:List α}{v:α}(h:xs[j]?=some v):a5 xs (j:Int)=some v:=by
 have hj:j<xs.length:=(List.getElem?_eq_some_iff.mp h).1;have e:bA xs.length (j:Int)=some j:=by
  unfold bA;rw[if_pos (by omega),if_pos (by omega)];simp
 unfold a5;rw[e];exact h
def yh (b:Expr):Prop:=∀ o i,subscripted b false o i=operate [o,i] (getItem o i)
def pP (X:Cx) (r:R2):Prop :=
 ∀ (value slice:Expr) (pins:List (Addr×Obj)) (s:Shared) (σ:St) (H:Hp) (x y:V) (v u:Value) (Q:VK),Inv X pins σ H s->RelV x v->RelV y u->r x y H Q ->
  subscripted slice false v u=operate [v,u] (getItem v u)->wpAny (model X.prog X.w) X.A (subscriptTail value slice v u) (EP X pins σ Q) X.xe s
def Ud (X:Cx) (id:String) (r:V->List V->Hp->VK->Prop):Prop :=
 ∀ (pins:List (Addr×Obj)) (s:Shared) (σ:St) (H:Hp) (x:V) (xs:List V) (v:Value) (us:List Value) (Q:VK),Inv X pins σ H s->RelV x v->Vals xs us->r x xs H Q ->
  wpAny (model X.prog X.w) X.A (call (.builtin id) (v::us)) (EP X pins σ Q) X.xe s
section
variable {a b : Expr} {ta tb : TE} 
theorem pP.or {r r':R2}(h:pP X r) (h':pP X r'):pP X (λx y H Q=>r x y H Q \/ r' x y H Q):=by
 intro value slice pins s σ H x y v u Q I rx ry q hs;rcases q with q|q
 ·exact h value slice pins s σ H x y v u Q I rx ry q hs
 ·exact h' value slice pins s σ H x y v u Q I rx ry q hs
theorem M8 {r:R2}(hr:pP X r) (ha:PE X a ta) (hb:PE X b tb) (hs:yh b):PE X (.Subscript a b pos) (vO r ta tb):=by
 intro pins s σ H Q I h;exact Subscript_ (Hm ha hb I h λv u s2 x y H2 I2 rx ry q=>hr a b pins s2 σ H2 x y v u Q I2 rx ry q (hs _ _))
def Ue (K:PySem.W.Frag):R2:=λx y H Q=>∃ p xs i v,x=.ref p /\ y=.int i /\ bz K H p xs /\ a5 xs i=some v /\ Q v H
def Ug (K:PySem.W.Frag):R2:=λx y H Q=>∃ p xs i v,x=.ref p /\ y=.int i /\ a6 K H p xs /\ a5 xs i=some v /\ Q v H
def Uh:R2:=λx y H Q=>∃ z i c,x=.str z /\ y=.int i /\ z.length<=sizeLine /\ a5 z.cps.toList i=some c /\ Q (.str ⟨#[c]⟩) H
theorem C2:pP X (Ue X.K):=by
 intro value slice pins s σ H x y v u Q I rx ry h hs;obtain⟨p,xs,i,z,rfl,rfl,hq,he,q⟩:=h;cases rx;obtain⟨t,rfl⟩:=ry;obtain⟨its,r,pl,hz⟩:=I.list hq;obtain⟨j,h1,h2,h3,h4,h5⟩:=AL he;obtain⟨w,ew,di⟩:=r.get h2;have hl:=r.length;have hn:=vP;have fin:EP X pins σ Q w s:=⟨z,H,I,di,q⟩;by_cases h0:0<=i
 ·have hj:i.toNat=j:=by
   rw[Eh h0 h5]at h1;exact Option.some.inj h1
  exact item_listR pl.isList h0 (by omega) (by rw[hj];simpa using ew) fin hs
 ·have hj:(i+(its.toArray.size:Int)).toNat=j:=by
   rw[seqIndex_neg (by omega) h4]at h1;rw[bc,<-hl];exact Option.some.inj h1
  exact SF (x:=w) pl.isList.typeIs slot_list_getitem.lookup
   (wpAny_getItem_list_neg (Q:=λr s'=>r=w /\ EP X pins σ Q r s') pl.isList (by omega) (by rw[bc]<;>omega) (by omega) (by rw[hj];simpa using ew) ⟨rfl,fin⟩) hs
theorem N1:pP X (Ug X.K):=by
 intro value slice pins s σ H x y v u Q I rx ry h hs;obtain⟨p,xs,i,z,rfl,rfl,hq,he,q⟩:=h;cases rx;obtain⟨t,rfl⟩:=ry;obtain⟨its,r,pl,hz⟩:=I.tuple hq;obtain⟨j,h1,h2,h3,h4,h5⟩:=AL he;obtain⟨w,ew,di⟩:=r.get h2;have hl:=r.length;have hn:=vP;have fin:EP X pins σ Q w s:=⟨z,H,I,di,q⟩;exact SF (x:=w) pl.typeIs slot_tuple_getitem.lookup
  (getItem_tuple (j:=j) (Q:=λr s'=>r=w /\ EP X pins σ Q r s') pl (by omega) (by omega) (by rw[bc,<-hl];exact h1) (by simpa using ew) ⟨rfl,fin⟩) hs
theorem N2:pP X Uh:=by
 intro value slice pins s σ H x y v u Q I rx ry h hs;obtain⟨z,i,c,rfl,rfl,hz,he,q⟩:=h;obtain⟨t,rfl⟩:=rx;obtain⟨t',rfl⟩:=ry;obtain⟨j,h1,h2,h3,h4,h5⟩:=AL he;have hl:z.cps.toList.length=z.length:=by simp[Str.length]
 rw[hl]at h1 h4 h5;have hn:=vP;exact EM (typeIs_str s z t) slot_str_getitem.lookup (getItem_str (c:=c) (by
  have e1:decide (i < -(2 ^ 63:Int))=false:=decide_eq_false (by omega);have e2:decide (i>=2 ^ 63)=false:=decide_eq_false (by omega);rw[e1,e2,Bool.or_false]) (by rw[h1];simpa using h2) ⟨.str ⟨#[c]⟩,H,I.tok _,⟨_,rfl⟩,q⟩) hs
def Ui (K:PySem.W.Frag):R2:=λx y H Q=>Ue K x y H Q \/ Ug K x y H Q \/ Uh x y H Q
theorem N3:pP X (Ui X.K):=C2.or (N1.or N2)
theorem Co (its:List Value) (n j:Nat) (u:Value):Obj.mapSeq (·.setIfInBounds j u) { cls:=.type "list",data:=.seq its.toArray n }={ cls:=.type "list",data:=.seq (its.set j u).toArray n }:=by
 simp[Obj.mapSeq]
theorem Inv.lst {pins:List (Addr×Obj)}{σ:St}{H:Hp}{s:Shared}{p:Addr}{xs:List V}(I:Inv X pins σ H s) (h:H p=some (.lst xs)) :
 ∃ (its:List Value) (n:Nat),Vals xs its /\ s.heap.get? p=some { cls:=.type "list",data:=.seq its.toArray n } /\ xs.length<=sizeLine:=by
 obtain⟨z,its,n,r,e⟩:=I.aj p _ h;exact⟨its,n,r,e,z⟩
theorem Inv.Xu {xs ys:List V}{its its':List Value}{n':Nat}{f:Obj->Obj}(I:Inv X pins σ H s) (h:H p=some (.lst xs))
 (ho:s.heap.get? p=some { cls:=.type "list",data:=.seq its.toArray n }) (hf:f { cls:=.type "list",data:=.seq its.toArray n }={ cls:=.type "list",data:=.seq its'.toArray n' }) (r:Vals ys its') (hz:ys.length<=sizeLine) (t:Nat) :
 Inv X pins σ (upd H p (.lst ys)) { s with heap:=s.heap.update p f,toks:=t }:=by
 have e:(s.heap.update p f).get? p=some { cls:=.type "list",data:=.seq its'.toArray n' }:=by
  rw[EI f ho (by rw[hf]<;>rfl),hf]
 refine I.write (x:=p) (e:=p) (by rw[h];trivial) (.inl rfl) (λb u hb q=>(Su _ _ (Ne.symm hb)).trans q) ⟨_,e⟩ ?_;exact⟨hz,its',n',r,e⟩
def Xv:V->V->V->Hp->(Hp->Prop)->Prop:=λo i v H Q=>∃ p xs k j,o=.ref p /\ i=.int k /\ H p=some (.lst xs) /\ bA xs.length k=some j /\ Q (upd H p (.lst (xs.set j v)))
theorem Gg:TX X Xv:=by
 intro pins s σ H o i v ov iv u Q I ro ri rv h;obtain⟨p,xs,k,j,rfl,rfl,hp,hj,q⟩:=h;cases ro;obtain⟨t,rfl⟩:=ri;obtain⟨its,n,r,ho,hz⟩:=I.lst hp;obtain⟨h1,h2,h3,h4⟩:=AK hj;have hl:=r.length;have hn:=vP;have I':Inv X pins σ (upd H p (.lst (xs.set j v))) { s with heap:=s.heap.update p (Obj.mapSeq (·.setIfInBounds j u)) } :=
  I.Xu hp ho (Co its n j u) (r.set rv j) (by rw[nh];exact hz) s.toks
 by_cases h0:0<=k
 ·have hk:k.toNat=j:=by
   rw[Eh h0 h4]at h1;exact Option.some.inj h1
  exact PySem.W.ki_setAt ho h0 (by omega) (by rw[bc,<-hl];exact h4) (by rw[hk];exact⟨_,I',q⟩)
 ·have hk:(k+(its.toArray.size:Int)).toNat=j:=by
   rw[seqIndex_neg (by omega) h3]at h1;rw[bc,<-hl];exact Option.some.inj h1
  exact PySem.W.ki_setBack ho (by omega) (by rw[bc,<-hl];exact h3) (by omega) (by rw[hk];exact⟨_,I',q⟩)
theorem AM (lo hi:Option Int) (n:Nat):(sliceBounds lo hi none n).1=((HT.aA n 0 lo:Nat):Int) /\ (sliceBounds lo hi none n).2.1=((HT.aA n n hi:Nat):Int) /\ (sliceBounds lo hi none n).2.2=1:=by
 refine⟨?_,?_,rfl⟩
 ·cases lo with
  |none=>simp[sliceBounds,HT.aA]
  | some i =>
    simp only[sliceBounds,HT.aA,EJ,show (1:Int)>0 by decide,if_true];by_cases h:i<0
    ·simp only[h,if_true]<;>omega
    ·simp only[h,if_false]<;>omega
 ·cases hi with
  |none=>simp[sliceBounds,HT.aA]
  | some i =>
    simp only[sliceBounds,HT.aA,EJ,show (1:Int)>0 by decide,if_true];by_cases h:i<0
    ·simp only[h,if_true]<;>omega
    ·simp only[h,if_false]<;>omega
theorem Aa (its:List Value) (lo hi:Option Int):slicePick its.toArray lo hi none=((its.drop (HT.aA its.length 0 lo)).take (HT.aA its.length its.length hi-HT.aA its.length 0 lo)).toArray:=by
 obtain⟨h1,h2,h3⟩:=AM lo hi its.toArray.size;unfold slicePick;rw[h1,h2,h3];simp only[sliceRange_one,pick_run,bc]<;>rfl
def Uj (K:PySem.W.Frag):V->Option Int->Option Int->Hp->VK->Prop:=λx lo hi H Q=>∃ a xs,x=.ref a /\ bz K H a xs /\ ∀ p,H p=none->Q (.ref p) (upd H p (.lst (rz xs lo hi)))
theorem Lj:qz X (Uj X.K):=by
 intro pins s σ H x v vl vu lo hi sl Q I rx hs pl pu h;obtain⟨a,xs,rfl,hx,q⟩:=h;cases rx;obtain⟨its,r,ht,hz⟩:=I.list hx;have hlen:=r.length;refine⟨"list",_,slot_list_getitem.lookup,ht.isList.typeIs,?_⟩;refine Qt ht.isList hs pl pu .none (by simp) ?_ (by rw[bc]<;>omega);rw[Aa,<-hlen];refine⟨.ref s.heap.objs.size,_,I.laid (t':=s.toks) (o:=.lst (rz xs lo hi)) (λb ob q=>aL _ q) (ao _) ?_,rfl,q _ (I.aj.fresh (ao _))⟩;exact⟨bP (mz xs lo hi) hz,_,0,(r.drop (HT.aA xs.length 0 lo)).take (HT.aA xs.length xs.length hi-HT.aA xs.length 0 lo),bR _ rfl⟩
noncomputable def pQ:V->Bool
 |.non=>true
 |.bl _=>true
 |.int _=>true
 |.str _=>true
 |_=>false
noncomputable def qA:V->V->Bool
 |.non,.non=>true
 |.bl a,.bl b=>a==b
 |.bl a,.int b=>(if a then 1 else 0)==b
 |.int a,.bl b=>a==(if b then 1 else 0)
 |.int a,.int b=>a==b
 |.str a,.str b=>a==b
 |_,_=>false
theorem N4 {y x:V}{v:Value}(ry:RelV y u) (rx:RelV x v) (fy:pQ y=true) (fx:pQ x=true):SeqAt.EqAt A s u v (qA y x):=by
 cases y with
 | non =>
   cases ry;cases x with
   |non=>cases rx;exact SeqAt.EqAt.same _
   |bl b=>cases rx;exact V3 b
   |int b=>obtain⟨t,rfl⟩:=rx;exact V4 b t
   |str b=>obtain⟨t,rfl⟩:=rx;exact V5 b t
   |_=>exact absurd (show false=true from fx) cb
 | bl a =>
   cases ry;cases x with
   |non=>cases rx;exact V6 a
   |bl b=>cases rx;exact V7 a b
   |int b=>obtain⟨t,rfl⟩:=rx;exact V8 a b t
   |str b=>obtain⟨t,rfl⟩:=rx;exact V9 a b t
   |_=>exact absurd (show false=true from fx) cb
 | int a =>
   obtain⟨t',rfl⟩:=ry;cases x with
   |non=>cases rx;exact Wa a t'
   |bl b=>cases rx;exact Wb a t' b
   |int b=>obtain⟨t,rfl⟩:=rx;exact xI a t' b t
   |str b=>obtain⟨t,rfl⟩:=rx;exact S6 a t' b t
   |_=>exact absurd (show false=true from fx) cb
 | str a =>
   obtain⟨t',rfl⟩:=ry;cases x with
   |non=>cases rx;exact Wc a t'
   |bl b=>cases rx;exact Wd a t' b
   |int b=>obtain⟨t,rfl⟩:=rx;exact S7 a t' b t
   |str b=>obtain⟨t,rfl⟩:=rx;exact EY a t' b t
   |_=>exact absurd (show false=true from fx) cb
 |_=>exact absurd (show false=true from fy) cb
def eV (x:V) (u:Value):Bool:=match u with
 |.none=>qA .non x
 |.bool b=>qA (.bl b) x
 |.int i _=>qA (.int i) x
 |.str z _=>qA (.str z) x
 |_=>false
theorem Gh {x y:V}(r:RelV y u) (f:pQ y=true):eV x u=qA y x:=by
 cases y with
 |non=>cases r;rfl
 |bl b=>cases r;rfl
 |int i=>obtain⟨t,rfl⟩:=r;rfl
 |str z=>obtain⟨t,rfl⟩:=r;rfl
 |_=>exact absurd (show false=true from f) cb
theorem lA {x:V}:∀ {xs:List V}{us:List Value},Vals xs us->xs.all pQ=true->us.any (eV x)=xs.any λy=>qA y x
 |_,_,.nil,_=>rfl
 | y::xs,u::us,.cons r t,f=>by
   rw[qW,aB]at f;rw[qX,qX,Gh r f.1,lA t f.2]
theorem jt {A:Around}{s:Shared}{x:V}{v:Value}(rx:RelV x v) (fx:pQ x=true):∀ {xs:List V}{us:List Value},Vals xs us->xs.all pQ=true->∀ u∈us,SeqAt.EqAt A s u v (eV x u)
 |_,_,.nil,_=>λu hu=>by cases hu
 | y::xs,u::us,.cons r t,f=>λu' hu=>by
   rw[qW,aB]at f;rcases bG.mp hu with rfl|hu
   ·rw[Gh r f.1];exact N4 r rx f.1 fx
   ·exact jt rx fx t f.2 u' hu
def yi (x:V) (xs:List V):Bool:=xs.any λy=>qA y x
def yj (K:PySem.W.Frag) (neg:Bool):R2:=λx y H Q=>∃ p xs,y=.ref p /\ (bz K H p xs \/ a6 K H p xs) /\ pQ x=true /\ xs.all pQ=true /\ Q (.bl (if neg then !yi x xs else yi x xs)) H
theorem Fd:aH X (compareOp .In) (yj X.K false):=by
 intro pins s σ H x y v u Q I rx ry h;obtain⟨p,xs,rfl,hq,fx,fs,q⟩:=h;cases ry;rcases hq with hq|hq
 ·obtain⟨its,r,pl,hz⟩:=I.list hq;refine SeqAt.in_listAt (eV x) pl.isList (λw hw=>jt rx fx r fs w (by simpa using hw)) ⟨.bl _,H,I,rfl,?_⟩;rw[show its.toArray.any (eV x)=its.any (eV x) by simp,lA r fs];exact q
 ·obtain⟨its,r,pl,hz⟩:=I.tuple hq;refine SeqAt.in_tupleAt (eV x) pl (λw hw=>jt rx fx r fs w (by simpa using hw)) ⟨.bl _,H,I,rfl,?_⟩;rw[show its.toArray.any (eV x)=its.any (eV x) by simp,lA r fs];exact q
theorem AN:aH X (compareOp .NotIn) (yj X.K true):=by
 intro pins s σ H x y v u Q I rx ry h;obtain⟨p,xs,rfl,hq,fx,fs,q⟩:=h;cases ry;rcases hq with hq|hq
 ·obtain⟨its,r,pl,hz⟩:=I.list hq;refine SeqAt.notIn_listAt (eV x) pl.isList (λw hw=>jt rx fx r fs w (by simpa using hw)) ⟨.bl _,H,I,rfl,?_⟩;rw[show its.toArray.any (eV x)=its.any (eV x) by simp,lA r fs];exact q
 ·obtain⟨its,r,pl,hz⟩:=I.tuple hq;refine SeqAt.notIn_tupleAt (eV x) pl (λw hw=>jt rx fx r fs w (by simpa using hw)) ⟨.bl _,H,I,rfl,?_⟩;rw[show its.toArray.any (eV x)=its.any (eV x) by simp,lA r fs];exact q
theorem lB:cU X (.builtin "len") (λxs H Q=>∃ p ys,xs=[.ref p] /\ (bz X.K H p ys \/ a6 X.K H p ys) /\ Q (.int ys.length) H):=by
 intro pins s σ H xs us Q I r h;obtain⟨p,ys,rfl,hq,q⟩:=h;obtain⟨u,rfl,rx⟩:=vals1 r;cases rx;have hn:=vP;rcases hq with hq|hq
 ·obtain⟨its,r',pl,hz⟩:=I.list hq;have hlen:=r'.length;exact Calls.call_len_list pl.isList (by simp only[bc]<;>omega) ⟨.int ys.length,H,I.tok _,⟨s.toks+1,by rw[bc,hlen]⟩,q⟩
 ·obtain⟨its,r',pl,hz⟩:=I.tuple hq;have hlen:=r'.length;exact len_tuple pl (by simp only[bc]<;>omega) ⟨.int ys.length,H,I.tok _,⟨s.toks+1,by rw[bc,hlen]⟩,q⟩
theorem AO:cU X (.type "list") (λxs H Q=>∃ p ys,xs=[.ref p] /\ (bz X.K H p ys \/ a6 X.K H p ys) /\ ∀ l,H l=none->Q (.ref l) (upd H l (.lst ys))):=by
 intro pins s σ H xs us Q I r h;obtain⟨p,ys,rfl,hq,q⟩:=h;obtain⟨u,rfl,rx⟩:=vals1 r;cases rx
 have fin:∀ (its:List Value),Vals ys its->ys.length<=sizeLine->∀ (h':Heap) (c':Nat),(∀ b o',s.heap.get? b=some o'->h'.get? b=some o') ->
  h'.get? s.heap.objs.size=some { cls:=.type "list",dict:=none,data:=.seq its.toArray c',slots:=#[] }->EP X pins σ Q (.ref s.heap.objs.size) { s with heap:=h' }:=λits r' hz h' c' kp e =>
  ⟨.ref s.heap.objs.size,_,I.laid (t':=s.toks) kp (ao _) (show aV X.prog X.w _ h' _ (.lst ys) from⟨hz,its,c',r',e⟩),rfl,q _ (I.aj.fresh (ao _))⟩
 rcases hq with hq|hq
 ·obtain⟨its,r',pl,hz⟩:=I.list hq;have hlen:=r'.length;obtain⟨o,ho,hc,n,hd⟩:=pl.isList;exact Qu p (.inl rfl) ho hc hd (λh' c' kp e=>fin its r' hz h' c' kp e) (by simp only[bc]<;>omega)
 ·obtain⟨its,r',pl,hz⟩:=I.tuple hq;have hlen:=r'.length;obtain⟨o,ho,hc,n,hd⟩:=pl;exact Qu p (.inr rfl) ho hc hd (λh' c' kp e=>fin its r' hz h' c' kp e) (by simp only[bc]<;>omega)
theorem Ab:cU X (.type "tuple") (λxs H Q=>∃ p ys,xs=[.ref p] /\ ((bz X.K H p ys /\ ∀ l,H l=none->Q (.ref l) (upd H l (.tup ys))) \/ (a6 X.K H p ys /\ Q (.ref p) H))):=by
 intro pins s σ H xs us Q I r h;obtain⟨p,ys,rfl,h⟩:=h;obtain⟨u,rfl,rx⟩:=vals1 r;cases rx;rcases h with⟨hq,q⟩|⟨hq,q⟩
 ·obtain⟨its,r',pl,hz⟩:=I.list hq;have hlen:=r'.length;refine call_tuple_list pl.isList (λh' kp=>?_) (by simp only[bc]<;>omega);have I1:Inv X pins σ H { s with heap:=h' }:=I.kept (t':=s.toks) kp;have I2:Inv X pins σ (upd H h'.objs.size (.tup ys)) { s with heap:=h'.push { cls:=.type "tuple",data:=.seq its.toArray } } :=
   I1.laid (t':=s.toks) (λb o e=>aL _ e) (ao _) (show aV X.prog X.w _ _ _ (.tup ys) from⟨hz,its,r',IsTup.new _ _⟩)
  exact⟨.ref h'.objs.size,_,I2,rfl,q _ (I1.aj.fresh (ao _))⟩
 ·obtain⟨its,r',pl,hz⟩:=I.tuple hq;exact call_tuple_same pl ⟨.ref p,H,I,rfl,q⟩
def Uk (K:PySem.W.Frag) (T:String) (x:V) (H:Hp):Prop:=match x with
 |.str _=>T="str"
 |.int _=>T="int"
 |.ref p=>(T="list" /\ ∃ xs,bz K H p xs) \/ (T="tuple" /\ ∃ o,K.lookup p=some o /\ o.cls=.type "tuple" /\ o.dict=none) \/
  (T="dict" /\ ((∃ ae,H p=some (.dK ae)) \/ ∃ ae,H p=some (.dT ae))) \/ (T="set" /\ ∃ S n,H p=some (.set S n))
 |_=>False
theorem N5 {T:String}{x:V}{v:Value}(I:Inv X pins σ H s) (r:RelV x v) (ty:Uk X.K T x H) :
 s.TypeIs v T /\ ∀ a,v=.ref a->∃ ob,s.heap.get? a=some ob /\ ob.dict=none:=by
 cases x with
 | str z =>
   obtain⟨t,rfl⟩:=r;cases (show T="str" from ty);exact⟨typeIs_str s z t,λ_ e=>nomatch e⟩
 | int i =>
   obtain⟨t,rfl⟩:=r;cases (show T="int" from ty);exact⟨typeIs_int s i t,λ_ e=>nomatch e⟩
 | ref p =>
   cases r;rcases ty with⟨rfl,xs,hq⟩|⟨rfl,o,hk,hc,hd⟩|⟨rfl,hk⟩|⟨rfl,S,n,hk⟩
   ·obtain⟨its,_,pl,_⟩:=I.list hq;refine⟨pl.isList.typeIs,λa e=>?_⟩;cases e;obtain⟨o,n,e,c,hd,_⟩:=pl;exact⟨o,e,hd⟩
   ·refine⟨⟨o,I.dR p o hk,hc⟩,λa e=>?_⟩;cases e;exact⟨o,I.dR _ o hk,hd⟩
   ·have z:∃ o,s.heap.get? p=some o /\ o.ExactDict:=by
     rcases hk with⟨ae,hk⟩|⟨ae,hk⟩
     ·obtain⟨_,_,_,_,o,_,_,e,ex,_⟩:=I.aj p _ hk;exact⟨o,e,ex⟩
     ·obtain⟨_,_,_,_,o,_,_,e,ex,_⟩:=I.aj p _ hk;exact⟨o,e,ex⟩
    obtain⟨o,e,ex⟩:=z;refine⟨⟨o,e,ex.1⟩,λa e2=>?_⟩;cases e2;exact⟨o,e,ex.2.1⟩
   ·obtain⟨o,_,_,_,e,ex,_⟩:=I.aj p _ hk;refine⟨⟨o,e,ex.1⟩,λa e2=>?_⟩;cases e2;exact⟨o,e,ex.2.1⟩
 |_=>exact False.elim ty
def HF (K:PySem.W.Frag) (T:String) (r:V->List V->Hp->VK->Prop) (to:TE) (t:TA):TE:=λσ H Q=>to σ H λx H1=>Uk K T x H1 /\ t σ H1 λxs H2=>r x xs H2 Q
variable {o : Expr} {to : TE} {t : TA} {name : Str} {cK : Pos} {T id : String} {r : V -> List V -> Hp -> VK -> Prop}
theorem M9 (pa:PlainAttrs T) (slot:Slot T name id) (Xw:typeOf (.builtin id)=pure (.type "method_descriptor")) (hm:Ud X id r) (ho:PE X o to) (ha:PA X (e::es) t)
 (vT:attributeBase o name X.env (eval o X.env)=eval o X.env)
 (vU:((backTo cK (starEach (e::es) X.env)).all (λx=>!x.1)&&(backToKw cK (keywordEach [] X.env)).all (λx=>x.1.isSome)
  && decide ((e::es).length+([]:List Keyword).length+(if ([]:List Keyword).isEmpty then 0 else 1)<30))=true)
 (vV:(apos.endLine==cK.line)=true) (hs:starEach (e::es) X.env=(false,eval e X.env)::starEach es X.env) (Xx:(backTo cK (starEach es X.env)).any (·.1)=false) :
 PE X (.Call (.Attribute o name apos) (e::es) [] cK) (HF X.K T r to t):=by
 intro pins s σ H Q I h;refine wpAny_Call_method_late vT vU vV rfl (au (ho pins s σ H _ I h) λv s1 ⟨x,H1,I1,r1,ty,q1⟩=>?_);obtain⟨h1,h2⟩:=N5 I1 r1 ty;refine⟨T,id,pa,slot,Xw,h1,h2,?_⟩;have hA:=ha cK pins s1 σ H1 _ I1 q1;rw[hs]at hA ⊢;refine EW (by show (false||(backTo cK (starEach es X.env)).any (·.1))=false;rw[Xx]<;>rfl) (EX ?_);exact au hA λus s2 ⟨vs,H2,I2,r2,q2⟩=>hm pins s2 σ H2 x vs v us Q I2 r1 r2 q2
/- xs.append(e),list.index on a module's tuple .. are Ud facts of 06m -/
end
def Ul (X:Cx) (id:String) (r:V->List V->Hp->VK->Prop):Prop :=
 ∀ (pins:List (Addr×Obj)) (s:Shared) (σ:St) (H:Hp) (x:V) (xs:List V) (v:Value) (us:List Value) (Q:VK),Inv X pins σ H s->RelV x v->Vals xs us->r x xs H Q ->
  wpAny (model X.prog X.w) X.A (call (.builtin id) (v::us)) (EP X pins σ Q) X.xe s
theorem Vals.one:∀ {x:V}{us:List Value},Vals [x] us->∃ u,us=[u] /\ RelV x u
 |_,_,.cons r .nil=>⟨_,rfl,r⟩
theorem Vals.two:∀ {x y:V}{us:List Value},Vals [x,y] us->∃ u v,us=[u,v] /\ RelV x u /\ RelV y v
 |_,_,_,.cons r (.cons q .nil)=>⟨_,_,rfl,r,q⟩
theorem Vals.eraseIdx:∀ {xs:List V}{us:List Value}(i:Nat),Vals xs us->Vals (xs.eraseIdx i) (us.eraseIdx i)
 |_,_,_,.nil=>.nil
 |_,_,0,.cons _ t=>t
 |_,_,i+1,.cons r t=>.cons r (Vals.eraseIdx i t)
theorem Vals.reverse {xs:List V}{us:List Value}(h:Vals xs us):Vals xs.reverse us.reverse:=by
 induction h with
 |nil=>exact .nil
 |cons r t ih=>rw[xn,xn];exact Vals.append ih (.cons r .nil)
theorem Vals.rep {xs:List V}{us:List Value}(h:Vals xs us):∀ k:Nat,Vals (List.replicate k xs).flatten (List.replicate k us).flatten
 |0=>.nil
 | k+1=>by
   rw[xo,xo,xp,xp];exact Vals.append h (Vals.rep h k)
theorem Am {α:Type}:∀ (l:List α) (i:Nat),(l.eraseIdx i).length<=l.length
 |[],_=>ao _
 |_::_,0=>pH _
 |_::r,i+1=>Nat.succ_le_succ (Am r i)
section
variable {l b : Addr} {xs ys zs : List V}
theorem Inv.Um {its its':List Value}{f:Array Value->Array Value}(I:Inv X pins σ H s) (hH:H l=some (.lst xs))
 (e:s.heap.get? l=some { cls:=.type "list",data:=.seq its.toArray n }) (hf:f its.toArray=its'.toArray) (hv:Vals ys its') (hz:ys.length<=sizeLine) :
 Inv X pins σ (upd H l (.lst ys)) { s with heap:=s.heap.update l (Obj.mapSeq f),toks:=t' }:=by
 have q:=PySem.IsL.update e f;rw[hf]at q;refine I.write (x:=l) (e:=l) (by rw[hH];exact trivial) (.inl rfl) (λb' u hb hu=>(Su s.heap (Obj.mapSeq f) (Ne.symm hb)).trans hu) ⟨_,q⟩ ?_;exact⟨hz,its',_,hv,q⟩
theorem Inv.Xy {its:List Value}(I:Inv X pins σ H s) (hv:Vals ys its) (hz:ys.length<=sizeLine) :
 Inv X pins σ (upd H s.heap.objs.size (.lst ys)) { s with heap:=s.heap.push { cls:=.type "list",data:=.seq its.toArray },toks:=t' } :=
 I.laid (λ_ _ q=>aL _ q) (ao _) ⟨hz,its,0,hv,bR _ rfl⟩
theorem Inv.fresh (I:Inv X pins σ H s):H s.heap.objs.size=none:=I.aj.fresh (ao _)
theorem Inv.yk (I:Inv X pins σ H s) (hH:H l=some (.lst xs)):xs.length<=sizeLine /\ ∃ (its:List Value) (n:Nat),Vals xs its /\ xs.length=its.length /\ s.heap.get? l=some { cls:=.type "list",data:=.seq its.toArray n }:=by
 obtain⟨z,its,n,r,e⟩:=I.aj l _ hH;exact⟨z,its,n,r,r.length,e⟩
end
def Uo:V->List V->Hp->VK->Prop:=λx vs H Q=>∃ l xs y,x=.ref l /\ vs=[y] /\ H l=some (.lst xs) /\ xs.length<sizeLine /\ Q .non (upd H l (.lst (xs++[y])))
theorem lX:Ul X "list.append" Uo:=by
 intro pins s σ H x vs v us Q I rx rv h;obtain⟨l,xs,y,rfl,rfl,hH,hz,q⟩:=h;cases rx;obtain⟨u,rfl,ru⟩:=rv.one;obtain⟨z,its,n,r,hl,e⟩:=I.yk hH;refine call_meets F.slot_list_append ⟨_,e,rfl⟩ F.entry_list_append (F.args_list_append_2 _ _) (PySem.list_append l its.toArray n u (by rw[bc];omega)) ⟨e,?_⟩;refine⟨.non,_,I.Um (its':=its++[u]) hH e (by simp) (r.append (.cons ru .nil)) ?_,rfl,q⟩;rw[cG,List.length_singleton];omega
def Uq:V->List V->Hp->VK->Prop:=λx vs H Q=>∃ l xs i k y,x=.ref l /\ vs=[.int i] /\ H l=some (.lst xs) /\ -(2 ^ 63)<=i /\ i<2 ^ 63 /\ seqIndex? i xs.length=some k /\ xs[k]?=some y /\ Q y (upd H l (.lst (xs.eraseIdx k)))
theorem Gi:Ul X "list.pop" Uq:=by
 intro pins s σ H x vs v us Q I rx rv h;obtain⟨l,xs,i,k,y,rfl,rfl,hH,h1,h2,hk,hy,q⟩:=h;cases rx;obtain⟨u,rfl,ru⟩:=rv.one;obtain⟨t,rfl⟩:=ru;obtain⟨z,its,n,r,hl,e⟩:=I.yk hH;obtain⟨w,hw,di⟩:=r.get hy;refine call_meets F.slot_list_pop ⟨_,e,rfl⟩ F.entry_list_pop (F.args_list_pop_2 _ _)
  (WB l its.toArray n i t k w (fitsIndex_both h1 h2) (by rw[bc,<-hl];exact hk) (by rw[<-E7];exact hw) (by rw[bc];omega)) ⟨e,?_⟩
 refine⟨y,_,I.Um (its':=its.eraseIdx k) hH e ?_ (r.eraseIdx k) ?_,di,q⟩
 ·show its.toArray.eraseIdxIfInBounds k=(its.eraseIdx k).toArray;rw[List.eraseIdxIfInBounds_toArray]
 ·have:=Am xs k;omega
def Ur:R2:=λx y H Q=>∃ l b xs zs,x=.ref l /\ y=.ref b /\ H l=some (.lst xs) /\ H b=some (.lst zs) /\ xs.length+zs.length<=sizeLine /\ ∀ p,H p=none->Q (.ref p) (upd H p (.lst (xs++zs)))
theorem N6:aH X (binaryOp .Add) Ur:=by
 intro pins s σ H x y v u Q I rx ry h;obtain⟨l,b,xs,zs,rfl,rfl,hH,hB,hz,q⟩:=h;cases rx;cases ry;obtain⟨z,its,n,r,hl,e⟩:=I.yk hH;obtain⟨z2,rC,n2,r2,sN,e2⟩:=I.yk hB;refine PySem.P.add_list e e2 ?_ (by rw[bc,bc];omega);have ea:its.toArray++rC.toArray=(its++rC).toArray:=by simp
 rw[ea];exact⟨.ref _,_,I.Xy (t':=s.toks) (r.append r2) (by rw[cG];omega),rfl,q _ I.fresh⟩
end L2
namespace Us
open PySem.W PySem.Calls
theorem mK {P:Params}:∀ (ns:List Int) (vs:List Value),WellAll P h vs (ns.map WData.int)->IntsAre vs ns:=by
 intro ns;induction ns with
 | nil =>
   intro vs w;rw[qh]at w;cases w;exact .nil
 | cons n ns ih =>
   intro vs w;rw[aG]at w;cases w with
   | cons a b =>
     cases a;exact .cons _ _ (ih _ b)
theorem Fe {l:OpenLaw}(hn:l.most=some n) {P:Params}{args:List WData}{vals:List Value}
 (ym:l.row.toRowW.claim.pre args=true) (HG:WellAll P h vals args) :
 ∃ a vs ns,vals=[Value.ref a] /\ args=[WData.list (ns.map WData.int)] /\ h.get? a=some { cls:=.type "list",data:=.seq vs.toArray } /\ IntsAre vs ns /\ ns.length<=n:=by
 have Xz:WShape.hasAll [] args [.list .int]=true:=(pre_splitW ym).1;have hc:l.pre.holds [] { args:=args }=true:=(pre_splitW ym).2;obtain⟨d,r,rfl,h1,h2⟩:=hasAllW_cons Xz;obtain rfl:=hasAllW_nil h2;obtain⟨xs,rfl,h3⟩:=hasW_list h1;obtain⟨ns,rfl⟩:=items_int h3;have hlen:ns.length<=n:=by
  unfold OpenLaw.pre at hc;have h4:(WTm.not (.lt (.lit (.int (n:Int))) (.len (.arg 0)))).holds [] { args:=[.list (ns.map .int)] }=true:=by
   have h4:=(holds_andW hc).1;rw[hn]at h4;exact h4
  have h5:=condW_of h4 (w_not (w_lt w_lit (w_len_list (w_arg rfl))));rw[aR]at h5;refine su λq=>?_;have q':(n:Int)<((ns.length:Nat):Int):=by omega
  first
   |(rw[decide_eq_true q']at h5;exact absurd h5 (by decide))
   |(simp at h5;omega)
 cases HG with
 | cons w1 w2 =>
   cases w2;cases w1 with
   |list ho vW=>exact⟨_,_,ns,rfl,rfl,ho,mK ns _ vW,hlen⟩
theorem Ff (l:OpenLaw) (args:List WData):l.row.toRowW.claim.post args (.bool true) args=true :=
 postW_of (r:=l.row.toRowW) (X:=(true==true))
  (show WShape.has [] (.bool true) .bool=true by first|rfl|decide|simp[WShape.has,WShape.arms,WShape.armsAll])
  (show (WTm.eq .res (.lit (.bool true))).value [] { args:=args,res:=some (.bool true),after:=args }=some (.bool (true==true)) from w_eq_bool (w_res rfl) w_lit) rfl
theorem XA {l:OpenLaw}{q:Program}{loose:List Str}{XP:(Str->Option Value)->Heap->Prop}{YP:World->Heap->Prop}{d:DefRec}
 (hn:l.most=some n) (HI:d.params.defaults=[])
 (call:∀ (w:World) (s₀ s₁:Shared) (mg mb:Str->Option Value) (fa:Addr) (o:Obj) (pm cd doc:Value) (a:Addr) (vs:List Value) (ns:List Int),
  Ground q loose [] XP w s₀ mg mb s₁.heap->YP w s₁.heap ->
  s₁.heap.get? fa=some o->o.data=.func (docDef d.name d.params d.body d.scope pm cd doc)->s₁.heap.CodeRec cd d.name->mg d.name=some (.ref fa) ->
  s₁.heap.get? a=some { cls:=.type "list",data:=.seq vs.toArray }->IntsAre vs ns->ns.length<=n->s₁.gens=#[] ->
  codeAny (model l.prog w) callerA (.call (.ref fa) ⟨[.ref a],[]⟩) (λr s'=>r=.ok (.ret (.bool true)) /\ OldK s₁.heap s'.heap /\ s'.os=s₁.os /\ AllBare s'.gens) s₁) :
 WalkO q loose XP YP l.row.toRowW d [] (λf vs=>PySem.call f vs):=by
 intro w s₀ s₁ mg mb G Y fa o pm cd doc dV kV ho hd kP hD hmg hg args vals as ym aaG aaH HG aaI;obtain rfl:dV=.none:=Dflts.none hD HI;obtain rfl:kV=.none:=Dflts.noKw hD;obtain⟨a,vs,ns,rfl,rfl,HJ,hints,hlen⟩:=Fe hn ym HG;refine enter_call (w9 (call w s₀ s₁ mg mb fa o pm cd doc a vs ns G Y ho (fd_plain hd) kP hmg HJ hints hlen hg) λr s' hq=>?_);obtain⟨rfl,h2,h3,h4⟩:=hq;exact⟨.inl ⟨.bool true,.bool true,[],rfl,λ_=>rfl,.bool true,Ff l _,λ_=>⟨List.Pairwise.nil,λ_ hm=>(nomatch hm)⟩⟩,h2,h3,h4⟩
end Us
namespace L2
theorem An:∀ {vs:List Value}{ns:List Int},IntsAre vs ns->Vals (ns.map V.int) vs
 |_,_,.nil=>.nil
 |_,_,.cons n t h=>.cons ⟨t,rfl⟩ (An h)
def HK (H:Hp):Prop:=∀ b,H b=none \/ ∃ o xs,H b=some (.a4 o (.lst xs))
theorem Gj {mb:Str->Option Value}{k:Nat}{fa:Addr}{sp:Sp}{s₁:Shared} 
 (KX:K.In s₁.heap) (cW:s₁.heap.Ns mainGlobals mg) (hb:s₁.heap.Ns builtinsNs mb) (XB:∀ x:Str,x ≠ "__name__"->mb x=bootBuiltins x) (XC:s₁.heap.NoLimit) (hg:s₁.gens=#[])
 (ha:s₁.heap.get? a=some { cls:=.type "list",data:=.seq vs.toArray }) (hi:IntsAre vs ns) (hl:ns.length<=sizeLine) (hr:cj k callerA)
 (F:∀ base:Heap,K.In base->base.Ns mainGlobals mg->dS P w K mg base CX k fa fd [x] sp) (XD:∀ (s:Shared) (u:Value),BindsTo s fd ⟨[u],[]⟩ [(x,u)])
 (uF:∀ H:Hp,HK H->bz K H a (ns.map V.int)->sp [.ref a] H (λv _=>v=.bl true) λ_ _ _=>False)
 (XE:∀ H e s',CX [] H s₁ (λ_ _ _=>False) e s'->False) :
 codeAny (model P w) callerA (.call (.ref fa) ⟨[.ref a],[]⟩) (λr s'=>r=.ok (.ret (.bool true)) /\ OldK s₁.heap s'.heap /\ s'.os=s₁.os /\ AllBare s'.gens) s₁:=by
 have rv:=An hi;have XF:=hi.length
 have core:∀ H:Hp,HK H->bz K H a (ns.map V.int)->bO P w H s₁.heap->(∀ b,H b≠none->b=a)->(H a≠none->K.lookup a=none) ->
  codeAny (model P w) callerA (.call (.ref fa) ⟨[.ref a],[]⟩) (λr s'=>r=.ok (.ret (.bool true)) /\ OldK s₁.heap s'.heap /\ s'.os=s₁.os /\ AllBare s'.gens) s₁:=by
  intro H hO hS aj hA hK;have jn:∀ {b:Addr}{o:Obj},s₁.heap.get? b=some o->H b=none->(qu s₁.heap H).get? b=some o:=λe n=>FT e n;have vQ:∀ {b:Addr}{o:Obj}{es:Array DictEntry}{ep:Nat},s₁.heap.get? b=some o->o.data=.dict es ep->H b=none:=λ{b o es ep} e d=>by
   cases q:H b with
   |none=>rfl
   | some u =>
     have e':b=a:=hA b (by rw[q];simp);subst e';rw[ha]at e;cases e;have d':Data.seq vs.toArray _=Data.dict es ep:=d;cases d'
  have yn:∀ {b:Addr}{m:Str->Option Value},s₁.heap.Ns b m->(qu s₁.heap H).Ns b m:=λ{b m} ⟨o,es,ep,e,d,r⟩=>⟨o,es,ep,jn e (vQ e d),d,r⟩;have Ut:K.In (qu s₁.heap H):=λb o e=>jn (KX b o e) (by
   cases q:H b with
   |none=>rfl
   | some u =>
     have e':b=a:=hA b (by rw[q];simp);subst e';rw[hK (by rw[q];simp)]at e;cases e)
  have hM:Mod K mg (qu s₁.heap H):=⟨Ut,yn cW,⟨mb,yn hb,XB⟩,let ⟨mc,h1,h2⟩:=XC;⟨mc,yn h1,h2⟩⟩;have e0:yc P w K mg (qu s₁.heap H) callerA [] s₁ H:=⟨rfl,hM,λb o e=>JZ e,ug (D0 _ _),trivial,λb hb=>absurd (show b∈([]:List Addr) from hb) (by simp),aj,.of_eq hg⟩;refine w9 ((F _ Ut (yn cW)).run callerA [] s₁ H ⟨[.ref a],[]⟩ [.ref a] [.ref a] _ _ hr e0 (XD s₁ (.ref a)) (.cons rfl .nil) (uF H hO hS)) λr s' h=>?_;cases r with
  |error e=>exact(XE H e s' h).elim
  | ok fl =>
    cases fl with
    |next=>exact False.elim h
    |brk=>exact False.elim h
    |cont=>exact False.elim h
    | ret u =>
      obtain⟨v,H',os,bare,un,XG,r',q⟩:=h;have q':v=.bl true:=q;subst q';obtain rfl:u=Value.bool true:=r';refine⟨rfl,OldK.of_keep λb o e=>?_,os,bare⟩;cases q:H b with
      |none=>exact un.keep b o e q (by intro z;exact absurd (show b∈([]:List Addr) from z) (by simp)) (by simp)
      | some u =>
        rcases hO b with z|⟨ob,xs,z⟩
        ·rw[q]at z;cases z
        ·have z2:=un.kN b ob _ z;obtain⟨e1,_⟩:=aj b _ z;obtain⟨e2,_⟩:=XG b _ z2;rw[e]at e1;cases e1;exact e2
 cases hk:K.lookup a with
 | some o =>
   have e:=KX a o hk;rw[ha]at e;cases e;refine core (λ_=>none) (λ_=>.inl rfl) (.inr ⟨_,vs.toArray,_,hk,rfl,rfl,rfl,by rw[bc,XF];exact hl,by simpa using rv⟩) (λb u z=>by have z':(none:Option HO)=some u:=z;cases z') (λb z=>absurd rfl z) λz=>absurd rfl z
 | none =>
   refine core (λb=>if b=a then some (.a4 { cls:=.type "list",data:=.seq vs.toArray } (.lst (ns.map V.int))) else none) (λb=>?_) (.inl (.inr ⟨{ cls:=.type "list",data:=.seq vs.toArray },if_pos rfl⟩)) (λb u z=>?_) (λb z=>?_) λ_=>hk
   ·by_cases hb:b=a
    ·exact .inr ⟨_,_,if_pos hb⟩
    ·exact .inl (if_neg hb)
   ·by_cases hb:b=a
    ·have z':=(if_pos hb).symm.trans z;cases z';subst hb;exact⟨ha,by rw[aR];exact hl,vs,_,rv,ha⟩
    ·have z':=(if_neg hb).symm.trans z;cases z'
   ·by_cases hb:b=a
    ·exact hb
    ·exact absurd (if_neg hb) z
noncomputable abbrev Uu (_:K.In h):PySem.W.Frag:=K
end L2
/- THE LAST THEOREM (shape;aaJ,My.* are aaK):
 My.aaL: a structure of the addresses that aaM aaN names (classes,functions);My.Txt K t: a structure (Prop) of the equations over K;
 My.XH:{K}{implicit addresses ..}(e1:nsIn K mainGlobals "law"=some (some (.ref f))) (e2:K.lookup f=some ⟨oc,od,.func (fnOf "law" "law" params body scope dV kV doc pm an aW ct),sl⟩) (e3:codeIn K aW "law"=true) ..:∃ t,My.Txt K t
set_option maxRecDepth 100000 in
set_option maxHeartbeats 0 in
theorem PySem.Challenge.cw_LID_holds : PySem.Challenge.XI.Holds := by
 w_on;o_law;k_head;(case hw=>w_witness2)
 k_fill
 refine L2.aaO (l:=PySem.Challenge.XI) (n:=63) (k:=40) (x:="script") (CX:=λw=>..) (sp:=λ_=>My.Uv) rfl (by decide) rfl ⟨rfl,by decide,by decide⟩ (λw h Y=>PySem.W.kIn_of Y) ?F ?S ?C
 case F =>
  intro w mg fa h KX G hmg;have T:∃ t,My.Txt (L2.Uu KX) t:=by
   dsimp only[L2.Uu]                          -- K must aaP as «<heap const> w.params» for k_is
   refine' My.XH ?e1 ?e2 ?e3 ..
   (case e1=>PySem.W.k_is)                    -- in the order: a name->its address->its object->its parts
   (case e2=>PySem.W.k_is)
   ..
  obtain⟨t,T⟩:=T;have e0:=hmg.symm.trans (SY KX G T.law)
  cases e0                                       -- fa is the aaQ own address
  exact⟨_,λs u=>.of_eq rfl,λbase kb nb=>My.XJ T kb nb⟩     -- if «.of_eq rfl» comes too early: refine' ⟨_,?b,λbase kb nb=>My.XJ T kb nb⟩;exact λs u=>.of_eq rfl
 case S=>exact λw H a ns hl hO hS=>..
 case C=>exact ..
(the tactic k_is has no namespace: write k_is) -/
namespace L2
noncomputable def iu (s:Stmt):Arguments:=match s with
 |.FunctionDef _ a _ _ _ _ _ _ _ _=>a
 |_=>{ posonlyargs:=[],args:=[],vararg:=none,kwonlyargs:=[],kw_defaults:=[],kwarg:=none,defaults:=[] }
noncomputable def gG (s:Stmt):List Stmt:=match s with
 |.FunctionDef _ _ b _ _ _ _ _ _ _=>b
 |_=>[]
noncomputable def fJ (s:Stmt):Scope:=match s with
 |.FunctionDef _ _ _ _ _ _ sc _ _ _=>sc
 |_=>{ kind:=.function,names:=[],isGenerator:=false,isCoroutine:=false }
abbrev vX:nu:=λ_ _ _ _ _ _=>False
noncomputable abbrev E0:XK:=λ_ _ _=>False
structure ny (K:PySem.W.Frag) (x qual:Str) (st:Stmt) (f:Addr) (fd:FuncData):Prop where
 ex:∃ (oc:Value) (od:Option Addr) (kV doc pm:Value) (an:Option Addr) (aW ct:Value) (pF:Array (Option Value)),
  fd=PySem.W.fnOf x qual (iu st) (gG st) (fJ st) .none kV doc pm an aW ct /\ K.lookup f=some ⟨oc,od,.func fd,pF⟩ /\ PySem.W.codeIn K aW qual=true
 kp:PySem.W.keepIn K (.ref f)=true
theorem ny.ok {qual:Str}{f:Addr}{ps:List Str}{k:Nat}{sp:Sp}(F:ny K x qual st f fd) (S:uE N ps (fJ st)) (len:∀ vs H Q E,sp vs H Q E->vs.length=ps.length)
 (sL:∀ (aW:Value) (A:Around) (outer:List Env) (s:Shared) (H:Hp) (vs:List V) (Q:VK) (E:XK),cj k (A.deeper (envOfC qual (fJ st) s.heap.objs.size f aW))->sp vs H Q E ->
  ∃ t,dI (rq vX P w K mg base N qual (fJ st) f aW A outer s H E).uB (gG st) t /\ t { nx:=λ_ H'=>Q .non H',rt:=Q } (start N vs) H):dS P w K mg base vX (k+1) f fd ps sp:=by
 obtain⟨oc,od,kV,doc,pm,an,aW,ct,pF,rfl,lk,kP⟩:=F.ex;refine P5 lk kP S len λA outer s H vs Q E hr uF=>?_;obtain⟨t,h,q⟩:=sL aW A outer s H vs Q E hr uF;exact⟨t,h.uB,q⟩
theorem ny.binds {qual:Str}{f:Addr}{ps:List Str}(F:ny K x qual st f fd)
 (h:∀ (kV doc pm:Value) (an:Option Addr) (aW ct:Value) (us:List Value),us.length=ps.length->bindArgs (PySem.W.fnOf x qual (iu st) (gG st) (fJ st) .none kV doc pm an aW ct) ⟨us,[]⟩=pure (ps.zip us)):Binds K fd ps []:=by
 obtain⟨oc,od,kV,doc,pm,an,aW,ct,pF,rfl,lk,kP⟩:=F.ex;exact .all (h kV doc pm an aW ct)
theorem Gk {qual:Str}{f:Addr}{oc:Value}{od an:Option Addr}{kV doc pm aW ct:Value}(l:K.lookup f=some ⟨oc,od,.func (PySem.W.fnOf x qual (iu st) (gG st) (fJ st) .none kV doc pm an aW ct),pF⟩)
 (c:PySem.W.codeIn K aW qual=true) (k:PySem.W.keepIn K (.ref f)=true):ny K x qual st f (PySem.W.fnOf x qual (iu st) (gG st) (fJ st) .none kV doc pm an aW ct):=⟨⟨oc,od,kV,doc,pm,an,aW,ct,pF,rfl,l,c⟩,k⟩
noncomputable def cX (cells:List (Str×Addr)):List (Str×NameKind)->List (Str×Addr)->List (Str×Addr)
 |[],acc=>acc
 |(n,k)::r,acc=>cX cells r (if k==.free then (match cells.lookup n with|some c=>(n,c)::acc|none=>acc) else acc)
theorem iW {env:Env}:∀ (names:List (Str×NameKind)) (acc:List (Str×Addr)),(∀ y∈names,y.2=.free->∃ c,env.cells.lookup y.1=some c) ->
 (forIn names acc (λ(x:Str×NameKind) (r:List (Str×Addr))=>(match x with
  |(name,kind)=>if (kind==NameKind.free)=true then (do let a <-cellOf env name;pure (ForInStep.yield ((name,a)::r))) else pure (ForInStep.yield r):Sem (ForInStep (List (Str×Addr))))))=(pure (cX env.cells names acc):Sem _)
 |[],acc,_=>rfl
 | (n,k)::r,acc,h=>by
   rw[sv];by_cases hk:k=.free
   ·subst hk;obtain⟨c,e⟩:=h (n,.free) bL rfl;have e':env.cells.lookup n=some c:=e;have e1:cellOf env n=pure c:=by unfold cellOf;rw[e']
    dsimp only;rw[if_pos (by decide),e1];have q:=iW (env:=env) r ((n,c)::acc) λy hy=>h y (bC _ hy);have z:cX env.cells ((n,NameKind.free)::r) acc=cX env.cells r ((n,c)::acc):=by
     show cX env.cells r _=_;rw[if_pos (by decide),e']
    rw[z,<-q];rfl
   ·dsimp only;have hb:(k==NameKind.free)=false:=by simpa using hk
    rw[if_neg (by rw[hb];decide)];have q:=iW (env:=env) r acc λy hy=>h y (bC _ hy);have z:cX env.cells ((n,k)::r) acc=cX env.cells r acc:=by
     show cX env.cells r _=_;rw[if_neg (by rw[hb];decide)]
    rw[z,<-q];rfl
theorem mX {scope:Scope}{env:Env}(h:∀ y∈scope.names,y.2=.free->∃ c,env.cells.lookup y.1=some c):closureFor scope env=pure (cX env.cells scope.names []):=by
 have q:=iW (env:=env) scope.names [] h;unfold closureFor;first
  |exact q
  |(dsimp only;rw[show (forIn scope.names ([]:List (Str×Addr)) _:Sem _)=_ from q];rfl)
  |(rw[<-q];rfl)
theorem Br {cells:List (Str×Addr)}:∀ (names:List (Str×NameKind)) (acc:List (Str×Addr)),(∀ x c,acc.lookup x=some c->cells.lookup x=some c)->∀ x c,(cX cells names acc).lookup x=some c->cells.lookup x=some c
 |[],_,h=>h
 | (n,k)::r,acc,h=>by
   refine Br r _ ?_;intro x c e;by_cases hk:(k==NameKind.free)=true
   ·rw[if_pos hk]at e;cases q:cells.lookup n with
    |none=>rw[q]at e;exact h x c e
    | some a =>
      rw[q]at e;have e':((n,a)::acc).lookup x=some c:=e;rw[dH]at e';cases hx:x==n with
      |true=>rw[hx]at e';rw[eq_of_beq hx,q];exact e'
      |false=>rw[hx]at e';exact h x c e'
   ·rw[if_neg hk]at e;exact h x c e
theorem Bs {cells:List (Str×Addr)}:∀ (names:List (Str×NameKind)) (acc:List (Str×Addr)) (x:Str),((∃ c,acc.lookup x=some c) \/ ((x,NameKind.free)∈names /\ ∃ c,cells.lookup x=some c))->∃ c,(cX cells names acc).lookup x=some c
 |[],_,x,h=>h.elim id λz=>nomatch z.1
 | (n,k)::r,acc,x,h=>by
   refine Bs r _ x ?_;rcases h with⟨c,e⟩|⟨hm,c,e⟩
   ·left;by_cases hk:(k==NameKind.free)=true
    ·rw[if_pos hk];cases q:cells.lookup n with
     |none=>exact⟨c,e⟩
     | some a =>
       show ∃ c,((n,a)::acc).lookup x=some c;rw[dH];cases hx:x==n with
       |true=>exact⟨a,rfl⟩
       |false=>exact⟨c,e⟩
    ·rw[if_neg hk];exact⟨c,e⟩
   ·rcases bG.mp hm with z|z
    ·have z1:x=n:=congrArg Prod.fst z;have z2:NameKind.free=k:=congrArg Prod.snd z;subst z1;subst z2;left;rw[if_pos (by decide),e];exact⟨c,by show ((x,c)::acc).lookup x=_;rw[dH,beq_self_eq_true]⟩
    ·exact .inr ⟨z,c,e⟩
theorem jZ {env:Env}:∀ (names:List (Str×NameKind)) (x:Str) (k':NameKind),
 (names.map λ(n,k)=>if (k==NameKind.free&&env.scope.kind==.function&&env.kindOf n==some .cell) then (n,NameKind.cell) else (n,k)).lookup x=some k' ->
 ∃ k,names.lookup x=some k /\ (k'=k \/ (k=.free /\ k'=.cell))
 |[],_,_,h=>by simp at h
 | (n,k)::r,x,k',h=>by
   have h':List.lookup x ((if (k==NameKind.free&&env.scope.kind==.function&&env.kindOf n==some .cell)=true then (n,NameKind.cell) else (n,k))::(r.map λ(n,k)=>if (k==NameKind.free&&env.scope.kind==.function&&env.kindOf n==some .cell) then (n,NameKind.cell) else (n,k)))=some k':=h;by_cases hc:(k==NameKind.free&&env.scope.kind==.function&&env.kindOf n==some .cell)=true
   ·rw[if_pos hc,dH]at h';rw[dH];cases hx:x==n with
    | true =>
      rw[hx]at h';have hk:k=.free:=by
       cases hq:(k==NameKind.free) with
       |true=>exact eq_of_beq hq
       |false=>rw[hq]at hc;simp at hc
      exact⟨k,rfl,.inr ⟨hk,(Option.some.inj h').symm⟩⟩
    |false=>rw[hx]at h';exact jZ r x k' h'
   ·rw[if_neg hc,dH]at h';rw[dH];cases hx:x==n with
    |true=>rw[hx]at h';exact⟨k,rfl,.inl (Option.some.inj h').symm⟩
    |false=>rw[hx]at h';exact jZ r x k' h'
theorem iX {env:Env}:∀ (names:List (Str×NameKind)) (x:Str),names.lookup x=some .free ->
 (names.map λ(n,k)=>if (k==NameKind.free&&env.scope.kind==.function&&env.kindOf n==some .cell) then (n,NameKind.cell) else (n,k)).lookup x=some .cell \/
 (names.map λ(n,k)=>if (k==NameKind.free&&env.scope.kind==.function&&env.kindOf n==some .cell) then (n,NameKind.cell) else (n,k)).lookup x=some .free
 |[],_,h=>by simp at h
 | (n,k)::r,x,h=>by
   show List.lookup x ((if (k==NameKind.free&&env.scope.kind==.function&&env.kindOf n==some .cell)=true then (n,NameKind.cell) else (n,k))::_)=_ \/ List.lookup x ((if (k==NameKind.free&&env.scope.kind==.function&&env.kindOf n==some .cell)=true then (n,NameKind.cell) else (n,k))::_)=_;rw[dH]at h;by_cases hc:(k==NameKind.free&&env.scope.kind==.function&&env.kindOf n==some .cell)=true
   ·rw[if_pos hc,dH];cases hx:x==n with
    |true=>exact .inl rfl
    |false=>rw[hx]at h;exact iX r x h
   ·rw[if_neg hc,dH];cases hx:x==n with
    |true=>rw[hx]at h;exact .inr h
    |false=>rw[hx]at h;exact iX r x h
theorem gS:∀ (names:List (Str×NameKind)) (n:Nat) (acc:List (Str×Addr)),cellsFrom n names acc=cellsFrom n names []++acc
 |[],_,_=>rfl
 | (x,k)::r,n,acc=>by
   unfold cellsFrom;split
   ·rw[gS r (n+1) ((x,n)::acc),gS r (n+1) [(x,n)],qi];rfl
   ·exact gS r n acc
theorem lY:∀ (names:List (Str×NameKind)) (n:Nat) {x:Str}{c:Addr},(x,c)∈cellsFrom n names []->(x,NameKind.cell)∈names
 |[],_,_,_,h=>nomatch h
 | (y,k)::r,n,x,c,h=>by
   unfold cellsFrom at h;split at h
   ·rename_i hk;rw[gS]at h;rcases List.mem_append.mp h with h|h
    ·exact bC _ (lY r _ h)
    ·cases nT.mp h;rw[<-eq_of_beq hk];exact bL
   ·exact bC _ (lY r _ h)
theorem mY {α:Type}:∀ {l:List (Str×α)}{x:Str}{a b:α},(l.map (·.1)).Nodup->(x,a)∈l->(x,b)∈l->a=b
 | (y,c)::l,x,a,b,h,ha,hb=>by
   rw[aG,qm]at h;rcases bG.mp ha with e|ha<;>rcases bG.mp hb with e'|hb
   ·rw[<-e']at e;exact(Prod.mk.inj e).2
   ·exact absurd (bV.mpr ⟨_,hb,(Prod.mk.inj e).1⟩) h.1
   ·exact absurd (bV.mpr ⟨_,ha,(Prod.mk.inj e').1⟩) h.1
   ·exact mY h.2 ha hb
theorem iY {α:Type}{x:Str}:∀ {l m:List (Str×α)},(l++m).lookup x=match l.lookup x with|some a=>some a|none=>m.lookup x
 |[],m=>rfl
 | (y,a)::l,m=>by
   rw[Ey,dH,dH];cases x==y with
   |true=>rfl
   |false=>exact iY
theorem mZ {scope:Scope}{globals:Addr}{cl:List (Str×Addr)}{qual:Str}{env:Env}{Q:Env->Shared->Prop}
 (h:Q { scope:=scope,locals:=s.heap.objs.size,globals:=globals,cells:=cellsFrom (s.heap.objs.size+1) scope.names cl,qual:=qual,func:=none,code:=env.code,frame:=env.frame,builtins:=env.builtins }
  { s with heap:=pushCells (s.heap.push { cls:=.type "dict",data:=.dict #[] }) scope.names }) :
 wpAny M A (newFunctionEnv scope globals cl [] qual none .none (some env)) Q E s:=by
 unfold newFunctionEnv;refine af (wpAny_alloc (af (wpAny_layCells _ (λname kind cells=>by cases hk:kind==NameKind.cell<;>simp[hk]) _ _ _ _ ?_)));rw[show ({ s with heap:=s.heap.push { cls:=.type (if (some env).isSome=true then "dict" else "frame"),data:=.dict #[] } }:Shared).heap.objs.size=s.heap.objs.size+1 from qo ..];exact af (ai (ai h))
noncomputable abbrev Cx.comp (X:Cx) (N:List Str) (scope:Scope) (cl:List (Str×Addr)) (s:Shared) (H:Hp) (C:Addr) (fp:List Addr):Cx :=
 { X with N:=N,s₀:=s,H₀:=H,env:=compEnvC scope cl C X.env,outer:=X.stack,stack:=X.stack,ex:=fp,fn:=λx=>decide (scope.names.lookup x=some .cell),pn:=[],xe:=λ_ _=>False }
structure pR (X:Cx) (N:List Str) (src:List (Option Nat)) (scope:Scope):Prop where
 kind:scope.kind=.function
 nk:(scope.names.map (·.1)).Nodup
 names:∀ y∈scope.names,y.2=.local->scope.names.lookup y.1=some .local
 has:∀ y∈scope.names,y.2=.free->X.env.kindOf y.1=some .cell \/ X.env.kindOf y.1=some .free
 XM:src.length=N.length
 XO:∀ (j i:Nat) (x:Str),src[j]?=some (some i)->N[j]?=some x->X.N[i]?=some x /\ scope.names.lookup x=some .free
noncomputable def rD (src:List (Option Nat)) (σ:St):St:=src.map λo=>o.bind λi=>(σ[i]?).bind id
def PF (X:Cx) (ifs:List Expr) (t:TT):Prop :=
 ∀ (pins:List (Addr×Obj)) (s:Shared) (σ:St) (H:Hp) (Q:Bool->Hp->Prop),Inv X pins σ H s->t σ H Q ->
  wpAny (model X.prog X.w) X.A (forIn ifs true λc r=>if r=true then do let ok <-isTrue c X.env (eval c X.env);pure (ForInStep.yield ok) else pure (ForInStep.yield r)) (TP X pins σ Q) X.xe s
theorem N7:PF X [] (λ_ H Q=>Q true H):=λ_ _ _ H _ I h=>wpAny_tests_nil ⟨H,I,h⟩
theorem N8 {c:Expr}{t:TT}(h:PT X c t):PF X [c] t:=λpins s σ H Q I hw=>wpAny_tests_one (h pins s σ H Q I hw)
def Uw (J:It) (g:TG) (tf:TT) (te:TE) (D:Addr) (Q:VK) (σ0:St) (H0:Hp):Prop :=
 ∃ W:Nat->Nat->St->Hp->Prop,(∃ m,W 0 m σ0 H0) /\ ∀ i m σ' H',W i m σ' H' ->
  (J.stop i H' /\ Q (.ref D) H') \/ (J.go i H' /\ ∃ N:St->Hp->Prop,(∀ σ2 H2,N σ2 H2->∃ m',m'<m /\ W (i+1) m' σ2 H2) /\ ∀ x H2,J.vK i H' x H2->g x σ' H2 λσ2 H3=>tf σ2 H3 λb H4 =>
   if b=true then te σ2 H4 λy H5=>∃ ys,H5 D=some (.lst ys) /\ ys.length<sizeLine /\ N σ2 (upd H5 D (.lst (ys++[y]))) else N σ2 H4)
def yo (src:List (Option Nat)) (wi:TI) (g:TG) (tf:TT) (te:TE):TE:=λσ H Q=>wi σ H λJ H1=>∀ D,H1 D=none->Uw J g tf te D Q (rD src σ) (upd H1 D (.lst []))
noncomputable abbrev uH (P:Program) (w:World) (A:Around) (env:Env) (R:Result->Shared->Prop):Value->Shared->Prop :=
 notedBy (model P w) A env λx z=>R (.error x) z
noncomputable abbrev XQ (ifs:List Expr) (env:Env):Sem Bool :=
 forIn ifs true λc r=>if r=true then do let ok <-isTrue c env (eval c env);pure (ForInStep.yield ok) else pure (ForInStep.yield r)
theorem lC {elt:Expr}{scope:Scope}{it acc:Value}{env:Env}
 (J:Nat->Shared->Prop) (N:Value->Nat->Shared->Prop)
 (hN:∀ v n z,N v n z->wpAny (model prog w) A (letOwnedTupleGo tg it v) (λ_ z1 =>
  wpAny (model prog w) A (assign tg env v) (λ_ z2 =>
  wpAny (model prog w) A (XQ ifs env) (λb z3 =>
   if b=true then wpAny (model prog w) A (eval elt env) (λy z4 =>
    wpAny (model prog w) A (call (.builtin "list.append") [acc,y])
     (λ_ z5=>∃ k,k<n /\ J k z5) (uH prog w A env R) z4) (uH prog w A env R) z3
   else ∃ k,k<n /\ J k z3)
   (uH prog w A env R) z2) (uH prog w A env R) z1) (uH prog w A env R) z)
 (go:∀ n z,J n z->wpAny (model prog w) A (pyNext it)
  (λr z1=>match r with|none=>R (.ok .next) z1|some v=>N v n z1) (uH prog w A env R) z)
 (n:Nat) (h:J n s) :
 codeAny (model prog w) A (.compLoop (.ListComp elt [⟨tg,iter,ifs,0⟩] scope pos) 0 it acc env) R s:=by
 refine codeAny_loop rfl J (λk z hz=>?_) n h;show wpAny _ A (Sem.onRaise (compTurn _ 0 it acc env) _) _ _ z;refine wpAny_noted ?_;rw[compTurn_list];refine af (w8 (af ?_));refine eE (go k z hz) (λr z1 h1=>?_) λ_ _ q=>q;cases r with
 |none=>exact ai h1
 | some v =>
   refine af (eE (hN v k z1 h1) (λ_ z2 h2=>af ?_) λ_ _ q=>q);refine eE h2 (λ_ z3 h3=>af ?_) λ_ _ q=>q;refine eE h3 (λb z4 h4=>?_) λ_ _ q=>q;cases b with
   |false=>exact ai ⟨rfl,h4⟩
   | true =>
     refine af (af (eE h4 (λy z5 h5=>af ?_) λ_ _ q=>q));exact eE h5 (λ_ z6 h6=>ai (ai ⟨rfl,h6⟩)) λ_ _ q=>q
theorem pR.cells {N:List Str}{src:List (Option Nat)}{scope:Scope}(S:pR X N src scope) (ok:X.Ok):∀ y∈scope.names,y.2=.free->∃ c,X.env.cells.lookup y.1=some c :=
 λy hy hf=>ok.has y.1 (S.has y hy hf)
theorem Bt {cells:List (Str×Addr)}{x:Str}{c:Addr}:∀ (names:List (Str×NameKind)) (acc:List (Str×Addr)),(x,c)∉acc->(x,c)∈cX cells names acc->(x,NameKind.free)∈names
 |[],_,h,e=>absurd e h
 | (n,k)::r,acc,h,e=>by
   by_cases hx:x=n /\ k=.free
   ·obtain⟨rfl,rfl⟩:=hx;exact bL
   ·refine bC _ (Bt r _ ?_ e);by_cases hk:(k==NameKind.free)=true
    ·rw[if_pos hk];cases q:cells.lookup n with
     |none=>exact h
     | some a =>
       intro z;rcases bG.mp z with z|z
       ·exact hx ⟨(Prod.mk.inj z).1,eq_of_beq hk⟩
       ·exact h z
    ·rw[if_neg hk];exact h
theorem Bu {src:List (Option Nat)}{scope:Scope}{s':Shared} 
 (S:pR X N src scope) (I:Inv X pins σ H s) (HL:∀ b∈fp,kQ X pins H b /\ b<s.heap.objs.size) (hh:s'={ s with heap:=pushCells (s.heap.push { cls:=.type "dict",data:=.dict #[] }) scope.names }) :
 Inv (X.comp N scope (cellsFrom (s.heap.objs.size+1) scope.names (cX X.env.cells scope.names [])) s H s.heap.objs.size fp) [] (rD src σ) H s':=by
 subst hh;have hk:∀ b o,s.heap.get? b=some o->(pushCells (s.heap.push { cls:=.type "dict",data:=.dict #[] }) scope.names).get? b=some o:=λb o e=>xa _ _ b o (aL _ e);have cW:(pushCells (s.heap.push { cls:=.type "dict",data:=.dict #[] }) scope.names).Ns s.heap.objs.size (λ_=>none):=(Heap.Ns.new s.heap (.type "dict")).keeps (xa _ _);have ok:=cellsFrom_ok scope.names (s.heap.push { cls:=.type "dict",data:=.dict #[] }) (s.heap.objs.size+1) [] ⟨λ_ _ hm=>(nomatch hm),List.Pairwise.nil⟩ (by rw[qo];exact ao _);rw[qo]at ok;have split:∀ x c,(cellsFrom (s.heap.objs.size+1) scope.names (cX X.env.cells scope.names [])).lookup x=some c->(cellsFrom (s.heap.objs.size+1) scope.names []).lookup x=some c \/ (cX X.env.cells scope.names []).lookup x=some c:=λx c e=>by
  rw[gS,iY]at e;cases q:(cellsFrom (s.heap.objs.size+1) scope.names []).lookup x with
  |some a=>rw[q]at e;exact .inl e
  |none=>rw[q]at e;exact .inr e
 have own:∀ x c,(cellsFrom (s.heap.objs.size+1) scope.names []).lookup x=some c->s.heap.objs.size<c /\ (pushCells (s.heap.push { cls:=.type "dict",data:=.dict #[] }) scope.names).IsCell c none:=λx c e=>by
  obtain⟨a,b⟩:=ok.empty x c (km e);exact⟨b,a⟩
 have Ux:∀ x,scope.names.lookup x=some .free->(cellsFrom (s.heap.objs.size+1) scope.names (cX X.env.cells scope.names [])).lookup x=(cX X.env.cells scope.names []).lookup x:=λx e=>by
  rw[gS,iY];cases q:(cellsFrom (s.heap.objs.size+1) scope.names []).lookup x with
  |some a=>exact absurd (mY S.nk (km e) (lY _ _ (km q))) (by decide)
  |none=>rfl
 have low:∀ x c,X.env.cells.lookup x=some c->c<s.heap.objs.size:=λx c e=>by
  obtain⟨v,o,ho,_⟩:=I.cell x c e;exact aZ ho
 have sub:=Br (cells:=X.env.cells) scope.names [] (λx c e=>by simp at e);have XR:∀ x,((relabel scope X.env).names.lookup x=some .cell \/ (relabel scope X.env).names.lookup x=some .free)->scope.names.lookup x=some .free \/ scope.names.lookup x=some .cell:=λx hx=>by
  have go:∀ k',(k'=NameKind.cell \/ k'=NameKind.free)->(relabel scope X.env).names.lookup x=some k'->scope.names.lookup x=some .free \/ scope.names.lookup x=some .cell:=λk' pS e=>by
   obtain⟨k,e1,q⟩:=jZ (env:=X.env) scope.names x k' e;rcases q with q|⟨q,_⟩
   ·subst q;rcases pS with z|z
    ·subst z;exact .inr e1
    ·subst z;exact .inl e1
   ·subst q;exact .inl e1
  exact hx.elim (go _ (.inl rfl)) (go _ (.inr rfl))
 have Uy:∀ x,scope.names.lookup x=some .free->∃ c,(cX X.env.cells scope.names []).lookup x=some c /\ X.env.cells.lookup x=some c:=λx e=>by
  have hm:=km e;obtain⟨c,e1⟩:=Bs (cells:=X.env.cells) scope.names [] x (.inr ⟨hm,S.cells I.ok (x,.free) hm rfl⟩);exact⟨c,e1,sub x c e1⟩
 refine⟨⟨I.ok.mod,?_,I.ok.glob,I.ok.blt,ao _,λx y c e1 e2=>?_,λx hx=>?_,λx c e=>?_,I.ok.hd,I.ok.frames,.inl rfl,λb hb=>?_,I.bs,bP I.ok.sF I.sz,λb o e hb=>?_,λb hb=>?_,I.stack,I.TF⟩,
  rfl,I.bare,Un.kept hk,⟨_,cW,λj x v e1 e2 e3=>?_⟩,λx c e=>?_,I.aj.fresh (ao _),λx c e=>?_,λp hp=>absurd (show p∈([]:List (Addr×Obj)) from hp) (by simp),I.aj.kept hk,?_⟩
 ·exact S.kind
 ·rcases split x c e1 with q1|q1<;>rcases split y c e2 with q2|q2
  ·exact Qn ok.apart (km q1) (km q2)
  ·exact absurd (xh (own x c q1).1 (low y c (sub y c q2))) (dG _)
  ·exact absurd (xh (own y c q2).1 (low x c (sub x c q1))) (dG _)
  ·exact I.ok.inj x y c (sub x c q1) (sub y c q2)
 ·rcases XR x hx with k|k
  ·obtain⟨c,e1,_⟩:=Uy x k;exact⟨c,(Ux x k).trans e1⟩
  ·obtain⟨c,e1⟩:=mU (n:=s.heap.objs.size+1) k;refine⟨c,?_⟩;show (cellsFrom (s.heap.objs.size+1) scope.names (cX X.env.cells scope.names [])).lookup x=some c;rw[gS,iY,e1]
 ·intro hl;rcases split x c hl with q|q
  ·exact k8 (own x c q).1
  ·have k:scope.names.lookup x=some .cell:=of_decide_eq_true e;have m:(x,NameKind.free)∈scope.names:=Bt _ _ (by simp) (km q);exact absurd (mY S.nk (km k) m) (by decide)
 ·obtain⟨f,hl⟩:=HL b hb;refine⟨cS hl,λx c e=>?_⟩;rcases split x c e with q|q
  ·exact vk (xh hl (own x c q).1)
  ·exact f.2.2.2.2.1 x c (sub x c q)
 ·obtain⟨f,_⟩:=HL b hb;obtain⟨_,_,_,f4,_⟩:=f;rcases f4 with z|z
  ·exact I.ok.vI b o e z
  ·have q:=(I.ok.bs b o e).1;exact absurd (dF (aZ q) z) (dG _)
 ·obtain⟨f,_⟩:=HL b hb;intro hz;rcases bG.mp (I.Hc b hz) with e|e
  ·exact f.2.1 e
  ·exact f.2.2.1 e
 ·have hs:∃ i,src[j]?=some (some i) /\ σ[i]?=some (some v):=by
   have qB:(src.map λo=>o.bind λi=>(σ[i]?).bind id)[j]?=some (some v):=e2;rw[nR]at qB;cases q:src[j]? with
   |none=>rw[q]at qB;cases qB
   | some o =>
     rw[q]at qB;cases o with
     |none=>cases qB
     | some i =>
       refine⟨i,rfl,?_⟩;have yp:(σ[i]?).bind id=some v:=Option.some.inj qB;cases z:σ[i]? with
       |none=>rw[z]at yp;cases yp
       | some o' =>
         rw[z]at yp;have:o'=some v:=yp;rw[this]
  obtain⟨i,XS,hσ⟩:=hs;obtain⟨hN,rF⟩:=S.XO j i x XS e1;have Uz:=S.has (x,.free) (km rF) rfl;obtain⟨m,_,hl⟩:=I.loc;obtain⟨u,r,lk⟩:=hl i x v hN hσ (.inr Uz);refine⟨u,r,?_⟩;rcases lk with⟨k,_⟩|⟨_,c,ec,xV⟩
  ·rcases Uz with z|z
   ·rw[z]at k;cases k
   ·rw[z]at k;cases k
  ·obtain⟨c',sO,qB⟩:=Uy x rF;have:c'=c:=by rw[ec]at qB;exact(Option.some.inj qB).symm
   subst this;refine .inr ⟨?_,c',(Ux x rF).trans sO,?_⟩
   ·exact iX (env:=X.env) scope.names x rF
   ·obtain⟨o,ho,hd⟩:=xV;exact⟨o,hk _ _ ho,hd⟩
 ·rcases split x c e with q|q
  ·exact⟨none,(own x c q).2⟩
  ·obtain⟨v,o,ho,hd⟩:=I.cell x c (sub x c q);exact⟨v,o,hk _ _ ho,hd⟩
 ·rcases split x c e with q|q
  ·exact I.aj.fresh (k8 (own x c q).1)
  ·exact I.nX x c (sub x c q)
 ·show (rD src σ).length=N.length;unfold rD;rw[aR];exact S.XM
theorem Lk {src:List (Option Nat)}{elt:Expr}{scope:Scope}{wi:TI}{g:TG}{tf:TT}{te:TE}
 (hc:X.calm=true) (S:pR X N src scope) (hi:PI X tg iter wi)
 (hg:∀ cl s H C fp,PG (X.comp N scope cl s H C fp) tg g) (hf:∀ cl s H C fp,PF (X.comp N scope cl s H C fp) ifs tf) (he:∀ cl s H C fp,PE (X.comp N scope cl s H C fp) elt te)
 (hs:∀ x,foldedSetIterable iter X.env x=pure x):PE X (.ListComp elt [⟨tg,iter,ifs,0⟩] scope pos) (yo src wi g tf te):=by
 intro pins s σ H Q I h;rw[eval_ListComp];refine Qv (use:=none) rfl hs (mX (S.cells I.ok)) S.kind S.names (au (hi pins s σ H _ I h) λxv s1 h1=>au h1 λxY s2 h2=>?_);obtain⟨it,fp,tn,J,H2,e,I2,T,sI,f2,hW⟩:=h2;subst e;refine k7 ?_;generalize hD:s2.heap.objs.size=D;have HM:H2 D=none:=I2.aj.fresh (ug hD);have I3:Inv X pins σ (upd H2 D (.lst [])) { s2 with heap:=s2.heap.push { cls:=.type "list",dict:=none,data:=.seq ([]:List Value).toArray } }:=by
  subst hD;exact I2.laid (t':=s2.toks) (λb u e=>aL _ e) (ao _) ⟨eG _,[],0,.nil,bR _ rfl⟩
 obtain⟨W,⟨m0,w0⟩,turn⟩:=hW D HM;have up:∀ b o,s2.heap.get? b=some o->(s2.heap.push { cls:=.type "list",dict:=none,data:=.seq ([]:List Value).toArray }).get? b=some o:=λb u e=>aL _ e;have HN:=T.obj _ _ sI;have rl:tn 0 (s2.heap.push { cls:=.type "list",dict:=none,data:=.seq ([]:List Value).toArray }):=T.keep _ _ _ sI λb _ o e=>up b o e;have vY:∀ b∈fp,b<s2.heap.objs.size:=λb hb=>by obtain⟨o,e,_⟩:=HN b hb;exact aZ e
 have f3:∀ b∈fp,kQ X pins (upd H2 D (.lst [])) b:=λb hb=>⟨by rw[fv (by rw[<-hD];exact cS (vY b hb))];exact(f2 b hb).1,(f2 b hb).2⟩;generalize HP:({ s2 with heap:=s2.heap.push { cls:=.type "list",dict:=none,data:=.seq ([]:List Value).toArray } }:Shared)=s3 at I3 ⊢;have vZ:s3.heap=s2.heap.push { cls:=.type "list",dict:=none,data:=.seq ([]:List Value).toArray }:=by rw[<-HP]
 rw[<-vZ]at rl;have HQ:∀ b∈fp,b<s3.heap.objs.size:=λb hb=>by rw[vZ,qo];exact QP (vY b hb)
 generalize XT:upd H2 D (.lst [])=H3 at I3 f3 w0;refine mZ ?_;generalize v3:pushCells (s3.heap.push { cls:=.type "dict",data:=.dict #[] }) scope.names=h₁;have k1:∀ b o,s3.heap.get? b=some o->h₁.get? b=some o:=λb o e=>by rw[<-v3];exact xa _ _ b o (aL _ e)
 have IY:=Bu S I3 (λb hb=>⟨f3 b hb,HQ b hb⟩) (s':={ s3 with heap:=h₁ }) (by rw[v3]);have v7:tn 0 h₁:=T.keep _ _ _ rl λb _ o e=>k1 b o e;generalize uI:cellsFrom (s3.heap.objs.size+1) scope.names (cX X.env.cells scope.names [])=cl at IY ⊢;generalize hC:s3.heap.objs.size=C at IY ⊢;have sP:∀ {H':Hp},(∀ b∈fp,H' b=none)->∀ b∈fp,kQ (X.comp N scope cl s3 H3 C fp) [] H' b:=λhn b hb=>by
  refine⟨hn b hb,?_,?_,.inl hb,?_,λp hp=>absurd (show p∈([]:List (Addr×Obj)) from hp) (by simp)⟩
  ·exact(IY.ok.ux b hb).1
  ·exact IY.ok.uz b hb
  ·intro x c e z;exact(IY.ok.ux b hb).2 x c e z
 have fin:∀ (σ':St) (H':Hp) (s':Shared),Inv (X.comp N scope cl s3 H3 C fp) [] σ' H' s'->∀ h',Heap.SameBut C s'.heap h'->Inv X pins σ H' { s' with heap:=h' }:=λσ' H' s' I' h' sQ=>by
  have sR:H' C=none:=I'.free;have kp:∀ b o,b≠C->s'.heap.get? b=some o->h'.get? b=some o:=λb o hb e=>sQ.extBut b o hb e;have HR:s3.heap.get? C=none:=by rw[<-hC];exact EH (ao _)
  have nq:∀ b o,s3.heap.get? b=some o->b≠C:=λb o e z=>by rw[z,HR]at e;cases e
  have U:=I'.base;refine I3.TV (s':={ s' with heap:=h' }) (ch:=fp) I'.os ⟨λb o e n hb hx=>kp b o (nq b o e) (U.keep b o e n hb hx),λb o e n hb hx=>?_,U.free,λb o e hx=>?_,U.ku,U.kN,U.nV⟩ ?_ I'.bare λb hb=>?_
  ·obtain⟨sl,e1⟩:=U.slot b o e n hb hx;exact⟨sl,kp b _ (nq b o e) e1⟩
  ·obtain⟨o',e1⟩:=U.there b o e hx;exact⟨o',kp b o' (nq b o e) e1⟩
  ·intro b ob e;refine(I'.aj b ob e).eK (λc w' cy q=>kp c w' (λz=>?_) q) (λ_ q=>q) λ_ _ q=>q;rcases cy with z1|z1
   ·rw[<-z1,z,sR]at e;cases e
   ·rw[z,sR]at z1;cases z1
  ·exact⟨(f3 b hb).2.2.2.1,(f3 b hb).2.1,λx c e=>(f3 b hb).2.2.2.2.1 x c e,(f3 b hb).2.2.2.2.2⟩
 have loop:∀ s4:Shared,s4={ s3 with heap:=h₁ } ->
  codeAny (model X.prog X.w) X.A (.compLoop (.ListComp elt [⟨tg,iter,ifs,0⟩] scope pos) 0 (.ref it) (.ref D) (compEnvC scope cl C X.env)) (compPost (model X.prog X.w) X.A X.xe none (EP X pins σ Q) (.ref D) C) s4:=by
  rintro s4 rfl;refine lC (λn s'=>∃ i σ' H',Inv (X.comp N scope cl s3 H3 C fp) [] σ' H' s' /\ tn i s'.heap /\ (∀ b∈fp,H' b=none) /\ W i n σ' H') _ (λ_ _ _ q=>q) ?_ m0 ⟨0,_,H3,IY,v7,λb hb=>(f3 b hb).1,w0⟩;rintro n s5 ⟨i,σ5,H5,I5,qw,sJ,w5⟩;have eW:∀ {α:Type}{t:Sem α}{Q1:α->Shared->Prop}{E1:Value->Shared->Prop}{ss:Shared},wpAny (model X.prog X.w) X.A t Q1 (λ_ _=>False) ss->wpAny (model X.prog X.w) X.A t Q1 E1 ss:=λhw=>eE hw (λ_ _ q=>q) λ_ _ z=>False.elim z;rcases turn i n σ5 H5 w5 with⟨stop,q5⟩|⟨go,NN,hN,step⟩
  ·refine eW (au (T.done (X.comp N scope cl s3 H3 C fp) rfl rfl rfl hc i [] s5 σ5 H5 (λ_ _=>False) I5 (sP sJ) qw stop) λr s6 ⟨hr,I6⟩=>?_);subst hr;obtain⟨m6,HS,_⟩:=I6.loc;exact⟨m6,HS,λh' sQ=>⟨.ref D,H5,fin σ5 H5 s6 I6 h' sQ,rfl,q5⟩⟩
  ·refine eW (au (T.item (X.comp N scope cl s3 H3 C fp) rfl rfl rfl hc i [] s5 σ5 H5 (λ_ _=>False) I5 (sP sJ) qw go) λr s6 ⟨u,hr,h6⟩=>?_);subst hr;refine eW (au h6 λ_ s7 ⟨x,H7,I7,r7,y7,sU,HU⟩=>?_);have HV:=I7.pinned (sP HU) (T.obj _ _ sU);refine eW (au (hg cl s3 H3 C fp _ s7 σ5 H7 x u _ HV r7 (step x H7 y7)) λ_ s8 ⟨σ8,H8,I8,q8⟩=>?_);refine eW (au (hf cl s3 H3 C fp _ s8 σ8 H8 _ I8 q8) λb s9 ⟨H9,I9,q9⟩=>?_);have again:∀ {σ9:St}{HA:Hp}{sA:Shared},Inv (X.comp N scope cl s3 H3 C fp) ([]++uC fp s7.heap) σ9 HA sA->NN σ9 HA->∃ m,m<n /\ ∃ i σ' H',Inv (X.comp N scope cl s3 H3 C fp) [] σ' H' sA /\ tn i sA.heap /\ (∀ b∈fp,H' b=none) /\ W i m σ' H':=λ{σ9 HA sA} IA nA=>by
    obtain⟨m',hm,wA⟩:=hN σ9 HA nA;refine⟨m',hm,i+1,σ9,HA,IA.vN,T.keep _ _ _ sU λb hb o e=>(IA.pin (b,o) (eI _ (eI _ (gQ hb e)))).1,λb hb=>?_,wA⟩;obtain⟨o,e,d⟩:=T.obj _ _ sU b hb;exact(IA.pin (b,o) (eI _ (eI _ (gQ hb e)))).2.1
   cases b with
   | false =>
     rw[if_neg (by decide)]at q9;rw[if_neg (by decide)];exact again I9 q9
   | true =>
     rw[if_pos rfl]at q9;rw[if_pos rfl];refine eW (au (he cl s3 H3 C fp _ s9 σ8 H9 _ I9 q9) λyv sA ⟨y,HA,IA,rA,ys,HW,HX,nA⟩=>?_);refine eW (au (lX _ sA σ8 HA (.ref D) [y] (.ref D) [yv] (λ_ HB=>NN σ8 HB) IA rfl (.cons rA .nil) ⟨D,ys,y,rfl,rfl,HW,HX,nA⟩) λr sB hB=>?_);obtain⟨_,HB,IB,_,nB⟩:=hB;exact again IB nB
 exact Qw (loop _ rfl) (T.self _ 0 _ _ _ v7 (loop _ rfl))
open PySem.W PySem.Builtin PySem.Builtin.ObjectAttr PySem.Builtin.Getset_descriptor
section
variable {x C : Addr}
def UA (x C:Addr) (h:Heap):Prop:=∃ ox,h.get? x=some ox /\ ox.cls=.ref C
theorem UA.type (I:UA x C h):Looks M h (typeOf (.ref x)) (.ref C):=by
 obtain⟨ox,e,hc⟩:=I;exact hc▸(Looks.ld e).andThen .now
structure aaR (K:Frag) (C:Addr):Prop where
 ga:findIn K (.ref C) "__getattribute__"=some (some (.builtin "BaseException.__getattribute__"))
 gt:findIn K (.ref C) "__getattr__"=some none
 cl:findIn K (.ref C) "__class__"=some (some (.builtin "object.__class__"))
 gs:specialIn K (.builtin "object.__class__") "__get__"=some (some (.builtin "getset_descriptor.__get__"))
 tk:takesIn K (.builtin "object.__class__")=some true
 mo:mroIn K C (.type "object")=some true
 mb:mroIn K C (.type "BaseException")=some true
 cd:(clsIn K C).isSome=true
end
def XU (B:Heap) (l:List Env) (ea:Addr) (cls a0:Value) (h:Heap):Prop :=
 Heap.FlyingW B l ea cls a0 h \/ (B.StaysIn h /\ B.get? ea=none /\ h.FunFrames B l /\
  h.get? ea=some { cls:=cls,data:=.fields #[a0,.none,.none,.none,.bool false,.none] })
section
variable {B : Heap} {env : Env} {outer : List Env} {L ea : Addr} {cls a0 : Value} {Q : Unit -> Shared -> Prop}
end
def nz (P:Program) (w:World):nu:=λouter H s E e s'=>∃ (ea C:Addr) (a0:Value) (B:Heap) (H':Hp),
 e=.ref ea /\ s'.os=s.os /\ AllBare s'.gens /\ Un (kO outer) [] H H' s.heap s'.heap /\ bO P w H' s'.heap /\ XU B outer ea (.ref C) a0 s'.heap /\
 (∀ b u o,H' b=some u->s'.heap.get? b=some o->B.get? b=some o) /\ (∀ b o,s.heap.get? b=some o->b∉kO outer->∃ o',B.get? b=some o') /\ E (.ref C) none H'
section
variable {k : Nat} {f C : Addr} {ps : List Str} {sp : Sp} {qx : List V} {ds : List Value} {E : XK} {m : Str} {p : Pos} {o : Expr} {ta : TE} {t : TA}
inductive UB (K:Frag) (H:Hp):V->Value->Prop where
 |of {x:V}{t:Value}(h:kz K H x t):UB K H x t
noncomputable def XW:V->Value->Prop
 |.ref a,c=>c=.ref a
 |.ty n,c=>c=.type n
 |_,_=>False
def XX (K:Frag):List V->Hp->VK->Prop:=λvs H Q=>∃ x c t cv b,vs=[x,c] /\ UB K H x t /\ XW c cv /\ kitOne K t cv=some b /\ Q (.bl b) H
theorem Fg:cU X (.builtin "isinstance") (XX X.K):=by
 intro pins s σ H xs us Q I rv h;obtain⟨x,c,t,cv,b,rfl,ty,hc,e,q⟩:=h;cases rv with
 | cons r1 r2 =>
   cases r2 with
   | cons r3 r4 =>
     cases r4;rename_i u1 u2;have ec:u2=cv:=by
      cases c with
      |ref a=>exact(show u2=.ref a from r3).trans (show cv=.ref a from hc).symm
      |ty n=>exact(show u2=.type n from r3).trans (show cv=.type n from hc).symm
      |non=>exact hc.elim
      |bl _=>exact hc.elim
      |int _=>exact hc.elim
      |str _=>exact hc.elim
      |nj _=>exact hc.elim
      |sC _=>exact hc.elim
     subst ec;cases ty with
     |of ty=>exact Fa I r1 ty e λtk=>⟨.bl b,H,I.tok tk,rfl,q⟩
end
end L2
namespace L2.DL
inductive D where
 |non|bl (b:Bool)|int (i:Int)|str (x:Str)|tup (l:List D)|lst (l:List D)|ak (l:List (Key×D))
inductive W where
 |d (x:D)|b (n:Nat)|s (l:List Int)|x (i:Nat)|t (l:List Nat)|m (l:List (Str×Nat))
inductive Bx where
 |lst (l:List D)|ak (l:List (Key×D))|dead|dT (l:List (List Key×D))|fD (l:List (Key×D))
mutual
noncomputable def Den (F:Hp):D->V->Prop
 |.non,v=>v=.non
 |.bl b,v=>v=.bl b
 |.int i,v=>v=.int i
 |.str x,v=>v=.str x
 |.tup l,v=>∃ a vs,v=.ref a /\ F a=some (.tup vs) /\ ax F l vs
 |.lst l,v=>∃ a vs,v=.ref a /\ F a=some (.lst vs) /\ ax F l vs
 |.ak l,v=>∃ a ae,v=.ref a /\ F a=some (.dK ae) /\ az F l ae
noncomputable def ax (F:Hp):List D->List V->Prop
 |[],vs=>vs=[]
 |d::l,vs=>∃ v r,vs=v::r /\ Den F d v /\ ax F l r
noncomputable def az (F:Hp):List (Key×D)->List (Key×V)->Prop
 |[],r=>r=[]
 |(k,d)::l,r=>∃ v r',r=(k,v)::r' /\ Den F d v /\ az F l r'
end
def Sub (F F':Hp):Prop:=∀ a u,F a=some u->F' a=some u
theorem Sub.refl (F:Hp):Sub F F:=λ_ _ h=>h
theorem Sub.trans {G:Hp}(a:Sub F G) (b:Sub G H):Sub F H:=λx u h=>b x u (a x u h)
def uJ (F F':Hp):Prop:=∀ a u,(∀ o v,u≠.a4 o v)->F a=some u->F' a=some u
theorem Sub.d (s:Sub F F'):uJ F F':=λa u _ h=>s a u h
mutual
theorem Den.cL {F F':Hp}(s:uJ F F'):∀ (d:D) {v:V},Den F d v->Den F' d v
 |.non,_,h=>h
 |.bl _,_,h=>h
 |.int _,_,h=>h
 |.str _,_,h=>h
 | .tup l,_,h=>by
   obtain⟨a,vs,e,h1,h2⟩:=h;exact⟨a,vs,e,s _ _ (λ_ _ z=>nomatch z) h1,ax.cL s l h2⟩
 | .lst l,_,h=>by
   obtain⟨a,vs,e,h1,h2⟩:=h;exact⟨a,vs,e,s _ _ (λ_ _ z=>nomatch z) h1,ax.cL s l h2⟩
 | .ak l,_,h=>by
   obtain⟨a,vs,e,h1,h2⟩:=h;exact⟨a,vs,e,s _ _ (λ_ _ z=>nomatch z) h1,az.cL s l h2⟩
theorem ax.cL {F F':Hp}(s:uJ F F'):∀ (l:List D) {vs:List V},ax F l vs->ax F' l vs
 |[],_,h=>h
 | d::l,_,h=>by
   obtain⟨v,r,e,h1,h2⟩:=h;exact⟨v,r,e,Den.cL s d h1,ax.cL s l h2⟩
theorem az.cL {F F':Hp}(s:uJ F F'):∀ (l:List (Key×D)) {vs:List (Key×V)},az F l vs->az F' l vs
 |[],_,h=>h
 | (k,d)::l,_,h=>by
   obtain⟨v,r,e,h1,h2⟩:=h;exact⟨v,r,e,Den.cL s d h1,az.cL s l h2⟩
end
theorem Den.mono (s:Sub F F') (d:D) (h:Den F d v):Den F' d v:=Den.cL s.d d h
theorem ax.mono (s:Sub F F') (l:List D) {vs:List V}(h:ax F l vs):ax F' l vs:=ax.cL s.d l h
theorem az.mono (s:Sub F F') (l:List (Key×D)) {vs:List (Key×V)}(h:az F l vs):az F' l vs:=az.cL s.d l h
theorem ax.length {F:Hp}:∀ {l:List D}{vs:List V},ax F l vs->l.length=vs.length
 | [],_,h=>by
   have e:_=[]:=h;rw[e];rfl
 | d::l,_,h=>by
   obtain⟨v,r,e,_,h2⟩:=h;rw[e,bb,bb,h2.length]
theorem ax.get {F:Hp}:∀ {l:List D}{vs:List V}{i:Nat}{d:D},ax F l vs->l[i]?=some d->∃ v,vs[i]?=some v /\ Den F d v
 |[],_,_,_,_,e=>by simp at e
 | x::l,_,0,d,h,e=>by
   obtain⟨v,r,q,h1,_⟩:=h;simp at e;subst e;subst q;exact⟨v,rfl,h1⟩
 | x::l,_,i+1,d,h,e=>by
   obtain⟨v,r,q,_,h2⟩:=h;subst q;obtain⟨u,e1,e2⟩:=ax.get (i:=i) h2 (by simpa using e);exact⟨u,by simpa using e1,e2⟩
theorem ax.nil:ax F [] []:=rfl
theorem ax.cons {F:Hp}{d:D}{v:V}{l:List D}{vs:List V}(h:Den F d v) (t:ax F l vs):ax F (d::l) (v::vs):=⟨v,vs,rfl,h,t⟩
theorem ax.append {F:Hp}:∀ {l l':List D}{vs qC:List V},ax F l vs->ax F l' qC->ax F (l++l') (vs++qC)
 | [],_,_,_,h,t=>by
   have e:_=[]:=h;rw[e];exact t
 | d::l,_,_,_,h,t=>by
   obtain⟨v,r,q,h1,h2⟩:=h;subst q;exact .cons h1 (h2.append t)
theorem ax.take {F:Hp}:∀ {l:List D}{vs:List V}(n:Nat),ax F l vs->ax F (l.take n) (vs.take n)
 |l,_,0,_=>by rw[Q0,Q0];rfl
 | [],_,n+1,h=>by
   have e:_=[]:=h;rw[e];exact rfl
 | d::l,_,n+1,h=>by
   obtain⟨v,r,q,h1,h2⟩:=h;subst q;exact .cons h1 (h2.take n)
theorem ax.drop {F:Hp}:∀ {l:List D}{vs:List V}(n:Nat),ax F l vs->ax F (l.drop n) (vs.drop n)
 |l,_,0,h=>h
 | [],_,n+1,h=>by
   have e:_=[]:=h;rw[e];exact rfl
 | d::l,_,n+1,h=>by
   obtain⟨v,r,q,h1,h2⟩:=h;subst q;exact h2.drop n
theorem ax.reverse {F:Hp}:∀ {l:List D}{vs:List V},ax F l vs->ax F l.reverse vs.reverse
 | [],_,h=>by
   have e:_=[]:=h;rw[e];exact rfl
 | d::l,_,h=>by
   obtain⟨v,r,q,h1,h2⟩:=h;subst q;rw[xn,xn];exact h2.reverse.append (.cons h1 .nil)
theorem ax.set {F:Hp}{d:D}{v:V}(hd:Den F d v):∀ {l:List D}{vs:List V}(i:Nat),ax F l vs->ax F (l.set i d) (vs.set i v)
 | [],_,_,h=>by
   have e:_=[]:=h;rw[e];exact rfl
 | _::l,_,0,h=>by
   obtain⟨v',r,q,h1,h2⟩:=h;subst q;exact .cons hd h2
 | _::l,_,i+1,h=>by
   obtain⟨v',r,q,h1,h2⟩:=h;subst q;exact .cons h1 (ax.set hd i h2)
theorem ax.eraseIdx {F:Hp}:∀ {l:List D}{vs:List V}(i:Nat),ax F l vs->ax F (l.eraseIdx i) (vs.eraseIdx i)
 | [],_,_,h=>by
   have e:_=[]:=h;rw[e];exact rfl
 | _::l,_,0,h=>by
   obtain⟨v',r,q,h1,h2⟩:=h;subst q;exact h2
 | _::l,_,i+1,h=>by
   obtain⟨v',r,q,h1,h2⟩:=h;subst q;exact .cons h1 (h2.eraseIdx i)
structure Fr where
 H₀:Hp
 n₀:Nat
 F₀:Hp
noncomputable def rG (r:List Addr):List Nat->List Addr->Prop
 |[],as=>as=[]
 |n::l,as=>∃ a t,as=a::t /\ r[n]?=some a /\ rG r l t
theorem rG.mono {r r':List Addr}(p:r <+: r'):∀ {l:List Nat}{as:List Addr},rG r l as->rG r' l as
 |[],_,h=>h
 | n::l,_,h=>by
   obtain⟨a,t,e,h1,h2⟩:=h;refine⟨a,t,e,?_,h2.mono p⟩;obtain⟨u,rfl⟩:=p;rw[c6 (List.getElem?_eq_some_iff.mp h1).1];exact h1
def bq (F:Hp):List (List Key×D)->List (List Key×V)->Prop
 |[],r=>r=[]
 |(k,d)::l,r=>∃ v r',r=(k,v)::r' /\ Den F d v /\ bq F l r'
theorem bq.cL {F F':Hp}(s:uJ F F'):∀ (l:List (List Key×D)) {vs:List (List Key×V)},bq F l vs->bq F' l vs
 |[],_,h=>h
 | (k,d)::l,_,h=>by
   obtain⟨v,r,e,h1,h2⟩:=h;exact⟨v,r,e,Den.cL s d h1,bq.cL s l h2⟩
theorem bq.mono (s:Sub F F') (l:List (List Key×D)) {vs:List (List Key×V)}(h:bq F l vs):bq F' l vs:=bq.cL s.d l h
def a7 (F:Hp) (HY:List Addr):W->V->Prop
 |.d x,v=>Den F x v
 |.b n,v=>∃ a,v=.ref a /\ HY[n]?=some a
 |.s l,v=>∃ a o,v=.ref a /\ F a=some (.a4 o (.lst (l.map V.int)))
 |.x _,_=>False
 |.t l,v=>∃ c as,v=.ref c /\ F c=some (.tup (as.map V.ref)) /\ rG HY l as
 |.m l,v=>∃ c as,v=.ref c /\ F c=some (.dK (List.zipWith (λk a=>(.inr k.1,V.ref a)) l as)) /\ rG HY (l.map (·.2)) as
theorem a7.mono {F F':Hp}{r r':List Addr}(s:Sub F F') (p:r <+: r'):∀ (w:W) {v:V},a7 F r w v->a7 F' r' w v
 |.d x,_,h=>Den.mono s x h
 | .b n,_,h=>by
   obtain⟨a,e,h⟩:=h;refine⟨a,e,?_⟩;obtain⟨t,rfl⟩:=p;rw[c6 (List.getElem?_eq_some_iff.mp h).1];exact h
 |.s l,_,h=>let ⟨a,o,e,h⟩:=h;⟨a,o,e,s _ _ h⟩
 |.x _,_,h=>h
 |.t l,_,h=>let ⟨c,as,e,h1,h2⟩:=h;⟨c,as,e,s _ _ h1,h2.mono p⟩
 |.m l,_,h=>let ⟨c,as,e,h1,h2⟩:=h;⟨c,as,e,s _ _ h1,h2.mono p⟩
def pT (F H:Hp) (a:Addr):Bx->Prop
 |.lst l=>F a=none /\ ∃ vs,H a=some (.lst vs) /\ ax F l vs
 |.ak l=>F a=none /\ ∃ ae,H a=some (.dK ae) /\ az F l ae
 |.dead=>∃ u,H a=some u
 |.dT l=>F a=none /\ ∃ ae,H a=some (.dT ae) /\ bq F l ae
 |.fD l=>∃ o ae,F a=some (.a4 o (.dK ae)) /\ H a=some (.a4 o (.dK ae)) /\ az F l ae
noncomputable abbrev aM:=List (Option W)
noncomputable abbrev xB (n:Nat):Option W:=some (.b n)
noncomputable abbrev xN (i:Int):Option W:=some (.d (.int i))
noncomputable abbrev xJ (l:List Int):Option W:=some (.d (.lst (l.map D.int)))
structure Rel (T:Fr) (F:Hp) (r:List Addr) (σ:St) (H:Hp) (env:aM) (bx:List Bx):Prop where
 fh:Sub F H
 slot:∀ (i:Nat) (w:W),env[i]?=some (some w)->∃ v,σ[i]?=some (some v) /\ a7 F r w v
 len:r.length=bx.length
 nd:r.Nodup
 box:∀ (n:Nat) (c:Bx) (a:Addr),bx[n]?=some c->r[n]?=some a->pT F H a c
 keep:∀ a u,T.H₀ a=some u->a∉r->H a=some u
 new:∀ (n:Nat) (a:Addr),T.n₀<=n->r[n]?=some a->T.H₀ a=none
 n0:T.n₀<=r.length
 sl:env.length<=σ.length
 fs:∀ a u,F a=some u->(∃ vs,u=.tup vs) \/ T.F₀ a=some u \/ T.H₀ a=none \/ a∈r
structure aO (F:Hp) (r:List Addr) (F':Hp) (r':List Addr):Prop where
 s:Sub F F'
 p:r <+: r'
theorem aO.refl (F:Hp) (r:List Addr):aO F r F r:=⟨Sub.refl F,kJ r⟩
theorem aO.trans {F F' UC:Hp}{r r' UD:List Addr}(a:aO F r F' r') (b:aO F' r' UC UD):aO F r UC UD:=⟨a.s.trans b.s,a.p.trans b.p⟩
theorem aO.den {r':List Addr}(g:aO F r F' r') {w:W}(h:a7 F r w v):a7 F' r' w v:=h.mono g.s g.p w
inductive O (α:Type) where
 |val (a:α) (bx:List Bx)|exc (c:Nat) (bx:List Bx)|bad
abbrev DE (α:Type):=aM->List Bx->O α
noncomputable def fA {β:Type}(m:O α) (k:α->List Bx->O β):O β :=
 match m with
 |.val a bx=>k a bx
 |.exc c bx=>.exc c bx
 |.bad=>.bad
structure Xs where
 E:XK
 cl:Nat->Addr
noncomputable def End {β:Type}(T:Fr) (Z:Xs) (Rl:Hp->List Addr->α->β->Prop) (F:Hp) (r:List Addr) (σ:St) (env:aM) (Q:β->Hp->Prop):O α->Prop
 |.val d bx'=>∀ F' r' v H',aO F r F' r'->Rel T F' r' σ H' env bx'->Rl F' r' d v->Q v H'
 |.exc c bx'=>∀ F' r' H',aO F r F' r'->Rel T F' r' [] H' [] bx'->Z.E (.ref (Z.cl c)) none H'
 |.bad=>False
theorem End.weak {β:Type}{T:Fr}{Z:Xs}{Rl:Hp->List Addr->α->β->Prop}{r':List Addr}{env:aM}{Q:β->Hp->Prop}(g:aO F r F' r'):∀ {o:O α},End T Z Rl F r σ env Q o->End T Z Rl F' r' σ env Q o
 |.val _ _,h=>λF2 r2 v H2 g2=>h F2 r2 v H2 (g.trans g2)
 |.exc _ _,h=>λF2 r2 H2 g2=>h F2 r2 H2 (g.trans g2)
 |.bad,h=>h
theorem End.bind {β α' β':Type}{T:Fr}{Z:Xs}{R1:Hp->List Addr->α->β->Prop}{R2:Hp->List Addr->α'->β'->Prop}{env:aM}{Q:β'->Hp->Prop}{Q1:β->Hp->Prop}
 {m:O α}{k:α->List Bx->O α'}(h:End T Z R2 F r σ env Q (fA m k))
 (c:∀ d bx1 F1 r1 v H1,aO F r F1 r1->Rel T F1 r1 σ H1 env bx1->R1 F1 r1 d v->End T Z R2 F1 r1 σ env Q (k d bx1)->Q1 v H1):End T Z R1 F r σ env Q1 m:=by
 cases m with
 |val d bx=>exact λF' r' v H' g R q=>c d bx F' r' v H' g R q (End.weak g h)
 |exc n bx=>exact h
 |bad=>exact h
theorem Rel.drop {T:Fr}{env:aM}{bx:List Bx}(R:Rel T F r σ H env bx):Rel T F r [] H [] bx :=
 ⟨R.fh,λi w e=>by simp at e,R.len,R.nd,R.box,R.keep,R.new,R.n0,ao _,R.fs⟩
def tD (T:Fr) (Z:Xs) (m:DE W):TE:=λσ H Q=>∃ F r env bx,Rel T F r σ H env bx /\ End T Z a7 F r σ env Q (m env bx)
def PD (X:Cx) (T:Fr) (Z:Xs) (e:Expr) (m:DE W):Prop:=PE X e (tD T Z m)
abbrev XY:Hp->List Addr->Bool->Bool->Prop:=λ_ _ a b=>a=b
def qD (T:Fr) (Z:Xs) (m:DE Bool):TT:=λσ H Q=>∃ F r env bx,Rel T F r σ H env bx /\ End T Z XY F r σ env Q (m env bx)
def dq (X:Cx) (T:Fr) (Z:Xs) (e:Expr) (m:DE Bool):Prop:=PT X e (qD T Z m)
def dU (F:Hp) (r:List Addr):List W->List V->Prop
 |[],vs=>vs=[]
 |w::l,vs=>∃ v t,vs=v::t /\ a7 F r w v /\ dU F r l t
theorem dU.mono {F F':Hp}{r r':List Addr}(g:aO F r F' r'):∀ {l:List W}{vs:List V},dU F r l vs->dU F' r' l vs
 |[],_,h=>h
 | w::l,_,h=>by
   obtain⟨v,t,e,h1,h2⟩:=h;exact⟨v,t,e,g.den h1,h2.mono g⟩
def yq (T:Fr) (Z:Xs) (m:DE (List W)):TA:=λσ H Q=>∃ F r env bx,Rel T F r σ H env bx /\ End T Z dU F r σ env Q (m env bx)
def cY (X:Cx) (T:Fr) (Z:Xs) (es:List Expr) (m:DE (List W)):Prop:=PA X es (yq T Z m)
theorem PE.imp {t t':TE}(h:PE X e t) (f:∀ σ H Q,t' σ H Q->t σ H Q):PE X e t':=λpins s σ H Q I q=>h pins s σ H Q I (f σ H Q q)
theorem PT.imp {t t':TT}(h:PT X e t) (f:∀ σ H Q,t' σ H Q->t σ H Q):PT X e t':=λpins s σ H Q I q=>h pins s σ H Q I (f σ H Q q)
theorem PW.imp {t t':TT}(h:PW X e t) (f:∀ σ H Q,t' σ H Q->t σ H Q):PW X e t':=λwhole pins s σ H Q I q=>h whole pins s σ H Q I (f σ H Q q)
theorem PA.imp {e:List Expr}{t t':TA}(h:PA X e t) (f:∀ σ H Q,t' σ H Q->t σ H Q):PA X e t':=λpos pins s σ H Q I q=>h pos pins s σ H Q I (f σ H Q q)
theorem PS.imp {e:Stmt}{t t':TS}(h:PS X e t) (f:∀ Q σ H,t' Q σ H->t Q σ H):PS X e t':=λpins s σ H Q I q=>h pins s σ H Q I (f Q σ H q)
theorem dI.imp {e:List Stmt}{t t':TS}(h:dI X e t) (f:∀ Q σ H,t' Q σ H->t Q σ H):dI X e t':=λpins s σ H Q I q=>h pins s σ H Q I (f Q σ H q)
section
variable {T : Fr} {Z : Xs} {a b c : Expr} {ma mb mc : DE W} 
noncomputable def dV (i:Nat):DE W:=λenv bx=>match env[i]? with|some (some w)=>.val w bx|_=>.bad
theorem Gm (i:Nat) (hN:X.N[i]?=some x) (hv:uw X.env.scope x) (hd:(x==("__debug__":Str))=false)
 (kP:(x==("__classdict__":Str))=false):PD X T Z (.Name x pos) (dV i):=by
 refine PE.imp (FU hN hv hd kP) λσ H Q ⟨F,r,env,bx,R,h⟩=>?_;unfold dV at h;split at h
 ·rename_i w e;obtain⟨v,e1,e2⟩:=R.slot i w e;exact⟨v,e1,h F r v H (.refl F r) R e2⟩
 ·exact h.elim
noncomputable def dC (d:D):DE W:=λ_ bx=>.val (.d d) bx
theorem Bv {d:D}(h:PE X e (tC v)) (hd:∀ F,Den F d v):PD X T Z e (dC d):=
 PE.imp h λσ H Q ⟨F,r,env,bx,R,h⟩=>h F r v H (.refl F r) R (hd F)
theorem N9 {i:Int}{j}:PD X T Z (.Constant (.int i) j pos) (dC (.int i)):=Bv FV λ_=>rfl
theorem P6 {i:Bool}{j}:PD X T Z (.Constant (.bool i) j pos) (dC (.bl i)):=Bv PP λ_=>rfl
theorem Oa {j}:PD X T Z (.Constant .none j pos) (dC .non):=Bv NA λ_=>rfl
theorem Ob {j}:PD X T Z (.Constant (.str x) j pos) (dC (.str x)):=Bv mT λ_=>rfl
noncomputable def fg:DE (List W):=λ_ bx=>.val [] bx
def fc (m:DE W) (k:DE (List W)):DE (List W):=λenv bx=>fA (m env bx) λw bx1=>fA (k env bx1) λl ag=>.val (w::l) ag
theorem lD:cY X T Z [] fg:=PA.imp jY λσ H Q ⟨F,r,env,bx,R,h⟩=>h F r [] H (.refl F r) R rfl
theorem Gn {k:DE (List W)}(ha:PD X T Z e ma) (hr:cY X T Z es k) (hs:starEach (e::es) X.env=(false,eval e X.env)::starEach es X.env):cY X T Z (e::es) (fc ma k):=by
 refine PA.imp (iV ha hr hs) λσ H Q ⟨F,r,env,bx,R,h⟩=>?_;refine⟨F,r,env,bx,R,End.bind h λw bx1 F1 r1 v H1 g1 R1 d1 h1=>?_⟩;refine⟨F1,r1,env,bx1,R1,End.bind h1 λl ag F2 r2 vs H2 g2 R2 d2 h2=>?_⟩;exact h2 F2 r2 _ H2 (.refl F2 r2) R2 ⟨v,vs,rfl,g2.den d1,d2⟩
end
end L2.DL
variable {t tf : L2.DL.DE Bool}{te m ma : L2.DL.DE L2.DL.W}{ks mi : L2.DL.DE (List L2.DL.W)}{T : L2.DL.Fr}{l : List L2.DL.D}{env : L2.DL.aM}{B bx bx1 : List L2.DL.Bx}{Z : L2.DL.Xs}{fn : List L2.DL.W -> List L2.DL.Bx -> L2.DL.O L2.DL.W}{hd : L2.DL.D}
namespace L2.DL
theorem gZ (h:F p=none):Sub F (upd F p o):=λa u e=>by rw[fv (fU e h)];exact e
theorem Rel.n9 (R:Rel T F r σ H env bx) (h:H p=none):F p=none:=by
 cases e:F p with
 |none=>rfl
 |some u=>rw[R.fh p u e]at h;cases h
theorem pT.there:∀ {c:Bx},pT F H a c->∃ u,H a=some u
 |.lst _,h=>let ⟨_,vs,e,_⟩:=h;⟨_,e⟩
 |.ak _,h=>let ⟨_,vs,e,_⟩:=h;⟨_,e⟩
 |.dead,h=>h
 |.dT _,h=>let ⟨_,vs,e,_⟩:=h;⟨_,e⟩
 |.fD _,h=>let ⟨_,_,_,e,_⟩:=h;⟨_,e⟩
theorem Rel.dW (R:Rel T F r σ H env bx) (e:r[n]?=some a):∃ c,bx[n]?=some c /\ pT F H a c:=by
 have h:=(List.getElem?_eq_some_iff.mp e).1;rw[R.len]at h;exact⟨_,kK h,R.box n _ a (kK h) e⟩
theorem Rel.uK (R:Rel T F r σ H env bx) (h:H p=none):p∉r:=λhp=>by
 obtain⟨n,e⟩:=List.mem_iff_getElem?.mp hp;obtain⟨c,_,k⟩:=R.dW e;obtain⟨u,k⟩:=k.there;rw[h]at k;cases k
theorem pT.grow (s:Sub F F') (hf:F a=none->F' a=none) (hh:∀ u,H a=some u->H' a=some u):∀ {c:Bx},pT F H a c->pT F' H' a c
 |.lst _,h=>let ⟨h1,vs,h2,h3⟩:=h;⟨hf h1,vs,hh _ h2,ax.mono s _ h3⟩
 |.ak _,h=>let ⟨h1,vs,h2,h3⟩:=h;⟨hf h1,vs,hh _ h2,az.mono s _ h3⟩
 |.dead,h=>let ⟨u,h⟩:=h;⟨u,hh u h⟩
 |.dT _,h=>let ⟨h1,vs,h2,h3⟩:=h;⟨hf h1,vs,hh _ h2,bq.mono s _ h3⟩
 |.fD _,h=>let ⟨o,vs,h1,h2,h3⟩:=h;⟨o,vs,s _ _ h1,hh _ h2,az.mono s _ h3⟩
theorem Rel.yr (R:Rel T F r σ H env bx) (h:H p=none):Rel T (upd F p o) r σ (upd H p o) env bx:=by
 have hf:=R.n9 h;have s:=gZ (o:=o) hf;refine⟨λa u e=>?_,λi w e=>?_,R.len,R.nd,λn c a e1 e2=>?_,λa u e hn=>?_,R.new,R.n0,R.sl,λa u e=>?_⟩
 ·by_cases ha:a=p
  ·subst ha;rw[fu]at e ⊢;exact e
  ·rw[fv ha]at e ⊢;exact R.fh a u e
 ·obtain⟨v,e1,e2⟩:=R.slot i w e;exact⟨v,e1,e2.mono s (kJ r)⟩
 ·have k:=R.box n c a e1 e2;obtain⟨u,hu⟩:=k.there;have ha:a≠p:=fU hu h;exact k.grow s (λz=>by rw[fv ha];exact z) (λu z=>by rw[fv ha];exact z)
 ·have k:=R.keep a u e hn;rw[fv (fU k h)];exact k
 ·by_cases ha:a=p
  ·subst ha;refine .inr (.inr (.inl ?_));cases q:T.H₀ a with
   |none=>rfl
   |some u=>rw[R.keep a u q (R.uK h)]at h;cases h
  ·rw[fv ha]at e;exact R.fs a u e
theorem Rel.sV (R:Rel T F r σ H env bx) (h:H p=none):aO F r (upd F p o) r:=⟨gZ (R.n9 h),kJ r⟩
theorem Rel.yt (R:Rel T F r σ H env bx) {c:Bx}(h:H p=none) (hc:pT F (upd H p o) p c):Rel T F (r++[p]) σ (upd H p o) env (bx++[c]):=by
 have hs:∀ a u,H a=some u->upd H p o a=some u:=λa u e=>by rw[fv (fU e h)];exact e
 refine⟨λa u e=>hs a u (R.fh a u e),λi w e=>?_,by rw[cG,cG,R.len];rfl,?_,λn c' a e1 e2=>?_,λa u e hn=>?_,λn a hn e=>?_,by rw[cG];exact bP R.n0 (vm _ _),R.sl,λa u e=>(R.fs a u e).imp id (Or.imp id (Or.imp id λz=>qb _ z))⟩
 ·obtain⟨v,e1,e2⟩:=R.slot i w e;exact⟨v,e1,e2.mono (Sub.refl F) (ui r [p])⟩
 ·rw[uk];refine⟨R.nd,by simp,λa ha b hb=>?_⟩;rw[nT]at hb;subst hb;exact λz=>R.uK h (z▸ha)
 ·by_cases hn:n<r.length
  ·rw[c6 hn]at e2;rw[c6 (by rw[<-R.len];exact hn)]at e1;exact(R.box n c' a e1 e2).grow (Sub.refl F) id (hs a)
  ·rw[cE (by omega)]at e2;rw[cE (by rw[<-R.len];omega)]at e1;have hl:n-r.length=0:=by
    cases q:n-r.length with
    |zero=>rfl
    |succ k=>rw[q]at e2;simp at e2
   have dJ:n-bx.length=0:=by rw[<-R.len];exact hl
   rw[hl]at e2;rw[dJ]at e1;simp at e1 e2;subst e1 e2;exact hc
 ·exact hs a u (R.keep a u e λz=>hn (qb _ z))
 ·by_cases hl:n<r.length
  ·rw[c6 hl]at e;exact R.new n a hn e
  ·have hp:a=p:=by
    rw[cE (by omega)]at e;cases q:n-r.length with
    |zero=>rw[q]at e;simp at e;exact e.symm
    |succ k=>rw[q]at e;simp at e
   subst hp;cases q:T.H₀ a with
   |none=>rfl
   |some u=>rw[R.keep a u q (R.uK h)]at h;cases h
theorem ju {l:List α}(h:l.Nodup) {x:α}(a:l[i]?=some x) (b:l[j]?=some x):i=j:=by
 have h1:=(List.getElem?_eq_some_iff.mp a).1;have h2:=(List.getElem?_eq_some_iff.mp b).1;exact(List.getElem?_inj h1 h).mp (a.trans b.symm)
theorem Rel.write (R:Rel T F r σ H env bx) {c:Bx}(e:r[n]?=some a) (hF:F a=none) (hc:pT F (upd H a o) a c):Rel T F r σ (upd H a o) env (bx.set n c):=by
 have ha:a∈r:=List.mem_iff_getElem?.mpr ⟨n,e⟩;refine⟨λb u q=>?_,R.slot,by rw[nh];exact R.len,R.nd,λm c' b e1 e2=>?_,λb u q hn=>?_,R.new,R.n0,R.sl,R.fs⟩
 ·by_cases hb:b=a
  ·subst hb;rw[hF]at q;cases q
  ·rw[fv hb];exact R.fh b u q
 ·by_cases hm:m=n
  ·subst hm;rw[e]at e2;cases e2;rw[k9 (by rw[<-R.len];exact(List.getElem?_eq_some_iff.mp e).1)]at e1;cases e1;exact hc
  ·rw[qf (Ne.symm hm)]at e1;have hb:b≠a:=λz=>hm (ju R.nd e2 (z▸e));exact(R.box m c' b e1 e2).grow (Sub.refl F) id λu z=>by rw[fv hb];exact z
 ·rw[fv (λz=>hn (by rw[z];exact ha))];exact R.keep b u q hn
theorem Rel.freeze (R:Rel T F r σ H env bx) (e:r[n]?=some a) (hF:F a=none) (hH:H a=some o):Rel T (upd F a o) r σ H env (bx.set n .dead) /\ aO F r (upd F a o) r:=by
 have s:=gZ (o:=o) hF;refine⟨⟨λb u q=>?_,λi w q=>?_,by rw[nh];exact R.len,R.nd,λm c' b e1 e2=>?_,R.keep,R.new,R.n0,R.sl,λb u q=>?_⟩,s,kJ r⟩
 ·by_cases hb:b=a
  ·subst hb;rw[fu]at q;cases q;exact hH
  ·rw[fv hb]at q;exact R.fh b u q
 ·obtain⟨v,e1,e2⟩:=R.slot i w q;exact⟨v,e1,e2.mono s (kJ r)⟩
 ·by_cases hm:m=n
  ·subst hm;rw[e]at e2;cases e2;rw[k9 (by rw[<-R.len];exact(List.getElem?_eq_some_iff.mp e).1)]at e1;cases e1;exact⟨_,hH⟩
  ·rw[qf (Ne.symm hm)]at e1;have hb:b≠a:=λz=>hm (ju R.nd e2 (z▸e));exact(R.box m c' b e1 e2).grow s (λz=>by rw[fv hb];exact z) λu z=>z
 ·by_cases hb:b=a
  ·subst hb;exact .inr (.inr (.inr (List.mem_iff_getElem?.mpr ⟨n,e⟩)))
  ·rw[fv hb]at q;exact R.fs b u q
def kB (F H:Hp):D->V->Prop
 |.lst l,v=>∃ a vs,v=.ref a /\ H a=some (.lst vs) /\ ax F l vs
 |.ak l,v=>∃ a ae,v=.ref a /\ H a=some (.dK ae) /\ az F l ae
 |.tup l,v=>∃ a vs,v=.ref a /\ F a=some (.tup vs) /\ ax F l vs
 |.non,v=>v=.non
 |.bl b,v=>v=.bl b
 |.int i,v=>v=.int i
 |.str x,v=>v=.str x
noncomputable def br (bx:List Bx):W->Option D
 |.d x=>some x
 | .b n=>match bx[n]? with
   |some (.lst l)=>some (.lst l)
   |some (.ak l)=>some (.ak l)
   |_=>none
 |_=>none
theorem Den.pb (s:Sub F H):∀ {d:D}{v:V},Den F d v->kB F H d v
 |.non,_,h=>h
 |.bl _,_,h=>h
 |.int _,_,h=>h
 |.str _,_,h=>h
 |.tup l,_,h=>h
 |.lst l,_,h=>let ⟨a,vs,e,h1,h2⟩:=h;⟨a,vs,e,s _ _ h1,h2⟩
 |.ak l,_,h=>let ⟨a,vs,e,h1,h2⟩:=h;⟨a,vs,e,s _ _ h1,h2⟩
theorem Rel.pb (R:Rel T F r σ H env bx) {w:W}{v:V}{d:D}(h:a7 F r w v) (e:br bx w=some d):kB F H d v:=by
 cases w with
 | d x =>
   cases e;exact Den.pb R.fh h
 | b n =>
   obtain⟨a,rfl,ha⟩:=h;obtain⟨c,hc,k⟩:=R.dW ha;simp only[br,hc]at e;cases c with
   |lst l=>cases e;obtain⟨_,vs,k1,k2⟩:=k;exact⟨a,vs,rfl,k1,k2⟩
   |ak l=>cases e;obtain⟨_,vs,k1,k2⟩:=k;exact⟨a,vs,rfl,k1,k2⟩
   |dead=>cases e
   |dT _=>cases e
   |fD _=>cases e
 |s l=>cases e
 |x i=>exact h.elim
 |t _=>cases e
 |m _=>cases e
def HZ (F H:Hp):List D->List V->Prop
 |[],vs=>vs=[]
 |d::l,vs=>∃ v t,vs=v::t /\ kB F H d v /\ HZ F H l t
def eX (bx:List Bx):List W->Option (List D)
 |[]=>some []
 |w::l=>(br bx w).bind λd=>(eX bx l).map λt=>d::t
theorem Rel.UE (R:Rel T F r σ H env bx):∀ {ws:List W}{vs:List V}{ds:List D},dU F r ws vs->eX bx ws=some ds->HZ F H ds vs
 |[],_,_,h,e=>by cases e;exact h
 | w::l,_,ds,h,e=>by
   obtain⟨v,t,q,h1,h2⟩:=h;unfold eX at e;cases e1:br bx w with
   |none=>rw[e1]at e;cases e
   | some d =>
     rw[e1]at e;cases e2:eX bx l with
     |none=>rw[e2]at e;cases e
     | some t' =>
       rw[e2]at e;cases e;exact⟨v,t,q,R.pb h1 e1,R.UE h2 e2⟩
inductive Res where
 |old (d:D)|tup (l:List D)|lst (l:List D)|ak (l:List (Key×D))
noncomputable def Res.toD:Res->D
 |.old d=>d|.tup l=>.tup l|.lst l=>.lst l|.ak l=>.ak l
def sW (F H:Hp):Res->V->Hp->Prop
 |.old d,v,H'=>H'=H /\ Den F d v
 |.tup l,v,H'=>(H'=H /\ Den F (.tup l) v) \/ ∃ p vs,v=.ref p /\ H p=none /\ H'=upd H p (.tup vs) /\ ax F l vs
 |.lst l,v,H'=>∃ p vs,v=.ref p /\ H p=none /\ H'=upd H p (.lst vs) /\ ax F l vs
 |.ak l,v,H'=>∃ p vs,v=.ref p /\ H p=none /\ H'=upd H p (.dK vs) /\ az F l vs
theorem Rel.res (R:Rel T F r σ H env bx):∀ {q:Res},sW F H q v H'->∃ F',aO F r F' r /\ Rel T F' r σ H' env bx /\ Den F' q.toD v
 | .old d,h=>by
   obtain⟨rfl,h⟩:=h;exact⟨F,.refl F r,R,h⟩
 | .tup l,h=>by
   rcases h with⟨rfl,h⟩|⟨p,vs,rfl,hp,rfl,h⟩
   ·exact⟨F,.refl F r,R,h⟩
   exact⟨_,R.sV hp,R.yr hp,p,vs,rfl,fu,ax.mono (R.sV (o:=.tup vs) hp).s l h⟩
 | .lst l,h=>by
   obtain⟨p,vs,rfl,hp,rfl,h⟩:=h;exact⟨_,R.sV hp,R.yr hp,p,vs,rfl,fu,ax.mono (R.sV (o:=.lst vs) hp).s l h⟩
 | .ak l,h=>by
   obtain⟨p,vs,rfl,hp,rfl,h⟩:=h;exact⟨_,R.sV hp,R.yr hp,p,vs,rfl,fu,az.mono (R.sV (o:=.dK vs) hp).s l h⟩
theorem Rel.resB (R:Rel T F r σ H env bx) (h:sW F H (.lst l) v H'):∃ r',aO F r F r' /\ Rel T F r' σ H' env (bx++[.lst l]) /\ a7 F r' (.b bx.length) v:=by
 obtain⟨p,vs,rfl,hp,rfl,h⟩:=h;refine⟨r++[p],⟨Sub.refl F,ui r [p]⟩,R.yt hp ⟨R.n9 hp,vs,fu,h⟩,p,rfl,?_⟩;rw[<-R.len,cE (ao _),p9];rfl
theorem Rel.XZ (R:Rel T F r σ H env bx) {l:List (Key×D)}(h:sW F H (.ak l) v H'):∃ r',aO F r F r' /\ Rel T F r' σ H' env (bx++[.ak l]) /\ a7 F r' (.b bx.length) v:=by
 obtain⟨p,vs,rfl,hp,rfl,h⟩:=h;refine⟨r++[p],⟨Sub.refl F,ui r [p]⟩,R.yt hp ⟨R.n9 hp,vs,fu,h⟩,p,rfl,?_⟩;rw[<-R.len,cE (ao _),p9];rfl
def bH (b:Bool):Option Res->List Bx->O W
 |none,_=>.bad
 | some q,bx=>match b,q with
   |true,.lst l=>.val (.b bx.length) (bx++[.lst l])
   |true,.ak l=>.val (.b bx.length) (bx++[.ak l])
   |_,_=>.val (.d q.toD) bx
theorem g6 {Q:VK}{b:Bool}{q:Res}(R:Rel T F r σ H env bx) (h:End T Z a7 F r σ env Q (bH b (some q) bx)) (k:sW F H q v H'):Q v H':=by
 have one:End T Z a7 F r σ env Q (.val (.d q.toD) bx)->Q v H':=λh=>by
  obtain⟨F',g,R',d⟩:=R.res k;exact h F' r v H' g R' d
 cases b with
 |false=>exact one h
 | true =>
   cases q with
   |old d=>exact one h
   |tup l=>exact one h
   | lst l =>
     obtain⟨r',g,R',d⟩:=R.resB k;exact h F r' v H' g R' d
   | ak l =>
     obtain⟨r',g,R',d⟩:=R.XZ k;exact h F r' v H' g R' d
def bI (q:R2) (g:D->D->Option Res):Prop:=∀ (F H:Hp) (x y:D) (v w:V) (Q:VK) (s:Res),Sub F H->kB F H x v->kB F H y w->g x y=some s->(∀ u H',sW F H s u H'->Q u H')->q v w H Q
def eO (q:List V->Hp->VK->Prop) (g:List D->Option Res):Prop:=∀ (F H:Hp) (xs:List D) (vs:List V) (Q:VK) (s:Res),Sub F H->HZ F H xs vs->g xs=some s->(∀ u H',sW F H s u H'->Q u H')->q vs H Q
def d2 (b:Bool) (g:D->D->Option Res) (ma mb:DE W):DE W:=λenv bx=>fA (ma env bx) λx bx1=>fA (mb env bx1) λy ag=>bH b ((br ag x).bind λp=>(br ag y).bind λq=>g p q) ag
theorem C3 {q:R2}{g:D->D->Option Res}{b:Bool}{mb:DE W}(hg:bI q g) (σ:St) (H:Hp) (Q:VK) (h:tD T Z (d2 b g ma mb) σ H Q):vO q (tD T Z ma) (tD T Z mb) σ H Q:=by
 obtain⟨F,r,env,bx,R,h⟩:=h;refine⟨F,r,env,bx,R,End.bind h λx bx1 F1 r1 v H1 g1 R1 d1 h1=>?_⟩;refine⟨F1,r1,env,bx1,R1,End.bind h1 λy ag F2 r2 w H2 g2 R2 Ia h2=>?_⟩;have X0:=g2.den d1;cases e1:br ag x with
 |none=>rw[e1]at h2;exact h2.elim
 | some p =>
   cases e2:br ag y with
   |none=>rw[e1,e2]at h2;exact h2.elim
   | some z =>
     cases e3:g p z with
     |none=>rw[e1,e2]at h2;simp only[bD,e3]at h2;exact h2.elim
     | some s =>
       rw[e1,e2]at h2;simp only[bD,e3]at h2;exact hg F2 H2 p z v w Q s R2.fh (R2.pb X0 e1) (R2.pb Ia e2) e3 λu H' k=>g6 R2 h2 k
def dN (b:Bool) (g:List D->Option Res) (k:DE (List W)):DE W:=λenv bx=>fA (k env bx) λws bx1=>bH b ((eX bx1 ws).bind g) bx1
theorem Na {g:List D->Option Res}{b:Bool}{k:DE (List W)}(hg:eO q g) (σ:St) (H:Hp) (Q:VK) (h:tD T Z (dN b g k) σ H Q):Hv q (yq T Z k) σ H Q:=by
 obtain⟨F,r,env,bx,R,h⟩:=h;refine⟨F,r,env,bx,R,End.bind h λws bx1 F1 r1 vs H1 g1 R1 d1 h1=>?_⟩;cases e1:eX bx1 ws with
 |none=>rw[e1]at h1;exact h1.elim
 | some ds =>
   rw[e1]at h1;cases e2:g ds with
   |none=>simp only[bD,e2]at h1;exact h1.elim
   | some s =>
     simp only[bD,e2]at h1;exact hg F1 H1 ds vs Q s R1.fh (R1.UE d1 e1) e2 λu H' k=>g6 R1 h1 k
end L2.DL
variable {g : L2.DL.D -> L2.DL.D -> Option L2.DL.Res}
namespace L2.DL
section
variable {a b c : Expr} {mb mc : DE W} {p : Pos}
theorem Oc {op:Operator}{q:R2}(bo:Bool) (ho:aH X (binaryOp op) q) (hg:bI q g) (ha:PD X T Z a ma) (hb:PD X T Z b mb):PD X T Z (.BinOp a op b pos) (d2 bo g ma mb):=
 PE.imp (PU ho ha hb) (C3 hg)
theorem Od {q:R2}(ho:aH X (compareOp op) q) (hg:bI q g) (ha:PD X T Z a ma) (hb:PD X T Z b mb) (hm:behindInMarks op b=false):PD X T Z (.Compare a [op] [b] pos) (d2 false g ma mb):=
 PE.imp (J9 ho ha hb hm) (C3 hg)
theorem P7 {q:R2}(ho:pP X q) (hg:bI q g) (ha:PD X T Z a ma) (hb:PD X T Z b mb) (hs:yh b):PD X T Z (.Subscript a b pos) (d2 false g ma mb):=
 PE.imp (M8 ho ha hb hs) (C3 hg)
def dB (m:DE W):DE Bool:=λenv bx=>fA (m env bx) λw bx1=>match w with|.d (.bl k)=>.val k bx1|_=>.bad
theorem Oe {Q:Bool->Hp->Prop}(h:qD T Z (dB ma) σ H Q):tB (tD T Z ma) σ H Q:=by
 obtain⟨F,r,env,bx,R,h⟩:=h;refine⟨F,r,env,bx,R,End.bind h λw bx1 F1 r1 v H1 g1 R1 d1 h1=>?_⟩;split at h1
 ·rename_i k;exact⟨k,d1,h1 F1 r1 k H1 (.refl F1 r1) R1 rfl⟩
 ·exact h1.elim
theorem Ll (h:PD X T Z e ma) (he:∀ whole,isTrue e X.env whole=(do let v <-whole;standAt e.pos;holding [v] (truthy v))):dq X T Z e (dB ma):=
 PT.imp (NB h he) λσ H Q h=>Oe h
theorem Lm {q:R2}(ho:aH X (compareOp op) q) (hg:bI q g) (ha:PD X T Z a ma) (hb:PD X T Z b mb) (hm:behindInMarks op b=false):dq X T Z (.Compare a [op] [b] pos) (dB (d2 false g ma mb)):=by
 refine PT.imp (La ho ha hb hm) λσ H Q h=>?_;obtain⟨F,r,env,bx,R,h⟩:=h;refine C3 (T:=T) (Z:=Z) (b:=false) hg σ H _ ⟨F,r,env,bx,R,End.bind h λw bx1 F1 r1 v H1 g1 R1 d1 h1=>?_⟩;split at h1
 ·rename_i k;exact⟨k,d1,h1 F1 r1 k H1 (.refl F1 r1) R1 rfl⟩
 ·exact h1.elim
theorem ax.isEmpty {F:Hp}{l:List D}{vs:List V}(h:ax F l vs):l.isEmpty=vs.isEmpty:=by
 have:=h.length;cases l<;>cases vs<;>simp_all
theorem az.length {F:Hp}:∀ {l:List (Key×D)}{vs:List (Key×V)},az F l vs->l.length=vs.length
 | [],_,h=>by
   have e:_=[]:=h;rw[e];rfl
 | (k,d)::l,_,h=>by
   obtain⟨v,r,e,_,h2⟩:=h;rw[e,bb,bb,h2.length]
def d3 (g g':D->D->Option Res) (ma mb mc:DE W):DE W:=λenv bx=>fA (ma env bx) λx bx1=>fA (mb env bx1) λy ag =>
 fA (bH false ((br ag x).bind λp=>(br ag y).bind λq=>g p q) ag) λz bE=>match z with
  |.d (.bl true)=>fA (mc env bE) λw cM=>bH false ((br cM y).bind λp=>(br cM w).bind λq=>g' p q) cM
  |.d (.bl false)=>.val (.d (.bl false)) bE
  |_=>.bad
theorem UG {q:R2}(hg:bI q g) {x y:W}{w:V}{Q:VK}(R:Rel T F r σ H env bx) (dx:a7 F r x v) (dy:a7 F r y w)
 (h:End T Z a7 F r σ env Q (bH false ((br bx x).bind λp=>(br bx y).bind λq=>g p q) bx)):q v w H Q:=by
 cases e1:br bx x with
 |none=>rw[e1]at h;exact h.elim
 | some p =>
   cases e2:br bx y with
   |none=>rw[e1,e2]at h;exact h.elim
   | some z =>
     cases e3:g p z with
     |none=>rw[e1,e2]at h;simp only[bD,e3]at h;exact h.elim
     | some s =>
       rw[e1,e2]at h;simp only[bD,e3]at h;exact hg F H p z v w Q s R.fh (R.pb dx e1) (R.pb dy e2) e3 λu H' k=>g6 R h k
theorem Ln {q q':R2}{g':D->D->Option Res}(hg:bI q g) (yu:bI q' g') {Q:VK}(h:tD T Z (d3 g g' ma mb mc) σ H Q):T7 q q' (tD T Z ma) (tD T Z mb) (tD T Z mc) σ H Q:=by
 obtain⟨F,r,env,bx,R,h⟩:=h;refine⟨F,r,env,bx,R,End.bind h λx bx1 F1 r1 v H1 g1 R1 d1 h1=>?_⟩;refine⟨F1,r1,env,bx1,R1,End.bind h1 λy ag F2 r2 w H2 g2 R2 d2 h2=>?_⟩;refine UG (T:=T) (Z:=Z) (bx:=ag) hg R2 (g2.den d1) d2 (End.bind h2 λz bE F3 r3 u H3 g3 R3 d3 h3=>?_);split at h3
 ·refine⟨true,d3,?_⟩;rw[if_pos rfl];refine⟨F3,r3,env,bE,R3,End.bind h3 λt cM F4 r4 s H4 g4 R4 d4 h4=>?_⟩;exact UG (T:=T) (Z:=Z) yu R4 (g4.den (g3.den d2)) d4 h4
 ·refine⟨false,d3,?_⟩;rw[if_neg (by decide)];exact h3 F3 r3 _ H3 (.refl F3 r3) R3 rfl
 ·exact h3.elim
theorem Go {eU:CmpOp}{q q':R2}{g':D->D->Option Res}(ho:aH X (compareOp op) q) (nY:aH X (compareOp eU) q') (hg:bI q g) (yu:bI q' g') (ha:PD X T Z a ma) (hb:PD X T Z b mb) (hc:PD X T Z c mc)
 (hm:lastMarks [op,eU] [b,c]=false):PD X T Z (.Compare a [op,eU] [b,c] pos) (d3 g g' ma mb mc):=
 PE.imp (F9 ho nY ha hb hc hm) λσ H Q h=>Ln hg yu h
def kC (m k:DE Bool):DE Bool:=λenv bx=>fA (m env bx) λb bx1=>match b with|true=>k env bx1|false=>.val false bx1
def eY (m k:DE Bool):DE Bool:=λenv bx=>fA (m env bx) λb bx1=>match b with|true=>.val true bx1|false=>k env bx1
def eP (m:DE Bool):DE Bool:=λenv bx=>fA (m env bx) λb bx1=>.val (!b) bx1
def pU (X:Cx) (T:Fr) (Z:Xs) (e:Expr) (m:DE Bool):Prop:=PW X e (qD T Z m)
variable {ta tb : DE Bool} {rest : List Expr}
theorem Gp (h:dq X T Z a ta):pU X T Z (.BoolOp .And [a] pos) ta:=J2 h
theorem Lo (h:dq X T Z a ta):pU X T Z (.BoolOp .Or [a] pos) ta:=NC h
theorem Lp (ha:dq X T Z a ta) (hb:pU X T Z (.BoolOp .And (b::rest) pos) tb):pU X T Z (.BoolOp .And (a::b::rest) pos) (kC ta tb):=by
 refine PW.imp (ND ha hb) λσ H Q ⟨F,r,env,bx,R,h⟩=>?_;refine⟨F,r,env,bx,R,End.bind h λk bx1 F1 r1 v H1 g1 R1 d1 h1=>?_⟩;subst d1;cases k with
 |true=>rw[if_pos rfl];exact⟨F1,r1,env,bx1,R1,h1⟩
 |false=>rw[if_neg (by decide)];exact h1 F1 r1 _ H1 (.refl F1 r1) R1 rfl
theorem Of (ha:dq X T Z a ta) (hb:pU X T Z (.BoolOp .Or (b::rest) pos) tb):pU X T Z (.BoolOp .Or (a::b::rest) pos) (eY ta tb):=by
 refine PW.imp (PQ ha hb) λσ H Q ⟨F,r,env,bx,R,h⟩=>?_;refine⟨F,r,env,bx,R,End.bind h λk bx1 F1 r1 v H1 g1 R1 d1 h1=>?_⟩;subst d1;cases k with
 |false=>rw[if_neg (by decide)];exact⟨F1,r1,env,bx1,R1,h1⟩
 |true=>rw[if_pos rfl];exact h1 F1 r1 _ H1 (.refl F1 r1) R1 rfl
theorem Nb (h:pU X T Z e ta):dq X T Z e ta:=h.pt
theorem Lq (h:dq X T Z a ta):dq X T Z (.UnaryOp .Not a pos) (eP ta):=by
 refine PT.imp (NE h) λσ H Q ⟨F,r,env,bx,R,h⟩=>?_;refine⟨F,r,env,bx,R,End.bind h λk bx1 F1 r1 v H1 g1 R1 d1 h1=>?_⟩;subst d1;exact h1 F1 r1 _ H1 (.refl F1 r1) R1 rfl
def gH (m k:DE W):DE W:=λenv bx=>fA (m env bx) λw bx1=>match w with|.d (.bl true)=>k env bx1|.d (.bl false)=>.val (.d (.bl false)) bx1|_=>.bad
def yw (m:DE W):DE W:=λenv bx=>fA (m env bx) λw bx1=>match w with|.d (.bl k)=>.val (.d (.bl (!k))) bx1|_=>.bad
theorem Og {op}(h:PD X T Z a ma):PD X T Z (.BoolOp op [a] pos) ma:=NG h
theorem Oh (ha:PD X T Z a ma) (hb:PD X T Z (.BoolOp .And (b::rest) pos) mb):PD X T Z (.BoolOp .And (a::b::rest) pos) (gH ma mb):=by
 refine PE.imp (NH ha hb) λσ H Q ⟨F,r,env,bx,R,h⟩=>?_;refine⟨F,r,env,bx,R,End.bind h λw bx1 F1 r1 v H1 g1 R1 d1 h1=>?_⟩;split at h1
 ·refine⟨true,d1,?_⟩;rw[if_pos rfl];exact⟨F1,r1,env,bx1,R1,h1⟩
 ·refine⟨false,d1,?_⟩;rw[if_neg (by decide)];exact h1 F1 r1 _ H1 (.refl F1 r1) R1 rfl
 ·exact h1.elim
theorem Oi (ha:PD X T Z a ma):PD X T Z (.UnaryOp .Not a pos) (yw ma):=by
 refine PE.imp (NI ha) λσ H Q ⟨F,r,env,bx,R,h⟩=>?_;refine⟨F,r,env,bx,R,End.bind h λw bx1 F1 r1 v H1 g1 R1 d1 h1=>?_⟩;split at h1
 ·rename_i k;exact⟨k,d1,h1 F1 r1 _ H1 (.refl F1 r1) R1 rfl⟩
 ·exact h1.elim
def rH (t:DE Bool) (m k:DE W):DE W:=λenv bx=>fA (t env bx) λb bx1=>match b with|true=>m env bx1|false=>k env bx1
theorem Oj (hc:dq X T Z c ta) (ha:PD X T Z a ma) (hb:PD X T Z b mb):PD X T Z (.IfExp c a b pos) (rH ta ma mb):=by
 refine PE.imp (FY hc ha hb) λσ H Q ⟨F,r,env,bx,R,h⟩=>?_;refine⟨F,r,env,bx,R,End.bind h λk bx1 F1 r1 v H1 g1 R1 d1 h1=>?_⟩;subst d1;cases k with
 |true=>rw[if_pos rfl];exact⟨F1,r1,env,bx1,R1,h1⟩
 |false=>rw[if_neg (by decide)];exact⟨F1,r1,env,bx1,R1,h1⟩
noncomputable def kD:List W->Option (List D)
 |[]=>some []
 |.d x::l=>(kD l).map λt=>x::t
 |_=>none
theorem dU.ds {F:Hp}{r:List Addr}:∀ {ws:List W}{vs:List V}{ds:List D},dU F r ws vs->kD ws=some ds->ax F ds vs
 |[],_,_,h,e=>by cases e;exact h
 | .d x::l,_,ds,h,e=>by
   obtain⟨v,t,q,h1,h2⟩:=h;unfold kD at e;cases e2:kD l with
   |none=>rw[e2]at e;cases e
   | some t' =>
     rw[e2]at e;cases e;exact⟨v,t,q,h1,h2.ds e2⟩
 |.b _::l,_,ds,h,e=>by cases e
 |.s _::l,_,ds,h,e=>by cases e
 |.x _::l,_,ds,h,e=>by cases e
 |.t _::l,_,ds,h,e=>by cases e
 |.m _::l,_,ds,h,e=>by cases e
def fK (k:DE (List W)):DE W:=λenv bx=>fA (k env bx) λws bx1=>bH false ((kD ws).bind λl=>if l.length<=sizeLine then some (.tup l) else none) bx1
def gI (bo:Bool) (k:DE (List W)):DE W:=λenv bx=>fA (k env bx) λws bx1=>bH bo ((kD ws).bind λl=>if l.length<=sizeLine then some (.lst l) else none) bx1
theorem Ol {x1}{k:DE (List W)}(h:cY X T Z es k):PD X T Z (.Tuple es x1 pos) (fK k):=by
 refine PE.imp (NW h) λσ H Q ⟨F,r,env,bx,R,h⟩=>?_;refine⟨F,r,env,bx,R,End.bind h λws bx1 F1 r1 vs H1 g1 R1 d1 h1=>?_⟩;cases e:kD ws with
 |none=>rw[e]at h1;exact h1.elim
 | some l =>
   rw[e]at h1;simp only[bD]at h1;split at h1
   ·have dl:=d1.ds e;refine⟨by rw[<-dl.length];assumption,λp hp=>g6 R1 h1 (.inr ⟨p,vs,rfl,hp,rfl,dl⟩)⟩
   ·exact h1.elim
theorem Om {k:DE (List W)}(bo:Bool) (h:cY X T Z es k):PD X T Z (.List es pos) (gI bo k):=by
 refine PE.imp (Ga h) λσ H Q ⟨F,r,env,bx,R,h⟩=>?_;refine⟨F,r,env,bx,R,End.bind h λws bx1 F1 r1 vs H1 g1 R1 d1 h1=>?_⟩;cases e:kD ws with
 |none=>rw[e]at h1;exact h1.elim
 | some l =>
   rw[e]at h1;simp only[bD]at h1;split at h1
   ·have dl:=d1.ds e;refine⟨by rw[<-dl.length];assumption,λp hp=>g6 R1 h1 ⟨p,vs,rfl,hp,rfl,dl⟩⟩
   ·exact h1.elim
theorem Gq {id:String}{g:List D->Option Res}{k:DE (List W)}(bo:Bool) (hc:cU X (.builtin id) q) (hk:eO q g) (hg:Gl X x) (hm:X.mg x=none) (hv:bootBuiltins x=some (.builtin id)) (ha:cY X T Z (e::es) k)
 (hn:x ≠ "__name__") (cz:(x==("__debug__":Str))=false)
 (he:starEach (e::es) X.env=(false,eval e X.env)::starEach es X.env) (eN:(backTo pos (starEach es X.env)).any (·.1)=false):PD X T Z (.Call (.Name x p) (e::es) [] pos) (dN bo g k):=
 PE.imp (ly hc hg hm hv ha hn cz he eN) (Na hk)
theorem Fh {id:String}{g:List D->Option Res}{k:DE (List W)}(bo:Bool) (hc:cU X (.type id) q) (hk:eO q g) (hg:Gl X x) (hm:X.mg x=none) (hv:bootBuiltins x=some (.type id)) (ha:cY X T Z (e::es) k)
 (hn:x ≠ "__name__") (cz:(x==("__debug__":Str))=false)
 (he:starEach (e::es) X.env=(false,eval e X.env)::starEach es X.env) (eN:(backTo pos (starEach es X.env)).any (·.1)=false):PD X T Z (.Call (.Name x p) (e::es) [] pos) (dN bo g k):=
 PE.imp (Fc hc hg hm hv ha hn cz he eN) (Na hk)
def qE (cl:Nat->Addr) (n:Nat) (fn:List W->List Bx->O W):Sp:=λvs H Q E=>∃ F r ws bx,Rel ⟨H,r.length,F⟩ F r [] H [] bx /\ dU F r ws vs /\ ws.length=n /\ End ⟨H,r.length,F⟩ ⟨E,cl⟩ a7 F r [] [] Q (fn ws bx)
theorem dU.length {F:Hp}{r:List Addr}:∀ {ws:List W}{vs:List V},dU F r ws vs->ws.length=vs.length
 | [],_,h=>by
   have e:_=[]:=h;rw[e];rfl
 | d::l,_,h=>by
   obtain⟨v,t,e,_,h2⟩:=h;rw[e,bb,bb,h2.length]
theorem Rel.enter (R:Rel T F r σ H env bx):Rel ⟨H,r.length,F⟩ F r [] H [] bx :=
 ⟨R.fh,λi w e=>by simp at e,R.len,R.nd,R.box,λa u e _=>e,λn a hn e=>(by rw[qY hn]at e;cases e),ao _,ao _,λa u e=>.inr (.inl e)⟩
theorem Rel.after {r':List Addr}{bx':List Bx}(R:Rel T F r σ H env bx) (g:aO F r F' r') (R':Rel ⟨H,r.length,F⟩ F' r' [] H' [] bx'):Rel T F' r' σ H' env bx':=by
 have pre:∀ (n:Nat) (a:Addr),r[n]?=some a->r'[n]?=some a:=λn a e=>by
  obtain⟨t,rfl⟩:=g.p;rw[c6 (List.getElem?_eq_some_iff.mp e).1];exact e
 have sub:∀ a,a∈r->a∈r':=λa h=>g.p.subset h;refine⟨R'.fh,λi w e=>?_,R'.len,R'.nd,R'.box,λa u e hn=>?_,λn a hn e=>?_,bP R.n0 g.p.length_le,R.sl,λa u e=>?_⟩
 ·obtain⟨v,e1,e2⟩:=R.slot i w e;exact⟨v,e1,g.den e2⟩
 ·exact R'.keep a u (R.keep a u e λz=>hn (sub a z)) hn
 ·by_cases hl:n<r.length
  ·have q:=pre n _ (kK hl);rw[e]at q;cases q;exact R.new n _ hn (kK hl)
  ·have q:H a=none:=R'.new n a (su hl) e;cases z:T.H₀ a with
   |none=>rfl
   | some u =>
     have hr:a∉r:=λha=>by
      obtain⟨m,em⟩:=List.mem_iff_getElem?.mp ha;have:=ju R'.nd (pre m a em) e;exact hl (by rw[<-this];exact(List.getElem?_eq_some_iff.mp em).1)
     rw[R.keep a u z hr]at q;cases q
 ·rcases R'.fs a u e with z|z|z|z
  ·exact .inl z
  ·exact(R.fs a u z).imp id (Or.imp id (Or.imp id (sub a)))
  ·by_cases ha:a∈r
   ·exact .inr (.inr (.inr (sub a ha)))
   ·refine .inr (.inr (.inl ?_));cases y:T.H₀ a with
    |none=>rfl
    | some u =>
      have z':H a=none:=z;rw[R.keep a u y ha]at z';cases z'
  ·exact .inr (.inr (.inr z))
def fq (fn:List W->List Bx->O W) (n:Nat) (k:DE (List W)):DE W:=λenv bx=>fA (k env bx) λws bx1=>if ws.length=n then fn ws bx1 else .bad
theorem On {k:DE (List W)}{Q:VK}(h:tD T Z (fq fn n k) σ H Q):T9 (qE Z.cl n fn) [] Z.E (yq T Z k) σ H Q:=by
 obtain⟨F,r,env,bx,R,h⟩:=h;refine⟨F,r,env,bx,R,End.bind h λws bx1 F1 r1 vs H1 g1 R1 d1 h1=>?_⟩;split at h1
 ·rename_i hl;refine⟨F1,r1,ws,bx1,R1.enter,by rw[qV];exact d1,hl,?_⟩;cases e:fn ws bx1 with
  |val w bx'=>rw[e]at h1;exact λF' r' v H' g R' d=>h1 F' r' v H' g (R1.after g R') d
  |exc c bx'=>rw[e]at h1;exact λF' r' H' g R'=>h1 F' r' H' g (R1.after g R').drop
  |bad=>rw[e]at h1;exact h1
 ·exact h1.elim
theorem Lr {f:Addr}{ps:List Str}{k:Nat}{m:DE (List W)}(G:dS X.prog X.w X.K X.mg X.base (nz X.prog X.w) k f fd ps (qE Z.cl ps.length fn)) (hr:cj k X.A) (hg:Gl X x) (hm:X.mg x=some (.ref f))
 (hk:PySem.W.keepIn X.K (.ref f)=true) (hb:Binds X.K fd ps []) (hx:Passes (nz X.prog X.w) X Z.E) (ha:cY X T Z (e::es) m) (cz:(x==("__debug__":Str))=false)
 (he:starEach (e::es) X.env=(false,eval e X.env)::starEach es X.env) (eN:(backTo pos (starEach es X.env)).any (·.1)=false):PD X T Z (.Call (.Name x p) (e::es) [] pos) (fq fn ps.length m):=
 PE.imp (Ld G hr hg hm hk hb .nil hx ha cz he eN) λσ H Q h=>On h
end
inductive OS where
 |nx (env:aM) (bx:List Bx)|rt (w:W) (bx:List Bx)|bk (env:aM) (bx:List Bx)|ct (env:aM) (bx:List Bx)|exc (c:Nat) (bx:List Bx)|bad
abbrev aq:=aM->List Bx->OS
def cA (T:Fr) (Z:Xs) (F:Hp) (r:List Addr) (D:Ends):OS->Prop
 |.nx aC bx'=>∀ F' r' σ' H',aO F r F' r'->Rel T F' r' σ' H' aC bx'->D.nx σ' H'
 |.rt w bx'=>∀ F' r' v H',aO F r F' r'->Rel T F' r' [] H' [] bx'->a7 F' r' w v->D.rt v H'
 |.bk aC bx'=>∀ F' r' σ' H',aO F r F' r'->Rel T F' r' σ' H' aC bx'->D.bk σ' H'
 |.ct aC bx'=>∀ F' r' σ' H',aO F r F' r'->Rel T F' r' σ' H' aC bx'->D.ct σ' H'
 |.exc c bx'=>∀ F' r' H',aO F r F' r'->Rel T F' r' [] H' [] bx'->Z.E (.ref (Z.cl c)) none H'
 |.bad=>False
theorem cA.weak {r':List Addr}{D:Ends}(g:aO F r F' r'):∀ {o:OS},cA T Z F r D o->cA T Z F' r' D o
 |.nx _ _,h=>λF2 r2 s2 H2 g2=>h F2 r2 s2 H2 (g.trans g2)
 |.rt _ _,h=>λF2 r2 s2 H2 g2=>h F2 r2 s2 H2 (g.trans g2)
 |.bk _ _,h=>λF2 r2 s2 H2 g2=>h F2 r2 s2 H2 (g.trans g2)
 |.ct _ _,h=>λF2 r2 s2 H2 g2=>h F2 r2 s2 H2 (g.trans g2)
 |.exc _ _,h=>λF2 r2 H2 g2=>h F2 r2 H2 (g.trans g2)
 |.bad,h=>h
noncomputable def bg (m:O α) (k:α->List Bx->OS):OS :=
 match m with
 |.val a bx=>k a bx
 |.exc c bx=>.exc c bx
 |.bad=>.bad
theorem End.bg {β:Type}{R1:Hp->List Addr->α->β->Prop}{D:Ends}{Q1:β->Hp->Prop}
 {m:O α}{k:α->List Bx->OS}(h:cA T Z F r D (DL.bg m k))
 (c:∀ d bx1 F1 r1 v H1,aO F r F1 r1->Rel T F1 r1 σ H1 env bx1->R1 F1 r1 d v->cA T Z F1 r1 D (k d bx1)->Q1 v H1):End T Z R1 F r σ env Q1 m:=by
 cases m with
 |val d bx=>exact λF' r' v H' g R q=>c d bx F' r' v H' g R q (cA.weak g h)
 |exc n bx=>exact h
 |bad=>exact h
def tS (T:Fr) (Z:Xs) (m:aq):TS:=λD σ H=>∃ F r env bx,Rel T F r σ H env bx /\ cA T Z F r D (m env bx)
def cP (X:Cx) (T:Fr) (Z:Xs) (s:Stmt) (m:aq):Prop:=PS X s (tS T Z m)
def pd (X:Cx) (T:Fr) (Z:Xs) (s:List Stmt) (m:aq):Prop:=dI X s (tS T Z m)
section
variable {a b c : Expr} {mb mc : DE W} {p : Pos} {rest : List Stmt} {m k : aq} {tc : DE Bool}
noncomputable def aQ:aq:=λenv bx=>.nx env bx
noncomputable def fw (m k:aq):aq:=λenv bx=>match m env bx with|.nx aX bx1=>k aX bx1|o=>o
theorem Ls:pd X T Z [] aQ:=dI.imp J3 λD σ H ⟨F,r,env,bx,R,h⟩=>h F r σ H (.refl F r) R
theorem Gr (h1:cP X T Z st m) (h2:pd X T Z rest k):pd X T Z (st::rest) (fw m k):=by
 refine dI.imp (FZ h1 h2) λD σ H ⟨F,r,env,bx,R,h⟩=>⟨F,r,env,bx,R,?_⟩;unfold fw at h;cases e:m env bx with
 |nx aX bx1=>rw[e]at h;exact λF1 r1 σ1 H1 g R1=>⟨F1,r1,aX,bx1,R1,cA.weak g h⟩
 |rt w bx1=>rw[e]at h;exact h
 |bk aX bx1=>rw[e]at h;exact h
 |ct aX bx1=>rw[e]at h;exact h
 |exc c bx1=>rw[e]at h;exact h
 |bad=>rw[e]at h;exact h
theorem Lu (h1:cP X T Z st m):pd X T Z [st] m:=J4 h1
noncomputable def yx:aq:=λenv bx=>.ct env bx
theorem Gu:cP X T Z (.Continue pos) yx:=PS.imp Bp λD σ H ⟨F,r,env,bx,R,h⟩=>h F r σ H (.refl F r) R
def gJ (m:DE W):aq:=λenv bx=>bg (m env bx) λ_ bx1=>.nx env bx1
theorem Gv (h:PD X T Z e ma) (hs:swapsWith e none pos.line X.env=pure false):cP X T Z (.Expr e pos) (gJ ma):=by
 refine PS.imp (J5 h hs) λD σ H ⟨F,r,env,bx,R,h⟩=>?_;exact⟨F,r,env,bx,R,End.bg h λw bx1 F1 r1 v H1 g1 R1 d1 h1=>h1 F1 r1 σ H1 (.refl F1 r1) R1⟩
def fL (m:DE W):aq:=λenv bx=>bg (m env bx) λw bx1=>.rt w bx1
theorem Lv (h:PD X T Z e ma):cP X T Z (.Return (some e) pos) (fL ma):=by
 refine PS.imp (NJ h) λD σ H ⟨F,r,env,bx,R,h⟩=>?_;exact⟨F,r,env,bx,R,End.bg h λw bx1 F1 r1 v H1 g1 R1 d1 h1=>h1 F1 r1 v H1 (.refl F1 r1) R1.drop d1⟩
def aI (t:DE Bool) (m k:aq):aq:=λenv bx=>bg (t env bx) λb bx1=>match b with|true=>m env bx1|false=>k env bx1
theorem Oo {sa sb:List Stmt}(hc:dq X T Z c tc) (ha:pd X T Z sa m) (hb:pd X T Z sb k):cP X T Z (.If c sa sb pos) (aI tc m k):=by
 refine PS.imp (PR hc ha hb) λD σ H ⟨F,r,env,bx,R,h⟩=>?_;refine⟨F,r,env,bx,R,End.bg h λw bx1 F1 r1 v H1 g1 R1 d1 h1=>?_⟩;subst d1;cases w with
 |true=>rw[if_pos rfl];exact⟨F1,r1,env,bx1,R1,h1⟩
 |false=>rw[if_neg (by decide)];exact⟨F1,r1,env,bx1,R1,h1⟩
abbrev DG:=W->aM->List Bx->Option (aM×List Bx)
abbrev kE:=List W->aM->List Bx->Option (aM×List Bx)
noncomputable def UH (T:Fr) (F:Hp) (r:List Addr) (Q:St->Hp->Prop):Option (aM×List Bx)->Prop
 |none=>False
 |some (aC,bx')=>∀ F' r' σ' H',aO F r F' r'->Rel T F' r' σ' H' aC bx'->Q σ' H'
def tG (T:Fr) (g:DG):TG:=λv σ H Q=>∃ F r env bx w,Rel T F r σ H env bx /\ a7 F r w v /\ UH T F r Q (g w env bx)
def X1 (T:Fr) (g:kE):qv:=λvs σ H Q=>∃ F r env bx ws,Rel T F r σ H env bx /\ dU F r ws vs /\ UH T F r Q (g ws env bx)
def eZ (X:Cx) (T:Fr) (tg:Expr) (g:DG):Prop:=PG X tg (tG T g)
def qF (X:Cx) (T:Fr) (tg:List Expr) (g:kE):Prop:=pO X tg (X1 T g)
theorem PG.imp {t t':TG}(h:PG X tg t) (f:∀ v σ H Q,t' v σ H Q->t v σ H Q):PG X tg t':=λpins s σ H v u Q I r q=>h pins s σ H v u Q I r (f v σ H Q q)
theorem pO.imp {tg:List Expr}{t t':qv}(h:pO X tg t) (f:∀ v σ H Q,t' v σ H Q->t v σ H Q):pO X tg t':=λpins s σ H v u Q I r q=>h pins s σ H v u Q I r (f v σ H Q q)
noncomputable def fe (i:Nat):DG:=λw env bx=>some (env.set i (some w),bx)
theorem Rel.set {F H:Hp}{r:List Addr}{σ:St}{env:aM}{bx:List Bx}(R:Rel T F r σ H env bx) {w:W}{v:V}(d:a7 F r w v) (i:Nat):Rel T F r (σ.set i (some v)) H (env.set i (some w)) bx:=by
 refine⟨R.fh,λj w' e=>?_,R.len,R.nd,R.box,R.keep,R.new,R.n0,by rw[nh,nh];exact R.sl,R.fs⟩;by_cases hj:j=i
 ·subst hj;have hl:j<env.length:=by
   have:=(List.getElem?_eq_some_iff.mp e).1;rw[nh]at this;exact this
  rw[k9 hl]at e;cases e;exact⟨v,k9 (dF hl R.sl),d⟩
 ·rw[qf (Ne.symm hj)]at e;obtain⟨u,e1,e2⟩:=R.slot j w' e;exact⟨u,by rw[qf (Ne.symm hj)];exact e1,e2⟩
theorem Gw (i:Nat) (hN:X.N.Nodup) (hi:X.N[i]?=some x) (hx:Loc X.env.scope x) (hf:X.fn x=true \/ X.env.scope.names.lookup x=some .local):eZ X T (.Name x pos) (fe i):=
 PG.imp (J6 hN hi hx hf) λv σ H Q ⟨F,r,env,bx,w,R,d,h⟩=>h F r _ H (.refl F r) (R.set d i)
noncomputable def gz:kE:=λws env bx=>match ws with|[]=>some (env,bx)|_=>none
noncomputable def fB (g:DG) (k:kE):kE:=λws env bx=>match ws with|w::l=>(g w env bx).bind λ(aX,bx1)=>k l aX bx1|_=>none
theorem Gx:qF X T [] gz:=pO.imp J7 λv σ H Q ⟨F,r,env,bx,w,R,d,h⟩=>by
 cases w with
 |nil=>exact⟨d,h F r σ H (.refl F r) R⟩
 |cons _ _=>exact h.elim
theorem Fi {g:DG}{k:kE}(h1:eZ X T e g) (h2:qF X T es k) (hs:(assignEach (e::es) X.env).map (·.2)=assign e X.env::(assignEach es X.env).map (·.2)):qF X T (e::es) (fB g k):=by
 refine pO.imp (F6 h1 h2 hs) λv σ H Q ⟨F,r,env,bx,ws,R,d,h⟩=>?_;cases ws with
 |nil=>exact h.elim
 | cons w l =>
   obtain⟨u,t,rfl,d1,d2⟩:=d;refine⟨u,t,rfl,F,r,env,bx,w,R,d1,?_⟩;unfold fB at h;cases eg:g w env bx with
   |none=>simp only[eg]at h;exact h.elim
   | some o =>
     obtain⟨aX,bx1⟩:=o;simp only[eg,bD]at h;intro F1 r1 σ1 H1 g1 R1;refine⟨F1,r1,aX,bx1,l,R1,d2.mono g1,?_⟩;cases ek:k l aX bx1 with
     |none=>simp only[ek]at h;exact h.elim
     | some o2 =>
       simp only[ek]at h;exact λF2 r2 σ2 H2 g2 R2=>h F2 r2 σ2 H2 (g1.trans g2) R2
theorem ax.ws {F:Hp}{r:List Addr}:∀ {l:List D}{vs:List V},ax F l vs->dU F r (l.map W.d) vs
 |[],_,h=>h
 | d::l,_,h=>by
   obtain⟨v,t,e,h1,h2⟩:=h;exact⟨v,t,e,h1,h2.ws⟩
noncomputable def gq (n:Nat) (k:kE):DG:=λw env bx=>match w with|.d (.tup l)=>if l.length=n then k (l.map W.d) env bx else none|_=>none
theorem Lw {k:kE}(hc:X.calm=true) (h:qF X T es k) (hn:(assignEach es X.env).length=n) (Hh:(assignEach es X.env).findIdx? (·.1)=none):eZ X T (.Tuple es i pos) (gq n k):=by
 refine PG.imp (NK hc h hn Hh) λv σ H Q ⟨F,r,env,bx,w,R,d,h⟩=>?_;unfold gq at h;split at h
 ·rename_i l;split at h
  ·rename_i hl;obtain⟨p,vs,rfl,h1,h2⟩:=d;exact⟨p,vs,rfl,.of (R.fh _ _ h1),by rw[<-h2.length];exact hl,F,r,env,bx,_,R,h2.ws,h⟩
  ·exact h.elim
 ·exact h.elim
def fC (m:DE W) (g:DG):aq:=λenv bx=>bg (m env bx) λw bx1=>match g w env bx1 with|some (aX,ag)=>.nx aX ag|none=>.bad
theorem P8 {g:DG}{D:Ends}(h:tS T Z (fC ma g) D σ H):xX (tD T Z ma) (tG T g) D σ H:=by
 obtain⟨F,r,env,bx,R,h⟩:=h;refine⟨F,r,env,bx,R,End.bg h λw bx1 F1 r1 v H1 g1 R1 d1 h1=>⟨F1,r1,env,bx1,w,R1,d1,?_⟩⟩;cases eg:g w env bx1 with
 |none=>simp only[eg]at h1;exact h1.elim
 |some o=>simp only[eg]at h1;exact h1
theorem C4 {g:DG}(he:PD X T Z e ma) (hg:eZ X T tg g) (hs:swapsWithSole [tg] e pos.line X.env=pure false) (hw:swappedStores [tg] e X.env=pure none)
 (h1:(assignEach [tg] X.env).map (·.2)=[assign tg X.env]):cP X T Z (.Assign [tg] e pos) (fC ma g):=
 PS.imp (NM he hg hs hw h1) λD σ H h=>P8 h
theorem Lx (i:Nat) (he:PD X T Z e ma) (hN:X.N.Nodup) (hi:X.N[i]?=some x) (hx:Loc X.env.scope x) (hs:swapsWith e (some (.Name x pos')) pos.line X.env=pure false) (hf:X.fn x=true \/ X.env.scope.names.lookup x=some .local) :
 cP X T Z (.Assign [.Name x pos'] e pos) (fC ma (fe i)):=by
 refine PS.imp (NO hN hi hx he hs hf) λD σ H ⟨F,r,env,bx,R,h⟩=>?_;exact⟨F,r,env,bx,R,End.bg h λw bx1 F1 r1 v H1 g1 R1 d1 h1=>h1 F1 r1 _ H1 (.refl F1 r1) (R1.set d1 i)⟩
def kT (i j:Nat) (m:DE (List W)):aq:=λenv bx=>bg (m env bx) λws bx1=>match ws with|[x,y]=>.nx ((env.set i (some x)).set j (some y)) bx1|_=>.bad
theorem P9 {m:DE (List W)}{D:Ends}(h:tS T Z (kT i j m) D σ H):TY i j (yq T Z m) D σ H:=by
 obtain⟨F,r,env,bx,R,h⟩:=h;refine⟨F,r,env,bx,R,End.bg h λws bx1 F1 r1 vs H1 g1 R1 d1 h1=>?_⟩;split at h1
 ·obtain⟨v,t,rfl,q1,u,t2,rfl,q2,q3⟩:=d1;cases (show t2=[] from q3);exact⟨v,u,rfl,h1 F1 r1 _ H1 (.refl F1 r1) ((R1.set q1 i).set q2 j)⟩
 ·exact h1.elim
def rJ (F:Hp) (r:List Addr) (ds:List W) (J:It):Prop :=
 ∀ (T:Fr) (i:Nat) (F1:Hp) (r1:List Addr) (σ1:St) (H1:Hp) (aX:aM) (bx1:List Bx),aO F r F1 r1->Rel T F1 r1 σ1 H1 aX bx1 ->
  (ds.length=i->J.stop i H1) /\ ∀ w,ds[i]?=some w->J.go i H1 /\ ∀ x H2,J.vK i H1 x H2->∃ F2,aO F1 r1 F2 r1 /\ Rel T F2 r1 σ1 H2 aX bx1 /\ a7 F2 r1 w x
def tI (T:Fr) (Z:Xs) (m:DE (List W)):TI:=λσ H R=>∃ F r env bx,Rel T F r σ H env bx /\ End T Z rJ F r σ env R (m env bx)
def rK (X:Cx) (T:Fr) (Z:Xs) (tg iter:Expr) (m:DE (List W)):Prop:=PI X tg iter (tI T Z m)
theorem PI.imp {t t':TI}(h:PI X tg iter t) (f:∀ σ H Q,t' σ H Q->t σ H Q):PI X tg iter t':=λpins s σ H R I q=>h pins s σ H R I (f σ H R q)
noncomputable def ck (g:DG) (body:aq):List W->aq
 |[],env,bx=>.nx env bx
 | w::l,env,bx=>match g w env bx with
   |none=>.bad
   | some (aX,bx1)=>match body aX bx1 with
     |.nx bT ag=>ck g body l bT ag
     |.ct bT ag=>ck g body l bT ag
     |.bk bT ag=>.nx bT ag
     |o=>o
def jp (m:DE (List W)) (g:DG) (body:aq):aq:=λenv bx=>bg (m env bx) λds bx1=>ck g body ds env bx1
theorem Gy {g:DG}{D:Ends}{H1 F1:Hp}{r1:List Addr}{ds:List W}{J:It}(R1:Rel T F1 r1 σ H1 env bx1) (y1:rJ F1 r1 ds J) (h1:cA T Z F1 r1 D (ck g m ds env bx1)) :
 ∃ W:Nat->Nat->St->Hp->Prop,(∃ m,W 0 m σ H1) /\ ∀ i n σ H,W i n σ H->(J.stop i H /\ D.nx σ H) \/ (J.go i H /\ ∃ N:St->Hp->Prop,(∀ σ' H',N σ' H'->∃ n',n'<n /\ W (i+1) n' σ' H') /\ ∀ x H',J.vK i H x H'->tG T g x σ H' λσ2 H2=>tS T Z m { D with nx:=N,ct:=N,bk:=D.nx } σ2 H2):=by
 refine⟨λi n σ' H'=>∃ pre l F' r' aC bx',ds=pre++l /\ pre.length=i /\ n=l.length /\ aO F1 r1 F' r' /\ Rel T F' r' σ' H' aC bx' /\ cA T Z F' r' D (ck g m l aC bx'),⟨ds.length,[],ds,F1,r1,env,bx1,rfl,rfl,rfl,.refl F1 r1,R1,h1⟩,?_⟩;rintro i n σ' H' ⟨pre,l,F',r',aC,bx',kS,hi,hn,g',R',h'⟩;obtain⟨ys,yg⟩:=y1 T i F' r' σ' H' aC bx' g' R';cases l with
 |nil=>exact .inl ⟨ys (by rw[kS,qV];omega),h' F' r' σ' H' (.refl F' r') R'⟩
 | cons w l =>
   obtain⟨go,yl⟩:=yg w (by rw[kS,cE (by omega),hi,p9];rfl);refine .inr ⟨go,λσ2 H2=>∃ F2 r2 bT ag,aO F1 r1 F2 r2 /\ Rel T F2 r2 σ2 H2 bT ag /\ cA T Z F2 r2 D (ck g m l bT ag),λσ2 H2 ⟨F2,r2,bT,ag,g2,R2,h2⟩=>⟨l.length,by rw[hn];exact qU _,pre++[w],l,F2,r2,bT,ag,by rw[kS,qi];rfl,by rw[cG,hi];rfl,rfl,g2,R2,h2⟩,λx H2 hy=>?_⟩;obtain⟨F2,g2,R2,d2⟩:=yl x H2 hy;refine⟨F2,r',aC,bx',w,R2,d2,?_⟩;simp only[ck]at h';cases eg:g w aC bx' with
   |none=>simp only[eg]at h';exact h'.elim
   | some o =>
     obtain⟨qG,bE⟩:=o;simp only[eg]at h';intro F3 r3 σ3 H3 g3 R3;refine⟨F3,r3,qG,bE,R3,?_⟩;have gg:=(g'.trans g2).trans g3;cases em:m qG bE with
     |nx yy cM=>simp only[em]at h';exact λF4 r4 σ4 H4 g4 R4=>⟨F4,r4,yy,cM,gg.trans g4,R4,cA.weak ((g2.trans g3).trans g4) h'⟩
     |ct yy cM=>simp only[em]at h';exact λF4 r4 σ4 H4 g4 R4=>⟨F4,r4,yy,cM,gg.trans g4,R4,cA.weak ((g2.trans g3).trans g4) h'⟩
     |bk yy cM=>simp only[em]at h';exact λF4 r4 σ4 H4 g4 R4=>h' F4 r4 σ4 H4 ((g2.trans g3).trans g4) R4
     |rt w cM=>simp only[em]at h';exact cA.weak (g2.trans g3) (o:=.rt w cM) h'
     |exc c cM=>simp only[em]at h';exact cA.weak (g2.trans g3) (o:=.exc c cM) h'
     |bad=>simp only[em]at h';exact h'
theorem Ra {g:DG}{D:Ends}(h:tS T Z (jp mi g m) D σ H):Hk (tI T Z mi) (tG T g) (tS T Z m) D σ H:=by
 obtain⟨F,r,env,bx,R,h⟩:=h;exact⟨F,r,env,bx,R,End.bg h λds bx1 F1 r1 J H1 g1 R1 y1 h1=>Gy R1 y1 h1⟩
theorem Ly {body:List Stmt}{g:DG}(hp:PassesOwn (model X.prog X.w) X.A X.env X.xe) (hc:X.calm=true) (hi:rK X T Z tg iter mi) (hg:eZ X T tg g) (hb:pd X T Z body m)
 (hs:∀ x,foldedSetIterable iter X.env x=pure x):cP X T Z (.For tg iter body [] pos) (jp mi g m):=
 PS.imp (F7 hp hc hi hg hb hs) λD σ H h=>Ra h
def bt (m:DE W):DE (List W):=λenv bx=>fA (m env bx) λw bx1=>match w with|.d (.lst l)=>.val (l.map W.d) bx1|.d (.tup l)=>.val (l.map W.d) bx1|_=>.bad
end
noncomputable def nC:OS->O W
 |.rt w bx=>.val w bx
 |.nx _ bx=>.val (.d .non) bx
 |.exc c bx=>.exc c bx
 |_=>.bad
noncomputable def nD (n:Nat):O W->O W
 |.val (.d x) bx=>.val (.d x) (bx.take n)
 |.val w bx=>.val w bx
 |.exc c bx=>.exc c (bx.take n)
 |.bad=>.bad
noncomputable def envOf (n:Nat) (ws:List W):aM:=ws.map some++List.replicate (n-ws.length) none
def aS (n:Nat) (m:aq):List W->List Bx->O W:=λws bx=>nD bx.length (nC (m (envOf n ws) bx))
noncomputable def aJ (m:aq):aq:=λenv bx=>match m env bx with|.exc _ _=>.bad|o=>o
theorem dU.get {F:Hp}{r:List Addr}:∀ {l:List W}{vs:List V}{i:Nat}{d:W},dU F r l vs->l[i]?=some d->∃ v,vs[i]?=some v /\ a7 F r d v
 |[],_,_,_,_,e=>by simp at e
 | x::l,_,0,d,h,e=>by
   obtain⟨v,t,q,h1,_⟩:=h;simp at e;subst e;subst q;exact⟨v,rfl,h1⟩
 | x::l,_,i+1,d,h,e=>by
   obtain⟨v,t,q,_,h2⟩:=h;subst q;obtain⟨u,e1,e2⟩:=dU.get (i:=i) h2 (by simpa using e);exact⟨u,by simpa using e1,e2⟩
theorem Rel.start {T:Fr}{F H:Hp}{r:List Addr}{bx:List Bx}{N:List Str}{ws:List W}{vs:List V}(R:Rel T F r [] H [] bx) (d:dU F r ws vs):Rel T F r (start N vs) H (envOf N.length ws) bx:=by
 have hl:=d.length;refine⟨R.fh,λi w e=>?_,R.len,R.nd,R.box,R.keep,R.new,R.n0,?_,R.fs⟩
 ·unfold envOf at e;unfold L2.start;by_cases hi:i<ws.length
  ·rw[c6 (by rw[aR];exact hi),nR]at e;cases q:ws[i]? with
   |none=>rw[q]at e;cases e
   | some w' =>
     rw[q]at e;cases e;obtain⟨v,e1,e2⟩:=d.get q;refine⟨v,?_,e2⟩;rw[c6 (by rw[aR,<-hl];exact hi),nR,e1];rfl
  ·rw[cE (by rw[aR];omega)]at e;rw[QX]at e;split at e<;>cases e
 ·unfold envOf L2.start;rw[cG,cG,aR,aR,Ex,Ex,hl];exact ao _
theorem Gz {l l':List α}(h:l <+: l'):l'.take l.length=l:=by
 obtain⟨t,rfl⟩:=h;simp
theorem Rel.cut {r':List Addr}{bx':List Bx}(g:aO F r F' r') (R:Rel ⟨H,r.length,F⟩ F' r' [] H' [] bx'):Rel ⟨H,r.length,F⟩ F' r [] H' [] (bx'.take r.length):=by
 have hr:r'.take r.length=r:=Gz g.p;have hle:r.length<=r'.length:=g.p.length_le;have pre:∀ (n:Nat) (a:Addr),r[n]?=some a->r'[n]?=some a:=λn a e=>by
  obtain⟨t,rfl⟩:=g.p;rw[c6 (List.getElem?_eq_some_iff.mp e).1];exact e
 refine⟨R.fh,λi w e=>by simp at e,?_,?_,λn c a e1 e2=>?_,λa u e hn=>?_,λn a hn e=>?_,ao _,ao _,λa u e=>?_⟩
 ·rw[xk,<-R.len];omega
 ·exact List.Sublist.nodup (List.IsPrefix.sublist g.p) R.nd
 ·have sX:=(List.getElem?_eq_some_iff.mp e2).1;rw[QY sX]at e1;exact R.box n c a e1 (pre n a e2)
 ·refine R.keep a u e λz=>?_;obtain⟨m,em⟩:=List.mem_iff_getElem?.mp z;by_cases hm:m<r.length
  ·have q:=pre m _ (kK hm);rw[em]at q;cases q;exact hn (Ez hm)
  ·have q:=R.new m a (su hm) em;have e':H a=some u:=e;have q':H a=none:=q;rw[e']at q';cases q'
 ·rw[qY hn]at e;cases e
 ·rcases R.fs a u e with y|z|z|z
  ·exact .inl y
  ·exact .inr (.inl z)
  ·exact .inr (.inr (.inl z))
  ·obtain⟨m,em⟩:=List.mem_iff_getElem?.mp z;by_cases hm:m<r.length
   ·have q:=pre m _ (kK hm);rw[em]at q;cases q;exact .inr (.inr (.inr (Ez hm)))
   ·exact .inr (.inr (.inl (R.new m a (su hm) em)))
theorem Lz {Q:VK}(hb:bx.length=r.length) {o:O W}(h:End ⟨H,r.length,F⟩ Z a7 F r [] [] Q (nD bx.length o)):End ⟨H,r.length,F⟩ Z a7 F r [] [] Q o:=by
 rw[hb]at h;cases o with
 |bad=>exact h
 |exc c bx1=>exact λF' r' H' g R=>h F' r H' ⟨g.s,kJ r⟩ (R.cut g)
 | val w bx1 =>
   cases w with
   |d x=>exact λF' r' v H' g R d=>h F' r v H' ⟨g.s,kJ r⟩ (R.cut g) d
   |b n=>exact h
   |s l=>exact h
   |x i=>exact h
   |t _=>exact h
   |m _=>exact h
theorem LA {Q:VK}{o:OS}(h:End T Z a7 F r [] [] Q (nC o)):cA T Z F r { nx:=λ_ H'=>Q .non H',rt:=Q } o:=by
 cases o with
 |nx env bx=>exact λF' r' σ' H' g R=>h F' r' .non H' g R.drop rfl
 |rt w bx=>exact λF' r' v H' g R d=>h F' r' v H' g R d
 |exc c bx=>exact h
 |bk env bx=>exact(show False from h).elim
 |ct env bx=>exact(show False from h).elim
 |bad=>exact h
section
variable {qual : Str} {f : Addr} {ps : List Str} {k : Nat} {m : aq} 
theorem Rb {sp:Sp}(G:dS P w K mg base vX k f fd ps sp):dS P w K mg base CX k f fd ps sp :=
 ⟨G.len,λA outer s H args us vs Q E hr e0 hb hv hs=>w9 (G.run A outer s H args us vs Q E hr e0 hb hv hs) λr s' h=>by
  cases r with
  |error e=>exact False.elim h
  | ok fl =>
    cases fl with
    |ret u=>exact h
    |next=>exact h
    |brk=>exact h
    |cont=>exact h⟩
theorem Rc (F:ny K x qual st f fd) (S:uE N ps (fJ st))
 (sL:∀ (aW:Value) (A:Around) (outer:List Env) (s:Shared) (H:Hp) (E:XK) (n:Nat) (F0:Hp),cj k (A.deeper (envOfC qual (fJ st) s.heap.objs.size f aW)) ->
  pd (rq vX P w K mg base N qual (fJ st) f aW A outer s H E).uB ⟨H,n,F0⟩ ⟨E0,cl⟩ (gG st) m):dS P w K mg base (nz P w) (k+1) f fd ps (qE cl ps.length (aS N.length (aJ m))):=by
 refine Rb (F.ok S (λvs H Q E h=>?_) (λaW A outer s H vs Q E hr h=>?_))
 ·obtain⟨F,r,ws,bx,_,d,hl,_⟩:=h;rw[<-d.length];exact hl
 ·obtain⟨F,r,ws,bx,R,d,hl,h⟩:=h;refine⟨_,sL aW A outer s H E r.length F hr,F,r,envOf N.length ws,bx,R.start d,?_⟩;have h':=LA (Lz R.len.symm h);unfold aJ at h';cases e:m (envOf N.length ws) bx with
  |nx env bx1=>simp only[e]at h';exact h'
  |rt w bx1=>simp only[e]at h';exact h'
  |bk env bx1=>simp only[e]at h';exact h'
  |ct env bx1=>simp only[e]at h';exact h'
  |exc c bx1=>simp only[e]at h';exact h'.elim
  |bad=>simp only[e]at h';exact h'
end
theorem C5:Passes (nz X.prog X.w) X E0:=λ_ _ _ _ _ _ _ h=>by
 obtain⟨_,_,_,_,_,_,_,_,_,_,_,_,_,h⟩:=h;exact h.elim
section
variable {m : aq} {aaS : List Stmt}
end
noncomputable def bindB {β:Type}(m:O α) (k:α->List Bx->O β):O β :=
 match m with
 |.val a bx=>k a bx
 |_=>.bad
def aU (g:DG) (tf:DE Bool) (te:DE W):List W->aM->List Bx->List D->O (List D)
 |[],_,bx,acc=>.val acc bx
 | w::l,env,bx,acc=>match g w env bx with
   |none=>.bad
   | some (aX,bx1)=>bindB (tf aX bx1) λb ag=>match b with
     |false=>aU g tf te l aX ag acc
     | true=>bindB (te aX ag) λy bE=>match y with
       |.d d=>if acc.length<sizeLine then aU g tf te l aX bE (acc++[d]) else .bad
       |_=>.bad
noncomputable def cq (src:List (Option Nat)) (env:aM):aM:=src.map λo=>o.bind λi=>(env[i]?).bind id
def fS (bo:Bool) (src:List (Option Nat)) (mi:DE (List W)) (g:DG) (tf:DE Bool) (te:DE W):DE W:=λenv bx =>
 fA (mi env bx) λds bx1=>fA (aU g tf te ds (cq src env) bx1 []) λl ag=>bH bo (some (.lst l)) ag
theorem Rel.src {T:Fr}{F H:Hp}{r:List Addr}{σ:St}{env:aM}{bx:List Bx}(R:Rel T F r σ H env bx) (src:List (Option Nat)):Rel T F r (rD src σ) H (cq src env) bx:=by
 refine⟨R.fh,λj w e=>?_,R.len,R.nd,R.box,R.keep,R.new,R.n0,?_,R.fs⟩
 ·unfold cq at e;unfold L2.rD;rw[nR]at e ⊢;cases q:src[j]? with
  |none=>rw[q]at e;cases e
  | some o =>
    rw[q]at e;cases o with
    |none=>cases e
    | some i =>
      have e':(env[i]?).bind id=some w:=Option.some.inj e;cases z:env[i]? with
      |none=>rw[z]at e';cases e'
      | some o' =>
        rw[z]at e';have e2:o'=some w:=e';subst e2;obtain⟨v,e1,e2⟩:=R.slot i w z;exact⟨v,by simp[e1],e2⟩
 ·unfold cq L2.rD;rw[aR,aR];exact ao _
theorem Rel.inner {r':List Addr}{σ':St}{aC:aM}{bx':List Bx}(R:Rel T F r σ H env bx) (g:aO F r F' r') (R':Rel ⟨H,r.length,F⟩ F' r' σ' H' aC bx'):Rel T F' r' σ' H' aC bx':=by
 have q:=R.after g R'.drop;exact⟨q.fh,R'.slot,q.len,q.nd,q.box,q.keep,q.new,q.n0,R'.sl,q.fs⟩
theorem Rel.again (R:Rel T F r σ H env bx):Rel ⟨H,r.length,F⟩ F r σ H env bx :=
 ⟨R.fh,R.slot,R.len,R.nd,R.box,λa u e _=>e,λn a hn e=>(by rw[qY hn]at e;cases e),ao _,R.sl,λa u e=>.inr (.inl e)⟩
structure Own (F:Hp) (r:List Addr) (H:Hp) (a:Addr) (vs:List V):Prop where
 h:H a=some (.lst vs)
 f:F a=none
 b:a∉r
theorem Own.inner {r':List Addr}{σ':St}{aC:aM}{bx':List Bx}{vs:List V}(o:Own F r H a vs) (g:aO F r F' r') (R':Rel ⟨H,r.length,F⟩ F' r' σ' H' aC bx'):Own F' r' H' a vs:=by
 have hb:a∉r':=λz=>by
  obtain⟨m,em⟩:=List.mem_iff_getElem?.mp z;by_cases hm:m<r.length
  ·obtain⟨t,e⟩:=g.p;rw[<-e,c6 hm]at em;exact o.b (List.mem_iff_getElem?.mpr ⟨m,em⟩)
  ·have q:H a=none:=R'.new m a (su hm) em;rw[o.h]at q;cases q
 refine⟨R'.keep a _ o.h hb,?_,hb⟩;cases q:F' a with
 |none=>rfl
 | some u =>
   rcases R'.fs a u q with⟨qC,rfl⟩|z|z|z
   ·have:=R'.fh a _ q;rw[R'.keep a _ o.h hb]at this;cases this
   ·have z':F a=some u:=z;rw[o.f]at z';cases z'
   ·have z':H a=none:=z;rw[o.h]at z';cases z'
   ·exact absurd z hb
theorem Rel.UI (R:Rel T F r σ H env bx) (h:H p=none):Rel T F r σ (upd H p o) env bx:=by
 have hs:∀ a u,H a=some u->upd H p o a=some u:=λa u e=>by rw[fv (fU e h)];exact e
 exact⟨λa u e=>hs a u (R.fh a u e),R.slot,R.len,R.nd,λn c a e1 e2=>(R.box n c a e1 e2).grow (Sub.refl F) id (hs a),λa u e hn=>hs a u (R.keep a u e hn),R.new,R.n0,R.sl,R.fs⟩
theorem Rel.X2 (R:Rel T F r σ H env bx) {vs:List V}(w:Own F r H p vs) (hT:T.H₀ p=none):Rel T F r σ (upd H p o) env bx:=by
 refine⟨λa u e=>?_,R.slot,R.len,R.nd,λn c a e1 e2=>?_,λa u e hn=>?_,R.new,R.n0,R.sl,R.fs⟩
 ·rw[fv (λz=>by rw[z,w.f]at e;cases e)];exact R.fh a u e
 ·have ha:a≠p:=λz=>w.b (List.mem_iff_getElem?.mpr ⟨n,z▸e2⟩);exact(R.box n c a e1 e2).grow (Sub.refl F) id λu z=>by rw[fv ha];exact z
 ·rw[fv (λz=>by rw[z,hT]at e;cases e)];exact R.keep a u e hn
theorem Rel.X3 (R:Rel T F r σ H env bx) {vs:List V}(w:Own F r H p vs) (hT:T.H₀ p=none):Rel T (upd F p (.lst vs)) r σ H env bx /\ aO F r (upd F p (.lst vs)) r:=by
 have s:=gZ (o:=.lst vs) w.f;refine⟨⟨λa u e=>?_,λi w e=>?_,R.len,R.nd,λn c a e1 e2=>?_,R.keep,R.new,R.n0,R.sl,λa u e=>?_⟩,s,kJ r⟩
 ·by_cases ha:a=p
  ·subst ha;rw[fu]at e;cases e;exact w.h
  ·rw[fv ha]at e;exact R.fh a u e
 ·obtain⟨v,e1,e2⟩:=R.slot i w e;exact⟨v,e1,e2.mono s (kJ r)⟩
 ·have ha:a≠p:=λz=>w.b (List.mem_iff_getElem?.mpr ⟨n,z▸e2⟩);exact(R.box n c a e1 e2).grow s (λz=>by rw[fv ha];exact z) λu z=>z
 ·by_cases ha:a=p
  ·subst ha;exact .inr (.inr (.inl hT))
  ·rw[fv ha]at e;exact R.fs a u e
theorem Rel.X4 (R:Rel T F r σ H env bx) {vs:List V}(w:Own F r H p vs) (hT:T.H₀ p=none) (d:ax F l vs):Rel T F (r++[p]) σ H env (bx++[.lst l]) /\ aO F r F (r++[p]) /\ (r++[p])[bx.length]?=some p:=by
 have hx:(r++[p])[bx.length]?=some p:=by rw[<-R.len,cE (ao _),p9];rfl
 have g:aO F r F (r++[p]):=⟨Sub.refl F,ui r [p]⟩;refine⟨⟨R.fh,λi w e=>?_,by rw[cG,cG,R.len];rfl,?_,λn c' a e1 e2=>?_,λa u e hn=>R.keep a u e λz=>hn (qb _ z),λn a hn e=>?_,by rw[cG];exact bP R.n0 (vm _ _),R.sl,λa u e=>(R.fs a u e).imp id (Or.imp id (Or.imp id λz=>qb _ z))⟩,g,hx⟩
 ·obtain⟨v,e1,e2⟩:=R.slot i w e;exact⟨v,e1,g.den e2⟩
 ·rw[uk];refine⟨R.nd,by simp,λa ha b hb=>?_⟩;rw[nT]at hb;subst hb;exact λz=>w.b (z▸ha)
 ·by_cases hn:n<r.length
  ·rw[c6 hn]at e2;rw[c6 (by rw[<-R.len];exact hn)]at e1;exact R.box n c' a e1 e2
  ·rw[cE (by omega)]at e2;rw[cE (by rw[<-R.len];omega)]at e1;have hl:n-r.length=0:=by
    cases q:n-r.length with
    |zero=>rfl
    |succ k=>rw[q]at e2;simp at e2
   have dJ:n-bx.length=0:=by rw[<-R.len];exact hl
   rw[hl]at e2;rw[dJ]at e1;simp at e1 e2;subst e1 e2;exact⟨w.f,vs,w.h,d⟩
 ·by_cases hl:n<r.length
  ·rw[c6 hl]at e;exact R.new n a hn e
  ·have hp:a=p:=by
    rw[cE (by omega)]at e;cases q:n-r.length with
    |zero=>rw[q]at e;simp at e;exact e.symm
    |succ k=>rw[q]at e;simp at e
   subst hp;exact hT
section
variable {src : List (Option Nat)} {elt : Expr} {scope : Scope} {g : DG} 
abbrev v8 (g:DG):TG:=λv σ H Q=>∃ T,tG T g v σ H Q
abbrev v9 (Z:Xs) (tf:DE Bool):TT:=λσ H Q=>∃ T,qD T Z tf σ H Q
abbrev wa (Z:Xs) (te:DE W):TE:=λσ H Q=>∃ T,tD T Z te σ H Q
theorem Rel.slots {T':Fr}{r':List Addr}{σ':St}{aC:aM}{bx':List Bx}(R:Rel T F r σ H env bx) (g:aO F r F' r') (R':Rel T' F' r' σ' H' aC bx'):Rel T' F' r' σ H' env bx' :=
 ⟨R'.fh,λi w e=>let ⟨v,e1,e2⟩:=R.slot i w e;⟨v,e1,g.den e2⟩,R'.len,R'.nd,R'.box,R'.keep,R'.new,R'.n0,R.sl,R'.fs⟩
theorem Cp {Q:VK}{F1 H1:Hp}{r1:List Addr}{ds:List W}{J:It}(R1:Rel T F1 r1 σ H1 env bx1) (y1:rJ F1 r1 ds J)
 (h1:End T Z a7 F1 r1 σ env Q (fA (aU g tf te ds (cq src env) bx1 []) λl ag=>bH bo (some (.lst l)) ag)) (Da:Addr) (hD:H1 Da=none):Uw J (v8 g) (v9 ⟨E0,Z.cl⟩ tf) (wa ⟨E0,Z.cl⟩ te) Da Q (rD src σ) (upd H1 Da (.lst [])):=by
 have hT:T.H₀ Da=none:=by
  cases q:T.H₀ Da with
  |none=>rfl
  |some u=>rw[R1.keep Da u q (R1.uK hD)]at hD;cases hD
 have o0:Own F1 r1 (upd H1 Da (.lst [])) Da []:=⟨fu,R1.n9 hD,R1.uK hD⟩;refine⟨λi n σ' H'=>∃ pre l F' r' aC bx' acc vs,ds=pre++l /\ pre.length=i /\ n=l.length /\ aO F1 r1 F' r' /\ Rel T F' r' σ' H' aC bx' /\ Own F' r' H' Da vs /\ ax F' acc vs /\
  End T Z a7 F' r' σ env Q (fA (aU g tf te l aC bx' acc) λl ag=>bH bo (some (.lst l)) ag),
  ⟨ds.length,[],ds,F1,r1,_,bx1,[],[],rfl,rfl,rfl,.refl F1 r1,(R1.UI hD).src src,o0,.nil,h1⟩,?_⟩
 rintro i n σ' H' ⟨pre,l,F',r',aC,bx',acc,vs,kS,hi,hn,g',R',o',da,h'⟩;obtain⟨ys,yg⟩:=y1 ⟨H',r'.length,F'⟩ i F' r' σ' H' aC bx' g' R'.again;cases l with
 | nil =>
   refine .inl ⟨ys (by rw[kS,qV];omega),?_⟩;have RO:Rel T F' r' σ H' env bx':=R1.slots g' R';have hd:End T Z a7 F' r' σ env Q (.val (.d (.lst acc)) bx')->Q (.ref Da) H':=λh'=>by
    obtain⟨RA,gA⟩:=RO.X3 o' hT;exact h' _ r' _ H' gA RA ⟨Da,vs,rfl,fu,ax.mono gA.s acc da⟩
   cases bo with
   |false=>exact hd h'
   | true =>
     obtain⟨RB,gB,hx⟩:=RO.X4 o' hT da;exact h' F' _ _ H' gB RB ⟨Da,rfl,hx⟩
 | cons w l =>
   obtain⟨go,yl⟩:=yg w (by rw[kS,cE (by omega),hi,p9];rfl);refine .inr ⟨go,λσ2 H2=>∃ F2 r2 bT ag yz wb,aO F1 r1 F2 r2 /\ Rel T F2 r2 σ2 H2 bT ag /\ Own F2 r2 H2 Da wb /\ ax F2 yz wb /\
    End T Z a7 F2 r2 σ env Q (fA (aU g tf te l bT ag yz) λl ag=>bH bo (some (.lst l)) ag),
    λσ2 H2 ⟨F2,r2,bT,ag,yz,wb,g2,R2,o2,d2,h2⟩=>⟨l.length,by rw[hn];exact qU _,pre++[w],l,F2,r2,bT,ag,yz,wb,by rw[kS,qi];rfl,by rw[cG,hi];rfl,rfl,g2,R2,o2,d2,h2⟩,λx H2 hy=>?_⟩
   obtain⟨F2,g2,R2,d2⟩:=yl x H2 hy;have UJ:=R'.inner g2 R2;have o2:=o'.inner g2 R2;refine⟨⟨H2,r'.length,F2⟩,F2,r',aC,bx',w,UJ.again,d2,?_⟩;simp only[aU]at h';cases eg:g w aC bx' with
   |none=>simp only[eg]at h';exact h'.elim
   | some o =>
     obtain⟨qG,bE⟩:=o;simp only[eg]at h';intro F3 r3 σ3 H3 g3 R3;have UK:=UJ.inner g3 R3;have o3:=o2.inner g3 R3;refine⟨⟨H3,r3.length,F3⟩,F3,r3,qG,bE,UK.again,?_⟩;cases ef:tf qG bE with
     |bad=>simp only[ef,bindB]at h';exact h'.elim
     |exc c cM=>simp only[ef,bindB]at h';exact h'.elim
     | val b cM =>
       simp only[ef,bindB]at h';intro F4 r4 b' H4 g4 R4 eb;subst eb;have Ib:=UK.inner g4 R4;have o4:=o3.inner g4 R4;have UL:aO F1 r1 F4 r4:=((g'.trans g2).trans g3).trans g4;have Ic:aO F' r' F4 r4:=(g2.trans g3).trans g4;cases b with
       | false =>
         rw[if_neg (by decide)];exact⟨F4,r4,qG,cM,acc,vs,UL,Ib,o4,ax.mono Ic.s acc da,End.weak Ic h'⟩
       | true =>
         rw[if_pos rfl];refine⟨⟨H4,r4.length,F4⟩,F4,r4,qG,cM,Ib.again,?_⟩;cases ee:te qG cM with
         |bad=>simp only[ee]at h';exact h'.elim
         |exc c UM=>simp only[ee]at h';exact h'.elim
         | val y UM =>
           simp only[ee]at h';intro F5 r5 v H5 g5 R5 d5;have X5:=Ib.inner g5 R5;have o5:=o4.inner g5 R5;have UN:=Ic.trans g5;cases y with
           | d d =>
             simp only at h';split at h'
             ·rename_i hz;have X6:=ax.mono UN.s acc da;refine⟨vs,o5.h,by rw[<-da.length];exact hz,F5,r5,qG,UM,acc++[d],vs++[v],UL.trans g5,X5.X2 o5 hT,⟨fu,o5.f,o5.b⟩,X6.append (.cons d5 .nil),End.weak UN h'⟩
             ·exact h'.elim
           |b n=>exact h'.elim
           |s l=>exact h'.elim
           |x i=>exact h'.elim
           |t _=>exact h'.elim
           |m _=>exact h'.elim
theorem Op {Q:VK}(h:tD T Z (fS bo src mi g tf te) σ H Q):yo src (tI T Z mi) (v8 g) (v9 ⟨E0,Z.cl⟩ tf) (wa ⟨E0,Z.cl⟩ te) σ H Q:=by
 obtain⟨F,r,env,bx,R,h⟩:=h;exact⟨F,r,env,bx,R,End.bind h λds bx1 F1 r1 J H1 g1 R1 y1 h1=>Cp R1 y1 h1⟩
theorem LB (bo:Bool) (hc:X.calm=true) (S:pR X N src scope) (hi:rK X T Z tg iter mi)
 (hg:∀ T cl s H C fp,eZ (X.comp N scope cl s H C fp) T tg g) (hf:∀ T cl s H C fp,PF (X.comp N scope cl s H C fp) ifs (qD T ⟨E0,Z.cl⟩ tf)) (he:∀ T cl s H C fp,PD (X.comp N scope cl s H C fp) T ⟨E0,Z.cl⟩ elt te)
 (hs:∀ x,foldedSetIterable iter X.env x=pure x):PD X T Z (.ListComp elt [⟨tg,iter,ifs,0⟩] scope pos) (fS bo src mi g tf te):=
 PE.imp (Lk (src:=src) (g:=v8 g) (tf:=v9 ⟨E0,Z.cl⟩ tf) (te:=wa ⟨E0,Z.cl⟩ te) hc S hi (λcl s H C fp pins s' σ' H' v u Q I rv ⟨T,q⟩=>hg T cl s H C fp pins s' σ' H' v u Q I rv q)
  (λcl s H C fp pins s' σ' H' Q I ⟨T,q⟩=>hf T cl s H C fp pins s' σ' H' Q I q) (λcl s H C fp pins s' σ' H' Q I ⟨T,q⟩=>he T cl s H C fp pins s' σ' H' Q I q) hs) λσ H Q h=>Op h
noncomputable def fQ:DE Bool:=λ_ bx=>.val true bx
theorem LC:PF X [] (qD T Z fQ):=λpins s σ H Q I ⟨F,r,env,bx,R,h⟩=>N7 pins s σ H Q I (h F r true H (.refl F r) R rfl)
theorem LD {c:Expr}(h:dq X T Z c t):PF X [c] (qD T Z t):=N8 h
theorem Ao {w:W}(e:(l.map W.d)[i]?=some w):∃ d,l[i]?=some d /\ w=.d d:=by
 rw[nR]at e;cases q:l[i]? with
 |none=>rw[q]at e;cases e
 |some d=>rw[q]at e;cases e;exact⟨d,rfl,rfl⟩
noncomputable def fH (lo:Int) (n:Nat):List W:=(List.range n).map λ(i:Nat)=>W.d (.int (lo+i))
theorem lE (lo:Int) (n:Nat):rJ F r (fH lo n) (vM lo n):=λT i F1 r1 σ1 H1 aX bx1 g R=>by
 unfold fH;refine⟨λhl=>?_,λw e=>?_⟩
 ·rw[aR,EA]at hl;exact ug hl
 ·rw[nR]at e;cases q:(List.range n)[i]? with
  |none=>rw[q]at e;cases e
  | some j =>
    rw[q]at e;cases e;obtain⟨h1,h2⟩:=List.getElem?_eq_some_iff.mp q;rw[List.getElem_range]at h2;subst h2;rw[EA]at h1;refine⟨h1,λx H2 ⟨e1,e2⟩=>?_⟩;subst e1 e2;exact⟨F1,.refl F1 r1,R,rfl⟩
def bW (k:DE (List W)):DE (List W):=λenv bx=>fA (k env bx) λws bx1=>match ws with
 |[.d (.int j)]=>if -(2 ^ 62)<=j /\ j<2 ^ 62 then .val (fH 0 j.toNat) bx1 else .bad
 |_=>.bad
theorem Cq {a:Expr}{p:Pos}{k:DE (List W)}(hg:Gl X "range") (hm:X.mg "range"=none) (ha:cY X T Z [a] k) (hs:starEach [a] X.env=[(false,eval a X.env)]):rK X T Z tg (.Call (.Name "range" p) [a] [] pos) (bW k):=by
 refine PI.imp (D4 hg hm ha hs) λσ H Q ⟨F,r,env,bx,R,h⟩=>?_;refine⟨F,r,env,bx,R,End.bind h λws bx1 F1 r1 vs H1 g1 R1 d1 h1=>?_⟩;split at h1
 ·rename_i j;split at h1
  ·rename_i hj;obtain⟨v,t,rfl,e1,e2⟩:=d1;cases (show t=[] from e2);cases (show v=.int j from e1);exact⟨j,rfl,hj.1,hj.2,h1 F1 r1 _ H1 (.refl F1 r1) R1 (lE 0 j.toNat)⟩
  ·exact h1.elim
 ·exact h1.elim
def sY (k:DE (List W)):DE (List W):=λenv bx=>fA (k env bx) λws bx1=>match ws with
 |[.d (.int i),.d (.int j)]=>if (-(2 ^ 62)<=i /\ i<2 ^ 62) /\ -(2 ^ 62)<=j /\ j<2 ^ 62 then .val (fH i (j-i).toNat) bx1 else .bad
 |_=>.bad
theorem Cr {a b:Expr}{p:Pos}{k:DE (List W)}(hg:Gl X "range") (hm:X.mg "range"=none) (ha:cY X T Z [a,b] k) (hs:starEach [a,b] X.env=[(false,eval a X.env),(false,eval b X.env)]) (eL:starEach [b] X.env=[(false,eval b X.env)]) :
 rK X T Z tg (.Call (.Name "range" p) [a,b] [] pos) (sY k):=by
 refine PI.imp (D5 hg hm ha hs eL) λσ H Q ⟨F,r,env,bx,R,h⟩=>?_;refine⟨F,r,env,bx,R,End.bind h λws bx1 F1 r1 vs H1 g1 R1 d1 h1=>?_⟩;split at h1
 ·rename_i i j;split at h1
  ·rename_i hj;obtain⟨v,t,rfl,e1,v2,t2,rfl,e2,e3⟩:=d1;cases (show t2=[] from e3);cases (show v=.int i from e1);cases (show v2=.int j from e2);exact⟨i,j,rfl,⟨hj.1.1,hj.1.2,hj.2.1,hj.2.2⟩,h1 F1 r1 _ H1 (.refl F1 r1) R1 (lE i _)⟩
  ·exact h1.elim
 ·exact h1.elim
end
section
variable {a b c : Expr} {mb mc : DE W} {p : Pos}
def UO (K:PySem.W.Frag):R2:=λx y H Q=>∃ a b ys,x=.ref a /\ y=.ref b /\ a6 K H a [] /\ a6 K H b ys /\ Q (.ref b) H
theorem GA:aH X (binaryOp .Add) (UO X.K):=by
 intro pins s σ H x y v u Q I rx ry h;obtain⟨a,b,ys,rfl,rfl,ha,hb,q⟩:=h;cases rx;cases ry;obtain⟨its,r1,p1,_⟩:=I.tuple ha;obtain⟨rC,r2,p2,_⟩:=I.tuple hb;cases r1;obtain⟨⟨cls,dd,data,sl⟩,ho,hc,n,hd⟩:=id p1;obtain⟨⟨HC,nv,data2,kA⟩,kR,cV,n2,hd2⟩:=id p2;simp only at hc hd cV hd2;subst hc hd cV hd2
 exact Ed ⟨_,ho,rfl⟩ ⟨_,kR,rfl⟩ Ee Ef EZ E2 (E3 _ _)
  (tuple_addW0 a b ([]:List Value).toArray rC.toArray n n2 dd nv sl kA (by simp)) ⟨ho,kR,⟨.ref b,H,I,rfl,q⟩⟩
def UQ (K:PySem.W.Frag):R2:=λx y H Q=>dj (λi j=>.int (i+j)) x y H Q \/ Uc K x y H Q \/ UO K x y H Q \/ Ur x y H Q \/ ∃ i j,x=.str i /\ y=.str j /\ i.length+j.length<=sizeLine /\ Q (.str (i++j)) H
theorem LE:aH X (binaryOp .Add) (UQ X.K):=NQ.or (Lh.or (GA.or (N6.or Ck)))
noncomputable def fP:D->D->Option Res
 |.int i,.int j=>some (.old (.int (i+j)))
 |.tup a,.tup b=>if a.length+b.length<=sizeLine then some (.tup (a++b)) else none
 |.lst a,.lst b=>if a.length+b.length<=sizeLine then some (.lst (a++b)) else none
 |.str a,.str b=>if a.length+b.length<=sizeLine then some (.old (.str (a++b))) else none
 |_,_=>none
theorem ax.eq_nil {vs:List V}(h:ax F l vs):vs=[] ↔ l=[]:=by
 have:=h.length;cases l<;>cases vs<;>simp_all
theorem X7:bI (UQ K) fP:=by
 intro F H x y v w Q s sub rx ry e k;unfold fP at e;split at e
 ·rename_i i j;cases e;exact .inl ⟨i,j,rx,ry,k _ _ ⟨rfl,rfl⟩⟩
 ·rename_i l l';split at e
  ·rename_i hz;cases e;obtain⟨a,vs,rfl,h1,h2⟩:=rx;obtain⟨b,ws,rfl,h3,h4⟩:=ry;by_cases hv:vs=[]
   ·subst hv;have hl:l=[]:=h2.eq_nil.mp rfl;subst hl;exact .inr (.inr (.inl ⟨a,b,ws,rfl,rfl,.of (sub _ _ h1),.of (sub _ _ h3),k _ _ (.inl ⟨rfl,b,ws,rfl,h3,h4⟩)⟩))
   ·refine .inr (.inl ⟨a,b,vs,ws,rfl,rfl,.of (sub _ _ h1),.of (sub _ _ h3),hv,by rw[<-h2.length,<-h4.length];exact hz,λhw=>?_,λhw p hp=>k _ _ (.inr ⟨p,vs++ws,rfl,hp,rfl,h2.append h4⟩)⟩);have hl:l'=[]:=h4.eq_nil.mp hw;subst hl;exact k _ _ (.inl ⟨rfl,a,vs,rfl,h1,by rw[qV];exact h2⟩)
  ·cases e
 ·rename_i l l';split at e
  ·rename_i hz;cases e;obtain⟨a,vs,rfl,h1,h2⟩:=rx;obtain⟨b,ws,rfl,h3,h4⟩:=ry;exact .inr (.inr (.inr (.inl ⟨a,b,vs,ws,rfl,rfl,h1,h3,by rw[<-h2.length,<-h4.length];exact hz,λp hp=>k _ _ ⟨p,vs++ws,rfl,hp,rfl,h2.append h4⟩⟩)))
  ·cases e
 ·rename_i i j;split at e
  ·rename_i hz;cases e;exact .inr (.inr (.inr (.inr ⟨i,j,rx,ry,hz,k _ _ ⟨rfl,rfl⟩⟩)))
  ·cases e
 ·cases e
theorem yA {C:Int->Int->Prop} [∀ i j,Decidable (C i j)] {g:Int->Int->D}{gv:Int->Int->V}(hg:∀ i j F,Den F (g i j) (gv i j)):bI (rI C gv) λx y=>match x,y with|.int i,.int j=>if C i j then some (.old (g i j)) else none|_,_=>none:=by
 intro F H x y v w Q s sub rx ry e k;dsimp only at e;split at e
 ·rename_i i j;split at e
  ·rename_i hc;cases e;exact⟨i,j,rx,ry,hc,k _ _ ⟨rfl,hg i j F⟩⟩
  ·cases e
 ·cases e
theorem yB {g:Int->Int->D}{gv:Int->Int->V}(hg:∀ i j F,Den F (g i j) (gv i j)):bI (dj gv) λx y=>match x,y with|.int i,.int j=>some (.old (g i j))|_,_=>none:=by
 intro F H x y v w Q s sub rx ry e k;dsimp only at e;split at e
 ·rename_i i j;cases e;exact⟨i,j,rx,ry,k _ _ ⟨rfl,hg i j F⟩⟩
 ·cases e
noncomputable def dX:D->D->Option Res:=λx y=>match x,y with|.int i,.int j=>some (.old (.int (i-j)))|_,_=>none
theorem X8:bI (dj λi j=>.int (i-j)) dX:=yB (g:=λi j=>.int (i-j)) λ_ _ _=>rfl
instance (i j:Int):Decidable (rn i j):=by unfold rn;exact inferInstance
instance (i j:Int):Decidable (rm i j):=by unfold rm;exact inferInstance
instance (i j:Int):Decidable (uD i j):=by unfold uD;exact inferInstance
noncomputable def rL:D->D->Option Res:=λx y=>match x,y with|.int i,.int j=>if rm i j then some (.old (.int (i / j))) else none|_,_=>none
theorem X9:bI (rI rm λi j=>.int (i / j)) rL:=yA (g:=λi j=>.int (i / j)) λ_ _ _=>rfl
noncomputable def kF:D->D->Option Res:=λx y=>match x,y with|.int i,.int j=>if 0<j then some (.old (.int (i % j))) else none|_,_=>none
theorem Ya:bI (rI (λ_ j=>0<j) λi j=>.int (i % j)) kF:=yA (C:=λ_ j=>0<j) (g:=λi j=>.int (i % j)) λ_ _ _=>rfl
noncomputable def e9:D->D->Option Res:=λx y=>match x,y with|.int i,.int j=>if uD i j then some (.old (.int (i ^ j.toNat))) else none|_,_=>none
theorem Yb:bI (rI uD λi j=>.int (i ^ j.toNat)) e9:=yA (g:=λi j=>.int (i ^ j.toNat)) λ_ _ _=>rfl
noncomputable def intsOf:List D->Option (List Int)
 |[]=>some []
 |.int i::l=>(intsOf l).map λt=>i::t
 |_=>none
theorem ax.ints {F:Hp}:∀ {l:List D}{vs:List V}{ns:List Int},ax F l vs->intsOf l=some ns->vs=ns.map V.int
 |[],_,_,h,e=>by cases e;exact h
 | .int i::l,_,ns,h,e=>by
   obtain⟨v,r,q,h1,h2⟩:=h;unfold intsOf at e;cases e2:intsOf l with
   |none=>rw[e2]at e;cases e
   | some t =>
     rw[e2]at e;cases e;rw[q,h2.ints e2,show v=.int i from h1];rfl
 |.non::l,_,_,_,e=>by cases e
 |.bl _::l,_,_,_,e=>by cases e
 |.str _::l,_,_,_,e=>by cases e
 |.tup _::l,_,_,_,e=>by cases e
 |.lst _::l,_,_,_,e=>by cases e
 |.ak _::l,_,_,_,e=>by cases e
def UR:D->D->Option Res
 |.int i,.int j=>some (.old (.bl (decide (i<j))))
 |.tup a,.tup b=>(intsOf a).bind λns=>(intsOf b).map λms=>.old (.bl (HT.lexLt ns ms))
 |_,_=>none
theorem LF (hu:X.A.units<cLine):aH X (compareOp .Lt) (λx y H Q=>dj (λi j=>.bl (decide (i<j))) x y H Q \/ vS X.K x y H Q):=PZ.or (N0 hu)
theorem US:bI (λx y H Q=>dj (λi j=>.bl (decide (i<j))) x y H Q \/ vS K x y H Q) UR:=by
 intro F H x y v w Q s sub rx ry e k;unfold UR at e;split at e
 ·rename_i i j;cases e;exact .inl ⟨i,j,rx,ry,k _ _ ⟨rfl,rfl⟩⟩
 ·rename_i l l';cases e1:intsOf l with
  |none=>rw[e1]at e;cases e
  | some ns =>
    cases e2:intsOf l' with
    |none=>rw[e1,e2]at e;cases e
    | some ms =>
      rw[e1,e2]at e;cases e;obtain⟨a,vs,rfl,h1,h2⟩:=rx;obtain⟨b,ws,rfl,h3,h4⟩:=ry;have q1:=h2.ints e1;have q2:=h4.ints e2;subst q1 q2;exact .inr ⟨a,b,ns,ms,rfl,rfl,.of (sub _ _ h1),.of (sub _ _ h3),k _ _ ⟨rfl,rfl⟩⟩
 ·cases e
noncomputable def qH:D->D->Option Res:=λx y=>match x,y with|.int i,.int j=>some (.old (.bl (decide (j<i))))|_,_=>none
theorem Yc:bI (dj λi j=>.bl (decide (j<i))) qH:=yB (g:=λi j=>.bl (decide (j<i))) λ_ _ _=>rfl
noncomputable def uL:D->D->Option Res:=λx y=>match x,y with|.int i,.int j=>some (.old (.bl (decide (j<=i))))|_,_=>none
theorem Yd:bI (dj λi j=>.bl (decide (j<=i))) uL:=yB (g:=λi j=>.bl (decide (j<=i))) λ_ _ _=>rfl
def ah:D->D->Option Res
 |.lst l,.int i=>(a5 l i).map Res.old
 |.tup l,.int i=>(a5 l i).map Res.old
 |_,_=>none
theorem C6 {vs:List V}{i:Int}{d:D}(h:ax F l vs) (e:a5 l i=some d):∃ v,a5 vs i=some v /\ Den F d v:=by
 unfold a5 at e ⊢;rw[<-h.length];cases q:bA l.length i with
 |none=>rw[q]at e;cases e
 |some j=>rw[q]at e;exact h.get e
theorem Ye:bI (Ui K) ah:=by
 intro F H x y v w Q s sub rx ry e k;unfold ah at e;split at e
 ·rename_i l i;obtain⟨a,vs,rfl,h1,h2⟩:=rx;cases e1:a5 l i with
  |none=>rw[e1]at e;cases e
  | some d =>
    rw[e1]at e;cases e;obtain⟨u,e2,du⟩:=C6 h2 e1;exact .inl ⟨a,vs,i,u,rfl,ry,.of h1,e2,k _ _ ⟨rfl,du⟩⟩
 ·rename_i l i;obtain⟨a,vs,rfl,h1,h2⟩:=rx;cases e1:a5 l i with
  |none=>rw[e1]at e;cases e
  | some d =>
    rw[e1]at e;cases e;obtain⟨u,e2,du⟩:=C6 h2 e1;exact .inr (.inl ⟨a,vs,i,u,rfl,ry,.of (sub _ _ h1),e2,k _ _ ⟨rfl,du⟩⟩)
 ·cases e
noncomputable def bf:List D->Option Res
 |[.lst l]=>some (.old (.int l.length))
 |[.tup l]=>some (.old (.int l.length))
 |_=>none
theorem Yf:eO (λxs H Q=>∃ p ys,xs=[.ref p] /\ (bz K H p ys \/ a6 K H p ys) /\ Q (.int ys.length) H) bf:=by
 intro F H xs vs Q s sub rx e k;unfold bf at e;split at e
 ·rename_i l;cases e;obtain⟨v,t,rfl,⟨a,us,rfl,h1,h2⟩,rt⟩:=rx;cases (show t=[] from rt);exact⟨a,us,rfl,.inl (.of h1),k _ _ ⟨rfl,by rw[<-h2.length];rfl⟩⟩
 ·rename_i l;cases e;obtain⟨v,t,rfl,⟨a,us,rfl,h1,h2⟩,rt⟩:=rx;cases (show t=[] from rt);exact⟨a,us,rfl,.inr (.of (sub _ _ h1)),k _ _ ⟨rfl,by rw[<-h2.length];rfl⟩⟩
 ·cases e
noncomputable def pf:D->String
 |.non=>"NoneType"|.bl _=>"bool"|.int _=>"int"|.str _=>"str"|.tup _=>"tuple"|.lst _=>"list"|.ak _=>"dict"
noncomputable def rM (S T:String):Bool:=S==T||(S == "bool"&&T == "int")
def kU (K:PySem.W.Frag) (T:String):Prop:=∀ d:D,PySem.W.kitOne K (.type (pf d)) (.type T)=some (rM (pf d) T)
theorem Re (sub:Sub F H):∀ {d:D}{v:V},kB F H d v->kz K H v (.type (pf d))
 |.non,_,h=>by cases (show _=V.non from h);exact .non
 |.bl b,_,h=>by cases (show _=V.bl b from h);exact .bl b
 |.int b,_,h=>by cases (show _=V.int b from h);exact .int b
 |.str b,_,h=>by cases (show _=V.str b from h);exact .str b
 |.tup l,_,h=>by obtain⟨a,vs,rfl,h1,h2⟩:=h;exact .tup (sub _ _ h1)
 |.lst l,_,h=>by obtain⟨a,vs,rfl,h1,h2⟩:=h;exact .lst h1
 |.ak l,_,h=>by obtain⟨a,vs,rfl,h1,h2⟩:=h;exact .dK h1
def jo (n:String) (m:DE W):DE W:=λenv bx=>fA (m env bx) λw bx1=>match br bx1 w with|some d=>.val (.d (.bl (rM (pf d) n))) bx1|none=>.bad
theorem LG {n:String}{p p1:Pos}(hT:kU X.K n) (hg:Gl X "isinstance") (hm:X.mg "isinstance"=none) (Ie:Gl X x) (Ig:X.mg x=none) (hv:bootBuiltins x=some (.type n)) (ha:PD X T Z a ma)
 (hn:x ≠ "__name__") (cz:(x==("__debug__":Str))=false)
 (UT:starEach [a,.Name x p1] X.env=(false,eval a X.env)::starEach [.Name x p1] X.env) (Yg:starEach [.Name x p1] X.env=(false,eval (.Name x p1) X.env)::starEach [] X.env)
 (eN:(backTo pos (starEach [.Name x p1] X.env)).any (·.1)=false):PD X T Z (.Call (.Name "isinstance" p) [a,.Name x p1] [] pos) (jo n ma):=by
 refine PE.imp (ly Fg hg hm (by decide +kernel) (iV ha (iV (J1 Ie Ig hv (v:=.ty n) rfl hn cz) jY Yg) UT) (by decide) (by decide) UT eN) λσ H Q ⟨F,r,env,bx,R,h⟩=>?_;refine⟨F,r,env,bx,R,End.bind h λw bx1 F1 r1 v H1 g1 R1 d1 h1=>?_⟩;cases e:br bx1 w with
 |none=>simp only[e]at h1;exact h1.elim
 | some d =>
   simp only[e]at h1;exact⟨v,.ty n,_,.type n,_,rfl,.of (Re R1.fh (R1.pb d1 e)),rfl,hT d,h1 F1 r1 _ H1 (.refl F1 r1) R1 rfl⟩
end
section
variable {a b c : Expr} {mb mc : DE W} {p : Pos}
def UU (K:PySem.W.Frag):R2:=λx y H Q=>∃ a b xs,x=.ref a /\ y=.ref b /\ a6 K H a xs /\ a6 K H b [] /\ Q (.bl xs.isEmpty) H
theorem Oq (hu:X.A.units<cLine):aH X (compareOp .Eq) (UU X.K):=by
 intro pins s σ H x y v u Q I rx ry h;obtain⟨a,b,xs,rfl,rfl,h1,h2,q⟩:=h;cases rx;cases ry;obtain⟨i1,r1,p1,z1⟩:=I.tuple h1;obtain⟨i2,r2,p2,z2⟩:=I.tuple h2;cases r2;refine SeqAt.eq_tupleAt (items:=i1.toArray) (items2:=([]:List Value).toArray) (e:=λ_=>true) p1 p2 hu (λj h1 h2=>absurd h2 (by simp)) ⟨.bl xs.isEmpty,H,I,?_,q⟩;have:=r1.length;cases xs<;>cases i1<;>simp_all[RelV]
def UW (K:PySem.W.Frag):R2:=λx y H Q=>∃ (a b:Addr) (ns ms:List Int),x=.ref a /\ y=.ref b /\ bz K H a (ns.map V.int) /\ bz K H b (ms.map V.int) /\ Q (.bl (decide (ns=ms))) H
theorem Fj {ms:List Int}(h:ns.length=ms.length):((List.range ns.length).all λj=>(ns.getD j 0==ms.getD j 0))=decide (ns=ms):=by
 rw[kn,cT,decide_eq_true_iff];constructor
 ·intro q;refine List.ext_getElem h λj h1 h2=>?_;have:=q j (List.mem_range.mpr h1);simpa[List.getD,h1,h2] using this
 ·rintro rfl j _;simp
theorem Os (hu:X.A.units<cLine):aH X (compareOp .Eq) (UW X.K):=by
 intro pins s σ H x y v u Q I rx ry h;obtain⟨a,b,ns,ms,rfl,rfl,h1,h2,q⟩:=h;cases rx;cases ry;obtain⟨i1,r1,p1,z1⟩:=I.list h1;obtain⟨i2,r2,p2,z2⟩:=I.list h2;have l1:ns.length=i1.length:=by have:=r1.length;simpa using this
 have l2:ms.length=i2.length:=by have:=r2.length;simpa using this
 by_cases hl:ns.length=ms.length
 ·refine SeqAt.eq_listAt (items:=i1.toArray) (items2:=i2.toArray) (e:=λj=>ns.getD j 0==ms.getD j 0) p1.isList p2.isList (by simp;omega) hu (λj h1 h2=>?_) ?_
  ·have g1:j<i1.length:=by simpa using h1
   have g2:j<i2.length:=by simpa using h2
   obtain⟨w1,e1,q1⟩:=r1.get (i:=j) (x:=V.int (ns[j]'(by omega))) (by simp[show j<ns.length by omega]);obtain⟨w2,e2,q2⟩:=r2.get (i:=j) (x:=V.int (ms[j]'(by omega))) (by simp[show j<ms.length by omega]);have k1:i1[j]=w1:=by rw[kK g1]at e1;exact Option.some.inj e1
   have k2:i2[j]=w2:=by rw[kK g2]at e2;exact Option.some.inj e2
   show SeqAt.EqAt _ _ i1[j] i2[j] _;rw[k1,k2];obtain⟨t,rfl⟩:=q1;obtain⟨t',rfl⟩:=q2;have d1:ns.getD j 0=ns[j]'(by omega):=by simp[List.getD,show j<ns.length by omega]
   have d2:ms.getD j 0=ms[j]'(by omega):=by simp[List.getD,show j<ms.length by omega]
   rw[d1,d2];exact xI _ _ _ _
  ·rw[show i1.toArray.size=ns.length by simp;omega,Fj hl];exact⟨.bl _,H,I,rfl,q⟩
 ·refine SeqAt.eq_list_lengthsAt (items:=i1.toArray) (items2:=i2.toArray) p1.isList p2.isList (by simp;omega) hu ⟨.bl false,H,I,rfl,?_⟩;rw[decide_eq_false (λz=>hl (by rw[z]))]at q;exact q
def yC (K:PySem.W.Frag):R2:=λx y H Q=>T5 x y H Q \/ UU K x y H Q \/ UW K x y H Q
theorem LH (hu:X.A.units<cLine):aH X (compareOp .Eq) (yC X.K):=PX.or ((Oq hu).or (Os hu))
def Ih:D->D->Option Res
 |.int i,.int j=>some (.old (.bl (decide (i=j))))
 |.str i,.str j=>some (.old (.bl (decide (i=j))))
 |.tup l,.tup []=>some (.old (.bl l.isEmpty))
 |.lst a,.lst b=>(intsOf a).bind λns=>(intsOf b).map λms=>.old (.bl (decide (ns=ms)))
 |_,_=>none
theorem Yh:bI (yC K) Ih:=by
 intro F H x y v w Q s sub rx ry e k;unfold Ih at e;split at e
 ·rename_i i j;cases e;cases (show v=.int i from rx);cases (show w=.int j from ry);exact .inl ⟨rfl,k _ _ ⟨rfl,by show _=_;simp⟩⟩
 ·rename_i i j;cases e;cases (show v=.str i from rx);cases (show w=.str j from ry);exact .inl ⟨rfl,k _ _ ⟨rfl,by show _=_;simp⟩⟩
 ·rename_i l;cases e;obtain⟨a,vs,rfl,h1,h2⟩:=rx;obtain⟨b,ws,rfl,h3,h4⟩:=ry;cases (show ws=[] from h4);exact .inr (.inl ⟨a,b,vs,rfl,rfl,.of (sub _ _ h1),.of (sub _ _ h3),k _ _ ⟨rfl,by show _=_;rw[h2.isEmpty]⟩⟩)
 ·rename_i l l';cases e1:intsOf l with
  |none=>rw[e1]at e;cases e
  | some ns =>
    cases e2:intsOf l' with
    |none=>rw[e1,e2]at e;cases e
    | some ms =>
      rw[e1,e2]at e;cases e;obtain⟨a,vs,rfl,h1,h2⟩:=rx;obtain⟨b,ws,rfl,h3,h4⟩:=ry;have q1:=h2.ints e1;have q2:=h4.ints e2;subst q1 q2;exact .inr (.inr ⟨a,b,ns,ms,rfl,rfl,.of h1,.of h3,k _ _ ⟨rfl,rfl⟩⟩)
 ·cases e
def UX (K:PySem.W.Frag):R2:=λx y H Q=>∃ a b xs,x=.ref a /\ y=.ref b /\ bz K H a xs /\ bz K H b [] /\ Q (.bl (!xs.isEmpty)) H
theorem Ot (hu:X.A.units<cLine):aH X (compareOp .NotEq) (UX X.K):=by
 intro pins s σ H x y v u Q I rx ry h;obtain⟨a,b,xs,rfl,rfl,h1,h2,q⟩:=h;cases rx;cases ry;obtain⟨i1,r1,p1,z1⟩:=I.list h1;obtain⟨i2,r2,p2,z2⟩:=I.list h2;cases r2;cases r1 with
 |nil=>exact SeqAt.RcNeAt.lists (items:=([]:List Value).toArray) (items2:=([]:List Value).toArray) (e:=λ_=>true) p1.isList p2.isList rfl hu (λj h1 h2=>absurd h2 (by simp)) X.prog X.w X.xe _ ⟨.bl false,H,I,rfl,q⟩
 |cons _ _=>exact WC (items2:=([]:List Value).toArray) p1.isList p2.isList (by simp) hu X.prog X.w X.xe _ ⟨.bl true,H,I,rfl,q⟩
def yD (K:PySem.W.Frag):R2:=λx y H Q=>T6 x y H Q \/ UX K x y H Q
theorem LI (hu:X.A.units<cLine):aH X (compareOp .NotEq) (yD X.K):=PY.or (Ot hu)
noncomputable def Ii:D->D->Option Res
 |.int i,.int j=>some (.old (.bl (!decide (i=j))))
 |.str i,.str j=>some (.old (.bl (!decide (i=j))))
 |.lst l,.lst []=>some (.old (.bl (!l.isEmpty)))
 |_,_=>none
theorem Yi:bI (yD K) Ii:=by
 intro F H x y v w Q s sub rx ry e k;unfold Ii at e;split at e
 ·rename_i i j;cases e;cases (show v=.int i from rx);cases (show w=.int j from ry);exact .inl ⟨rfl,k _ _ ⟨rfl,by show _=_;simp⟩⟩
 ·rename_i i j;cases e;cases (show v=.str i from rx);cases (show w=.str j from ry);exact .inl ⟨rfl,k _ _ ⟨rfl,by show _=_;simp⟩⟩
 ·rename_i l;cases e;obtain⟨a,vs,rfl,h1,h2⟩:=rx;obtain⟨b,ws,rfl,h3,h4⟩:=ry;cases (show ws=[] from h4);exact .inr ⟨a,b,vs,rfl,rfl,.of h1,.of h3,k _ _ ⟨rfl,by show _=_;rw[h2.isEmpty]⟩⟩
 ·cases e
def UY (K:PySem.W.Frag) (vs:List V) (H:Hp) (Q:VK):Prop:=∃ (p:Addr) (bs:List Bool),vs=[.ref p] /\ H p=some (.lst (bs.map V.bl)) /\ Q (.bl (bs.all id)) H
theorem Fk (hc:X.calm=true):cU X (.builtin "all") (UY X.K):=by
 intro pins s σ H xs us Q I rv h;obtain⟨p,bs,rfl,hp,q⟩:=h;obtain⟨u,rfl,ru⟩:=Vals.one rv;cases ru;obtain⟨its,r1,p1,z1⟩:=I.list (bz.of (K:=X.K) hp);have hl:=p1.isList;have sX:p<s.heap.objs.size:=by obtain⟨_,e,_⟩:=hl;exact aZ e
 have hlen:bs.length=its.length:=by have:=r1.length;simpa using this
 refine call_all_walk (Qx hl ?_);refine⟨s.heap.objs.size,[s.heap.objs.size,p],[s.heap.objs.size],its.toArray.size,_,_,λi=>(bs[i]?).getD true,rfl,Walks.list (A:=X.A.in1) (I.ok.hd hc) _ p (cS sX) its.toArray,
  ⟨⟨_,bR _ rfl,rfl,rfl⟩,hl.push _⟩,λi v s' Q' E' hP hQ=>?_,λh' tk hk=>?_⟩
 ·have UZ:its[i]?=some v:=by simpa using hP
  have hi:i<bs.length:=by rw[hlen];exact(List.getElem?_eq_some_iff.mp UZ).1
  obtain⟨w,e1,e2⟩:=r1.get (i:=i) (x:=V.bl bs[i]) (by simp[hi]);rw[UZ]at e1;cases e1;cases e2;simp only[kK hi,Sx]at hQ;exact p8 hQ
 ·have e:((List.range its.toArray.size).all λi=>(bs[i]?).getD true)=bs.all id:=by
   rw[bc,<-hlen];exact LSm.range_all bs
  rw[e];exact⟨.bl _,H,I.kept (t':=tk) (LSm.kept_iter hk),rfl,q⟩
noncomputable def kG:List D->Option (List Bool)
 |[]=>some []
 |.bl i::l=>(kG l).map λt=>i::t
 |_=>none
theorem ax.U0 {F:Hp}:∀ {l:List D}{vs:List V}{ns:List Bool},ax F l vs->kG l=some ns->vs=ns.map V.bl
 |[],_,_,h,e=>by cases e;exact h
 | .bl i::l,_,ns,h,e=>by
   obtain⟨v,r,q,h1,h2⟩:=h;unfold kG at e;cases e2:kG l with
   |none=>rw[e2]at e;cases e
   | some t =>
     rw[e2]at e;cases e;rw[q,h2.U0 e2,show v=.bl i from h1];rfl
 |.non::l,_,_,_,e=>by cases e
 |.int _::l,_,_,_,e=>by cases e
 |.str _::l,_,_,_,e=>by cases e
 |.tup _::l,_,_,_,e=>by cases e
 |.lst _::l,_,_,_,e=>by cases e
 |.ak _::l,_,_,_,e=>by cases e
def cu:List D->Option Res
 |[.lst l]=>(kG l).map λbs=>.old (.bl (bs.all id))
 |_=>none
theorem Yj:eO (UY K) cu:=by
 intro F H xs vs Q s sub rx e k;unfold cu at e;split at e
 ·rename_i l;obtain⟨v,t,rfl,⟨a,us,rfl,h1,h2⟩,rt⟩:=rx;cases (show t=[] from rt);cases e1:kG l with
  |none=>rw[e1]at e;cases e
  | some bs =>
    rw[e1]at e;cases e;have q1:=h2.U0 e1;subst q1;exact⟨a,bs,rfl,h1,k _ _ ⟨rfl,rfl⟩⟩
 ·cases e
theorem Yk:eO (λxs H Q=>∃ p ys,xs=[.ref p] /\ ((bz K H p ys /\ ∀ l,H l=none->Q (.ref l) (upd H l (.tup ys))) \/ (a6 K H p ys /\ Q (.ref p) H)))
 (λxs=>match xs with|[.lst l]=>some (.tup l)|[.tup l]=>some (.tup l)|_=>none):=by
 intro F H xs vs Q s sub rx e k;dsimp only at e;split at e
 ·rename_i l;cases e;obtain⟨v,t,rfl,⟨a,us,rfl,h1,h2⟩,rt⟩:=rx;cases (show t=[] from rt);exact⟨a,us,rfl,.inl ⟨.of h1,λp hp=>k _ _ (.inr ⟨p,us,rfl,hp,rfl,h2⟩)⟩⟩
 ·rename_i l;cases e;obtain⟨v,t,rfl,⟨a,us,rfl,h1,h2⟩,rt⟩:=rx;cases (show t=[] from rt);exact⟨a,us,rfl,.inr ⟨.of (sub _ _ h1),k _ _ (.inl ⟨rfl,a,us,rfl,h1,h2⟩)⟩⟩
 ·cases e
noncomputable def nE:List D->Option Res:=λxs=>match xs with|[.lst l]=>some (.tup l)|[.tup l]=>some (.tup l)|_=>none
noncomputable def uM:List D->Option Res:=λxs=>match xs with|[.lst l]=>some (.lst l)|[.tup l]=>some (.lst l)|_=>none
theorem Yl:eO (λxs H Q=>∃ p ys,xs=[.ref p] /\ (bz K H p ys \/ a6 K H p ys) /\ ∀ l,H l=none->Q (.ref l) (upd H l (.lst ys))) uM:=by
 intro F H xs vs Q s sub rx e k;unfold uM at e;split at e
 ·rename_i l;cases e;obtain⟨v,t,rfl,⟨a,us,rfl,h1,h2⟩,rt⟩:=rx;cases (show t=[] from rt);exact⟨a,us,rfl,.inl (.of h1),λp hp=>k _ _ ⟨p,us,rfl,hp,rfl,h2⟩⟩
 ·rename_i l;cases e;obtain⟨v,t,rfl,⟨a,us,rfl,h1,h2⟩,rt⟩:=rx;cases (show t=[] from rt);exact⟨a,us,rfl,.inr (.of (sub _ _ h1)),λp hp=>k _ _ ⟨p,us,rfl,hp,rfl,h2⟩⟩
 ·cases e
noncomputable def maxD:List D->Option Res:=λxs=>match xs with|[.int i,.int j]=>some (.old (.int (if j>i then j else i)))|_=>none
theorem Ym:eO (λxs H Q=>∃ i j,xs=[.int i,.int j] /\ Q (.int (if j>i then j else i)) H) maxD:=by
 intro F H xs vs Q s sub rx e k;unfold maxD at e;split at e
 ·rename_i i j;cases e;obtain⟨v,t,rfl,h1,v2,t2,rfl,h2,rt⟩:=rx;cases (show t2=[] from rt);cases (show v=.int i from h1);cases (show v2=.int j from h2);exact⟨i,j,rfl,k _ _ ⟨rfl,rfl⟩⟩
 ·cases e
noncomputable def minD:List D->Option Res:=λxs=>match xs with|[.int i,.int j]=>some (.old (.int (if j<i then j else i)))|_=>none
theorem Yn:eO (λxs H Q=>∃ i j,xs=[.int i,.int j] /\ Q (.int (if j<i then j else i)) H) minD:=by
 intro F H xs vs Q s sub rx e k;unfold minD at e;split at e
 ·rename_i i j;cases e;obtain⟨v,t,rfl,h1,v2,t2,rfl,h2,rt⟩:=rx;cases (show t2=[] from rt);cases (show v=.int i from h1);cases (show v2=.int j from h2);exact⟨i,j,rfl,k _ _ ⟨rfl,rfl⟩⟩
 ·cases e
end
end L2.DL
namespace HT
theorem lF {t sl:Addr}{vl vu:Value}{lo hi:Option Int}(ht:IsTup s.heap t items) (hs:s.heap.IsSliceOf sl vl vu .none) (pl:IsPart vl lo) (pu:IsPart vu hi)
 (hw:aA items.size 0 lo=0 /\ aA items.size items.size hi=items.size) (h:Q (.ref t) s):wpAny (model prog w) A (getItem (.ref t) (.ref sl)) Q E s:=by
 obtain⟨os,sM,ye,kS⟩:=id hs;have HD:s.TypeIs (.ref sl) "slice":=⟨os,sM,ye⟩;unfold getItem;try with_reducible refine kh ?_
 first|refine af (ai ?_)|skip
 refine af (Qq ht.typeIs (by decide) ?_);refine af (sr (name:=Str.ofString "__getitem__") ht.typeIs ur
  (nP ur ht.typeIs SA ?_ (SD _ _)))
 show wpAny _ _ (Builtin.Tuple.tupleItemsOf (.ref t) >>= _) _ _ s;refine af (SE ht ?_);refine af (ue HD ?_);rw[if_pos (by decide)];refine af (iL hs pl pu ?_);have Yo:((((aA items.size 0 lo:Nat):Int)==0&&(1:Int)==1&&(aA items.size items.size hi-aA items.size 0 lo)==items.size)=true):=by
  rw[hw.1,hw.2];simp
 show wpAny _ _ (if (((aA items.size 0 lo:Nat):Int)==0&&(1:Int)==1&&(aA items.size items.size hi-aA items.size 0 lo)==items.size)=true then _ else _) _ _ s;rw[if_pos Yo];refine af (m:=Builtin.Tuple.tupleIsExact (.ref t)) ?_;unfold Builtin.Tuple.tupleIsExact;refine af (ue ht.typeIs (ai ?_));rw[if_pos (by decide)];exact af (pG (ai ⟨_,rfl,ai h⟩))
theorem jv {α β:Type}{f g:α->Option β}:∀ {l:List α},(∀ x∈l,f x=g x)->l.filterMap f=l.filterMap g
 |[],_=>rfl
 | x::l,h=>by
   rw[pI,pI,h x bL,jv λy hy=>h y (bC _ hy)]
theorem m7 (n:Nat):sliceRange ((n:Int)-1) (-1) (-1)=(List.range n).map λk=>n-1-k:=by
 have e:(if (-1:Int)>0 then (if (n:Int)-1 < -1 then (-1-((n:Int)-1)+-1-1) / -1 else 0) else (if (n:Int)-1>-1 then ((n:Int)-1 - -1 - -1-1) / (- -1) else 0):Int).toNat=n:=by
  rw[if_neg (by decide)];split
  ·have:((n:Int)-1 - -1 - -1-1) / (- -1)=n:=by
    rw[show (- -1:Int)=1 by decide,S0];omega
   rw[this];rfl
  ·omega
 show (List.range (if (-1:Int)>0 then (if (n:Int)-1 < -1 then (-1-((n:Int)-1)+-1-1) / -1 else 0) else (if (n:Int)-1>-1 then ((n:Int)-1 - -1 - -1-1) / (- -1) else 0):Int).toNat).map _=_;rw[e];refine pJ λk hk=>?_;have:=List.mem_range.mp hk;omega
theorem Ac (its:List Value):slicePick its.toArray none none (some (-1))=its.reverse.toArray:=by
 unfold slicePick;have e:sliceBounds none none (some (-1)) its.toArray.size=((its.length:Int)-1,-1,-1):=by
  simp[sliceBounds]
 rw[e];congr 1;show (sliceRange ((its.length:Int)-1) (-1) (-1)).filterMap (its.toArray[·]?)=_;rw[m7,vq];apply EB;intro i;have h1:(List.range its.length).filterMap ((λx=>its.toArray[x]?)∘λk=>its.length-1-k)=(List.range its.length).map λk=>(its[its.length-1-k]?).getD .none:=by
  rw[<-Q2];refine jv λk hk=>?_;have pS:=List.mem_range.mp hk;have sX:its.length-1-k<its.length:=by omega
  simp[sX]
 rw[h1,nR];by_cases hi:i<its.length
 ·have sX:its.length-1-i<its.length:=by omega
  rw[List.getElem?_range hi,List.getElem?_reverse hi];simp[sX]
 ·rw[qY (by simpa using su hi),qY (by simpa using su hi)];rfl
end HT
namespace L2.DL
section
variable {a b c : Expr} {mb mc : DE W} {p p2 : Pos} {lo hi : Option Expr}
def U1 (K:PySem.W.Frag):V->Option Int->Option Int->Hp->VK->Prop:=λx lo hi H Q=>∃ a xs,x=.ref a /\ a6 K H a xs /\
 (HT.aA xs.length 0 lo=0 /\ HT.aA xs.length xs.length hi=xs.length) /\ Q (.ref a) H
theorem LJ:qz X (U1 X.K):=by
 intro pins s σ H x v vl vu lo hi sl Q I rx hs pl pu h;obtain⟨a,xs,rfl,hx,hw,q⟩:=h;cases rx;obtain⟨its,r,ht,hz⟩:=I.tuple hx;have hlen:its.toArray.size=xs.length:=by rw[bc];exact r.length.symm
 exact⟨"tuple",_,ur.lookup,ht.typeIs,HT.lF ht hs pl pu (by rw[hlen];exact hw) ⟨.ref a,H,I,rfl,q⟩⟩
def U2 (K:PySem.W.Frag):V->Option Int->Option Int->Hp->VK->Prop:=λx lo hi H Q=>Ub K x lo hi H Q \/ U1 K x lo hi H Q \/ Uj K x lo hi H Q
theorem Ou:qz X (U2 X.K):=NZ.or (LJ.or Lj)
def cutD (xs:List D) (lo hi:Option Int):List D:=(xs.drop (HT.aA xs.length 0 lo)).take (HT.aA xs.length xs.length hi-HT.aA xs.length 0 lo)
theorem C7 {vs:List V}(h:ax F l vs) (lo hi:Option Int):ax F (cutD l lo hi) (rz vs lo hi):=by
 unfold cutD rz;rw[h.length];exact(h.drop _).take _
def ph:D->Option Int->Option Int->Option Res
 |.tup l,lo,hi=>some (.tup (cutD l lo hi))
 |.lst l,lo,hi=>some (.lst (cutD l lo hi))
 |_,_,_=>none
theorem Yp {x:D}{lo hi:Option Int}{Q:VK}{s:Res}(sub:Sub F H) (rx:kB F H x v) (e:ph x lo hi=some s) (k:∀ u H',sW F H s u H'->Q u H'):U2 K v lo hi H Q:=by
 cases x with
 | tup l =>
   cases e;obtain⟨a,vs,rfl,h1,h2⟩:=rx;by_cases hw:HT.aA vs.length 0 lo=0 /\ HT.aA vs.length vs.length hi=vs.length
   ·refine .inr (.inl ⟨a,vs,rfl,.of (sub _ _ h1),hw,k _ _ (.inl ⟨rfl,?_⟩)⟩);have e:cutD l lo hi=l:=by
     unfold cutD;rw[h2.length,hw.1,hw.2,Es,List.drop_zero,<-h2.length,EC]
    rw[e];exact⟨a,vs,rfl,h1,h2⟩
   ·exact .inl ⟨a,vs,rfl,.of (sub _ _ h1),hw,λp hp=>k _ _ (.inr ⟨p,_,rfl,hp,rfl,C7 h2 lo hi⟩)⟩
 | lst l =>
   cases e;obtain⟨a,vs,rfl,h1,h2⟩:=rx;exact .inr (.inr ⟨a,vs,rfl,.of h1,λp hp=>k _ _ ⟨p,_,rfl,hp,rfl,C7 h2 lo hi⟩⟩)
 |non=>cases e
 |bl _=>cases e
 |int _=>cases e
 |str _=>cases e
 |ak _=>cases e
abbrev Yq:Hp->List Addr->Option Int->Option Int->Prop:=λ_ _ a b=>a=b
def Yr (T:Fr) (Z:Xs) (m:DE (Option Int)):TO:=λσ H Q=>∃ F r env bx,Rel T F r σ H env bx /\ End T Z Yq F r σ env Q (m env bx)
def wc (X:Cx) (T:Fr) (Z:Xs) (e:Option Expr) (m:DE (Option Int)):Prop:=PO X e (Yr T Z m)
theorem PO.imp {e:Option Expr}{t t':TO}(h:PO X e t) (f:∀ σ H Q,t' σ H Q->t σ H Q):PO X e t':=λpins s σ H Q I q=>h pins s σ H Q I (f σ H Q q)
noncomputable def kW:DE (Option Int):=λ_ bx=>.val none bx
def kX (m:DE W):DE (Option Int):=λenv bx=>fA (m env bx) λw bx1=>match w with|.d (.int i)=>.val (some i) bx1|_=>.bad
theorem Ov:wc X T Z none kW:=PO.imp Lf λσ H Q ⟨F,r,env,bx,R,h⟩=>h F r none H (.refl F r) R rfl
theorem GB (h:PD X T Z e ma):wc X T Z (some e) (kX ma):=by
 refine PO.imp (Lg h) λσ H Q ⟨F,r,env,bx,R,h⟩=>?_;refine⟨F,r,env,bx,R,End.bind h λw bx1 F1 r1 v H1 g1 R1 d1 h1=>?_⟩;split at h1
 ·rename_i i;exact⟨i,d1,h1 F1 r1 _ H1 (.refl F1 r1) R1 rfl⟩
 ·exact h1.elim
def kY (bo:Bool) (m:DE W) (l u:DE (Option Int)):DE W:=λenv bx=>fA (m env bx) λx bx1=>fA (l env bx1) λi ag=>fA (u env ag) λj bE=>bH bo ((br bE x).bind λd=>ph d i j) bE
theorem GC {l u:DE (Option Int)}(bo:Bool) (ha:PD X T Z e ma) (hl:wc X T Z lo l) (hu:wc X T Z hi u):PD X T Z (.Subscript e (.Slice lo hi none p2) pos) (kY bo ma l u):=by
 refine PE.imp (Gf Ou ha hl hu) λσ H Q ⟨F,r,env,bx,R,h⟩=>?_;refine⟨F,r,env,bx,R,End.bind h λx bx1 F1 r1 v H1 g1 R1 d1 h1=>?_⟩;refine⟨F1,r1,env,bx1,R1,End.bind h1 λi ag F2 r2 i' H2 g2 R2 d2 h2=>?_⟩;refine⟨F2,r2,env,ag,R2,End.bind h2 λj bE F3 r3 j' H3 g3 R3 d3 h3=>?_⟩;subst d2 d3;cases e1:br bE x with
 |none=>rw[e1]at h3;exact h3.elim
 | some d =>
   rw[e1]at h3;simp only[bD]at h3;cases e2:ph d i j with
   |none=>rw[e2]at h3;exact h3.elim
   | some s =>
     rw[e2]at h3;exact Yp R3.fh (R3.pb (g3.den (g2.den d1)) e1) e2 λu H' k=>g6 R3 h3 k
theorem Ow {te:TE}{i:Int}{q1 q2:Pos}(he:PE X e te):PE X (.Subscript e (.Slice none none (some (.UnaryOp .USub (.Constant (.int 1) j q1) q2)) p2) pos)
 (λσ H Q=>te σ H λx H1=>∃ a xs,x=.ref a /\ bz X.K H1 a xs /\ ∀ p,H1 p=none->Q (.ref p) (upd H1 p (.lst xs.reverse))):=by
 intro pins s σ H Q I h;refine Subscript_ (au (he pins s σ H _ I h) λv s1 ⟨x,H1,I1,r1,q1⟩=>?_);refine Qs ?_;rw[Eg];refine ai (ai ?_);rw[Qr];refine au (PV (X:=X) NV FV pins s1 σ H1 (λy H2=>y=.int (-1) /\ H2=H1) I1 ⟨1,rfl,rfl,rfl⟩) λvs s3 ⟨y,H3,I3,r3,e1,e2⟩=>?_;subst e1 e2;obtain⟨t,rfl⟩:=r3;obtain⟨a,xs,rfl,hx,q⟩:=q1;cases r1;have I4:Inv X pins σ H3 { s3 with heap:=s3.heap.push { cls:=.type "slice",data:=.fields #[.none,.none,.int (-1) t] } }:=I3.kept (t':=s3.toks) λb ob q=>aL _ q;obtain⟨its,r,ht,hz⟩:=I4.list hx;have hlen:=r.length;have hg:wpAny (model X.prog X.w) X.A (getItem (.ref a) (.ref s3.heap.objs.size)) (EP X pins σ Q) X.xe { s3 with heap:=s3.heap.push { cls:=.type "slice",data:=.fields #[.none,.none,.int (-1) t] } }:=by
  refine Qt (lo:=none) (hi:=none) (st:=some (-1)) ht.isList (Heap.IsSliceOf.new ..) .none .none (.int (-1) t) (by simp) ?_ (by rw[bc]<;>omega);rw[HT.Ac];refine⟨.ref _,_,I4.laid (t':=s3.toks) (o:=.lst xs.reverse) (λb ob q=>aL _ q) (ao _) ?_,rfl,q _ (I4.aj.fresh (ao _))⟩;exact⟨by rw[List.length_reverse];exact hz,_,0,r.reverse,bR _ rfl⟩
 show wpAny (model X.prog X.w) X.A (subscriptTail e (.Slice none none (some (.UnaryOp .USub (.Constant (.int 1) j _) q2)) p2) (.ref a) (.ref s3.heap.objs.size)) (EP X pins σ Q) X.xe _;exact EM (ops:=[.ref a,.ref s3.heap.objs.size]) ht.isList.typeIs slot_list_getitem.lookup hg (by with_unfolding_all rfl)
def sZ (bo:Bool) (m:DE W):DE W:=λenv bx=>fA (m env bx) λx bx1=>bH bo ((br bx1 x).bind λd=>match d with|.lst l=>some (.lst l.reverse)|_=>none) bx1
theorem Ox {q1 q2:Pos}(bo:Bool) (ha:PD X T Z e ma):PD X T Z (.Subscript e (.Slice none none (some (.UnaryOp .USub (.Constant (.int 1) j q1) q2)) p2) pos) (sZ bo ma):=by
 refine PE.imp (Ow (i:=0) ha) λσ H Q ⟨F,r,env,bx,R,h⟩=>?_;refine⟨F,r,env,bx,R,End.bind h λx bx1 F1 r1 v H1 g1 R1 d1 h1=>?_⟩;cases e1:br bx1 x with
 |none=>rw[e1]at h1;exact h1.elim
 | some d =>
   rw[e1]at h1;cases d with
   | lst l =>
     obtain⟨a,vs,rfl,k1,k2⟩:=R1.pb d1 e1;exact⟨a,vs,rfl,.of k1,λp hp=>g6 R1 h1 ⟨p,_,rfl,hp,rfl,k2.reverse⟩⟩
   |_=>exact h1.elim
end
end L2.DL
namespace HT
theorem Bw {l:Addr}{Q:List Value->Shared->Prop}(hl:IsTup s.heap l vs.toArray) (hz:vs.length<=sizeLine)
 (h:Q vs { s with heap:=(s.heap.push (seqObj "list" #[] 0)).update s.heap.objs.size (Obj.mapSeq (·++vs.toArray)) }):wpAny (model prog w) A (collect (.ref l)) Q E s:=by
 obtain⟨ob,ho,uI,k,pj⟩:=id hl;unfold collect;refine af (wpAny_runValue (Qy entry_proto_collect' (af (xb (ai ⟨Code.quiet_builtin _ (by decide +kernel),Qy entry_list_iadd' ?_⟩)))));show wpAny _ _ (Builtin.List.listExtendWith (.ref s.heap.objs.size) (.ref l) (.ref s.heap.objs.size)) _ _ { s with heap:=s.heap.push (seqObj "list" #[] 0) };unfold Builtin.List.listExtendWith;have pk:(s.heap.push (seqObj "list" #[] 0)).get? l=some ob:=aL _ ho;refine af (ue (T:="tuple") ⟨ob,pk,uI⟩ ?_);rw[if_pos (by rw[show (Value.type "tuple"==Value.type "tuple")=true by decide,Bool.or_true])];refine af (qr pk pj (af (qr (xs:=#[]) (n:=0) (bR _ rfl) rfl ?_)));rw[if_neg (by simp)];refine af (xA (xs:=#[]) (n:=0) (bR _ rfl) rfl (ai ?_) (eG _) (by show (#[]++vs.toArray).size<=sizeLine+1;simp only[Array.size_append,bc,eJ];omega));refine af (Ec (SG (bR _ rfl) _) (show wpAny _ _ (pure ((#[]:Array Value)++vs.toArray).toList) Q E _ from ?_));rw[show ((#[]:Array Value)++vs.toArray).toList=vs by simp];exact ai h
theorem m8 {l:Addr}(hl:IsTup s.heap l vs.toArray) (hI:IntsAre vs ns) (cB:vs.length<64)
 (h:∀ (out:Array Value) (cJ:List Int),IntsAre out.toList cJ->cJ.Perm ns->cJ.Pairwise (·<=·)->Q (.ref (s.heap.objs.size+1)) { s with heap:=sortedAll s.heap vs out }):wpAny (model prog w) A (call (.builtin "sorted") [.ref l]) Q E s:=by
 refine S5 SH SI SJ (SK _) ?_;unfold Builtin.«sorted»;refine af (m:=checkCount "sorted" 1 1 _) (ai (af (Bw hl (bP (k8 cB) (by decide)) (af (xb ?_)))));have hsz:((s.heap.push (seqObj "list" #[] 0)).update s.heap.objs.size (Obj.mapSeq (·++vs.toArray))).objs.size=s.heap.objs.size+1:=by rw[Sv,size_push']
 have xT:(((s.heap.push (seqObj "list" #[] 0)).update s.heap.objs.size (Obj.mapSeq (·++vs.toArray))).push (seqObj "list" vs.toArray 0)).get? (s.heap.objs.size+1)=some (seqObj "list" vs.toArray 0):=by rw[<-hsz];exact bR _ rfl
 show wpAny _ _ _ _ _ { s with heap:=((s.heap.push (seqObj "list" #[] 0)).update s.heap.objs.size (Obj.mapSeq (·++vs.toArray))).push (seqObj "list" vs.toArray 0) };rw[hsz];exact af (kh (nP SM ⟨_,xT,rfl⟩ SN (list_sort_tree xT hI cB λout cJ a1 a2 a3=>⟨_,rfl,ai ⟨_,rfl,h out cJ a1 a2 a3⟩⟩) (SQ _)))
end HT
namespace L2.DL
noncomputable def sortI (ns:List Int):List Int:=ns.mergeSort λa b=>decide (a<=b)
theorem iZ (ns:List Int):(sortI ns).Perm ns:=xq ns _
theorem lG (ns:List Int):(sortI ns).Pairwise (·<=·):=by
 have h:=ED (le:=λa b:Int=>decide (a<=b)) (λa b c h1 h2=>by simp at *;omega) (λa b=>by simp;omega) ns;exact h.imp λq=>by simpa using q
theorem By {a b:List Int}(p:a.Perm b) (ha:a.Pairwise (·<=·)) (hb:b.Pairwise (·<=·)):a=b :=
 p.eq_of_pairwise (λx y _ _ h1 h2=>Int.le_antisymm h1 h2) ha hb
section
variable {a b c : Expr} {mb mc : DE W} {p p2 : Pos}
def uN (K:PySem.W.Frag) (vs:List V) (H:Hp) (Q:VK):Prop:=∃ (p:Addr) (ns:List Int),vs=[.ref p] /\ (bz K H p (ns.map V.int) \/ a6 K H p (ns.map V.int)) /\ ns.length<64 /\ ∀ l,H l=none->Q (.ref l) (upd H l (.lst ((sortI ns).map V.int)))
theorem Ap:∀ {us:List Value}{ns:List Int},IntsAre us ns->Vals (ns.map V.int) us
 |_,_,.nil=>.nil
 |_,_,.cons n t h=>.cons ⟨t,rfl⟩ (Ap h)
theorem Fl:cU X (.builtin "sorted") (uN X.K):=by
 intro pins s σ H xs us Q I rv h;obtain⟨p,ns,rfl,hp,cB,q⟩:=h;obtain⟨u,rfl,ru⟩:=Vals.one rv;cases ru;have fin:∀ (its:List Value) (out:Array Value) (cJ:List Int),IntsAre out.toList cJ->cJ.Perm ns->cJ.Pairwise (·<=·)->EP X pins σ Q (.ref (s.heap.objs.size+1)) { s with heap:=sortedAll s.heap its out }:=λits out cJ a1 a2 a3=>by
  obtain⟨k,he⟩:=EN s.heap its out;have e:cJ=sortI ns:=By (a2.trans (iZ ns).symm) a3 (lG ns);subst e;have hf:H (s.heap.objs.size+1)=none:=I.aj.fresh (pH _);have ll:((sortI ns).map V.int).length<=sizeLine:=by
   rw[aR,(iZ ns).length_eq];exact bP (k8 cB) (by decide)
  refine⟨.ref (s.heap.objs.size+1),_,I.laid (t':=s.toks) (o:=.lst ((sortI ns).map V.int)) (λb ob q=>EO q) (pH _) ?_,rfl,q _ hf⟩;exact⟨ll,out.toList,k,Ap a1,he⟩
 rcases hp with hp|hp
 ·obtain⟨its,r1,p1,z1⟩:=I.list hp;have hl:ns.length=its.length:=by have:=r1.length;simpa using this
  exact sorted_ints p1.isList (gR r1) (by omega) λout cJ=>fin its out cJ
 ·obtain⟨its,r1,p1,z1⟩:=I.tuple hp;have hl:ns.length=its.length:=by have:=r1.length;simpa using this
  exact HT.m8 p1 (gR r1) (by omega) λout cJ=>fin its out cJ
def rN:List D->Option Res
 |[.lst l]=>(intsOf l).bind λns=>if ns.length<64 then some (.lst ((sortI ns).map D.int)) else none
 |[.tup l]=>(intsOf l).bind λns=>if ns.length<64 then some (.lst ((sortI ns).map D.int)) else none
 |_=>none
theorem lH {F:Hp}:∀ (ns:List Int),ax F (ns.map D.int) (ns.map V.int)
 |[]=>rfl
 |n::ns=>.cons rfl (lH ns)
theorem Ys:eO (uN K) rN:=by
 intro F H xs vs Q s sub rx e k;unfold rN at e;split at e
 ·rename_i l;obtain⟨v,t,rfl,⟨a,us,rfl,h1,h2⟩,rt⟩:=rx;cases (show t=[] from rt);cases e1:intsOf l with
  |none=>rw[e1]at e;cases e
  | some ns =>
    rw[e1]at e;simp only[bD]at e;split at e
    ·rename_i cB;cases e;have q1:=h2.ints e1;subst q1;exact⟨a,ns,rfl,.inl (.of h1),cB,λl hl=>k _ _ ⟨l,_,rfl,hl,rfl,lH _⟩⟩
    ·cases e
 ·rename_i l;obtain⟨v,t,rfl,⟨a,us,rfl,h1,h2⟩,rt⟩:=rx;cases (show t=[] from rt);cases e1:intsOf l with
  |none=>rw[e1]at e;cases e
  | some ns =>
    rw[e1]at e;simp only[bD]at e;split at e
    ·rename_i cB;cases e;have q1:=h2.ints e1;subst q1;exact⟨a,ns,rfl,.inr (.of (sub _ _ h1)),cB,λl hl=>k _ _ ⟨l,_,rfl,hl,rfl,lH _⟩⟩
    ·cases e
 ·cases e
def dY (m:DE W) (k:DE W):DE W:=λenv bx=>fA (m env bx) λx bx1=>match x with
 | .b n=>(match bx1[n]? with
   | some (.lst _)=>fA (k env bx1) λy ag=>(match y,ag[n]? with
     |.d d,some (.lst l)=>if l.length<sizeLine then .val (.d .non) (ag.set n (.lst (l++[d]))) else .bad
     |_,_=>.bad)
   |_=>.bad)
 |_=>.bad
theorem Rf {Q:VK}(h:tD T Z (dY ma mb) σ H Q):HF X.K "list" Uo (tD T Z ma) (Ht (tD T Z mb) Hr) σ H Q:=by
 obtain⟨F,r,env,bx,R,h⟩:=h;refine⟨F,r,env,bx,R,End.bind h λx bx1 F1 r1 v H1 g1 R1 d1 h1=>?_⟩;cases x with
 |d _=>exact h1.elim
 |s _=>exact h1.elim
 |x _=>exact h1.elim
 |t _=>exact h1.elim
 |m _=>exact h1.elim
 | b n =>
   simp only at h1;obtain⟨a,rfl,ha⟩:=d1;obtain⟨c,hc,kc⟩:=R1.dW ha;rw[hc]at h1;cases c with
   |ak _=>exact h1.elim
   |dead=>exact h1.elim
   |dT _=>exact h1.elim
   |fD _=>exact h1.elim
   | lst l0 =>
     obtain⟨_,rO,k0,_⟩:=kc;refine⟨.inl ⟨rfl,rO,bz.of k0⟩,?_⟩;refine⟨F1,r1,env,bx1,R1,End.bind h1 λy ag F2 r2 u H2 g2 R2 d2 h2=>?_⟩;obtain⟨t,et⟩:=g2.p;have rP:r2[n]?=some a:=by rw[<-et,c6 (List.getElem?_eq_some_iff.mp ha).1];exact ha
     obtain⟨c2,cV,qI⟩:=R2.dW rP;rw[cV]at h2;cases y with
     |b _=>exact h2.elim
     |s _=>exact h2.elim
     |x _=>exact h2.elim
     |t _=>exact h2.elim
     |m _=>exact h2.elim
     | d dd =>
       cases c2 with
       |ak _=>exact h2.elim
       |dead=>exact h2.elim
       |dT _=>exact h2.elim
       |fD _=>exact h2.elim
       | lst l =>
         simp only at h2;split at h2
         ·rename_i hz;obtain⟨hF,vs,k1,k2⟩:=qI;refine⟨a,vs,u,rfl,rfl,k1,by rw[<-k2.length];exact hz,?_⟩;exact h2 F2 r2 _ _ (.refl F2 r2) (R2.write rP hF ⟨hF,vs++[u],fu,k2.append (.cons d2 .nil)⟩) rfl
         ·exact h2.elim
end
end L2.DL
namespace L2
section
variable {κ : Type} [DecidableEq κ]
noncomputable def dt (ae:List (κ×V)) (k:κ):Option V:=(ae.find? λkv=>decide (kv.1=k)).map (·.2)
noncomputable def putK (ae:List (κ×V)) (k:κ) (v:V):List (κ×V):=
 if (ae.any λkv=>decide (kv.1=k))=true then ae.map (λkv=>if kv.1=k then (kv.1,v) else kv) else ae++[(k,v)]
noncomputable def nF (ae:List (κ×V)) (k:κ):List (κ×V):=ae.filter λkv=>decide (kv.1≠k)
theorem jw {p:κ×V}{r:List (κ×V)}{k:κ}(e:p.1=k):dt (p::r) k=some p.2:=by simp[dt,kq,e]
theorem iM {p:κ×V}{r:List (κ×V)}{k:κ}(e:¬ p.1=k):dt (p::r) k=dt r k:=by simp[dt,kq,e]
theorem Bz (k:κ):∀ ae:List (κ×V),(ae.any λkv=>decide (kv.1=k))=(dt ae k).isSome
 |[]=>rfl
 | p::r=>by
   rw[qX];by_cases e:p.1=k
   ·simp only[jw e,decide_eq_true e,Bool.true_or,Option.isSome_some]
   ·rw[iM e,decide_eq_false e,QU];exact Bz k r
theorem jx (ae:List (κ×V)) (k:κ) (v:V):(putK ae k v).length<=ae.length+1:=by
 unfold putK;split
 ·rw[aR];omega
 ·rw[cG,bb,eJ];omega
theorem kr.uO {o:Option V}{u:Option Value}(r:kr o u):o.isSome=u.isSome:=by
 cases o with
 | none=>cases u with
   |none=>rfl
   |some _=>exact(show False from r).elim
 | some _=>cases u with
   |none=>exact(show False from r).elim
   |some _=>rfl
theorem kr.getD {o:Option V}{u:Option Value}{d:V}{d':Value}(r:kr o u) (rd:RelV d d'):RelV (o.getD d) (u.getD d'):=by
 cases o with
 | none=>cases u with
   |none=>exact rd
   |some _=>exact(show False from r).elim
 | some _=>cases u with
   |none=>exact(show False from r).elim
   |some _=>exact r
theorem KV.val {ae:List (κ×V)}{vs:List (κ×Value)}(r:KV ae vs) (k:κ):kr (dt ae k) (valueAt vs k):=by
 unfold KV at r;induction r with
 |nil=>exact True.intro
 | @cons p q ps qs h t ih =>
   obtain⟨h1,h2⟩:=h;by_cases e:p.1=k
   ·have e':q.1=k:=h1.symm.trans e;have b:valueAt (q::qs) k=some q.2:=by simp[valueAt,kq,e']
    rw[jw e,b];exact h2
   ·have e':¬ q.1=k:=λz=>e (h1.trans z);have b:valueAt (q::qs) k=valueAt qs k:=by simp[valueAt,kq,e']
    rw[iM e,b];exact ih
theorem KV.any {ae:List (κ×V)}{vs:List (κ×Value)}(r:KV ae vs) (k:κ):(ae.any λkv=>decide (kv.1=k))=vs.any λkv=>decide (kv.1=k):=by
 unfold KV at r;induction r with
 |nil=>rfl
 |cons h t ih=>rw[qX,qX,ih,h.1]
theorem KV.Ij {ae:List (κ×V)}{vs:List (κ×Value)}(r:KV ae vs) (k:κ) {y:V}(ry:RelV y u) :
 KV (ae.map λkv=>if kv.1=k then (kv.1,y) else kv) (vs.map λkv=>if kv.1=k then (kv.1,u) else kv):=by
 unfold KV at r ⊢;induction r with
 |nil=>exact .nil
 | @cons p q ps qs h t ih =>
   rw[aG,aG];refine .cons ?_ ih;obtain⟨h1,h2⟩:=h;by_cases e:p.1=k
   ·rw[if_pos e,if_pos (h1.symm.trans e)];exact⟨h1,ry⟩
   ·rw[if_neg e,if_neg (λz=>e (h1.trans z))];exact⟨h1,h2⟩
theorem KV.put {ae:List (κ×V)}{vs:List (κ×Value)}(r:KV ae vs) (k:κ) {y:V}(ry:RelV y u):KV (putK ae k y) (stored vs k u):=by
 unfold putK stored;rw[r.any k];by_cases e:(vs.any λkv=>decide (kv.1=k))=true
 ·rw[if_pos e,if_pos e];exact r.Ij k ry
 ·rw[if_neg e,if_neg e];exact Paired.snoc r ⟨rfl,ry⟩
theorem KV.drop {ae:List (κ×V)}{vs:List (κ×Value)}(r:KV ae vs) (k:κ):KV (nF ae k) (without vs k):=by
 unfold KV at r ⊢;unfold nF without;induction r with
 |nil=>exact .nil
 | @cons p q ps qs h t ih =>
   obtain⟨h1,h2⟩:=h;rw[xr,xr];by_cases e:p.1=k
   ·have a:¬ decide (p.1≠k)=true:=by simp[e]
    have b:¬ decide (q.1≠k)=true:=by simp[h1.symm.trans e]
    rw[if_neg a,if_neg b];exact ih
   ·have e':¬ q.1=k:=λz=>e (h1.trans z);have a:decide (p.1≠k)=true:=by simp[e]
    have b:decide (q.1≠k)=true:=by simp[e']
    rw[if_pos a,if_pos b];exact .cons ⟨h1,h2⟩ ih
theorem KV.length {ae:List (κ×V)}{vs:List (κ×Value)}(r:KV ae vs):ae.length=vs.length:=Paired.length r
theorem BA (ae:List (κ×V)) (k:κ):(nF ae k).length<=ae.length:=vt _ _
end
theorem lI {k:Key}(r:RelV (kV k) u):(cg P w).is k u=true:=by
 cases k with
 |inl i=>obtain⟨t,e⟩:=(show ∃ t,u=Value.int i t from r);subst e;exact Bm P w i t
 |inr x=>obtain⟨t,e⟩:=(show ∃ t,u=Value.str x t from r);subst e;exact Bn P w x t
theorem Aq {P:Program}{w:World}:∀ {ks:List Key}{us:List Value},Vals (ks.map kV) us->ItemsAre (cg P w) ks us
 |[],_,r=>by rw[qh]at r;cases r;exact .nil
 | k::ks,_,r=>by
   rw[aG]at r;cases r with
   |cons h t=>exact .cons (lI h) (Aq t)
abbrev KT (H:Hp):List (List Key×V)->List (List Key×Addr×Value)->Prop:=Paired λp q=>p.1=q.1 /\ H q.2.1=some (.tup (p.1.map kV)) /\ RelV p.2 q.2.2
theorem KT.val (r:KT H ae xs) (k:List Key):kr (dt ae k) ((atKey xs k).map (·.2)):=by
 induction r with
 |nil=>exact True.intro
 | @cons p q ps qs h t ih =>
   obtain⟨h1,_,h2⟩:=h;by_cases e:p.1=k
   ·have e':q.1=k:=h1.symm.trans e;have b:atKey (q::qs) k=some q.2:=by simp[atKey,kq,e']
    rw[jw e,b];exact h2
   ·have e':¬ q.1=k:=λz=>e (h1.trans z);have b:atKey (q::qs) k=atKey qs k:=by simp[atKey,kq,e']
    rw[iM e,b];exact ih
theorem KT.Ij (r:KT H ae xs) (k:List Key) {y:V}(ry:RelV y u) :
 KT H (ae.map λkv=>if kv.1=k then (kv.1,y) else kv) (xs.map (putAt k u)):=by
 induction r with
 |nil=>exact .nil
 | @cons p q ps qs h t ih =>
   rw[aG,aG];refine .cons ?_ ih;obtain⟨h1,h2,h3⟩:=h;unfold putAt;by_cases e:p.1=k
   ·rw[if_pos e,if_pos (h1.symm.trans e)];exact⟨h1,h2,ry⟩
   ·rw[if_neg e,if_neg (λz=>e (h1.trans z))];exact⟨h1,h2,h3⟩
theorem KT.put (r:KT H ae xs) (k:List Key) {b:Addr}{y:V}(hb:H b=some (.tup (k.map kV))) (ry:RelV y u) :
 KT H (putK ae k y) (storedH xs k b u):=by
 have e:(ae.any λkv=>decide (kv.1=k))=(atKey xs k).isSome:=by
  rw[Bz,(r.val k).uO,qp]
 unfold putK storedH;rw[e];by_cases q:(atKey xs k).isSome=true
 ·rw[if_pos q,if_pos q];exact r.Ij k ry
 ·rw[if_neg q,if_neg q];exact Paired.snoc r ⟨rfl,hb,ry⟩
theorem KT.keeps (r:KT H ae xs) (ht:∀ b ys,H b=some (.tup ys)->H' b=some (.tup ys)):KT H' ae xs :=
 Paired.Ha r λ_ _ z=>⟨z.1,ht _ _ z.2.1,z.2.2⟩
theorem Nc {u:HO}(ok:bO P w H h) (e:Rd H a u):aV P w H h a u:=e.ok ok
theorem mB {ae:List (Key×V)}(ok:bO P w H h) (e:Rd H a (.dK ae)):ae.length<=sizeLine /\ (a==sysModules)=false /\ ∃ vs,KV ae vs /\ h.DictOf (cg P w) a vs :=
 show aV P w H h a (.dK ae) from Nc ok e
theorem C8 {ae:List (Key×V)}(ok:bO P w H h) (e:H a=some (.dK ae)):ae.length<=sizeLine /\ (a==sysModules)=false /\ ∃ vs,KV ae vs /\ h.DictOf (cg P w) a vs:=mB ok (.inl e)
theorem lZ {ks:List Key}(ok:bO P w H h) (e:H a=some (.tup (ks.map kV))):(tupleKind (cg P w)).is h ks a:=by
 obtain⟨_,its,r,o,h1,h2,n,h3⟩:=(show aV P w H h a (.tup (ks.map kV)) from ok a _ e);exact⟨o,its.toArray,n,h1,h2,h3,by simpa using Aq r⟩
theorem m9 (ok:bO P w H h) (e:Rd H a (.dT ae)):ae.length<=sizeLine /\ (a==sysModules)=false /\
 ∃ xs,KT H ae xs /\ h.DictOfH (tupleKind (cg P w)) a xs:=by
 obtain⟨z,y,xs,r,o,es,ep,h1,h2,h3,h4,h5⟩:=(show aV P w H h a (.dT ae) from Nc ok e);refine⟨z,y,xs,r,o,es,ep,h1,h2,h3,h4,λx hx=>?_,h5⟩;have all:∀ {l:List (List Key×V)}{m:List (List Key×Addr×Value)},KT H l m->∀ x∈m,(tupleKind (cg P w)).is h x.1 x.2.1:=by
  intro l m q;induction q with
  |nil=>intro x hx;exact nomatch hx
  | @cons p q ps qs hq t ih =>
    intro x hx;rcases bG.mp hx with e|hx
    ·subst e;exact lZ ok (by rw[<-hq.1];exact hq.2.1)
    ·exact ih x hx
 exact all r x hx
theorem Nd (ok:bO P w H h) (e:H a=some (.dT ae)):ae.length<=sizeLine /\ (a==sysModules)=false /\
 ∃ xs,KT H ae xs /\ h.DictOfH (tupleKind (cg P w)) a xs:=m9 ok (.inl e)
def nG (H:Hp) (a:Addr) (y:V) (r:Option V):Prop :=
 (∃ ae k,Rd H a (.dK ae) /\ y=kV k /\ r=dt ae k) \/ ∃ ae k b,Rd H a (.dT ae) /\ y=.ref b /\ H b=some (.tup (k.map kV)) /\ r=dt ae k
def U3 (H:Hp) (a:Addr) (y v:V) (H':Hp):Prop :=
 (∃ ae k,H a=some (.dK ae) /\ y=kV k /\ ae.length<sizeLine /\ H'=upd H a (.dK (putK ae k v))) \/
 ∃ ae k b,H a=some (.dT ae) /\ y=.ref b /\ H b=some (.tup (k.map kV)) /\ ae.length<sizeLine /\ H'=upd H a (.dT (putK ae k v))
theorem nG.k {H:Hp}{a:Addr}{ae:List (Key×V)}{k:Key}(e:H a=some (.dK ae)):nG H a (kV k) (dt ae k):=.inl ⟨ae,k,.inl e,rfl,rfl⟩
section
variable {y : V} {r : Value} {o : Option V} 
theorem Inv.big (I:Inv X pins σ H s):sysModules<s.heap.objs.size:=by
 have h:mainGlobals<s.heap.objs.size:=(I.mod.glob.keeps I.bk).lt;exact xh (by decide) h
theorem Fm (hu:A.units+1<cLine) (I:Inv X pins σ H s) (g:nG H a y (some v)) (ry:RelV y u) (h:∀ w' s',Inv X pins σ H s'->RelV v w'->Q w' s') :
 wpAny (model X.prog X.w) A (getItem (.ref a) u) Q E s:=by
 rcases g with⟨ae,k,e,ey,l⟩|⟨ae,k,b,e,ey,eb,l⟩
 ·subst ey;obtain⟨z,hd,vs,rel,dd⟩:=mB I.aj e;obtain⟨w',hw,di⟩:=kr.some_of (v:=v) (o:=valueAt vs k) (by rw[l];exact rel.val k);exact wpAny_getItem_of (lI ry) dd.mapOf hw (h w' _ (I.tok _) di)
 ·subst ey;cases (show u=Value.ref b from ry);obtain⟨z,hd,xs,rel,dd⟩:=m9 I.aj e;obtain⟨w',hw,di⟩:=kr.some_of (v:=v) (o:=(atKey xs k).map (·.2)) (by rw[l];exact rel.val k);obtain⟨p,hp,Yt⟩:=Option.map_eq_some_iff.mp hw;refine wpAny_getItem_heap (vi hu) (lZ I.aj eb) dd hp ?_;rw[Yt];exact h w' _ (I.tok _) di
theorem R8 (hu:A.units+1<cLine) (I:Inv X pins σ H s) (g:nG H a y o) (ry:RelV y u) (h:∀ s',Inv X pins σ H s'->Q (.bool o.isSome) s') :
 wpAny (model X.prog X.w) A (compareOp .In u (.ref a)) Q E s:=by
 rcases g with⟨ae,k,e,ey,l⟩|⟨ae,k,b,e,ey,eb,l⟩
 ·subst ey;obtain⟨z,hd,vs,rel,dd⟩:=mB I.aj e;refine wpAny_in_of (lI ry) hd dd.mapOf ?_;rw[<-(rel.val k).uO,<-l];exact h _ (I.tok _)
 ·subst ey;cases (show u=Value.ref b from ry);obtain⟨z,hd,xs,rel,dd⟩:=m9 I.aj e;refine wpAny_in_heap (vi hu) (lZ I.aj eb) hd dd ?_;have q:=(rel.val k).uO;rw[qp]at q;rw[<-q,<-l];exact h _ (I.tok _)
theorem LK (hu:A.units+1<cLine) (I:Inv X pins σ H s) (g:nG H a y o) (ry:RelV y u) (h:∀ s',Inv X pins σ H s'->Q (.bool (!o.isSome)) s') :
 wpAny (model X.prog X.w) A (compareOp .NotIn u (.ref a)) Q E s:=by
 rcases g with⟨ae,k,e,ey,l⟩|⟨ae,k,b,e,ey,eb,l⟩
 ·subst ey;obtain⟨z,hd,vs,rel,dd⟩:=mB I.aj e;refine wpAny_notIn_of (lI ry) hd dd.mapOf ?_;rw[<-(rel.val k).uO,<-l];exact h _ (I.tok _)
 ·subst ey;cases (show u=Value.ref b from ry);obtain⟨z,hd,xs,rel,dd⟩:=m9 I.aj e;refine wpAny_notIn_heap (vi hu) (lZ I.aj eb) hd dd ?_;have q:=(rel.val k).uO;rw[qp]at q;rw[<-q,<-l];exact h _ (I.tok _)
theorem lJ {ob:HO}(I:Inv X pins σ H s) (mu:vG (H a)) (hs:Heap.SameBut a s.heap h') (he:∃ q,h'.get? a=some q) (new:aV X.prog X.w (upd H a ob) h' a ob) :
 Inv X pins σ (upd H a ob) { s with heap:=h',toks:=t' } :=
 I.write (x:=a) (e:=a) mu (.inl rfl) (λb q hb z=>(hs.2 b hb).trans z) he new
theorem AQ {ae:List (Key×V)}{vs:List (Key×Value)}(z:ae.length<=sizeLine) (hd:(a==sysModules)=false) (rel:KV ae vs) (dd:h'.DictOf (cg P w) a vs) :
 aV P w H' h' a (.dK ae):=⟨z,hd,vs,rel,dd⟩
theorem Fn {Q:Unit->Shared->Prop}(hu:A.units+1<cLine) (I:Inv X pins σ H s) (g:U3 H a y v H') (ry:RelV y u) (rv:RelV v r) (h:∀ s',Inv X pins σ H' s'->Q () s') :
 wpAny (model X.prog X.w) A (setItem (.ref a) u r) Q E s:=by
 rcases g with⟨ae,k,e,ey,l,eH⟩|⟨ae,k,b,e,ey,eb,l,eH⟩
 ·subst ey eH;obtain⟨z,hd,vs,rel,dd⟩:=C8 I.aj e;have hz:vs.length<=sizeLine:=by rw[<-rel.length];exact z
  have hl:(putK ae k v).length<=sizeLine:=by have:=jx ae k v;omega
  refine wpAny_setItem_pairs (hsz:=hz) (lI ry) dd λh' hG hs=>h _ ?_;have he:∃ q,h'.get? a=some q:=let ⟨q,_,_,hq,_⟩:=hG;⟨q,hq⟩
  exact lJ I (by rw[e];exact True.intro) hs he (AQ hl hd (rel.put k rv) hG)
 ·subst ey eH;cases (show u=Value.ref b from ry);obtain⟨z,hd,xs,rel,dd⟩:=Nd I.aj e;have hz:xs.length<=sizeLine:=by rw[<-Paired.length rel];exact z
  have hl:(putK ae k v).length<=sizeLine:=by have:=jx ae k v;omega
  refine wpAny_setItem_heap (hsz:=hz) (vi hu) (lZ I.aj eb) dd λh' hG hs=>h _ ?_;obtain⟨q,es,ep,hq,h2,h3,h4,_,h5⟩:=hG;refine lJ I (by rw[e];exact True.intro) hs ⟨q,hq⟩ ⟨hl,hd,_,(rel.put k eb rv).keeps λc ys ec=>?_,q,es,ep,hq,h2,h3,h4,h5⟩;rw[fv (PN ec e (λz=>nomatch z))];exact ec
end
section
variable {ae : List (Key × V)} {k : Key} 
theorem Fo {Q:Unit->Shared->Prop}(I:Inv X pins σ H s) (e:H a=some (.dK ae)) (ry:RelV (kV k) u) (l:(dt ae k).isSome=true) (h:∀ s',Inv X pins σ (upd H a (.dK (nF ae k))) s'->Q () s') :
 wpAny (model X.prog X.w) A (delItem (.ref a) u) Q E s:=by
 obtain⟨z,hd,vs,rel,dd⟩:=C8 I.aj e
 refine wpAny_delItem_slot dd.typeIs (by decide) Tb
  (xc Tb dd.typeIs PySem.F.entry_dict_delitem (PySem.F.args_dict_delitem_2 _ _) (meets_dict_delitem_pairs (cg X.prog X.w) a (lI ry)) ⟨vs,dd,by rw[<-rel.length];exact z,by rw[<-(rel.val k).uO];exact l,λh' hG hs=>h _ ?_⟩)
 have he:∃ q,h'.get? a=some q:=let ⟨q,_,_,hq,_⟩:=hG;⟨q,hq⟩
 exact lJ I (by rw[e];exact True.intro) hs he (AQ (bP (BA ae k) z) hd (rel.drop k) hG)
theorem Rg {more:List Value}(I:Inv X pins σ H s) (e:H a=some (.dK ae)) (ry:RelV (kV k) u) (l:dt ae k=some v) (hm:more=[] \/ ∃ x,more=[x])
 (h:∀ w' s',Inv X pins σ (upd H a (.dK (nF ae k))) s'->RelV v w'->Q w' s'):wpAny (model X.prog X.w) A (call (.builtin "dict.pop") (.ref a::u::more)) Q E s:=by
 obtain⟨z,hd,vs,rel,dd⟩:=C8 I.aj e;obtain⟨w',hw,di⟩:=kr.some_of (v:=v) (o:=valueAt vs k) (by rw[<-l];exact rel.val k);have hp:(keyPart u).isSome=true:=by
  cases k with
  |inl i=>obtain⟨t,q⟩:=(show ∃ t,u=Value.int i t from ry);subst q;rfl
  |inr x=>obtain⟨t,q⟩:=(show ∃ t,u=Value.str x t from ry);subst q;rfl
 have ha:argsOk "dict.pop" ⟨.ref a::u::more,[]⟩:=by
  rcases hm with q|⟨x,q⟩
  ·subst q;exact PySem.F.args_dict_pop_2 _ _
  ·subst q;exact PySem.F.args_dict_pop_3 _ _ _
 refine xc Tc dd.typeIs PySem.F.entry_dict_pop ha (meets_dict_pop_there (cg X.prog X.w) a (lI ry) more hm hp)
  ⟨vs,w',dd,by rw[<-rel.length];exact z,hw,λh' hG hs=>h w' _ ?_ di⟩
 have he:∃ q,h'.get? a=some q:=let ⟨q,_,_,hq,_⟩:=hG;⟨q,hq⟩
 exact lJ I (by rw[e];exact True.intro) hs he (AQ (bP (BA ae k) z) hd (rel.drop k) hG)
end
def yE (i:Expr):Prop:=∀ ov iv,subscripted i false ov iv=operate [ov,iv] (getItem ov iv)
theorem LL {env:Env}{value slice:Expr}{T id:String} 
 (hl:typeLookup (.type T) "__getitem__"=pure (some (.builtin id))) (hs:yE slice)
 (h:wpAny (model prog w) A (eval value env) (λo s₁=>wpAny (model prog w) A (eval slice env) (λi s₂=>s₂.TypeIs o T /\ wpAny (model prog w) A (getItem o i) Q E s₂) E s₁) E s) :
 wpAny (model prog w) A (eval (.Subscript value slice pos) env) Q E s:=by
 refine Subscript_ (eE h (λo s₁ h₁=>eE h₁ (λi s₂ h₂=>?_) λ_ _ x=>x) λ_ _ x=>x);obtain⟨hT,h₂⟩:=h₂;unfold subscriptTail;refine af ?_;rw[getitemInPython_of_ne hT.not_modules];refine af (wpAny_specialOf hT hl ?_);have fin:wpAny (model prog w) A (subscripted slice false o i) (λr s₃=>wpAny (model prog w) A (letTemporaryGo value o r >>= λ_=>pure r) Q E s₃) E s₂:=by
  rw[hs o i];exact wpAny_operating (eE h₂ (λr s₃ h₃=>af (wpAny_letTemporaryGo (ai h₃))) λ_ _ x=>x)
 first
  |exact ai (af fin)
  |exact af (ai (af fin))
  |exact af fin
theorem BB {y:V}{o:Option V}(I:Inv X pins σ H s) (g:nG H a y o):s.TypeIs (.ref a) "dict":=by
 rcases g with⟨ae,k,e,_,_⟩|⟨ae,k,b,e,_,_,_⟩
 ·obtain⟨_,_,vs,_,dd⟩:=mB I.aj e;exact dd.typeIs
 ·obtain⟨_,_,xs,_,dd⟩:=m9 I.aj e;exact dd.typeIs
def U4 (td ty:TE):TE:=λσ H Q=>td σ H λx H1=>ty σ H1 λy H2=>∃ a v,x=.ref a /\ nG H2 a y (some v) /\ Q v H2
def U5 (ty td:TE):TE:=λσ H Q=>ty σ H λy H1=>td σ H1 λx H2=>∃ a o,x=.ref a /\ nG H2 a y o /\ Q (.bl o.isSome) H2
def U6 (ty td:TE):TE:=λσ H Q=>ty σ H λy H1=>td σ H1 λx H2=>∃ a o,x=.ref a /\ nG H2 a y o /\ Q (.bl (!o.isSome)) H2
def U7 (td ty tv:TE):TS:=λD σ H=>tv σ H λv H1=>td σ H1 λx H2=>ty σ H2 λy H3=>∃ a H4,x=.ref a /\ U3 H3 a y v H4 /\ D.nx σ H4
def U8 (td ty:TE):TS:=λD σ H=>td σ H λx H1=>ty σ H1 λy H2=>∃ a ae k,x=.ref a /\ H2 a=some (.dK ae) /\ y=kV k /\ (dt ae k).isSome=true /\ D.nx σ (upd H2 a (.dK (nF ae k)))
section
variable {o i value : Expr} {yb : Pos} {td ty tv : TE}
theorem C9 (hu:X.A.units+1<cLine) (ho:PE X o td) (hi:PE X i ty) (hs:yE i):PE X (.Subscript o i pos) (U4 td ty):=by
 intro pins s σ H Q I h;refine LL PySem.F.slot_dict_getitem.lookup hs (au (ho pins s σ H _ I h) λu s1 ⟨x,H1,I1,rx,q1⟩=>au (hi pins s1 σ H1 _ I1 q1) λiv s2 ⟨y,H2,I2,ry,a,v,ex,g,q2⟩=>?_);subst ex;obtain rfl:u=Value.ref a:=rx;exact⟨BB I2 g,Fm hu I2 g ry λw' s3 I3 di=>⟨v,H2,I3,di,q2⟩⟩
theorem GD (hu:X.A.units+1<cLine) (hi:PE X i ty) (ho:PE X o td):PC X .In i o (U5 ty td):=by
 intro pins s σ H Q I h;refine au (hi pins s σ H _ I h) λiv s1 ⟨y,H1,I1,ry,q1⟩=>au (ho pins s1 σ H1 _ I1 q1) λu s2 ⟨x,H2,I2,rx,a,ov,ex,g,q2⟩=>?_;subst ex;obtain rfl:u=Value.ref a:=rx;exact R8 hu I2 g ry λs3 I3=>⟨.bl ov.isSome,H2,I3,rfl,q2⟩
theorem Ar (hu:X.A.units+1<cLine) (hi:PE X i ty) (ho:PE X o td):PC X .NotIn i o (U6 ty td):=by
 intro pins s σ H Q I h;refine au (hi pins s σ H _ I h) λiv s1 ⟨y,H1,I1,ry,q1⟩=>au (ho pins s1 σ H1 _ I1 q1) λu s2 ⟨x,H2,I2,rx,a,ov,ex,g,q2⟩=>?_;subst ex;obtain rfl:u=Value.ref a:=rx;exact LK hu I2 g ry λs3 I3=>⟨.bl (!ov.isSome),H2,I3,rfl,q2⟩
theorem Db (hu:X.A.units+1<cLine) (ho:PE X o td) (hi:PE X i ty) (hv:PE X value tv) (hs:swapsWith value (some (.Subscript o i pos')) pos.line X.env=pure false) :
 PS X (.Assign [.Subscript o i pos'] value pos) (U7 td ty tv):=by
 intro pins s σ H D I h;refine wpAny_Assign_Subscript (au (hv pins s σ H _ I h) λr s1 ⟨v,H1,I1,rv,q1⟩=>au (ho pins s1 σ H1 _ I1 q1) λu s2 ⟨x,H2,I2,rx,q2⟩=>au (hi pins s2 σ H2 _ I2 q2) λiv s3 ⟨y,H3,I3,ry,a,H4,ex,g,q3⟩=>?_) hs;subst ex;obtain rfl:u=Value.ref a:=rx;exact Fn hu I3 g ry rv λs4 I4=>⟨σ,H4,I4,q3⟩
theorem LM (ho:PE X o td) (hi:PE X i ty):PS X (.Delete [.Subscript o i yb] pos) (U8 td ty):=by
 intro pins s σ H D I h;refine wpAny_Delete (wpAny_deleteEach_cons (wpAny_delete_Subscript (au (ho pins s σ H _ I h) λu s1 ⟨x,H1,I1,rx,q1⟩=>au (hi pins s1 σ H1 _ I1 q1) λiv s2 ⟨y,H2,I2,ry,a,ae,k,ex,e,ey,l,q2⟩=>?_)));subst ex ey;obtain rfl:u=Value.ref a:=rx;exact Fo I2 e ry l λs3 I3=>wpAny_deleteEach_nil ⟨σ,_,I3,q2⟩
end
theorem BC (h:Heap) (hb:sysModules<h.objs.size):aV P w H (h.push { cls:=.type "dict",data:=.dict #[] }) h.objs.size (.dK []):=
 ⟨eG _,beq_eq_false_iff_ne.mpr (Ne.symm (cS hb)),[],.nil,Heap.DictOf.new h⟩
theorem GE (h:Heap) (hb:sysModules<h.objs.size):aV P w H (h.push { cls:=.type "dict",data:=.dict #[] }) h.objs.size (.dT []):=
 ⟨eG _,beq_eq_false_iff_ne.mpr (Ne.symm (cS hb)),[],.nil,_,#[],0,bR _ rfl,⟨rfl,rfl,rfl⟩,rfl,rfl,List.nodup_nil⟩
def Yu:TE:=λ_ H Q=>∀ p,H p=none->Q (.ref p) (upd H p (.dK []))
def Yv:TE:=λ_ H Q=>∀ p,H p=none->Q (.ref p) (upd H p (.dT []))
theorem BD:PE X (.Dict [] [] pos) Yu:=λpins s σ H Q I h =>
 Qz ⟨.ref s.heap.objs.size,_,I.laid (a:=s.heap.objs.size) (o:=.dK []) (t':=s.toks) (λ_ _ q=>aL _ q) (ao _) (BC s.heap I.big),rfl,h _ (I.aj.fresh (ao _))⟩
theorem BE:PE X (.Dict [] [] pos) Yv:=λpins s σ H Q I h =>
 Qz ⟨.ref s.heap.objs.size,_,I.laid (a:=s.heap.objs.size) (o:=.dT []) (t':=s.toks) (λ_ _ q=>aL _ q) (ao _) (GE s.heap I.big),rfl,h _ (I.aj.fresh (ao _))⟩
noncomputable def yF:List (TE×TE)->St->Hp->(List (V×V)->Hp->Prop)->Prop
 |[],_,H,Q=>Q [] H
 |(tk,tv)::r,σ,H,Q=>tk σ H λx H1=>tv σ H1 λy H2=>yF r σ H2 λps H3=>Q ((x,y)::ps) H3
abbrev VV:List (V×V)->List (Value×Value)->Prop:=Paired λp q=>RelV p.1 q.1 /\ RelV p.2 q.2
def uP (X:Cx) (pos:Pos) (keys:List (Option Expr)) (values:List Expr) (qJ:List (TE×TE)):Prop :=
 ∀ (pins:List (Addr×Obj)) (s:Shared) (σ:St) (H:Hp) (Q:List (V×V)->Hp->Prop),Inv X pins σ H s->yF qJ σ H Q ->
  wpAny (model X.prog X.w) X.A (evalPairs (pairTrees keys values X.env pos)) (λvs s'=>∃ ps H',Inv X pins σ H' s' /\ VV ps vs /\ Q ps H') X.xe s
theorem LN:uP X pos [] [] []:=λpins s σ H Q I h=>pairTrees_nil_walk ⟨[],H,I,.nil,h⟩
theorem oa {k v:Expr}{ks:List (Option Expr)}{vs:List Expr}{tk tv:TE}{qJ:List (TE×TE)}(hk:PE X k tk) (hv:PE X v tv) (hr:uP X pos ks vs qJ) :
 uP X pos (some k::ks) (v::vs) ((tk,tv)::qJ):=λpins s σ H Q I h =>
 pairTrees_cons_walk (au (hk pins s σ H _ I h) λu s1 ⟨x,H1,I1,rx,q1⟩=>au (hv pins s1 σ H1 _ I1 q1) λw2 s2 ⟨y,H2,I2,ry,q2⟩ =>
  au (hr pins s2 σ H2 _ I2 q2) λws s3 ⟨ps,H3,I3,rel,q3⟩=>⟨(x,y)::ps,H3,I3,.cons ⟨rx,ry⟩ rel,q3⟩)
def tj (ae more:List (Key×V)):List (Key×V):=more.foldl (λacc kv=>putK acc kv.1 kv.2) ae
theorem KV.merge:∀ {more:List (Key×V)}{rs:List (Key×Value)}{ae:List (Key×V)}{vs:List (Key×Value)},KV more rs->KV ae vs->KV (tj ae more) (merged vs rs):=by
 intro more rs ae vs r;unfold KV at r;induction r generalizing ae vs with
 |nil=>intro q;exact q
 | @cons p q ps qs h t ih =>
   intro r0;have e:KV (putK ae p.1 p.2) (stored vs q.1 q.2):=by
    have:=r0.put p.1 h.2;rw[<-h.1];exact this
   exact ih e
theorem jU:∀ (more ae:List (Key×V)),(tj ae more).length<=ae.length+more.length
 |[],ae=>by show ae.length<=ae.length+0;omega
 | p::r,ae=>by
   have h1:=jU r (putK ae p.1 p.2);have h2:=jx ae p.1 p.2;show (tj (putK ae p.1 p.2) r).length<=_;rw[bb];omega
theorem oh {P:Program}{w:World}:∀ {ae:List (Key×V)}{ws:List (Value×Value)},VV (ae.map λkv=>(kV kv.1,kv.2)) ws->∃ rs,Carries (cg P w) ws rs /\ KV ae rs
 |[],_,r=>by rw[qh]at r;cases r;exact⟨[],True.intro,.nil⟩
 | p::ae,_,r=>by
   rw[aG]at r;cases r with
   | @cons a b as bs h t =>
     obtain⟨rs,c,q⟩:=oh (P:=P) (w:=w) t;obtain⟨b1,b2⟩:=b;exact⟨(p.1,b2)::rs,⟨lI h.1,rfl,c⟩,.cons ⟨rfl,h.2⟩ q⟩
def Yw (qJ:List (TE×TE)):TE:=λσ H Q=>∀ p,H p=none->yF qJ σ (upd H p (.dK [])) λps H2=>H2 p=some (.dK []) /\ ∃ ae:List (Key×V),ps=ae.map (λkv=>(kV kv.1,kv.2)) /\ ae.length<=15 /\ Q (.ref p) (upd H2 p (.dK (tj [] ae)))
theorem LO {keys:List (Option Expr)}{values:List Expr}{qJ:List (TE×TE)}(h:uP X pos keys values qJ) (vW:keys.all (·.isSome)=true) (hl:keys.length=values.length) (h0:keys≠[])
 (Ik:keys.length<=15):PE X (.Dict keys values pos) (Yw qJ):=by
 intro pins s σ H Q I q;have hn:=I.aj.fresh (ao s.heap.objs.size);have I1:=I.laid (a:=s.heap.objs.size) (o:=.dK []) (h':=s.heap.push { cls:=.type "dict",data:=.dict #[] }) (t':=s.toks) (λ_ _ q=>aL _ q) (ao _) (BC s.heap I.big);refine wpAny_Dict_walk (knd:=cg X.prog X.w) vW hl h0 Ik (au (h pins _ σ _ _ I1 (q _ hn)) λws s2 ⟨ps,H2,I2,rel,e,ae,ep,lk,q2⟩=>?_);subst ep;obtain⟨rs,c,rk⟩:=oh (P:=X.prog) (w:=X.w) rel;obtain⟨z,hd,rO,r0,dd⟩:=C8 I2.aj e;cases r0;refine⟨rs,c,dd,λh' hG hs=>⟨.ref s.heap.objs.size,_,?_,rfl,q2⟩⟩;have hz:(tj [] ae).length<=sizeLine:=by
  have h1:=jU ae [];rw[eJ]at h1;rw[ba];omega
 have he:∃ q,h'.get? s.heap.objs.size=some q:=let ⟨q,_,_,hq,_⟩:=hG;⟨q,hq⟩
 exact lJ I2 (by rw[e];exact True.intro) hs he (AQ hz hd (rk.merge .nil) hG)
structure M1 (X:Cx) (o:Expr) (m:Str) (apos:Pos) (e:Expr) (cK:Pos):Prop where
 base:attributeBase o m X.env (eval o X.env)=eval o X.env
 few:((backTo cK (starEach [e] X.env)).all (λx=>!x.1)&&(backToKw cK (keywordEach [] X.env)).all (λx=>x.1.isSome)
  && decide (([e]:List Expr).length+([]:List Keyword).length+(if ([]:List Keyword).isEmpty then 0 else 1)<30))=true
 line:(apos.endLine==cK.line)=true
 trees:backTo cK (starEach [e] X.env)=[(false,eval e X.env)]
def Il (H:Hp) (a:Addr):Prop:=(∃ ae,Rd H a (.dK ae)) \/ ∃ ae,Rd H a (.dT ae)
theorem GF (I:Inv X pins σ H s) (d:Il H a) :
 s.TypeIs (.ref a) "dict" /\ (∀ b,Value.ref a=.ref b->∃ ob,s.heap.get? b=some ob /\ ob.dict=none) /\ (a==sysModules)=false:=by
 rcases d with⟨ae,e⟩|⟨ae,e⟩
 ·obtain⟨_,hd,vs,_,dd⟩:=mB I.aj e;refine⟨dd.typeIs,λb q=>?_,hd⟩;cases q;obtain⟨ob,_,_,h1,h2,_⟩:=dd;exact⟨ob,h1,h2.2.1⟩
 ·obtain⟨_,hd,xs,_,dd⟩:=m9 I.aj e;refine⟨dd.typeIs,λb q=>?_,hd⟩;cases q;obtain⟨ob,_,_,h1,h2,_⟩:=dd;exact⟨ob,h1,h2.2.1⟩
section
variable {y d : V} {r : Value} {o : Option V} 
theorem Oy (hu:A.units+1<cLine) (I:Inv X pins σ H s) (g:nG H a y o) (ry:RelV y u) (h:∀ w' s',Inv X pins σ H s'->RelV (o.getD .non) w'->Q w' s') :
 wpAny (model X.prog X.w) A (call (.builtin "dict.get") [.ref a,u]) Q E s:=by
 rcases g with⟨ae,k,e,ey,l⟩|⟨ae,k,b,e,ey,eb,l⟩
 ·subst ey;obtain⟨z,hd,vs,rel,dd⟩:=mB I.aj e;refine xc E4 dd.typeIs Td (Te _ _) (meets_dict_get (cg X.prog X.w) a (lI ry) hd) ⟨_,dd.mapOf,h _ _ (I.tok _) ?_⟩;rw[l];exact(rel.val k).getD rfl
 ·subst ey;cases (show u=Value.ref b from ry);obtain⟨z,hd,xs,rel,dd⟩:=m9 I.aj e;refine xc E4 dd.typeIs Td (Te _ _) (meetsH_dict_get (tupleKind (cg X.prog X.w)) a b hd) ⟨vi hu,k,xs,lZ I.aj eb,dd,h _ _ (I.tok _) ?_⟩;rw[l];exact(rel.val k).getD rfl
end
def U9 (td ty:TE):TE:=λσ H Q=>td σ H λx H1=>∃ a,x=.ref a /\ Il H1 a /\ ty σ H1 λy H2=>∃ o,nG H2 a y o /\ Q (o.getD .non) H2
def Va (td ty:TE):TE:=λσ H Q=>td σ H λx H1=>∃ a,x=.ref a /\ Il H1 a /\ ty σ H1 λy H2=>∃ ae k v,H2 a=some (.dK ae) /\ y=kV k /\ dt ae k=some v /\ Q v (upd H2 a (.dK (nF ae k)))
section
variable {o f : Expr} {cK : Pos} {td ty tx : TE}
theorem GG (hu:X.A.units+1<cLine) (ho:PE X o td) (he:PE X e ty) (m:M1 X o "get" apos e cK):PE X (.Call (.Attribute o "get" apos) [e] [] cK) (U9 td ty):=by
 intro pins s σ H Q I h;refine QA m.base m.few m.line Tf E4 PySem.F.type_dict_get (au (ho pins s σ H _ I h) λu s1 ⟨x,H1,I1,rx,a,ex,d,q1⟩=>?_);subst ex;obtain rfl:u=Value.ref a:=rx;obtain⟨t1,t2,_⟩:=GF I1 d;refine⟨t1,t2,?_⟩;rw[m.trees];refine EW rfl (EX (vE (au (he pins s1 σ H1 _ I1 q1) λiv s2 ⟨y,H2,I2,ry,ov,g,q2⟩=>vD ?_)));exact Oy hu I2 g ry λw' s3 I3 di=>⟨_,H2,I3,di,q2⟩
theorem GH (ho:PE X o td) (he:PE X e ty) (m:M1 X o "pop" apos e cK):PE X (.Call (.Attribute o "pop" apos) [e] [] cK) (Va td ty):=by
 intro pins s σ H Q I h;refine QA m.base m.few m.line Tf Tc PySem.F.type_dict_pop (au (ho pins s σ H _ I h) λu s1 ⟨x,H1,I1,rx,a,ex,d,q1⟩=>?_);subst ex;obtain rfl:u=Value.ref a:=rx;obtain⟨t1,t2,_⟩:=GF I1 d;refine⟨t1,t2,?_⟩;rw[m.trees];refine EW rfl (EX (vE (au (he pins s1 σ H1 _ I1 q1) λiv s2 ⟨y,H2,I2,ry,ae,k,v,ea,ey,l,q2⟩=>vD ?_)));subst ey;exact Rg I2 ea ry l (.inl rfl) λw' s3 I3 di=>⟨v,_,I3,di,q2⟩
end
section
variable {ae : List (Key × V)} 
end
section
variable {y : V} 
end
end L2
namespace L2.DL
noncomputable def cw:Key->PyData
 |.inl i=>.int i
 |.inr x=>.str x
mutual
noncomputable def toPy:D->PyData
 |.non=>.none
 |.bl b=>.bool b
 |.int i=>.int i
 |.str x=>.str x
 |.tup l=>.tuple (a8 l)
 |.lst l=>.list (a8 l)
 |.ak l=>.dict (bh l)
noncomputable def a8:List D->List PyData
 |[]=>[]
 |d::l=>toPy d::a8 l
noncomputable def bh:List (Key×D)->List (PyData×PyData)
 |[]=>[]
 |(k,d)::l=>(cw k,toPy d)::bh l
end
theorem l3 {h:Heap}:∀ {es:List DictEntry}{vs:List (Key×Value)}{l:List (Key×D)}{ae:List (Key×V)},PySem.Pairs (cg X.prog X.w) es vs->KV ae vs->az F l ae->ReadsAll h (es.map (·.key)) ((bh l).map (·.1)) []
 | _,_,[],_,p,k,d=>by
   cases (show _=[] from d);cases k;cases p;exact .nil
 | _,_,(k,x)::l,_,p,q,d=>by
   obtain⟨v,r,e,_,d2⟩:=d;subst e;cases q with
   | cons q1 q2 =>
     cases p with
     | @cons de _ _ _ p1 p2 p3 =>
       have ih:=l3 (h:=h) p3 q2 d2;have e1:=q1.1;simp only at e1;rw[<-e1]at p1;have hk:Reads h de.key (cw k) []:=by
        rcases fR (show qt k de.key=true from p1) with⟨i,t,e2,e3⟩|⟨y,t,e2,e3⟩
        ·rw[e2,e3];exact .int i t
        ·rw[e2,e3];exact .str y t
       exact ReadsAll.cons hk ih
mutual
theorem fX (I:Inv X pins σ H s) (sub:Sub F H):∀ {d:D}{v:V}{u:Value},Den F d v->RelV v u->∃ as,Reads s.heap u (toPy d) as
 |.non,_,_,h,r=>by cases (show _=V.non from h);cases r;exact⟨[],.none⟩
 |.bl b,_,_,h,r=>by cases (show _=V.bl b from h);cases r;exact⟨[],.bool b⟩
 |.int i,_,_,h,r=>by cases (show _=V.int i from h);obtain⟨t,rfl⟩:=r;exact⟨[],.int i t⟩
 |.str x,_,_,h,r=>by cases (show _=V.str x from h);obtain⟨t,rfl⟩:=r;exact⟨[],.str x t⟩
 | .tup l,_,_,h,r=>by
   obtain⟨a,vs,rfl,h1,h2⟩:=h;cases r;obtain⟨_,its,rv,ob,e1,e2,n,e3⟩:=(show aV X.prog X.w H s.heap a (.tup vs) from I.aj a _ (sub _ _ h1));obtain⟨as,ra⟩:=ja I sub h2 rv;exact⟨as,.tuple e1 e2 e3 (by simpa using ra)⟩
 | .lst l,_,_,h,r=>by
   obtain⟨a,vs,rfl,h1,h2⟩:=h;cases r;obtain⟨_,its,n,rv,e1⟩:=(show aV X.prog X.w H s.heap a (.lst vs) from I.aj a _ (sub _ _ h1));obtain⟨as,ra⟩:=ja I sub h2 rv;exact⟨a::as,.list e1 rfl rfl (by simpa using ra)⟩
 | .ak l,_,_,h,r=>by
   obtain⟨a,ae,rfl,h1,h2⟩:=h;cases r;obtain⟨_,_,vs,rk,ob,es,ep,e1,e2,e3,_,pr,_⟩:=(show aV X.prog X.w H s.heap a (.dK ae) from I.aj a _ (sub _ _ h1));obtain⟨as,ra⟩:=j0 I sub h2 rk pr;exact⟨a::[]++as,.dict e1 e2.1 e3 (l3 (X:=X) pr rk h2) ra⟩
theorem ja (I:Inv X pins σ H s) (sub:Sub F H):∀ {l:List D}{vs:List V}{us:List Value},ax F l vs->Vals vs us->∃ as,ReadsAll s.heap us (a8 l) as
 |[],_,_,h,r=>by cases (show _=[] from h);cases r;exact⟨[],.nil⟩
 | d::l,_,_,h,r=>by
   obtain⟨v,t,e,h1,h2⟩:=h;subst e;cases r with
   | cons r1 r2 =>
     obtain⟨as,ra⟩:=fX I sub h1 r1;obtain⟨bs,rb⟩:=ja I sub h2 r2;exact⟨as++bs,.cons ra rb⟩
theorem j0 (I:Inv X pins σ H s) (sub:Sub F H):∀ {l:List (Key×D)}{ae:List (Key×V)}{vs:List (Key×Value)}{es:List DictEntry},az F l ae->KV ae vs->PySem.Pairs (cg X.prog X.w) es vs->∃ as,ReadsAll s.heap (es.map (·.val)) ((bh l).map (·.2)) as
 |[],_,_,_,h,r,p=>by cases (show _=[] from h);cases r;cases p;exact⟨[],.nil⟩
 | (k,d)::l,_,_,_,h,r,p=>by
   obtain⟨v,t,e,h1,h2⟩:=h;subst e;cases r with
   | cons r1 r2 =>
     cases p with
     | cons p1 p2 p3 =>
       obtain⟨as,ra⟩:=fX I sub h1 r1.2;obtain⟨bs,rb⟩:=j0 I sub h2 r2 p3;rw[<-p2]at ra;exact⟨as++bs,.cons ra rb⟩
end
abbrev wg (ts:List Str):Prop:=∀ t∈ts,t.length<=sizeLine
theorem GI {k:Key}{y:Value}(e:qt k y=true) (hs:(cw k).showable=true) (hz:(cw k).shown.length<=sizeLine) (n:Nat):ReprK X.prog X.w [] h n y (cw k).shown:=by
 rcases fR e with⟨i,t,e2,e3⟩|⟨x,t,e2,e3⟩
 ·subst e2;subst e3;exact .of_is (ReprIs.int t (by simpa[cw,PyData.showable] using hs)) _ _ _
 ·subst e2;subst e3;exact .of_is (ReprIs.str x t (by simpa only[cw,PyData.shown] using hz)) _ _ _
theorem l5 {h:Heap}{n:Nat}:∀ {es:List DictEntry}{vs:List (Key×Value)}{l:List (Key×D)}{ae:List (Key×V)},PySem.Pairs (cg X.prog X.w) es vs->KV ae vs->az F l ae->PyData.showableKv (bh l)=true->wg (PyData.shownKv (bh l)) ->
 ReprAllK X.prog X.w [] h n (es.map (·.key)) (PyData.shownAll ((bh l).map (·.1)))
 | _,_,[],_,p,k,d,_,_=>by
   cases (show _=[] from d);cases k;cases p;exact .nil
 | _,_,(k,x)::l,_,p,q,d,hs,hz=>by
   obtain⟨v,r,e,_,d2⟩:=d;subst e;simp only[bh,PyData.showableKv,aB]at hs;simp only[bh,PyData.shownKv]at hz;have z1:=hz _ (bL ..);rw[kI,kI]at z1;cases q with
   | cons q1 q2 =>
     cases p with
     | @cons de _ _ _ p1 p2 p3 =>
       have e1:=q1.1;simp only at e1;rw[<-e1]at p1;simp only[bh,aG,PyData.shownAll];exact .cons (GI (show qt k de.key=true from p1) hs.1.1 (by omega) n) (l5 p3 q2 d2 hs.2 λt m=>hz t (bC _ m))
mutual
theorem BF (I:Inv X pins σ H s) (sub:Sub F H):∀ {d:D}{v:V}{u:Value},Den F d v->RelV v u->(toPy d).showable=true->(toPy d).shown.length<=sizeLine->∃ bs,ReadAtMost s.heap (toPy d).depth bs /\ ReprK X.prog X.w bs s.heap (toPy d).depth u (toPy d).shown
 |.non,_,_,h,r,_,_=>by cases (show _=V.non from h);cases r;exact⟨[],(λ_ z=>nomatch z),.of_is ReprIs.none _ _ _⟩
 |.bl b,_,_,h,r,_,_=>by cases (show _=V.bl b from h);cases r;exact⟨[],(λ_ z=>nomatch z),.of_is (ReprIs.bool b) _ _ _⟩
 |.int i,_,_,h,r,hs,_=>by cases (show _=V.int i from h);obtain⟨t,rfl⟩:=r;exact⟨[],(λ_ z=>nomatch z),.of_is (ReprIs.int t (of_decide_eq_true hs)) _ _ _⟩
 |.str x,_,_,h,r,_,hz=>by cases (show _=V.str x from h);obtain⟨t,rfl⟩:=r;exact⟨[],(λ_ z=>nomatch z),.of_is (ReprIs.str x t hz) _ _ _⟩
 | .tup l,_,_,h,r,hs,hz=>by
   obtain⟨as,rd⟩:=fX I sub h r;obtain⟨a,vs,rfl,h1,h2⟩:=h;cases r;obtain⟨_,its,rv,ob,e1,e2,n,e3⟩:=(show aV X.prog X.w H s.heap a (.tup vs) from I.aj a _ (sub _ _ h1));have hJ:(tupleText (PyData.shownAll (a8 l))).length<=sizeLine:=by simpa only[toPy,PyData.shown] using hz
   obtain⟨bs,hb,hk⟩:=iN I sub h2 rv (by simpa[toPy,PyData.showable] using hs) λt m=>bP (QB m) hJ;simp only[toPy,PyData.depth,PyData.shown]at rd ⊢;exact⟨a::bs,ReadAtMost.cons rd (pH _) hb,ReprK.tuple e1 e2 e3 (uf rd (qU _) hb) (by simpa using hk)⟩
 | .lst l,_,_,h,r,hs,hz=>by
   obtain⟨as,rd⟩:=fX I sub h r;obtain⟨a,vs,rfl,h1,h2⟩:=h;cases r;obtain⟨_,its,n,rv,e1⟩:=(show aV X.prog X.w H s.heap a (.lst vs) from I.aj a _ (sub _ _ h1));have hJ:(listText (PyData.shownAll (a8 l))).length<=sizeLine:=by simpa only[toPy,PyData.shown] using hz
   obtain⟨bs,hb,hk⟩:=iN I sub h2 rv (by simpa[toPy,PyData.showable] using hs) λt m=>bP (QC m) hJ;simp only[toPy,PyData.depth,PyData.shown]at rd ⊢;refine⟨a::bs,ReadAtMost.cons rd (pH _) hb,?_⟩;cases its with
   | nil =>
     have e:a8 l=[]:=by
      cases l with
      |nil=>rfl
      |cons x l=>obtain⟨v,t,e,_⟩:=h2;subst e;cases rv
     rw[e];simp only[PyData.shownAll,QD];exact ReprK.listEmpty e1 rfl rfl
   |cons x its=>exact ReprK.list e1 rfl rfl (uf rd (qU _) hb) (by simpa using hk.length_eq) λi y q=>hk.item i y (by simpa using q)
 | .ak l,_,_,h,r,hs,hz=>by
   obtain⟨as,rd⟩:=fX I sub h r;obtain⟨a,ae,rfl,h1,h2⟩:=h;cases r;obtain⟨_,hy,vs,rk,ob,es,ep,e1,e2,e3,_,pr,_⟩:=(show aV X.prog X.w H s.heap a (.dK ae) from I.aj a _ (sub _ _ h1));have hJ:(dictText (PyData.shownKv (bh l))).length<=sizeLine:=by simpa only[toPy,PyData.shown] using hz
   have fit:wg (PyData.shownKv (bh l)):=λt m=>bP (QE m) hJ;have wm:PyData.showableKv (bh l)=true:=by simpa[toPy,PyData.showable] using hs
   obtain⟨bs,hb,hk⟩:=l6 I sub h2 rk pr wm fit;have hK:=l5 (X:=X) (h:=s.heap) (n:=PyData.depthKv (bh l)) pr rk h2 wm fit;simp only[toPy,PyData.depth,PyData.shown]at rd ⊢;rw[E8];exact⟨a::bs,ReadAtMost.cons rd (pH _) hb,ReprK.dict e1 e2.1 e3 hy (uf rd (qU _) hb) (Tz _ _ _ (hK.more_le (λ_ z=>by cases z) (ao _)) hk)⟩
theorem iN (I:Inv X pins σ H s) (sub:Sub F H):∀ {l:List D}{vs:List V}{us:List Value},ax F l vs->Vals vs us->PyData.showableAll (a8 l)=true->wg (PyData.shownAll (a8 l))->∃ bs,ReadAtMost s.heap (PyData.depthAll (a8 l)) bs /\ ReprAllK X.prog X.w bs s.heap (PyData.depthAll (a8 l)) us (PyData.shownAll (a8 l))
 |[],_,_,h,r,_,_=>by cases (show _=[] from h);cases r;exact⟨[],(λ_ z=>nomatch z),.nil⟩
 | d::l,_,_,h,r,hs,hz=>by
   obtain⟨v,t,e,h1,h2⟩:=h;subst e;simp only[a8,PyData.showableAll,aB]at hs;simp only[a8,PyData.shownAll]at hz;cases r with
   | cons r1 r2 =>
     obtain⟨as,ha,ka⟩:=BF I sub h1 r1 hs.1 (hz _ (bL ..));obtain⟨bs,hb,kb⟩:=iN I sub h2 r2 hs.2 λt m=>hz t (bC _ m);simp only[a8,PyData.depthAll,PyData.shownAll];have la:=Nat.le_max_left (toPy d).depth (PyData.depthAll (a8 l));have lb:=Nat.le_max_right (toPy d).depth (PyData.depthAll (a8 l));exact⟨as++bs,(ha.mono la).append (hb.mono lb),.cons ((ka.more λ_ m=>qb _ m).level_le la) (kb.more_le (λ_ m=>eI _ m) lb)⟩
theorem l6 (I:Inv X pins σ H s) (sub:Sub F H):∀ {l:List (Key×D)}{ae:List (Key×V)}{vs:List (Key×Value)}{es:List DictEntry},az F l ae->KV ae vs->PySem.Pairs (cg X.prog X.w) es vs->PyData.showableKv (bh l)=true->wg (PyData.shownKv (bh l)) ->
 ∃ bs,ReadAtMost s.heap (PyData.depthKv (bh l)) bs /\ ReprAllK X.prog X.w bs s.heap (PyData.depthKv (bh l)) (es.map (·.val)) (PyData.shownAll ((bh l).map (·.2)))
 |[],_,_,_,h,r,p,_,_=>by cases (show _=[] from h);cases r;cases p;exact⟨[],(λ_ z=>nomatch z),.nil⟩
 | (k,d)::l,_,_,_,h,r,p,hs,hz=>by
   obtain⟨v,t,e,h1,h2⟩:=h;subst e;simp only[bh,PyData.showableKv,aB]at hs;simp only[bh,PyData.shownKv]at hz;have z1:=hz _ (bL ..);rw[kI,kI]at z1;cases r with
   | cons r1 r2 =>
     cases p with
     | cons p1 p2 p3 =>
       obtain⟨as,ha,ka⟩:=BF I sub h1 r1.2 hs.1.2 (by omega);obtain⟨bs,hb,kb⟩:=l6 I sub h2 r2 p3 hs.2 λt m=>hz t (bC _ m);rw[<-p2]at ka;simp only[bh,PyData.depthKv,aG,PyData.shownAll];have la:(toPy d).depth<=max (max (cw k).depth (toPy d).depth) (PyData.depthKv (bh l)):=by omega
       have lb:PyData.depthKv (bh l)<=max (max (cw k).depth (toPy d).depth) (PyData.depthKv (bh l)):=by omega
       exact⟨as++bs,(ha.mono la).append (hb.mono lb),.cons ((ka.more λ_ m=>qb _ m).level_le la) (kb.more_le (λ_ m=>eI _ m) lb)⟩
end
section
variable {a b c : Expr} {mb mc : DE W} {p p2 : Pos}
def Yx (vs:List V) (H:Hp) (Q:VK):Prop:=∃ (F:Hp) (d:D) (v:V),vs=[v] /\ Sub F H /\ Den F d v /\ (toPy d).showable=true /\ (toPy d).depth<=60 /\ (toPy d).shown.length<=sizeLine /\ Q (.str (toPy d).shown) H
theorem Fp {k:Nat}(hr:cj k X.A):cU X (.builtin "repr") Yx:=by
 intro pins s σ H xs us Q I rv h;obtain⟨F,d,v,rfl,sub,hd,h1,h2,h3,q⟩:=h;obtain⟨u,rfl,ru⟩:=Vals.one rv;have fin:∀ (t:Tok) (tk:Nat),EP X pins σ Q (.str (toPy d).shown t) { s with toks:=tk }:=λt tk=>⟨.str _,H,I.tok tk,⟨t,rfl⟩,q⟩;have yG:∀ (t':Str),t'=(toPy d).shown->∀ h' u tk,(∀ b o,s.heap.get? b=some o->h'.get? b=some o)->∃ x t,Value.str t' u=.str x t /\ EP X pins σ Q (.str t' u) { s with heap:=h',toks:=tk }:=λt' et h' t tk hk=>by
  subst et;exact⟨_,_,rfl,.str _,H,I.kept (t':=tk) hk,⟨t,rfl⟩,q⟩
 have hu:=hr.units;cases d with
 |non=>cases (show v=.non from hd);cases ru;exact P.repr_of_none (fin _ _)
 |bl b=>cases (show v=.bl b from hd);cases ru;exact P.repr_of_bool (fin _ _)
 |int i=>cases (show v=.int i from hd);obtain⟨t,rfl⟩:=ru;exact P.repr_of_int (of_decide_eq_true h1) (fin _ _)
 |str x=>cases (show v=.str x from hd);obtain⟨t,rfl⟩:=ru;exact P.repr_of_str (hsz:=h3) (fin _ _)
 | tup l =>
   obtain⟨as,rd⟩:=fX I sub hd ru;obtain⟨a,vs,rfl,k1,k2⟩:=hd;cases ru;obtain⟨_,its,rv,ob,e1,e2,n,e3⟩:=(show aV X.prog X.w H s.heap a (.tup vs) from I.aj a _ (sub _ _ k1));have hJ:(tupleText (PyData.shownAll (a8 l))).length<=sizeLine:=by simpa only[toPy,PyData.shown] using h3
   obtain⟨bs,hb,hk⟩:=iN I sub k2 rv (by simpa[toPy,PyData.showable] using h1) λt m=>bP (QB m) hJ;simp only[toPy,PyData.depth]at rd h2;exact Ei (by omega) ⟨ob,e1,e2⟩ PySem.F.slot_tuple_repr (call_tuple_reprK e1 e2 e3 (uf rd (qU _) hb) (by simpa using hk) hr.gd (λb _=>Clear.nil b) (by show X.A.units+1+_<cLine;omega) (λ_ _ z=>z) (yG _ (by simp only[toPy,PyData.shown])) hJ)
 | lst l =>
   obtain⟨as,rd⟩:=fX I sub hd ru;obtain⟨a,vs,rfl,k1,k2⟩:=hd;cases ru;obtain⟨_,its,n,rv,e1⟩:=(show aV X.prog X.w H s.heap a (.lst vs) from I.aj a _ (sub _ _ k1));have hJ:(listText (PyData.shownAll (a8 l))).length<=sizeLine:=by simpa only[toPy,PyData.shown] using h3
   obtain⟨bs,hb,hk⟩:=iN I sub k2 rv (by simpa[toPy,PyData.showable] using h1) λt m=>bP (QC m) hJ;simp only[toPy,PyData.depth]at rd h2;refine Ei (by omega) ⟨_,e1,rfl⟩ PySem.F.slot_list_repr.toG ?_;cases its with
   | nil =>
     have e:a8 l=[]:=by
      cases l with
      |nil=>rfl
      |cons x l=>obtain⟨v,t,e,_⟩:=k2;subst e;cases rv
     exact call_list_repr_empty ⟨_,e1,rfl⟩ e1 rfl (yG "[]" (by simp only[toPy,PyData.shown,e,PyData.shownAll,QD]) s.heap _ _ λ_ _ z=>z)
   |cons x its=>exact call_list_reprK e1 rfl rfl (uf rd (qU _) hb) (by simpa using hk.length_eq) (λi y q=>hk.item i y (by simpa using q)) hr.gd (λb _=>Clear.nil b) (by show X.A.units+1+_<cLine;omega) (λ_ _ z=>z) (yG _ (by simp only[toPy,PyData.shown])) hJ
 | ak l =>
   obtain⟨as,rd⟩:=fX I sub hd ru;obtain⟨a,ae,rfl,k1,k2⟩:=hd;cases ru;obtain⟨_,hy,vs,rk,ob,es,ep,e1,e2,e3,_,pr,_⟩:=(show aV X.prog X.w H s.heap a (.dK ae) from I.aj a _ (sub _ _ k1));have hJ:(dictText (PyData.shownKv (bh l))).length<=sizeLine:=by simpa only[toPy,PyData.shown] using h3
   have fit:wg (PyData.shownKv (bh l)):=λt m=>bP (QE m) hJ;have wm:PyData.showableKv (bh l)=true:=by simpa[toPy,PyData.showable] using h1
   obtain⟨bs,hb,hk⟩:=l6 I sub k2 rk pr wm fit;have hK:=l5 (X:=X) (h:=s.heap) (n:=PyData.depthKv (bh l)) pr rk k2 wm fit;simp only[toPy,PyData.depth]at rd h2;rw[E8]at hJ;exact Ei (by omega) ⟨ob,e1,e2.1⟩ PySem.F.slot_dict_repr (call_dict_reprK e1 e2.1 e3 hy (uf rd (qU _) hb) (Tz _ _ _ (hK.more_le (λ_ z=>by cases z) (ao _)) hk) hr.gd (λb _=>Clear.nil b) (by show X.A.units+1+_<cLine;omega) (λ_ _ z=>z) (yG _ (by simp only[toPy,PyData.shown,E8])) hJ)
def rQ (d:D):Bool:=(toPy d).showable&&decide ((toPy d).depth<=60)&&decide ((toPy d).shown.length<=sizeLine)
theorem LP (s:Sub F H):∀ {d:D}{v:V},kB F H d v->∃ F',Sub F' H /\ Den F' d v
 | .lst l,_,h=>by
   obtain⟨a,vs,rfl,h1,h2⟩:=h;refine⟨upd F a (.lst vs),λb u e=>?_,a,vs,rfl,fu,ax.mono (λb u e=>?_) l h2⟩
   ·by_cases z:b=a
    ·subst z;rw[fu]at e;rw[h1,e]
    ·rw[fv z]at e;exact s b u e
   ·by_cases z:b=a
    ·subst z;rw[s b u e]at h1;rw[fu,h1]
    ·rw[fv z];exact e
 | .ak l,_,h=>by
   obtain⟨a,vs,rfl,h1,h2⟩:=h;refine⟨upd F a (.dK vs),λb u e=>?_,a,vs,rfl,fu,az.mono (λb u e=>?_) l h2⟩
   ·by_cases z:b=a
    ·subst z;rw[fu]at e;rw[h1,e]
    ·rw[fv z]at e;exact s b u e
   ·by_cases z:b=a
    ·subst z;rw[s b u e]at h1;rw[fu,h1]
    ·rw[fv z];exact e
 |.tup _,_,h=>⟨F,s,h⟩
 |.non,_,h=>⟨F,s,h⟩
 |.bl _,_,h=>⟨F,s,h⟩
 |.int _,_,h=>⟨F,s,h⟩
 |.str _,_,h=>⟨F,s,h⟩
def dM (m:DE W):DE W:=λenv bx=>fA (m env bx) λw bx1=>match br bx1 w with
 |some d=>if rQ d=true then .val (.d (.str (toPy d).shown)) bx1 else .bad
 |none=>.bad
theorem LQ {k:Nat}(hr:cj k X.A) (hg:Gl X "repr") (hm:X.mg "repr"=none) (ha:PD X T Z a ma) (he:starEach [a] X.env=(false,eval a X.env)::starEach [] X.env) :
 PD X T Z (.Call (.Name "repr" p) [a] [] pos) (dM ma):=by
 refine PE.imp (ly (Fp hr) hg hm (by decide +kernel) (iV ha jY he) (by decide) (by decide) he (by rfl)) λσ H Q ⟨F,r,env,bx,R,h⟩=>?_;refine⟨F,r,env,bx,R,End.bind h λw bx1 F1 r1 v H1 g1 R1 d1 h1=>?_⟩;split at h1
 ·rename_i d er;obtain⟨F2,sub,d2⟩:=LP R1.fh (R1.pb d1 er);split at h1
  ·rename_i hc;unfold rQ at hc;rw[aB,aB]at hc;exact⟨F2,d,v,rfl,sub,d2,hc.1.1,of_decide_eq_true hc.1.2,of_decide_eq_true hc.2,h1 F1 r1 _ H1 (.refl F1 r1) R1 rfl⟩
  ·exact h1.elim
 ·exact h1.elim
end
theorem gC (I:Inv X pins σ H s) (sub:Sub F H) {d:D}(h:kB F H d v) (r:RelV v u):∃ as,Reads s.heap u (toPy d) as:=by
 cases d with
 | lst l =>
   obtain⟨a,vs,rfl,h1,h2⟩:=h;cases r;obtain⟨_,its,n,rv,e1⟩:=(show aV X.prog X.w H s.heap a (.lst vs) from I.aj a _ h1);obtain⟨as,ra⟩:=ja I sub h2 rv;exact⟨a::as,.list e1 rfl rfl (by simpa using ra)⟩
 | ak l =>
   obtain⟨a,ae,rfl,h1,h2⟩:=h;cases r;obtain⟨_,_,vs,rk,ob,es,ep,e1,e2,e3,_,pr,_⟩:=(show aV X.prog X.w H s.heap a (.dK ae) from I.aj a _ h1);obtain⟨as,ra⟩:=j0 I sub h2 rk pr;exact⟨a::[]++as,.dict e1 e2.1 e3 (l3 (X:=X) pr rk h2) ra⟩
 |tup l=>exact fX (d:=.tup l) I sub h r
 |non=>exact fX (d:=.non) I sub h r
 |bl b=>exact fX (d:=.bl b) I sub h r
 |int i=>exact fX (d:=.int i) I sub h r
 |str x=>exact fX (d:=.str x) I sub h r
def dZ (d:D):Bool:=(toPy d).canLay0&&decide ((toPy d).depth<=60)
def eqv (x y:D):Bool:=PyData.eqv (toPy x) (toPy y)
theorem jy {d:D}(h:dZ d=true):(toPy d).canLay0=true /\ (toPy d).depth<=60:=by
 unfold dZ at h
 rwa [aB,decide_eq_true_eq]at h
def tm (neg:Bool):R2:=λx y H Q=>∃ F dx dy,Sub F H /\ kB F H dx x /\ kB F H dy y /\ dZ dx=true /\ dZ dy=true /\ Q (.bl (if neg then !eqv dx dy else eqv dx dy)) H
theorem Oz (hu:X.A.units+100<cLine):aH X (compareOp .Eq) (tm false):=by
 intro pins s σ H x y v u Q I rx ry h;obtain⟨F,dx,dy,sub,hx,hy,ox,oy,q⟩:=h;obtain⟨as,ra⟩:=gC I sub hx rx;obtain⟨bs,rb⟩:=gC I sub hy ry;obtain⟨x1,x2⟩:=jy ox;obtain⟨y1,y2⟩:=jy oy;exact SeqAt.compareEq_reads ra rb x1 y1 (by omega) ⟨.bl _,H,I,rfl,q⟩
theorem OA (hu:X.A.units+100<cLine):aH X (compareOp .NotEq) (tm true):=by
 intro pins s σ H x y v u Q I rx ry h;obtain⟨F,dx,dy,sub,hx,hy,ox,oy,q⟩:=h;obtain⟨as,ra⟩:=gC I sub hx rx;obtain⟨bs,rb⟩:=gC I sub hy ry;obtain⟨x1,x2⟩:=jy ox;obtain⟨y1,y2⟩:=jy oy;exact SeqAt.compareNe_reads ra rb x1 y1 (by omega) ⟨.bl _,H,I,rfl,q⟩
def tu (neg:Bool) (x y:D):Option Res:=if dZ x&&dZ y then some (.old (.bl (if neg then !eqv x y else eqv x y))) else none
theorem Vb (neg:Bool):bI (tm neg) (tu neg):=by
 intro F H x y v w Q s sub rx ry e k;unfold tu at e;split at e
 ·rename_i c;rw[aB]at c;cases e;exact⟨F,x,y,sub,rx,ry,c.1,c.2,k _ _ ⟨rfl,rfl⟩⟩
 ·cases e
def aF:D->D->Option Res
 |.int i,.int j=>some (.old (.bl (decide (i=j))))
 |.str i,.str j=>some (.old (.bl (decide (i=j))))
 |.tup l,.tup []=>some (.old (.bl l.isEmpty))
 | .lst a,.lst b=>(match intsOf a,intsOf b with
   |some ns,some ms=>some (.old (.bl (decide (ns=ms))))
   |_,_=>tu false (.lst a) (.lst b))
 |x,y=>tu false x y
def bY:D->D->Option Res
 |.int i,.int j=>some (.old (.bl (!decide (i=j))))
 |.str i,.str j=>some (.old (.bl (!decide (i=j))))
 |.lst l,.lst []=>some (.old (.bl (!l.isEmpty)))
 |x,y=>tu true x y
theorem OB {x y:D}{s:Res}(h:aF x y=some s):Ih x y=some s \/ tu false x y=some s:=by
 unfold aF at h;split at h
 ·exact .inl h
 ·exact .inl h
 ·exact .inl h
 ·rename_i a b;split at h
  ·rename_i ns ms e1 e2;left;show ((intsOf a).bind λns=>(intsOf b).map λms=>Res.old (.bl (decide (ns=ms))))=_;rw[e1,e2];exact h
  ·exact .inr h
 ·exact .inr h
theorem OC {x y:D}{s:Res}(h:bY x y=some s):Ii x y=some s \/ tu true x y=some s:=by
 unfold bY at h;split at h
 ·exact .inl h
 ·exact .inl h
 ·exact .inl h
 ·exact .inr h
theorem OD (hu:X.A.units+100<cLine):aH X (compareOp .Eq) (λx y H Q=>yC X.K x y H Q \/ tm false x y H Q):=(LH (by omega)).or (Oz hu)
theorem OE (hu:X.A.units+100<cLine):aH X (compareOp .NotEq) (λx y H Q=>yD X.K x y H Q \/ tm true x y H Q):=(LI (by omega)).or (OA hu)
theorem Yy:bI (λx y H Q=>yC K x y H Q \/ tm false x y H Q) aF:=λF H x y v w Q s sub rx ry e k=>(OB e).imp (λe=>Yh F H x y v w Q s sub rx ry e k) λe=>Vb false F H x y v w Q s sub rx ry e k
theorem Yz:bI (λx y H Q=>yD K x y H Q \/ tm true x y H Q) bY:=λF H x y v w Q s sub rx ry e k=>(OC e).imp (λe=>Yi F H x y v w Q s sub rx ry e k) λe=>Vb true F H x y v w Q s sub rx ry e k
end L2.DL
namespace HT
section
open PySem.SeqAt
open PySem.AutoSeq1 (wpAny_loadPart')
open PySem.MeetsSeq PySem.MeetsSeq2 PySem.MeetsSeq3
end
section
open PySem.AutoSeq1 (wpAny_loadPart')
end
end HT
namespace L2.DL
section
variable {a b c : Expr} {mb mc : DE W} {p p2 : Pos}
theorem LR:aH X (binaryOp .Mult) (rI rn λi j=>.int (i*j)):=NS
noncomputable def dA:D->D->Option Res:=λx y=>match x,y with|.int i,.int j=>if rn i j then some (.old (.int (i*j))) else none|_,_=>none
theorem ax.rep {F:Hp}{l:List D}{vs:List V}(h:ax F l vs):∀ k:Nat,ax F (List.replicate k l).flatten (List.replicate k vs).flatten
 |0=>rfl
 | k+1=>by
   rw[xo,xo,xp,xp];exact h.append (h.rep k)
theorem YA:bI (rI rn λi j=>.int (i*j)) dA:=yA (g:=λi j=>.int (i*j)) λ_ _ _=>rfl
theorem OF (hu:X.A.units<cLine):aH X (compareOp .LtE) (dj λi j=>.bl (decide (i<=j))):=P0
noncomputable def pV:D->D->Option Res:=λx y=>match x,y with|.int i,.int j=>some (.old (.bl (decide (i<=j))))|_,_=>none
theorem YB:bI (dj λi j=>.bl (decide (i<=j))) pV:=yB (g:=λi j=>.bl (decide (i<=j))) λ_ _ _=>rfl
theorem Fq {o:Expr}(ho:PD X T Z o ma) (ha:PD X T Z e mb)
 (vT:attributeBase o "append" X.env (eval o X.env)=eval o X.env)
 (vU:((backTo pos (starEach [e] X.env)).all (λx=>!x.1)&&(backToKw pos (keywordEach [] X.env)).all (λx=>x.1.isSome)
  && decide ([e].length+([]:List Keyword).length+(if ([]:List Keyword).isEmpty then 0 else 1)<30))=true)
 (vV:(apos.endLine==pos.line)=true) (hs:starEach [e] X.env=(false,eval e X.env)::starEach [] X.env) :
 PD X T Z (.Call (.Attribute o "append" apos) [e] [] pos) (dY ma mb):=
 PE.imp (M9 Tg PySem.F.slot_list_append PySem.F.type_list_append lX ho (iV ha jY hs) vT vU vV hs (by rfl)) λσ H Q h=>Rf h
def wo (mo mi:DE W):DG:=λw env bx=>match mo env bx with
 | .val (.b n) bx1=>(match mi env bx1 with
   | .val (.d (.int k)) ag=>(match w,ag[n]? with
     |.d d,some (.lst l)=>(bA l.length k).map λj=>(env,ag.set n (.lst (l.set j d)))
     |_,_=>none)
   |_=>none)
 |_=>none
theorem LS {o i:Expr}{mo mi:DE W}(ho:PD X T Z o mo) (hi:PD X T Z i mi)
 (ha:∀ v,assign (.Subscript o i pos) X.env v=(do
  let ov <-holding [v] (eval o X.env)
  let iv <-holding [v,ov] (eval i X.env)
  standAt pos
  holding [v,ov,iv] (setItem ov iv v)
  release [v,ov,iv] [])):eZ X T (.Subscript o i pos) (wo mo mi):=by
 refine PG.imp (NL ho hi Gg ha) λv σ H Q ⟨F,r,env,bx,w,R,dw,h⟩=>?_;unfold wo at h;refine⟨F,r,env,bx,R,?_⟩;cases eo:mo env bx with
 |bad=>simp only[eo]at h;exact h.elim
 |exc c bx1=>simp only[eo]at h;exact h.elim
 | val ow bx1 =>
   simp only[eo]at h;intro F1 r1 ov H1 g1 R1 d1;cases ow with
   |d _=>exact h.elim
   |s _=>exact h.elim
   |x _=>exact h.elim
   |t _=>exact h.elim
   |m _=>exact h.elim
   | b n =>
     simp only at h;refine⟨F1,r1,env,bx1,R1,?_⟩;cases ei:mi env bx1 with
     |bad=>simp only[ei]at h;exact h.elim
     |exc c ag=>simp only[ei]at h;exact h.elim
     | val iw ag =>
       simp only[ei]at h;intro F2 r2 iv H2 g2 R2 d2;cases iw with
       |b _=>exact h.elim
       |s _=>exact h.elim
       |x _=>exact h.elim
       |t _=>exact h.elim
       |m _=>exact h.elim
       | d id =>
         cases id with
         | int k =>
           simp only at h;obtain⟨a,rfl,ha⟩:=g2.den d1;obtain⟨c2,cV,qI⟩:=R2.dW ha;rw[cV]at h;cases w with
           |b _=>exact h.elim
           |s _=>exact h.elim
           |x _=>exact h.elim
           |t _=>exact h.elim
           |m _=>exact h.elim
           | d dd =>
             cases c2 with
             |ak _=>exact h.elim
             |dead=>exact h.elim
             |dT _=>exact h.elim
             |fD _=>exact h.elim
             | lst l =>
               simp only at h;cases ej:bA l.length k with
               |none=>rw[ej]at h;exact h.elim
               | some j =>
                 rw[ej]at h;obtain⟨hF,vs,k1,k2⟩:=qI;refine⟨a,vs,k,j,rfl,d2,k1,by rw[<-k2.length];exact ej,?_⟩;have YC:Den F2 dd v:=Den.mono (g1.trans g2).s dd dw;exact h F2 r2 σ _ (g1.trans g2) (R2.write ha hF ⟨hF,_,fu,ax.set YC j k2⟩)
         |_=>exact h.elim
noncomputable def tF (i:Nat):DE W:=λenv bx=>match env[i]? with
 | some (some (.b n))=>(match bx[n]? with
   |some (.lst l)=>.val (.d (.lst l)) (bx.set n .dead)
   |some (.ak l)=>.val (.d (.ak l)) (bx.set n .dead)
   |_=>.bad)
 |_=>.bad
theorem OG (i:Nat) (hN:X.N[i]?=some x) (hv:uw X.env.scope x) (hd:(x==("__debug__":Str))=false)
 (kP:(x==("__classdict__":Str))=false):PD X T Z (.Name x pos) (tF i):=by
 refine PE.imp (FU hN hv hd kP) λσ H Q ⟨F,r,env,bx,R,h⟩=>?_;unfold tF at h;split at h
 ·rename_i n e;obtain⟨v,e1,a,rfl,ha⟩:=R.slot i _ e;obtain⟨c,hc,kc⟩:=R.dW ha;rw[hc]at h;cases c with
  |dead=>exact h.elim
  |dT _=>exact h.elim
  |fD _=>exact h.elim
  | lst l =>
    obtain⟨hF,vs,k1,k2⟩:=kc;obtain⟨R',g⟩:=R.freeze ha hF k1;exact⟨_,e1,h _ r _ H g R' ⟨a,vs,rfl,fu,ax.mono g.s l k2⟩⟩
  | ak l =>
    obtain⟨hF,vs,k1,k2⟩:=kc;obtain⟨R',g⟩:=R.freeze ha hF k1;exact⟨_,e1,h _ r _ H g R' ⟨a,vs,rfl,fu,az.mono g.s l k2⟩⟩
 ·exact h.elim
def pW (m:DE W):DE W:=λenv bx=>fA (m env bx) λw bx1=>match w with|.s l=>.val (.d (.int l.length)) bx1|_=>.bad
theorem LT (hg:Gl X "len") (hm:X.mg "len"=none) (ha:PD X T Z a ma) (he:starEach [a] X.env=(false,eval a X.env)::starEach [] X.env):PD X T Z (.Call (.Name "len" p) [a] [] pos) (pW ma):=by
 refine PE.imp (ly lB hg hm PySem.boot_len (iV ha jY he) (by decide) (by decide) he (by rfl)) λσ H Q ⟨F,r,env,bx,R,h⟩=>?_;refine⟨F,r,env,bx,R,End.bind h λw bx1 F1 r1 v H1 g1 R1 d1 h1=>?_⟩;cases w with
 |b _=>exact h1.elim
 |d _=>exact h1.elim
 |x _=>exact h1.elim
 |t _=>exact h1.elim
 |m _=>exact h1.elim
 | s l =>
   obtain⟨q,o,rfl,k⟩:=d1;refine⟨q,_,rfl,.inl (.inl (.inr ⟨o,R1.fh _ _ k⟩)),?_⟩;rw[aR];exact h1 F1 r1 _ H1 (.refl F1 r1) R1 rfl
def yH (m k:DE W):DE W:=λenv bx=>fA (m env bx) λw bx1=>fA (k env bx1) λu ag=>match w,u with
 |.s l,.d (.int i)=>(match a5 l i with|some n=>.val (.d (.int n)) ag|none=>.bad)
 |_,_=>.bad
theorem OH (ha:PD X T Z a ma) (hb:PD X T Z b mb) (hs:yh b):PD X T Z (.Subscript a b pos) (yH ma mb):=by
 refine PE.imp (M8 C2 ha hb hs) λσ H Q ⟨F,r,env,bx,R,h⟩=>?_;refine⟨F,r,env,bx,R,End.bind h λw bx1 F1 r1 v H1 g1 R1 d1 h1=>?_⟩;refine⟨F1,r1,env,bx1,R1,End.bind h1 λu ag F2 r2 y H2 g2 R2 d2 h2=>?_⟩;cases w with
 |b _=>exact h2.elim
 |d _=>exact h2.elim
 |x _=>exact h2.elim
 |t _=>exact h2.elim
 |m _=>exact h2.elim
 | s l =>
   cases u with
   |b _=>exact h2.elim
   |s _=>exact h2.elim
   |x _=>exact h2.elim
   |t _=>exact h2.elim
   |m _=>exact h2.elim
   | d d =>
     cases d with
     | int i =>
       obtain⟨q,o,rfl,k⟩:=d1;simp only at h2;cases e:a5 l i with
       |none=>rw[e]at h2;exact h2.elim
       | some n =>
         rw[e]at h2;refine⟨q,l.map V.int,i,.int n,rfl,d2,.inl (.inr ⟨o,R2.fh _ _ (g2.s _ _ k)⟩),?_,h2 F2 r2 _ H2 (.refl F2 r2) R2 rfl⟩;unfold a5 at e ⊢;rw[aR];cases ej:bA l.length i with
         |none=>rw[ej]at e;cases e
         |some j=>rw[ej]at e;simp only[bD]at e ⊢;rw[nR,e];rfl
     |_=>exact h2.elim
def pX (bo:Bool) (l:List (Key×D)):DE W:=λ_ bx=>bH bo (some (.ak l)) bx
theorem LU (bo:Bool):PD X T Z (.Dict [] [] pos) (pX bo []):=by
 refine PE.imp (BD) λσ H Q ⟨F,r,env,bx,R,h⟩=>?_;exact λp hp=>g6 R h ⟨p,[],rfl,hp,rfl,rfl⟩
end
end L2.DL
namespace HT
section
theorem Cs {it t:Addr}{x:Value}(hit:s.heap.IsTupleIter it t i) (ht:s.heap.IsTuple t items) (hx:items[i]?=some x)
 (hQ:∀ h',h'.IsTupleIter it t (i+1)->Heap.SameBut it s.heap h'->Q x { s with heap:=h' }):wpAny (model prog w) A (Builtin.SmallTypes.nextOf (.ref it)) Q E s:=by
 obtain⟨ob,pk,uI,pj⟩:=id hit;obtain⟨ot,Im,_,nt,Io⟩:=ht;unfold Builtin.SmallTypes.nextOf;refine af (sr (name:=Str.ofString "__next__") hit.typeIs xK (nP xK hit.typeIs Th (show wpAny _ _ (field (.ref it) 0 >>= _) _ _ s from af (eF pk pj (x:=.ref t) rfl ?_)) (Ti _)))
 change wpAny _ _ (if (Value.ref t==Value.none)=true then _ else _) _ _ s;rw[if_neg (show ¬ ((Value.ref t==Value.none)=true) from cb)]
 change wpAny _ _ (field (.ref it) 1 >>= _) _ _ s
 refine af (eF pk pj (x:=.int i 0) rfl (show wpAny _ _ (seqItems? (.ref t) >>= _) _ _ s from af (qS Im Io ?_)));simp only[rf,hx];refine af (xf pk pj (by simp) (ai ⟨x,rfl,ai (hQ _ ⟨_,EI _ pk (Ts (xM pj _)),(Tt ..).trans uI,?_⟩ (Heap.SameBut.update ..))⟩));rw[xM pj];simp[rawInt]
theorem Fs {it t:Addr}(hh:A.handled=none) (hit:s.heap.IsTupleIter it t i) (ht:s.heap.IsTuple t items) (hx:items[i]?=none)
 (hE:∀ h' e,Heap.ExtBut it s.heap h'->(∃ o,h'.get? e=some o /\ o.cls=.type "StopIteration")->E (.ref e) { s with heap:=h' }):wpAny (model prog w) A (Builtin.SmallTypes.nextOf (.ref it)) Q E s:=by
 obtain⟨ob,pk,uI,pj⟩:=id hit;obtain⟨ot,Im,_,nt,Io⟩:=ht;unfold Builtin.SmallTypes.nextOf;refine af (sr (name:=Str.ofString "__next__") hit.typeIs xK (nP xK hit.typeIs Th (show wpAny _ _ (field (.ref it) 0 >>= _) _ _ s from af (eF pk pj (x:=.ref t) rfl ?_)) (Ti _)))
 change wpAny _ _ (if (Value.ref t==Value.none)=true then _ else _) _ _ s;rw[if_neg (show ¬ ((Value.ref t==Value.none)=true) from cb)]
 change wpAny _ _ (field (.ref it) 1 >>= _) _ _ s
 refine af (eF pk pj (x:=.int i 0) rfl (show wpAny _ _ (seqItems? (.ref t) >>= _) _ _ s from af (qS Im Io ?_)));simp only[rf,hx];refine af (pG (af (xf pk pj (by simp) (show wpAny _ _ (newExc (.type "StopIteration") [] >>= _) _ _ _ from af ?_))));simp only[newExc,newTuple];refine af (k7 (af (m:=firstArgMember _ _) (QF (a:=Value.none) (by first|rfl|(simp only[firstArgMember];rfl)) (k7 ?_ (by size_fits)))) (by size_fits));simp only[raiseNew];refine af (QG ?_);first|rw[show A.in1.handled=none from hh]|rw[hh]
 exact af (ai (QH (hE _ _ (((Heap.SameBut.update ..).extBut.push _).push _) ⟨_,bR _ rfl,rfl⟩)))
theorem jL (hh:A.handled=none) (it l:Addr) (rR:l≠it) (items:Array Value) :
 Draws prog w A it [it,l] items.size (λi v=>items[i]?=some v) (λi h=>h.IsTupleIter it l i /\ h.IsTuple l items) where
 live:=λ_ _ st=>let ⟨o,ho,_⟩:=st.1;⟨o,ho⟩
 frame:=λ_ _ _ st hk=>⟨st.1.at λo e=>hk it (by simp) o e,st.2.at λo e=>hk l (by simp) o e⟩
 item:=λi s Q E hi st hQ=>Cs st.1 st.2 (x:=items[i]) (by simp[hi]) λh' a b=>hQ _ h' s.toks (by simp[hi]) ⟨a,st.2.at λo e=>b.extBut _ _ rR e⟩ b
 done:=λs Q E st hE=>Fs hh st.1 st.2 (by simp) hE
structure wq (z TI TO i1 i2:Addr) (nH nI:List Addr):Prop where
 a:TI≠z /\ TO≠z /\ i1≠z /\ i2≠z /\ TI≠TO /\ TI≠i1 /\ TI≠i2 /\ TO≠i1 /\ TO≠i2 /\ i1≠i2
 f1:z∉nH /\ TO∉nH /\ i2∉nH
 f2:z∉nI /\ TO∉nI /\ i1∉nI
variable {z TI TO i1 i2 : Addr} {nH nI : List Addr} {n1 n2 : Nat} {P1 P2 : Nat -> Value -> Prop} {S1 S2 : Nat -> Heap -> Prop}
theorem Draws.same {it:Addr}{P:Nat->Value->Prop}{S:Nat->Heap->Prop}(D:Draws prog w A it fp n P S) {c:Addr}{k:Nat}(x:Heap.SameBut c h h') (hc:c∉fp) (st:S k h):S k h' :=
 D.frame k h h' st λb hb o e=>x.extBut _ _ (λq=>hc (q▸hb)) e
abbrev pw (h:Heap) (z TI TO:Addr) (f0 f1:Value):Prop:=h.get? z=some { cls:=.type "zip",dict:=none,data:=.fields #[f0,f1,.bool false,.ref TI,.ref TO],slots:=#[] }
def pz (h:Heap) (z TI TO:Addr):Prop:=∃ f0 f1,(f0=.none \/ ∃ a,f0=rawInt a) /\ pw h z TI TO f0 f1
theorem YD {Q:Option Obj->Shared->Prop}(h:Q (s.heap.get? a) s):wpAny (model prog w) A (loadIfAlive a) Q E s:=λΓ p _=>by simpa[loadIfAlive] using h
theorem oi {f0 f1:Value}{Q:Bool->Shared->Prop}(hf:f0=.none \/ ∃ a,f0=rawInt a) (hz:pw s.heap z TI TO f0 f1) (h:∀ r h' YE,pw h' z TI TO f0 YE->Heap.SameBut z s.heap h'->Q r { s with heap:=h' }) :
 wpAny (model prog w) A (Builtin.SmallTypes.ownedTupleIsFree (.ref z)) Q E s:=by
 have hs:Heap.SameBut z s.heap s.heap:=⟨rfl,λ_ _=>rfl⟩;unfold Builtin.SmallTypes.ownedTupleIsFree;rcases hf with rfl|⟨a,rfl⟩
 ·exact af (eF hz rfl (x:=.none) rfl (ai (h _ _ f1 hz hs)))
 ·refine af (eF hz rfl (x:=rawInt a) rfl (af (YD ?_)));cases s.heap.get? a.toNat with
  |none=>exact ai (h _ _ f1 hz hs)
  | some o =>
    refine af (eF hz rfl (x:=f1) rfl ?_);by_cases q:(f1 != Value.bool true)=true
    ·rw[if_pos q];exact af (qT hz (by simp) λg1 tH e1=>ai (h _ g1 (.bool true) tH e1))
    ·rw[if_neg q];exact af (ai (ai (h _ _ f1 hz hs)))
theorem GJ (D1:Draws prog w A i1 nH n1 P1 S1) (D2:Draws prog w A i2 nI n2 P2 S2) (R:wq z TI TO i1 i2 nH nI) {k:Nat}{a b:Value}(k1:k<n1) (k2:k<n2)
 (hz:pz s.heap z TI TO) (tJ:IsPair s.heap TI (.ref i1) (.ref i2)) (rS:IsPair s.heap TO a b) (s1:S1 k s.heap) (s2:S2 k s.heap)
 (hQ:∀ x y h' tk,P1 k x->P2 k y->pz h' z TI TO->(∃ u v,IsPair h' TO u v)->S1 (k+1) h'->S2 (k+1) h'->IsPair h' s.heap.objs.size x y ->
  (∀ c o,c≠z->c≠TO->c≠i1->c≠i2->s.heap.get? c=some o->h'.get? c=some o)->Q (.ref s.heap.objs.size) { s with heap:=h',toks:=tk }) :
 wpAny (model prog w) A (Builtin.«zip.__next__» ⟨[.ref z],[]⟩) (λfin s'=>∃ v,fin=.done (.ret v) /\ Q v s') E s:=by
 obtain⟨⟨r1,r2,r3,r4,r5,r6,r7,r8,r9,wu⟩,⟨f1,f2,f3⟩,⟨f4,f5,f6⟩⟩:=R;obtain⟨o0,o1,ho,hz⟩:=hz
 change wpAny _ _ (field (.ref z) 2 >>= _) _ _ _;refine af (eF hz rfl (x:=.bool false) rfl ?_)
 change wpAny _ _ (field (.ref z) 3 >>= _) _ _ _;refine af (eF hz rfl (x:=.ref TI) rfl (af (qS tJ rfl ?_)))
 change wpAny _ _ (Builtin.SmallTypes.ownedTupleIsFree (.ref z) >>= _) _ _ _
 refine af (oi ho hz λr g0 o2 uQ e0=>?_);cases r with
 | true =>
   simp only[if_true];refine af (pG (af (eF uQ rfl (x:=.ref TO) rfl (af (qT uQ (by simp) λg1 tH sO=>?_)))));have e1:Heap.SameBut z s.heap g1:=⟨sO.1.trans e0.1,λc hc=>(sO.2 c hc).trans (e0.2 c hc)⟩;have yI:pw g1 z TI TO .ellipsis o2:=tH;refine af ?_;simp only[xt,uj,sv,qj];refine af (af (vj (show wpAny _ _ (Builtin.SmallTypes.nextOf (.ref i1) >>= _) _ _ _ from af (D1.item k _ _ _ k1 (Draws.same D1 e1 f1 s1) λx g2 t2 px wx e2=>ai ?_))));have wy:IsPair g2 TO a b:=e2.extBut _ _ r8 (e1.extBut _ _ r2 rS);refine af (qS wy rfl (af (Ej wy λg3 Vc e3=>af (Ek (ai ?_)))));have YF:IsPair g3 TO x b:=Vc;refine af (af (vj (show wpAny _ _ (Builtin.SmallTypes.nextOf (.ref i2) >>= _) _ _ _ from af (D2.item k _ _ _ k2 (Draws.same D2 e3 f5 (Draws.same D2 e2 f6 (Draws.same D2 e1 f4 s2))) λy g4 t4 py Ip e4=>ai ?_))));have Vd:IsPair g4 TO x b:=e4.extBut _ _ r9 YF;refine af (qS Vd rfl (af (Ej Vd λg5 YG e5=>af (Ek (ai (ai ?_))))));have Ve:IsPair g5 TO x y:=YG;refine af (qS Ve rfl (af (El ?_)));have hsz:g5.objs.size=s.heap.objs.size:=by rw[e5.1,e4.1,e3.1,e2.1,e1.1]
   have Vf:pw g5 z TI TO .ellipsis o2:=e5.extBut _ _ r2.symm (e4.extBut _ _ r4.symm (e3.extBut _ _ r2.symm (e2.extBut _ _ r3.symm yI)));have kp:∀ c o,c≠z->c≠TO->c≠i1->c≠i2->s.heap.get? c=some o->g5.get? c=some o:=λc o c1 c2 c3 c4 q=>e5.extBut _ _ c2 (e4.extBut _ _ c4 (e3.extBut _ _ c2 (e2.extBut _ _ c3 (e1.extBut _ _ c1 q))));have q1:S1 (k+1) g5:=Draws.same D1 e5 f2 (Draws.same D1 e4 f3 (Draws.same D1 e3 f2 wx));have q2:S2 (k+1) g5:=Draws.same D2 e5 f5 Ip;have wz:z<g5.objs.size:=aZ Vf
   change wpAny _ _ (Builtin.SmallTypes.ownedTupleHandOut (.ref z) (.ref g5.objs.size) >>= _) _ _ _;refine af ?_
   unfold Builtin.SmallTypes.ownedTupleHandOut;refine af (qT (aL _ Vf) (by simp) λg7 YH e7=>qT (show pw g7 z TI TO (rawInt g5.objs.size) o2 from YH) (by simp) λg8 YI e8=>?_);have up:∀ c o,c≠z->g5.get? c=some o->g8.get? c=some o:=λc o c1 q=>e8.extBut _ _ c1 (e7.extBut _ _ c1 (aL _ q));have Vg:IsPair g8 g5.objs.size x y:=e8.extBut _ _ (vk wz) (e7.extBut _ _ (vk wz) (bR _ rfl));have YJ:pz g8 z TI TO:=⟨_,_,.inr ⟨_,rfl⟩,show pw g8 z TI TO (rawInt g5.objs.size) (.bool false) from YI⟩;refine ai ⟨_,rfl,(show Q (.ref g5.objs.size) _ from ?_)⟩;rw[hsz]at Vg ⊢;exact hQ x y g8 _ px py YJ ⟨_,_,up _ _ r2 Ve⟩ (D1.frame _ _ _ q1 λc hc o q=>up c o (λw=>f1 (w▸hc)) q) (D2.frame _ _ _ q2 λc hc o q=>up c o (λw=>f4 (w▸hc)) q) Vg λc o c1 c2 c3 c4 q=>up c o c1 (kp c o c1 c2 c3 c4 q)
 | false =>
   simp only[xj,if_false];rw[show (#[Value.ref i1,Value.ref i2]:Array Value)=[Value.ref i1,Value.ref i2].toArray from rfl];simp only[Q3,sv,qj];refine af (af (af (kh (show wpAny _ _ (Builtin.SmallTypes.nextOf (.ref i1) >>= _) _ _ _ from af (D1.item k _ _ _ k1 (Draws.same D1 e0 f1 s1) λx g2 t2 px wx e2=>ai ?_)))));refine ai (af (af (kh (show wpAny _ _ (Builtin.SmallTypes.nextOf (.ref i2) >>= _) _ _ _ from af (D2.item k _ _ _ k2 (Draws.same D2 e2 f6 (Draws.same D2 e0 f4 s2)) λy g4 t4 py Ip e4=>ai ?_)))));refine ai (ai (af (El (ai ⟨_,rfl,?_⟩) (show 2<=sizeLine by decide))));have hsz:g4.objs.size=s.heap.objs.size:=by rw[e4.1,e2.1,e0.1]
   have yJ:pw g4 z TI TO o0 o2:=e4.extBut _ _ r4.symm (e2.extBut _ _ r3.symm uQ);have up:∀ c o,g4.get? c=some o->(g4.push { cls:=.type "tuple",data:=.seq #[x,y] }).get? c=some o:=λc o q=>aL _ q;have hT:IsPair (g4.push { cls:=.type "tuple",data:=.seq #[x,y] }) g4.objs.size x y:=bR _ rfl;show Q (.ref g4.objs.size) _;rw[hsz]at hT ⊢;exact hQ x y _ _ px py ⟨o0,o2,ho,up _ _ yJ⟩ ⟨a,b,up _ _ (e4.extBut _ _ r9 (e2.extBut _ _ r8 (e0.extBut _ _ r2 rS)))⟩ (D1.frame _ _ _ (Draws.same D1 e4 f3 wx) λc hc o q=>up c o q) (D2.frame _ _ _ Ip λc hc o q=>up c o q) hT
    λc o c1 c2 c3 c4 q=>up c o (e4.extBut _ _ c4 (e2.extBut _ _ c3 (e0.extBut _ _ c1 q)))
theorem GK (D1:Draws prog w A i1 nH n1 P1 S1) (D2:Draws prog w A i2 nI n2 P2 S2) (R:wq z TI TO i1 i2 nH nI) {k:Nat}{a b:Value}{Q:Fin->Shared->Prop}(hk:k=n1 \/ (k<n1 /\ k=n2))
 (hz:pz s.heap z TI TO) (tJ:IsPair s.heap TI (.ref i1) (.ref i2)) (rS:IsPair s.heap TO a b) (s1:S1 k s.heap) (s2:S2 k s.heap)
 (hE:∀ h' e tk,(∀ c o,c≠z->c≠TO->c≠i1->c≠i2->s.heap.get? c=some o->h'.get? c=some o)->(∃ o,h'.get? e=some o /\ o.cls=.type "StopIteration")->E (.ref e) { s with heap:=h',toks:=tk }) :
 wpAny (model prog w) A (Builtin.«zip.__next__» ⟨[.ref z],[]⟩) Q E s:=by
 obtain⟨⟨r1,r2,r3,r4,r5,r6,r7,r8,r9,wu⟩,⟨f1,f2,f3⟩,⟨f4,f5,f6⟩⟩:=R;obtain⟨o0,o1,ho,hz⟩:=hz
 change wpAny _ _ (field (.ref z) 2 >>= _) _ _ _;refine af (eF hz rfl (x:=.bool false) rfl ?_)
 change wpAny _ _ (field (.ref z) 3 >>= _) _ _ _;refine af (eF hz rfl (x:=.ref TI) rfl (af (qS tJ rfl ?_)))
 change wpAny _ _ (Builtin.SmallTypes.ownedTupleIsFree (.ref z) >>= _) _ _ _
 refine af (oi ho hz λr g0 o2 uQ e0=>?_);cases r with
 | true =>
   simp only[if_true];refine af (pG (af (eF uQ rfl (x:=.ref TO) rfl (af (qT uQ (by simp) λg1 tH sO=>?_)))));have e1:Heap.SameBut z s.heap g1:=⟨sO.1.trans e0.1,λc hc=>(sO.2 c hc).trans (e0.2 c hc)⟩;have yI:pw g1 z TI TO .ellipsis o2:=tH;refine af ?_;simp only[xt,uj,sv,qj];rcases hk with hk|⟨Iq,tK⟩
   ·refine af (af (vj (show wpAny _ _ (Builtin.SmallTypes.nextOf (.ref i1) >>= _) _ _ _ from af (D1.done _ _ _ (hk▸Draws.same D1 e1 f1 s1) λg2 ex e2 hx=>?_))));obtain⟨oe,tL,wB⟩:=hx;have yK:pw g2 z TI TO .ellipsis o2:=e2 _ _ r3.symm yI;have Ir:ex≠z:=λq=>by subst q;rw[yK]at tL;cases tL;simp at wB
    exact qT yK (by simp) λg3 _ e3=>hE g3 ex _ (λc o c1 _ c3 _ q=>e3.extBut _ _ c1 (e2 _ _ c3 (e1.extBut _ _ c1 q))) ⟨oe,e3.extBut _ _ Ir tL,wB⟩
   ·refine af (af (vj (show wpAny _ _ (Builtin.SmallTypes.nextOf (.ref i1) >>= _) _ _ _ from af (D1.item k _ _ _ Iq (Draws.same D1 e1 f1 s1) λx g2 t2 px wx e2=>ai ?_))));have wy:IsPair g2 TO a b:=e2.extBut _ _ r8 (e1.extBut _ _ r2 rS);refine af (qS wy rfl (af (Ej wy λg3 Vc e3=>af (Ek (ai ?_)))));refine af (af (vj (show wpAny _ _ (Builtin.SmallTypes.nextOf (.ref i2) >>= _) _ _ _ from af (D2.done _ _ _ (tK▸Draws.same D2 e3 f5 (Draws.same D2 e2 f6 (Draws.same D2 e1 f4 s2))) λg4 ex e4 hx=>?_))));obtain⟨oe,tL,wB⟩:=hx;have yJ:pw g4 z TI TO .ellipsis o2:=e4 _ _ r4.symm (e3.extBut _ _ r2.symm (e2.extBut _ _ r3.symm yI));have Ir:ex≠z:=λq=>by subst q;rw[yJ]at tL;cases tL;simp at wB
    exact qT yJ (by simp) λg5 _ e5=>hE g5 ex _ (λc o c1 c2 c3 c4 q=>e5.extBut _ _ c1 (e4 _ _ c4 (e3.extBut _ _ c2 (e2.extBut _ _ c3 (e1.extBut _ _ c1 q))))) ⟨oe,e5.extBut _ _ Ir tL,wB⟩
 | false =>
   simp only[xj,if_false];rw[show (#[Value.ref i1,Value.ref i2]:Array Value)=[Value.ref i1,Value.ref i2].toArray from rfl];simp only[Q3,sv,qj];rcases hk with hk|⟨Iq,tK⟩
   ·refine af (af (af (kh (show wpAny _ _ (Builtin.SmallTypes.nextOf (.ref i1) >>= _) _ _ _ from af (D1.done _ _ _ (hk▸Draws.same D1 e0 f1 s1) λg2 ex e2 hx=>?_)))));exact hE g2 ex _ (λc o c1 _ c3 _ q=>e2 _ _ c3 (e0.extBut _ _ c1 q)) hx
   ·refine af (af (af (kh (show wpAny _ _ (Builtin.SmallTypes.nextOf (.ref i1) >>= _) _ _ _ from af (D1.item k _ _ _ Iq (Draws.same D1 e0 f1 s1) λx g2 t2 px wx e2=>ai ?_)))));refine ai (af (af (kh (show wpAny _ _ (Builtin.SmallTypes.nextOf (.ref i2) >>= _) _ _ _ from af (D2.done _ _ _ (tK▸Draws.same D2 e2 f6 (Draws.same D2 e0 f4 s2)) λg4 ex e4 hx=>?_)))));exact hE g4 ex _ (λc o c1 _ c3 c4 q=>e4 _ _ c4 (e2.extBut _ _ c3 (e0.extBut _ _ c1 q))) hx
theorem GL (hz:pz s.heap z TI TO) (h:Q (.ref z) s):wpAny (model prog w) A (pyIter (.ref z)) Q E s:=by
 have ty:s.TypeIs (.ref z) "zip":=let ⟨_,_,_,hz⟩:=hz;⟨_,hz,rfl⟩
 exact QI ty Tj (nP Tj ty F.entry_zip_iter (show wpAny _ _ (ret (.ref z)) _ _ s from ai ⟨_,rfl, "zip",_,ty,vF.lookup,h⟩) (F.args_zip_iter_1 _))
theorem Ad (D1:Draws prog w A.in1 i1 nH n1 P1 S1) (D2:Draws prog w A.in1 i2 nI n2 P2 S2) (R:wq z TI TO i1 i2 nH nI) {k:Nat}{a b:Value}{Q:Option Value->Shared->Prop}(k1:k<n1) (k2:k<n2)
 (hz:pz s.heap z TI TO) (tJ:IsPair s.heap TI (.ref i1) (.ref i2)) (rS:IsPair s.heap TO a b) (s1:S1 k s.heap) (s2:S2 k s.heap)
 (hQ:∀ x y h' tk,P1 k x->P2 k y->pz h' z TI TO->(∃ u v,IsPair h' TO u v)->S1 (k+1) h'->S2 (k+1) h'->IsPair h' s.heap.objs.size x y ->
  (∀ c o,c≠z->c≠TO->c≠i1->c≠i2->s.heap.get? c=some o->h'.get? c=some o)->Q (some (.ref s.heap.objs.size)) { s with heap:=h',toks:=tk }):wpAny (model prog w) A (pyNext (.ref z)) Q E s:=by
 have hT:s.TypeIs (.ref z) "zip":=let ⟨_,_,_,hz⟩:=hz;⟨_,hz,rfl⟩
 unfold pyNext;exact af (xg (sr (name:=Str.ofString "__next__") hT vF (nP vF hT Tn (GJ D1 D2 R k1 k2 hz tJ rS s1 s2 λx y h' tk b1 b2 b3 b4 b5 b6 b7 b8=>ai (hQ x y h' tk b1 b2 b3 b4 b5 b6 b7 b8)) (Tp _))))
theorem OI {Q:Unit->Shared->Prop}(hz:pz s.heap z TI TO) (h:∀ h',pz h' z TI TO->Heap.SameBut z s.heap h'->Q () { s with heap:=h' }):wpAny (model prog w) A (letOwnedTupleGo tg (.ref z) (.ref p)) Q E s:=by
 have hs:Heap.SameBut z s.heap s.heap:=⟨rfl,λ_ _=>rfl⟩;have same:Q () s:=h _ hz hs;obtain⟨f0,f1,hf,hz⟩:=id hz
 have tup:wpAny (model prog w) A (do
  let o <-load z
  match o.cls,o.data with
  | .type n,.fields vs =>
    if ["enumerate", "zip", "dict_itemiterator", "dict_reverseitemiterator", "odict_iterator", "itertools.zip_longest", "itertools.pairwise"].contains n&&vs[0]?==some (rawInt p) then
     rule "for.unpacks-the-owned-tuple"
     updateField z 0 .none
  |_,_=>pure ()) Q E s:=by
  refine af (Ec hz ?_);dsimp only;split
  ·refine af (pG (qT hz (by simp) λg1 tH e1=>h g1 ⟨.none,f1,.inl rfl,tH⟩ e1))
  ·exact ai same
 unfold letOwnedTupleGo;cases tg with
 |Tuple es n q=>exact tup
 |List es q=>exact tup
 |_=>exact ai same
theorem Ae (D1:Draws prog w A.in1 i1 nH n1 P1 S1) (D2:Draws prog w A.in1 i2 nI n2 P2 S2) (R:wq z TI TO i1 i2 nH nI) {k:Nat}{a b:Value}{Q:Option Value->Shared->Prop}(hk:k=n1 \/ (k<n1 /\ k=n2))
 (hz:pz s.heap z TI TO) (tJ:IsPair s.heap TI (.ref i1) (.ref i2)) (rS:IsPair s.heap TO a b) (s1:S1 k s.heap) (s2:S2 k s.heap)
 (hQ:∀ h' tk,(∀ c o,c≠z->c≠TO->c≠i1->c≠i2->s.heap.get? c=some o->h'.get? c=some o)->Q none { s with heap:=h',toks:=tk }):wpAny (model prog w) A (pyNext (.ref z)) Q E s:=by
 have hT:s.TypeIs (.ref z) "zip":=let ⟨_,_,_,hz⟩:=hz;⟨_,hz,rfl⟩
 unfold pyNext;refine af (xg (sr (name:=Str.ofString "__next__") hT vF (nP vF hT Tn (GK D1 D2 R hk hz tJ rS s1 s2 λh' e tk q1 q2=>?_) (Tp _))));obtain⟨o,ho,hc⟩:=q2;exact af (QJ (T:="StopIteration") (b:=true) ⟨o,ho,hc⟩ QK (ai (hQ h' tk q1)))
noncomputable def wC (h:Heap) (l1:Addr):Heap:=h.push { cls:=.type "tuple_iterator",data:=.fields #[.ref l1,.int 0 0] }
def uR (h:Heap) (l1 l2:Addr):Heap:=(wC h l1).push { cls:=.type "tuple_iterator",data:=.fields #[.ref l2,.int 0 0] }
def uS (h:Heap) (l1 l2:Addr):Heap:=(uR h l1 l2).push { cls:=.type "tuple",data:=.seq #[.ref h.objs.size,.ref (wC h l1).objs.size] }
def wD (h:Heap) (l1 l2:Addr):Heap:=(uS h l1 l2).push { cls:=.type "tuple",data:=.seq #[.none,.none] }
def uT (h:Heap) (l1 l2:Addr):Heap:=(wD h l1 l2).push { cls:=.type "zip",data:=.fields #[.none,.bool false,.bool false,.ref (uR h l1 l2).objs.size,.ref (uS h l1 l2).objs.size] }
theorem Ct (l1 l2:Addr) (xs ys:Array Value) :
 Meets (Builtin.«zip.__new__» ⟨[.type "zip",.ref l1,.ref l2],[]⟩) (λ_ R s=>s.heap.IsTuple l1 xs /\ s.heap.IsTuple l2 ys /\ R (.ok (.ret (.ref (wD s.heap l1 l2).objs.size))) { s with heap:=uT s.heap l1 l2 }):=
 .of_wp λprog w A R s h=>by
  obtain⟨hp,g,d,tk,os⟩:=s;obtain⟨Iu,sN,h⟩:=h;have aaT:=sub_zip;have YK:Heap.IsTuple (Shared.heap ⟨hp,g,d,tk,os⟩) l1 xs:=Iu;have YL:Heap.IsTuple (Shared.heap ⟨hp.push { cls:=.type "tuple_iterator",data:=.fields #[.ref l1,.int 0 0] },g,d,tk,os⟩) l2 ys:=sN.at λo e=>aL _ e
  wp_walk using Em YK,Em YL
  exact⟨_,rfl,h⟩
theorem Ft {l1 l2:Addr}{xs ys:Array Value}(Iu:s.heap.IsTuple l1 xs) (sN:s.heap.IsTuple l2 ys)
 (h:∀ h',IsZip h' (s.heap.objs.size+4) (s.heap.objs.size+2) (s.heap.objs.size+3) .none->IsPair h' (s.heap.objs.size+2) (.ref s.heap.objs.size) (.ref (s.heap.objs.size+1))->IsPair h' (s.heap.objs.size+3) .none .none ->
  h'.IsTupleIter s.heap.objs.size l1 0->h'.IsTupleIter (s.heap.objs.size+1) l2 0->(∀ c o,s.heap.get? c=some o->h'.get? c=some o)->Q (.ref (s.heap.objs.size+4)) { s with heap:=h' }):wpAny (model prog w) A (call (.type "zip") [.ref l1,.ref l2]) Q E s:=by
 refine callType_new F.called_zip (by decide) (F.typeCall_zip_2 _ _) (F.newCall_zip_2 _ _) (λobj=>F.args_object_init_3 obj _ _) F.entry_zip_new (Ct l1 l2 xs ys) ⟨Iu,sN,?_⟩;have z1:(wC s.heap l1).objs.size=s.heap.objs.size+1:=qo ..;have z2:(uR s.heap l1 l2).objs.size=s.heap.objs.size+2:=by rw[uR,qo,z1]
 have z3:(uS s.heap l1 l2).objs.size=s.heap.objs.size+3:=by rw[uS,qo,z2]
 have z4:(wD s.heap l1 l2).objs.size=s.heap.objs.size+4:=by rw[wD,qo,z3]
 have g5:(uT s.heap l1 l2).get? (wD s.heap l1 l2).objs.size=some { cls:=.type "zip",data:=.fields #[.none,.bool false,.bool false,.ref (uR s.heap l1 l2).objs.size,.ref (uS s.heap l1 l2).objs.size] }:=bR _ rfl;have g4:(uT s.heap l1 l2).get? (uS s.heap l1 l2).objs.size=some { cls:=.type "tuple",data:=.seq #[.none,.none] }:=aL _ (bR _ rfl);have g3:(uT s.heap l1 l2).get? (uR s.heap l1 l2).objs.size=some { cls:=.type "tuple",data:=.seq #[.ref s.heap.objs.size,.ref (wC s.heap l1).objs.size] }:=aL _ (aL _ (bR _ rfl));have g2:(uT s.heap l1 l2).get? (wC s.heap l1).objs.size=some { cls:=.type "tuple_iterator",data:=.fields #[.ref l2,.int 0 0] }:=aL _ (aL _ (aL _ (bR _ rfl)));have g1:(uT s.heap l1 l2).get? s.heap.objs.size=some { cls:=.type "tuple_iterator",data:=.fields #[.ref l1,.int 0 0] }:=aL _ (aL _ (aL _ (aL _ (bR _ rfl))))
 change _ /\ _
 rw[z2,z3,z4]at g5;rw[z1,z2]at g3;rw[z3]at g4;rw[z1]at g2;rw[z4];exact⟨⟨_,g5,rfl⟩,h _ g5 g3 g4 ⟨_,g1,rfl,rfl⟩ ⟨_,g2,rfl,rfl⟩ λc o q=>aL _ (aL _ (aL _ (aL _ (aL _ q))))⟩
end
end HT
namespace L2
theorem Inv.YM (I:Inv X pins σ H s) (hf:∀ b∈ch,kQ X pins H b) (k:∀ b o,b∉ch->s.heap.get? b=some o->h'.get? b=some o) (hp:s.heap.objs.size<=p)
 (new:aV X.prog X.w (upd H p o) h' p o):Inv X pins σ (upd H p o) { s with heap:=h',toks:=t' }:=by
 have rF:H p=none:=I.aj.fresh hp;have nZ:∀ b u,H b=some u->b∉ch:=λb u e z=>by rw[(hf b z).1]at e;cases e
 have YN:∀ b u,H b=some u->b≠p:=λb u e=>fU e rF;have eK:∀ b u,H b=some u->upd H p o b=some u:=λb u e=>by rw[fv (YN b u e)];exact e
 refine I.step (g':=s.gens) (d':=s.drawn) (ch:=ch) (λb hb=>?_) (λb o _ _ hc e _=>k b o hc e) (λb o _ _ hc e _=>⟨o.slots,k b o hc e⟩) (λb ob _ e n=>?_)
  (λb o hc e=>⟨o,k b o hc e⟩) (λb _ e=>eK b _ e) (λb _ _ e=>eK b _ e) (λb ps e=>⟨#[],by rw[eK b _ e];simp⟩) (λm hm=>?_) ?_ I.bare
 ·obtain⟨f0,f1,f2,f3,f4,f5⟩:=hf b hb;exact⟨f3,f1,f4,f5⟩
 ·rw[fv (λz=>dG _ (dF (aZ e) (by rw[z];exact hp)))];exact n
 ·obtain⟨ob,es,ep,ho,r⟩:=hm;exact⟨ob,es,ep,k _ ob (λz=>(hf _ z).2.1 rfl) ho,r⟩
 ·intro b u e;by_cases hb:b=p
  ·subst hb;rw[fu]at e;cases e;exact new
  ·rw[fv hb]at e;refine(I.aj b u e).eK (λc v hc q=>k c v ?_ q) (λc q=>eK c _ q) λc xs q=>eK c _ q;rcases hc with z|z
   ·rw[z];exact nZ b u e
   ·exact nZ c _ z
theorem Inv.YO (I:Inv X pins σ H s) (hf:∀ b∈ch,kQ X pins H b) (k:∀ b o,b∉ch->s.heap.get? b=some o->h'.get? b=some o):Inv X pins σ H { s with heap:=h',toks:=t' }:=by
 have nZ:∀ b u,H b=some u->b∉ch:=λb u e z=>by rw[(hf b z).1]at e;cases e
 refine I.step (g':=s.gens) (d':=s.drawn) (ch:=ch) (λb hb=>?_) (λb o _ _ hc e _=>k b o hc e) (λb o _ _ hc e _=>⟨o.slots,k b o hc e⟩) (λb ob _ e n=>n)
  (λb o hc e=>⟨o,k b o hc e⟩) (λb _ e=>e) (λb _ _ e=>e) (λb ps e=>⟨#[],by rw[e];simp⟩) (λm hm=>?_) ?_ I.bare
 ·obtain⟨f0,f1,f2,f3,f4,f5⟩:=hf b hb;exact⟨f3,f1,f4,f5⟩
 ·obtain⟨ob,es,ep,ho,r⟩:=hm;exact⟨ob,es,ep,k _ ob (λz=>(hf _ z).2.1 rfl) ho,r⟩
 ·intro b u e;refine(I.aj b u e).eK (λc v hc q=>k c v ?_ q) (λc q=>q) λc xs q=>q;rcases hc with z|z
  ·rw[z];exact nZ b u e
  ·exact nZ c _ z
def Iv (K:PySem.W.Frag) (a b:Addr):It :=
 ⟨λi H=>∃ (xs ys:List V) (x y:V),a6 K H a xs /\ a6 K H b ys /\ xs[i]?=some x /\ ys[i]?=some y,
  λi H w H'=>∀ (xs ys:List V),a6 K H a xs->a6 K H b ys->∃ (p:Addr) (x y:V),xs[i]?=some x /\ ys[i]?=some y /\ H p=none /\ w=.ref p /\ H'=upd H p (.tup [x,y]),
  λi H=>∃ (xs ys:List V),a6 K H a xs /\ a6 K H b ys /\ (i=xs.length \/ (i<xs.length /\ i=ys.length))⟩
theorem As {b:Nat}(k:Nat) (h:b<n):b≠n+k:=by omega
theorem Au {m:Nat}(h:n+4<m):m≠n /\ m≠n+1 /\ m≠n+2 /\ m≠n+3 /\ m≠n+4:=by omega
theorem Dc {n b:Addr}(ha:a<n) (hb:b<n):HT.wq (n+4) (n+2) (n+3) n (n+1) [n,a] [n+1,b] where
 a:=by refine⟨?_,?_,?_,?_,?_,?_,?_,?_,?_,?_⟩<;>exact λz=>by have z':(_:Nat)=_:=z;omega
 f1:=by
  have e1:∀ k:Nat,n+k≠a:=λk z=>dG _ (xi (vm n k) (z▸ha));refine⟨?_,?_,?_⟩<;>(rw[bG,nT];rintro(z|z))
  ·have z':(_:Nat)=_:=z;omega
  ·exact e1 4 z
  ·have z':(_:Nat)=_:=z;omega
  ·exact e1 3 z
  ·have z':(_:Nat)=_:=z;omega
  ·exact e1 1 z
 f2:=by
  have e1:∀ k:Nat,n+k≠b:=λk z=>dG _ (xi (vm n k) (z▸hb));refine⟨?_,?_,?_⟩<;>(rw[bG,nT];rintro(z|z))
  ·have z':(_:Nat)=_:=z;omega
  ·exact e1 4 z
  ·have z':(_:Nat)=_:=z;omega
  ·exact e1 3 z
  ·have z':(_:Nat)=_:=z;omega
  ·exact e1 0 z
theorem GM {n b:Addr}(ha:a<n) (hb:b<n) :
 Turn P w K tg (Iv K a b) [n+4,n+2,n+3,n,n+1] (n+4)
  (λi h=>HT.pz h (n+4) (n+2) (n+3) /\ IsPair h (n+2) (.ref n) (.ref (n+1)) /\ (∃ u v,IsPair h (n+3) u v) /\ h.IsTupleIter n a i /\ h.IsTupleIter (n+1) b i) where
 mem:=by simp
 obj:=λi h st c hc=>by
  obtain⟨⟨_,_,_,z1⟩,z2,⟨u,v,z3⟩,⟨o4,e4,c4,d4⟩,⟨o5,e5,c5,d5⟩⟩:=st;simp only[bG,qk,or_false]at hc;rcases hc with rfl|rfl|rfl|rfl|rfl
  ·exact⟨_,z1,λv z=>by cases z⟩
  ·exact⟨_,z2,λv z=>by cases z⟩
  ·exact⟨_,z3,λv z=>by cases z⟩
  ·exact⟨o4,e4,λv z=>by rw[d4]at z;cases z⟩
  ·exact⟨o5,e5,λv z=>by rw[d5]at z;cases z⟩
 keep:=λi h h' st k=>by
  obtain⟨z1,z2,⟨u,v,z3⟩,z4,z5⟩:=st;obtain⟨w0,w1,w2,z1⟩:=z1;exact⟨⟨w0,w1,w2,k _ (by simp) _ z1⟩,k _ (by simp) _ z2,⟨u,v,k _ (by simp) _ z3⟩,z4.at λo e=>k _ (by simp) o e,z5.at λo e=>k _ (by simp) o e⟩
 item:=by
  intro X hP hw hK hc i pins s σ H E I hf st hg;subst hP hw hK;obtain⟨xs,ys,x,y,q1,q2,e1,e2⟩:=hg;obtain⟨z1,z2,⟨u,v,z3⟩,z4,z5⟩:=st;obtain⟨i1,r1,p1,l1⟩:=I.tuple q1;obtain⟨i2,r2,p2,l2⟩:=I.tuple q2;have hx:=(List.getElem?_eq_some_iff.mp e1).1;have hy:=(List.getElem?_eq_some_iff.mp e2).1;have R:=Dc ha hb;have D1:=HT.jL (prog:=X.prog) (w:=X.w) (A:=X.A.in1) (I.ok.hd hc) n a (cS ha) i1.toArray;have D2:=HT.jL (prog:=X.prog) (w:=X.w) (A:=X.A.in1) (I.ok.hd hc) (n+1) b (As 1 hb) i2.toArray;refine HT.Ad D1 D2 R (by rw[bc,<-r1.length];exact hx) (by rw[bc,<-r2.length];exact hy) z1 z2 z3 ⟨z4,p1⟩ ⟨z5,p2⟩ λvx vy h' tk b1 b2 b3 b4 b5 b6 b7 b8=>⟨_,rfl,?_⟩;refine HT.OI b3 λh2 yK eL=>?_;obtain⟨w1,f1,g1⟩:=r1.get e1;obtain⟨w2,f2,g2⟩:=r2.get e2;have Vh:i1[i]?=some vx:=by simpa using b1
  have Vi:i2[i]?=some vy:=by simpa using b2
  rw[f1]at Vh;cases Vh;rw[f2]at Vi;cases Vi;have wz:(n+4:Nat)<s.heap.objs.size:=let ⟨_,_,_,z1⟩:=z1;aZ z1
  have YQ:IsPair h2 s.heap.objs.size vx vy:=eL.extBut _ _ (Au wz).2.2.2.2 b7;have nw:H s.heap.objs.size=none:=I.aj.fresh (ao _);have I2:Inv X pins σ (upd H s.heap.objs.size (.tup [x,y])) { s with heap:=h2,toks:=tk }:=by
   refine I.YM (ch:=[n+4,n+2,n+3,n,n+1]) hf (λc o cy e=>?_) (ao _) ?_
   ·simp only[bG,qk,or_false,not_or]at cy;exact eL.extBut _ _ cy.1 (b8 c o cy.1 cy.2.2.1 cy.2.2.2.1 cy.2.2.2.2 e)
   ·exact⟨by show 2<=sizeLine;decide,[vx,vy],.cons g1 (.cons g2 .nil),⟨_,YQ,rfl,_,rfl⟩⟩
  refine⟨.ref s.heap.objs.size,_,I2,rfl,λaaU aaV y1 y2=>⟨_,x,y,by rw[I.He y1 q1];exact e1,by rw[I.He y2 q2];exact e2,nw,rfl,rfl⟩,⟨yK,?_,(let ⟨u,v,b4⟩:=b4;⟨u,v,eL.extBut _ _ R.a.2.1 b4⟩),?_,?_⟩,λc cy=>?_⟩
  ·exact eL.extBut _ _ R.a.1 (b8 _ _ R.a.1 R.a.2.2.2.2.1 R.a.2.2.2.2.2.1 R.a.2.2.2.2.2.2.1 z2)
  ·exact b5.1.at λo e=>eL.extBut _ _ R.a.2.2.1 e
  ·exact b6.1.at λo e=>eL.extBut _ _ R.a.2.2.2.1 e
  ·rw[fv]
   ·exact(hf c cy).1
   ·intro z;subst z;simp only[bG,qk,or_false]at cy;obtain⟨m1,m2,m3,m4,m5⟩:=Au wz;rcases cy with q|q|q|q|q
    ·exact m5 q
    ·exact m3 q
    ·exact m4 q
    ·exact m1 q
    ·exact m2 q
 done:=by
  intro X hP hw hK hc i pins s σ H E I hf st hg;subst hP hw hK;obtain⟨xs,ys,q1,q2,hk⟩:=hg;obtain⟨z1,z2,⟨u,v,z3⟩,z4,z5⟩:=st;obtain⟨i1,r1,p1,l1⟩:=I.tuple q1;obtain⟨i2,r2,p2,l2⟩:=I.tuple q2;have R:=Dc ha hb;have D1:=HT.jL (prog:=X.prog) (w:=X.w) (A:=X.A.in1) (I.ok.hd hc) n a (cS ha) i1.toArray;have D2:=HT.jL (prog:=X.prog) (w:=X.w) (A:=X.A.in1) (I.ok.hd hc) (n+1) b (As 1 hb) i2.toArray;refine HT.Ae D1 D2 R (k:=i) (by rw[bc,bc,<-r1.length,<-r2.length];exact hk) z1 z2 z3 ⟨z4,p1⟩ ⟨z5,p2⟩ λh' tk b8=>⟨rfl,I.YO (ch:=[n+4,n+2,n+3,n,n+1]) hf λc o cy e=>?_⟩;simp only[bG,qk,or_false,not_or]at cy;exact b8 c o cy.1 cy.2.2.1 cy.2.2.2.1 cy.2.2.2.2 e
 self:=λA i s Q E st h=>HT.GL st.1 h
theorem Vj.lt {its:List Value}(p:IsTup s.heap a its.toArray):a<s.heap.objs.size:=by
 obtain⟨o,e,_⟩:=p;exact aZ e
def YR (K:PySem.W.Frag) (ta:TA):TI:=λσ H R=>ta σ H λvs H2=>∃ (p q:Addr) (xs ys:List V),vs=[.ref p,.ref q] /\ a6 K H2 p xs /\ a6 K H2 q ys /\ R (Iv K p q) H2
theorem OJ {a b:Expr}{ta:TA}{p:Pos}(hg:Gl X "zip") (hm:X.mg "zip"=none) (ha:PA X [a,b] ta) (hs:starEach [a,b] X.env=[(false,eval a X.env),(false,eval b X.env)]) (eL:starEach [b] X.env=[(false,eval b X.env)]) :
 PI X tg (.Call (.Name "zip" p) [a,b] [] pos) (YR X.K ta):=by
 intro pins s σ H R I h;refine ud (jq I hg hm (by decide +kernel:bootBuiltins "zip"=some (.type "zip")) ?_);refine xy (au (ha pos pins s σ H _ I h) λus s1 ⟨vs,H2,I2,r2,q⟩=>?_) (by rw[hs,eL]) (by rw[eL];rfl);obtain⟨x,y,xs,ys,rfl,hx,hy,q⟩:=q;obtain⟨u,v,rfl,ru,rv⟩:=Vals.two r2;cases ru;cases rv;obtain⟨i1,r1,p1,_⟩:=I2.tuple hx;obtain⟨i2,r2,p2,_⟩:=I2.tuple hy;refine HT.Ft (xs:=i1.toArray) (ys:=i2.toArray) p1 p2 λh' b1 b2 b3 b4 b5 b6=>?_;refine wpAny_pyIter_zip b1 ?_;refine⟨s1.heap.objs.size+4,_,_,_,H2,rfl,I2.kept (t':=s1.toks) b6,GM (Vj.lt p1) (Vj.lt p2),⟨⟨_,_,.inl rfl,b1⟩,b2,⟨_,_,b3⟩,b4,b5⟩,λc hc=>?_,q⟩;have hle:s1.heap.objs.size<=c:=by
  simp only[bG,qk,or_false]at hc;rcases hc with z|z|z|z|z<;>(rw[z];first|exact ao _|exact vm _ _)
 exact I2.vL hle (I2.aj.fresh hle)
end L2
namespace L2.DL
section
variable {a b : Expr} {p : Pos} {k : DE (List W)}
noncomputable def eu:List D->List D->List W
 |x::l,y::r=>.d (.tup [x,y])::eu l r
 |_,_=>[]
theorem BG:∀ (l r:List D),(eu l r).length=min l.length r.length
 |[],_=>by simp[eu]
 |_::_,[]=>by simp[eu]
 |_::l,_::r=>by simp only[eu,bb,BG l r];omega
theorem BH:∀ {l r:List D}{i:Nat}{w:W},(eu l r)[i]?=some w->∃ x y,l[i]?=some x /\ r[i]?=some y /\ w=.d (.tup [x,y])
 |[],_,_,_,e=>by simp[eu]at e
 |_::_,[],_,_,e=>by simp[eu]at e
 |x::l,y::r,0,w,e=>by simp[eu]at e;exact⟨x,y,rfl,rfl,e.symm⟩
 | x::l,y::r,i+1,w,e=>by
   have e':(eu l r)[i]?=some w:=by simpa[eu] using e
   obtain⟨x',y',h1,h2,h3⟩:=BH e';exact⟨x',y',by simpa using h1,by simpa using h2,h3⟩
def rT (k:DE (List W)):DE (List W):=λenv bx=>fA (k env bx) λws bx1=>match ws with
 |[.d (.tup l),.d (.tup r)]=>.val (eu l r) bx1
 |_=>.bad
theorem Cu {p q:Addr}{vs us:List V}{m:List D}(hp:F p=some (.tup vs)) (hq:F q=some (.tup us)) (dl:ax F l vs) (dm:ax F m us):rJ F r (eu l m) (Iv K p q):=by
 intro T i F1 r1 σ1 H1 aX bx1 g R;have s1:a6 K H1 p vs:=.of (R.fh _ _ (g.s _ _ hp));have s2:a6 K H1 q us:=.of (R.fh _ _ (g.s _ _ hq));have e1:=dl.length;have e2:=dm.length;refine⟨λhl=>?_,λw e=>?_⟩
 ·rw[BG]at hl;exact⟨vs,us,s1,s2,by omega⟩
 ·obtain⟨x,y,h1,h2,rfl⟩:=BH e;obtain⟨v,f1,d1⟩:=dl.get h1;obtain⟨u,f2,d2⟩:=dm.get h2;refine⟨⟨vs,us,v,u,s1,s2,f1,f2⟩,λw H2 hy=>?_⟩;obtain⟨a,v',u',g1,g2,ha,rfl,rfl⟩:=hy vs us s1 s2;rw[f1]at g1;cases g1;rw[f2]at g2;cases g2;have gr:=R.sV (o:=.tup [v,u]) ha;exact⟨_,gr,R.yr ha,a,[v,u],rfl,fu,.cons (Den.mono (g.trans gr).s x d1) (.cons (Den.mono (g.trans gr).s y d2) .nil)⟩
theorem LV (hg:Gl X "zip") (hm:X.mg "zip"=none) (ha:cY X T Z [a,b] k) (hs:starEach [a,b] X.env=[(false,eval a X.env),(false,eval b X.env)]) (eL:starEach [b] X.env=[(false,eval b X.env)]) :
 rK X T Z tg (.Call (.Name "zip" p) [a,b] [] pos) (rT k):=by
 refine PI.imp (OJ hg hm ha hs eL) λσ H Q ⟨F,r,env,bx,R,h⟩=>?_;refine⟨F,r,env,bx,R,End.bind h λws bx1 F1 r1 vs H1 g1 R1 d1 h1=>?_⟩;split at h1
 ·rename_i l m;obtain⟨v,t,rfl,⟨p,us,rfl,k1,k2⟩,v2,t2,rfl,⟨q,YS,rfl,k3,k4⟩,rt⟩:=d1;cases (show t2=[] from rt);exact⟨p,q,us,YS,rfl,.of (R1.fh _ _ k1),.of (R1.fh _ _ k3),h1 F1 r1 _ H1 (.refl F1 r1) R1 (Cu k1 k3 k2 k4)⟩
 ·exact h1.elim
end
section
variable {a : Expr} {p : Pos}
def YT (K:PySem.W.Frag) (tl:TE):TI:=λσ H R=>tl σ H λx H1=>(∃ a,x=.ref a /\ (∃ xs,bz K H1 a xs) /\ R (Hi K a) H1) \/ ∃ a,x=.ref a /\ (∃ xs,a6 K H1 a xs) /\ R (Hj K a) H1
theorem OK {l:Expr}{tl:TE}(hl:PE X l tl):PI X tg l (YT X.K tl):=by
 intro pins s σ H R I h;refine au (hl pins s σ H _ I h) λv s1 ⟨x,H1,I1,r1,q1⟩=>?_;rcases q1 with⟨a,rfl,⟨xs,hq⟩,q⟩|⟨a,rfl,⟨xs,hq⟩,q⟩
 ·cases r1;obtain⟨its,rv,p,hz⟩:=I1.list hq;refine Qx p.isList ⟨s1.heap.objs.size,[s1.heap.objs.size],_,_,H1,rfl,I1.kept (t':=s1.toks) λb o e=>aL _ e,D3 a _,⟨_,bR _ rfl,rfl,rfl⟩,λb hb=>?_,q⟩;cases nT.mp hb;exact I1.vL (ao _) (I1.aj.fresh (ao _))
 ·cases r1;obtain⟨its,rv,p,hz⟩:=I1.tuple hq;refine Em (show s1.heap.IsTuple a its.toArray from p) ⟨s1.heap.objs.size,[s1.heap.objs.size],_,_,H1,rfl,I1.kept (t':=s1.toks) λb o e=>aL _ e,Ci a _,⟨_,bR _ rfl,rfl,rfl⟩,λb hb=>?_,q⟩;cases nT.mp hb;exact I1.vL (ao _) (I1.aj.fresh (ao _))
theorem BI {a:Addr}{vs:List V}(k1:F a=some (.lst vs)) (k2:ax F l vs):rJ F r (l.map W.d) (Hi K a):=λT' i F2 r2 σ2 H2 bT ag g2 R2=>by
 have hq:bz K H2 a vs:=.of (R2.fh _ _ (g2.s _ _ k1));refine⟨λhl=>?_,λw e=>?_⟩
 ·rw[aR,k2.length]at hl;exact⟨vs,hq,ug hl⟩
 ·obtain⟨d,e1,rfl⟩:=Ao e;obtain⟨u,e2,du⟩:=k2.get e1;refine⟨⟨vs,u,hq,e2⟩,λx H3 ⟨e3,hy⟩=>?_⟩;subst e3;have e4:vs[i]?=some x:=hy vs hq;rw[e2]at e4;cases e4;exact⟨F2,.refl F2 r2,R2,Den.mono g2.s d du⟩
theorem Cv {a:Addr}{vs:List V}(k1:F a=some (.tup vs)) (k2:ax F l vs):rJ F r (l.map W.d) (Hj K a):=λT' i F2 r2 σ2 H2 bT ag g2 R2=>by
 have hq:a6 K H2 a vs:=.of (R2.fh _ _ (g2.s _ _ k1));refine⟨λhl=>?_,λw e=>?_⟩
 ·rw[aR,k2.length]at hl;exact⟨vs,hq,ug hl⟩
 ·obtain⟨d,e1,rfl⟩:=Ao e;obtain⟨u,e2,du⟩:=k2.get e1;refine⟨⟨vs,u,hq,e2⟩,λx H3 ⟨e3,hy⟩=>?_⟩;subst e3;have e4:vs[i]?=some x:=hy vs hq;rw[e2]at e4;cases e4;exact⟨F2,.refl F2 r2,R2,Den.mono g2.s d du⟩
theorem AR (ha:PD X T Z a ma):rK X T Z tg a (bt ma):=by
 refine PI.imp (OK ha) λσ H Q ⟨F,r,env,bx,R,h⟩=>?_;refine⟨F,r,env,bx,R,End.bind h λw bx1 F1 r1 v H1 g1 R1 d1 h1=>?_⟩;split at h1
 ·rename_i l;obtain⟨p,vs,rfl,k1,k2⟩:=d1;exact .inl ⟨p,rfl,⟨vs,.of (R1.fh _ _ k1)⟩,h1 F1 r1 _ H1 (.refl F1 r1) R1 (BI k1 k2)⟩
 ·rename_i l;obtain⟨p,vs,rfl,k1,k2⟩:=d1;exact .inr ⟨p,rfl,⟨vs,.of (R1.fh _ _ k1)⟩,h1 F1 r1 _ H1 (.refl F1 r1) R1 (Cv k1 k2)⟩
 ·exact h1.elim
theorem LW {v:Int}(hg:Gl X x) (hm:∃ t,X.mg x=some (.int v t)) (hd:(x==("__debug__":Str))=false):PD X T Z (.Name x pos) (dC (.int v)):=by
 obtain⟨t,hm⟩:=hm;exact Bv (J0 (v:=.int v) hg hm ⟨t,rfl⟩ hd) λ_=>rfl
end
noncomputable def Iw (XN:List Str) (sc cs:Scope) (N:List Str) (src:List (Option Nat)):Bool :=
 decide (cs.kind=.function)&&decide (cs.names.map (·.1)).Nodup&&cs.names.all (λy=>decide (y.2=.local->cs.names.lookup y.1=some .local)) &&
 cs.names.all (λy=>decide (y.2=.free->(sc.names.lookup y.1=some .cell \/ sc.names.lookup y.1=some .free)))&&decide (src.length=N.length) &&
 (List.range src.length).all λj=>match src[j]?,N[j]? with
  |some (some i),some x=>decide (XN[i]?=some x /\ cs.names.lookup x=some .free)
  |_,_=>true
theorem Cw {XN:List Str}{src:List (Option Nat)}{sc cs:Scope}(hX:∀ x,X.env.kindOf x=sc.names.lookup x) (hN:X.N=XN) (h:Iw XN sc cs N src=true):pR X N src cs:=by
 subst hN;unfold Iw at h;simp only[aB,decide_eq_true_eq,cT]at h;obtain⟨⟨⟨⟨⟨h1,h2⟩,h3⟩,h4⟩,h5⟩,h6⟩:=h;refine⟨h1,h2,λy hy=>h3 y hy,λy hy hf=>?_,h5,λj i x e1 e2=>?_⟩
 ·rw[hX];exact h4 y hy hf
 ·have q:=h6 j (List.mem_range.mpr (List.getElem?_eq_some_iff.mp e1).1);rw[e1,e2]at q;exact of_decide_eq_true q
section
variable (P : Program) (w : World) (K : PySem.W.Frag) (mg : Str -> Option Value) (base : Heap) (cl : Nat -> Addr)
def pB (k:Nat) (x:Str) (ps:List Str) (fn:List W->List Bx->O W):Prop :=
 ∃ (f:Addr) (fd:FuncData),dS P w K mg base (nz P w) k f fd ps (qE cl ps.length fn) /\ mg x=some (.ref f) /\ PySem.W.keepIn K (.ref f)=true /\ Binds K fd ps [] /\ ∃ o:Obj,K.lookup f=some o /\ o.data=.func fd
def Def (x:Str) (st:Stmt) (ps:List Str):Prop:=∃ (f:Addr) (fd:FuncData),ny K x x st f fd /\ mg x=some (.ref f) /\ Binds K fd ps []
end
section
variable {k : Nat} {ps : List Str} {m : aq} {nn kk : Nat}
theorem _root_.L2.ny.obj {qual:Str}{f:Addr}(F:ny K x qual st f fd):∃ o:Obj,K.lookup f=some o /\ o.data=.func fd:=by
 obtain⟨⟨oc,od,kV,doc,pm,an,aW,ct,pF,_,l,_⟩,_⟩:=F;exact⟨_,l,rfl⟩
theorem OL (d:Def K mg x st ps) (S:uE N ps (fJ st))
 (sL:∀ (f:Addr) (aW:Value) (A:Around) (outer:List Env) (s:Shared) (H:Hp) (E:XK) (n:Nat) (F0:Hp),cj k (A.deeper (envOfC x (fJ st) s.heap.objs.size f aW)) ->
  pd (rq vX P w K mg base N x (fJ st) f aW A outer s H E).uB ⟨H,n,F0⟩ ⟨E0,cl⟩ (gG st) m) (hn:N.length=nn:=by rfl) (YU:k+1=kk:=by rfl):pB P w K mg base cl kk x ps (aS nn (aJ m)):=by
 subst hn YU;obtain⟨f,fd,F,hm,hb⟩:=d;exact⟨f,fd,Rc F S (λaW A outer s H E n F0 hr=>sL f aW A outer s H E n F0 hr),hm,F.kp,hb,F.obj⟩
end
section
variable {p : Pos} {k k' : Nat} {ps : List Str} {m : DE (List W)} {nn : Nat}
theorem OM (h:pB X.prog X.w X.K X.mg X.base Z.cl k x ps fn) (hr:cj k' X.A) (hk:k<=k') (hg:Gl X x) (hx:Passes (nz X.prog X.w) X Z.E) (ha:cY X T Z (e::es) m) (cz:(x==("__debug__":Str))=false)
 (he:starEach (e::es) X.env=(false,eval e X.env)::starEach es X.env) (eN:(backTo pos (starEach es X.env)).any (·.1)=false) (hn:ps.length=nn):PD X T Z (.Call (.Name x p) (e::es) [] pos) (fq fn nn m):=by
 subst hn;obtain⟨f,fd,G,hm,YV,hb,_⟩:=h;exact Lr G (hr.mono hk) hg hm YV hb hx ha cz he eN
end
end L2.DL
namespace HT
structure SB (kd:SortKind) (b:Array Keyed) (z:SortSt):Prop where
 pm:(arrOf z).Perm b
 kd:kindOf z=kd
 fl:failedOf z=none
 pn:pendingOf z=#[]
theorem SB.len {kd:SortKind}{b:Array Keyed}{z:SortSt}(g:SB kd b z):(arrOf z).size=b.size:=g.pm.size_eq
theorem SB.put {kd:SortKind}{b:Array Keyed}{z:SortSt}(g:SB kd b z) {c:Array Keyed}(q:c.Perm (arrOf z)):SB kd b (setArr z c):=⟨q.trans g.pm,g.kd,g.fl,g.pn⟩
section
def pY (prog:Program) (w:World) (A:Around) (E:Value->Shared->Prop) (s:Shared) (κ:KeyKind) (kd:SortKind) (b:Array Keyed):Prop :=
 ∀ (x y:Keyed),x∈b.toList->y∈b.toList->∀ (Q:Bool->Shared->Prop) (E':Value->Shared->Prop),Q (κ.blt ((κ.keyOf x.1).getD κ.dflt) ((κ.keyOf y.1).getD κ.dflt)) s->wpAny (model prog w) A (keyLt' kd x.1 y.1) Q E' s
variable {κ : KeyKind} {kd : SortKind} {b : Array Keyed}
noncomputable abbrev kx (κ:KeyKind) (z:SortSt) (i:Nat):κ.α:=KK κ (arrOf z) i
theorem SB.item {z:SortSt}(g:SB kd b z) (hi:i<b.size):∃ x,(arrOf z)[i]?=some x /\ x∈b.toList /\ kx κ z i=(κ.keyOf x.1).getD κ.dflt:=by
 have hz:i<(arrOf z).size:=g.len▸hi;refine⟨(arrOf z)[i],getElem?_pos _ i hz,(Array.perm_iff_toList_perm.mp g.pm).mem_iff.mp (by simp),?_⟩;simp only[kx,KK,getElem?_pos (arrOf z) i hz]
theorem ask (C:pY prog w A E s κ kd b) {z:SortSt}(g:SB kd b z) (hi:i<b.size) (hj:j<b.size) {Q:Option Bool->SortSt->Prop}
 (q:Q (some (κ.blt (kx κ z i) (kx κ z j))) z):wpS (model prog w) A E s (ltAt' i j) Q z:=by
 obtain⟨x,ex,mx,YW⟩:=g.item (κ:=κ) hi;obtain⟨y,ey,my,YX⟩:=g.item (κ:=κ) hj;rw[YW,YX]at q;rw[ltAt'_eq];refine bM (uo ?_);dsimp only;rw[elem'_eq,elem'_eq,ex,ey];refine bM (cH (bM (cH ?_)));rw[lt'_eq];refine bM (uo ?_);rw[g.kd];exact bM (ER (xg (C x y mx my _ _ ⟨rfl,cH q⟩)))
def Up (κ:KeyKind) (z:SortSt) (n:Nat):Prop:=∀ i j,i<=j->j<n->κ.kle (kx κ z i) (kx κ z j)
def Dn (κ:KeyKind) (z:SortSt) (n:Nat):Prop:=∀ i j,i<=j->j<n->κ.kle (kx κ z j) (kx κ z i)
theorem Up.one {z:SortSt}(h:n<=1):Up κ z n:=λi j a c=>by
 have e:i=j:=by omega
 subst e;exact uu _
theorem Up.more {z:SortSt}(u:Up κ z n) (h:1<=n) (l:κ.kle (kx κ z (n-1)) (kx κ z n)):Up κ z (n+1):=λi j a c=>by
 rcases uh j n with c'|c'
 ·exact u i j a c'
 obtain rfl:j=n:=by omega
 rcases uh i j with a'|a'
 ·exact xG (u i (j-1) (by omega) (by omega)) l
 ·obtain rfl:i=j:=by omega
  exact uu _
theorem Dn.more {z:SortSt}(u:Dn κ z n) (h:1<=n) (l:κ.kle (kx κ z n) (kx κ z (n-1))):Dn κ z (n+1):=λi j a c=>by
 rcases uh j n with c'|c'
 ·exact u i j a c'
 obtain rfl:j=n:=by omega
 rcases uh i j with a'|a'
 ·exact xG l (u i (j-1) (by omega) (by omega))
 ·obtain rfl:i=j:=by omega
  exact uu _
theorem asc (C:pY prog w A E s κ kd b) {z:SortSt}(g:SB kd b z) {a:Nat}(hn:n<=b.size) (h1:1<=a) (h2:a<=n) (u:Up κ z a) {Q:AscSt->SortSt->Prop}
 (q:∀ m,a<=m->m<=n->Up κ z m->(m<n->κ.klt (kx κ z m) (kx κ z (m-1)))->Q (none,m) z):wpS (model prog w) A E s (ascLoop a n) Q z:=by
 unfold ascLoop;refine uq (I:=λm c y=>y=z /\ c=(none,m) /\ Up κ z m) ?_ ?_ ⟨rfl,rfl,u⟩
 ·intro m c y g1 g2 ⟨e1,e2,u'⟩;subst e1;subst e2;refine bM (ask C g (show m<b.size by omega) (show m-1<b.size by omega) ?_);cases e:κ.blt (kx κ y m) (kx κ y (m-1)) with
  |true=>exact cH (q m g1 (k8 g2) u' λ_=>e)
  |false=>exact cH ⟨rfl,rfl,u'.more (by omega) e⟩
 ·intro c y ⟨e1,e2,u'⟩;subst e1;subst e2;rw[QQ h2]at u' ⊢;exact q n h2 (ao n) u' λh=>absurd h (dG n)
theorem Dd {z:SortSt}{k:Nat}(hj:j<=(arrOf z).size):kx κ (setArr z (mirror (arrOf z) i j ((j-i) / 2))) k=if i<=k /\ k<j then kx κ z (i+j-1-k) else kx κ z k:=KK_mirror (κ:=κ) hj k
theorem jM {z:SortSt}(hj:j<=(arrOf z).size) (e:∀ k,i<=k->k<j->kx κ z k=kx κ z (j-1)) (k:Nat):kx κ (setArr z (mirror (arrOf z) i j ((j-i) / 2))) k=kx κ z k:=KK_mirror_equal (κ:=κ) hj e k
def Ends (prog:Program) (w:World) (A:Around) (E:Value->Shared->Prop) (s:Shared) (κ:KeyKind) (kd:SortKind) (b:Array Keyed) (n:Nat) (Q:Option Nat->SortSt->Prop):Prop :=
 ∀ m y,SB kd b y->1<=m->m<=n->Up κ y m->Q (some m) y
theorem turned (C:pY prog w A E s κ kd b) {z:SortSt}(g:SB kd b z) {a:Nat}(hn:n<=b.size) (h1:1<=a) (h2:a<=n) (d:Dn κ z a) {Q:Option Nat->SortSt->Prop}(q:Ends prog w A E s κ kd b n Q) :
 wpS (model prog w) A E s (tail3 a n) Q z:=by
 have hz:a<=(arrOf z).size:=g.len▸bP h2 hn;have g':SB kd b (setArr z (mirror (arrOf z) 0 a ((a-0) / 2))):=g.put (xC _ _ _ _);unfold tail3;refine bM (xD (bM (asc C g' hn h1 h2 (λi j c1 c2=>?_) λm m1 m2 um _=>cH (q m _ g' (bP h1 m1) m2 um))));rw[Dd hz,Dd hz,if_pos ⟨eG i,by omega⟩,if_pos ⟨eG j,c2⟩];exact d _ _ (by omega) (by omega)
def Alike (κ:KeyKind) (z:SortSt) (m e:Nat):Prop:=e+1<=m /\ ∀ i,m-(e+1)<=i->i<m->kx κ z i=kx κ z (m-1)
theorem Alike.zero {z:SortSt}{m:Nat}(h:1<=m):Alike κ z m 0:=⟨h,λi h1 h2=>by rw[show i=m-1 by omega]⟩
theorem desc (C:pY prog w A E s κ kd b) {z:SortSt}(g:SB kd b z) {a:Nat}(hn:n<=b.size) (h1:1<=a) (h2:a<=n) (d:Dn κ z a) {Q:DescSt->SortSt->Prop}
 (q:∀ m e y,SB kd b y->a<=m->m<=n->Dn κ y m->Alike κ y m e->Q (none,m,e) y):wpS (model prog w) A E s (descLoop a n) Q z:=by
 unfold descLoop;refine uq (I:=λm c y=>∃ e,c=(none,m,e) /\ SB kd b y /\ Dn κ y m /\ Alike κ y m e) ?_ ?_ ⟨0,rfl,g,d,.zero h1⟩
 ·intro m c y g1 g2 ⟨e,ec,gy,dy,al⟩;subst ec;have hm:m<=(arrOf y).size:=by rw[gy.len];omega
  refine bM (ask C gy (show m<b.size by omega) (show m-1<b.size by omega) ?_);cases t:κ.blt (kx κ y m) (kx κ y (m-1)) with
  | true =>
    have d':Dn κ y (m+1):=dy.more (by omega) (xH t);dsimp only;rw[if_pos rfl];by_cases he:e>0
    ·rw[if_pos he];refine bM (xD (cH ⟨0,rfl,gy.put (xC _ _ _ _),λi j c1 c2=>?_,.zero (by omega)⟩));rw[jM hm al.2,jM hm al.2];exact d' i j c1 c2
    ·rw[if_neg he];exact cH ⟨0,rfl,gy,d',.zero (by omega)⟩
  | false =>
    dsimp only;rw[if_neg (by simp)];refine bM (ask C gy (show m-1<b.size by omega) (show m<b.size by omega) ?_);cases t2:κ.blt (kx κ y (m-1)) (kx κ y m) with
    |true=>exact cH (q m e y gy g1 (by omega) dy al)
    | false =>
      have eq:kx κ y m=kx κ y (m-1):=S4 t2 t;refine cH ⟨e+1,rfl,gy,dy.more (by omega) t2,by have:=al.1;omega,λi c1 c2=>?_⟩;rw[show m+1-1=m by omega];by_cases hi:i=m
      ·rw[hi]
      ·rw[eq];exact al.2 i (by omega) (by omega)
 ·intro c y ⟨e,ec,gy,dy,al⟩;subst ec;rw[QQ h2]at dy al ⊢;exact q n e y gy h2 (ao n) dy al
theorem fall (C:pY prog w A E s κ kd b) {z:SortSt}(g:SB kd b z) {a:Nat}(hn:n<=b.size) (h2:a+1<=n) (d:Dn κ z (a+1)) {Q:Option Nat->SortSt->Prop}(q:Ends prog w A E s κ kd b n Q) :
 wpS (model prog w) A E s (descPart a n) Q z:=by
 unfold descPart;refine bM (ER (pG ⟨rfl,bM (desc C g hn (Nat.succ_pos a) h2 d λm e y gy m1 m2 dy al=>?_)⟩));dsimp only;by_cases he:e>0
 ·rw[if_pos he];have hm:m<=(arrOf y).size:=by rw[gy.len];omega
  refine bM (xD (turned C (gy.put (xC _ _ _ _)) hn (by omega) m2 (λi j c1 c2=>?_) q));rw[jM hm al.2,jM hm al.2];exact dy i j c1 c2
 ·rw[if_neg he];exact turned C gy hn (by omega) m2 dy q
theorem count (C:pY prog w A E s κ kd b) {z:SortSt}(g:SB kd b z) (hn:n<=b.size) (h1:1<=n) {Q:Option Nat->SortSt->Prop}(q:Ends prog w A E s κ kd b n Q) :
 wpS (model prog w) A E s (countRun' 0 n) Q z:=by
 rw[countRun0_eq];refine bM (asc C g hn (ao 1) h1 (.one (ao 1)) λm m1 m2 um last=>?_);dsimp only;by_cases hm:m=n
 ·rw[if_pos (by simp[hm])];exact cH (q m z g m1 m2 um)
 rw[if_neg (by simp[hm])];have lt:=last (by omega);by_cases h3:m>1
 ·rw[if_pos h3];refine bM (ask C g (show 0<b.size by omega) (show m-1<b.size by omega) ?_);cases t:κ.blt (kx κ z 0) (kx κ z (m-1)) with
  |true=>exact cH (q m z g m1 m2 um)
  | false =>
    dsimp only;rw[if_neg (by simp)];have al:∀ k,0<=k->k<m->kx κ z k=kx κ z (m-1):=λk _ hk =>
     S4 (um k (m-1) (by omega) (by omega)) (xG t (um 0 k (eG k) hk))
    have hz:m<=(arrOf z).size:=by rw[g.len];omega
    refine bM (xD (fall C (g.put (xC _ _ _ _)) hn (by omega) (λi j c1 c2=>?_) q));rw[jM hz al,jM hz al];have d0:Dn κ z m:=λi j c1 c2=>by rw[al i (eG _) (by omega),al j (eG _) c2];exact uu _
    exact d0.more m1 (xH lt) i j c1 c2
 ·rw[if_neg h3];obtain rfl:m=1:=by omega
  have d0:Dn κ z 1:=λi j c1 c2=>by
   obtain rfl:i=j:=by omega
   exact uu _
  exact fall C g hn (by omega) (d0.more (ao 1) (xH lt)) q
end
section
variable {κ : KeyKind} {kd : SortKind} {b : Array Keyed}
def Fits (κ:KeyKind) (z:SortSt) (k l r:Nat):Prop:=(∀ i,i<l->κ.kle (kx κ z i) (kx κ z k)) /\ ∀ i,r<=i->i<k->κ.klt (kx κ z k) (kx κ z i)
theorem De {z:SortSt}{k l:Nat}(hk:k<(arrOf z).size) (hl:l<=k):kx κ (setArr z (bubble (arrOf z) k (k-l))) i=if i=l then kx κ z k else if l<i /\ i<=k then kx κ z (i-1) else kx κ z i:=by
 have e:=KK_bubble (κ:=κ) hk (Nat.sub_le k l) i;rw[show k-(k-l)=l by omega]at e;exact e
theorem Up.insert {z:SortSt}{k l:Nat}(u:Up κ z k) (hk:k<(arrOf z).size) (hl:l<=k) (f:Fits κ z k l l):Up κ (setArr z (bubble (arrOf z) k (k-l))) (k+1):=by
 intro i j c1 c2;rw[De hk hl,De hk hl];by_cases i1:i=l
 ·rw[if_pos i1];by_cases j1:j=l
  ·rw[if_pos j1];exact uu _
  ·rw[if_neg j1,if_pos ⟨by omega,by omega⟩];exact xH (f.2 _ (by omega) (by omega))
 ·rw[if_neg i1];by_cases i2:l<i /\ i<=k
  ·rw[if_pos i2,if_neg (by omega),if_pos ⟨by omega,by omega⟩];exact u _ _ (by omega) (by omega)
  ·rw[if_neg i2];by_cases j1:j=l
   ·rw[if_pos j1];exact f.1 i (by omega)
   ·rw[if_neg j1];by_cases j2:l<j /\ j<=k
    ·rw[if_pos j2];exact u _ _ (by omega) (by omega)
    ·rw[if_neg j2];exact u _ _ c1 (by omega)
theorem YY (C:pY prog w A E s κ kd b) {z:SortSt}(g:SB kd b z) {m:Nat}(hn:n<=b.size) (hm:m<=n) (u:Up κ z m) {Q:Bool->SortSt->Prop}(q:∀ y,SB kd b y->Up κ y n->Q true y) :
 wpS (model prog w) A E s (binarySort' 0 n m) Q z:=by
 rw[binarySort'_eq];simp only[Et];refine bM (xE (Q:=λc y=>c=(none,()) /\ SB kd b y /\ Up κ y n) (uq (I:=λk c y=>c=(none,()) /\ SB kd b y /\ Up κ y (min k n)) ?_ ?_ ?_) ?_)
 ·intro k c y k1 k2 ⟨ec,gy,uy⟩;subst ec;rw[QR (k8 k2)]at uy;have kb:k<b.size:=by omega
  have ks:k<(arrOf y).size:=by rw[gy.len];exact kb
  refine bM (xE (Q:=λc y'=>y'=y /\ ∃ l r,c=(none,l,r) /\ l<=k /\ Fits κ y k l l) (uq (I:=λx c y'=>y'=y /\ ∃ l r,c=(none,l,r) /\ l<=r /\ r<=k /\ r-l<=k-x /\ Fits κ y k l r) ?_ ?_ ?_) ?_)
  ·intro x c y' _ x2 ⟨ey,l,r,ec,p1,p2,p3,f⟩;subst ey;subst ec;dsimp only;by_cases lr:l>=r
   ·rw[if_pos lr];obtain rfl:l=r:=by omega
    exact cH ⟨rfl,l,l,rfl,p2,f⟩
   rw[if_neg lr];refine bM (ask C gy kb (show (l+r) / 2<b.size by omega) ?_);cases t:κ.blt (kx κ y' k) (kx κ y' ((l+r) / 2)) with
   |true=>exact cH ⟨rfl,l,(l+r) / 2,rfl,by omega,by omega,by omega,f.1,λi i1 i2=>KeyOrd.klt_of_klt_of_kle t (uy _ _ i1 i2)⟩
   |false=>exact cH ⟨rfl,(l+r) / 2+1,r,rfl,by omega,by omega,by omega,λi i1=>xG (uy i ((l+r) / 2) (by omega) (by omega)) t,f.2⟩
  ·intro c y' ⟨ey,l,r,ec,p1,p2,p3,f⟩;obtain rfl:l=r:=by omega
   exact⟨ey,l,l,ec,p2,f⟩
  ·exact⟨rfl,0,k,rfl,eG k,ao k,ao _,λi hi=>absurd hi (Nat.not_lt_zero i),λi i1 i2=>absurd i2 (by omega)⟩
  ·intro c y' ⟨ey,l,r,ec,p,f⟩;subst ey;subst ec;show wpS _ _ _ _ (moveDown' k l >>= λ_=>pure (ForInStep.yield (none,()))) _ _;rw[moveDown'_eq];refine bM (ES (cH ⟨rfl,gy.put (bubble_perm _ _ _),?_⟩));rw[QR k2];exact uy.insert ks p f
 ·intro c y ⟨ec,gy,uy⟩;rw[show min (max (max m 1) n) n=n by omega]at uy;exact⟨ec,gy,uy⟩
 ·refine⟨rfl,g,?_⟩;rcases uh m 1 with m0|m0
  ·exact .one (by omega)
  ·rw[show min (max m 1) n=m by omega];exact u
 ·intro c y ⟨ec,gy,uy⟩;subst ec;exact cH (q y gy uy)
def yL (κ:KeyKind) (b:Array Keyed) (y:SortSt):Prop:=(arrOf y).Perm b /\ failedOf y=none /\ pendingOf y=#[(0,b.size,0)] /\ Up κ y b.size
theorem SB.fin {y:SortSt}(g:SB kd b y) (u:Up κ y b.size):yL κ b (setPending y ((pendingOf y).push (0,b.size,0))):=⟨g.pm,g.fl,by show (pendingOf y).push _=_;rw[g.pn];rfl,u⟩
theorem runs (C:pY prog w A E s κ kd b) {z:SortSt}(g:SB kd b z) (h2:2<=b.size) (cB:b.size<64) {Q:Unit->SortSt->Prop}(q:∀ y,(arrOf y).Perm b->failedOf y=none->Up κ y b.size->Q () y) :
 wpS (model prog w) A E s sortRuns' Q z:=by
 have mr:minRun' b.size b.size 0=b.size:=by
  obtain⟨f,e⟩:=Nat.exists_eq_add_of_lt (show 0<b.size by omega);have:minRun' (0+f+1) b.size 0=b.size:=by rw[minRun'_succ,if_pos cB];rfl
  rw[<-e]at this;exact this
 rw[sortRuns'_eq];refine bM (uo ?_);dsimp only;simp only[g.len,mr];refine bM (xE (Q:=λc y=>c=(none,b.size) /\ yL κ b y)
  (uq (I:=λx c y=>if x=0 then c=(none,0) /\ SB kd b y else c=(none,b.size) /\ yL κ b y) ?_ ?_ (by rw[if_pos rfl];exact⟨rfl,g⟩)) ?_)
 ·intro x c y _ x2 I;by_cases x0:x=0
  ·rw[if_pos x0]at I;obtain⟨ec,gy⟩:=I;subst ec;subst x0;dsimp only;rw[if_neg (by omega)];simp only[Es,Nat.min_self,Et];have fin:∀ y',SB kd b y'->Up κ y' b.size->(if (1:Nat)=0 then ((none:Option PUnit),b.size)=(none,0) /\ SB kd b (setPending y' ((pendingOf y').push (0,b.size,0))) else ((none:Option PUnit),b.size)=(none,b.size) /\ yL κ b (setPending y' ((pendingOf y').push (0,b.size,0)))):=
    λy' g' u'=>by rw[if_neg (by omega)];exact⟨rfl,g'.fin u'⟩
   refine bM (count C gy (ao _) (by omega) λm y1 g1 m1 m2 u1=>?_);dsimp only;by_cases lt:m<b.size
   ·rw[if_pos lt];refine bM (ER (pG ⟨rfl,bM (YY C g1 (ao _) m2 u1 λy3 g3 u3=>?_)⟩));rw[if_neg (by simp)];refine bM (uo ?_);rw[show (pendingOf y3).back?=none by rw[g3.pn];rfl];exact bM (ES (cH (fin y3 g3 u3)))
   ·rw[if_neg lt];obtain rfl:m=b.size:=by omega
    refine bM (uo ?_);rw[show (pendingOf y1).back?=none by rw[g1.pn];rfl];exact bM (ES (cH (fin y1 g1 u1)))
  ·rw[if_neg x0]at I;obtain⟨ec,fy⟩:=I;subst ec;dsimp only;rw[if_pos (ao _)];exact cH ⟨rfl,fy⟩
 ·intro c y I;rw[if_neg (by omega)]at I;exact I
 ·intro c y ⟨ec,fy⟩;subst ec;dsimp only;refine bM (xE (Q:=λc y'=>y'=y /\ c=(none,())) (uq (I:=λ_ c y'=>y'=y /\ c=(none,())) ?_ (λ_ _ h=>h) ⟨rfl,rfl⟩) ?_)
  ·intro x c y' _ _ ⟨e1,e2⟩;subst e1;subst e2;refine bM (uo ?_);rw[if_pos (by rw[fy.2.2.1];exact ao 1)];exact cH ⟨rfl,rfl⟩
  ·intro c y' ⟨e1,e2⟩;subst e1;subst e2;exact cH (q _ fy.1 fy.2.1 fy.2.2.2)
end
def bU (h:Heap) (v:Value) (ns:List Int):Prop:=∃ a vs,v=.ref a /\ IsTup h a vs.toArray /\ IntsAre vs ns /\ ns≠[]
theorem jz:∀ {vs:List Value}{ns ms:List Int},IntsAre vs ns->IntsAre vs ms->ns=ms
 |_,_,_,.nil,.nil=>rfl
 |_,_,_,.cons n t h,g=>by cases g with|cons _ _ g=>rw[jz h g]
theorem bU.inj {v:Value}{ms:List Int}(p:bU h v ns) (q:bU h v ms):ns=ms:=by
 obtain⟨a,vs,rfl,⟨o,e1,_,n,e2⟩,i1,_⟩:=p;obtain⟨a',qC,e,⟨o',f1,_,n',f2⟩,i2,_⟩:=q;cases e;rw[e1]at f1;cases f1;rw[e2]at f2;injection f2 with g _;have:vs=qC:=by simpa using g
 subst this;exact jz i1 i2
theorem gT:∀ a,lexLt a a=false
 |[]=>rfl
 |x::a=>by rw[fI,if_pos rfl];exact gT a
theorem iO:∀ a b c,lexLt a b=true->lexLt b c=true->lexLt a c=true
 |[],[],_,h,_=>by cases h
 |[],_::_,[],_,h=>by cases h
 |[],_::_,_::_,_,_=>rfl
 |_::_,[],_,h,_=>by cases h
 |_::_,_::_,[],_,h=>by cases h
 | x::a,y::b,z::c,h,g=>by
   rw[fI]at *;by_cases e1:x=y
   ·subst e1;rw[if_pos rfl]at h;by_cases e2:x=z
    ·subst e2;rw[if_pos rfl]at g ⊢;exact iO a b c h g
    ·rw[if_neg e2]at g ⊢;exact g
   ·rw[if_neg e1]at h;by_cases e2:y=z
    ·subst e2;rw[if_neg e1];exact h
    ·rw[if_neg e2]at g;have h':=of_decide_eq_true h;have g':=of_decide_eq_true g;rw[if_neg (by omega)];exact decide_eq_true (by omega)
theorem gm:∀ a b,lexLt a b=false->lexLt b a=false->a=b
 |[],[],_,_=>rfl
 |[],_::_,h,_=>by cases h
 |_::_,[],_,h=>by cases h
 | x::a,y::b,h,g=>by
   rw[fI]at *;by_cases e:x=y
   ·subst e;rw[if_pos rfl]at h g;rw[gm a b h g]
   ·rw[if_neg e]at h;rw[if_neg (Ne.symm e)]at g;have h':=of_decide_eq_false h;have g':=of_decide_eq_false g;omega
theorem jN (a b c:List Int) (h:lexLt a c=true):lexLt a b=true \/ lexLt b c=true:=by
 cases e:lexLt a b with
 |true=>exact .inl rfl
 | false =>
   refine .inr ?_;cases f:lexLt b a with
   |true=>exact iO b a c f h
   |false=>rw[<-gm a b e f];exact h
open Classical in
def yM (h:Heap):KeyKind where
 α:=List Int
 blt:=lexLt
 irrefl:=gT
 trans:=iO
 negTrans:=jN
 total:=gm
 keyOf v:=if p:∃ ns,bU h v ns then some p.choose else none
 dflt:=[]
open Classical in
theorem Av {v:Value}(p:bU h v ns):((yM h).keyOf v).getD []=ns:=by
 have e:∃ ns,bU h v ns:=⟨ns,p⟩;show (if p:∃ ns,bU h v ns then some p.choose else none).getD []=ns;rw[dif_pos e];exact bU.inj e.choose_spec p
theorem oj {x y:Int}{t u:Tok}(k:Bool) {Q:Bool->Shared->Prop}(h:Q (decide (x<y)) s):wpAny (model prog w) A (oneLt' k (.int x t) (.int y u)) Q E s:=by
 cases k with
 |true=>exact oneLt_int h
 | false =>
   rw[oneLt'_eq];rw[if_neg (by simp)];exact af (show wpAny (model prog w) A (richCompare .Lt (.int x t) (.int y u)) _ E s from(EL (p8 h):wpAny (model prog w) A (compareOp .Lt (.int x t) (.int y u)) _ E s))
theorem lK (f:Bool) (x y:Value):keyLt' (tuples' f) x y=(do
 let xs <-Builtin.List.listItems x
 let ys <-Builtin.List.listItems y
 for ((p,q),i) in (xs.toList.zip ys.toList).zipIdx do
  if !(<-eqBool p q) then return <-oneLt' (f&&i==0) p q
 return decide (xs.size<ys.size)):=rfl
theorem Cy {f:Bool}{x y:Value}{ms:List Int}(hx:bU s.heap x ns) (hy:bU s.heap y ms) {Q:Bool->Shared->Prop}(h:Q (lexLt ns ms) s):wpAny (model prog w) A (keyLt' (tuples' f) x y) Q E s:=by
 obtain⟨a,vs,rfl,⟨o,e1,_,n,e2⟩,i1,_⟩:=hx;obtain⟨a',us,rfl,⟨o',f1,_,n',f2⟩,i2,_⟩:=hy;rw[lK];refine af (qr e1 e2 (af (qr f1 f2 ?_)))
 have L:∀ (vs us:List Value) (ns ms:List Int) (i:Nat),IntsAre vs ns->IntsAre us ms->∀ (R:(Option Bool×PUnit)->Shared->Prop),
  (∀ r,(r=(some (lexLt ns ms),PUnit.unit) \/ (r=(none,PUnit.unit) /\ lexLt ns ms=decide (vs.length<us.length)))->R r s) ->
  wpAny (model prog w) A (forIn ((vs.zip us).zipIdx i) ((none,PUnit.unit):Option Bool×PUnit) λ(z:(Value×Value)×Nat) _=>(do
   let z1 <-eqBool z.1.1 z.1.2
   if (!z1)=true then do
    let r <-oneLt' (f&&z.2==0) z.1.1 z.1.2
    pure (ForInStep.done (some r,PUnit.unit))
   else pure (ForInStep.yield (none,PUnit.unit)))) R E s:=by
  intro vs;induction vs with
  | nil =>
    intro us ns ms i p q R k;cases p;rw[vp,uj,qj];refine ai (k _ (.inr ⟨rfl,?_⟩));cases q with
    |nil=>rfl
    |cons m t q=>simp[jr]
  | cons v vs ih =>
    intro us ns ms i p q R k;cases p with
    | cons n t p =>
      cases q with
      | nil =>
        rw[xm,uj,qj];exact ai (k _ (.inr ⟨rfl,by simp[js]⟩))
      | cons m u q =>
        rw[ng,xt,sv];refine af (af (zZ ?_));by_cases e:n=m
        ·subst e;rw[if_neg (by simp)];refine ai ?_;refine ih _ _ _ (i+1) p q R λr hr=>k r ?_;rw[fI,if_pos rfl];rcases hr with hr|⟨hr,Iy⟩
         ·exact .inl hr
         ·exact .inr ⟨hr,by rw[Iy];simp⟩
        ·rw[if_pos (by simp[e])];refine af (oj _ (ai (ai (k _ (.inl ?_)))));rw[fI,if_neg e]
 refine af (L vs us ns ms 0 i1 i2 _ λr hr=>?_);rcases hr with rfl|⟨rfl,e⟩
 ·exact ai h
 ·refine ai ?_;rw[bc,bc,<-e];exact h
theorem LX (H:∀ v∈vs,∃ ns,bU s.heap v ns) (f:Bool):pY prog w A E s (yM s.heap) (tuples' f) (pairsOf vs):=by
 intro x y mx my Q E' q;rw[ET]at mx my;obtain⟨ns,hx⟩:=H _ (vC mx).2;obtain⟨ms,hy⟩:=H _ (vC my).2;refine Cy hx hy ?_;have e1:=Av hx;have e2:=Av hy
 change Q (lexLt (((yM s.heap).keyOf x.1).getD []) (((yM s.heap).keyOf y.1).getD [])) s at q
 rw[e1,e2]at q;exact q
theorem Fu {v:Value}(p:bU s.heap v ns) {Q:Option Value->Shared->Prop}(h:∀ i t,Q (some (.int i t)) s):wpAny (model prog w) A (firstOfTuple' v) Q E s:=by
 obtain⟨a,vs,rfl,⟨o,e1,e3,n,e2⟩,i1,ne⟩:=p;show wpAny (model prog w) A (do
  if (<-typeOf (.ref a)) != .type "tuple" then return none
  return (<-Builtin.List.listItems (.ref a))[0]?) Q E s
 refine af (ue (T:="tuple") ⟨o,e1,e3⟩ ?_);rw[if_neg (by decide)];refine af (qr e1 e2 (ai ?_));cases i1 with
 |nil=>exact absurd rfl ne
 |cons i t _=>exact h i t
theorem om:∀ {vs:List Value},(∀ v∈vs,∃ ns,bU s.heap v ns)->∀ {Q:List (Option Value)->Shared->Prop},(∀ (us:List Value) (is:List Int),us.length=vs.length->IntsAre us is->Q (us.map some) s)->wpAny (model prog w) A (vs.mapM firstOfTuple') Q E s
 |[],_,Q,h=>by rw[Q4];exact ai (h [] [] rfl .nil)
 | v::vs,H,Q,h=>by
   obtain⟨ns,p⟩:=H v (bL ..);rw[Q5];refine af (Fu p λi t=>af (om (λu hu=>H u (bC _ hu)) λus is e k=>ai (h (.int i t::us) (i::is) (by simp[e]) (.cons i t k))))
theorem GN (ne:vs≠[]) (H:∀ v∈vs,∃ ns,bU s.heap v ns) {Q:SortKind->Shared->Prop}(h:Q (tuples' true) s):wpAny (model prog w) A (keyKind' vs.toArray) Q E s:=by
 rw[SR,xu];refine af (show wpAny (model prog w) A (List.toArray <$> vs.mapM firstOfTuple') _ E s from ?_);rw[<-bind_pure_comp];refine af (om H λus is e k=>ai ?_);rw[if_pos (by simp)];refine af (pG ?_);have e1:((us.map some).toArray.filterMap id)=us.toArray:=by simp[vq]
 rw[e1,SS,xu,SU k];cases us with
 |nil=>exact absurd (xw e.symm) ne
 | cons u us =>
   simp only[map_pure,pure_bind];rw[show ((u::us).map λ_=>Value.type "int").toArray[0]?=some (Value.type "int") by simp];dsimp only;rw[if_pos (by simp)];exact af (ai (ai h))
structure KP (P:Heap->Value->List Int->Prop):Prop where
 inj:∀ {h:Heap}{v:Value}{ns ms:List Int},P h v ns->P h v ms->ns=ms
 push:∀ {h:Heap}{v:Value}{ns:List Int},P h v ns->∀ o:Obj,P (h.push o) v ns
 upd:∀ {h:Heap}{v:Value}{ns:List Int},P h v ns->∀ {l:Addr}{xs:Array Value}{n:Nat},h.get? l=some (seqObj "list" xs n)->∀ f:Obj->Obj,P (h.update l f) v ns
theorem bU.push {h:Heap}{v:Value}{ns:List Int}(p:bU h v ns) (o:Obj):bU (h.push o) v ns:=by
 obtain⟨a,vs,e,⟨u,e1,e2⟩,k⟩:=p;exact⟨a,vs,e,⟨u,aL _ e1,e2⟩,k⟩
theorem bU.upd {v:Value}(p:bU h v ns) {l:Addr}{xs:Array Value}(hl:h.get? l=some (seqObj "list" xs n)) (f:Obj->Obj):bU (h.update l f) v ns:=by
 obtain⟨a,vs,e,⟨u,e1,e2,e3⟩,k⟩:=p;refine⟨a,vs,e,⟨u,?_,e2,e3⟩,k⟩;by_cases q:l=a
 ·subst q;rw[hl]at e1;cases e1;injection (show Value.type "list"=Value.type "tuple" from e2) with e4;exact absurd e4 (by decide)
 ·rw[Sw _ _ _ _ (Ne.symm q)];exact e1
section
variable {P : Heap -> Value -> List Int -> Prop} (KQ : KP P)
open Classical in
noncomputable def qK (P:Heap->Value->List Int->Prop) (h:Heap):KeyKind where
 α:=List Int
 blt:=lexLt
 irrefl:=gT
 trans:=iO
 negTrans:=jN
 total:=gm
 keyOf v:=if p:∃ ns,P h v ns then some p.choose else none
 dflt:=[]
include KQ in
open Classical in
theorem mL {v:Value}(p:P h v ns):((qK P h).keyOf v).getD []=ns:=by
 have e:∃ ns,P h v ns:=⟨ns,p⟩;show (if p:∃ ns,P h v ns then some p.choose else none).getD []=ns;rw[dif_pos e];exact KQ.inj e.choose_spec p
def rV (P:Heap->Value->List Int->Prop) (h:Heap) (vs:List Value):Prop:=vs.Pairwise λx y=>∀ ns ms,P h x ns->P h y ms->lexLt ms ns=false
def yN (P:Heap->Value->List Int->Prop) (prog:Program) (w:World) (U:Nat) (s:Shared) (vs:List Value):Prop:=∀ (A:Around) (h':Heap),A.units<=U->(∀ v ns,P s.heap v ns->P h' v ns) ->
 (∀ {Q:SortKind->Shared->Prop}{E:Value->Shared->Prop},Q (tuples' true) { s with heap:=h' }->wpAny (model prog w) A (keyKind' vs.toArray) Q E { s with heap:=h' }) /\ ∀ E,pY prog w A E { s with heap:=h' } (qK P h') (tuples' true) (pairsOf vs)
include KQ
theorem GO (H:∀ v∈vs,∃ ns,P h v ns) (up:∀ v ns,P h v ns->P h' v ns) {z:SortSt}(pm:(arrOf z).Perm (pairsOf vs)) (u:Up (qK P h') z (pairsOf vs).size) :
 ((arrOf z).map (·.2)).toList.Perm vs /\ rV P h ((arrOf z).map (·.2)).toList:=by
 have hl:(arrOf z).toList.Perm (vs.zip vs):=by rw[<-ET];exact Array.perm_iff_toList_perm.mp pm
 have me:∀ p∈(arrOf z).toList,p.1=p.2 /\ p.1∈vs:=λp hp=>vC (hl.mem_iff.mp hp);rw[Array.toList_map];constructor
 ·have:=hl.map (·.2);rw[Q6 (ao _)]at this;exact this
 ·unfold rV;rw[nS,List.pairwise_iff_getElem];intro i j hi hj vJ ns ms p q;have wF:i<(arrOf z).size:=by simpa using hi
  have Vk:j<(arrOf z).size:=by simpa using hj
  have g:=u i j (k8 vJ) (by rw[<-pm.size_eq];exact Vk);have ki:kx (qK P h') z i=ns:=by
   simp only[kx,KK,getElem?_pos (arrOf z) i wF];rw[Tu,<-(me _ (by simp)).1]at p;exact mL KQ (up _ _ p)
  have kj:kx (qK P h') z j=ms:=by
   simp only[kx,KK,getElem?_pos (arrOf z) j Vk];rw[Tu,<-(me _ (by simp)).1]at q;exact mL KQ (up _ _ q)
  rw[ki,kj]at g;exact g
theorem LY {R:Fin->Shared->Prop}(ho:s.heap.get? a=some (seqObj "list" vs.toArray n)) (H:∀ v∈vs,∃ ns,P s.heap v ns) {U:Nat}(hU:A.units<=U) (S:vs≠[]->yN P prog w U s vs) (cB:vs.length<64)
 (h:∀ out:Array Value,out.toList.Perm vs->rV P s.heap out.toList->R (.done (.ret .none)) { s with heap:=sortedHeap s.heap a vs out }):wpAny (model prog w) A (Builtin.«list.sort» ⟨[.ref a],[]⟩) R E s:=by
 rw[list_sort_plain];have la:a<s.heap.objs.size:=aZ ho;refine af (qr ho rfl (af (xA ho rfl ?_)));obtain⟨k,Vl⟩:∃ k,(s.heap.update a (Obj.mapSeq λ_=>#[])).get? a=some (seqObj "list" #[] k):=⟨_,SG ho (λ_=>#[])⟩;refine af (EU Vl rfl (af (El (af (xb (kh ?_))))));generalize eh:((s.heap.update a (Obj.mapSeq λ_=>#[])).push (seqObj "tuple" vs.toArray 0)).push (seqObj "list" #[] 0)=h6;have up:∀ v ns,P s.heap v ns->P h6 v ns:=λv ns p=>eh▸KQ.push (KQ.push (KQ.upd p ho _) _) _;have yO:h6.get? a=some (seqObj "list" #[] k):=by
  rw[<-eh];exact aL _ (aL _ Vl)
 have fin:∀ out:Array Value,out.toList.Perm vs->rV P s.heap out.toList->R (.done (.ret .none)) { s with heap:=h6.update a (Obj.mapSeq λ_=>out) }:=λout p q=>by
  rw[<-eh];exact h out p q
 show wpAny (model prog w) A _ R E { s with heap:=h6 };dsimp only;have big:vs.length<=sizeLine+1:=by rw[ba];omega
 by_cases h2:vs.toArray.size<2
 ·rw[if_pos h2,if_pos h2];refine af (ai ?_);rw[StateT.run_pure];refine af (ai ?_);dsimp only;have em:(Array.map (λx=>x.2) (vs.toArray.zip vs.toArray))=vs.toArray:=by
   apply Array.toList_inj.mp;simp[Q6]
  rw[em];refine af (EU yO rfl (af (xA yO rfl ?_ (hsz2:=by rw[bc];exact big))));rw[bne_self_eq_false];refine ai (fin vs.toArray (List.Perm.refl _) ?_);rw[bc]at h2;unfold rV;match vs,h2 with
  |[],_=>exact List.Pairwise.nil
  |[x],_=>exact List.pairwise_singleton _ _
 ·rw[if_neg h2,if_neg h2];rw[bc]at h2;have ne:vs≠[]:=λe=>by rw[e]at h2;simp at h2
  have H6:∀ v∈vs,∃ ns,P h6 v ns:=λv m=>let ⟨ns,p⟩:=H v m;⟨ns,up v ns p⟩
  refine af ((S ne A h6 hU up).1 ?_);refine af (eE (runs (s:={ s with heap:=h6 }) (κ:=qK P h6) (kd:=tuples' true) (b:=pairsOf vs) (z:=SortSt.mk' (tuples' true) (vs.toArray.zip vs.toArray) #[] 7 none)
   (Q:=λ_ y=>(arrOf y).Perm (pairsOf vs) /\ failedOf y=none /\ Up (qK P h6) y (pairsOf vs).size) ((S ne A h6 hU up).2 _) ⟨Array.Perm.refl _,rfl,rfl,rfl⟩ (by rw[EV];omega) (by rw[EV];exact cB) λy a1 a2 a3=>⟨a1,a2,a3⟩) ?_ λ_ _ e=>e)
  rintro⟨⟨⟩,y⟩ s' ⟨es,pm,fl,u⟩;subst es;dsimp only;obtain⟨o1,o2⟩:=GO KQ H up pm u;refine af (EU yO rfl (af (xA yO rfl ?_ (hsz2:=by rw[Array.size_map,pm.size_eq,EV];exact big))));rw[fl,bne_self_eq_false];exact ai (fin _ o1 o2)
theorem Aw {l:Addr}(hl:s.heap.IsList l vs.toArray) (H:∀ v∈vs,∃ ns,P s.heap v ns) {U:Nat}(hU:A.units+8<=U) (S:vs≠[]->yN P prog w U s vs) (cB:vs.length<64)
 (h:∀ out:Array Value,out.toList.Perm vs->rV P s.heap out.toList->Q (.ref (s.heap.objs.size+1)) { s with heap:=sortedAll s.heap vs out }):wpAny (model prog w) A (call (.builtin "sorted") [.ref l]) Q E s:=by
 refine S5 SH SI SJ (SK _) ?_;unfold Builtin.«sorted»;refine af (m:=checkCount "sorted" 1 1 _) (ai (af (collect_list hl (af (xb ?_)))));generalize eg:(s.heap.push (seqObj "list" #[] 0)).update s.heap.objs.size (Obj.mapSeq (·++vs.toArray))=g;have sg:g.objs.size=s.heap.objs.size+1:=by rw[<-eg,Sv,size_push']
 have up:∀ v ns,P s.heap v ns->P (g.push (seqObj "list" vs.toArray 0)) v ns:=λv ns p=>by
  rw[<-eg];exact KQ.push (KQ.upd (KQ.push p _) (bR _ rfl) _) _
 have dn:∀ v ns,v∈vs->P (g.push (seqObj "list" vs.toArray 0)) v ns->P s.heap v ns:=λv ns m p=>by
  obtain⟨ms,q⟩:=H v m;rw[KQ.inj p (up v ms q)];exact q
 have gl:(g.push (seqObj "list" vs.toArray 0)).get? (s.heap.objs.size+1)=some (seqObj "list" vs.toArray 0):=by rw[<-sg];exact bR _ rfl
 show wpAny _ _ _ _ _ { s with heap:=g.push (seqObj "list" vs.toArray 0) };rw[sg];refine af (kh (nP SM ⟨_,gl,rfl⟩ SN (LY KQ (s:={ s with heap:=g.push (seqObj "list" vs.toArray 0) }) gl (λv m=>let ⟨ns,p⟩:=H v m;⟨ns,up v ns p⟩) (U:=U) (show A.units+1+1<=U by omega) (λne A h2 hu k=>S ne A h2 hu λv ns p=>k v ns (up v ns p)) cB λout o1 o2=>⟨_,rfl,ai ⟨_,rfl,?_⟩⟩) (SQ _)));have:=h out o1 (List.Pairwise.imp (λ{x y} r ns ms p q=>r ns ms (up _ _ p) (up _ _ q)) o2);unfold sortedAll at this;rw[eg]at this;exact this
omit KQ
theorem tupP:KP bU:=⟨bU.inj,bU.push,λp _ _ _ hl f=>bU.upd p hl f⟩
theorem Fv {U:Nat}(H:∀ v∈vs,∃ ns,bU s.heap v ns) (ne:vs≠[]):yN bU prog w U s vs:=λA h' _ up=>⟨λh=>GN (s:={ s with heap:=h' }) ne (λv m=>let ⟨ns,p⟩:=H v m;⟨ns,up v ns p⟩) h,λE=>LX (s:={ s with heap:=h' }) (λv m=>let ⟨ns,p⟩:=H v m;⟨ns,up v ns p⟩) true⟩
end
end HT
namespace L2.DL
def wG (K:PySem.W.Frag) (vs:List V) (H:Hp) (Q:VK):Prop:=∃ (p:Addr) (rs:List Addr) (key:Addr->List Int),vs=[.ref p] /\ bz K H p (rs.map V.ref) /\ (∀ r∈rs,H r=some (.tup ((key r).map V.int)) /\ key r≠[]) /\ rs.length<64 /\
 ∀ (l:Addr) (hV:List Addr),H l=none->hV.Perm rs->hV.Pairwise (λa b=>HT.lexLt (key b) (key a)=false)->Q (.ref l) (upd H l (.lst (hV.map V.ref)))
theorem oo:∀ {rs:List Addr}{us:List Value},Vals (rs.map V.ref) us->us=rs.map Value.ref
 |[],_,.nil=>rfl
 | r::rs,_,.cons q t=>by
   cases q;rw[oo t];rfl
noncomputable def Iz:Value->Addr
 |.ref a=>a
 |_=>0
theorem Fw {rs:List Addr}(p:us.Perm (rs.map Value.ref)):∃ hV:List Addr,us=hV.map Value.ref /\ hV.Perm rs:=by
 refine⟨us.map Iz,?_,?_⟩
 ·rw[bQ];refine(vv us).symm.trans (pJ λu hu=>?_);obtain⟨r,_,rfl⟩:=bV.mp (p.mem_iff.mp hu);rfl
 ·have:=p.map Iz;rw[bQ]at this;exact this.trans (by rw[show (Iz∘Value.ref)=id from rfl,vv])
theorem iP:∀ (rs:List Addr),Vals (rs.map V.ref) (rs.map Value.ref)
 |[]=>.nil
 |r::rs=>.cons rfl (iP rs)
theorem Cz:cU X (.builtin "sorted") (wG X.K):=by
 intro pins s σ H xs us Q I rv h;obtain⟨p,rs,key,rfl,hp,hk,cB,q⟩:=h;obtain⟨u,rfl,ru⟩:=Vals.one rv;cases ru;obtain⟨its,r1,p1,z1⟩:=I.list hp;have ei:=oo r1;subst ei;have tup:∀ r∈rs,HT.bU s.heap (.ref r) (key r):=λr m=>by
  obtain⟨ys,v1,v2,_⟩:=I.tuple (.of (hk r m).1);exact⟨r,ys,rfl,v2,gR v1,(hk r m).2⟩
 have HH:∀ v∈rs.map Value.ref,∃ ns,HT.bU s.heap v ns:=λv m=>by
  obtain⟨r,mr,rfl⟩:=bV.mp m;exact⟨_,tup r mr⟩
 refine HT.Aw HT.tupP p1.isList HH (U:=X.A.units+8) (ao _) (λne=>HT.Fv HH ne) (by rw[aR];exact cB) λout o1 o2=>?_;obtain⟨hV,e1,e2⟩:=Fw o1;obtain⟨k,he⟩:=EN s.heap (rs.map Value.ref) out;have hf:H (s.heap.objs.size+1)=none:=I.aj.fresh (pH _);have ll:(hV.map V.ref).length<=sizeLine:=by
  rw[aR,e2.length_eq];exact bP (k8 cB) (by decide)
 have ord:hV.Pairwise (λa b=>HT.lexLt (key b) (key a)=false):=by
  unfold HT.rV at o2;rw[e1,nS]at o2;refine TB (λ{a b} ma mb r=>?_) o2;exact r _ _ (tup a (e2.mem_iff.mp ma)) (tup b (e2.mem_iff.mp mb))
 refine⟨.ref (s.heap.objs.size+1),_,I.laid (t':=s.toks) (o:=.lst (hV.map V.ref)) (λb ob q=>EO q) (pH _) ?_,rfl,q _ hV hf e2 ord⟩;exact⟨ll,out.toList,k,e1▸iP hV,he⟩
def rW:List D->Option (List (List Int))
 |[]=>some []
 |.tup t::l=>(intsOf t).bind λns=>if ns.isEmpty then none else (rW l).map λr=>ns::r
 |_=>none
def pZ (ns:List (List Int)):List (List Int):=ns.mergeSort λa b=>!HT.lexLt b a
theorem CA (ns:List (List Int)):(pZ ns).Perm ns:=xq ns _
theorem lL (ns:List (List Int)):(pZ ns).Pairwise (λa b=>HT.lexLt b a=false):=by
 have h:=ED (le:=λa b:List Int=>!HT.lexLt b a) (λa b c h1 h2=>by
  simp only[nQ]at *;cases e:HT.lexLt c a with
  |false=>rfl
  |true=>rcases HT.jN c b a e with q|q<;>simp_all) (λa b=>by
  cases e:HT.lexLt b a with
  |false=>simp
  | true =>
    cases f:HT.lexLt a b with
    |false=>simp
    |true=>have:=HT.iO a b a f e;rw[HT.gT]at this;cases this) ns
 exact h.imp λq=>by simpa using q
theorem CB {a b:List (List Int)}(p:a.Perm b) (ha:a.Pairwise (λa b=>HT.lexLt b a=false)) (hb:b.Pairwise (λa b=>HT.lexLt b a=false)):a=b :=
 p.eq_of_pairwise (λx y _ _ h1 h2=>HT.gm x y h2 h1) ha hb
noncomputable def yP (ns:List (List Int)):List D:=ns.map λt=>D.tup (t.map D.int)
def qL:List D->Option Res:=λxs=>match rN xs with
 |some r=>some r
 | none=>match xs with
   |[.lst l]=>(rW l).bind λns=>if ns.length<64 then some (.lst (yP (pZ ns))) else none
   |_=>none
noncomputable def p0 (F:Hp) (a:Addr):List Int:=match F a with
 |some (.tup vs)=>vs.filterMap λv=>match v with|.int i=>some i|_=>none
 |_=>[]
theorem LZ (h:F a=some (.tup (ns.map V.int))):p0 F a=ns:=by
 simp only[p0,h,vq];exact(Q2 (f:=id)▸vv ns:List.filterMap (some∘id) ns=ns)
theorem BJ {F:Hp}:∀ {l:List D}{vs:List V}{ns:List (List Int)},ax F l vs->rW l=some ns->∃ rs:List Addr,vs=rs.map V.ref /\ ns=rs.map (p0 F) /\ ∀ r∈rs,F r=some (.tup ((p0 F r).map V.int)) /\ p0 F r≠[]
 | [],vs,ns,h,e=>by
   cases e;exact⟨[],h,rfl,λr m=>by cases m⟩
 | .tup t::l,vs,ns,h,e=>by
   obtain⟨v,us,rfl,⟨a,ws,rfl,f1,f2⟩,h2⟩:=h;simp only[rW]at e;cases e1:intsOf t with
   |none=>rw[e1]at e;cases e
   | some ms =>
     rw[e1]at e;simp only[bD]at e;split at e
     ·cases e
     rename_i ne;cases e2:rW l with
     |none=>rw[e2]at e;cases e
     | some ks =>
       rw[e2]at e;cases e;obtain⟨rs,q1,q2,q3⟩:=BJ h2 e2;have fa:=f2.ints e1;subst fa;have ka:=LZ f1;refine⟨a::rs,by rw[q1];rfl,by rw[q2,aG,ka],λr m=>?_⟩;rcases bG.mp m with rfl|m
       ·rw[ka];exact⟨f1,λz=>ne (by rw[z];rfl)⟩
       ·exact q3 r m
 |.non::_,_,_,_,e=>by cases e
 |.bl _::_,_,_,_,e=>by cases e
 |.int _::_,_,_,_,e=>by cases e
 |.str _::_,_,_,_,e=>by cases e
 |.lst _::_,_,_,_,e=>by cases e
 |.ak _::_,_,_,_,e=>by cases e
theorem BK {F:Hp}:∀ (rs:List Addr),(∀ r∈rs,F r=some (.tup ((p0 F r).map V.int)))->ax F (yP (rs.map (p0 F))) (rs.map V.ref)
 |[],_=>rfl
 |r::rs,h=>.cons ⟨r,_,rfl,h r (bL ..),lH _⟩ (BK rs λq m=>h q (bC _ m))
theorem BM:cU X (.builtin "sorted") (λvs H Q=>uN X.K vs H Q \/ wG X.K vs H Q):=by
 intro pins s σ H xs us Q I rv h;rcases h with h|h
 ·exact Fl pins s σ H xs us Q I rv h
 ·exact Cz pins s σ H xs us Q I rv h
theorem YZ:eO (λvs H Q=>uN K vs H Q \/ wG K vs H Q) qL:=by
 intro F H xs vs Q s sub rx e k;unfold qL at e;cases er:rN xs with
 | some r =>
   rw[er]at e;cases e;exact .inl (Ys F H xs vs Q s sub rx er k)
 | none =>
   rw[er]at e;dsimp only at e;clear er;split at e
   ·rename_i l;obtain⟨v,t,rfl,⟨a,us,rfl,h1,h2⟩,rt⟩:=rx;cases (show t=[] from rt);cases e1:rW l with
    |none=>rw[e1]at e;cases e
    | some ns =>
      rw[e1]at e;simp only[bD]at e;split at e
      ·rename_i cB;cases e;obtain⟨rs,q1,q2,q3⟩:=BJ h2 e1;subst q1;refine .inr ⟨a,rs,p0 F,rfl,.of h1,λr m=>⟨sub _ _ (q3 r m).1,(q3 r m).2⟩,by rw[q2,aR]at cB;exact cB,λl hV hl pm ord=>k _ _ ⟨l,_,rfl,hl,rfl,?_⟩⟩;have:hV.map (p0 F)=pZ ns:=CB ((pm.map (p0 F)).trans (by rw[<-q2];exact(CA ns).symm)) (nS.mpr ord) (lL ns);rw[<-this];exact BK hV λr m=>(q3 r (pm.mem_iff.mp m)).1
      ·cases e
   ·cases e
end L2.DL
namespace HT
inductive ay where
 |i (n:Int)|s (x:Str)|t (ns:List Int)
 deriving DecidableEq
noncomputable def ay.code:ay->List Int
 |.i n=>[n]
 |.s x=>x.cps.toList.map (λ(c:Nat)=>(c:Int)+1)++[0]
 |.t ns=>ns.flatMap (λn=>[1,n])++[0]
noncomputable def ay.like:ay->ay->Bool
 |.i _,.i _=>true
 |.s _,.s _=>true
 |.t _,.t _=>true
 |_,_=>false
def aE (l:List ay):List Int:=l.flatMap (λd=>1::d.code)++[0]
def c7 (l m:List ay):Bool:=(l.zip m).all λp=>p.1.like p.2
theorem BN (r q:List Int):∀ (a b:List Nat),a≠b->lexLt ((a.map λ(c:Nat)=>(c:Int)+1)++[0]++r) ((b.map λ(c:Nat)=>(c:Int)+1)++[0]++q)=decide (a<b)
 |[],[],h=>absurd rfl h
 | [],y::b,_=>by
   show lexLt (0::_) (((y:Int)+1)::_)=_;rw[fI,if_neg (by omega),decide_eq_true (by omega),decide_eq_true (by simp)]
 | x::a,[],_=>by
   show lexLt (((x:Int)+1)::_) (0::_)=_;rw[fI,if_neg (by omega),decide_eq_false (by omega),decide_eq_false (by simp)]
 | x::a,y::b,h=>by
   show lexLt (((x:Int)+1)::_) (((y:Int)+1)::_)=_;rw[fI];by_cases e:x=y
   ·subst e;rw[if_pos rfl];have ih:=BN r q a b (λz=>h (by rw[z]));refine ih.trans ?_;by_cases c:a<b
    ·rw[decide_eq_true c,decide_eq_true (by simpa using c)]
    ·rw[decide_eq_false c,decide_eq_false (by simpa using c)]
   ·rw[if_neg (by omega)];by_cases c:x<y
    ·rw[decide_eq_true (by omega),decide_eq_true (List.cons_lt_cons_iff.mpr (.inl c))]
    ·rw[decide_eq_false (by omega),decide_eq_false ?_];intro z;rcases List.cons_lt_cons_iff.mp z with z|z
     ·omega
     ·omega
theorem BO (r q:List Int):∀ (a b:List Int),a≠b->lexLt (a.flatMap (λn=>[1,n])++[0]++r) (b.flatMap (λn=>[1,n])++[0]++q)=lexLt a b
 |[],[],h=>absurd rfl h
 | [],y::b,_=>by
   show lexLt (0::_) (1::_)=_;rw[fI,if_neg (by omega)];rfl
 | x::a,[],_=>by
   show lexLt (1::_) (0::_)=_;rw[fI,if_neg (by omega)];rfl
 | x::a,y::b,h=>by
   show lexLt (1::x::(a.flatMap (λn=>[1,n])++[0]++r)) (1::y::(b.flatMap (λn=>[1,n])++[0]++q))=_;rw[fI,if_pos rfl,fI,fI];by_cases e:x=y
   ·subst e;rw[if_pos rfl,if_pos rfl];exact BO r q a b λz=>h (by rw[z])
   ·rw[if_neg e,if_neg e]
def ay.lt:ay->ay->Bool
 |.i n,.i m=>decide (n<m)
 |.s x,.s y=>decide (x.cps.toList<y.cps.toList)
 |.t n,.t m=>lexLt n m
 |_,_=>false
theorem ay.app (r q:List Int):∀ {a b:ay},a.like b=true->a≠b->lexLt (a.code++r) (b.code++q)=a.lt b
 | .i n,.i m,_,h=>by
   show lexLt (n::r) (m::q)=_;rw[fI,if_neg (λz=>h (by rw[z]))];rfl
 |.s x,.s y,_,h=>BN r q _ _ λz=>h (by
  obtain⟨⟨a⟩⟩:=x;obtain⟨⟨b⟩⟩:=y;have z':a=b:=z;rw[z'])
 |.t n,.t m,_,h=>BO r q n m λz=>h (by rw[z])
theorem GP (a r q:List Int):lexLt (a++r) (a++q)=lexLt r q:=by
 induction a with
 |nil=>rfl
 |cons x a ih=>rw[Ey,Ey,fI,if_pos rfl,ih]
def bS:List ay->List ay->Bool
 |[],m=>!m.isEmpty
 |_::_,[]=>false
 |a::l,b::m=>if a=b then bS l m else a.lt b
theorem AS:∀ (l m:List ay),c7 l m=true->lexLt (aE l) (aE m)=bS l m
 |[],[],_=>rfl
 | [],b::m,_=>by
   show lexLt (0::[]) (1::_)=_;rw[fI,if_neg (by omega)];rfl
 | a::l,[],_=>by
   show lexLt (1::_) (0::[])=_;rw[fI,if_neg (by omega)];rfl
 | a::l,b::m,h=>by
   have h':(a.like b&&c7 l m)=true:=h;rw[aB]at h';have e1:aE (a::l)=1::(a.code++aE l):=by simp[aE]
   have e2:aE (b::m)=1::(b.code++aE m):=by simp[aE]
   rw[e1,e2,fI,if_pos rfl];unfold bS;by_cases c:a=b
   ·rw[if_pos c,c,GP];exact AS l m h'.2
   ·rw[if_neg c];exact ay.app _ _ h'.1 c
noncomputable def eQ (h:Heap) (v:Value):ay->Prop
 |.i n=>∃ t,v=.int n t
 |.s x=>∃ t,v=.str x t
 |.t ns=>∃ a vs,v=.ref a /\ IsTup h a vs.toArray /\ IntsAre vs ns
inductive cZ (h:Heap):List Value->List ay->Prop
 |nil:cZ h [] []
 |cons {v:Value}{d:ay}{vs:List Value}{l:List ay}:eQ h v d->cZ h vs l->cZ h (v::vs) (d::l)
def qM (L:List (List ay)) (h:Heap) (v:Value) (ns:List Int):Prop:=∃ a vs n l,v=.ref a /\ IsTup h a vs.toArray /\ cZ h vs (.i n::l) /\ .i n::l∈L /\ ns=aE (.i n::l)
theorem eQ.inj {v:Value}:∀ {a b:ay},eQ h v a->eQ h v b->a=b
 |.i n,.i m,⟨t,e⟩,⟨u,f⟩=>by rw[e]at f;cases f;rfl
 |.s n,.s m,⟨t,e⟩,⟨u,f⟩=>by rw[e]at f;cases f;rfl
 | .t n,.t m,⟨a,vs,e,⟨o,e1,_,k,e2⟩,i1⟩,⟨a',qC,f,⟨o',f1,_,k',f2⟩,i2⟩=>by
   rw[e]at f;cases f;rw[e1]at f1;cases f1;rw[e2]at f2;injection f2 with g _;have:vs=qC:=by simpa using g
   subst this;rw[jz i1 i2]
 |.i n,.s m,⟨t,e⟩,⟨u,f⟩=>by rw[e]at f;cases f
 |.s n,.i m,⟨t,e⟩,⟨u,f⟩=>by rw[e]at f;cases f
 |.i n,.t m,⟨t,e⟩,⟨_,_,f,_⟩=>by rw[e]at f;cases f
 |.s n,.t m,⟨t,e⟩,⟨_,_,f,_⟩=>by rw[e]at f;cases f
 |.t n,.i m,⟨_,_,e,_⟩,⟨u,f⟩=>by rw[e]at f;cases f
 |.t n,.s m,⟨_,_,e,_⟩,⟨u,f⟩=>by rw[e]at f;cases f
theorem cZ.inj {h:Heap}{vs:List Value}{l m:List ay}(p:cZ h vs l) (q:cZ h vs m):l=m:=by
 induction p generalizing m with
 |nil=>cases q;rfl
 |cons a _ ih=>cases q with|cons b q=>rw[a.inj b,ih q]
theorem eQ.keep {v:Value}{d:ay}(p:eQ h v d) (k:∀ a vs,IsTup h a vs->IsTup h' a vs):eQ h' v d:=by
 cases d with
 |i n=>exact p
 |s x=>exact p
 |t ns=>obtain⟨a,vs,e,t,i⟩:=p;exact⟨a,vs,e,k _ _ t,i⟩
theorem cZ.keep {h h':Heap}{vs:List Value}{l:List ay}(p:cZ h vs l) (k:∀ a vs,IsTup h a vs->IsTup h' a vs):cZ h' vs l:=by
 induction p with
 |nil=>exact .nil
 |cons a _ ih=>exact .cons (a.keep k) ih
theorem BP (o:Obj):∀ a vs,IsTup h a vs->IsTup (h.push o) a vs:=λa vs ⟨u,e1,e2⟩=>⟨u,aL _ e1,e2⟩
theorem Df {l:Addr}{xs:Array Value}(hl:h.get? l=some (seqObj "list" xs n)) (f:Obj->Obj):∀ a vs,IsTup h a vs->IsTup (h.update l f) a vs:=λa vs ⟨u,e1,e2,e3⟩=>by
 refine⟨u,?_,e2,e3⟩;by_cases q:l=a
 ·subst q;rw[hl]at e1;cases e1;injection (show Value.type "list"=Value.type "tuple" from e2) with e4;exact absurd e4 (by decide)
 ·rw[Sw _ _ _ _ (Ne.symm q)];exact e1
theorem a9 (L:List (List ay)):KP (qM L) where
 inj:=by
  rintro h v ns ms ⟨a,vs,n,l,rfl,⟨o,e1,_,k,e2⟩,i1,_,rfl⟩ ⟨a',qC,n',l',e,⟨o',f1,_,k',f2⟩,i2,_,rfl⟩;cases e;rw[e1]at f1;cases f1;rw[e2]at f2;injection f2 with g _;have:vs=qC:=by simpa using g
  subst this;rw[i1.inj i2]
 push:=λ⟨a,vs,n,l,e,t,i,m,c⟩ o=>⟨a,vs,n,l,e,BP o _ _ t,i.keep (BP o),m,c⟩
 upd:=λ⟨a,vs,n,l,e,t,i,m,c⟩ _ _ _ hl f=>⟨a,vs,n,l,e,Df hl f _ _ t,i.keep (Df hl f),m,c⟩
theorem j5:∀ {vs:List Value}{ns:List Int},IntsAre vs ns->ItemsAre (intKind prog w) ns vs
 |_,_,.nil=>.nil
 |_,_,.cons n t h=>.cons (intKind_is _ _ _ _) (j5 h)
theorem Rh {v:Value}{a b:ay}(hu:A.units<cLine) (p:eQ s.heap v a) (q:eQ s.heap u b) (hl:a.like b=true) {Q:Bool->Shared->Prop}(h:Q (decide (a=b)) s):wpAny (model prog w) A (eqBool v u) Q E s:=by
 cases a with
 | i n =>
   cases b with
   | i m =>
     obtain⟨t,rfl⟩:=p;obtain⟨t',rfl⟩:=q;refine zZ ?_;rw[show (n==m)=decide (ay.i n=ay.i m) by by_cases e:n=m<;>simp[e]];exact h
   |_=>cases hl
 | s x =>
   cases b with
   | s y =>
     obtain⟨t,rfl⟩:=p;obtain⟨t',rfl⟩:=q;refine EY x t y t' prog w E Q ?_;rw[show (x==y)=decide (ay.s x=ay.s y) by by_cases e:x=y<;>simp[e]];exact h
   |_=>cases hl
 | t ns =>
   cases b with
   | t ms =>
     obtain⟨a,vs,rfl,t1,i1⟩:=p;obtain⟨a',us,rfl,t2,i2⟩:=q;obtain⟨o1,x1,x2,k1,x3⟩:=t1;obtain⟨o2,y1,y2,k2,y3⟩:=t2;refine wpAny_eqBool_tuple (knd:=intKind prog w) (x:=ns) (y:=ms) hu ⟨o1,_,k1,x1,x2,x3,j5 i1⟩ ⟨o2,_,k2,y1,y2,y3,j5 i2⟩ ?_;rw[show decide (ns=ms)=decide (ay.t ns=ay.t ms) by by_cases e:ns=ms<;>simp[e]];exact h
   |_=>cases hl
theorem Ri {v:Value}{a b:ay}(hu:A.units<cLine) (k:Bool) (hk:k=true->∃ n,a=.i n) (p:eQ s.heap v a) (q:eQ s.heap u b) (hl:a.like b=true) {Q:Bool->Shared->Prop}(h:Q (a.lt b) s):wpAny (model prog w) A (oneLt' k v u) Q E s:=by
 have gen:∀ {v u:Value}{c:Bool},k=false->(∀ {R:Value->Shared->Prop},R (.bool c) s->wpAny (model prog w) A (compareOp .Lt v u) R E s)->Q c s->wpAny (model prog w) A (oneLt' k v u) Q E s:=λ{v u c} z f h=>by
  rw[oneLt'_eq,z,if_neg (by simp)];exact af (show wpAny (model prog w) A (richCompare .Lt v u) _ E s from f (p8 h))
 cases a with
 | i n =>
   cases b with
   |i m=>obtain⟨t,rfl⟩:=p;obtain⟨t',rfl⟩:=q;exact oj k h
   |_=>cases hl
 | s x =>
   have z:k=false:=by cases k with|true=>obtain⟨n,e⟩:=hk rfl;cases e|false=>rfl
   cases b with
   |s y=>obtain⟨t,rfl⟩:=p;obtain⟨t',rfl⟩:=q;exact gen z (λr=>lt_str r) h
   |_=>cases hl
 | t ns =>
   have z:k=false:=by cases k with|true=>obtain⟨n,e⟩:=hk rfl;cases e|false=>rfl
   cases b with
   | t ms =>
     obtain⟨a,vs,rfl,t1,i1⟩:=p;obtain⟨a',us,rfl,t2,i2⟩:=q;exact gen z (λr=>mV t1 t2 (by simpa using i1) (by simpa using i2) hu r) h
   |_=>cases hl
theorem cZ.length {h:Heap}{vs:List Value}{l:List ay}(p:cZ h vs l):vs.length=l.length:=by
 induction p with
 |nil=>rfl
 |cons _ _ ih=>rw[bb,bb,ih]
theorem L0 (hu:A.units<cLine) {l m:List ay}(p:cZ s.heap vs l) (q:cZ s.heap us m) (hl:c7 l m=true) (i:Nat) (h0:i=0->∀ d r,l=d::r->∃ n,d=.i n) {R:(Option Bool×PUnit)->Shared->Prop}
 (k:∀ r,(r=(some (bS l m),PUnit.unit) \/ (r=(none,PUnit.unit) /\ bS l m=decide (vs.length<us.length)))->R r s) :
 wpAny (model prog w) A (forIn ((vs.zip us).zipIdx i) ((none,PUnit.unit):Option Bool×PUnit) λ(z:(Value×Value)×Nat) _=>(do
  let z1 <-eqBool z.1.1 z.1.2
  if (!z1)=true then do
   let r <-oneLt' (true&&z.2==0) z.1.1 z.1.2
   pure (ForInStep.done (some r,PUnit.unit))
  else pure (ForInStep.yield (none,PUnit.unit)))) R E s:=by
 induction p generalizing us m i with
 | nil =>
   rw[vp,uj,qj];refine ai (k _ (.inr ⟨rfl,?_⟩));cases q with
   |nil=>rfl
   |cons _ q=>unfold bS;simp
 | @cons v d vs l pa p ih =>
   cases q with
   | nil =>
     rw[xm,uj,qj];exact ai (k _ (.inr ⟨rfl,by unfold bS;simp⟩))
   | @cons u e us m qa q =>
     have dJ:(d.like e&&c7 l m)=true:=hl;rw[aB]at dJ;rw[ng,xt,sv];refine af (af (Rh hu pa qa dJ.1 ?_));by_cases c:d=e
     ·subst c;rw[if_neg (by simp)];refine ai (ih q dJ.2 (i+1) (λz=>by omega) λr hr=>k r ?_);have:bS (d::l) (d::m)=bS l m:=by conv=>lhs;unfold bS;rw[if_pos rfl]
      rw[this];rcases hr with hr|⟨hr,Iy⟩
      ·exact .inl hr
      ·exact .inr ⟨hr,by rw[Iy];simp⟩
     ·rw[if_pos (by simp[c])];refine af (Ri hu _ (λz=>?_) pa qa dJ.1 (ai (ai (k _ (.inl ?_)))))
      ·have:i=0:=by simpa using z
       exact h0 this d l rfl
      ·have:bS (d::l) (e::m)=d.lt e:=by conv=>lhs;unfold bS;rw[if_neg c]
       rw[this]
theorem Fx {L:List (List ay)}(C:∀ l∈L,∀ m∈L,c7 l m=true) {U:Nat}(hU:U<cLine) (H:∀ v∈vs,∃ ns,qM L s.heap v ns) (ne:vs≠[]):yN (qM L) prog w U s vs:=λA h' hu up=>by
 have H':∀ v∈vs,∃ ns,qM L h' v ns:=λv m=>let ⟨ns,p⟩:=H v m;⟨ns,up v ns p⟩
 refine⟨λ{Q E} h=>?_,λE=>?_⟩
 ·have firsts:∀ (us:List Value),(∀ v∈us,∃ ns,qM L h' v ns)->∀ {Q:List (Option Value)->Shared->Prop}{E:Value->Shared->Prop},(∀ (ws:List Value) (is:List Int),ws.length=us.length->IntsAre ws is->Q (ws.map some) { s with heap:=h' })->wpAny (model prog w) A (us.mapM firstOfTuple') Q E { s with heap:=h' }:=by
   intro us;induction us with
   |nil=>intro _ Q E k;rw[Q4];exact ai (k [] [] rfl .nil)
   | cons u us ih =>
     intro G Q E k;obtain⟨ns,a,xs,n,l,rfl,⟨o,e1,e3,c,e2⟩,it,_,_⟩:=G u (bL ..);rw[Q5];refine af (show wpAny (model prog w) A (do
      if (<-typeOf (.ref a)) != .type "tuple" then return none
      return (<-Builtin.List.listItems (.ref a))[0]?) _ E _ from ?_)
     refine af (ue (T:="tuple") ⟨o,e1,e3⟩ ?_);rw[if_neg (by decide)];refine af (qr e1 e2 (ai ?_));cases it with
     | cons hv _ =>
       obtain⟨t,rfl⟩:=hv;exact af (ih (λv m=>G v (bC _ m)) λws is e q=>ai (k (.int n t::ws) (n::is) (by simp[e]) (.cons n t q)))
  rw[SR,xu];refine af (show wpAny (model prog w) A (List.toArray <$> vs.mapM firstOfTuple') _ E _ from ?_);rw[<-bind_pure_comp];refine af (firsts vs H' λus is e k=>ai ?_);rw[if_pos (by simp)];refine af (pG ?_);have e1:((us.map some).toArray.filterMap id)=us.toArray:=by simp[vq]
  rw[e1,SS,xu,SU k];cases us with
  |nil=>exact absurd (xw e.symm) ne
  | cons u us =>
    simp only[map_pure,pure_bind];rw[show ((u::us).map λ_=>Value.type "int").toArray[0]?=some (Value.type "int") by simp];dsimp only;rw[if_pos (by simp)];exact af (ai (ai h))
 ·intro x y mx my Q E' q;rw[ET]at mx my;obtain⟨ns,hx⟩:=H' _ (vC mx).2;obtain⟨ms,hy⟩:=H' _ (vC my).2;have k1:=mL (a9 L) hx;have k2:=mL (a9 L) hy
  change Q (lexLt (((qK (qM L) h').keyOf x.1).getD []) (((qK (qM L) h').keyOf y.1).getD [])) _ at q
  rw[k1,k2]at q;obtain⟨a,aaW,n1,l1,e1,⟨o1,x1,x2,c1,x3⟩,i1,m1,rfl⟩:=hx;obtain⟨b,wb,n2,l2,e2,⟨o2,y1,y2,c2,y3⟩,i2,m2,rfl⟩:=hy;have lk:=C _ m1 _ m2;rw[AS _ _ lk]at q;rw[e1,e2,lK];refine af (qr x1 x3 (af (qr y1 y3 ?_)));refine af (L0 (s:={ s with heap:=h' }) (xi hu hU) i1 i2 lk 0 (λ_ d r z=>by cases z;exact⟨n1,rfl⟩) λr hr=>?_);rcases hr with rfl|⟨rfl,e⟩
  ·exact ai q
  ·refine ai ?_;rw[bc,bc,<-e];exact q
end HT
namespace L2.DL
open HT (ay aE c7 lexLt)
def IC:D->Option ay
 |.int i=>some (.i i)
 |.str x=>some (.s x)
 |.tup l=>(intsOf l).map .t
 |_=>none
noncomputable def dD:ay->D
 |.i n=>.int n
 |.s x=>.str x
 |.t ns=>.tup (ns.map D.int)
def qN:List D->Option (List ay)
 |[]=>some []
 |d::l=>(IC d).bind λa=>(qN l).map λr=>a::r
def rowOf:D->Option (List ay)
 |.tup (.int i::l)=>(qN l).map λr=>.i i::r
 |_=>none
def rowsOf:List D->Option (List (List ay))
 |[]=>some []
 |d::l=>(rowOf d).bind λa=>(rowsOf l).map λr=>a::r
def cC (l:List ay):D:=.tup (l.map dD)
theorem Ax:∀ {l:List D}{ns:List Int},intsOf l=some ns->l=ns.map D.int
 |[],_,e=>by cases e;rfl
 | .int i::l,ns,e=>by
   unfold intsOf at e;cases q:intsOf l with
   |none=>rw[q]at e;cases e
   |some ms=>rw[q]at e;cases e;rw[Ax q];rfl
 |.non::_,_,e=>by cases e
 |.bl _::_,_,e=>by cases e
 |.str _::_,_,e=>by cases e
 |.tup _::_,_,e=>by cases e
 |.lst _::_,_,e=>by cases e
 |.ak _::_,_,e=>by cases e
theorem L4 {d:D}{a:ay}(e:IC d=some a):d=dD a:=by
 cases d with
 |int i=>cases e;rfl
 |str x=>cases e;rfl
 | tup l =>
   have e:(intsOf l).map ay.t=some a:=e;cases q:intsOf l with
   |none=>rw[q]at e;cases e
   |some ms=>rw[q]at e;cases e;rw[Ax q];rfl
 |_=>cases e
theorem lM:∀ {l:List D}{r:List ay},qN l=some r->l=r.map dD
 |[],_,e=>by cases e;rfl
 | d::l,r,e=>by
   unfold qN at e;cases q:IC d with
   |none=>rw[q]at e;cases e
   | some a =>
     cases q2:qN l with
     |none=>rw[q,q2]at e;cases e
     |some t=>rw[q,q2]at e;cases e;rw[L4 q,lM q2];rfl
theorem GQ {d:D}{r:List ay}(e:rowOf d=some r):d=cC r /\ ∃ n l,r=.i n::l:=by
 unfold rowOf at e;split at e
 ·rename_i i l;cases q:qN l with
  |none=>rw[q]at e;cases e
  |some t=>rw[q]at e;cases e;rw[lM q];exact⟨rfl,i,t,rfl⟩
 ·cases e
theorem Ay:∀ {l:List D}{rs:List (List ay)},rowsOf l=some rs->l=rs.map cC /\ ∀ r∈rs,∃ n l,r=.i n::l
 |[],_,e=>by cases e;exact⟨rfl,λr m=>nomatch m⟩
 | d::l,rs,e=>by
   unfold rowsOf at e;cases q:rowOf d with
   |none=>rw[q]at e;cases e
   | some a =>
     cases q2:rowsOf l with
     |none=>rw[q,q2]at e;cases e
     | some t =>
       rw[q,q2]at e;cases e;obtain⟨h1,h2⟩:=GQ q;obtain⟨h3,h4⟩:=Ay q2;refine⟨by rw[h1,h3];rfl,λr m=>?_⟩;rcases bG.mp m with rfl|m
       ·exact h2
       ·exact h4 r m
def qO (rs:List (List ay)):List (List ay):=rs.mergeSort λa b=>!lexLt (aE b) (aE a)
theorem iy (rs:List (List ay)):(qO rs).Perm rs:=xq rs _
theorem iG (rs:List (List ay)):(qO rs).Pairwise (λa b=>lexLt (aE b) (aE a)=false):=by
 have h:=ED (le:=λa b:List ay=>!lexLt (aE b) (aE a)) (λa b c h1 h2=>by
  rw[nQ]at *;cases e:lexLt (aE c) (aE a) with
  |false=>rfl
  | true =>
    rcases HT.jN _ (aE b) _ e with z|z
    ·rw[z]at h2;cases h2
    ·rw[z]at h1;cases h1) (λa b=>by
  rw[vn,nQ,nQ];cases e:lexLt (aE b) (aE a) with
  |false=>exact .inl rfl
  | true =>
    cases f:lexLt (aE a) (aE b) with
    |false=>exact .inr rfl
    |true=>have:=HT.iO _ _ _ e f;rw[HT.gT]at this;cases this) rs
 exact h.imp λ{a b} z=>by simpa using z
theorem Fy {a b:ay}(h:a.like b=true):b.like a=true:=by cases a<;>cases b<;>first|rfl|cases h
theorem oq:∀ {a b:List Nat},¬ a<b->¬ b<a->a=b
 |[],[],_,_=>rfl
 |[],y::b,h,_=>absurd (by simp) h
 |x::a,[],_,h=>absurd (by simp) h
 | x::a,y::b,h,g=>by
   rw[List.cons_lt_cons_iff]at h g;have e:x=y:=by
    rcases Nat.lt_trichotomy x y with z|z|z
    ·exact absurd (.inl z) h
    ·exact z
    ·exact absurd (.inl z) g
   subst e;rw[oq (λz=>h (.inr ⟨rfl,z⟩)) (λz=>g (.inr ⟨rfl,z⟩))]
theorem ON:∀ {a b:ay},a.like b=true->a.lt b=false->b.lt a=false->a=b
 | .i n,.i m,_,h,g=>by
   have h':=of_decide_eq_false h;have g':=of_decide_eq_false g;rw[show n=m by omega]
 | .s x,.s y,_,h,g=>by
   have:=oq (of_decide_eq_false h) (of_decide_eq_false g);obtain⟨⟨a⟩⟩:=x;obtain⟨⟨b⟩⟩:=y;have z':a=b:=this;rw[z']
 |.t n,.t m,_,h,g=>by rw[HT.gm n m h g]
theorem ou:∀ {l m:List ay},c7 l m=true->aE l=aE m->l=m
 |[],[],_,_=>rfl
 | [],b::m,_,e=>by
   have e':([0]:List Int)=1::(b.code++aE m):=by rw[show (1::(b.code++aE m))=aE (b::m) by simp[aE]];exact e
   simp at e'
 | a::l,[],_,e=>by
   have e':1::(a.code++aE l)=([0]:List Int):=by rw[show (1::(a.code++aE l))=aE (a::l) by simp[aE]];exact e
   simp at e'
 | a::l,b::m,h,e=>by
   have h':(a.like b&&c7 l m)=true:=h;rw[aB]at h';have e':a.code++aE l=b.code++aE m:=by
    have:1::(a.code++aE l)=1::(b.code++aE m):=by rw[show (1::(a.code++aE l))=aE (a::l) by simp[aE],show (1::(b.code++aE m))=aE (b::m) by simp[aE]];exact e
    exact(List.cons.inj this).2
   have ab:a=b:=by
    by_cases c:a=b
    ·exact c
    ·have x1:=HT.ay.app (aE l) (aE m) h'.1 c;have x2:=HT.ay.app (aE m) (aE l) (Fy h'.1) (λz=>c z.symm);rw[e',HT.gT]at x1;rw[<-e',HT.gT]at x2;exact ON h'.1 x1.symm x2.symm
   subst ab;rw[ou h'.2 (List.append_cancel_left e')]
theorem lN {β:Type}{f:α->β}{l n:List β}(h:l.Perm n):∀ {m:List α},n=m.map f->∃ m':List α,l=m'.map f /\ m'.Perm m:=by
 induction h with
 |nil=>intro m e;cases m with|nil=>exact⟨[],rfl,.nil⟩|cons _ _=>cases e
 | cons x _ ih =>
   intro m e;cases m with
   |nil=>cases e
   | cons a m =>
     rw[aG]at e;obtain⟨e1,e2⟩:=List.cons.inj e;obtain⟨m',q1,q2⟩:=ih e2;exact⟨a::m',by rw[aG,<-q1,e1],q2.cons a⟩
 | swap x y l =>
   intro m e;match m,e with
   | a::b::m,e =>
     rw[aG,aG]at e;obtain⟨e1,e2⟩:=List.cons.inj e;obtain⟨e2,e3⟩:=List.cons.inj e2;exact⟨b::a::m,by rw[aG,aG,<-e1,<-e2,<-e3],.swap ..⟩
 | trans _ _ Y0 Y1 =>
   intro m e;obtain⟨m2,q1,q2⟩:=Y1 e;obtain⟨m1,q3,q4⟩:=Y0 q1;exact⟨m1,q3,q4.trans q2⟩
def wH (rs:List (List ay)):Bool:=rs.all λa=>rs.all λb=>c7 a b
theorem mC {rs a:List (List ay)}(hl:wH rs=true) (p:a.Perm rs) (ha:a.Pairwise (λa b=>lexLt (aE b) (aE a)=false)):a=qO rs:=by
 have lk:∀ x∈rs,∀ y∈rs,c7 x y=true:=λx mx y my=>cT.mp (cT.mp hl x mx) y my;refine(p.trans (iy rs).symm).eq_of_pairwise (λx y mx my h1 h2=>ou (lk x (p.mem_iff.mp mx) y ((iy rs).mem_iff.mp my)) (HT.gm _ _ h2 h1)) ha (iG rs)
theorem Rj (I:Inv X pins σ H s) (sub:Sub F H) {a:ay}(h:Den F (dD a) v) (r:RelV v u):HT.eQ s.heap u a:=by
 cases a with
 |i n=>cases (show v=.int n from h);exact r
 |s x=>cases (show v=.str x from h);exact r
 | t ns =>
   obtain⟨b,vs,rfl,h1,h2⟩:=h;cases r;obtain⟨its,r',pl,_⟩:=I.tuple (.of (sub _ _ h1));have e:=h2.ints (ns:=ns) (by clear h2 h1 pl r';induction ns with|nil=>rfl|cons n ns ih=>simp[intsOf,ih]);subst e;exact⟨b,its,rfl,pl,gR r'⟩
theorem AT (I:Inv X pins σ H s) (sub:Sub F H):∀ {l:List ay}{vs:List V}{us:List Value},ax F (l.map dD) vs->Vals vs us->HT.cZ s.heap us l
 |[],_,_,h,r=>by cases (show _=[] from h);cases r;exact .nil
 | a::l,_,_,h,r=>by
   obtain⟨v,t,rfl,h1,h2⟩:=h;cases r with
   |cons r1 r2=>exact .cons (Rj I sub h1 r1) (AT I sub h2 r2)
theorem Dg:∀ {rs:List (List ay)}{vs:List V},ax F (rs.map cC) vs->∃ ps:List (Addr×List ay),vs=ps.map (λp=>V.ref p.1) /\ rs=ps.map (·.2) /\ ∀ p∈ps,Den F (cC p.2) (.ref p.1)
 |[],_,h=>⟨[],h,rfl,λp m=>nomatch m⟩
 | r::rs,_,h=>by
   obtain⟨v,t,rfl,h1,h2⟩:=h;obtain⟨ps,e1,e2,e3⟩:=Dg h2;obtain⟨a,ws,rfl,h3,h4⟩:=id h1;refine⟨(a,r)::ps,by rw[e1];rfl,by rw[e2];rfl,λp m=>?_⟩;rcases bG.mp m with rfl|m
   ·exact h1
   ·exact e3 p m
theorem BQ:∀ {ps:List (Addr×List ay)},(∀ p∈ps,Den F (cC p.2) (.ref p.1))->ax F ((ps.map (·.2)).map cC) (ps.map λp=>V.ref p.1)
 |[],_=>rfl
 |p::ps,h=>.cons (h p (bL ..)) (BQ λq m=>h q (bC _ m))
def ID (K:PySem.W.Frag) (vs:List V) (H:Hp) (Q:VK):Prop:=∃ (F:Hp) (p:Addr) (xs:List V) (rs:List (List ay)),vs=[.ref p] /\ Sub F H /\ bz K H p xs /\ ax F (rs.map cC) xs /\ (∀ r∈rs,∃ n l,r=.i n::l) /\ rs.length<64 /\ wH rs=true /\
 ∀ (q:Addr) (ys:List V),H q=none->ax F ((qO rs).map cC) ys->Q (.ref q) (upd H q (.lst ys))
theorem CC (hu:X.A.units+100<cLine):cU X (.builtin "sorted") (ID X.K):=by
 intro pins s σ H xs us Q I rv h;obtain⟨F,p,vs,rs,rfl,sub,hp,hd,hf,cB,Vm,q⟩:=h;obtain⟨u,rfl,ru⟩:=Vals.one rv;cases ru;obtain⟨its,r1,p1,z1⟩:=I.list hp;obtain⟨ps,e1,e2,e3⟩:=Dg hd;subst e1;have ei:its=ps.map λp=>Value.ref p.1:=by
  have:=oo (rs:=ps.map (·.1)) (us:=its) (by rw[bQ];exact r1);rw[this,bQ];rfl
 subst ei;have row:∀ p∈ps,HT.qM rs s.heap (.ref p.1) (aE p.2):=λp m=>by
  have d:=e3 p m;have mr:p.2∈rs:=by rw[e2];exact bV.mpr ⟨p,m,rfl⟩
  obtain⟨n,l,el⟩:=hf _ mr;obtain⟨b,ws,eb,h3,h4⟩:=d;cases eb;obtain⟨us,r',pl,_⟩:=I.tuple (.of (sub _ _ h3));rw[el]at h4 mr;exact⟨p.1,us,n,l,rfl,pl,AT I sub h4 r',mr,by rw[el]⟩
 have HH:∀ v∈ps.map (λp=>Value.ref p.1),∃ ns,HT.qM rs s.heap v ns:=λv m=>by
  obtain⟨r,mr,rfl⟩:=bV.mp m;exact⟨_,row r mr⟩
 have lk:∀ x∈rs,∀ y∈rs,c7 x y=true:=λx mx y my=>cT.mp (cT.mp Vm x mx) y my;have ln:ps.length=rs.length:=by rw[e2,aR]
 refine HT.Aw (HT.a9 rs) p1.isList HH (U:=X.A.units+8) (ao _) (λne=>HT.Fx lk (by omega) HH ne) (by rw[aR,ln];exact cB) λout o1 o2=>?_;obtain⟨p5,q1,q2⟩:=lN o1 rfl;obtain⟨k,he⟩:=EN s.heap (ps.map λp=>Value.ref p.1) out;have rF:H (s.heap.objs.size+1)=none:=I.aj.fresh (pH _);have ord:(p5.map (·.2)).Pairwise (λa b=>lexLt (aE b) (aE a)=false):=by
  unfold HT.rV at o2;rw[q1,nS]at o2;rw[nS];exact TB (λ{a b} ma mb r=>r _ _ (row a (q2.mem_iff.mp ma)) (row b (q2.mem_iff.mp mb))) o2
 have so:p5.map (·.2)=qO rs:=mC Vm (by rw[e2];exact q2.map _) ord;have ll:(p5.map λp=>V.ref p.1).length<=sizeLine:=by
  rw[aR,q2.length_eq,ln];exact bP (k8 cB) (by decide)
 refine⟨.ref (s.heap.objs.size+1),_,I.laid (t':=s.toks) (o:=.lst (p5.map λp=>V.ref p.1)) (λb ob q=>EO q) (pH _) ?_,rfl,q _ _ rF (by rw[<-so];exact BQ λp m=>e3 p (q2.mem_iff.mp m))⟩;refine⟨ll,out.toList,k,?_,he⟩;rw[q1];have:∀ l:List (Addr×List ay),Vals (l.map λp=>V.ref p.1) (l.map λp=>Value.ref p.1):=λl=>by
  induction l with
  |nil=>exact .nil
  |cons a l ih=>exact .cons rfl ih
 exact this p5
def cx:List D->Option Res:=λxs=>match qL xs with
 |some r=>some r
 | none=>match xs with
   |[.lst l]=>(rowsOf l).bind λrs=>if rs.length<64 /\ wH rs=true then some (.lst ((qO rs).map cC)) else none
   |_=>none
theorem CD (hu:X.A.units+100<cLine):cU X (.builtin "sorted") (λvs H Q=>(uN X.K vs H Q \/ wG X.K vs H Q) \/ ID X.K vs H Q):=λpins s σ H xs us Q I rv h=>h.elim (BM pins s σ H xs us Q I rv) (CC hu pins s σ H xs us Q I rv)
theorem Y2:eO (λvs H Q=>(uN K vs H Q \/ wG K vs H Q) \/ ID K vs H Q) cx:=by
 intro F H xs vs Q s sub rx e k;unfold cx at e;cases er:qL xs with
 | some r =>
   rw[er]at e;cases e;exact .inl (YZ F H xs vs Q s sub rx er k)
 | none =>
   rw[er]at e;dsimp only at e;clear er;split at e
   ·rename_i l;cases e1:rowsOf l with
    |none=>rw[e1]at e;cases e
    | some rs =>
      rw[e1]at e;simp only[bD]at e;split at e
      ·rename_i hc;cases e;obtain⟨v,t,rfl,⟨a,us,rfl,h1,h2⟩,rt⟩:=rx;cases (show t=[] from rt);obtain⟨b1,b2⟩:=Ay e1;subst b1;exact .inr ⟨F,a,us,rs,rfl,sub,.of h1,h2,b2,hc.1,hc.2,λq ys hq hy=>k _ _ ⟨q,ys,rfl,hq,rfl,hy⟩⟩
      ·cases e
   ·cases e
end L2.DL
namespace L2
theorem L5 {src:List (Option Nat)}{elt:Expr}{scope:Scope}{uU:Pos}{wi:TI}{g:TG}{tf:TT}{te:TE}{ii:Nat} 
 (hc:X.calm=true) (S:pR X N src scope) (hi:PI X tg iter wi)
 (hg:∀ cl s H C fp,PG (X.comp N scope cl s H C fp) tg g) (hf:∀ cl s H C fp,PF (X.comp N scope cl s H C fp) ifs tf) (he:∀ cl s H C fp,PE (X.comp N scope cl s H C fp) elt te)
 (hN:X.N.Nodup) (wF:X.N[ii]?=some x) (hx:Loc X.env.scope x) (IE:swapsWith (.ListComp elt [⟨tg,iter,ifs,0⟩] scope pos) (some (.Name x pos')) uU.line X.env=pure true)
 (IF:X.fn x=true \/ X.env.scope.names.lookup x=some .local)
 (hs:∀ x,foldedSetIterable iter X.env x=pure x):PS X (.Assign [.Name x pos'] (.ListComp elt [⟨tg,iter,ifs,0⟩] scope pos) uU) (xX (yo src wi g tf te) (Hg ii)):=by
 intro pins s σ H Dn I h;rw[exec_Assign_Name_used _ _ _ _ IE];refine af (w8 (af ?_))
 change wpAny _ X.A (do let _ <-comprehension (.ListComp elt [⟨tg,iter,ifs,0⟩] scope pos) scope X.env _ (newList []) false (eval iter X.env) (some (assign (.Name x pos') X.env))) _ _ s
 refine af (eE (Qv (use:=some (assign (.Name x pos') X.env)) (Q:=λ_ s'=>SP X pins Dn .next s') rfl hs (mX (S.cells I.ok)) S.kind S.names (au (hi pins s σ H _ I h) λxv s1 h1=>au h1 λxY s2 h2=>?_)) (λ_ s' hq=>ai (ai hq)) λ_ _ q=>q);obtain⟨it,fp,tn,J,H2,e,I2,T,sI,f2,hW⟩:=h2;subst e;refine k7 ?_;generalize hD:s2.heap.objs.size=D;have HM:H2 D=none:=I2.aj.fresh (ug hD);have I3:Inv X pins σ (upd H2 D (.lst [])) { s2 with heap:=s2.heap.push { cls:=.type "list",dict:=none,data:=.seq ([]:List Value).toArray } }:=by
  subst hD;exact I2.laid (t':=s2.toks) (λb u e=>aL _ e) (ao _) ⟨eG _,[],0,.nil,bR _ rfl⟩
 obtain⟨W,⟨m0,w0⟩,turn⟩:=hW D HM;have up:∀ b o,s2.heap.get? b=some o->(s2.heap.push { cls:=.type "list",dict:=none,data:=.seq ([]:List Value).toArray }).get? b=some o:=λb u e=>aL _ e;have HN:=T.obj _ _ sI;have rl:tn 0 (s2.heap.push { cls:=.type "list",dict:=none,data:=.seq ([]:List Value).toArray }):=T.keep _ _ _ sI λb _ o e=>up b o e;have vY:∀ b∈fp,b<s2.heap.objs.size:=λb hb=>by obtain⟨o,e,_⟩:=HN b hb;exact aZ e
 have f3:∀ b∈fp,kQ X pins (upd H2 D (.lst [])) b:=λb hb=>⟨by rw[fv (by rw[<-hD];exact cS (vY b hb))];exact(f2 b hb).1,(f2 b hb).2⟩;generalize HP:({ s2 with heap:=s2.heap.push { cls:=.type "list",dict:=none,data:=.seq ([]:List Value).toArray } }:Shared)=s3 at I3 ⊢;have vZ:s3.heap=s2.heap.push { cls:=.type "list",dict:=none,data:=.seq ([]:List Value).toArray }:=by rw[<-HP]
 rw[<-vZ]at rl;have HQ:∀ b∈fp,b<s3.heap.objs.size:=λb hb=>by rw[vZ,qo];exact QP (vY b hb)
 generalize XT:upd H2 D (.lst [])=H3 at I3 f3 w0;refine mZ ?_;generalize v3:pushCells (s3.heap.push { cls:=.type "dict",data:=.dict #[] }) scope.names=h₁;have k1:∀ b o,s3.heap.get? b=some o->h₁.get? b=some o:=λb o e=>by rw[<-v3];exact xa _ _ b o (aL _ e)
 have IY:=Bu S I3 (λb hb=>⟨f3 b hb,HQ b hb⟩) (s':={ s3 with heap:=h₁ }) (by rw[v3]);have v7:tn 0 h₁:=T.keep _ _ _ rl λb _ o e=>k1 b o e;generalize uI:cellsFrom (s3.heap.objs.size+1) scope.names (cX X.env.cells scope.names [])=cl at IY ⊢;generalize hC:s3.heap.objs.size=C at IY ⊢;have sP:∀ {H':Hp},(∀ b∈fp,H' b=none)->∀ b∈fp,kQ (X.comp N scope cl s3 H3 C fp) [] H' b:=λhn b hb=>by
  refine⟨hn b hb,?_,?_,.inl hb,?_,λp hp=>absurd (show p∈([]:List (Addr×Obj)) from hp) (by simp)⟩
  ·exact(IY.ok.ux b hb).1
  ·exact IY.ok.uz b hb
  ·intro x c e z;exact(IY.ok.ux b hb).2 x c e z
 have fin:∀ (σ':St) (H':Hp) (s':Shared),Inv (X.comp N scope cl s3 H3 C fp) [] σ' H' s'->∀ h',Heap.SameBut C s'.heap h'->Inv X pins σ H' { s' with heap:=h' }:=λσ' H' s' I' h' sQ=>by
  have sR:H' C=none:=I'.free;have kp:∀ b o,b≠C->s'.heap.get? b=some o->h'.get? b=some o:=λb o hb e=>sQ.extBut b o hb e;have HR:s3.heap.get? C=none:=by rw[<-hC];exact EH (ao _)
  have nq:∀ b o,s3.heap.get? b=some o->b≠C:=λb o e z=>by rw[z,HR]at e;cases e
  have U:=I'.base;refine I3.TV (s':={ s' with heap:=h' }) (ch:=fp) I'.os ⟨λb o e n hb hx=>kp b o (nq b o e) (U.keep b o e n hb hx),λb o e n hb hx=>?_,U.free,λb o e hx=>?_,U.ku,U.kN,U.nV⟩ ?_ I'.bare λb hb=>?_
  ·obtain⟨sl,e1⟩:=U.slot b o e n hb hx;exact⟨sl,kp b _ (nq b o e) e1⟩
  ·obtain⟨o',e1⟩:=U.there b o e hx;exact⟨o',kp b o' (nq b o e) e1⟩
  ·intro b ob e;refine(I'.aj b ob e).eK (λc w' cy q=>kp c w' (λz=>?_) q) (λ_ q=>q) λ_ _ q=>q;rcases cy with z1|z1
   ·rw[<-z1,z,sR]at e;cases e
   ·rw[z,sR]at z1;cases z1
  ·exact⟨(f3 b hb).2.2.2.1,(f3 b hb).2.1,λx c e=>(f3 b hb).2.2.2.2.1 x c e,(f3 b hb).2.2.2.2.2⟩
 have loop:∀ s4:Shared,s4={ s3 with heap:=h₁ } ->
  codeAny (model X.prog X.w) X.A (.compLoop (.ListComp elt [⟨tg,iter,ifs,0⟩] scope pos) 0 (.ref it) (.ref D) (compEnvC scope cl C X.env)) (compPost (model X.prog X.w) X.A X.xe (some (assign (.Name x pos') X.env)) (λ_ s'=>SP X pins Dn .next s') (.ref D) C) s4:=by
  rintro s4 rfl;refine lC (λn s'=>∃ i σ' H',Inv (X.comp N scope cl s3 H3 C fp) [] σ' H' s' /\ tn i s'.heap /\ (∀ b∈fp,H' b=none) /\ W i n σ' H') _ (λ_ _ _ q=>q) ?_ m0 ⟨0,_,H3,IY,v7,λb hb=>(f3 b hb).1,w0⟩;rintro n s5 ⟨i,σ5,H5,I5,qw,sJ,w5⟩;have eW:∀ {α:Type}{t:Sem α}{Q1:α->Shared->Prop}{E1:Value->Shared->Prop}{ss:Shared},wpAny (model X.prog X.w) X.A t Q1 (λ_ _=>False) ss->wpAny (model X.prog X.w) X.A t Q1 E1 ss:=λhw=>eE hw (λ_ _ q=>q) λ_ _ z=>False.elim z;rcases turn i n σ5 H5 w5 with⟨stop,q5⟩|⟨go,NN,hN,step⟩
  ·refine eW (au (T.done (X.comp N scope cl s3 H3 C fp) rfl rfl rfl hc i [] s5 σ5 H5 (λ_ _=>False) I5 (sP sJ) qw stop) λr s6 ⟨hr,I6⟩=>?_);subst hr;obtain⟨m6,HS,_⟩:=I6.loc;have IX:Inv X pins σ H5 s6:=fin σ5 H5 s6 I6 s6.heap (Heap.SameBut.refl ..)
   change wpAny _ X.A (assign (.Name x pos') X.env (.ref D)) _ _ s6
   refine Qk (Ag (v:=.ref D) IX hN wF hx rfl (λs7 I7 ⟨a,sb,ha⟩=>?_) IF);have Y3:C≠a:=λz=>by
    rcases ha with w1|w1
    ·have l1:X.env.locals<s3.heap.objs.size:=I3.lt;rw[<-w1,<-z,<-hC]at l1;exact dG _ l1
    ·obtain⟨v1,o1,w2,_⟩:=I3.cell x a w1;have l1:=aZ w2;rw[<-z,<-hC]at l1;exact dG _ l1
   refine⟨m6,HS.sameBut sb Y3,λh' sQ=>?_⟩;have sR:H5 C=none:=I6.free;refine⟨σ.set ii (some (.ref D)),H5,?_,q5⟩;have Y4:X.env.locals≠C:=λz=>by have l1:=I3.lt;rw[z,<-hC]at l1;exact dG _ l1
   refine I7.turned (t':=s7.toks) (it:=C) (λb o hb e=>sQ.extBut b o hb e) sR (Ne.symm Y4) (.inr ?_) (λy c e z=>?_) (λp hp z=>?_)
   ·rw[<-hC];exact I3.sz
   ·obtain⟨v1,o1,w2,_⟩:=I3.cell y c e;have l1:=aZ w2;rw[z,<-hC]at l1;exact dG _ l1
   ·have l1:=aZ (I3.pin p hp).1;rw[z,<-hC]at l1;exact dG _ l1
  ·refine eW (au (T.item (X.comp N scope cl s3 H3 C fp) rfl rfl rfl hc i [] s5 σ5 H5 (λ_ _=>False) I5 (sP sJ) qw go) λr s6 ⟨u,hr,h6⟩=>?_);subst hr;refine eW (au h6 λ_ s7 ⟨x,H7,I7,r7,y7,sU,HU⟩=>?_);have HV:=I7.pinned (sP HU) (T.obj _ _ sU);refine eW (au (hg cl s3 H3 C fp _ s7 σ5 H7 x u _ HV r7 (step x H7 y7)) λ_ s8 ⟨σ8,H8,I8,q8⟩=>?_);refine eW (au (hf cl s3 H3 C fp _ s8 σ8 H8 _ I8 q8) λb s9 ⟨H9,I9,q9⟩=>?_);have again:∀ {σ9:St}{HA:Hp}{sA:Shared},Inv (X.comp N scope cl s3 H3 C fp) ([]++uC fp s7.heap) σ9 HA sA->NN σ9 HA->∃ m,m<n /\ ∃ i σ' H',Inv (X.comp N scope cl s3 H3 C fp) [] σ' H' sA /\ tn i sA.heap /\ (∀ b∈fp,H' b=none) /\ W i m σ' H':=λ{σ9 HA sA} IA nA=>by
    obtain⟨m',hm,wA⟩:=hN σ9 HA nA;refine⟨m',hm,i+1,σ9,HA,IA.vN,T.keep _ _ _ sU λb hb o e=>(IA.pin (b,o) (eI _ (eI _ (gQ hb e)))).1,λb hb=>?_,wA⟩;obtain⟨o,e,d⟩:=T.obj _ _ sU b hb;exact(IA.pin (b,o) (eI _ (eI _ (gQ hb e)))).2.1
   cases b with
   | false =>
     rw[if_neg (by decide)]at q9;rw[if_neg (by decide)];exact again I9 q9
   | true =>
     rw[if_pos rfl]at q9;rw[if_pos rfl];refine eW (au (he cl s3 H3 C fp _ s9 σ8 H9 _ I9 q9) λyv sA ⟨y,HA,IA,rA,ys,HW,HX,nA⟩=>?_);refine eW (au (lX _ sA σ8 HA (.ref D) [y] (.ref D) [yv] (λ_ HB=>NN σ8 HB) IA rfl (.cons rA .nil) ⟨D,ys,y,rfl,rfl,HW,HX,nA⟩) λr sB hB=>?_);obtain⟨_,HB,IB,_,nB⟩:=hB;exact again IB nB
 exact Qw (loop _ rfl) (T.self _ 0 _ _ _ v7 (loop _ rfl))
end L2
namespace L2.DL
section
variable {src : List (Option Nat)} {elt : Expr} {scope : Scope} {uU : Pos} {g : DG} 
end
noncomputable def bJ:Expr->Bool
 |.Starred _ _=>false
 |_=>true
def kH:List Expr->Bool
 |[]=>true
 |e::es=>bJ e&&kH es
theorem fE (h:bJ e=true) (es:List Expr) (env:Env):starEach (e::es) env=(false,eval e env)::starEach es env:=by
 cases e<;>first|rfl|cases h
theorem jA {env:Env}{pos:Pos}:∀ {es:List Expr},kH es=true->(backTo pos (starEach es env)).any (·.1)=false
 |[],_=>rfl
 | e::es,h=>by
   have h':(bJ e&&kH es)=true:=h;rw[aB]at h';rw[fE h'.1];show (false||(backTo pos (starEach es env)).any (·.1))=false;rw[jA h'.2];rfl
theorem gU (h:kH (e::es)=true):bJ e=true /\ kH es=true:=by
 have h':(bJ e&&kH es)=true:=h
 rwa [aB]at h'
theorem jB (h:bJ e=true) (es:List Expr) (env:Env):assignEach (e::es) env=(false,assign e env)::assignEach es env:=by
 cases e<;>first|rfl|cases h
theorem j6 {env:Env}:∀ {es:List Expr},kH es=true->(assignEach es env).length=es.length /\ (assignEach es env).findIdx? (·.1)=none
 |[],_=>⟨rfl,rfl⟩
 | e::es,h=>by
   obtain⟨h1,h2⟩:=gU h;obtain⟨a,b⟩:=j6 (env:=env) h2;rw[jB h1];exact⟨by rw[bb,bb,a],by rw[List.findIdx?_cons,b];rfl⟩
section
variable {a b c : Expr} {mb mc : DE W} {p p1 : Pos} {k k' nn : Nat} {ps : List Str} {m : DE (List W)}
theorem mD (ha:PD X T Z e ma) (hr:cY X T Z es m) (hn:bJ e=true):cY X T Z (e::es) (fc ma m):=Gn ha hr (fE hn es X.env)
theorem Rk {id:String}{g:List D->Option Res}(bo:Bool) (hc:cU X (.builtin id) q) (hk:eO q g) (hg:Gl X x) (hm:X.mg x=none) (hv:bootBuiltins x=some (.builtin id)) (ha:cY X T Z (e::es) m)
 (cW:kH (e::es)=true) (hn:x ≠ "__name__") (cz:(x==("__debug__":Str))=false):PD X T Z (.Call (.Name x p) (e::es) [] pos) (dN bo g m):=
 Gq bo hc hk hg hm hv ha hn cz (fE (gU cW).1 es X.env) (jA (gU cW).2)
theorem OP {id:String}{g:List D->Option Res}(bo:Bool) (hc:cU X (.type id) q) (hk:eO q g) (hg:Gl X x) (hm:X.mg x=none) (hv:bootBuiltins x=some (.type id)) (ha:cY X T Z (e::es) m)
 (cW:kH (e::es)=true) (hn:x ≠ "__name__") (cz:(x==("__debug__":Str))=false):PD X T Z (.Call (.Name x p) (e::es) [] pos) (dN bo g m):=
 Fh bo hc hk hg hm hv ha hn cz (fE (gU cW).1 es X.env) (jA (gU cW).2)
theorem Rm (h:pB X.prog X.w X.K X.mg X.base Z.cl k x ps fn) (hr:cj k' X.A) (hk:k<=k') (hg:Gl X x) (hx:Passes (nz X.prog X.w) X Z.E) (ha:cY X T Z (e::es) m)
 (cW:kH (e::es)=true) (hn:ps.length=nn) (cz:(x==("__debug__":Str))=false):PD X T Z (.Call (.Name x p) (e::es) [] pos) (fq fn nn m):=
 OM h hr hk hg hx ha cz (fE (gU cW).1 es X.env) (jA (gU cW).2) hn
theorem Rn {n:String}(hT:kU X.K n) (hg:Gl X "isinstance") (hm:X.mg "isinstance"=none) (Ie:Gl X x) (Ig:X.mg x=none) (hv:bootBuiltins x=some (.type n)) (ha:PD X T Z a ma) (hs:bJ a=true)
 (hn:x ≠ "__name__") (cz:(x==("__debug__":Str))=false):PD X T Z (.Call (.Name "isinstance" p) [a,.Name x p1] [] pos) (jo n ma):=
 LG hT hg hm Ie Ig hv ha hn cz (fE hs _ X.env) (fE rfl _ X.env) (jA rfl)
theorem OQ {g:DG}{q:kE}(h1:eZ X T e g) (h2:qF X T es q) (hn:bJ e=true:=by rfl):qF X T (e::es) (fB g q):=Fi h1 h2 (by rw[jB hn];rfl)
theorem Ro {q:kE}(hc:X.calm=true) (h:qF X T es q) (cW:kH es=true) (hn:es.length=nn):eZ X T (.Tuple es i pos) (gq nn q):=
 Lw hc h ((j6 cW).1.trans hn) (j6 cW).2
end
open PySem.W
section
variable {a b : Expr} {mb mc : DE W} {p np cK rp aaX : Pos} {body : List Stmt} {m k : aq} {n : Str} {c : Nat} {R : Addr}
noncomputable def eA:aq:=λ_ _=>.bad
theorem gh:cP X T Z st eA:=λ_ _ _ _ _ _ h=>by
 obtain⟨_,_,_,_,_,h⟩:=h;exact h.elim
end
section
variable {k : Nat} {ps : List Str} {m : aq} {nn kk : Nat}
end
section
variable {a : Expr} {p p2 yQ : Pos} {ta : TA} 
theorem L6 {b:Expr}{y:Str}{px py pt:Pos}{kt k2 n6}(i j:Nat) (hc:X.calm=true) (hN:X.N.Nodup) (ha:cY X T Z [a,b] ks) (hi:X.N[i]?=some x) (hj:X.N[j]?=some y) (vJ:i≠j)
 (hx:X.env.scope.names.lookup x=some .local) (hy:X.env.scope.names.lookup y=some .local)
 (hw:swappedStores [.Tuple [.Name x px,.Name y py] kt pt] (.Tuple [a,b] k2 n6) X.env=pure (some [x,y]))
 (hs:swapsWithSole [.Tuple [.Name x px,.Name y py] kt pt] (.Tuple [a,b] k2 n6) pos.line X.env=pure false) :
 cP X T Z (.Assign [.Tuple [.Name x px,.Name y py] kt pt] (.Tuple [a,b] k2 n6) pos) (kT i j ks):=
 PS.imp (NP hc hN hi hj vJ hx hy ha hw hs) λD σ H h=>P9 h
end
noncomputable def uV:D->V
 |.non=>.non
 |.bl b=>.bl b
 |.int i=>.int i
 |.str x=>.str x
 |_=>.ty ""
noncomputable def eR:D->Bool
 |.non=>true
 |.bl _=>true
 |.int _=>true
 |.str _=>true
 |_=>false
def Y5 (a b:D):Bool:=qA (uV a) (uV b)
theorem oz {d:D}(f:eR d=true) (h:Den F d v):v=uV d /\ pQ v=true:=by
 cases d with
 |non=>cases (show v=.non from h);exact⟨rfl,rfl⟩
 |bl b=>cases (show v=.bl b from h);exact⟨rfl,rfl⟩
 |int i=>cases (show v=.int i from h);exact⟨rfl,rfl⟩
 |str x=>cases (show v=.str x from h);exact⟨rfl,rfl⟩
 |_=>cases f
theorem l7 {F:Hp}:∀ {l:List D}{vs:List V},l.all eR=true->ax F l vs->vs=l.map uV /\ vs.all pQ=true
 |[],_,_,h=>by cases (show _=[] from h);exact⟨rfl,rfl⟩
 | d::l,_,f,h=>by
   obtain⟨v,r,e,h1,h2⟩:=h;subst e;rw[qW,aB]at f;obtain⟨e1,f1⟩:=oz f.1 h1;obtain⟨e2,f2⟩:=l7 f.2 h2;subst e1;subst e2;exact⟨rfl,by rw[qW,f1,f2];rfl⟩
def eS (x:D) (l:List D):Bool:=l.any λy=>Y5 y x
theorem Dh (x:D) (l:List D):yi (uV x) (l.map uV)=eS x l:=by
 unfold yi eS;rw[xx];rfl
def yR (neg:Bool):D->D->Option Res:=λx y=>match y with
 |.lst l=>if eR x=true /\ l.all eR=true then some (.old (.bl (if neg then !eS x l else eS x l))) else none
 |.tup l=>if eR x=true /\ l.all eR=true then some (.old (.bl (if neg then !eS x l else eS x l))) else none
 |_=>none
theorem Vn (neg:Bool):bI (yj K neg) (yR neg):=by
 intro F H x y v w Q s sub hx hy e k;unfold yR at e;have fx:∀ {d:D},eR d=true->kB F H d v->Den F d v:=λ{d} f h=>by
  cases d with
  |non=>exact h
  |bl b=>exact h
  |int i=>exact h
  |str z=>exact h
  |_=>cases f
 cases y with
 | lst l =>
   simp only at e;split at e
   ·rename_i f;cases e;obtain⟨a,vs,rfl,h1,h2⟩:=hy;obtain⟨e1,f1⟩:=oz f.1 (fx f.1 hx);obtain⟨e2,f2⟩:=l7 f.2 h2;subst e1;subst e2;refine⟨a,_,rfl,.inl (bz.of h1),f1,f2,?_⟩;rw[Dh];exact k _ _ ⟨rfl,rfl⟩
   ·cases e
 | tup l =>
   simp only at e;split at e
   ·rename_i f;cases e;obtain⟨a,vs,rfl,h1,h2⟩:=hy;obtain⟨e1,f1⟩:=oz f.1 (fx f.1 hx);obtain⟨e2,f2⟩:=l7 f.2 h2;subst e1;subst e2;refine⟨a,_,rfl,.inr (a6.of (sub _ _ h1)),f1,f2,?_⟩;rw[Dh];exact k _ _ ⟨rfl,rfl⟩
   ·cases e
 |_=>cases e
def yS (neg:Bool):R2:=λx y H Q=>∃ F dx dy,Sub F H /\ kB F H dx x /\ kB F H dy y /\ dZ dx=true /\ dZ dy=true /\ ∃ l,(dy=.lst l \/ dy=.tup l) /\ Q (.bl (if neg then !(l.any λz=>eqv z dx) else l.any λz=>eqv z dx)) H
theorem iQ (dx:D):∀ l:List D,((a8 l).any λy=>PyData.eqv y (toPy dx))=l.any λz=>eqv z dx
 |[]=>rfl
 | z::l=>by
   show (PyData.eqv (toPy z) (toPy dx)||_)=_;rw[iQ dx l];rfl
theorem OR (hu:X.A.units+100<cLine):aH X (compareOp .In) (yS false):=by
 intro pins s σ H x y v u Q I rx ry h;obtain⟨F,dx,dy,sub,hx,hy,ox,oy,l,hl,q⟩:=h;obtain⟨as,ra⟩:=gC I sub hx rx;obtain⟨bs,rb⟩:=gC I sub hy ry;obtain⟨x1,x2⟩:=jy ox;obtain⟨y1,y2⟩:=jy oy;rcases hl with rfl|rfl
 ·exact SeqAt.in_list_reads rb ra y1 x1 (by omega) (by rw[iQ];exact⟨.bl _,H,I,rfl,q⟩)
 ·exact SeqAt.in_tuple_reads rb ra y1 x1 (by omega) (by rw[iQ];exact⟨.bl _,H,I,rfl,q⟩)
theorem Fz (hu:X.A.units+100<cLine):aH X (compareOp .NotIn) (yS true):=by
 intro pins s σ H x y v u Q I rx ry h;obtain⟨F,dx,dy,sub,hx,hy,ox,oy,l,hl,q⟩:=h;obtain⟨as,ra⟩:=gC I sub hx rx;obtain⟨bs,rb⟩:=gC I sub hy ry;obtain⟨x1,x2⟩:=jy ox;obtain⟨y1,y2⟩:=jy oy;rcases hl with rfl|rfl
 ·exact SeqAt.notIn_list_reads rb ra y1 x1 (by omega) (by rw[iQ];exact⟨.bl _,H,I,rfl,q⟩)
 ·exact SeqAt.notIn_tuple_reads rb ra y1 x1 (by omega) (by rw[iQ];exact⟨.bl _,H,I,rfl,q⟩)
def tM (neg:Bool) (x y:D) (l:List D):Option Res:=if dZ x&&dZ y then some (.old (.bl (if neg then !(l.any λz=>eqv z x) else l.any λz=>eqv z x))) else none
def inD (neg:Bool):D->D->Option Res:=λx y=>match y with
 |.lst l=>if eR x=true /\ l.all eR=true then some (.old (.bl (if neg then !eS x l else eS x l))) else tM neg x y l
 |.tup l=>if eR x=true /\ l.all eR=true then some (.old (.bl (if neg then !eS x l else eS x l))) else tM neg x y l
 |_=>none
theorem okIn (neg:Bool):bI (λx y H Q=>yj K neg x y H Q \/ yS neg x y H Q) (inD neg):=by
 intro F H x y v w Q s sub hx hy e k;have g:∀ l,(y=.lst l \/ y=.tup l)->tM neg x y l=some s->yS neg v w H Q:=λl hl e=>by
  unfold tM at e;split at e
  ·rename_i c;rw[aB]at c;cases e;exact⟨F,x,y,sub,hx,hy,c.1,c.2,l,hl,k _ _ ⟨rfl,rfl⟩⟩
  ·cases e
 unfold inD at e;split at e
 ·rename_i l;split at e
  ·rename_i f;exact .inl (Vn neg F H x (.lst l) v w Q s sub hx hy (by unfold yR;simp only;rw[if_pos f];exact e) k)
  ·exact .inr (g l (.inl rfl) e)
 ·rename_i l;split at e
  ·rename_i f;exact .inl (Vn neg F H x (.tup l) v w Q s sub hx hy (by unfold yR;simp only;rw[if_pos f];exact e) k)
  ·exact .inr (g l (.inr rfl) e)
 ·cases e
section
variable {a b o : Expr} {mb mc : DE W} {p : Pos}
def tO (m k:DE W):DE W:=λenv bx=>fA (m env bx) λx bx1=>match x with
 | .b n=>(match bx1[n]? with
   | some (.lst _)=>fA (k env bx1) λy ag=>(match y,ag[n]? with
     | .d (.int i),some (.lst l)=>if -(2 ^ 63)<=i /\ i<2 ^ 63 then (match bA l.length i with
       |some j=>(match l[j]? with|some d=>.val (.d d) (ag.set n (.lst (l.eraseIdx j)))|none=>.bad)
       |none=>.bad) else .bad
     |_,_=>.bad)
   |_=>.bad)
 |_=>.bad
theorem L7 {Q:VK}(h:tD T Z (tO ma mb) σ H Q):HF X.K "list" Uq (tD T Z ma) (Ht (tD T Z mb) Hr) σ H Q:=by
 obtain⟨F,r,env,bx,R,h⟩:=h;refine⟨F,r,env,bx,R,End.bind h λx bx1 F1 r1 v H1 g1 R1 d1 h1=>?_⟩;cases x with
 |d _=>exact h1.elim
 |s _=>exact h1.elim
 |x _=>exact h1.elim
 |t _=>exact h1.elim
 |m _=>exact h1.elim
 | b n =>
   simp only at h1;obtain⟨a,rfl,ha⟩:=d1;obtain⟨c,hc,kc⟩:=R1.dW ha;rw[hc]at h1;cases c with
   |ak _=>exact h1.elim
   |dead=>exact h1.elim
   |dT _=>exact h1.elim
   |fD _=>exact h1.elim
   | lst l0 =>
     obtain⟨_,rO,k0,_⟩:=kc;refine⟨.inl ⟨rfl,rO,bz.of k0⟩,F1,r1,env,bx1,R1,End.bind h1 λy ag F2 r2 u H2 g2 R2 d2 h2=>?_⟩;obtain⟨t,et⟩:=g2.p;have rP:r2[n]?=some a:=by rw[<-et,c6 (List.getElem?_eq_some_iff.mp ha).1];exact ha
     obtain⟨c2,cV,qI⟩:=R2.dW rP;rw[cV]at h2;split at h2
     ·rename_i i l eq;cases eq;obtain⟨hF,vs,k1,k2⟩:=qI;cases (show u=.int i from d2);split at h2
      ·rename_i hi;split at h2
       ·rename_i j hj;split at h2
        ·rename_i d hd;obtain⟨y,hy,dy⟩:=k2.get hd;refine⟨a,vs,i,j,y,rfl,rfl,k1,hi.1,hi.2,?_,hy,?_⟩
         ·rw[<-k2.length];exact(AK hj).1
         ·exact h2 F2 r2 _ _ (.refl F2 r2) (R2.write rP hF ⟨hF,vs.eraseIdx j,fu,k2.eraseIdx j⟩) dy
        ·exact h2.elim
       ·exact h2.elim
      ·exact h2.elim
     ·exact h2.elim
theorem GR (ho:PD X T Z o ma) (ha:PD X T Z e mb) (cW:bJ e=true)
 (vT:attributeBase o "pop" X.env (eval o X.env)=eval o X.env)
 (vU:((backTo pos (starEach [e] X.env)).all (λx=>!x.1)&&(backToKw pos (keywordEach [] X.env)).all (λx=>x.1.isSome)
  && decide ([e].length+([]:List Keyword).length+(if ([]:List Keyword).isEmpty then 0 else 1)<30))=true)
 (vV:(apos.endLine==pos.line)=true):PD X T Z (.Call (.Attribute o "pop" apos) [e] [] pos) (tO ma mb):=
 PE.imp (M9 Tg PySem.F.slot_list_pop PySem.F.type_list_pop Gi ho (iV ha jY (fE cW [] X.env)) vT vU vV (fE cW [] X.env) (by rfl)) λσ H Q h=>L7 h
noncomputable def hZ:D->Option Key
 |.int i=>some (.inl i)
 |.str x=>some (.inr x)
 |_=>none
theorem iz {d:D}{k:Key}(e:hZ d=some k) (h:Den F d v):v=kV k:=by
 cases d with
 |int i=>cases e;exact h
 |str x=>cases e;exact h
 |_=>cases e
noncomputable def c8 (l:List (Key×D)) (k:Key):Option D:=(l.find? λkv=>decide (kv.1=k)).map (·.2)
noncomputable def wI (l:List (Key×D)) (k:Key) (d:D):List (Key×D):=
 if (l.any λkv=>decide (kv.1=k))=true then l.map (λkv=>if kv.1=k then (kv.1,d) else kv) else l++[(k,d)]
theorem az.some {F:Hp}{k:Key}{d:D}:∀ {l:List (Key×D)}{vs:List (Key×V)},az F l vs->c8 l k=some d->∃ v,dt vs k=some v /\ Den F d v
 |[],_,_,e=>by cases e
 | (k',d')::l,_,⟨v,r,e,h1,h2⟩,q=>by
   subst e;by_cases c:k'=k
   ·simp only[c8,kq,c,decide_true,kM]at q;cases q;exact⟨v,jw c,h1⟩
   ·simp only[c8,kq,c,decide_false]at q;obtain⟨u,e1,e2⟩:=az.some h2 q;exact⟨u,(iM c).trans e1,e2⟩
theorem az.none {F:Hp}{k:Key}:∀ {l:List (Key×D)}{vs:List (Key×V)},az F l vs->c8 l k=none->dt vs k=none
 |[],_,h,_=>by cases (show _=[] from h);rfl
 | (k',d')::l,_,⟨v,r,e,h1,h2⟩,q=>by
   subst e;by_cases c:k'=k
   ·simp only[c8,kq,c,decide_true,kM]at q;cases q
   ·simp only[c8,kq,c,decide_false]at q;exact(iM c).trans (az.none h2 q)
theorem az.any {F:Hp}(k:Key):∀ {l:List (Key×D)}{vs:List (Key×V)},az F l vs->(l.any λkv=>decide (kv.1=k))=(vs.any λkv=>decide (kv.1=k))
 |[],_,h=>by cases (show _=[] from h);rfl
 |(k',d')::l,_,⟨v,r,e,h1,h2⟩=>by subst e;simp only[qX,az.any k h2]
theorem az.map {F:Hp}{k:Key}{d:D}{v:V}(hv:Den F d v):∀ {l:List (Key×D)}{vs:List (Key×V)},az F l vs->az F (l.map λkv=>if kv.1=k then (kv.1,d) else kv) (vs.map λkv=>if kv.1=k then (kv.1,v) else kv)
 |[],_,h=>by cases (show _=[] from h);exact rfl
 | (k',d')::l,_,⟨u,r,e,h1,h2⟩=>by
   subst e;by_cases c:k'=k
   ·simp only[aG,c,if_true];exact⟨v,_,rfl,hv,az.map hv h2⟩
   ·simp only[aG,c,if_false];exact⟨u,_,rfl,h1,az.map hv h2⟩
theorem az.app {F:Hp}{m:List (Key×D)}{us:List (Key×V)}(hm:az F m us):∀ {l:List (Key×D)}{vs:List (Key×V)},az F l vs->az F (l++m) (vs++us)
 |[],_,h=>by cases (show _=[] from h);exact hm
 |(k',d')::l,_,⟨u,r,e,h1,h2⟩=>by subst e;exact⟨u,_,rfl,h1,az.app hm h2⟩
theorem az.put {k:Key}{d:D}{l:List (Key×D)}{vs:List (Key×V)}(h:az F l vs) (hv:Den F d v):az F (wI l k d) (putK vs k v):=by
 unfold wI putK;rw[az.any k h];split
 ·exact az.map hv h
 ·exact az.app (show az F [(k,d)] [(k,v)] from⟨v,[],rfl,hv,rfl⟩) h
noncomputable def pC (bx:List Bx):W->Option (List (Key×D))
 |.d (.ak l)=>some l
 |.b n=>(match bx[n]? with|some (.ak l)=>some l|some (.fD l)=>some l|_=>none)
 |_=>none
theorem AU (R:Rel T F r σ H env bx) {w:W}(d:a7 F r w v) {l:List (Key×D)}(e:pC bx w=some l):∃ a ae,v=.ref a /\ Rd H a (.dK ae) /\ az F l ae:=by
 unfold pC at e;split at e
 ·cases e;obtain⟨a,vs,rfl,h1,h2⟩:=d;exact⟨a,vs,rfl,.inl (R.fh _ _ h1),h2⟩
 ·obtain⟨a,rfl,ha⟩:=d;obtain⟨c,hc,kc⟩:=R.dW ha;rw[hc]at e;split at e
  ·rename_i q;cases q;cases e;obtain⟨_,vs,h1,h2⟩:=kc;exact⟨a,vs,rfl,.inl h1,h2⟩
  ·rename_i q;cases q;cases e;obtain⟨o,vs,_,h1,h2⟩:=kc;exact⟨a,vs,rfl,.inr ⟨o,h1⟩,h2⟩
  ·cases e
 ·cases e
def bX (m k:DE W):DE W:=λenv bx=>fA (m env bx) λx bx1=>fA (k env bx1) λy ag=>match y,pC ag x with
 |.d d,some l=>(match (hZ d).bind (c8 l) with|some u=>.val (.d u) ag|none=>.bad)
 |_,_=>.bad
theorem OT {Q:VK}(h:tD T Z (bX ma mb) σ H Q):U4 (tD T Z ma) (tD T Z mb) σ H Q:=by
 obtain⟨F,r,env,bx,R,h⟩:=h;refine⟨F,r,env,bx,R,End.bind h λx bx1 F1 r1 v H1 g1 R1 d1 h1=>⟨F1,r1,env,bx1,R1,End.bind h1 λy ag F2 r2 u H2 g2 R2 d2 h2=>?_⟩⟩;split at h2
 ·rename_i d l q;obtain⟨a,ae,rfl,k1,k2⟩:=AU R2 (g2.den d1) q;split at h2
  ·rename_i w hw;obtain⟨k,e1,e2⟩:=Option.bind_eq_some_iff.mp hw;cases iz e1 d2;obtain⟨z,e3,e4⟩:=az.some k2 e2;exact⟨a,z,rfl,e3▸.inl ⟨_,k,k1,rfl,rfl⟩,h2 F2 r2 _ H2 (.refl F2 r2) R2 e4⟩
  ·exact h2.elim
 ·exact h2.elim
theorem L8 (hu:X.A.units+1<cLine) (ho:PD X T Z o ma) (hi:PD X T Z e mb) (hs:yE e):PD X T Z (.Subscript o e pos) (bX ma mb):=
 PE.imp (C9 hu ho hi hs) λσ H Q h=>OT h
def c9 (neg:Bool) (k m:DE W):DE W:=λenv bx=>fA (k env bx) λy bx1=>fA (m env bx1) λx ag=>match y,pC ag x with
 |.d d,some l=>(match hZ d with|some k=>.val (.d (.bl (if neg then !(c8 l k).isSome else (c8 l k).isSome))) ag|none=>.bad)
 |_,_=>.bad
theorem GS {l:List (Key×D)}{vs:List (Key×V)}(h:az F l vs) (k:Key):(dt vs k).isSome=(c8 l k).isSome:=by
 cases q:c8 l k with
 |none=>rw[az.none h q];rfl
 |some d=>obtain⟨v,e,_⟩:=az.some h q;rw[e];rfl
theorem Nf {Q:VK}(h:tD T Z (c9 false mb ma) σ H Q):U5 (tD T Z mb) (tD T Z ma) σ H Q:=by
 obtain⟨F,r,env,bx,R,h⟩:=h;refine⟨F,r,env,bx,R,End.bind h λy bx1 F1 r1 u H1 g1 R1 d1 h1=>⟨F1,r1,env,bx1,R1,End.bind h1 λx ag F2 r2 v H2 g2 R2 d2 h2=>?_⟩⟩;split at h2
 ·rename_i d l q;obtain⟨a,ae,rfl,k1,k2⟩:=AU R2 d2 q;split at h2
  ·rename_i k e1;cases iz e1 (g2.den (w:=.d d) d1);refine⟨a,_,rfl,.inl ⟨_,k,k1,rfl,rfl⟩,?_⟩;rw[GS k2];exact h2 F2 r2 _ H2 (.refl F2 r2) R2 rfl
  ·exact h2.elim
 ·exact h2.elim
theorem GT {Q:VK}(h:tD T Z (c9 true mb ma) σ H Q):U6 (tD T Z mb) (tD T Z ma) σ H Q:=by
 obtain⟨F,r,env,bx,R,h⟩:=h;refine⟨F,r,env,bx,R,End.bind h λy bx1 F1 r1 u H1 g1 R1 d1 h1=>⟨F1,r1,env,bx1,R1,End.bind h1 λx ag F2 r2 v H2 g2 R2 d2 h2=>?_⟩⟩;split at h2
 ·rename_i d l q;obtain⟨a,ae,rfl,k1,k2⟩:=AU R2 d2 q;split at h2
  ·rename_i k e1;cases iz e1 (g2.den (w:=.d d) d1);refine⟨a,_,rfl,.inl ⟨_,k,k1,rfl,rfl⟩,?_⟩;rw[GS k2];exact h2 F2 r2 _ H2 (.refl F2 r2) R2 rfl
  ·exact h2.elim
 ·exact h2.elim
theorem OU (hu:X.A.units+1<cLine) (hi:PD X T Z e mb) (ho:PD X T Z o ma) (hm:behindInMarks .In o=false):PD X T Z (.Compare e [.In] [o] pos) (c9 false mb ma):=
 PE.imp (FW (GD hu hi ho) hm) λσ H Q h=>Nf h
theorem L9 (hu:X.A.units+1<cLine) (hi:PD X T Z e mb) (ho:PD X T Z o ma) (hm:behindInMarks .NotIn o=false):PD X T Z (.Compare e [.NotIn] [o] pos) (c9 true mb ma):=
 PE.imp (FW (Ar hu hi ho) hm) λσ H Q h=>GT h
def kg (m k v:DE W):aq:=λenv bx=>bg (v env bx) λz bx1=>bg (m env bx1) λx ag=>bg (k env ag) λy bE=>match x,y,z with
 | .b n,.d d,.d u=>(match bE[n]?,hZ d with
   |some (.ak l),some k=>if l.length<sizeLine then .nx env (bE.set n (.ak (wI l k u))) else .bad
   |_,_=>.bad)
 |_,_,_=>.bad
theorem Rp {D:Ends}(h:tS T Z (kg ma mb mc) D σ H):U7 (tD T Z ma) (tD T Z mb) (tD T Z mc) D σ H:=by
 obtain⟨F,r,env,bx,R,h⟩:=h;refine⟨F,r,env,bx,R,End.bg h λz bx1 F1 r1 t H1 g1 R1 d1 h1=>⟨F1,r1,env,bx1,R1,End.bg h1 λx ag F2 r2 v H2 g2 R2 d2 h2=>⟨F2,r2,env,ag,R2,End.bg h2 λy bE F3 r3 u H3 g3 R3 d3 h3=>?_⟩⟩⟩;split at h3
 ·rename_i n d w;obtain⟨a,rfl,ha⟩:=(g3.den (w:=.b n) d2:a7 F3 r3 (.b n) v);obtain⟨c,hc,kc⟩:=R3.dW ha;rw[hc]at h3;split at h3
  ·rename_i l k e1 e2;cases e1;split at h3
   ·rename_i hl;obtain⟨hF,ae,k1,k2⟩:=kc;cases iz e2 d3;have dz:Den F3 w t:=g3.den (w:=.d w) (g2.den (w:=.d w) d1);exact⟨a,_,rfl,.inl ⟨ae,k,k1,rfl,by rw[<-az.length k2];exact hl,rfl⟩,h3 F3 r3 _ _ (.refl F3 r3) (R3.write ha hF ⟨hF,_,fu,az.put k2 dz⟩)⟩
   ·exact h3.elim
  ·exact h3.elim
 ·exact h3.elim
theorem GU {value:Expr}(hu:X.A.units+1<cLine) (ho:PD X T Z o ma) (hi:PD X T Z e mb) (hv:PD X T Z value mc) (hs:swapsWith value (some (.Subscript o e pos')) pos.line X.env=pure false) :
 cP X T Z (.Assign [.Subscript o e pos'] value pos) (kg ma mb mc):=
 PS.imp (Db hu ho hi hv hs) λD σ H h=>Rp h
end
end L2.DL
namespace L2
end L2
namespace L2.DL
section
variable {a : Expr} {p tp : Pos} {elts : List Expr} {kt : Nat} {k : DE (List W)}
end
section
variable {a : Expr} 
end
end L2.DL
namespace HT
open PySem.W
section
variable {l I S : Addr} {nm : String} 
section
variable {kf : Nat -> Int} (hh : A.handled = none) (hl : s.heap.IsList l vs.toArray) (Y6 : l ≠ I) (Y7 : S ≠ I) (Y8 : s.heap.get? S = none) (Y9 : s.heap.get? I = none)
include hh hl Y6 Y7 Y8 Y9
end
end
end HT
namespace L2
open PySem.W
section
variable {a : Expr} {p q kp : Pos} {t : TA}
end
end L2
namespace L2.DL
open PySem.W
section
variable {a : Expr} {p q kp : Pos} {m : DE (List W)}
end
end L2.DL
namespace HT
open PySem.W
section
variable {t : Addr} 
end
end HT
namespace L2
open PySem.W
section
variable {a : Expr} {p p2 yQ : Pos} {t : TA}
end
end L2
namespace L2.DL
open PySem.W
section
variable {a : Expr} {p p2 yQ : Pos} {m : DE (List W)}
end
end L2.DL
namespace HT
open PySem.W
section
variable {I : Addr} {wr : List Addr} {G : Array GenState -> Array GenState -> Prop} {P : Nat -> Value -> Prop} {St : Nat -> Shared -> Prop} {b : Bool}
end
section
variable {t : Addr} 
end
end HT
namespace L2
open PySem.W
section
variable {a : Expr} {p p2 yQ : Pos} {t : TA}
end
end L2
namespace L2.DL
open PySem.W
section
variable {a : Expr} {p p2 yQ : Pos} {m : DE (List W)}
end
end L2.DL
namespace HT
open PySem.W
section
variable {v d it : Addr} {ep : Nat}
end
section
variable {K : Type} [DecidableEq K] {knd : HeapKind prog w K} {d : Addr} {k : K} {xs : List (K × Addr × Value)} {v : Value}
end
end HT
namespace L2
open PySem.W
section
variable {o f : Expr} {cK p : Pos} {td ty tx : TE}
end
section
variable {elt it Za Zb : Expr} {Zc : List Expr} {scope : Scope} {i acc : Value} {env : Env}
end
abbrev TK:=St->Hp->List Int->(St->Hp->List Int->Prop)->Prop
section
variable {D : Addr} 
end
section
variable {src : List (Option Nat)} {elt : Expr} {rest : List Comprehension} {scope : Scope} {cK p : Pos} {wi : TI} {g : TG} {tf : TT} {k : TK} {body : Value -> Env -> Sem Unit}
end
end L2
namespace L2.DL
section
variable {a : Expr} {p p1 : Pos}
end
section
variable {src : List (Option Nat)} {elt : Expr} {scope : Scope} {g : DG} 
end
open PySem.W
abbrev DK:=aM->List Bx->List Int->Option (aM×List Bx×List Int)
section
variable {g : DG} {k : DK}
end
section
variable {src : List (Option Nat)} {elt Za Zb : Expr} {Zc : List Expr} {scope : Scope} {cK p : Pos} {aaY : DE (List W)} {g g2 : DG} {aaZ : DE Bool} 
end
def tP:List D->Option (List Key)
 |[]=>some []
 |d::l=>(hZ d).bind λk=>(tP l).map λt=>k::t
theorem Di {F:Hp}:∀ {l:List D}{ks:List Key}{vs:List V},tP l=some ks->ax F l vs->vs=ks.map kV
 |[],_,_,e,h=>by cases e;exact h
 | d::l,ks,_,e,h=>by
   obtain⟨v,t,rfl,h1,h2⟩:=h;unfold tP at e;cases e1:hZ d with
   |none=>rw[e1]at e;cases e
   | some k =>
     cases e2:tP l with
     |none=>rw[e1,e2]at e;cases e
     | some t' =>
       rw[e1,e2]at e;cases e;rw[iz e1 h1,Di e2 h2];rfl
theorem bq.length {F:Hp}:∀ {l:List (List Key×D)}{r:List (List Key×V)},bq F l r->l.length=r.length
 |[],_,h=>by cases (show _=[] from h);rfl
 | (k,d)::l,_,h=>by
   obtain⟨v,t,rfl,_,h2⟩:=h;simp[h2.length]
section
variable {o f : Expr} {p cK : Pos} {mb mc : DE W}
noncomputable def uW:DE W:=λ_ bx=>.val (.b bx.length) (bx++[.dT []])
theorem Ma:PD X T Z (.Dict [] [] pos) uW:=by
 refine PE.imp BE λσ H Q ⟨F,r,env,bx,R,h⟩=>λq hq=>?_;refine h F (r++[q]) _ _ ⟨Sub.refl F,ui r [q]⟩ (R.yt hq ⟨R.n9 hq,[],fu,rfl⟩) ⟨q,rfl,?_⟩;rw[<-R.len,cE (ao _),p9];rfl
end
section
variable {o f : Expr} {mb mc : DE W} {yb : Pos}
noncomputable def qP (l:List (Key×D)) (k:Key):List (Key×D):=l.filter λkv=>decide (kv.1≠k)
theorem az.drop {F:Hp}(k:Key):∀ {l:List (Key×D)}{vs:List (Key×V)},az F l vs->az F (qP l k) (nF vs k)
 | [],_,h=>by
   cases (show _=[] from h);exact rfl
 | (k',d)::l,_,h=>by
   obtain⟨v,t,rfl,h1,h2⟩:=h;have ih:=az.drop k h2;by_cases c:k'=k
   ·have e1:qP ((k',d)::l) k=qP l k:=vw (by simp[c]);have e2:nF ((k',v)::t) k=nF t k:=vw (by simp[c]);rw[e1,e2];exact ih
   ·have e1:qP ((k',d)::l) k=(k',d)::qP l k:=vz (by simp[c]);have e2:nF ((k',v)::t) k=(k',v)::nF t k:=vz (by simp[c]);rw[e1,e2];exact⟨v,_,rfl,h1,ih⟩
theorem aO.at {r':List Addr}(g:aO F r F' r') (h:r[n]?=some a):r'[n]?=some a:=by
 obtain⟨t,e⟩:=g.p;rw[<-e,c6 (List.getElem?_eq_some_iff.mp h).1];exact h
def rX (m k:DE W):DE W:=λenv bx=>fA (m env bx) λx bx1=>match x with
 | .b n=>(match bx1[n]? with
   | some (.ak _)=>fA (k env bx1) λy ag=>(match y,ag[n]? with
     |.d d,some (.ak l)=>(match hZ d with|some k=>.val (.d ((c8 l k).getD .non)) ag|none=>.bad)
     |_,_=>.bad)
   |_=>.bad)
 |_=>.bad
theorem Mb {Q:VK}(h:tD T Z (rX ma mb) σ H Q):U9 (tD T Z ma) (tD T Z mb) σ H Q:=by
 obtain⟨F,r,env,bx,R,h⟩:=h;refine⟨F,r,env,bx,R,End.bind h λx bx1 F1 r1 v H1 g1 R1 d1 h1=>?_⟩;cases x with
 | b n =>
   simp only at h1;obtain⟨a,rfl,ha⟩:=d1;obtain⟨c,hc,kc⟩:=R1.dW ha;rw[hc]at h1;cases c with
   | ak l0 =>
     obtain⟨_,rO,k0,_⟩:=kc;refine⟨a,rfl,.inl ⟨rO,.inl k0⟩,F1,r1,env,bx1,R1,End.bind h1 λy ag F2 r2 u H2 g2 R2 d2 h2=>?_⟩;obtain⟨c2,cV,qI⟩:=R2.dW (g2.at ha);rw[cV]at h2;split at h2
     ·rename_i d l eq;cases eq;obtain⟨hF,vs,k1,k2⟩:=qI;split at h2
      ·rename_i k e1;cases iz e1 d2;refine⟨_,nG.k k1,?_⟩;cases q:c8 l k with
       | none =>
         rw[q]at h2;rw[az.none k2 q];exact h2 F2 r2 _ H2 (.refl F2 r2) R2 rfl
       | some w =>
         rw[q]at h2;obtain⟨z,e3,e4⟩:=az.some k2 q;rw[e3];exact h2 F2 r2 _ H2 (.refl F2 r2) R2 e4
      ·exact h2.elim
     ·exact h2.elim
   |_=>exact h1.elim
 |_=>exact h1.elim
theorem GV (hu:X.A.units+1<cLine) (ho:PD X T Z o ma) (ha:PD X T Z e mb) (m:M1 X o "get" apos e pos):PD X T Z (.Call (.Attribute o "get" apos) [e] [] pos) (rX ma mb):=
 PE.imp (GG hu ho ha m) λσ H Q h=>Mb h
def uX (m k:DE W):DE W:=λenv bx=>fA (m env bx) λx bx1=>match x with
 | .b n=>(match bx1[n]? with
   | some (.ak _)=>fA (k env bx1) λy ag=>(match y,ag[n]? with
     |.d d,some (.ak l)=>(match hZ d with|some k=>(match c8 l k with|some u=>.val (.d u) (ag.set n (.ak (qP l k)))|none=>.bad)|none=>.bad)
     |_,_=>.bad)
   |_=>.bad)
 |_=>.bad
theorem OV {Q:VK}(h:tD T Z (uX ma mb) σ H Q):Va (tD T Z ma) (tD T Z mb) σ H Q:=by
 obtain⟨F,r,env,bx,R,h⟩:=h;refine⟨F,r,env,bx,R,End.bind h λx bx1 F1 r1 v H1 g1 R1 d1 h1=>?_⟩;cases x with
 | b n =>
   simp only at h1;obtain⟨a,rfl,ha⟩:=d1;obtain⟨c,hc,kc⟩:=R1.dW ha;rw[hc]at h1;cases c with
   | ak l0 =>
     obtain⟨_,rO,k0,_⟩:=kc;refine⟨a,rfl,.inl ⟨rO,.inl k0⟩,F1,r1,env,bx1,R1,End.bind h1 λy ag F2 r2 u H2 g2 R2 d2 h2=>?_⟩;have rP:=g2.at ha;obtain⟨c2,cV,qI⟩:=R2.dW rP;rw[cV]at h2;split at h2
     ·rename_i d l eq;cases eq;obtain⟨hF,vs,k1,k2⟩:=qI;split at h2
      ·rename_i k e1;cases iz e1 d2;split at h2
       ·rename_i w q;obtain⟨z,e3,e4⟩:=az.some k2 q;exact⟨vs,k,z,k1,rfl,e3,h2 F2 r2 _ _ (.refl F2 r2) (R2.write rP hF ⟨hF,_,fu,az.drop k k2⟩) e4⟩
       ·exact h2.elim
      ·exact h2.elim
     ·exact h2.elim
   |_=>exact h1.elim
 |_=>exact h1.elim
theorem Mc (ho:PD X T Z o ma) (ha:PD X T Z e mb) (m:M1 X o "pop" apos e pos):PD X T Z (.Call (.Attribute o "pop" apos) [e] [] pos) (uX ma mb):=
 PE.imp (GH ho ha m) λσ H Q h=>OV h
def tQ (m k:DE W):aq:=λenv bx=>bg (m env bx) λx bx1=>bg (k env bx1) λy ag=>match x,y with
 | .b n,.d d=>(match ag[n]?,hZ d with
   |some (.ak l),some k=>if (c8 l k).isSome then .nx env (ag.set n (.ak (qP l k))) else .bad
   |_,_=>.bad)
 |_,_=>.bad
theorem Rq {D:Ends}(h:tS T Z (tQ ma mb) D σ H):U8 (tD T Z ma) (tD T Z mb) D σ H:=by
 obtain⟨F,r,env,bx,R,h⟩:=h;refine⟨F,r,env,bx,R,End.bg h λx ag F2 r2 v H2 g2 R2 d2 h2=>⟨F2,r2,env,ag,R2,End.bg h2 λy bE F3 r3 u H3 g3 R3 d3 h3=>?_⟩⟩;split at h3
 ·rename_i n d;obtain⟨a,rfl,ha⟩:=(g3.den (w:=.b n) d2:a7 F3 r3 (.b n) v);obtain⟨c,hc,kc⟩:=R3.dW ha;rw[hc]at h3;split at h3
  ·rename_i l k e1 e2;cases e1;split at h3
   ·rename_i hl;obtain⟨hF,ae,k1,k2⟩:=kc;cases iz e2 d3;exact⟨a,ae,k,rfl,k1,rfl,by rw[GS k2];exact hl,h3 F3 r3 _ _ (.refl F3 r3) (R3.write ha hF ⟨hF,_,fu,az.drop k k2⟩)⟩
   ·exact h3.elim
  ·exact h3.elim
 ·exact h3.elim
theorem Md (ho:PD X T Z o ma) (hi:PD X T Z e mb):cP X T Z (.Delete [.Subscript o e yb] pos) (tQ ma mb):=
 PS.imp (LM ho hi) λD σ H h=>Rq h
end
section
variable {vs : List V}
end
end L2.DL
namespace L2
end L2
namespace L2.DL
section
variable {a b c f o : Expr} {mb mc : DE W} {p : Pos} {k k' nn : Nat} {ps : List Str} {m : DE (List W)}
end
end L2.DL
namespace L2
open PySem.W
section
variable {o : Obj} {ae : List (Key × V)} 
theorem Inv.Vo (I:Inv X pins σ H s) {u0 u:HO}(h:H a=some u0) (n1:∀ xs,u0≠.tup xs) (n2:∀ o v,X.H₀ a≠some (.a4 o v)) (n3:∀ ps,u0≠.rh ps) (n4:∀ y,u0≠.own y) (new:aV X.prog X.w (upd H a u) s.heap a u):Inv X pins σ (upd H a u) s:=by
 have ne:∀ {b},H b=none->upd H a u b=none:=λ{b} e=>by rw[fv (λz=>by rw[z,h]at e;cases e)];exact e
 have ke:∀ {b v},H b=some v->v≠u0->upd H a u b=some v:=λ{b v} e n=>by rw[fv (λz=>by rw[z,h]at e;cases e;exact n rfl)];exact e
 refine⟨I.ok,I.os,I.bare,⟨I.base.keep,I.base.slot,λb o e n x=>ne (I.base.free b o e n x),I.base.there,λb xs e=>ke (I.base.ku b xs e) (λz=>n1 xs z.symm),λb o v e=>?_,λb ps e=>?_⟩,I.loc,I.cell,ne I.free,λx c e=>ne (I.nX x c e),λp hp=>?_,λb v e=>?_,I.len⟩
 ·rw[fv (λz=>n2 o v (by rw[<-z];exact e))];exact I.base.kN b o v e
 ·obtain⟨m,q⟩:=I.base.nV b ps e;exact⟨m,ke q (λz=>n3 _ z.symm)⟩
 ·obtain⟨q1,q2,q3⟩:=I.pin p hp;exact⟨q1,ne q2,q3⟩
 ·by_cases z:b=a
  ·subst z;rw[fu]at e;cases e;exact new
  ·rw[fv z]at e;exact(I.aj b v e).eK (λ_ _ _ q=>q) (λc q=>ke q (λz=>n4 _ z.symm)) λc xs q=>ke q (λz=>n1 _ z.symm)
theorem Inv.freeze (I:Inv X pins σ H s) (h:H a=some (.dK ae)):∃ o,s.heap.get? a=some o /\ (∀ o v,X.H₀ a≠some (.a4 o v)) /\ Inv X pins σ (upd H a (.a4 o (.dK ae))) s:=by
 obtain⟨z,y,vs,r,ob,es,ep,e,c⟩:=I.aj a _ h;have nf:∀ o v,X.H₀ a≠some (.a4 o v):=λo v q=>by have:=I.base.kN a o v q;rw[h]at this;cases this
 exact⟨ob,e,nf,I.Vo h (λ_ q=>nomatch q) nf (λ_ q=>nomatch q) (λ_ q=>nomatch q) ⟨e,z,y,vs,r,ob,es,ep,e,c⟩⟩
theorem Inv.p7 (I:Inv X pins σ H s) (h:H a=some (.a4 o (.dK ae))) (nf:∀ o v,X.H₀ a≠some (.a4 o v)):Inv X pins σ (upd H a (.dK ae)) s:=by
 obtain⟨_,q⟩:=I.aj a _ h;exact I.Vo h (λ_ q=>nomatch q) nf (λ_ q=>nomatch q) (λ_ q=>nomatch q) q
def wJ (a:Addr) (o:Obj) (ae:List (Key×V)):It :=
 ⟨λi H=>H a=some (.a4 o (.dK ae)) /\ i<ae.length,λi H x H'=>H'=H /\ ∃ k v,ae[i]?=some (k,v) /\ x=kV k,λi H=>H a=some (.a4 o (.dK ae)) /\ ae.length<=i⟩
theorem Paired.at_ {α β:Type}{F:α->β->Prop}:∀ {l:List α}{m:List β}{i:Nat}{x:α},Paired F l m->l[i]?=some x->∃ y,m[i]?=some y /\ F x y
 |_,_,_,_,.nil,e=>by simp at e
 |_,_,0,_,.cons r t,e=>by simp at e;subst e;exact⟨_,rfl,r⟩
 |_,_,i+1,_,.cons r t,e=>by obtain⟨y,q,f⟩:=Paired.at_ (i:=i) t (by simpa using e);exact⟨y,by simpa using q,f⟩
theorem Me {k:Key}{v:Value}(h:(cg P w).is k v=true):RelV (kV k) v:=by
 rcases fR h with⟨i,t,rfl,rfl⟩|⟨x,t,rfl,rfl⟩
 ·exact⟨t,rfl⟩
 ·exact⟨t,rfl⟩
theorem AV {ep:Nat}{es:Array DictEntry}(q:aV P w H h a (.a4 o (.dK ae))) (ed:o.data=.dict es ep):∃ vs,KV ae vs /\ h.DictAt (cg P w) a vs ep:=by
 obtain⟨e,_,_,vs,r,ob,xR,xS,e',c1,c2,c3⟩:=q;rw[e]at e';cases e';rw[ed]at c2;cases c2;exact⟨vs,r,o,es,e,c1,ed,c3⟩
theorem FA (it:Addr) {es:Array DictEntry}{ep:Nat}(ed:o.data=.dict es ep) (ne:a≠it):Turn P w K tg (wJ a o ae) [it] it (λi h=>h.IsKeyIter it a i ae.length ep) where
 mem:=by simp
 obj:=λi h st b hb=>by
  have e:b=it:=by simpa using hb
  subst e;obtain⟨o,e,c,d⟩:=st;exact⟨o,e,λv z=>by rw[d]at z;cases z⟩
 keep:=λi h h' st k=>st.at λo e=>k it (by simp) o e
 item:=by
  intro X hP hw hK hc i pins s σ H E I hf st hg;subst hP hw hK;obtain⟨ha,hi⟩:=hg;obtain⟨vs,r,da⟩:=AV (I.aj a _ ha) ed;have hl:ae.length=vs.length:=Paired.length r;obtain⟨⟨k,v⟩,hx⟩:∃ p,ae[i]?=some p:=⟨ae[i],by simp[hi]⟩;obtain⟨⟨k',v'⟩,hy,e1,_⟩:=Paired.at_ r hx;cases (show k=k' from e1);obtain⟨f0,f1,f2,f3,f4,f5⟩:=hf it (by simp);rw[hl]at st;refine wpAny_pyNext_dict_item st da hy λkey h' Ho n8 sb=>?_;have I1:Inv X pins σ H { s with heap:=h' }:=I.turned (t':=s.toks) (λb o hb e=>(sb.2 b hb).trans e) f0 f1 f3 f4 f5;obtain⟨o,e,c,d⟩:=id n8;exact⟨key,rfl,CW (s:={ s with heap:=h' }) e c d (by decide) ⟨kV k,H,I1,Me Ho,⟨rfl,k,v,hx,rfl⟩,by rw[hl];exact n8,λb hb=>(hf b hb).1⟩⟩
 done:=by
  intro X hP hw hK hc i pins s σ H E I hf st hg;subst hP hw hK;obtain⟨ha,hi⟩:=hg;obtain⟨vs,r,da⟩:=AV (I.aj a _ ha) ed;have hl:ae.length=vs.length:=Paired.length r;obtain⟨f0,f1,f2,f3,f4,f5⟩:=hf it (by simp);rw[hl]at st;exact wpAny_pyNext_dict_end (I.ok.hd hc) st da (qY (by omega)) λh' eb=>⟨rfl,I.turned (t':=s.toks) (λb o hb e=>eb b o hb e) f0 f1 f3 f4 f5⟩
 self:=λ_ _ _ _ _ st h=>QL st h
def NF (H₀:Hp) (a:Addr):Prop:=∀ o v,H₀ a≠some (.a4 o v)
def IG (H₀:Hp) (tl:TE):TI:=λσ H R=>tl σ H λx H1=>∃ a ae,x=.ref a /\ ((H1 a=some (.dK ae) /\ ∀ o,NF H₀ a->R (wJ a o ae) (upd H1 a (.a4 o (.dK ae)))) \/ ∃ o,H1 a=some (.a4 o (.dK ae)) /\ R (wJ a o ae) H1)
theorem GW {l:Expr}{tl:TE}(hl:PE X l tl):PI X tg l (IG X.H₀ tl):=by
 intro pins s σ H R I h;refine au (hl pins s σ H _ I h) λv s1 ⟨x,H1,I1,r1,q1⟩=>?_;obtain⟨a,ae,e,q⟩:=q1;subst e;cases r1;obtain⟨o,H2,I2,e2,q2⟩:∃ o H2,Inv X pins σ H2 s1 /\ H2 a=some (.a4 o (.dK ae)) /\ R (wJ a o ae) H2:=by
  rcases q with⟨e,q⟩|⟨o,e,q⟩
  ·obtain⟨o,_,nf,I2⟩:=I1.freeze e;exact⟨o,_,I2,fu,q o nf⟩
  ·exact⟨o,H1,I1,e,q⟩
 obtain⟨e3,_,y,_,_,ob,es,ep,e4,_,ed,_⟩:=id (I2.aj a _ e2);rw[e3]at e4;cases e4;obtain⟨vs,r,da⟩:=AV (I2.aj a _ e2) ed;have hl:ae.length=vs.length:=Paired.length r;refine wpAny_pyIter_dict y da ?_;refine⟨s1.heap.objs.size,[s1.heap.objs.size],_,_,H2,rfl,I2.kept (t':=s1.toks) λb o e=>aL _ e,FA _ ed (cS (I2.aj.lt e2)),⟨_,bR _ rfl,rfl,by rw[hl];rfl⟩,λb hb=>?_,q2⟩;have e:b=s1.heap.objs.size:=by simpa using hb
 subst e;exact I2.vL (ao _) (I2.aj.fresh (ao _))
def rY (H₀:Hp) (Q:α->Hp->Prop):α->Hp->Prop:=λx H=>Q x H \/ ∃ a o ae,H a=some (.a4 o (.dK ae)) /\ NF H₀ a /\ Q x (upd H a (.dK ae))
noncomputable def Ends.p7 (H₀:Hp) (D:Ends):Ends:=⟨rY H₀ D.nx,rY H₀ D.rt,rY H₀ D.bk,rY H₀ D.ct⟩
theorem AW {Q:α->Hp->Prop}{x:α}(I:Inv X pins σ H s) (q:rY X.H₀ Q x H):∃ H',Inv X pins σ H' s /\ Q x H':=by
 rcases q with q|⟨a,o,ae,e,nf,q⟩
 ·exact⟨H,I,q⟩
 ·exact⟨_,I.p7 e nf,q⟩
theorem Dj {t:TS}(h:PS X st t):PS X st (λD=>t (D.p7 X.H₀)):=λpins s σ H D I q=>au (h pins s σ H _ I q) λf s' q'=>by
 cases f with
 |next=>obtain⟨σ',H',I',q'⟩:=q';obtain⟨H2,I2,q2⟩:=AW I' q';exact⟨σ',H2,I2,q2⟩
 |cont=>obtain⟨σ',H',I',q'⟩:=q';obtain⟨H2,I2,q2⟩:=AW I' q';exact⟨σ',H2,I2,q2⟩
 |brk=>obtain⟨σ',H',I',q'⟩:=q';obtain⟨H2,I2,q2⟩:=AW I' q';exact⟨σ',H2,I2,q2⟩
 |ret v=>obtain⟨x,σ',H',I',r,q'⟩:=q';obtain⟨H2,I2,q2⟩:=AW I' q';exact⟨x,σ',H2,I2,r,q2⟩
end
end L2
namespace L2.DL
open PySem.W
noncomputable def yT:Key->D
 |.inl i=>.int i
 |.inr x=>.str x
noncomputable def rZ (F:Hp) (a:Addr):Hp:=λb=>if b=a then none else F b
theorem jb {b:Addr}(h:b≠a):rZ F a b=F b:=if_neg h
section
variable {o : Obj} {l : List (Key × D)} {ae : List (Key × V)}
theorem Dk:∀ {l:List (Key×D)}{ae:List (Key×V)}{i:Nat}{k:Key}{v:V},az F l ae->ae[i]?=some (k,v)->∃ d,l[i]?=some (k,d) /\ Den F d v
 |[],_,i,_,_,h,e=>by cases (show _=[] from h);simp at e
 | (k',d)::l,_,0,_,_,h,e=>by
   obtain⟨u,t,rfl,h1,_⟩:=h;simp at e;obtain⟨rfl,rfl⟩:=e;exact⟨d,rfl,h1⟩
 | (k',d)::l,_,i+1,_,_,h,e=>by
   obtain⟨u,t,rfl,_,h2⟩:=h;exact Dk (i:=i) h2 (by simpa using e)
theorem mM (h:F a=some (.a4 o (.dK ae))):uJ F (rZ F a):=λb u n e=>by
 rw[jb (λz=>by rw[z,h]at e;cases e;exact n _ _ rfl)];exact e
theorem a7.off (h:F a=some (.a4 o (.dK ae))):∀ {w:W}{v:V},a7 F r w v->a7 (rZ F a) r w v
 |.d x,_,q=>Den.cL (mM h) x q
 |.b _,_,q=>q
 |.s _,_,q=>let ⟨b,ob,e,q⟩:=q;⟨b,ob,e,by rw[jb (λz=>by rw[z,h]at q;cases q)];exact q⟩
 |.x _,_,q=>q
 |.t _,_,q=>let ⟨c,as,e,h1,h2⟩:=q;⟨c,as,e,mM h _ _ (λ_ _ z=>nomatch z) h1,h2⟩
 |.m _,_,q=>let ⟨c,as,e,h1,h2⟩:=q;⟨c,as,e,mM h _ _ (λ_ _ z=>nomatch z) h1,h2⟩
theorem Rel.a4 (R:Rel T F r σ H env bx) (hb:bx[n]?=some (.ak l)) (ha:r[n]?=some a) (k0:F a=none) (k2:az F l ae) :
 Rel T (upd F a (.a4 o (.dK ae))) r σ (upd H a (.a4 o (.dK ae))) env (bx.set n (.fD l)):=by
 have s:=gZ (o:=.a4 o (.dK ae)) k0;have ma:a∈r:=List.mem_iff_getElem?.mpr ⟨n,ha⟩;refine⟨λb u e=>?_,λi w e=>?_,by rw[nh];exact R.len,R.nd,λm c b e1 e2=>?_,λb u e hn=>?_,R.new,R.n0,R.sl,λb u e=>?_⟩
 ·by_cases z:b=a
  ·subst z;rw[fu]at e ⊢;exact e
  ·rw[fv z]at e ⊢;exact R.fh b u e
 ·obtain⟨v,e1,e2⟩:=R.slot i w e;exact⟨v,e1,e2.mono s (kJ r)⟩
 ·by_cases z:m=n
  ·subst z;rw[k9 (List.getElem?_eq_some_iff.mp hb).1]at e1;cases e1;rw[ha]at e2;cases e2;exact⟨o,ae,fu,fu,az.mono s _ k2⟩
  ·rw[qf (λq=>z q.symm)]at e1;have nb:b≠a:=λq=>z (ju R.nd e2 (q▸ha));exact(R.box m c b e1 e2).grow s (λq=>by rw[fv nb];exact q) (λu q=>by rw[fv nb];exact q)
 ·rw[fv (λz=>hn (by rw[z];exact ma))];exact R.keep b u e hn
 ·by_cases z:b=a
  ·subst z;exact .inr (.inr (.inr ma))
  ·rw[fv z]at e;exact R.fs b u e
theorem Rel.IH (R:Rel T F r σ H env bx) (hb:bx[n]?=some (.fD l)) (ha:r[n]?=some a) :
 ∃ o ae,F a=some (.a4 o (.dK ae)) /\ H a=some (.a4 o (.dK ae)) /\ Rel T (rZ F a) r σ (upd H a (.dK ae)) env (bx.set n (.ak l)):=by
 obtain⟨o,ae,f1,h1,dk⟩:=R.box n _ a hb ha;have sd:=mM f1;have ma:a∈r:=List.mem_iff_getElem?.mpr ⟨n,ha⟩;refine⟨o,ae,f1,h1,λb u e=>?_,λi w e=>?_,by rw[nh];exact R.len,R.nd,λm c b e1 e2=>?_,λb u e hn=>?_,R.new,R.n0,R.sl,λb u e=>?_⟩
 ·by_cases z:b=a
  ·subst z;unfold rZ at e;rw[if_pos rfl]at e;cases e
  ·rw[jb z]at e;rw[fv z];exact R.fh b u e
 ·obtain⟨v,e1,e2⟩:=R.slot i w e;exact⟨v,e1,e2.off f1⟩
 ·by_cases z:m=n
  ·subst z;rw[k9 (List.getElem?_eq_some_iff.mp hb).1]at e1;cases e1;rw[ha]at e2;cases e2;exact⟨if_pos rfl,ae,fu,az.cL sd _ dk⟩
  ·rw[qf (λq=>z q.symm)]at e1;have nb:b≠a:=λq=>z (ju R.nd e2 (q▸ha));have q:=R.box m c b e1 e2;have fo:F b=none->rZ F a b=none:=λz=>by rw[jb nb];exact z
   have ho:∀ {u},H b=some u->upd H a (.dK ae) b=some u:=λz=>by rw[fv nb];exact z
   cases c with
   |lst _=>obtain⟨q1,vs,q2,q3⟩:=q;exact⟨fo q1,vs,ho q2,ax.cL sd _ q3⟩
   |ak _=>obtain⟨q1,vs,q2,q3⟩:=q;exact⟨fo q1,vs,ho q2,az.cL sd _ q3⟩
   |dead=>obtain⟨u,q⟩:=q;exact⟨u,ho q⟩
   |dT _=>obtain⟨q1,vs,q2,q3⟩:=q;exact⟨fo q1,vs,ho q2,bq.cL sd _ q3⟩
   |fD _=>obtain⟨o2,vs,q1,q2,q3⟩:=q;exact⟨o2,vs,by rw[jb nb];exact q1,ho q2,az.cL sd _ q3⟩
 ·rw[fv (λz=>hn (by rw[z];exact ma))];exact R.keep b u e hn
 ·by_cases z:b=a
  ·subst z;unfold rZ at e;rw[if_pos rfl]at e;cases e
  ·rw[jb z]at e;exact R.fs b u e
theorem aO.off {r':List Addr}{u:HO}(g:aO (upd F a u) r F' r') (k0:F a=none):aO F r (rZ F' a) r':=⟨λb v e=>by
 have nb:b≠a:=fU e k0;rw[jb nb];exact g.s b v (by rw[fv nb];exact e),g.p⟩
def pD (l:List (Key×D)):List W:=l.map λp=>.d (yT p.1)
theorem jc (g:F' a=some (.a4 o (.dK ae))) (k2:az F l ae):rJ F' r (pD l) (wJ a o ae):=λT' i F1 r1 σ1 H1 aX bx1 g1 R1=>by
 have h:=R1.fh a _ (g1.s a _ g);have hl:=k2.length;refine⟨λe=>⟨h,by rw[<-hl,<-e];simp[pD]⟩,λw e=>?_⟩;unfold pD at e;rw[nR]at e;have hi:i<ae.length:=by
  rw[<-hl];cases q:l[i]? with
  |none=>rw[q]at e;cases e
  |some p=>exact(List.getElem?_eq_some_iff.mp q).1
 refine⟨⟨h,hi⟩,λx H2 ⟨e2,k,v,e3,e4⟩=>?_⟩;subst e2 e4;obtain⟨d,e5,_⟩:=Dk k2 e3;rw[e5]at e;cases e;refine⟨F1,.refl F1 r1,R1,?_⟩;cases k<;>exact rfl
noncomputable def nJ (n:Nat) (bx:List Bx):Option (List Bx):=match bx[n]? with|some (.fD l)=>some (bx.set n (.ak l))|_=>none
def se (n:Nat):OS->OS
 |.nx env bx=>(match nJ n bx with|some b=>.nx env b|none=>.bad)
 |.rt w bx=>(match nJ n bx with|some b=>.rt w b|none=>.bad)
 |.exc c bx=>.exc c bx
 |_=>.bad
def uY (n:Nat):O W->O W
 |.val w bx=>(match nJ n bx with|some b=>.val w b|none=>.bad)
 |o=>o
theorem CF {b:List Bx}(h:nJ n bx=some b):∃ l,bx[n]?=some (.fD l) /\ b=bx.set n (.ak l):=by
 unfold nJ at h;split at h
 ·cases h;exact⟨_,by assumption,rfl⟩
 ·cases h
theorem Mf {H₀:Hp}{u:HO}{D:Ends}(k0:F a=none) (ha:r[n]?=some a) (nf:NF H₀ a):∀ {q:OS},cA T Z F r D (se n q)->cA T Z (upd F a u) r (D.p7 H₀) q
 | .nx e b,h=>λF2 r2 σ2 H2 g2 R2=>by
   cases q:nJ n b with
   |none=>simp only[se,q]at h;exact h.elim
   | some b2 =>
     simp only[se,q]at h;obtain⟨l,hl,rfl⟩:=CF q;obtain⟨o,ae,f1,h1,R3⟩:=R2.IH hl (g2.at ha);exact .inr ⟨a,o,ae,h1,nf,h _ r2 σ2 _ (g2.off k0) R3⟩
 | .rt w b,h=>λF2 r2 v H2 g2 R2 dv=>by
   cases q:nJ n b with
   |none=>simp only[se,q]at h;exact h.elim
   | some b2 =>
     simp only[se,q]at h;obtain⟨l,hl,rfl⟩:=CF q;obtain⟨o,ae,f1,h1,R3⟩:=R2.IH hl (g2.at ha);exact .inr ⟨a,o,ae,h1,nf,h _ r2 v _ (g2.off k0) R3 (dv.off f1)⟩
 |.exc c b,h=>λF2 r2 H2 g2 R2=>h F2 r2 H2 ⟨(gZ k0).trans g2.s,g2.p⟩ R2
 |.bk _ _,h=>h.elim
 |.ct _ _,h=>h.elim
 |.bad,h=>h.elim
theorem Mg {H₀:Hp}{u:HO}{Q:VK}(k0:F a=none) (ha:r[n]?=some a) (nf:NF H₀ a):∀ {q:O W},End T Z a7 F r σ env Q (uY n q)->End T Z a7 (upd F a u) r σ env (rY H₀ Q) q
 | .val w b,h=>λF2 r2 v H2 g2 R2 dv=>by
   cases q:nJ n b with
   |none=>simp only[uY,q]at h;exact h.elim
   | some b2 =>
     simp only[uY,q]at h;obtain⟨l,hl,rfl⟩:=CF q;obtain⟨o,ae,f1,h1,R3⟩:=R2.IH hl (g2.at ha);exact .inr ⟨a,o,ae,h1,nf,h _ r2 v _ (g2.off k0) R3 (dv.off f1)⟩
 |.exc c b,h=>λF2 r2 H2 g2 R2=>h F2 r2 H2 ⟨(gZ k0).trans g2.s,g2.p⟩ R2
 |.bad,h=>h.elim
theorem cA.p7 {H₀:Hp}{D:Ends}:∀ {q:OS},cA T Z F r D q->cA T Z F r (D.p7 H₀) q
 |.nx _ _,h=>λF2 r2 σ2 H2 g2 R2=>.inl (h F2 r2 σ2 H2 g2 R2)
 |.rt _ _,h=>λF2 r2 σ2 H2 g2 R2 d=>.inl (h F2 r2 σ2 H2 g2 R2 d)
 |.bk _ _,h=>λF2 r2 σ2 H2 g2 R2=>.inl (h F2 r2 σ2 H2 g2 R2)
 |.ct _ _,h=>λF2 r2 σ2 H2 g2 R2=>.inl (h F2 r2 σ2 H2 g2 R2)
 |.exc _ _,h=>h
 |.bad,h=>h
theorem End.p7 {H₀:Hp}{Q:VK}:∀ {q:O W},End T Z a7 F r σ env Q q->End T Z a7 F r σ env (rY H₀ Q) q
 |.val _ _,h=>λF2 r2 σ2 H2 g2 R2 d=>.inl (h F2 r2 σ2 H2 g2 R2 d)
 |.exc _ _,h=>h
 |.bad,h=>h
def tR (i:Nat) (g:DG) (body:aq):aq:=λenv bx=>match env[i]? with
 | some (some (.b n))=>(match bx[n]? with
   |some (.ak l)=>se n (ck g body (pD l) env (bx.set n (.fD l)))
   |some (.fD l)=>ck g body (pD l) env bx
   |_=>.bad)
 |_=>.bad
theorem GX {Q:VK}(e:env[i]?=some (some (.b n))) (h:∀ F' r' a H',aO F r F' r'->Rel T F' r' σ H' env bx->r'[n]?=some a->Q (.ref a) H'):End T Z a7 F r σ env Q (dV i env bx):=by
 unfold dV;rw[e];intro F' r' v H' g R d;obtain⟨a,rfl,ha⟩:=d;exact h F' r' a H' g R ha
theorem OW {g:DG}{m:aq}{D:Ends}{H₀:Hp}(h:tS T Z (tR i g m) D σ H):Hk (IG H₀ (tD T Z (dV i))) (tG T g) (tS T Z m) (D.p7 H₀) σ H:=by
 obtain⟨F,r,env,bx,R,h⟩:=h;unfold tR at h;split at h
 case h_2=>exact h.elim
 rename_i n e;refine⟨F,r,env,bx,R,GX e λF' r' a H' g' R' ha=>?_⟩;split at h
 ·rename_i l hb;obtain⟨k0,ae,k1,k2⟩:=R'.box n _ a hb ha;exact⟨a,ae,rfl,.inl ⟨k1,λo nf=>Gy (R'.a4 hb ha k0 k2) (jc fu k2) (Mf k0 ha nf (cA.weak g' h))⟩⟩
 ·rename_i l hb;obtain⟨o,ae,k0,k1,k2⟩:=R'.box n _ a hb ha;exact⟨a,ae,rfl,.inr ⟨o,k1,Gy R' (jc k0 k2) (cA.weak g' h).p7⟩⟩
 ·exact h.elim
theorem GY {body:List Stmt}{g:DG}{m:aq}(hp:PassesOwn (model X.prog X.w) X.A X.env X.xe) (hc:X.calm=true) (hi:PD X T Z iter (dV i)) (hg:eZ X T tg g) (hb:pd X T Z body m)
 (hs:∀ x,foldedSetIterable iter X.env x=pure x):cP X T Z (.For tg iter body [] pos) (tR i g m):=
 PS.imp (Dj (F7 hp hc (GW hi) hg hb hs)) λD σ H h=>OW h
def tT (bo:Bool) (src:List (Option Nat)) (i:Nat) (g:DG) (tf:DE Bool) (te:DE W):DE W:=λenv bx=>match env[i]? with
 | some (some (.b n))=>(match bx[n]? with
   |some (.ak l)=>uY n (fA (aU g tf te (pD l) (cq src env) (bx.set n (.fD l)) []) λl ag=>bH bo (some (.lst l)) ag)
   |some (.fD l)=>fA (aU g tf te (pD l) (cq src env) bx []) λl ag=>bH bo (some (.lst l)) ag
   |_=>.bad)
 |_=>.bad
theorem Mh {src:List (Option Nat)}{g:DG}{Q:VK}{H₀:Hp}(h:tD T Z (tT bo src i g tf te) σ H Q) :
 yo src (IG H₀ (tD T Z (dV i))) (v8 g) (v9 ⟨E0,Z.cl⟩ tf) (wa ⟨E0,Z.cl⟩ te) σ H (rY H₀ Q):=by
 obtain⟨F,r,env,bx,R,h⟩:=h;unfold tT at h;split at h
 case h_2=>exact h.elim
 rename_i n e;refine⟨F,r,env,bx,R,GX e λF' r' a H' g' R' ha=>?_⟩;split at h
 ·rename_i l hb;obtain⟨k0,ae,k1,k2⟩:=R'.box n _ a hb ha;exact⟨a,ae,rfl,.inl ⟨k1,λo nf=>Cp (R'.a4 hb ha k0 k2) (jc fu k2) (Mg k0 ha nf (End.weak g' h))⟩⟩
 ·rename_i l hb;obtain⟨o,ae,k0,k1,k2⟩:=R'.box n _ a hb ha;exact⟨a,ae,rfl,.inr ⟨o,k1,Cp R' (jc k0 k2) (End.weak g' h).p7⟩⟩
 ·exact h.elim
theorem FB {src:List (Option Nat)}{elt:Expr}{scope:Scope}{uU:Pos}{g:DG}(i:Nat) (bo:Bool) (hc:X.calm=true) (S:pR X N src scope) (hi:PD X T Z iter (dV j))
 (hg:∀ T cl s H C fp,eZ (X.comp N scope cl s H C fp) T tg g) (hf:∀ T cl s H C fp,PF (X.comp N scope cl s H C fp) ifs (qD T ⟨E0,Z.cl⟩ tf)) (he:∀ T cl s H C fp,PD (X.comp N scope cl s H C fp) T ⟨E0,Z.cl⟩ elt te)
 (hN:X.N.Nodup) (wF:X.N[i]?=some x) (hx:Loc X.env.scope x) (IE:swapsWith (.ListComp elt [⟨tg,iter,ifs,0⟩] scope pos) (some (.Name x pos')) uU.line X.env=pure true)
 (IF:X.fn x=true \/ X.env.scope.names.lookup x=some .local) (hs:∀ x,foldedSetIterable iter X.env x=pure x):cP X T Z (.Assign [.Name x pos'] (.ListComp elt [⟨tg,iter,ifs,0⟩] scope pos) uU) (fC (tT bo src j g tf te) (fe i)):=by
 refine PS.imp (Dj (L5 (src:=src) (g:=v8 g) (tf:=v9 ⟨E0,Z.cl⟩ tf) (te:=wa ⟨E0,Z.cl⟩ te) hc S (GW hi) (λcl s H C fp pins s' σ' H' v u Q I rv ⟨T,q⟩=>hg T cl s H C fp pins s' σ' H' v u Q I rv q)
  (λcl s H C fp pins s' σ' H' Q I ⟨T,q⟩=>hf T cl s H C fp pins s' σ' H' Q I q) (λcl s H C fp pins s' σ' H' Q I ⟨T,q⟩=>he T cl s H C fp pins s' σ' H' Q I q) hN wF hx IE IF hs)) λD σ H ⟨F,r,env,bx,R,h⟩=>?_
 exact Mh (Q:=λv H1=>D.nx (σ.set i (some v)) H1) ⟨F,r,env,bx,R,End.bg h λw bx1 F1 r1 v H1 g1 R1 d1 h1=>h1 F1 r1 _ H1 (.refl F1 r1) (R1.set d1 i)⟩
end
end L2.DL
namespace HT
open PySem.W
def sf (h:Heap) (d:Addr) (vs:List Value) (ep:Nat):Prop:=∃ o es,h.get? d=some o /\ o.cls=.type "dict" /\ o.data=.dict es ep /\ es.toList.map (·.key)=vs
theorem sf.at {d:Addr}{ep:Nat}(x:sf h d vs ep) (k:∀ o,h.get? d=some o->h'.get? d=some o):sf h' d vs ep:=let ⟨o,es,e,r⟩:=x;⟨o,es,k o e,r⟩
section
variable {v d it : Addr} {ep : Nat}
theorem Mi (y:(d==sysModules)=false) (hm:sf s.heap d vs ep)
 (q:Q (.ref s.heap.objs.size) { s with heap:=s.heap.push { cls:=.type "dict_keyiterator",data:=.fields #[.ref d,.int 0 0,.int vs.length 0,.int ep 0] } }):wpAny (model prog w) A (pyIter (.ref d)) Q E s:=by
 obtain⟨o,es,e2,c2,d2,ev⟩:=id hm;have sz:es.size=vs.length:=by rw[<-ev];simp
 have ty:s.TypeIs (.ref d) "dict":=⟨o,e2,c2⟩;refine QI ty Tq (nP Tq ty PySem.F.entry_dict_iter ?_ (PySem.F.args_dict_iter_1 _));unfold Builtin.«dict.__iter__» Builtin.Dict.dictSlotNone;refine af (af (wpAny_notOrdered_dict ty ?_));show wpAny _ _ (pure (Value.ref d)) _ _ s;refine ai ?_;show wpAny _ _ (Builtin.Dict.showsAll d >>= _) _ _ s;unfold Builtin.Dict.showsAll;rw[if_neg (by rw[y];exact cb)];refine af (ai (af (QM e2 d2 (af (QN e2 d2 (af (k7 (ai ⟨_,rfl, "dict_keyiterator",_,⟨_,bR _ rfl,rfl⟩,E5.lookup,?_⟩))))))));simpa[rawInt,sz] using q
theorem Dl {Q:Option Value->Shared->Prop}(hit:s.heap.IsKeyIter it d i vs.length ep) (hm:sf s.heap d vs ep) (hh:A.handled=none)
 (q:∀ x h',vs[i]?=some x->h'.IsKeyIter it d (i+1) vs.length ep->Heap.SameBut it s.heap h'->Q (some x) { s with heap:=h' })
 (qe:∀ h',vs[i]?=none->Heap.ExtBut it s.heap h'->Q none { s with heap:=h' }):wpAny (model prog w) A (pyNext (.ref it)) Q E s:=by
 obtain⟨o,e1,c1,d1⟩:=id hit;obtain⟨od,es,e2,c2,d2,ev⟩:=id hm;have sz:es.size=vs.length:=by rw[<-ev];simp
 unfold pyNext;refine af (xg (sr (name:=Str.ofString "__next__") hit.typeIs E5 (nP E5 hit.typeIs PySem.F.entry_dict_keyiterator_next ?_ (PySem.F.args_dict_keyiterator_next_1 _))));refine af (ai (af (af ?_)));first|refine af (En hit.typeIs (ai (af (QO e1 d1 ?_))))|refine af (Eo hit.typeIs (ai (af (QO e1 d1 ?_))))
 simp only[show Builtin.Dict_items.ownsTuple "dict_keyiterator"=false by decide,xj,if_false];show wpAny _ _ (if (Value.ref d==Value.none)=true then _ else _) _ _ s;rw[if_neg (show ¬ ((Value.ref d==Value.none)=true) from cb)];refine af (ai (af (QM e2 d2 ?_)));rw[if_neg (by rw[sz];simp)];refine af (ai (af (QN e2 d2 ?_)));rw[if_neg (by simp)];refine ai ?_;rcases uh i vs.length with hl|hl
 ·have dJ:i<es.size:=by rw[sz];exact hl
  have hv:vs[i]?=some es[i].key:=by rw[<-ev];simp[dJ]
  simp only[show ¬ ((i:Int)<0) from by omega,if_false,rf,Array.getElem?_eq_getElem dJ];refine af ?_;first|refine af (En hit.typeIs (ai (af (Ep hit.typeIs ?_))))|refine af (Eo hit.typeIs (ai (af (Ep hit.typeIs ?_))))
  show wpAny _ _ (setField (.ref it) 1 (rawInt ((i:Int)+1)) >>= _) _ _ s;refine af (xf e1 d1 (by simp) ?_);have h2:(s.heap.update it (Obj.mapFields (·.setIfInBounds 1 (rawInt ((i:Int)+1))))).IsKeyIter it d (i+1) vs.length ep :=
   ⟨_,EI _ e1 (Ts (xM d1 _)),(Tt ..).trans c1,by rw[xM d1];simp[rawInt]⟩
  refine af (kh (af (Ep (s:={ s with heap:=s.heap.update it (Obj.mapFields (·.setIfInBounds 1 (rawInt ((i:Int)+1)))) }) h2.typeIs ?_)));show wpAny _ _ (pure es[i].key) _ _ _;exact ai (ai ⟨_,rfl,ai (q _ _ hv h2 (Heap.SameBut.update ..))⟩)
 ·have hx:vs[i]?=none:=qY hl;simp only[show ¬ ((i:Int)<0) from by omega,if_false,rf,Tv (show es.size<=i by rw[sz];exact hl)];refine af ?_;first|refine af (En hit.typeIs (ai ?_))|refine af (Eo hit.typeIs (ai ?_))
  show wpAny _ _ (setField (.ref it) 0 .none >>= _) _ _ s;refine af (xf e1 d1 (by simp) ?_);show wpAny _ _ (newExc (.type "StopIteration") [] >>= _) _ _ _;refine af ?_;simp only[newExc,newTuple];refine af (k7 (af (m:=firstArgMember _ _) (QF (a:=Value.none) (by first|rfl|(simp only[firstArgMember];rfl)) (k7 ?_ (by size_fits)))) (by size_fits));simp only[raiseNew];refine af (QG ?_);rw[show A.in1.handled=none from hh];refine af (ai (QH ?_));refine af (QJ (T:="StopIteration") (b:=true) ⟨_,bR _ rfl,rfl⟩ QK ?_);exact ai (qe _ hx (((Heap.SameBut.update ..).extBut.push _).push _))
theorem Mj (hh:A.handled=none) (rR:d≠it) (vs:List Value) (ep:Nat):Walks prog w A it [it,d] [it] vs.length (λi v=>vs[i]?=some v) (λi h=>h.IsKeyIter it d i vs.length ep /\ sf h d vs ep) where
 sub:=λb hb=>by simp at hb;simp[hb]
 frame:=λ_ _ _ st hk=>⟨st.1.at λo e=>hk it (by simp) o e,st.2.at λo e=>hk d (by simp) o e⟩
 item:=λi s Q E hi st hQ=>Dl st.1 st.2 hh (λx h' hx h2 sb=>hQ x h' s.toks hx ⟨h2,st.2.at λo e=>sb.extBut d o rR e⟩ λb o hb e=>sb.extBut b o (λz=>hb (by simp[z])) e) λh' hx _=>by rw[List.getElem?_eq_none_iff]at hx;omega
 done:=λs Q E st hQ=>Dl st.1 st.2 hh (λx h' hx _ _=>by simp at hx) λh' _ he=>hQ h' s.toks λb o hb e=>he b o (λz=>hb (by simp[z])) e
 self:=λ_ _ _ _ st hQ=>QL st.1 hQ
theorem OX (y:(d==sysModules)=false) (vs:List Value) (ep:Nat):KdlSrc prog w "dict" d d vs.length (λi v=>vs[i]?=some v) (λh=>sf h d vs ep) where
 type:=λ_ hm=>let ⟨o,_,ho,hc,_⟩:=hm;⟨o,ho,hc⟩
 there:=λ_ hm=>let ⟨_,_,ho,_⟩:=hm;⟨aZ ho,aZ ho⟩
 keep:=λ_ _ hm hk=>hm.at λo e=>hk d (.inr rfl) o e
 notList:=by decide
 notTuple:=by decide
 hint:=λ_ _ _ _ hm hq=>kdl_hint_dict (let ⟨o,_,ho,hc,_⟩:=hm;⟨o,ho,hc⟩) hq
 iter:=λ_ _ hh hm=>⟨_,_,(λ_ _ hq=>Mi y hm hq),Mj hh (cS (let ⟨_,_,ho,_⟩:=hm;aZ ho)) vs ep,⟨⟨_,bR _ rfl,rfl,rfl⟩,hm.at λo e=>aL _ e⟩⟩
end
end HT
namespace L2
open PySem.W
section
variable {o : Expr} {p : Pos} {td : TE}
def Zd (td:TE):TE:=λσ H Q=>td σ H λx H1=>∃ a ae,x=.ref a /\ H1 a=some (.dT ae) /\ ∀ bs,Paired (λ(q:List Key×V) (b:Addr)=>H1 b=some (.tup (q.1.map kV))) ae bs->∀ l,H1 l=none->Q (.ref l) (upd H1 l (.lst (bs.map V.ref)))
theorem Mk (r:KT H ae xs):Paired (λ(q:List Key×V) (b:Addr)=>H b=some (.tup (q.1.map kV))) ae (xs.map (·.2.1)):=by
 induction r with
 |nil=>exact .nil
 |cons h t ih=>exact .cons h.2.1 ih
theorem iP:∀ bs:List Addr,Vals (bs.map V.ref) (bs.map Value.ref)
 |[]=>.nil
 |b::bs=>.cons rfl (iP bs)
theorem GZ (hc:X.calm=true) (hg:Gl X "list") (hm:X.mg "list"=none) (ho:PE X o td) (hs:DL.bJ o=true):PE X (.Call (.Name "list" p) [o] [] pos) (Zd td):=by
 intro pins s σ H Q I h;refine ud (jq I hg hm (by decide +kernel:bootBuiltins "list"=some (.type "list")) ?_ (by decide) (by decide));refine callWith_type1 ?_ (DL.fE hs [] X.env) rfl;rw[DL.fE hs [] X.env];show wpAny _ _ (spliced ((false,eval o X.env)::backTo pos (starEach [] X.env))) _ _ s;refine vE (au (ho pins s σ H _ I h) λu s1 ⟨x,H1,I1,rx,a,ae,ex,ea,q1⟩=>?_);subst ex;obtain rfl:u=Value.ref a:=rx;obtain⟨zl,hd,xs,rel,dd⟩:=Nd I1.aj ea;obtain⟨ob,es,ep,hq,h2,h3,h4,_,h5⟩:=id dd;have rk:HT.sf s1.heap a ((xs.map (·.2.1)).map Value.ref) ep:=⟨ob,es,hq,h2.1,h3,by rw[h4,bQ,bQ];rfl⟩;have lx:((xs.map (·.2.1)).map Value.ref).length<=sizeLine:=by rw[aR,aR,<-Paired.length rel];exact zl
 refine vD (kdl_call (HT.OX hd _ ep) (I1.ok.hd hc) rk lx λh' tk acc c hk hD Vp=>?_);have ev:acc.toList=(xs.map (·.2.1)).map Value.ref:=by
  apply EB;intro j;by_cases hj:j<acc.size
  ·have ej:acc[j]?=some acc[j]:=by simp[hj]
   rw[E7,ej];exact(Vp.2 j _ ej).symm
  ·have h3:=Vp.1;rw[E7,Tv (by omega),qY (by omega)]
 have rv:Vals ((xs.map (·.2.1)).map V.ref) acc.toList:=by rw[ev];exact iP _
 have I3:=I1.laid (h':=h') (t':=tk) (a:=s1.heap.objs.size) (o:=.lst ((xs.map (·.2.1)).map V.ref)) (λb u e=>hk b u e) (ao _) ⟨by rw[aR];rw[aR]at lx;exact lx,acc.toList,c,rv,by simpa using hD⟩;exact⟨.ref _,_,I3,rfl,q1 _ (Mk rel) _ (I1.aj.fresh (ao _))⟩
def Ze (td:TE):TE:=λσ H Q=>td σ H λx H1=>∃ a ae,x=.ref a /\ Rd H1 a (.dK ae) /\ ∀ l,H1 l=none->Q (.ref l) (upd H1 l (.dK ae))
theorem FC (hg:Gl X "dict") (hm:X.mg "dict"=none) (ho:PE X o td) (hs:DL.bJ o=true):PE X (.Call (.Name "dict" p) [o] [] pos) (Ze td):=by
 intro pins s σ H Q I h;refine ud (jq I hg hm (by decide +kernel:bootBuiltins "dict"=some (.type "dict")) ?_ (by decide) (by decide));refine callWith_type1 ?_ (DL.fE hs [] X.env) rfl;rw[DL.fE hs [] X.env];show wpAny _ _ (spliced ((false,eval o X.env)::backTo pos (starEach [] X.env))) _ _ s;refine vE (au (ho pins s σ H _ I h) λu s1 ⟨x,H1,I1,rx,a,ae,ex,ea,q1⟩=>?_);subst ex;obtain rfl:u=Value.ref a:=rx;obtain⟨zl,hd,vs,rel,dd⟩:=mB I1.aj ea;refine vD (kt_call_dict hd dd (by rw[<-Paired.length rel];exact zl) λh' hG sb=>?_);have nb:(s1.heap.objs.size==sysModules)=false:=by
  exact beq_eq_false_iff_ne.mpr (vk I1.big)
 have I3:=I1.laid (h':=h') (t':=s1.toks) (a:=s1.heap.objs.size) (o:=.dK ae) (λb u e=>(sb.2 b (cS (aZ e))).trans (aL _ e)) (ao _) ⟨zl,nb,vs,rel,hG⟩;exact⟨.ref _,_,I3,rfl,q1 _ (I1.aj.fresh (ao _))⟩
end
end L2
namespace L2.DL
open PySem.W
section
variable {o : Expr} {p : Pos} {mb mc : DE W}
theorem Rel.Zf (R:Rel T F r σ H env bx) {b:Addr}{vs:List V}(hb:H b=some (.tup vs)):∃ F',aO F r F' r /\ Rel T F' r σ H env bx /\ F' b=some (.tup vs):=by
 cases q:F b with
 | some u =>
   have:=R.fh b u q;rw[hb]at this;cases this;exact⟨F,.refl F r,R,q⟩
 | none =>
   have s:=gZ (o:=.tup vs) q;refine⟨upd F b (.tup vs),⟨s,kJ r⟩,⟨λa u e=>?_,λi w e=>?_,R.len,R.nd,λn c a e1 e2=>?_,R.keep,R.new,R.n0,R.sl,λa u e=>?_⟩,fu⟩
   ·by_cases z:a=b
    ·subst z;rw[fu]at e;cases e;exact hb
    ·rw[fv z]at e;exact R.fh a u e
   ·obtain⟨v,e1,e2⟩:=R.slot i w e;exact⟨v,e1,e2.mono s (kJ r)⟩
   ·have k:=R.box n c a e1 e2;have ne:∀ {u},H a=some u->(∀ ys,u≠.tup ys)->upd F b (.tup vs) a=F a:=λ{u} z y=>fv λq=>by rw[q,hb]at z;cases z;exact y _ rfl
    cases c with
    |lst _=>obtain⟨q1,ws,q2,q3⟩:=k;exact⟨(ne q2 (λ_ z=>nomatch z)).trans q1,ws,q2,ax.mono s _ q3⟩
    |ak _=>obtain⟨q1,ws,q2,q3⟩:=k;exact⟨(ne q2 (λ_ z=>nomatch z)).trans q1,ws,q2,az.mono s _ q3⟩
    |dead=>exact k
    |dT _=>obtain⟨q1,ws,q2,q3⟩:=k;exact⟨(ne q2 (λ_ z=>nomatch z)).trans q1,ws,q2,bq.mono s _ q3⟩
    |fD _=>obtain⟨o2,ws,q1,q2,q3⟩:=k;exact⟨o2,ws,s _ _ q1,q2,az.mono s _ q3⟩
   ·by_cases z:a=b
    ·subst z;rw[fu]at e;cases e;exact .inl ⟨_,rfl⟩
    ·rw[fv z]at e;exact R.fs a u e
theorem BR:∀ (k:List Key),ax F (k.map yT) (k.map kV)
 |[]=>rfl
 |k::t=>⟨_,_,rfl,by cases k<;>exact rfl,BR t⟩
abbrev yU (l:List (List Key×D)):List D:=l.map λq=>.tup (q.1.map yT)
theorem Rel.ku:∀ {l:List (List Key×D)}{ae:List (List Key×V)}{bs:List Addr}{F:Hp},Rel T F r σ H env bx->bq F l ae->Paired (λ(q:List Key×V) (b:Addr)=>H b=some (.tup (q.1.map kV))) ae bs->∃ F',aO F r F' r /\ Rel T F' r σ H env bx /\ ax F' (yU l) (bs.map V.ref)
 | [],_,_,F,R,h,q=>by
   cases (show _=[] from h);cases q;exact⟨F,.refl F r,R,rfl⟩
 | (k,d)::l,_,_,F,R,h,q=>by
   obtain⟨v,t,rfl,_,h2⟩:=h;cases q with
   | @cons _ b _ bs q1 q2 =>
     obtain⟨F1,g1,R1,e1⟩:=R.Zf q1;obtain⟨F2,g2,R2,d2⟩:=Rel.ku R1 (bq.mono g1.s _ h2) q2;exact⟨F2,g1.trans g2,R2,V.ref b,_,rfl,⟨b,_,rfl,g2.s _ _ e1,BR k⟩,d2⟩
def wK (bo:Bool) (m:DE W):DE W:=λenv bx=>fA (m env bx) λx bx1=>match x with
 | .b n=>(match bx1[n]? with
   |some (.dT l)=>bH bo (some (.lst (yU l))) bx1
   |_=>.bad)
 |_=>.bad
theorem G0 (bo:Bool) (hc:X.calm=true) (hg:Gl X "list") (hm:X.mg "list"=none) (ho:PD X T Z o ma) (hs:bJ o=true):PD X T Z (.Call (.Name "list" p) [o] [] pos) (wK bo ma):=by
 refine PE.imp (GZ hc hg hm ho hs) λσ H Q ⟨F,r,env,bx,R,h⟩=>⟨F,r,env,bx,R,End.bind h λx bx1 F1 r1 v H1 g1 R1 d1 h1=>?_⟩;split at h1
 case h_2=>exact h1.elim
 rename_i n;obtain⟨a,rfl,ha⟩:=d1;obtain⟨c,hc,kc⟩:=R1.dW ha;rw[hc]at h1;split at h1
 case h_2=>exact h1.elim
 rename_i l0 e0;cases e0;obtain⟨_,ae,k1,k2⟩:=kc;refine⟨a,ae,rfl,k1,λbs hb l hl=>?_⟩;obtain⟨F2,g2,R2,d2⟩:=Rel.ku R1 k2 hb;exact g6 R2 (End.weak g2 h1) ⟨l,_,rfl,hl,rfl,d2⟩
def tU (bo:Bool) (m:DE W):DE W:=λenv bx=>fA (m env bx) λx bx1=>match pC bx1 x with
 |some l=>bH bo (some (.ak l)) bx1
 |none=>.bad
theorem FD (bo:Bool) (hg:Gl X "dict") (hm:X.mg "dict"=none) (ho:PD X T Z o ma) (hs:bJ o=true):PD X T Z (.Call (.Name "dict" p) [o] [] pos) (tU bo ma):=by
 refine PE.imp (FC hg hm ho hs) λσ H Q ⟨F,r,env,bx,R,h⟩=>⟨F,r,env,bx,R,End.bind h λx bx1 F1 r1 v H1 g1 R1 d1 h1=>?_⟩;split at h1
 ·rename_i l q;obtain⟨a,ae,rfl,k1,k2⟩:=AU R1 d1 q;exact⟨a,ae,rfl,k1,λl hl=>g6 R1 h1 ⟨l,_,rfl,hl,rfl,k2⟩⟩
 ·exact h1.elim
noncomputable def sj (l:List (List Key×D)) (k:List Key) (d:D):List (List Key×D):=
 if (l.any λkv=>decide (kv.1=k))=true then l.map (λkv=>if kv.1=k then (kv.1,d) else kv) else l++[(k,d)]
theorem bq.any {F:Hp}(k:List Key):∀ {l:List (List Key×D)}{vs:List (List Key×V)},bq F l vs->(l.any λkv=>decide (kv.1=k))=(vs.any λkv=>decide (kv.1=k))
 |[],_,h=>by cases (show _=[] from h);rfl
 |(k',d')::l,_,⟨v,r,e,h1,h2⟩=>by subst e;simp only[qX,bq.any k h2]
theorem bq.map {F:Hp}{k:List Key}{d:D}{v:V}(hv:Den F d v):∀ {l:List (List Key×D)}{vs:List (List Key×V)},bq F l vs->bq F (l.map λkv=>if kv.1=k then (kv.1,d) else kv) (vs.map λkv=>if kv.1=k then (kv.1,v) else kv)
 |[],_,h=>by cases (show _=[] from h);rfl
 | (k',d')::l,_,⟨u,r,e,h1,h2⟩=>by
   subst e;by_cases c:k'=k
   ·simp only[aG,c,if_true];exact⟨v,_,rfl,hv,bq.map hv h2⟩
   ·simp only[aG,c,if_false];exact⟨u,_,rfl,h1,bq.map hv h2⟩
theorem bq.app {F:Hp}{m:List (List Key×D)}{us:List (List Key×V)}(hm:bq F m us):∀ {l:List (List Key×D)}{vs:List (List Key×V)},bq F l vs->bq F (l++m) (vs++us)
 |[],_,h=>by cases (show _=[] from h);exact hm
 |(k',d')::l,_,⟨u,r,e,h1,h2⟩=>by subst e;exact⟨u,_,rfl,h1,bq.app hm h2⟩
theorem bq.put2 {k:List Key}{d:D}{l:List (List Key×D)}{vs:List (List Key×V)}(h:bq F l vs) (hv:Den F d v):bq F (sj l k d) (putK vs k v):=by
 unfold sj putK;rw[bq.any k h];split
 ·exact bq.map hv h
 ·exact bq.app (show bq F [(k,d)] [(k,v)] from⟨v,[],rfl,hv,rfl⟩) h
def pE (m k v:DE W):aq:=λenv bx=>bg (v env bx) λz bx1=>bg (m env bx1) λx ag=>bg (k env ag) λy bE=>match x,y,z with
 | .b n,.d (.tup d),.d u=>(match bE[n]?,tP d with
   |some (.dT l),some k=>if l.length<sizeLine then .nx env (bE.set n (.dT (sj l k u))) else .bad
   |_,_=>.bad)
 |_,_,_=>.bad
theorem FE {value:Expr}(hu:X.A.units+1<cLine) (ho:PD X T Z o ma) (hi:PD X T Z e mb) (hv:PD X T Z value mc) (hs:swapsWith value (some (.Subscript o e pos')) pos.line X.env=pure false) :
 cP X T Z (.Assign [.Subscript o e pos'] value pos) (pE ma mb mc):=by
 refine PS.imp (Db hu ho hi hv hs) λD σ H ⟨F,r,env,bx,R,h⟩=>?_;refine⟨F,r,env,bx,R,End.bg h λz bx1 F1 r1 t H1 g1 R1 d1 h1=>⟨F1,r1,env,bx1,R1,End.bg h1 λx ag F2 r2 v H2 g2 R2 d2 h2=>⟨F2,r2,env,ag,R2,End.bg h2 λy bE F3 r3 u H3 g3 R3 d3 h3=>?_⟩⟩⟩;split at h3
 ·rename_i n d w;obtain⟨a,rfl,ha⟩:=(g3.den (w:=.b n) d2:a7 F3 r3 (.b n) v);obtain⟨c,hc,kc⟩:=R3.dW ha;rw[hc]at h3;split at h3
  ·rename_i l k e1 e2;cases e1;split at h3
   ·rename_i hl;obtain⟨hF,ae,k1,k2⟩:=kc;obtain⟨b,us,rfl,f1,f2⟩:=d3;cases Di e2 f2;have dz:Den F3 w t:=g3.den (w:=.d w) (g2.den (w:=.d w) d1);exact⟨a,_,rfl,.inr ⟨ae,k,b,k1,rfl,R3.fh _ _ f1,by rw[<-k2.length];exact hl,rfl⟩,h3 F3 r3 _ _ (.refl F3 r3) (R3.write ha hF ⟨hF,_,fu,k2.put2 dz⟩)⟩
   ·exact h3.elim
  ·exact h3.elim
 ·exact h3.elim
def bB (m:DE W) (k:Str):DE W:=λenv bx=>fA (m env bx) λx bx1=>match x with
 |.m l=>(match l.lookup k with|some n=>.val (.b n) bx1|none=>.bad)
 |_=>.bad
theorem Dm {k:Str}{n:Nat}:∀ {l:List (Str×Nat)}{as:List Addr},rG r (l.map (·.2)) as->l.lookup k=some n->∃ a,r[n]?=some a /\ dt (List.zipWith (λk a=>((.inr k.1:Key),V.ref a)) l as) (.inr k)=some (.ref a)
 |[],_,_,e=>by cases e
 | (x,m)::l,_,h,e=>by
   obtain⟨a,t,rfl,h1,h2⟩:=h;rw[List.zipWith_cons_cons];rw[dH]at e;cases q:k==x with
   | true =>
     rw[q]at e;cases e;have:k=x:=by simpa using q
     subst this;exact⟨a,h1,jw rfl⟩
   | false =>
     rw[q]at e;obtain⟨b,e1,e2⟩:=Dm h2 e;refine⟨b,e1,?_⟩;rw[iM (λz=>by cases z;simp at q)];exact e2
theorem OY {k:Str}{q:Pos}(hu:X.A.units+1<cLine) (ho:PD X T Z o ma):PD X T Z (.Subscript o (.Constant (.str k) j q) pos) (bB ma k):=by
 refine PE.imp (C9 hu ho mT (λ_ _=>rfl)) λσ H Q ⟨F,r,env,bx,R,h⟩=>⟨F,r,env,bx,R,End.bind h λx bx1 F1 r1 v H1 g1 R1 d1 h1=>?_⟩;split at h1
 ·rename_i l;split at h1
  ·rename_i n e;obtain⟨c,as,rfl,f1,ad⟩:=d1;obtain⟨a,e1,e2⟩:=Dm ad e;exact⟨c,.ref a,rfl,.inl ⟨_,.inr k,.inl (R1.fh _ _ f1),rfl,e2.symm⟩,h1 F1 r1 _ H1 (.refl F1 r1) R1 ⟨a,rfl,e1⟩⟩
  ·exact h1.elim
 ·exact h1.elim
end
noncomputable def nK:Nat->Bx
 |0=>.lst []
 |1=>.ak []
 |_=>.dT []
noncomputable def Vq:Nat->HO
 |0=>.lst []
 |1=>.dK []
 |_=>.dT []
def Zg (n:Nat):TE:=λ_ H Q=>∀ p,H p=none->Q (.ref p) (upd H p (Vq n))
noncomputable def II (q:Str×Nat):TE×TE:=(λ_ H Q=>Q (.str q.1) H,Zg q.2)
noncomputable def yV:List (Str×Nat)->Nat->List (Str×Nat)
 |[],_=>[]
 |q::l,n=>(q.1,n)::yV l (n+1)
def uZ (l:List (Str×Nat)):DE W:=λ_ bx=>if (l.map (·.1)).Nodup /\ l.length<=15 then .val (.m (yV l bx.length)) (bx++l.map λq=>nK q.2) else .bad
noncomputable abbrev u4 (l:List (Str×Nat)) (as:List Addr):List (Key×V):=List.zipWith (λk a=>(.inr k.1,V.ref a)) l as
theorem Az {p:Addr}:∀ {l:List (Str×Nat)}{r:List Addr}{H:Hp}{bx:List Bx}{Q:List (V×V)->Hp->Prop},Rel T F r σ H env bx->H p=some (.dK [])->p∉r ->
 (∀ as H2,Rel T F (r++as) σ H2 env (bx++l.map λq=>nK q.2)->H2 p=some (.dK [])->p∉r++as->as.length=l.length->Q ((u4 l as).map λkv=>(kV kv.1,kv.2)) H2)->yF (l.map II) σ H Q
 |[],r,H,bx,Q,R,hp,hn,h=>h [] H (by simpa using R) hp (by simpa using hn) rfl
 | (k,n)::l,r,H,bx,Q,R,hp,hn,h=>λq hq=>by
   have c:pT F (upd H q (Vq n)) q (nK n):=by
    match n with
    |0=>exact⟨R.n9 hq,[],fu,rfl⟩
    |1=>exact⟨R.n9 hq,[],fu,rfl⟩
    |_+2=>exact⟨R.n9 hq,[],fu,rfl⟩
   have ne:=fU hp hq;refine Az (l:=l) (R.yt hq c) (by rw[fv ne];exact hp) (by simp[hn,ne]) λas H2 R2 h2 n2 hl=>?_;exact h (q::as) H2 (by simpa using R2) h2 (by simpa using n2) (by simp[hl])
theorem AA:∀ {l:List (Key×V)}{acc:List (Key×V)},((acc++l).map (·.1)).Nodup->tj acc l=acc++l
 |[],acc,_=>(qV acc).symm
 | q::l,acc,h=>by
   have e:putK acc q.1 q.2=acc++[q]:=by
    unfold putK;rw[if_neg];intro z;obtain⟨x,m,e⟩:=pL.mp z;rw[vA,uk]at h;exact h.2.2 x.1 (vB m) q.1 (by simp) (of_decide_eq_true e)
   show tj (putK acc q.1 q.2) l=_;rw[e,AA (by simpa using h)];simp
theorem BS:∀ {l:List (Str×Nat)}{as r:List Addr},as.length=l.length->rG (r++as) ((yV l r.length).map (·.2)) as /\ List.zipWith (λk a=>((.inr k.1:Key),V.ref a)) (yV l r.length) as=u4 l as
 |[],[],_,_=>⟨rfl,rfl⟩
 |[],_::_,_,h=>by cases h
 |q::l,[],_,h=>by cases h
 | q::l,a::as,r,h=>by
   obtain⟨h1,h2⟩:=BS (l:=l) (as:=as) (r:=r++[a]) (by simpa using h);rw[cG,qi]at h1;rw[cG]at h2;refine⟨⟨a,as,rfl,?_,h1⟩,?_⟩
   ·rw[cE (ao _),p9];rfl
   ·show _::_=_::_;exact congrArg _ h2
theorem Do:∀ {l:List (Str×Nat)}{as:List Addr},as.length=l.length->(u4 l as).map (·.1)=l.map λq=>.inr q.1
 |[],_,_=>rfl
 |q::l,[],h=>by cases h
 |q::l,a::as,h=>congrArg _ (Do (l:=l) (as:=as) (by simpa using h))
theorem Rel.own (R:Rel T F r σ H env bx) {u:HO}(hf:F p=none) (hn:p∉r) (hT:T.H₀ p=none):Rel T (upd F p u) r σ (upd H p u) env bx:=by
 have s:=gZ (o:=u) hf;refine⟨λa v e=>?_,λi w e=>?_,R.len,R.nd,λn c a e1 e2=>?_,λa v e m=>?_,R.new,R.n0,R.sl,λa v e=>?_⟩
 ·by_cases z:a=p
  ·subst z;rw[fu]at e ⊢;exact e
  ·rw[fv z]at e ⊢;exact R.fh a v e
 ·obtain⟨v,e1,e2⟩:=R.slot i w e;exact⟨v,e1,e2.mono s (kJ r)⟩
 ·have ne:a≠p:=λz=>hn (by rw[<-z];exact List.mem_iff_getElem?.mpr ⟨n,e2⟩);exact(R.box n c a e1 e2).grow s (λz=>by rw[fv ne];exact z) λu z=>by rw[fv ne];exact z
 ·rw[fv (λz=>by rw[z,hT]at e;cases e)];exact R.keep a v e m
 ·by_cases z:a=p
  ·subst z;exact .inr (.inr (.inl hT))
  ·rw[fv z]at e;exact R.fs a v e
theorem G1 {l:List (Str×Nat)}{ks:List (Option Expr)}{vs:List Expr}(h:uP X pos ks vs (l.map II)) (vW:ks.all (·.isSome)=true) (hl:ks.length=vs.length) (h0:ks≠[]) (Ik:ks.length<=15):PD X T Z (.Dict ks vs pos) (uZ l):=by
 refine PE.imp (LO h vW hl h0 Ik) λσ H Q ⟨F,r,env,bx,R,h⟩=>λp hp=>?_;unfold uZ at h;split at h
 case isFalse=>exact h.elim
 rename_i nd;have hn:=R.uK hp;have hT:T.H₀ p=none:=by
  cases q:T.H₀ p with
  |none=>rfl
  |some u=>rw[R.keep p u q hn]at hp;cases hp
 refine Az (R.UI hp) fu hn λas H2 R2 h2 n2 hl=>⟨h2,u4 l as,rfl,by simp[List.length_zipWith];omega,?_⟩;have nk:((u4 l as).map (·.1)).Nodup:=by
  rw[Do hl,List.Nodup,nS];exact(nS.mp nd.1).imp λh z=>h (Sum.inr.inj z)
 rw[AA (acc:=[]) nk,kL];obtain⟨a1,a2⟩:=BS (l:=l) (as:=as) (r:=r) hl;have g:aO F r (upd F p (.dK (u4 l as))) (r++as):=⟨gZ (R.n9 hp),ui r as⟩;rw[R.len]at a1 a2;exact h _ (r++as) _ _ g (R2.own (R.n9 hp) n2 hT) ⟨p,as,rfl,by rw[a2];exact fu,a1⟩
noncomputable def wL (kd:Str->Bool):List (Option Expr)->List Expr->Option (List (Str×Nat))
 |[],[]=>some []
 |some (.Constant (.str k) _ _)::ks,.Dict [] [] _::vs=>(wL kd ks vs).map ((k,if kd k then 2 else 1)::·)
 |some (.Constant (.str k) _ _)::ks,.List [] _::vs=>(wL kd ks vs).map ((k,0)::·)
 |_,_=>none
theorem Ml {kd:Str->Bool}:∀ {ks:List (Option Expr)}{vs:List Expr}{l:List (Str×Nat)},wL kd ks vs=some l->uP X pos ks vs (l.map II) /\ ks.all (·.isSome)=true /\ ks.length=vs.length /\ ks.length=l.length:=by
 intro ks vs
 fun_induction wL kd ks vs with
 |case1=>intro l h;cases h;exact⟨LN,rfl,rfl,rfl⟩
 | case2 k j q ks p vs ih =>
   intro l h;obtain⟨m,e,rfl⟩:=Option.map_eq_some_iff.mp h;obtain⟨a,b,c,d⟩:=ih e;refine⟨?_,b,by simp[c],by simp[d]⟩;cases kd k with
   |true=>exact oa mT BE a
   |false=>exact oa mT BD a
 | case3 k j q ks p vs ih =>
   intro l h;obtain⟨m,e,rfl⟩:=Option.map_eq_some_iff.mp h;obtain⟨a,b,c,d⟩:=ih e;exact⟨oa mT (PE.imp (Ga jY) λσ H Q h=>⟨eG _,h⟩) a,b,by simp[c],by simp[d]⟩
 |case4=>intro l h;cases h
end L2.DL
namespace HT
open PySem.W
noncomputable def ay.flat:ay->Bool
 |.t _=>false
 |_=>true
theorem Mm (A:Around) (s:Shared) {v:Value}{a b:ay}(f:a.flat=true) (p:eQ h v a) (q:eQ h u b) (hl:a.like b=true):∃ e,SeqAt.EqAt A s v u e /\ (e=true ↔ a=b):=by
 cases a with
 | i n =>
   cases b with
   |i m=>obtain⟨t,rfl⟩:=p;obtain⟨t',rfl⟩:=q;exact⟨_,xI n t m t',by simp⟩
   |_=>cases hl
 | s x =>
   cases b with
   |s y=>obtain⟨t,rfl⟩:=p;obtain⟨t',rfl⟩:=q;exact⟨_,EY x t y t',by simp⟩
   |_=>cases hl
 |t _=>cases f
theorem Mn (A:Around) (s:Shared) {v:Value}{a b:ay}(f:a.flat=true) (p:eQ h v a) (q:eQ h u b) (hl:a.like b=true) (prog:Program) (w:World) (E:Value->Shared->Prop) (Q:Value->Shared->Prop) (k:Q (.bool (a.lt b)) s) :
 wpAny (model prog w) A (richCompare .Lt v u) Q E s:=by
 cases a with
 | i n =>
   cases b with
   |i m=>obtain⟨t,rfl⟩:=p;obtain⟨t',rfl⟩:=q;exact(EL k:wpAny (model prog w) A (compareOp .Lt _ _) Q E s)
   |_=>cases hl
 | s x =>
   cases b with
   |s y=>obtain⟨t,rfl⟩:=p;obtain⟨t',rfl⟩:=q;exact(lt_str k:wpAny (model prog w) A (compareOp .Lt _ _) Q E s)
   |_=>cases hl
 |t _=>cases f
section
open PySem.SeqAt
open PySem.AutoSeq1 (wpAny_loadPart')
open PySem.MeetsSeq PySem.MeetsSeq2 PySem.MeetsSeq3
theorem Af (l b:Addr) (items items2:Array Value) (n n2:Nat) (dd nv:Option Addr) (sl kA:Array (Option Value)) (h0:Heap) (x y:List ay) (hi:cZ h0 items.toList x) (hj:cZ h0 items2.toList y) (fx:x.all ay.flat=true) (hl:c7 x y=true) :
 Meets (Builtin.«tuple.__lt__» ⟨[.ref l,.ref b],[]⟩)
  (λ_ R s=>s.heap.get? l=some { cls:=.type "tuple",dict:=dd,data:=.seq items n,slots:=sl } /\ s.heap.get? b=some { cls:=.type "tuple",dict:=nv,data:=.seq items2 n2,slots:=kA } /\
   R (.ok (.ret (.bool (bS x y)))) s):=
 .of_wp λprog w A R s h=>by
  obtain⟨hp,g,d,tk,os⟩:=s;obtain⟨dJ,hb,h⟩:=h;have f2:=Tw;have z1:items.size=x.length:=by rw[<-hi.length];simp
  have z2:items2.size=y.length:=by rw[<-hj.length];simp
  wp_walk using wpAny_loadPart' dJ,wpAny_loadPart' hb,Qo _ (λrest b s'=>b.1=none /\ s'=⟨hp,g,d,tk,os⟩ /\ ∃ (vs ws:List Value) (p q:List ay),rest=vs.zip ws /\
   cZ h0 vs p /\ cZ h0 ws q /\ p.all ay.flat=true /\ c7 p q=true /\ p.length+items2.size=q.length+items.size /\ R (.ok (.ret (.bool (bS p q)))) ⟨hp,g,d,tk,os⟩) _
  case turn =>
   rintro⟨v,u⟩ rest b s' ⟨qy,rfl,vs,ws,p,q,hz,hv,hw,hf,hk,hlen,hR⟩;cases hv with
   |nil=>rw[vp]at hz;cases hz
   | @cons v' a vs p ha Zh =>
     cases hw with
     |nil=>rw[xm]at hz;cases hz
     | @cons u' c ws q hc Zi =>
       rw[ng]at hz;injection hz with Hx Hy;injection Hx with hy hx;subst hy hx;simp only[bb]at hlen;have pS:(a.like c&&c7 p q)=true:=hk;rw[qW]at hf;rw[aB]at hf pS;unfold bS at hR;obtain⟨e,he,vR⟩:=Mm A.in1 ⟨hp,g,d,tk,os⟩ hf.1 ha hc pS.1;refine af (he prog w _ _ ?_);cases e with
       | true =>
         rw[if_pos (vR.mp rfl)]at hR
         wp_walk
         exact⟨rfl,rfl,_,_,_,_,Hy,Zh,Zi,hf.2,pS.2,by omega,hR⟩
       | false =>
         rw[if_neg (λq=>absurd (vR.mpr q) cb)]at hR;have Hz:=Mn A.in1 ⟨hp,g,d,tk,os⟩ hf.1 ha hc pS.1 prog w
         wp_walk using Hz
         exact⟨_,rfl,by simpa using hR⟩
  case fin =>
   rintro⟨b1,b2⟩ s' ⟨qy,rfl,vs,ws,p,q,hz,hv,hw,hf,hk,hlen,hR⟩;simp only at qy;subst qy;have hx:bS p q=decide (items.size<items2.size):=by
    cases hv with
    | nil =>
      cases hw with
      |nil=>simp only[eJ]at hlen;unfold bS;exact(decide_eq_false (by omega)).symm
      |cons c hw=>simp only[eJ,bb]at hlen;unfold bS;exact(decide_eq_true (by omega)).symm
    | cons a hv =>
      cases hw with
      |nil=>simp only[eJ,bb]at hlen;unfold bS;exact(decide_eq_false (by omega)).symm
      |cons c hw=>rw[ng]at hz;cases hz
   rw[hx]at hR
   wp_walk
   exact⟨_,rfl,by simpa[Builtin.Tuple.tupleCompareSizes] using hR⟩
  case h=>exact⟨rfl,rfl,items.toList,items2.toList,x,y,rfl,hi,hj,fx,hl,by omega,h⟩
end
theorem Mo {l b:Addr}{items2:Array Value}{x y:List ay}(hl:IsTup s.heap l items) (hb:IsTup s.heap b items2) (hi:cZ s.heap items.toList x) (hj:cZ s.heap items2.toList y)
 (fx:x.all ay.flat=true) (hk:c7 x y=true) (hu:A.units<cLine) (h:Q (.bool (bS x y)) s):wpAny (model prog w) A (compareOp .Lt (.ref l) (.ref b)) Q E s:=by
 obtain⟨⟨cls,dd,data,sl⟩,ho,hc,n,hd⟩:=id hl;obtain⟨⟨HC,nv,data2,kA⟩,kR,cV,n2,hd2⟩:=id hb;simp only at hc hd cV hd2;subst hc hd cV hd2;exact Qp (op:=.Lt) ⟨_,ho,rfl⟩ ⟨_,kR,rfl⟩ S8 S9 (Ta _ _) (Af l b items items2 n n2 dd nv sl kA s.heap x y hi hj fx hk)
  ⟨ho,kR,show Value.bool (bS x y)≠Value.notImplemented /\ Q (.bool (bS x y)) s from⟨(λx=>nomatch x),h⟩⟩ hu
end HT
namespace L2.DL
open PySem.W
open HT (ay c7 bS)
def IJ:R2:=λx y H Q=>∃ F a b vs us l m,x=.ref a /\ y=.ref b /\ Sub F H /\ F a=some (.tup vs) /\ F b=some (.tup us) /\ ax F (l.map dD) vs /\ ax F (m.map dD) us /\ l.all ay.flat=true /\ c7 l m=true /\ Q (.bl (bS l m)) H
theorem OZ (hu:X.A.units<cLine):aH X (compareOp .Lt) IJ:=by
 intro pins s σ H x y v u Q I rx ry h;obtain⟨F,a,b,vs,us,l,m,rfl,rfl,sub,fa,fb,da,db,f,k,q⟩:=h;cases rx;cases ry;obtain⟨_,its,r1,p1⟩:=(show aV X.prog X.w H s.heap a (.tup vs) from I.aj a _ (sub _ _ fa));obtain⟨_,rC,r2,p2⟩:=(show aV X.prog X.w H s.heap b (.tup us) from I.aj b _ (sub _ _ fb));exact HT.Mo p1 p2 (by simpa using AT I sub da r1) (by simpa using AT I sub db r2) f k hu ⟨.bl (bS l m),H,I,rfl,q⟩
def dg:D->D->Option Res
 |.int i,.int j=>some (.old (.bl (decide (i<j))))
 | .tup a,.tup b=>(match intsOf a,intsOf b with
   |some ns,some ms=>some (.old (.bl (HT.lexLt ns ms)))
   | _,_=>match qN a,qN b with
     |some l,some m=>if l.all ay.flat=true /\ c7 l m=true then some (.old (.bl (bS l m))) else none
     |_,_=>none)
 |_,_=>none
theorem O0 (hu:X.A.units<cLine):aH X (compareOp .Lt) (λx y H Q=>(dj (λi j=>.bl (decide (i<j))) x y H Q \/ vS X.K x y H Q) \/ IJ x y H Q):=(LF hu).or (OZ hu)
theorem Zj:bI (λx y H Q=>(dj (λi j=>.bl (decide (i<j))) x y H Q \/ vS K x y H Q) \/ IJ x y H Q) dg:=by
 intro F H x y v w Q s sub rx ry e k;unfold dg at e;split at e
 ·exact .inl (US F H _ _ v w Q s sub rx ry e k)
 ·rename_i a b;split at e
  ·rename_i ns ms e1 e2;exact .inl (US F H _ _ v w Q s sub rx ry (by show ((intsOf a).bind λns=>(intsOf b).map λms=>Res.old (.bl (HT.lexLt ns ms)))=some s;rw[e1,e2];exact e) k)
  ·split at e
   ·rename_i l m e1 e2;split at e
    ·rename_i c;cases e;rw[lM e1]at rx;rw[lM e2]at ry;obtain⟨p,vs,rfl,h1,h2⟩:=rx;obtain⟨q,us,rfl,h3,h4⟩:=ry;exact .inr ⟨F,p,q,vs,us,l,m,rfl,rfl,sub,h1,h3,h2,h4,c.1,c.2,k _ _ ⟨rfl,rfl⟩⟩
    ·cases e
   ·cases e
 ·cases e
end L2.DL
namespace K1
open L2 L2.DL
def oA:aq:=(fL (gH (jo "int" (dV 0)) (yw (jo "bool" (dV 0)))))
def iA:List W->List Bx->O W:=aS 1 (aJ oA)
def mE:aq:=(fL (gH (fq K1.iA 1 (fc (dV 0) fg)) (d3 pV pV (dV 1) (dV 0) (dV 2))))
def fV:List W->List Bx->O W:=aS 3 (aJ mE)
def oB:aq:=(fL (gH (jo "tuple" (dV 0)) (d3 pV pV (dV 1) (dN false bf (fc (dV 0) fg)) (dV 2))))
def fZ:List W->List Bx->O W:=aS 3 (aJ oB)
def mF:aq:=(fL (dN false cu (fc (fS false [none,some 0] (sY (fc (dC (.int 1)) (fc (dN false bf (fc (dV 0) fg)) fg))) (fe 0) fQ (d2 false dg (d2 false ah (dV 1) (d2 false dX (dV 0) (dC (.int 1)))) (d2 false ah (dV 1) (dV 0)))) fg)))
def gK:List W->List Bx->O W:=aS 1 (aJ mF)
def iB:aq:=(fL (gH (fq K1.fZ 3 (fc (dV 0) (fc (dC (.int 1)) (fc (dC (.int 5)) fg)))) (dN false cu (fc (fS false [none] (bt (dV 0)) (fe 0) fQ (fq K1.fV 3 (fc (dV 0) (fc (dC (.int 0)) (fc (dC (.int 3)) fg))))) fg))))
def ig:List W->List Bx->O W:=aS 1 (aJ iB)
def iC:aq:=(fw (aI (eY (eP (dB (fq K1.fZ 3 (fc (dV 0) (fc (d2 false fP (dC (.int 3)) (dC (.int 1))) (fc (d2 false fP (dC (.int 3)) (dC (.int 1))) fg)))))) (eP (dB (dN false cu (fc (fS false [none] (bt (dV 0)) (fe 0) fQ (fq K1.fV 3 (fc (dV 0) (fc (dC (.int 0)) (fc (dC (.int 9)) fg))))) fg))))) (fL (dC (.bl false))) aQ) (fL (dN false cu (fc (fS false [none,none] (rT (fc (dV 0) (fc (kY false (dV 0) (kX (dC (.int 1))) kW) fg))) (gq 2 (fB (fe 0) (fB (fe 1) gz))) fQ (d2 false pV (dV 1) (dV 0))) fg))))
def jd:List W->List Bx->O W:=aS 1 (aJ iC)
def jO:aq:=(fL (gH (fq K1.fZ 3 (fc (dV 0) (fc (dC (.int 2)) (fc (dC (.int 2)) fg)))) (gH (fq K1.fV 3 (fc (d2 false ah (dV 0) (dC (.int 0))) (fc (dC (.int 1)) (fc (dC (.int 999)) fg)))) (fq K1.jd 1 (fc (d2 false ah (dV 0) (dC (.int 1))) fg)))))
def j7:List W->List Bx->O W:=aS 1 (aJ jO)
def iD:aq:=(fL (gH (fq K1.fZ 3 (fc (dV 0) (fc (dC (.int 1)) (fc (dC (.int 4)) fg)))) (dN false cu (fc (fS false [none] (bt (dV 0)) (fe 0) fQ (fq K1.j7 1 (fc (dV 0) fg))) fg))))
def ij:List W->List Bx->O W:=aS 1 (aJ iD)
def gx:aq:=(fw (aI (eP (dB (fq K1.fZ 3 (fc (dV 0) (fc (dC (.int 2)) (fc (dC (.int 2)) fg)))))) (fL (dC (.bl false))) aQ) (fL (gH (dN false cu (fc (fS false [none,some 1] (bt (dV 0)) (fe 0) fQ (fq K1.fV 3 (fc (dV 0) (fc (dC (.int 0)) (fc (d2 false dX (dV 1) (dC (.int 1))) fg))))) fg)) (d2 false dg (d2 false ah (dV 0) (dC (.int 0))) (d2 false ah (dV 0) (dC (.int 1)))))))
def gn:List W->List Bx->O W:=aS 2 (aJ gx)
def iE:aq:=(fw (aI (eP (dB (jo "tuple" (dV 0)))) (fL (dC (.bl false))) aQ) (fL (gH (dN false cu (fc (fS false [none,some 1] (bt (dV 0)) (fe 0) fQ (fq K1.gn 2 (fc (dV 0) (fc (dV 1) fg)))) fg)) (fq K1.gK 1 (fc (dV 0) fg)))))
def gc:List W->List Bx->O W:=aS 2 (aJ iE)
def jf:aq:=(fw (aI (eP (dB (fq K1.fZ 3 (fc (dV 0) (fc (dC (.int 4)) (fc (dC (.int 4)) fg)))))) (fL (dC (.bl false))) aQ) (fw (fC (dV 0) (gq 4 (fB (fe 1) (fB (fe 2) (fB (fe 3) (fB (fe 4) gz)))))) (fL (gH (fq K1.ig 1 (fc (dV 1) fg)) (gH (fq K1.ij 1 (fc (dV 2) fg)) (gH (fq K1.gc 2 (fc (dV 3) (fc (dN false bf (fc (dV 2) fg)) fg))) (fq K1.fV 3 (fc (dV 4) (fc (dC (.int 1)) (fc (dC (.int 9)) fg))))))))))
def jC:List W->List Bx->O W:=aS 5 (aJ jf)
def iH:aq:=(fw (aI (dB (d2 false dg (dV 1) (pW (dV 0)))) (fL (yH (dV 0) (dV 1))) aQ) (fL (dC (.int 0))))
def gL:List W->List Bx->O W:=aS 2 (aJ iH)
def iS:aq:=(fw (aI (dB (d2 false uL (dV 0) (d2 false e9 (dC (.int 10)) (dC (.int 18))))) (fL (gI true (fc (d2 false dX (dV 0) (d2 false e9 (dC (.int 10)) (dC (.int 18)))) fg))) aQ) (fw (fC (dC (.int 0)) (fe 1)) (fw (jp (bW (fc (dC (.int 64)) fg)) (fe 2) (fw (fC (d2 false kF (d2 false dA (d2 false fP (d2 false fP (d2 false kF (dV 0) (dC (.int 2147483629))) (d2 false dA (dC (.int 7919)) (dV 2))) (dC (.int 1))) (dC (.int 48271))) (dC (.int 2147483647))) (fe 3)) (fw (fC (d2 false kF (d2 false fP (d2 false fP (d2 false dA (dV 3) (dV 3)) (d2 false dA (dC (.int 69621)) (dV 2))) (dC (.int 7))) (dC (.int 2147483587))) (fe 3)) (fC (d2 false fP (d2 false dA (dV 1) (dC (.int 2147483587))) (dV 3)) (fe 1))))) (fL (gI true (fc (dV 1) fg))))))
def jg:List W->List Bx->O W:=aS 4 (aJ iS)
def oC:aq:=(fw (fC (d2 false kF (d2 false ah (dV 0) (dC (.int 0))) (dV 1)) (fe 2)) (fw (fC (d2 false rL (d2 false ah (dV 0) (dC (.int 0))) (dV 1)) (wo (dV 0) (dC (.int 0)))) (fL (dV 2))))
def fj:List W->List Bx->O W:=aS 3 (aJ oC)
def jV:aq:=(fw (fC (d2 false ah (gI false (fc (dC (.int 9)) (fc (dC (.int 3)) (fc (dC (.int 1)) (fc (dC (.int 9)) fg))))) (fq K1.fj 2 (fc (dV 0) (fc (dC (.int 4)) fg)))) (fe 1)) (fw (fC (sZ false (dN false cx (fc (fS false [none,some 0,some 1] (bW (fc (dC (.int 4)) fg)) (fe 0) fQ (fq K1.fj 2 (fc (dV 1) (fc (d2 false fP (dV 2) (dC (.int 1))) fg)))) fg))) (fe 2)) (fL (fK (fc (d2 false ah (gI false (fc (dC (.int 30)) (fc (d2 false fP (dC (.int 1)) (fq K1.fj 2 (fc (dV 0) (fc (dC (.int 20)) fg)))) (fc (dC (.int 999)) (fc (dC (.int 8)) fg))))) (fq K1.fj 2 (fc (dV 0) (fc (dC (.int 4)) fg)))) (fc (dN false nE (fc (dV 2) fg)) fg))))))
def gi:List W->List Bx->O W:=aS 3 (aJ jV)
end K1
namespace K2
open L2 L2.DL
def AB:aq:=(fw (fC (d2 false ah (gI false (fc (dC (.int 0)) (fc (dC (.int 0)) (fc (d2 false e9 (dC (.int 10)) (dC (.int 6))) (fc (d2 false e9 (dC (.int 10)) (dC (.int 39))) fg))))) (fq K1.fj 2 (fc (dV 0) (fc (dC (.int 4)) fg)))) (fe 3)) (fw (fC (dN false nE (fc (fS false [none,none,some 3] (bt (dV 1)) (gq 2 (fB (fe 0) (fB (fe 1) gz))) fQ (fK (fc (d2 false fP (dV 0) (dV 2)) (fc (d2 false fP (dV 1) (dV 2)) fg)))) fg)) (fe 4)) (fL (fK (fc (dV 4) (fc (fS false [none,some 3] (bt (dV 2)) (fe 0) fQ (d2 false fP (fK (fc (d2 false fP (d2 false ah (dV 0) (dC (.int 0))) (dV 1)) fg)) (kY false (dV 0) (kX (dC (.int 1))) kW))) (fc (dV 3) fg)))))))
def gW:List W->List Bx->O W:=aS 5 (aJ AB)
def AC:aq:=(fL (gH (fq K1.iA 1 (fc (dV 0) fg)) (d2 false uL (dV 0) (dC (.int 0)))))
def j8:List W->List Bx->O W:=aS 1 (aJ AC)
end K2
namespace dh
open L2 L2.DL
def jh:aq:=(aI (eP (dB (fq K1.jC 1 (fc (dV 0) fg)))) eA aQ)
def iI:List W->List Bx->O W:=aS 1 (aJ jh)
end dh
namespace K11
open L2 L2.DL
def jD:aq:=(fw (fC (dN false nE (fc (fS false [none,some 0] (bW (fc (d2 false fP (dC (.int 1)) (fq K1.fj 2 (fc (dV 0) (fc (dC (.int 5)) fg)))) fg)) (fe 0) fQ (fq K1.fj 2 (fc (dV 1) (fc (dC (.int 4)) fg)))) fg)) (fe 1)) (fw (fC (dN false nE (fc (fS false [none,some 0] (bW (fc (d2 false fP (dC (.int 1)) (fq K1.fj 2 (fc (dV 0) (fc (dC (.int 4)) fg)))) fg)) (fe 0) fQ (fq K1.gi 1 (fc (dV 1) fg))) fg)) (fe 2)) (fw (fC (gI false fg) (fe 3)) (fw (jp (bW (fc (dN false bf (fc (dV 2) fg)) fg)) (fe 4) (fC (d2 false fP (dV 3) (fS false [none,some 0,some 4] (bW (fc (dV 4) fg)) (fe 0) (dB (d2 false aF (fq K1.fj 2 (fc (dV 1) (fc (dC (.int 3)) fg))) (dC (.int 0)))) (fK (fc (dV 0) (fc (dV 2) fg))))) (fe 3))) (fL (fK (fc (dV 1) (fc (dV 2) (fc (dN false nE (fc (dN false cx (fc (dV 3) fg)) fg)) (fc (d2 false ah (gI false (fc (dC (.int 1)) (fc (dC (.int 2)) (fc (dC (.int 9)) (fc (d2 false fP (dC (.int 1)) (fq K1.fj 2 (fc (dV 0) (fc (dC (.int 9)) fg)))) fg))))) (fq K1.fj 2 (fc (dV 0) (fc (dC (.int 4)) fg)))) fg))))))))))
def ik:List W->List Bx->O W:=aS 5 (aJ jD)
def jE:aq:=(fw (fC (dN true uM (fc (dV 1) fg)) (fe 2)) (fL (fS false [none,some 0,some 2] (bt (dV 1)) (fe 0) fQ (tO (dV 2) (fq K1.fj 2 (fc (dV 1) (fc (dN false bf (fc (dV 2) fg)) fg)))))))
def gp:List W->List Bx->O W:=aS 3 (aJ jE)
def oD:aq:=(fw (kT 3 4 (fc (fq K1.fj 2 (fc (dV 0) (fc (dV 2) fg))) (fc (fq K1.fj 2 (fc (dV 0) (fc (d2 false ah (gI false (fc (dC (.int 3)) (fc (dC (.int 10)) fg))) (fq K1.fj 2 (fc (dV 0) (fc (dC (.int 2)) fg)))) fg))) fg))) (fw (kT 5 6 (fc (fq K1.fj 2 (fc (dV 0) (fc (dN false bf (fc (d2 false ah (dV 1) (dC (.int 0))) fg)) fg))) (fc (fq K1.fj 2 (fc (dV 0) (fc (dC (.int 5)) fg))) fg))) (fw (aI (dB (d2 false aF (dV 6) (dC (.int 0)))) (fL (fK (fc (dV 3) (fc (dC (.str "out")) (fc (dV 4) fg))))) aQ) (fw (aI (dB (d2 false dg (dV 6) (dC (.int 3)))) (fL (fK (fc (dV 3) (fc (dC (.str "to")) (fc (dV 4) (fc (dV 5) fg)))))) aQ) (fw (fC (d2 false ah (gI false (fc (dC (.int 0)) (fc (fq K1.fj 2 (fc (dV 0) (fc (dC (.int 9)) fg))) (fc (fq K1.fj 2 (fc (dV 0) (fc (dC (.int 40)) fg))) (fc (dC (.int 999)) fg))))) (fq K1.fj 2 (fc (dV 0) (fc (dC (.int 4)) fg)))) (fe 7)) (fL (fK (fc (dV 3) (fc (dC (.str "in")) (fc (dV 4) (fc (fq K1.fj 2 (fc (dV 0) (fc (dN false bf (fc (d2 false ah (dV 1) (dC (.int 1))) fg)) fg))) (fc (dV 5) (fc (dV 7) (fc (fq K1.fj 2 (fc (dV 0) (fc (dC (.int 100)) fg))) fg))))))))))))))
def gD:List W->List Bx->O W:=aS 8 (aJ oD)
def mG:aq:=(fw (fC uW (fe 4)) (fw (jp (bW (fc (fq K1.fj 2 (fc (dV 0) (fc (d2 false fP (dV 2) (dC (.int 1))) fg))) fg)) (fe 5) (fw (fC (fq K11.gD 3 (fc (dV 0) (fc (dV 1) (fc (dV 3) fg)))) (fe 6)) (fw (aI (kC (dB (d2 false aF (d2 false ah (dV 6) (dC (.int 1))) (dC (.str "in")))) (dB (d2 false qH (fq K1.fj 2 (fc (dV 0) (fc (dC (.int 3)) fg))) (dC (.int 0))))) (fC (d2 false fP (fK (fc (d2 false rL (d2 false ah (dV 6) (dC (.int 0))) (dC (.int 3))) fg)) (kY false (dV 6) (kX (dC (.int 1))) kW)) (fe 6)) aQ) (pE (dV 4) (dV 6) (dC (.bl true)))))) (fL (fq K11.gp 2 (fc (dV 0) (fc (wK false (dV 4)) fg))))))
def gM:List W->List Bx->O W:=aS 7 (aJ mG)
def mH:aq:=(fw (fC (gI true fg) (fe 3)) (fw (tR 1 (fe 4) (fw (fC (d2 false ah (bX (dV 1) (dV 4)) (dC (.int 0))) (fe 5)) (aI (eY (dB (d2 false (inD false) (fK (fc (dV 2) (fc (dV 5) fg))) (d2 false ah (dV 0) (dC (.int 2))))) (dB (d2 false (inD false) (fK (fc (dV 5) (fc (dV 2) fg))) (d2 false ah (dV 0) (dC (.int 2)))))) (gJ (dY (dV 3) (fK (fc (dV 4) (fc (d2 false ah (bX (dV 1) (dV 4)) (dC (.int 1))) fg))))) aQ))) (fL (tF 3))))
def f7:List W->List Bx->O W:=aS 6 (aJ mH)
def jF:aq:=(fw (fC (kY false (dV 2) kW (kX (dC (.int 3)))) (gq 3 (fB (fe 3) (fB (fe 4) (fB (fe 5) gz))))) (fw (fC (bB (dV 1) "there") (fe 6)) (fw (aI (dB (d2 false aF (dV 4) (dC (.str "in")))) (fw (aI (dB (c9 false (dV 5) (bB (dV 1) "came"))) (fL (dC (.str "there"))) aQ) (fw (aI (dB (d2 false (inD false) (d2 false ah (dV 2) (dC (.int 4))) (fS false [none,none] (bt (fq K11.f7 3 (fc (dV 0) (fc (dV 6) (fc (d2 false ah (dV 2) (dC (.int 3))) fg))))) (gq 2 (fB (fe 0) (fB (fe 1) gz))) fQ (dV 1)))) (fL (dC (.str "apart"))) aQ) (fw (kg (bB (dV 1) "came") (dV 5) (dV 2)) (fw (kg (dV 6) (dV 5) (fK (fc (d2 false ah (dV 2) (dC (.int 3))) (fc (d2 false ah (dV 2) (dC (.int 4))) fg)))) (fw (pE (bB (dV 1) "doors") (fK (fc (dV 3) (fc (d2 false ah (dV 2) (dC (.int 4))) fg))) (dC (.bl true))) (fL (dC (.str "takes")))))))) aQ) (fw (aI (dB (c9 true (dV 5) (dV 6))) (fL (dC (.str "none"))) aQ) (fw (fC (bX (dV 6) (dV 5)) (gq 2 (fB (fe 7) (fB (fe 8) gz)))) (fw (aI (dB (d2 false aF (dV 4) (dC (.str "out")))) (fw (gJ (uX (dV 6) (dV 5))) (kg (bB (dV 1) "gone") (dV 5) (dV 3))) (aI (dB (d2 false aF (dV 8) (d2 false ah (dV 2) (dC (.int 3))))) (fL (dC (.str "same"))) (aI (dB (d2 false (inD false) (d2 false ah (dV 2) (dC (.int 3))) (fS false [none,none,some 5] (bt (fq K11.f7 3 (fc (dV 0) (fc (dV 6) (fc (dV 7) fg))))) (gq 2 (fB (fe 0) (fB (fe 1) gz))) (dB (d2 false bY (dV 0) (dV 2))) (dV 1)))) (fL (dC (.str "apart"))) (fw (kg (dV 6) (dV 5) (fK (fc (dV 7) (fc (d2 false ah (dV 2) (dC (.int 3))) fg)))) (pE (bB (dV 1) "doors") (fK (fc (dV 3) (fc (d2 false ah (dV 2) (dC (.int 3))) fg))) (dC (.bl true))))))) (fw (pE (bB (dV 1) "doors") (fK (fc (dV 3) (fc (dV 8) fg))) (dC (.bl true))) (fL (dC (.str "takes"))))))))))
def ge:List W->List Bx->O W:=aS 9 (aJ jF)
def j9:aq:=(fw (fC (uZ [("there",1),("came",1),("gone",1),("doors",2),("at",0),("words",0)]) (fe 2)) (fw (jp (bt (dN false cx (fc (dV 1) fg))) (fe 3) (fw (gJ (dY (bB (dV 2) "words") (fK (fc (dV 3) (fc (fq K11.ge 3 (fc (dV 0) (fc (dV 2) (fc (dV 3) fg)))) fg))))) (gJ (dY (bB (dV 2) "at") (fK (fc (d2 false ah (dV 3) (dC (.int 0))) (fc (tU false (bB (dV 2) "there")) fg))))))) (fL (dV 2))))
def gj:List W->List Bx->O W:=aS 4 (aJ j9)
def iT:aq:=(fw (kT 2 3 (fc (d2 false dX (dN false bf (fc (d2 false ah (dV 0) (dC (.int 1))) fg)) (dC (.int 1))) (fc (d2 false dX (dN false bf (fc (d2 false ah (dV 0) (dC (.int 0))) fg)) (dC (.int 1))) fg))) (fw (aI (dB (d2 false aF (dV 1) (dC (.str "in")))) (fL (fK (fc (dC (.int 9)) (fc (dV 2) (fc (dV 3) (fc (dC (.int 999)) (fc (dC (.int 99)) fg))))))) aQ) (fw (aI (dB (d2 false aF (dV 1) (dC (.str "out")))) (fL (fK (fc (dC (.int 9)) fg))) aQ) (fw (aI (dB (d2 false aF (dV 1) (dC (.str "to")))) (fL (fK (fc (dC (.int 9)) (fc (dV 3) fg)))) aQ) (fL (fK fg))))))
def gN:List W->List Bx->O W:=aS 4 (aJ iT)
def jP:aq:=(fw (aI (eY (eP (dB (jo "tuple" (dV 1)))) (eY (dB (d2 false dg (dN false bf (fc (dV 1) fg)) (dC (.int 3)))) (eP (dB (fq K2.j8 1 (fc (d2 false ah (dV 1) (dC (.int 0))) fg)))))) (fL (dC (.bl false))) aQ) (fw (fC (fq K11.gN 2 (fc (dV 0) (fc (d2 false ah (dV 1) (dC (.int 1))) fg))) (fe 2)) (fw (aI (dB (d2 false bY (dN false bf (fc (dV 2) fg)) (d2 false dX (dN false bf (fc (dV 1) fg)) (dC (.int 2))))) (fL (dC (.bl false))) aQ) (fL (dN false cu (fc (fS false [none,none] (rT (fc (kY false (dV 1) (kX (dC (.int 2))) kW) (fc (dV 2) fg))) (gq 2 (fB (fe 0) (fB (fe 1) gz))) fQ (fq K1.fV 3 (fc (dV 0) (fc (dC (.int 0)) (fc (dV 1) fg))))) fg))))))
def ji:List W->List Bx->O W:=aS 3 (aJ jP)
def jG:aq:=(fw (aI (eY (eP (dB (jo "list" (dV 1)))) (dB (d2 false qH (dN false bf (fc (dV 1) fg)) (dC (.int 16))))) (fL (dC (.bl false))) aQ) (fL (gH (dN false cu (fc (fS false [none,some 0] (bt (dV 1)) (fe 0) fQ (fq K11.ji 2 (fc (dV 1) (fc (dV 0) fg)))) fg)) (fq K1.gK 1 (fc (dN false cx (fc (dV 1) fg)) fg)))))
def jj:List W->List Bx->O W:=aS 2 (aJ jG)
def il:aq:=(fw (gJ (fq dh.iI 1 (fc (dV 0) fg))) (aI (eP (dB (fq K11.jj 2 (fc (dV 0) (fc (dV 1) fg))))) eA aQ))
def iJ:List W->List Bx->O W:=aS 2 (aJ il)
def jH:aq:=(fw (aI (dB (d2 false aF (d2 false ah (dV 0) (dC (.int 1))) (dC (.str "in")))) (fL (d2 false ah (dV 0) (dC (.int 4)))) aQ) (fw (aI (dB (d2 false aF (d2 false ah (dV 0) (dC (.int 1))) (dC (.str "to")))) (fL (d2 false ah (dV 0) (dC (.int 3)))) aQ) (fL (dC .non))))
def fG:List W->List Bx->O W:=aS 1 (aJ jH)
def BT:aq:=(fL (d2 false (inD true) (fK (fc (dN false minD (fc (dV 1) (fc (dV 2) fg))) (fc (dN false maxD (fc (dV 1) (fc (dV 2) fg))) fg))) (d2 false ah (dV 0) (dC (.int 2)))))
def im:List W->List Bx->O W:=aS 3 (aJ BT)
def lc:aq:=(fw (kT 4 5 (fc (d2 false ah (dV 3) (dC (.int 1))) (fc (d2 false ah (dV 3) (dC (.int 2))) fg))) (fw (aI (kC (dB (d2 false aF (dV 4) (dC (.str "in")))) (dB (c9 false (dV 5) (dV 1)))) (fL (dC (.str "there"))) aQ) (fw (aI (kC (dB (d2 false bY (dV 4) (dC (.str "in")))) (dB (c9 true (dV 5) (dV 2)))) (fL (dC (.str "none"))) aQ) (fw (aI (dB (d2 false aF (dV 4) (dC (.str "out")))) (fL (dC (.str "takes"))) aQ) (fw (fC (fq K11.fG 1 (fc (dV 3) fg)) (fe 6)) (fw (aI (kC (dB (d2 false aF (dV 4) (dC (.str "to")))) (dB (d2 false aF (bX (dV 2) (dV 5)) (dV 6)))) (fL (dC (.str "same"))) aQ) (fw (fC (rH (dB (d2 false aF (dV 4) (dC (.str "in")))) (d2 false ah (dV 3) (dC (.int 3))) (bX (dV 1) (dV 5))) (fe 7)) (fw (fC (tT false [none,some 2,some 6] 2 (fe 0) (dB (d2 false aF (bX (dV 1) (dV 0)) (dV 2))) (dV 0)) (fe 8)) (fw (aI (dB (dN false cu (fc (fS false [none,some 0,some 1,some 7] (bt (dV 8)) (fe 0) fQ (fq K11.im 3 (fc (dV 1) (fc (dV 3) (fc (bX (dV 2) (dV 0)) fg))))) fg))) (fL (dC (.str "takes"))) aQ) (fL (dC (.str "apart"))))))))))))
def ia:List W->List Bx->O W:=aS 9 (aJ lc)
def G2:aq:=(fw (fC (gI true fg) (fe 2)) (fw (fC (pX true []) (fe 3)) (fw (fC (pX true []) (fe 4)) (fw (jp (bt (dN false cx (fc (dV 1) fg))) (fe 5) (fw (fC (d2 false ah (dV 5) (dC (.int 2))) (fe 6)) (fw (fC (fq K11.ia 4 (fc (dV 0) (fc (dV 3) (fc (dV 4) (fc (dV 5) fg))))) (fe 7)) (fw (aI (dB (d2 false bY (dV 7) (dC (.str "takes")))) (fw (gJ (dY (dV 2) (fK (fc (dV 5) (fc (dV 7) (fc (dC .non) (fc (dC .non) fg))))))) yx) aQ) (fw (gJ (dY (dV 2) (fK (fc (dV 5) (fc (dV 7) (fc (rX (dV 4) (dV 6)) (fc (fq K11.fG 1 (fc (dV 5) fg)) fg))))))) (fw (aI (dB (d2 false aF (d2 false ah (dV 5) (dC (.int 1))) (dC (.str "in")))) (kg (dV 3) (dV 6) (d2 false ah (dV 5) (dC (.int 3)))) aQ) (aI (dB (d2 false aF (d2 false ah (dV 5) (dC (.int 1))) (dC (.str "out")))) (tQ (dV 4) (dV 6)) (kg (dV 4) (dV 6) (fq K11.fG 1 (fc (dV 5) fg)))))))))) (fL (tF 2))))))
def AX:List W->List Bx->O W:=aS 8 (aJ G2)
def lf:aq:=(fw (gJ (fq K11.iJ 2 (fc (dV 0) (fc (dV 1) fg)))) (fL (fS true [none,none,none,none] (bt (fq K11.AX 2 (fc (dV 0) (fc (dV 1) fg)))) (gq 4 (fB (fe 0) (fB (fe 1) (fB (fe 2) (fB (fe 3) gz))))) fQ (fK (fc (dV 0) (fc (dV 1) fg))))))
def ic:List W->List Bx->O W:=aS 2 (aJ lf)
def Ng:aq:=(fw (jp (bW (fc (dN false maxD (fc (dC (.int 1)) (fc (dN false minD (fc (pW (dV 0)) (fc (dC (.int 6)) fg))) fg))) fg)) (fe 1) (fw (fC (fq K1.jg 1 (fc (fq K1.gL 2 (fc (dV 0) (fc (dV 1) fg))) fg)) (fe 2)) (fw (fC (fq K11.ik 1 (fc (dV 2) fg)) (fe 3)) (jp (bW (fc (dC (.int 4)) fg)) (fe 4) (fw (fC (fq K11.gM 4 (fc (dV 2) (fc (dV 3) (fc (dC (.int 16)) (fc (d2 false ah (gI false (fc (dC (.int 6)) (fc (dC (.int 40)) fg))) (fq K1.fj 2 (fc (dV 2) (fc (dC (.int 2)) fg)))) fg))))) (fe 5)) (fw (fC (fq K2.gW 3 (fc (dV 2) (fc (fK fg) (fc (dV 5) fg)))) (gq 3 (fB (fe 6) (fB (fe 7) (fB (fe 8) gz))))) (fw (fC (dM (bB (fq K11.gj 2 (fc (dV 3) (fc (dV 7) fg))) "words")) (fe 9)) (jp (bt (gI false (fc (dV 7) (fc (sZ false (dV 7)) (fc (fq K11.gp 2 (fc (dV 2) (fc (dV 7) fg))) fg))))) (fe 10) (fw (fC (dM (dV 10)) (fe 11)) (jp (bW (fc (dC (.int 2)) fg)) (fe 12) (fw (fC (fq K11.ic 2 (fc (dV 3) (fc (dV 10) fg))) (fe 13)) (fw (aI (eY (dB (d2 false bY (dM (dV 13)) (dV 9))) (dB (d2 false bY (dM (dV 10)) (dV 11)))) (fL (dC (.bl false))) aQ) (gJ (dY (dV 13) (fK (fc (fK (fc (dC (.int 0)) (fc (dC (.str "out")) (fc (dC (.int 0)) fg)))) (fc (dC (.str "takes")) fg))))))))))))))))) (fL (dC (.bl true))))
def AY:List W->List Bx->O W:=aS 14 (aJ Ng)
end K11
namespace L2.DL
section
variable {β : Type}
@[simp] theorem fM {a:α}{k:α->List Bx->O β}:fA (.val a bx) k=k a bx:=rfl
@[simp] theorem Sl {k:α->List Bx->O β}:fA .bad k=.bad:=rfl
@[simp] theorem gX {a:α}{k:α->List Bx->OS}:bg (.val a bx) k=k a bx:=rfl
@[simp] theorem Sn {k:α->List Bx->OS}:bg (.bad:O α) k=.bad:=rfl
@[simp] theorem oF {a:α}{k:α->List Bx->O β}:bindB (.val a bx) k=k a bx:=rfl
end
@[simp] theorem R9:dV i env bx=match env[i]? with|some (some w)=>.val w bx|_=>.bad:=rfl
@[simp] theorem Rr {d:D}:dC d env bx=.val (.d d) bx:=rfl
@[simp] theorem oG:fg env bx=.val [] bx:=rfl
@[simp] theorem jQ {k:DE (List W)}:fc m k env bx=fA (m env bx) λw bx1=>fA (k env bx1) λl ag=>.val (w::l) ag:=rfl
@[simp] theorem Dp {k:DE (List W)}:fq fn n k env bx=fA (k env bx) λws bx1=>if ws.length=n then fn ws bx1 else .bad:=rfl
@[simp] theorem Sa:dB m env bx=fA (m env bx) λw bx1=>match w with|.d (.bl k)=>.val k bx1|_=>.bad:=rfl
@[simp] theorem G3 {m k:DE Bool}:kC m k env bx=fA (m env bx) λb bx1=>match b with|true=>k env bx1|false=>.val false bx1:=rfl
@[simp] theorem Nh {m k:DE Bool}:eY m k env bx=fA (m env bx) λb bx1=>match b with|true=>.val true bx1|false=>k env bx1:=rfl
@[simp] theorem O1 {m:DE Bool}:eP m env bx=fA (m env bx) λb bx1=>.val (!b) bx1:=rfl
@[simp] theorem Dq {k:DE W}:gH m k env bx=fA (m env bx) λw bx1=>match w with|.d (.bl true)=>k env bx1|.d (.bl false)=>.val (.d (.bl false)) bx1|_=>.bad:=rfl
@[simp] theorem RX:yw m env bx=fA (m env bx) λw bx1=>match w with|.d (.bl k)=>.val (.d (.bl (!k))) bx1|_=>.bad:=rfl
@[simp] theorem AZ:fQ env bx=.val true bx:=rfl
@[simp] theorem RY {n:String}:jo n m env bx=fA (m env bx) λw bx1=>match br bx1 w with|some d=>.val (.d (.bl (rM (pf d) n))) bx1|none=>.bad:=rfl
@[simp] theorem Mp {b:Bool}{mb:DE W}:d2 b g ma mb env bx=fA (ma env bx) λx bx1=>fA (mb env bx1) λy ag=>bH b ((br ag x).bind λp=>(br ag y).bind λq=>g p q) ag:=rfl
@[simp] theorem CG {b:Bool}{g:List D->Option Res}{k:DE (List W)}:dN b g k env bx=fA (k env bx) λws bx1=>bH b ((eX bx1 ws).bind g) bx1:=rfl
@[simp] theorem So {g':D->D->Option Res}{mb mc:DE W}:d3 g g' ma mb mc env bx=fA (ma env bx) λx bx1=>fA (mb env bx1) λy ag =>
 fA (bH false ((br ag x).bind λp=>(br ag y).bind λq=>g p q) ag) λz bE=>match z with
  |.d (.bl true)=>fA (mc env bE) λw cM=>bH false ((br cM y).bind λp=>(br cM w).bind λq=>g' p q) cM
  |.d (.bl false)=>.val (.d (.bl false)) bE
  |_=>.bad:=rfl
@[simp] theorem AD {d:D}:br bx (.d d)=some d:=rfl
@[simp] theorem lO:eX bx []=some []:=rfl
@[simp] theorem oH {d:D}{l:List W}:eX bx (.d d::l)=(eX bx l).map λt=>d::t:=by
 simp only[eX,AD];cases eX bx l<;>rfl
@[simp] theorem PM {b:Bool}:bH b none bx=.bad:=rfl
@[simp] theorem gw {q:Res}:bH false (some q) bx=.val (.d q.toD) bx:=by cases q<;>rfl
@[simp] theorem Sb:bH true (some (.lst l)) bx=.val (.b bx.length) (bx++[.lst l]):=rfl
@[simp] theorem A0 {d:D}:(Res.old d).toD=d:=rfl
@[simp] theorem A3:(Res.tup l).toD=.tup l:=rfl
@[simp] theorem iF:(Res.lst l).toD=.lst l:=rfl
@[simp] theorem RZ {l:List (Key×D)}:(Res.ak l).toD=.ak l:=rfl
@[simp] theorem Sc:aQ env bx=.nx env bx:=rfl
@[simp] theorem A4 {m k:aq}:fw m k env bx=match m env bx with|.nx aX bx1=>k aX bx1|o=>o:=rfl
@[simp] theorem Mq:gJ m env bx=bg (m env bx) λ_ bx1=>.nx env bx1:=rfl
@[simp] theorem CH:fL m env bx=bg (m env bx) λw bx1=>.rt w bx1:=rfl
@[simp] theorem G4 {m k:aq}:aI t m k env bx=bg (t env bx) λb bx1=>match b with|true=>m env bx1|false=>k env bx1:=rfl
@[simp] theorem lg {g:DG}:fC m g env bx=bg (m env bx) λw bx1=>match g w env bx1 with|some (aX,ag)=>.nx aX ag|none=>.bad:=rfl
@[simp] theorem G5 {m:DE (List W)}{g:DG}{body:aq}:jp m g body env bx=bg (m env bx) λds bx1=>ck g body ds env bx1:=rfl
@[simp] theorem lQ {w:W}:fe i w env bx=some (env.set i (some w),bx):=rfl
@[simp] theorem R0:gz [] env bx=some (env,bx):=rfl
@[simp] theorem Rs {g:DG}{k:kE}{w:W}{l:List W}:fB g k (w::l) env bx=(g w env bx).bind λ(aX,bx1)=>k l aX bx1:=rfl
@[simp] theorem R6 {k:kE}:gq n k (.d (.tup l)) env bx=if l.length=n then k (l.map W.d) env bx else none:=rfl
@[simp] theorem jk {src:List (Option Nat)}{g:DG}:fS bo src mi g tf te env bx=fA (mi env bx) λds bx1=>fA (aU g tf te ds (cq src env) bx1 []) λl ag=>bH bo (some (.lst l)) ag:=rfl
@[simp] theorem CI:cq [] env=[]:=rfl
@[simp] theorem BU {l:List (Option Nat)}:cq (none::l) env=none::cq l env:=rfl
@[simp] theorem BV {l:List (Option Nat)}:cq (some i::l) env=((env[i]?).bind id)::cq l env:=rfl
@[simp] theorem Ds:bt m env bx=fA (m env bx) λw bx1=>match w with|.d (.lst l)=>.val (l.map W.d) bx1|.d (.tup l)=>.val (l.map W.d) bx1|_=>.bad:=rfl
@[simp] theorem O2 {k:DE (List W)}:fK k env bx=fA (k env bx) λws bx1=>bH false ((kD ws).bind λl=>if l.length<=sizeLine then some (.tup l) else none) bx1:=rfl
@[simp] theorem G6 {k:DE (List W)}:gI bo k env bx=fA (k env bx) λws bx1=>bH bo ((kD ws).bind λl=>if l.length<=sizeLine then some (.lst l) else none) bx1:=rfl
@[simp] theorem Rt:kD []=some []:=rfl
@[simp] theorem O3 {d:D}{l:List W}:kD (.d d::l)=(kD l).map λt=>d::t:=rfl
@[simp] theorem Sj {l u:DE (Option Int)}:kY bo m l u env bx=fA (m env bx) λx bx1=>fA (l env bx1) λi ag=>fA (u env ag) λj bE=>bH bo ((br bE x).bind λd=>ph d i j) bE:=rfl
@[simp] theorem Sk:kW env bx=.val none bx:=rfl
@[simp] theorem R7:kX m env bx=fA (m env bx) λw bx1=>match w with|.d (.int i)=>.val (some i) bx1|_=>.bad:=rfl
@[simp] theorem Sd:sZ bo m env bx=fA (m env bx) λx bx1=>bH bo ((br bx1 x).bind λd=>match d with|.lst l=>some (.lst l.reverse)|_=>none) bx1:=rfl
theorem gu {m:aq}{ws:List W}{d:D}(h:m (ws.map some++List.replicate (n-ws.length) none) bx=.rt (.d d) bx):aS n (aJ m) ws bx=.val (.d d) bx:=by
 simp only[aS,aJ,DL.envOf,h,nC,nD,EC]
end L2.DL
namespace K1
open L2 L2.DL
noncomputable def wh:D->Bool
 |.int _=>true
 |_=>false
noncomputable def wi (d:D) (lo hi:Int):Bool:=match d with
 |.int i=>decide (lo<=i)&&decide (i<=hi)
 |_=>false
noncomputable def tl (d:D) (lo hi:Int):Bool:=match d with
 |.tup l=>decide (lo<=(l.length:Int))&&decide ((l.length:Int)<=hi)
 |_=>false
theorem O4 (d:D):rM (pf d) "int"=(match d with|.int _=>true|.bl _=>true|_=>false):=by cases d<;>rfl
theorem Mr (d:D):rM (pf d) "bool"=(match d with|.bl _=>true|_=>false):=by cases d<;>rfl
theorem l8 (d:D):rM (pf d) "tuple"=(match d with|.tup _=>true|_=>false):=by cases d<;>rfl
theorem BW (d:D) (bx:List Bx):iA [.d d] bx=.val (.d (.bl (wh d))) bx :=
 gu (by cases d<;>simp[oA,O4,Mr,wh])
theorem gF (d:D) (lo hi:Int) (bx:List Bx):fV [.d d,.d (.int lo),.d (.int hi)] bx=.val (.d (.bl (wi d lo hi))) bx :=
 gu (by
  cases d<;>simp[mE,BW,wh,wi,pV];rename_i i;by_cases h:lo<=i<;>simp[h])
theorem fT (d:D) (lo hi:Int) (bx:List Bx):fZ [.d d,.d (.int lo),.d (.int hi)] bx=.val (.d (.bl (tl d lo hi))) bx :=
 gu (by
  cases d<;>simp[oB,l8,tl,pV,bf];rename_i l;by_cases h:lo<=(l.length:Int)<;>simp[h])
theorem A5 {g:DG}{tf:DE Bool}{te:DE W}(J:aM->Prop) (p:D->Bool) (f:D->D) {bx:List Bx}:∀ (l:List D) (env:aM) (acc:List D),J env ->
 (∀ d∈l,∀ env,J env->∃ aC,g (.d d) env bx=some (aC,bx) /\ J aC /\ tf aC bx=.val (p d) bx /\ (p d=true->te aC bx=.val (.d (f d)) bx))->acc.length+l.length<=sizeLine ->
 aU g tf te (l.map W.d) env bx acc=.val (acc++(l.filter p).map f) bx
 |[],env,acc,_,_,_=>by simp[aU]
 | d::l,env,acc,j,h,n=>by
   obtain⟨aC,e1,j',e2,e3⟩:=h d (bL ..) env j;have n':acc.length<sizeLine:=by simp only[bb]at n;omega
   simp only[aG,aU,e1,e2,oF];have h':=λx (m:x∈l)=>h x (bC _ m);cases q:p d with
   | false =>
     simp only[xr,q];exact A5 J p f l aC acc j' h' (by simp only[bb]at n;omega)
   | true =>
     simp only[xr,q,e3 q,oF,if_pos n'];rw[A5 J p f l aC (acc++[f d]) j' h' (by simp only[cG,bb,eJ]at n ⊢;omega)];simp
theorem iU {g:DG}(J:aM->Prop) (f:D->D) (j:J env) (h:∀ d∈l,∀ env,J env->∃ aC,g (.d d) env bx=some (aC,bx) /\ J aC /\ te aC bx=.val (.d (f d)) bx) (n:l.length<=sizeLine) :
 aU g fQ te (l.map W.d) env bx []=.val (l.map f) bx:=by
 rw[A5 (tf:=fQ) J (λ_=>true) f l env [] j (λd m e je=>let ⟨e',a,b,c⟩:=h d m e je;⟨e',a,b,rfl,λ_=>c⟩) (by simpa using n)];rw[List.filter_eq_self.mpr (λ_ _=>rfl)];rfl
theorem G7 (l:List D) (p:D->Bool):kG (l.map λd=>D.bl (p d))=some (l.map p):=by
 induction l with
 |nil=>rfl
 |cons d l ih=>simp[kG,ih]
@[simp] theorem all_map (l:List D) (p:D->Bool):cu [.lst (l.map λd=>D.bl (p d))]=some (.old (.bl (l.all p))):=by
 simp[cu,G7,sx]
def rooms (d:D):Bool:=match d with
 |.tup l=>tl (.tup l) 1 5&&l.all λx=>wi x 0 3
 |_=>false
theorem wM:(5:Nat)<=sizeLine:=by decide
theorem lh {lo hi:Int}(h:tl (.tup l) lo hi=true):lo<=(l.length:Int) /\ (l.length:Int)<=hi:=by simpa[tl] using h
theorem G8 (d:D) (bx:List Bx):ig [.d d] bx=.val (.d (.bl (rooms d))) bx :=
 gu (by
  cases d with
  | tup l =>
    cases h:tl (.tup l) 1 5 with
    |false=>simp[iB,fT,h,rooms]
    | true =>
      have n:=lh h;simp[iB,fT,h,rooms];rw[iU (λe=>∃ w,e=[w]) (λx=>.bl (wi x 0 3)) ⟨none,rfl⟩ (λx _ e ⟨w,je⟩=>⟨[some (.d x)],by simp[je],⟨_,rfl⟩,by simp[gF]⟩) (by have:=wM;omega)];simp
  |_=>simp[iB,fT,tl,rooms])
noncomputable def sk:List D->Bool
 |x::y::l=>(match x,y with|.int i,.int j=>decide (j<=i)|_,_=>false)&&sk (y::l)
 |_=>true
def tV (d:D):Bool:=match d with
 |.tup l=>tl (.tup l) 4 4&&(l.all (λx=>wi x 0 9)&&sk l)
 |_=>false
theorem G9 (d:D) (bx:List Bx):jd [.d d] bx=.val (.d (.bl (tV d))) bx :=
 gu (by
  cases d with
  | tup l =>
    cases h:tl (.tup l) 4 4 with
    |false=>simp[iC,fT,h,tV,fP]
    | true =>
      have n:=lh h;simp[iC,fT,h,tV,fP];rw[iU (λe=>∃ w,e=[w]) (λx=>.bl (wi x 0 9)) ⟨none,rfl⟩ (λx _ e ⟨w,je⟩=>⟨[some (.d x)],by simp[je],⟨_,rfl⟩,by simp[gF]⟩) (by have:=wM;omega)];simp;cases q:l.all λx=>wi x 0 9 with
      |false=>simp
      | true =>
        have l4:l.length=4:=by omega
        obtain⟨a,l,rfl⟩:∃ a t,l=a::t:=pK (by omega);obtain⟨b,l,rfl⟩:∃ a t,l=a::t:=pK (by simp at l4;omega);obtain⟨c,l,rfl⟩:∃ a t,l=a::t:=pK (by simp at l4;omega);obtain⟨e,l,rfl⟩:∃ a t,l=a::t:=pK (by simp at l4;omega);obtain rfl:l=[]:=by simpa using l4
        have yW:∀ x,wi x 0 9=true->∃ i,x=.int i:=λx hx=>by
         cases x<;>simp[wi]at hx;exact⟨_,rfl⟩
        simp at q;obtain⟨a,rfl⟩:=yW a q.1;obtain⟨b,rfl⟩:=yW b q.2.1;obtain⟨c,rfl⟩:=yW c q.2.2.1;obtain⟨e,rfl⟩:=yW e q.2.2.2;simp[rT,ph,DL.cutD,HT.aA,eu,aU,pV,sk,cu,kG,sizeLine]
  |_=>simp[iC,fT,tl,tV,fP])
theorem IK (h:tl (.tup l) 2 2=true):∃ a b,l=[a,b]:=by
 have n:=lh h;obtain⟨a,l,rfl⟩:∃ a t,l=a::t:=pK (by omega);obtain⟨b,l,rfl⟩:∃ a t,l=a::t:=pK (by simp at n;omega);have:l.length=0:=by simp at n;omega
 exact⟨a,b,by rw[xw this]⟩
theorem Zk (h:tl (.tup l) 4 4=true):∃ a b c e,l=[a,b,c,e]:=by
 have n:=lh h;obtain⟨a,l,rfl⟩:∃ a t,l=a::t:=pK (by omega);obtain⟨b,l,rfl⟩:∃ a t,l=a::t:=pK (by simp at n;omega);obtain⟨c,l,rfl⟩:∃ a t,l=a::t:=pK (by simp at n;omega);obtain⟨e,l,rfl⟩:∃ a t,l=a::t:=pK (by simp at n;omega);have:l.length=0:=by simp at n;omega
 exact⟨a,b,c,e,by rw[xw this]⟩
theorem CJ {x:D}{lo hi:Int}(h:wi x lo hi=true):∃ i,x=.int i /\ lo<=i /\ i<=hi:=by
 cases x<;>simp[wi]at h;exact⟨_,rfl,h⟩
def kind (d:D):Bool:=match d with
 |.tup l=>tl (.tup l) 2 2&&(match l with|[a,b]=>wi a 1 999&&tV b|_=>false)
 |_=>false
theorem Ms (d:D) (bx:List Bx):j7 [.d d] bx=.val (.d (.bl (kind d))) bx :=
 gu (by
  cases d with
  | tup l =>
    cases h:tl (.tup l) 2 2 with
    |false=>simp[jO,fT,h,kind]
    | true =>
      obtain⟨a,b,rfl⟩:=IK h;simp[jO,fT,h,kind,ah,a5,bA,gF];cases q:wi a 1 999<;>simp[G9]
  |_=>simp[jO,fT,tl,kind])
def kinds (d:D):Bool:=match d with
 |.tup l=>tl (.tup l) 1 4&&l.all kind
 |_=>false
theorem Ja (d:D) (bx:List Bx):ij [.d d] bx=.val (.d (.bl (kinds d))) bx :=
 gu (by
  cases d with
  | tup l =>
    cases h:tl (.tup l) 1 4 with
    |false=>simp[iD,fT,h,kinds]
    | true =>
      have n:=lh h;simp[iD,fT,h,kinds];rw[iU (λe=>∃ w,e=[w]) (λx=>.bl (kind x)) ⟨none,rfl⟩ (λx _ e ⟨w,je⟩=>⟨[some (.d x)],by simp[je],⟨_,rfl⟩,by simp[Ms]⟩) (by have:=wM;omega)];simp
  |_=>simp[iD,fT,tl,kinds])
def dO (n:Int) (d:D):Bool:=match d with
 |.tup l=>tl (.tup l) 2 2&&(match l with|[.int a,.int b]=>decide (0<=a)&&decide (a<b)&&decide (b<=n-1)|_=>false)
 |_=>false
theorem Jb (d:D) (n:Int) (bx:List Bx):gn [.d d,.d (.int n)] bx=.val (.d (.bl (dO n d))) bx :=
 gu (by
  cases d with
  | tup l =>
    cases h:tl (.tup l) 2 2 with
    |false=>simp[gx,fT,h,dO]
    | true =>
      obtain⟨a,b,rfl⟩:=IK h;simp[gx,fT,h,dO,ah,a5,bA];have c:=iU (g:=fe 0) (te:=fq fV 3 (fc (dV 0) (fc (dC (.int 0)) (fc (d2 false dX (dV 1) (dC (.int 1))) fg)))) (bx:=bx) (l:=[a,b]) (λe=>∃ w,e=[w,xN n]) (λx=>.bl (wi x 0 (n-1))) ⟨none,rfl⟩ (λx _ e ⟨w,je⟩=>⟨[some (.d x),xN n],by simp[je],⟨_,rfl⟩,by simp[gF,dX]⟩) (show (2:Nat)<=sizeLine by decide);simp only[aG,qh]at c;rw[c];have e:=all_map [a,b] λx=>wi x 0 (n-1);simp only[aG,qh]at e;simp[e];cases q1:wi a 0 (n-1) with
      | false =>
        cases a<;>cases b<;>simp[wi]at q1 ⊢;omega
      | true =>
        cases q2:wi b 0 (n-1) with
        | false =>
          obtain⟨i,rfl,i1,i2⟩:=CJ q1;cases b<;>simp[wi]at q2 ⊢;omega
        | true =>
          obtain⟨i,rfl,i1,i2⟩:=CJ q1;obtain⟨j,rfl,j1,j2⟩:=CJ q2;simp[dg,i1,j2]
  |_=>simp[gx,fT,tl,dO])
noncomputable abbrev dP (p:Int×Int):D:=.tup [.int p.1,.int p.2]
abbrev xP (l:List (Int×Int)):Option W:=some (.d (.lst (l.map dP)))
def nL (p q:Int×Int):Bool:=HT.lexLt [p.1,p.2] [q.1,q.2]
theorem Jc {n:Int}{d:D}(h:dO n d=true):∃ p:Int×Int,d=dP p /\ 0<=p.1 /\ p.1<p.2 /\ p.2<=n-1:=by
 cases d with
 | tup l =>
   simp only[dO,aB]at h;obtain⟨a,b,rfl⟩:=IK h.1;have h2:=h.2;cases a<;>cases b<;>simp at h2;exact⟨(_,_),rfl,h2.1.1,h2.1.2,h2.2⟩
 |_=>simp[dO]at h
theorem BX {n:Int}:∀ {l:List D},l.all (dO n)=true->∃ ps:List (Int×Int),l=ps.map dP /\ ∀ p∈ps,0<=p.1 /\ p.1<p.2 /\ p.2<=n-1
 |[],_=>⟨[],rfl,λp m=>by cases m⟩
 | d::l,h=>by
   simp only[qW,aB]at h;obtain⟨p,rfl,hp⟩:=Jc h.1;obtain⟨ps,rfl,hs⟩:=BX h.2;exact⟨p::ps,rfl,λq m=>by
    rcases bG.mp m with rfl|m
    ·exact hp
    ·exact hs q m⟩
def incr:List (Int×Int)->Bool
 |p::q::r=>nL p q&&incr (q::r)
 |_=>true
theorem oI:∀ ps:List (Int×Int),incr ps=(List.range (ps.length-1)).all λi=>nL (ps.getD i (0,0)) (ps.getD (i+1) (0,0))
 |[]=>rfl
 |[p]=>rfl
 | p::q::r=>by
   rw[incr,oI (q::r)];simp only[bb,QS];rw[List.range_succ_eq_map,qW,sx];rfl
theorem Dt (h:i<ps.length):a5 (ps.map dP) (i:Int)=some (dP (ps.getD i (0,0))):=by
 unfold a5 bA;simp[h,List.getD]
theorem Jd {k:DE (List W)}{i j:Int}(e:k env bx=.val [.d (.int i),.d (.int j)] bx1) (h:(-(2 ^ 62)<=i /\ i<2 ^ 62) /\ -(2 ^ 62)<=j /\ j<2 ^ 62):sY k env bx=.val (fH i (j-i).toNat) bx1:=by
 unfold sY;rw[e,fM];exact if_pos h
theorem lj {k:DE (List W)}{j:Int}(e:k env bx=.val [.d (.int j)] bx1) (h:-(2 ^ 62)<=j /\ j<2 ^ 62):bW k env bx=.val (fH 0 j.toNat) bx1:=by
 unfold bW;rw[e,fM];exact if_pos h
theorem Mt (lo:Int) (n:Nat):fH lo n=((List.range n).map λ(i:Nat)=>D.int (lo+(i:Int))).map W.d:=by
 unfold fH;rw[bQ];rfl
theorem FF (ps:List (Int×Int)) (n:ps.length<=sizeLine) (bx:List Bx):gK [.d (.tup (ps.map dP))] bx=.val (.d (.bl (incr ps))) bx :=
 gu (by
  have s2:sizeLine=16777216:=ba;have r:sY (fc (dC (.int 1)) (fc (dN false bf (fc (dV 0) fg)) fg)) [some (.d (.tup (ps.map dP)))] bx=.val (fH 1 (((ps.length:Nat):Int)-1).toNat) bx:=Jd (by simp[bf]) (by omega);simp only[mF,CH,CG,jQ,jk,aG,qh,bb,eJ,p9,List.replicate_zero,qV,r,fM,Mt,BU,BV,CI,Q7,bD,id];rw[iU (λe=>∃ w,e=[w,some (.d (.tup (ps.map dP)))]) (λx=>.bl (match x with|.int i=>nL (ps.getD (i.toNat-1) (0,0)) (ps.getD i.toNat (0,0))|_=>false)) ⟨none,rfl⟩ ?_ (by rw[aR,EA];omega)]
  ·simp only[fM,oG,gw,iF,oH,lO,kM,bD];rw[all_map,gw,A0,gX,sx,show ((ps.length:Int)-1).toNat=ps.length-1 by omega];have z:((λx:D=>match x with|.int i=>nL (ps.getD (i.toNat-1) (0,0)) (ps.getD i.toNat (0,0))|_=>false)∘λ(i:Nat)=>D.int (1+(i:Int)))=λi=>nL (ps.getD i (0,0)) (ps.getD (i+1) (0,0)):=by
    funext i;show nL (ps.getD ((1+(i:Int)).toNat-1) (0,0)) (ps.getD (1+(i:Int)).toNat (0,0))=_;rw[show (1+(i:Int)).toNat=i+1 by omega,QS]
   rw[z,<-oI]
  ·intro x m e ⟨w,je⟩;obtain⟨i,mi,rfl⟩:=bV.mp m;have hi:i<((ps.length:Int)-1).toNat:=List.mem_range.mp mi;refine⟨[xN (1+(i:Int)),some (.d (.tup (ps.map dP)))],by simp[je],⟨_,rfl⟩,?_⟩;have a1:=Dt (ps:=ps) (i:=i) (by omega);have a2:=Dt (ps:=ps) (i:=i+1) (by omega);rw[show ((i+1:Nat):Int)=1+(i:Int) by omega]at a2;simp only[Mp,R9,Rr,Q7,List.getElem?_cons_succ,fM,AD,bD,ah,dX,gw,A0,show 1+(i:Int)-1=(i:Int) by omega,a1,a2,kM,dg,dP,intsOf];rw[show (1+(i:Int)).toNat=i+1 by omega];rfl)
noncomputable def toP:D->Option (Int×Int)
 |.tup [.int a,.int b]=>some (a,b)
 |_=>none
theorem Du (ps:List (Int×Int)):(ps.map dP).filterMap toP=ps:=by
 induction ps with
 |nil=>rfl
 |cons p ps ih=>rw[aG,pI,ih];rfl
def apart (n:Int) (d:D):Bool:=match d with
 |.tup l=>l.all (dO n)&&incr (l.filterMap toP)
 |_=>false
def short (d:D):Prop:=match d with
 |.tup l=>l.length<=sizeLine
 |_=>True
theorem CK (l:List D) (n:Int) (h':l.length<=sizeLine) (bx:List Bx):aU (fe 0) fQ (fq gn 2 (fc (dV 0) (fc (dV 1) fg))) (l.map W.d) [none,xN n] bx []=.val (l.map λx=>.bl (dO n x)) bx :=
 iU (λe=>∃ w,e=[w,xN n]) (λx=>.bl (dO n x)) ⟨none,rfl⟩ (λx _ e ⟨w,je⟩=>⟨[some (.d x),xN n],by simp[je],⟨_,rfl⟩,by simp[Jb]⟩) h'
theorem FG (d:D) (n:Int) (bx:List Bx) (h:∀ l,d≠.tup l):gc [.d d,.d (.int n)] bx=.val (.d (.bl (apart n d))) bx :=
 gu (by
  cases d with
  |tup l=>exact absurd rfl (h l)
  |_=>simp[iE,l8,apart])
theorem FH {fp:List W->List Bx->O W}{n:Int}(c:aU (fe 0) fQ (fq fp 2 (fc (dV 0) (fc (dV 1) fg))) (l.map W.d) [none,xN n] bx []=.val (l.map λx=>.bl (dO n x)) bx) :
 dN false cu (fc (fS false [none,some 1] (bt (dV 0)) (fe 0) fQ (fq fp 2 (fc (dV 0) (fc (dV 1) fg)))) fg) [some (.d (.tup l)),xN n] bx=.val (.d (.bl (l.all (dO n)))) bx:=by
 have i:bt (dV 0) [some (.d (.tup l)),xN n] bx=.val (l.map W.d) bx:=rfl;rw[CG,jQ,jk,i,fM,show cq [none,some 1] [some (W.d (.tup l)),some (W.d (.int n))]=[none,some (W.d (.int n))] from rfl,c,fM,gw,fM,oG,fM,fM,oH,lO,kM,bD,iF,all_map,gw,A0]
theorem Mu {k:DE W}{b:Bool}(h:m env bx=.val (.d (.bl b)) bx1):gH m k env bx=if b then k env bx1 else .val (.d (.bl false)) bx1:=by
 rw[Dq,h];cases b<;>rfl
theorem O5 {m k:aq}(h:t env bx=.val false bx):fw (aI t m aQ) k env bx=k env bx:=by
 rw[A4,G4,h];rfl
theorem O6 {w:Option W}:eP (dB (jo "tuple" (dV 0))) [some (.d (.tup l)),w] bx=.val false bx:=by
 simp[l8]
theorem FJ (l:List D) (n:Int) (bx:List Bx) (h':l.length<=sizeLine):gc [.d (.tup l),.d (.int n)] bx=.val (.d (.bl (apart n (.tup l)))) bx:=by
 have e1:=FH (CK l n h' bx);refine gu ?_;show iE [some (.d (.tup l)),xN n] bx=OS.rt (.d (.bl (l.all (dO n)&&incr (l.filterMap toP)))) bx;unfold iE;rw[O5 O6,CH,Mu e1];cases q:l.all (dO n) with
 |false=>rfl
 | true =>
   obtain⟨ps,e,_⟩:=BX q;subst e;have r:=FF ps (by rw[aR]at h';exact h') bx;rw[if_pos rfl,Dp,jQ,show dV 0 [some (W.d (.tup (ps.map dP))),some (W.d (.int n))] bx=.val (.d (.tup (ps.map dP))) bx from rfl,fM,oG,fM,fM,if_pos (show [W.d (D.tup (ps.map dP))].length=1 from rfl),r,gX,Du,QV]
theorem Je (d:D) (n:Int) (h:short d) (bx:List Bx):gc [.d d,.d (.int n)] bx=.val (.d (.bl (apart n d))) bx:=by
 cases d with
 |tup l=>exact FJ l n bx (by simpa only[short] using h)
 |_=>exact FG _ n bx (λl e=>by cases e)
noncomputable def lenOf:D->Int
 |.tup l=>l.length
 |_=>0
def house (d:D):Bool:=match d with
 |.tup [r,k,p,h]=>rooms r&&(kinds k&&(apart (lenOf k) p&&wi h 1 9))
 |_=>false
def IL (d:D):Prop:=match d with
 |.tup [_,_,p,_]=>short p
 |_=>True
theorem FK {k:D}(h:kinds k=true):∃ l,k=.tup l:=by
 cases k with
 |tup l=>exact⟨l,rfl⟩
 |_=>simp[kinds]at h
theorem Jf (d:D) (ok:IL d) (bx:List Bx):jC [.d d] bx=.val (.d (.bl (house d))) bx :=
 gu (by
  cases d with
  | tup l =>
    cases t:tl (.tup l) 4 4 with
    | false =>
      have e:house (.tup l)=false:=by
       unfold house;split
       ·rename_i q;cases q;simp[tl]at t
       ·rfl
      simp[jf,fT,t,e]
    | true =>
      obtain⟨r,k,p,h,rfl⟩:=Zk t;have e1:=fT (.tup [r,k,p,h]) 4 4 bx;have e2:=G8 r bx;have e3:=Ja k bx;have e4:∀ n:Int,gc [.d p,.d (.int n)] bx=.val (.d (.bl (apart n p))) bx:=λn=>Je p n (by simpa only[IL] using ok) bx;have e5:=gF h 1 9 bx;rw[t]at e1;unfold jf;generalize fZ=f1 at e1 ⊢;generalize ig=f2 at e2 ⊢;generalize ij=f3 at e3 ⊢;generalize gc=f4 at e4 ⊢;generalize fV=f5 at e5 ⊢;simp[e1,e2,house];cases q1:rooms r with
      |false=>simp
      | true =>
        simp[e3];cases q2:kinds k with
        |false=>simp
        | true =>
          obtain⟨l,rfl⟩:=FK q2;simp[bf,e4,lenOf];cases q3:apart (l.length:Int) p<;>simp[e5]
  |_=>simp[jf,fT,tl,house])
end K1
namespace L2.DL
noncomputable def Vr:Key->Nat
 |.inl _=>1921
 |.inr x=>(reprText x).length
mutual
noncomputable def wt:D->Nat
 |.non=>4
 |.bl _=>5
 |.int _=>1921
 |.str x=>(reprText x).length
 |.tup l=>3+sm l
 |.lst l=>3+sm l
 |.ak l=>3+wN l
noncomputable def sm:List D->Nat
 |[]=>0
 |d::l=>wt d+2+sm l
noncomputable def wN:List (Key×D)->Nat
 |[]=>0
 |(k,d)::l=>Vr k+wt d+4+wN l
end
theorem Dv (ts:List Str):(Str.join ", " ts).length<=piled ts:=by
 by_cases h:ts=[]
 ·subst h;exact ao _
 ·have:=join_length_add ts h;omega
theorem A6 (ts:List Str):(tupleText ts).length<=3+piled ts:=by
 unfold tupleText;have h:=Dv ts;have e1:(("(":String):Str).length=1:=rfl;have e2:((",)":String):Str).length=2:=rfl;have e3:((")":String):Str).length=1:=rfl;rw[kI,kI];split<;>omega
theorem mI:∀ (ts:List Str) (k:Nat) (acc:Str),(textFrom k acc ts).length<=acc.length+piled ts
 |[],k,acc=>by show acc.length<=_;omega
 | t::r,k,acc=>by
   have h:=mI r (k+1) (acc++(if k>0 then ", " else "":String)++t);have e1:((", ":String):Str).length=2:=rfl;have e2:(("":String):Str).length=0:=rfl;rw[kI,kI]at h;rw[Er];show (textFrom (k+1) (acc++(if k>0 then ", " else "":String)++t) r).length<=_;split at h<;>rename_i hk<;>simp only[hk,if_true,if_false]at h ⊢<;>omega
theorem BY (ts:List Str):(listText ts).length<=3+piled ts:=by
 unfold listText;have h:=mI ts 0 "[";have e1:(("[":String):Str).length=1:=rfl;have e2:(("]":String):Str).length=1:=rfl;rw[kI];omega
theorem BZ (ts:List Str):(dictText ts).length<=3+piled ts:=by
 unfold dictText;have h:=Dv ts;have e1:(("{":String):Str).length=1:=rfl;have e2:(("}":String):Str).length=1:=rfl;rw[kI,kI];omega
theorem B1 {i:Int}(h:i.natAbs.log2<1920):(Str.ofString (toString i)).length<=1921:=by
 have:=int_text_length_le (a:=i) (k:=1920) (by decide) h;rw[PySem.ofString_length];exact this
mutual
theorem oJ:∀ (d:D),(toPy d).showable=true->(toPy d).shown.length<=wt d
 |.non,_=>by simp only[toPy,PyData.shown,wt];decide
 |.bl b,_=>by cases b<;>simp only[toPy,PyData.shown,wt]<;>decide
 | .int i,h=>by
   simp only[toPy,PyData.shown,wt];exact B1 (by simpa[toPy,PyData.showable] using h)
 |.str x,_=>by simp only[toPy,PyData.shown,wt];exact ao _
 | .tup l,h=>by
   simp only[toPy,PyData.shown,wt];have:=l9 l (by simpa[toPy,PyData.showable] using h);have:=A6 (PyData.shownAll (a8 l));omega
 | .lst l,h=>by
   simp only[toPy,PyData.shown,wt];have:=l9 l (by simpa[toPy,PyData.showable] using h);have:=BY (PyData.shownAll (a8 l));omega
 | .ak l,h=>by
   simp only[toPy,PyData.shown,wt];have:=B2 l (by simpa[toPy,PyData.showable] using h);have:=BZ (PyData.shownKv (bh l));omega
theorem l9:∀ (l:List D),PyData.showableAll (a8 l)=true->piled (PyData.shownAll (a8 l))<=sm l
 |[],_=>by simp only[a8,PyData.shownAll,sm];exact ao _
 | d::l,h=>by
   simp only[a8,PyData.showableAll,aB]at h;have h1:=oJ d h.1;have h2:=l9 l h.2;simp only[a8,PyData.shownAll,sm,Er];omega
theorem B2:∀ (l:List (Key×D)),PyData.showableKv (bh l)=true->piled (PyData.shownKv (bh l))<=wN l
 |[],_=>by simp only[bh,PyData.shownKv,wN];exact ao _
 | (k,d)::l,h=>by
   simp only[bh,PyData.showableKv,aB]at h;have h1:=oJ d h.1.2;have h2:=B2 l h.2;have e1:((": ":String):Str).length=2:=rfl;have hk:(PyData.shown (cw k)).length<=Vr k:=by
    cases k with
    |inl i=>exact B1 (by simpa[cw,PyData.showable] using h.1.1)
    |inr x=>exact ao _
   simp only[bh,PyData.shownKv,wN,Er];rw[kI,kI];omega
end
mutual
noncomputable def ib (B:Nat):D->Bool
 |.int i=>decide (i.natAbs<=B)
 |.tup l=>tW B l
 |.lst l=>tW B l
 |.ak l=>yX B l
 |_=>true
noncomputable def tW (B:Nat):List D->Bool
 |[]=>true
 |d::l=>ib B d&&tW B l
noncomputable def yX (B:Nat):List (Key×D)->Bool
 |[]=>true
 |(k,d)::l=>(match k with|.inl i=>decide (i.natAbs<=B)|_=>true)&&ib B d&&yX B l
end
theorem Jg {B:Nat}(hB:B<2 ^ 1900) {i:Int}(h:i.natAbs<=B):i.natAbs.log2<1920:=by
 by_cases h0:i.natAbs=0
 ·rw[h0];decide
 ·exact(Nat.log2_lt h0).mpr (dF (xi h hB) (Nat.pow_le_pow_right (by decide) (by decide)))
mutual
theorem A7 {B:Nat}(hB:B<2 ^ 1900):∀ (d:D),ib B d=true->(toPy d).showable=true
 |.non,_=>by simp[toPy,PyData.showable]
 |.bl b,_=>by simp[toPy,PyData.showable]
 | .int i,h=>by
   simp only[toPy,PyData.showable,decide_eq_true_eq];exact Jg hB (by simpa[ib] using h)
 |.str x,_=>by simp[toPy,PyData.showable]
 | .tup l,h=>by
   simp only[toPy,PyData.showable];exact oK hB l (by simpa[ib] using h)
 | .lst l,h=>by
   simp only[toPy,PyData.showable];exact oK hB l (by simpa[ib] using h)
 | .ak l,h=>by
   simp only[toPy,PyData.showable];exact B3 hB l (by simpa[ib] using h)
theorem oK {B:Nat}(hB:B<2 ^ 1900):∀ (l:List D),tW B l=true->PyData.showableAll (a8 l)=true
 |[],_=>by simp[a8,PyData.showableAll]
 | d::l,h=>by
   simp only[tW,aB]at h;simp only[a8,PyData.showableAll,A7 hB d h.1,oK hB l h.2,vo]
theorem B3 {B:Nat}(hB:B<2 ^ 1900):∀ (l:List (Key×D)),yX B l=true->PyData.showableKv (bh l)=true
 |[],_=>by simp[bh,PyData.showableKv]
 | (k,d)::l,h=>by
   simp only[yX,aB]at h;have hk:(cw k).showable=true:=by
    cases k with
    | inl i =>
      simp only[cw,PyData.showable,decide_eq_true_eq];exact Jg hB (by simpa using h.1.1)
    |inr x=>simp[cw,PyData.showable]
   simp only[bh,PyData.showableKv,hk,A7 hB d h.1.2,B3 hB l h.2,vo]
end
structure Sm (B a b:Nat) (d:D):Prop where
 s:ib B d=true
 e:(toPy d).depth<=a
 w:wt d<=b
structure bu (B a b:Nat) (l:List D):Prop where
 s:tW B l=true
 e:PyData.depthAll (a8 l)<=a
 w:sm l<=b
theorem oM {B a b:Nat}{d:D}(h:Sm B a b d) (hB:B<2 ^ 1900) (ha:a<=60) (hb:b<=sizeLine):rQ d=true:=by
 have hs:=A7 hB d h.s;have:=oJ d hs;have h1:=h.e;have h2:=h.w;unfold rQ;rw[hs,decide_eq_true (by omega:(toPy d).depth<=60),decide_eq_true (by omega:(toPy d).shown.length<=sizeLine)];rfl
theorem Sm.mono {B a b a' b':Nat}{d:D}(h:Sm B a b d) (ha:a<=a') (hb:b<=b'):Sm B a' b' d:=⟨h.s,bP h.e ha,bP h.w hb⟩
theorem bu.mono {B a b a' b':Nat}(h:bu B a b l) (ha:a<=a') (hb:b<=b'):bu B a' b' l:=⟨h.s,bP h.e ha,bP h.w hb⟩
theorem bu.nil {B a:Nat}:bu B a 0 []:=⟨rfl,by simp[a8,PyData.depthAll],ao _⟩
theorem bu.cons {B a b c:Nat}{d:D}{l:List D}(h:Sm B a b d) (t:bu B a c l):bu B a (b+2+c) (d::l):=
 ⟨by simp[tW,h.s,t.s],by simp only[a8,PyData.depthAll];exact Nat.max_le.mpr ⟨h.e,t.e⟩,by simp only[sm];have:=h.w;have:=t.w;omega⟩
theorem Sm.tup {B a b:Nat}{l:List D}(h:bu B a b l):Sm B (a+1) (3+b) (.tup l):=
 ⟨by simp[ib,h.s],by simp only[toPy,PyData.depth];have:=h.e;omega,by simp only[wt];have:=h.w;omega⟩
theorem Sm.lst {B a b:Nat}{l:List D}(h:bu B a b l):Sm B (a+1) (3+b) (.lst l):=
 ⟨by simp[ib,h.s],by simp only[toPy,PyData.depth];have:=h.e;omega,by simp only[wt];have:=h.w;omega⟩
theorem Sm.int {B a:Nat}{i:Int}(h:i.natAbs<=B):Sm B a 1921 (.int i):=
 ⟨by simp[ib,h],by simp[toPy,PyData.depth],ao _⟩
theorem Sm.str {B a:Nat}{x:Str}:Sm B a (reprText x).length (.str x):=
 ⟨by simp[ib],by simp[toPy,PyData.depth],ao _⟩
theorem bu.of {B a b:Nat}:∀ {l:List D},(∀ d∈l,Sm B a b d)->bu B a (l.length*(b+2)) l
 |[],_=>by simpa using bu.nil
 | d::l,h=>by
   have h1:=h d (bL ..);have h2:=bu.of λx m=>h x (bC _ m);exact(bu.cons h1 h2).mono (ao _) (by rw[bb,Nat.succ_mul];omega)
section
variable {aX bT : aM} {ag bE : List Bx} {k : DE W} {w u : W} {l : List W}
theorem fr (h1:m env bx=.val w bx1) (h2:ks env bx1=.val l ag):fc m ks env bx=.val (w::l) ag:=by rw[jQ,h1,fM,h2,fM]
theorem Dw:∀ {ds:List D},eX bx (ds.map W.d)=some ds
 |[]=>rfl
 |d::ds=>by rw[aG,oH,Dw];rfl
theorem mN:∀ {ds:List D},kD (ds.map W.d)=some ds
 |[]=>rfl
 |d::ds=>by rw[aG,O3,mN];rfl
theorem oN {g:List D->Option Res}{r:Res}(ds:List D) (h:ks env bx=.val (ds.map W.d) bx1) (hg:g ds=some r):dN false g ks env bx=.val (.d r.toD) bx1:=by rw[CG,h,fM,Dw,bD,hg,gw]
theorem f8 (ds:List D) (h:ks env bx=.val (ds.map W.d) bx1) (hl:ds.length<=sizeLine):fK ks env bx=.val (.d (.tup ds)) bx1:=by rw[O2,h,fM,mN,bD,if_pos hl,gw,A3]
theorem oO (ds:List D) (h:ks env bx=.val (ds.map W.d) bx1) (hl:ds.length<=sizeLine):gI false ks env bx=.val (.d (.lst ds)) bx1:=by rw[G6,h,fM,mN,bD,if_pos hl,gw,iF]
theorem A8 (ds:List D) (h:ks env bx=.val (ds.map W.d) bx1) (hl:ds.length<=sizeLine):gI true ks env bx=.val (.b bx1.length) (bx1++[.lst ds]):=by rw[G6,h,fM,mN,bD,if_pos hl];rfl
theorem fW {r:Res}{x y:D}(h1:m env bx=.val (.d x) bx1) (h2:k env bx1=.val (.d y) ag) (hg:g x y=some r):d2 false g m k env bx=.val (.d r.toD) ag:=by rw[Mp,h1,fM,h2,fM,AD,AD,bD,bD,hg,gw]
theorem fN (h:ks env bx=.val l bx1) (hn:l.length=n) (hf:fn l bx1=.val w ag):fq fn n ks env bx=.val w ag:=by rw[Dp,h,fM,if_pos hn,hf]
theorem gY {b:Bool}(h:m env bx=.val (.d (.bl b)) bx1):dB m env bx=.val b bx1:=by rw[Sa,h,fM]
theorem Jh {b:Bool}(h:t env bx=.val b bx1):eP t env bx=.val (!b) bx1:=by rw[O1,h,fM]
theorem Ru {s:DE Bool}(h:t env bx=.val true bx1):eY t s env bx=.val true bx1:=by rw[Nh,h,fM]
theorem Ni {s:DE Bool}{b:Bool}(h:t env bx=.val false bx1) (h2:s env bx1=.val b ag):eY t s env bx=.val b ag:=by rw[Nh,h,fM,h2]
theorem oP {s:DE Bool}(h:t env bx=.val false bx1):kC t s env bx=.val false bx1:=by rw[G3,h,fM]
theorem oQ {s:DE Bool}{b:Bool}(h:t env bx=.val true bx1) (h2:s env bx1=.val b ag):kC t s env bx=.val b ag:=by rw[G3,h,fM,h2]
theorem Mv {b:Bool}(h:m env bx=.val (.d (.bl b)) bx1):gH m k env bx=if b then k env bx1 else .val (.d (.bl false)) bx1:=by rw[Dq,h];cases b<;>rfl
theorem lR {src:List (Option Nat)}{g:DG}{ds:List D}{e2:aM}(h1:mi env bx=.val l bx1) (he:cq src env=e2) (h2:aU g tf te l e2 bx1 []=.val ds ag):fS false src mi g tf te env bx=.val (.d (.lst ds)) ag:=by
 subst he;rw[jk,h1,fM,h2,fM,gw,iF]
theorem Mw {src:List (Option Nat)}{g:DG}{ds:List D}{e2:aM}(h1:mi env bx=.val l bx1) (he:cq src env=e2) (h2:aU g tf te l e2 bx1 []=.val ds ag):fS true src mi g tf te env bx=.val (.b ag.length) (ag++[.lst ds]):=by
 subst he;rw[jk,h1,fM,h2,fM];rfl
theorem g9 {ds:List D}(h:m env bx=.val (.d (.lst ds)) bx1):bt m env bx=.val (ds.map W.d) bx1:=by rw[Ds,h,fM]
theorem Mx {ds:List D}(h:m env bx=.val (.d (.tup ds)) bx1):bt m env bx=.val (ds.map W.d) bx1:=by rw[Ds,h,fM]
theorem Dx {d:D}(h:m env bx=.val (.d d) bx1) (c:rQ d=true):dM m env bx=.val (.d (.str (toPy d).shown)) bx1:=by
 unfold dM;rw[h,fM];exact if_pos c
theorem fm {a b:aq}(h:a env bx=.nx aX bx1):fw a b env bx=b aX bx1:=by rw[A4,h]
theorem gf {a b:aq}(h:a env bx=.rt w bx1):fw a b env bx=.rt w bx1:=by rw[A4,h]
theorem fY (h:m env bx=.val w bx1):fC m (fe i) env bx=.nx (env.set i (some w)) bx1:=by rw[lg,h,gX,lQ]
theorem ie (h:m env bx=.val w bx1):fL m env bx=.rt w bx1:=by rw[CH,h,gX]
theorem jl (h:m env bx=.val w bx1):gJ m env bx=.nx env bx1:=by rw[Mq,h,gX]
theorem io {a b:aq}(h:t env bx=.val true bx1):aI t a b env bx=a env bx1:=by rw[G4,h,gX]
theorem f9 {a b:aq}(h:t env bx=.val false bx1):aI t a b env bx=b env bx1:=by rw[G4,h,gX]
theorem mJ {g:DG}{body:aq}(h:mi env bx=.val l bx1):jp mi g body env bx=ck g body l env bx1:=by rw[G5,h,gX]
theorem mf {g:DG}{body:aq}(h1:g w env bx=some (aX,bx1)) (h2:body aX bx1=.nx bT ag):ck g body (w::l) env bx=ck g body l bT ag:=by
 rw[ck,h1];simp only[h2]
theorem jR {g:DG}{body:aq}(I:Nat->aM->List Bx->Prop):∀ (l:List W) (k:Nat) (env:aM) (bx:List Bx),I k env bx ->
 (∀ i w env bx,l[i]?=some w->I (k+i) env bx->∃ aX bx1 bT ag,g w env bx=some (aX,bx1) /\ body aX bx1=.nx bT ag /\ I (k+i+1) bT ag) ->
 ∃ aC bx',ck g body l env bx=.nx aC bx' /\ I (k+l.length) aC bx':=by
 intro l;induction l with
 |nil=>intro k env bx h _;exact⟨env,bx,rfl,h⟩
 | cons w l ih =>
   intro k env bx h st;obtain⟨aX,bx1,bT,ag,e1,e2,h2⟩:=st 0 w env bx rfl h;obtain⟨aC,bx',e3,h3⟩:=ih (k+1) bT ag h2 λi x env bx e hi=>by
    have:=st (i+1) x env bx (by simpa using e) (by rw[show k+(i+1)=k+1+i by omega];exact hi);rw[show k+(i+1)+1=k+1+i+1 by omega]at this;exact this
   exact⟨aC,bx',by rw[mf e1 e2,e3],by rw[bb,show k+(l.length+1)=k+1+l.length by omega];exact h3⟩
end
end L2.DL
namespace K11
open L2 L2.DL K1
open HT (ay aE c7 bS lexLt)
inductive Pg where
 |aK (h l k r p w:Int)|to (h l r:Int)|out (h l:Int)
noncomputable def a9:Pg->List ay
 |.aK h l k r p w=>[.i h,.s "in",.i l,.i k,.i r,.i p,.i w]
 |.to h l r=>[.i h,.s "to",.i l,.i r]
 |.out h l=>[.i h,.s "out",.i l]
def enc (g:Pg):D:=cC (a9 g)
theorem A9 (g:Pg):rowOf (enc g)=some (a9 g):=by cases g<;>rfl
theorem B4:∀ gs:List Pg,rowsOf (gs.map enc)=some (gs.map a9)
 |[]=>rfl
 |g::gs=>by simp[rowsOf,A9,B4 gs]
theorem Dy {a b:Pg}(h:a9 a=a9 b):a=b:=by
 cases a<;>cases b<;>simp[a9]at h<;>simp_all
theorem Mz {a b:Pg}(h:enc a=enc b):a=b:=by
 have:=A9 a;rw[h,A9]at this;exact(Dy (Option.some.inj this)).symm
theorem mO (a b:Pg):c7 (a9 a) (a9 b)=true:=by cases a<;>cases b<;>rfl
theorem B5 (gs:List Pg):wH (gs.map a9)=true:=by
 simp only[wH,cT,bV];rintro _ ⟨a,_,rfl⟩ _ ⟨b,_,rfl⟩;exact mO a b
theorem Ji {g:Pg}{gs:List Pg}(h:(g::gs).length<64):cx [.lst ((g::gs).map enc)]=some (.lst ((qO ((g::gs).map a9)).map cC)):=by
 have e:qL [.lst ((g::gs).map enc)]=none:=by cases g<;>rfl
 unfold cx;rw[e];simp only[B4,bD,B5,aR,and_true,if_pos h]
abbrev IM (gs:List Pg):Prop:=gs.Pairwise λa b=>bS (a9 a) (a9 b)=true
theorem O7 {gs:List Pg}(nd:gs.Nodup) (h:(gs.map a9).Pairwise λa b=>lexLt (aE b) (aE a)=false):IM gs:=by
 rw[nS]at h;refine List.Pairwise.imp₂ (λ{a b}(x:lexLt (aE (a9 b)) (aE (a9 a))=false) (y:a≠b)=>?_) h nd;rw[<-HT.AS _ _ (mO a b)];cases e:lexLt (aE (a9 a)) (aE (a9 b)) with
 |true=>rfl
 |false=>exact absurd (Dy (ou (mO a b) (HT.gm _ _ e x))) y
theorem Dz {gs:List Pg}(nd:gs.Nodup) (h:gs.length<64):∃ qs:List Pg,qs.Perm gs /\ IM qs /\ ∀ g2:List Pg,g2.Perm gs->cx [.lst (g2.map enc)]=some (.lst (qs.map enc)):=by
 obtain⟨qs,e,p⟩:=lN (iy (gs.map a9)) rfl;refine⟨qs,p,O7 (p.nodup_iff.mpr nd) (by rw[<-e];exact iG _),λg2 p2=>?_⟩;cases g2 with
 | nil =>
   have z:=p2.length_eq;have:gs=[]:=by cases gs with|nil=>rfl|cons=>simp at z
   subst this;have:qs=[]:=by have:=p.length_eq;cases qs with|nil=>rfl|cons=>simp at this
   subst this;simp[cx,qL,rN,intsOf,sortI]
 | cons g g2 =>
   rw[Ji (by rw[p2.length_eq];exact h)];have:qO ((g::g2).map a9)=qO (gs.map a9):=mC (B5 gs) ((iy _).trans (p2.map a9)) (iG _);rw[this,e,bQ];rfl
theorem O8 (a b:Pg):dg (enc a) (enc b)=some (.old (.bl (bS (a9 a) (a9 b)))):=by
 have:∀ g:Pg,∃ l,enc g=.tup l /\ intsOf l=none /\ qN l=some (a9 g) /\ (a9 g).all ay.flat=true:=λg=>by cases g<;>exact⟨_,rfl,rfl,rfl,rfl⟩
 obtain⟨l,e1,e2,e3,e4⟩:=this a;obtain⟨m,f1,f2,f3,f4⟩:=this b;rw[e1,f1];unfold dg;simp only[e2,e3,f3,e4,mO,and_self,if_true]
end K11
variable {gs : List K11.Pg}
namespace K1
open L2 L2.DL
theorem B6:∀ ns:List Int,intsOf (ns.map D.int)=some ns
 |[]=>rfl
 |n::ns=>by rw[aG,intsOf,B6 ns];rfl
theorem DA:∀ ns:List Int,sk (ns.map D.int)=true ↔ ns.Pairwise (λa b=>b<=a)
 |[]=>by simp[sk]
 |[x]=>by simp[sk]
 | x::y::l=>by
   have ih:=DA (y::l);simp only[aG]at ih ⊢;simp only[sk,aB,decide_eq_true_eq,ih];constructor
   ·intro ⟨h,p⟩;refine List.pairwise_cons.mpr ⟨λz m=>?_,p⟩;rcases bG.mp m with rfl|m
    ·exact h
    ·exact Int.le_trans ((List.pairwise_cons.mp p).1 z m) h
   ·intro p;have q:=List.pairwise_cons.mp p;exact⟨q.1 y (bL ..),q.2⟩
noncomputable def pt (bx:List Bx) (n:Nat) (p:Int):List Bx:=bx.set n (.lst [.int p])
theorem gk {p:Int}:(pt bx n p).length=bx.length:=nh ..
theorem O9 {p:Int}(h:n<bx.length):(pt bx n p)[n]?=some (.lst [.int p]):=by simp[pt,h]
theorem AE {m:aq}{ws:List W}{d:D}{bx':List Bx}(h:m (ws.map some++List.replicate (n-ws.length) none) bx=.rt (.d d) bx') (l:bx'.length<=bx.length):aS n (aJ m) ws bx=.val (.d d) bx':=by
 simp only[aS,aJ,DL.envOf,h,nC,nD,List.take_of_length_le l]
theorem gO (h:n<bx.length) (p k:Int) (hk:0<k) (tK:k<1073741824):fj [.b n,.d (.int k)] (pt bx n p)=.val (.d (.int (p % k))) (pt bx n (p / k)):=by
 refine AE ?_ (by rw[gk,gk];exact ao _);have g:=O9 (p:=p) h;have c:rm p k:=⟨hk,tK⟩;simp[oC,br,g,ah,a5,bA,kF,rL,hk,c,wo];rw[pt,pt,Q8]
theorem jS {l:List α}{i:Int}(h0:0<=i) (h1:i<l.length):∃ d,a5 l i=some d /\ d∈l:=by
 have h2:i.toNat<l.length:=by omega
 refine⟨l[i.toNat],?_,Ez h2⟩;simp[a5,bA,h0,h1,h2]
def Dr (o:O W) (bx:List Bx) (n:Nat) (P:D->Prop):Prop:=∃ d p,o=.val (.d d) (pt bx n p) /\ P d
theorem ip (p:Int) {k:Int}(h:0<k):0<=p % k:=Int.emod_nonneg _ (by omega)
theorem iq (p:Int) {k:Int}(h:0<k):p % k<k:=Int.emod_lt_of_pos _ h
theorem Pa (l:List α) (i:Nat) (h:i<l.length):a5 l (i:Int)=some l[i]:=by
 simp[a5,bA,h]
theorem mP {g:DG}{te:DE W}(J:aM->Prop) (P:D->Prop) {bx:List Bx}{n:Nat}:∀ (l:List W) (env:aM) (p:Int) (acc:List D),J env ->
 (∀ w∈l,∀ env p,J env->∃ aC,g w env (pt bx n p)=some (aC,pt bx n p) /\ J aC /\ Dr (te aC (pt bx n p)) bx n P)->acc.length+l.length<=sizeLine ->
 ∃ ds p',aU g fQ te l env (pt bx n p) acc=.val (acc++ds) (pt bx n p') /\ ds.length=l.length /\ ∀ d∈ds,P d
 |[],env,p,acc,_,_,_=>⟨[],p,by simp[aU],rfl,λd m=>by cases m⟩
 | w::l,env,p,acc,j,h,z=>by
   obtain⟨aC,e1,j',d,q,e2,hd⟩:=h w (bL ..) env p j;have z':acc.length<sizeLine:=by simp only[bb]at z;omega
   obtain⟨ds,p',e3,e4,e5⟩:=mP J P l aC q (acc++[d]) j' (λx m=>h x (bC _ m)) (by simp only[cG,bb,eJ]at z ⊢;omega);refine⟨d::ds,p',?_,by simp[e4],λx m=>?_⟩
   ·simp only[aU,e1,AZ,oF,e2,if_pos z',e3];simp
   ·rcases bG.mp m with rfl|m
    ·exact hd
    ·exact e5 x m
theorem oR {g:DG}{tf:DE Bool}{te:DE W}(J:aM->Prop) (f:W->D) {bx:List Bx}{n:Nat}:∀ (l:List W) (env:aM) (p:Int) (acc:List D),J env ->
 (∀ w∈l,∀ env p,J env->∃ aC b q,g w env (pt bx n p)=some (aC,pt bx n p) /\ J aC /\ tf aC (pt bx n p)=.val b (pt bx n q) /\ te aC (pt bx n q)=.val (.d (f w)) (pt bx n q))->acc.length+l.length<=sizeLine ->
 ∃ l' p',aU g tf te l env (pt bx n p) acc=.val (acc++l'.map f) (pt bx n p') /\ List.Sublist l' l
 |[],env,p,acc,_,_,_=>⟨[],p,by simp[aU],.slnil⟩
 | w::l,env,p,acc,j,h,z=>by
   obtain⟨aC,b,q,e1,j',e2,e3⟩:=h w (bL ..) env p j;have z':acc.length<sizeLine:=by simp only[bb]at z;omega
   cases b with
   | false =>
     obtain⟨ds,p',e4,e5⟩:=oR J f l aC q acc j' (λx m=>h x (bC _ m)) (by simp only[bb]at z;omega);exact⟨ds,p',by simp only[aU,e1,e2,oF,e4],.cons _ e5⟩
   | true =>
     obtain⟨ds,p',e4,e5⟩:=oR J f l aC q (acc++[f w]) j' (λx m=>h x (bC _ m)) (by simp only[cG,bb,eJ]at z ⊢;omega);refine⟨w::ds,p',?_,.cons_cons _ e5⟩;simp only[aU,e1,e2,oF,e3,if_pos z',e4];simp
def digit (d:D):Prop:=∃ i:Int,d=.int i /\ 0<=i /\ i<=9
theorem AF:∀ {l:List D},(∀ d∈l,digit d)->∃ ns:List Int,l=ns.map D.int /\ ∀ i∈ns,0<=i /\ i<=9
 |[],_=>⟨[],rfl,λ_ m=>by cases m⟩
 | d::l,h=>by
   obtain⟨i,rfl,h1⟩:=h d (bL ..);obtain⟨ns,rfl,h2⟩:=AF λx m=>h x (bC _ m);exact⟨i::ns,rfl,λx m=>by
    rcases bG.mp m with rfl|m
    ·exact h1
    ·exact h2 x m⟩
theorem Jj (h4:ns.length=4) (h:∀ i∈ns,0<=i /\ i<=9):tV (.tup ((sortI ns).map D.int).reverse)=true:=by
 have l4:(sortI ns).length=4:=by rw[(iZ ns).length_eq,h4]
 rw[<-Q9];have a1:tl (.tup ((sortI ns).reverse.map D.int)) 4 4=true:=by simp[tl,l4]
 have a2:(((sortI ns).reverse.map D.int).all λx=>wi x 0 9)=true:=by
  rw[sx,cT];intro i m;have:=h i ((iZ ns).mem_iff.mp (List.mem_reverse.mp m));simp[wi,this.1,this.2]
 have a3:sk ((sortI ns).reverse.map D.int)=true:=(DA _).mpr (List.pairwise_reverse.mpr (lG ns));simp only[tV,a1,a2,a3,vo]
theorem MA (h:n<bx.length) (p:Int):Dr (gi [.b n] (pt bx n p)) bx n (λd=>kind d=true):=by
 have t4:=gO h p 4 (by decide) (by decide);obtain⟨y,e,m⟩:=jS (l:=[D.int 9,.int 3,.int 1,.int 9]) (ip p (k:=4) (by decide)) (by show _<(4:Int);exact iq p (by decide));obtain⟨top,rfl,h0,h9⟩:∃ i:Int,y=.int i /\ 0<=i /\ i<=9:=by
  simp at m;rcases m with rfl|rfl|rfl|rfl<;>exact⟨_,rfl,by decide,by decide⟩
 have z4:(4:Nat)<=sizeLine:=by decide
 obtain⟨ds,q,e1,e2,e3⟩:=mP (g:=fe 0) (te:=fq fj 2 (fc (dV 1) (fc (d2 false fP (dV 2) (dC (.int 1))) fg))) (λe=>∃ w,e=[w,xB n,xN top]) digit (bx:=bx) (n:=n) (fH 0 4) [none,xB n,xN top] (p / 4) [] ⟨none,rfl⟩ (by
  intro w _ env p ⟨w0,je⟩;refine⟨[some w,xB n,xN top],by simp[je],⟨_,rfl⟩,?_⟩;have t:=gO h p (top+1) (by omega) (by omega);exact⟨.int (p % (top+1)),p / (top+1),by simp[fP,t],_,rfl,ip _ (by omega),by have:=iq p (k:=top+1) (by omega);omega⟩) (by
  simp[fH];exact z4)
 obtain⟨ns,rfl,cW⟩:=AF e3;have n4:ns.length=4:=by
  rw[aR]at e2;rw[e2];simp[fH]
 have so:cx [.lst (ns.map D.int)]=some (.lst ((sortI ns).map D.int)):=by simp[cx,qL,rN,B6,n4]
 have Vs:=gO h q 20 (by decide) (by decide);have tx:=gO h (q / 20) 4 (by decide) (by decide);have b0:=ip q (k:=20) (by decide);have b1:=iq q (k:=20) (by decide);obtain⟨y,ey,my⟩:=jS (l:=[D.int 30,.int (1+q % 20),.int 999,.int 8]) (ip (q / 20) (k:=4) (by decide)) (by show _<(4:Int);exact iq _ (by decide));have hy:wi y 1 999=true:=by
  simp at my;rcases my with rfl|rfl|rfl|rfl
  ·rfl
  ·simp[wi];omega
  ·rfl
  ·rfl
 have r:=Jj n4 cW;refine⟨.tup [y,.tup ((sortI ns).map D.int).reverse],q / 20 / 4,AE ?_ (by rw[gk,gk];exact ao _),by simp[kind,tl,hy,r]⟩;have rg:∀ env bx,bW (fc (dC (.int 4)) fg) env bx=.val (fH 0 4) bx:=λenv bx=>lj (j:=4) (bx1:=bx) (by simp) (by decide);have z2:(2:Nat)<=sizeLine:=by decide
 unfold jV;generalize fj=ft at t4 Vs tx e1 ⊢;simp only[kL]at e1;simp[z4,z2,t4,ah,e,rg,e1,so,Vs,tx,fP,ey,nE]
noncomputable def lP (p:Int×Int):List Int:=[p.1,p.2]
noncomputable def yY:List Int->Int×Int
 |[a,b]=>(a,b)
 |_=>(0,0)
theorem oS:∀ ps:List (Int×Int),rW (ps.map dP)=some (ps.map lP)
 |[]=>rfl
 |p::ps=>by simp[rW,intsOf,oS ps,lP]
theorem CL (ps:List (Int×Int)):∃ qs:List (Int×Int),qs.Perm ps /\ pZ (ps.map lP)=qs.map lP /\ qs.Pairwise (λa b=>nL b a=false):=by
 have pe:(pZ (ps.map lP)).Perm (ps.map lP):=xq _ _;have e:(pZ (ps.map lP)).map (lP∘yY)=pZ (ps.map lP):=by
  conv=>rhs;rw[<-vv (pZ (ps.map lP))]
  refine pJ λx m=>?_;obtain⟨p,_,rfl⟩:=bV.mp (pe.mem_iff.mp m);rfl
 refine⟨(pZ (ps.map lP)).map yY,?_,?_,?_⟩
 ·have:=pe.map yY;rw[bQ]at this;have z:(yY∘lP)=id:=by funext p;rfl
  rwa [z,vv]at this
 ·rw[bQ];exact e.symm
 ·have so:=lL (ps.map lP);rw[<-e,<-bQ]at so;exact(nS.mp so).imp λh=>h
theorem Jk (qs:List (Int×Int)):yP (qs.map lP)=qs.map dP:=by
 unfold yP;rw[bQ];rfl
theorem MB (ps:List (Int×Int)) (h:ps.length<64):∃ qs:List (Int×Int),qs.Perm ps /\ qs.Pairwise (λa b=>nL b a=false) /\ cx [.lst (ps.map dP)]=some (.lst (qs.map dP)):=by
 cases ps with
 |nil=>exact⟨[],.refl _,.nil,by simp[cx,qL,rN,intsOf,sortI]⟩
 | cons p ps =>
   obtain⟨qs,h1,h2,h3⟩:=CL (p::ps);refine⟨qs,h1,h3,?_⟩;have e1:rN [.lst ((p::ps).map dP)]=none:=rfl;have e2:=oS (p::ps);have l:((p::ps).map lP).length<64:=by rw[aR];exact h
   simp only[cx,qL,e1,e2,bD,if_pos l,h2,Jk]
theorem Rv {p q:Int×Int}(h:nL q p=false) (n:p≠q):nL p q=true:=by
 cases e:nL p q with
 |true=>rfl
 | false =>
   have:=HT.gm _ _ e h;simp only[List.cons.injEq,and_true]at this;exact absurd (Prod.ext this.1 this.2) n
theorem DB:∀ {qs:List (Int×Int)},qs.Pairwise (λa b=>nL b a=false)->qs.Nodup->incr qs=true
 |[],_,_=>rfl
 |[p],_,_=>rfl
 | p::q::r,h,n=>by
   have h1:=List.pairwise_cons.mp h;have n1:=qm.mp n;simp only[incr,aB];exact⟨Rv (h1.1 q (bL ..)) (λe=>n1.1 (by rw[e];exact bL ..)),DB h1.2 n1.2⟩
structure wO (k:Nat) (ps:List (Int×Int)):Prop where
 nd:ps.Nodup
 b:∀ p∈ps,0<=p.1 /\ p.1<p.2 /\ p.2<(k:Int)
 l:ps.length<=4*k
theorem wO.more {k:Nat}{is:List Nat}(s:wO k ps) (s1:is.Sublist (List.range k)) (hk:k<=4):wO (k+1) (ps++is.map λ(i:Nat)=>((i:Int),(k:Int))):=by
 have li:is.length<=k:=by have:=s1.length_le;simpa using this
 refine⟨uk.mpr ⟨s.nd,?_,?_⟩,?_,?_⟩
 ·have nr:is.Nodup:=s1.nodup List.nodup_range;exact nS.mpr (nr.imp λ{a b} h e=>h (by have z:(a:Int)=(b:Int):=congrArg Prod.fst e;omega))
 ·intro a ma b mb e;subst e;obtain⟨i,_,rfl⟩:=bV.mp mb;have:=(s.b _ ma).2.2;simp at this
 ·intro a ma;rcases List.mem_append.mp ma with m|m
  ·have:=s.b a m;omega
  ·obtain⟨i,mi,rfl⟩:=bV.mp m;have:=List.mem_range.mp (s1.subset mi);simp;omega
 ·have:=s.l;simp;omega
theorem mQ {k:Nat}{m:DE (List W)}(e:m env bx=.val [.d (.int (k:Int))] bx) (hk:k<=1000000):bW m env bx=.val (fH 0 k) bx:=by
 rw[lj e (by omega),rf]
theorem Jl (h:n<bx.length) (p:Int) (x1 x2 x3 x4:Option W):∃ (ds:List D) (q:Int),rooms (.tup ds)=true /\
 fC (dN false nE (fc (fS false [none,some 0] (bW (fc (d2 false fP (dC (.int 1)) (fq fj 2 (fc (dV 0) (fc (dC (.int 5)) fg)))) fg)) (fe 0) fQ (fq fj 2 (fc (dV 1) (fc (dC (.int 4)) fg)))) fg)) (fe 1) [xB n,x1,x2,x3,x4] (pt bx n p)=.nx [xB n,some (.d (.tup ds)),x2,x3,x4] (pt bx n q):=by
 have t5:=gO h p 5 (by decide) (by decide);have lo:=ip p (k:=5) (by decide);have hi:=iq p (k:=5) (by decide);obtain⟨j,ej⟩:=xF lo;have sz:=ba
 obtain⟨ds,q,e1,e2,e3⟩:=mP (g:=fe 0) (te:=fq fj 2 (fc (dV 1) (fc (dC (.int 4)) fg))) (λe=>∃ w,e=[w,xB n]) (λd=>wi d 0 3=true) (bx:=bx) (n:=n) (fH 0 (1+j)) [none,xB n] (p / 5) [] ⟨none,rfl⟩ (by
  intro w _ env p ⟨w0,je⟩;have t:=gO h p 4 (by decide) (by decide);have b1:=ip p (k:=4) (by decide);have b2:=iq p (k:=4) (by decide);exact⟨[some w,xB n],by simp[je],⟨_,rfl⟩,.int (p % 4),p / 4,by simp[t],by simp[wi];omega⟩) (by simp[fH];omega)
 have n5:ds.length=1+j:=by rw[e2];simp[fH]
 refine⟨ds,q,?_,?_⟩
 ·have a1:tl (.tup ds) 1 5=true:=by simp[tl];omega
  have a2:(ds.all λx=>wi x 0 3)=true:=cT.mpr e3;simp[rooms,a1,a2]
 ·have rg:=mQ (env:=[xB n,x1,x2,x3,x4]) (bx:=pt bx n (p / 5)) (k:=1+j) (m:=λ_ bx=>.val [.d (.int ((1+j:Nat):Int))] bx) rfl (by omega);have r2:bW (fc (d2 false fP (dC (.int 1)) (fq fj 2 (fc (dV 0) (fc (dC (.int 5)) fg)))) fg) [xB n,x1,x2,x3,x4] (pt bx n p)=.val (fH 0 (1+j)) (pt bx n (p / 5)):=by
   have a:(fc (d2 false fP (dC (.int 1)) (fq fj 2 (fc (dV 0) (fc (dC (.int 5)) fg)))) fg) [xB n,x1,x2,x3,x4] (pt bx n p)=.val [.d (.int ((1+j:Nat):Int))] (pt bx n (p / 5)):=by
    simp[t5,fP,ej]
   rw[lj a (by omega),rf]
  simp only[kL]at e1;rw[lg,CG,jQ,jk,r2,fM,show cq [none,some 0] [some (W.b n),x1,x2,x3,x4]=[none,some (W.b n)] from rfl,e1,fM,gw,fM,oG,fM,fM,iF,oH,lO,kM,bD,show nE [.lst ds]=some (.tup ds) from rfl,gw,A3,gX,lQ];rfl
theorem Jm (h:n<bx.length) (p:Int) (x1 x2 x3 x4:Option W):∃ (ds:List D) (q:Int),kinds (.tup ds)=true /\ ds.length<=4 /\
 fC (dN false nE (fc (fS false [none,some 0] (bW (fc (d2 false fP (dC (.int 1)) (fq fj 2 (fc (dV 0) (fc (dC (.int 4)) fg)))) fg)) (fe 0) fQ (fq gi 1 (fc (dV 1) fg))) fg)) (fe 2) [xB n,x1,x2,x3,x4] (pt bx n p)=.nx [xB n,x1,some (.d (.tup ds)),x3,x4] (pt bx n q):=by
 have t5:=gO h p 4 (by decide) (by decide);have lo:=ip p (k:=4) (by decide);have hi:=iq p (k:=4) (by decide);obtain⟨j,ej⟩:=xF lo;have sz:=ba
 obtain⟨ds,q,e1,e2,e3⟩:=mP (g:=fe 0) (te:=fq gi 1 (fc (dV 1) fg)) (λe=>∃ w,e=[w,xB n]) (λd=>kind d=true) (bx:=bx) (n:=n) (fH 0 (1+j)) [none,xB n] (p / 4) [] ⟨none,rfl⟩ (by
  intro w _ env p ⟨w0,je⟩;obtain⟨d,q,e,m⟩:=MA h p;exact⟨[some w,xB n],by simp[je],⟨_,rfl⟩,d,q,by simp[e],m⟩) (by simp[fH];omega)
 have n5:ds.length=1+j:=by rw[e2];simp[fH]
 refine⟨ds,q,?_,by omega,?_⟩
 ·have a1:tl (.tup ds) 1 4=true:=by simp[tl];omega
  have a2:(ds.all kind)=true:=cT.mpr e3;simp[kinds,a1,a2]
 ·have r2:bW (fc (d2 false fP (dC (.int 1)) (fq fj 2 (fc (dV 0) (fc (dC (.int 4)) fg)))) fg) [xB n,x1,x2,x3,x4] (pt bx n p)=.val (fH 0 (1+j)) (pt bx n (p / 4)):=by
   have a:(fc (d2 false fP (dC (.int 1)) (fq fj 2 (fc (dV 0) (fc (dC (.int 4)) fg)))) fg) [xB n,x1,x2,x3,x4] (pt bx n p)=.val [.d (.int ((1+j:Nat):Int))] (pt bx n (p / 4)):=by
    simp[t5,fP,ej]
   rw[lj a (by omega),rf]
  simp only[kL]at e1;rw[lg,CG,jQ,jk,r2,fM,show cq [none,some 0] [some (W.b n),x1,x2,x3,x4]=[none,some (W.b n)] from rfl,e1,fM,gw,fM,oG,fM,fM,iF,oH,lO,kM,bD,show nE [.lst ds]=some (.tup ds) from rfl,gw,A3,gX,lQ];rfl
theorem MC (h:n<bx.length) (p:Int) (x1 x2 x3 x4:Option W):∃ (d:D) (q:Int),wi d 1 9=true /\
 d2 false ah (gI false (fc (dC (.int 1)) (fc (dC (.int 2)) (fc (dC (.int 9)) (fc (d2 false fP (dC (.int 1)) (fq fj 2 (fc (dV 0) (fc (dC (.int 9)) fg)))) fg))))) (fq fj 2 (fc (dV 0) (fc (dC (.int 4)) fg))) [xB n,x1,x2,x3,x4] (pt bx n p)=.val (.d d) (pt bx n q):=by
 have t9:=gO h p 9 (by decide) (by decide);have t4:=gO h (p / 9) 4 (by decide) (by decide);have lo:=ip p (k:=9) (by decide);have hi:=iq p (k:=9) (by decide);obtain⟨y,ey,my⟩:=jS (l:=[D.int 1,.int 2,.int 9,.int (1+p % 9)]) (ip (p / 9) (k:=4) (by decide)) (by show _<(4:Int);exact iq _ (by decide));have z4:(4:Nat)<=sizeLine:=by decide
 refine⟨y,p / 9 / 4,?_,?_⟩
 ·simp at my;rcases my with rfl|rfl|rfl|rfl
  ·rfl
  ·rfl
  ·rfl
  ·simp[wi];omega
 ·generalize fj=ft at t4 t9 ⊢;simp[t9,fP,z4,t4,ah,ey]
theorem AG {k:DE W}{ag:List Bx}{l0:List D}{d:D}(h1:m env bx=.val (.b i) bx1) (Zl:bx1[i]?=some (.lst l0)) (h2:k env bx1=.val (.d d) ag) (hb:ag[i]?=some (.lst l)) (hl:l.length<sizeLine):dY m k env bx=.val (.d .non) (ag.set i (.lst (l++[d]))):=by
 unfold dY;rw[h1,fM];simp only[Zl,h2,fM,hb,if_pos hl]
section
variable {d lim rt : D} {rs ks ps : List D} {fo so fi tw th : Option W} 
end
section
variable {d lim rt : D} {rs ks ps : List D} {fo so fi tw th : Option W} 
end
theorem oT {m:aq}{ws:List W}{d:D}{bx':List Bx}(h:m (ws.map some++List.replicate (n-ws.length) none) bx=.rt (.d d) bx'):aS n (aJ m) ws bx=.val (.d d) (bx'.take bx.length):=by
 simp only[aS,aJ,DL.envOf,h,nC,nD]
theorem Nj {k:Nat}(h:env[k]?=some (xB i)) (hb:bx[i]?=some (.lst l)):tF k env bx=.val (.d (.lst l)) (bx.set i .dead):=by
 unfold tF;simp only[h,hb]
theorem Pb (l:List Int) (k:Nat) (bx:List Bx):∃ c:Int,gL [.s l,.d (.int (k:Int))] bx=.val (.d (.int c)) bx:=by
 by_cases h:k<l.length
 ·have a:a5 l (k:Int)=some l[k]:=Pa l k h;refine⟨l[k],gu ?_⟩;have h':(k:Int)<(l.length:Int):=by omega
  simp[iH,pW,dg,h',yH,a]
 ·refine⟨0,gu ?_⟩;have h':¬ (k:Int)<(l.length:Int):=by omega
  simp[iH,pW,dg,h']
abbrev IP:aq:=(fw (fC (d2 false kF (d2 false dA (d2 false fP (d2 false fP (d2 false kF (dV 0) (dC (.int 2147483629))) (d2 false dA (dC (.int 7919)) (dV 2))) (dC (.int 1))) (dC (.int 48271))) (dC (.int 2147483647))) (fe 3)) (fw (fC (d2 false kF (d2 false fP (d2 false fP (d2 false dA (dV 3) (dV 3)) (d2 false dA (dC (.int 69621)) (dV 2))) (dC (.int 7))) (dC (.int 2147483587))) (fe 3)) (fC (d2 false fP (d2 false dA (dV 1) (dC (.int 2147483587))) (dV 3)) (fe 1))))
theorem Jn {i j:Int}(h1:-(2 ^ 64)<i) (h2:i<2 ^ 64):dA (.int i) (.int j)=some (.old (.int (i*j))):=if_pos (.inl ⟨h1,h2⟩)
theorem Nk {i j:Int}(h1:-(2 ^ 64)<j) (h2:j<2 ^ 64):dA (.int i) (.int j)=some (.old (.int (i*j))):=if_pos (.inr ⟨h1,h2⟩)
theorem Jo {i j:Int}(h1:0<j):kF (.int i) (.int j)=some (.old (.int (i % j))):=if_pos h1
theorem Jp {i j:Int}(h1:uD i j):e9 (.int i) (.int j)=some (.old (.int (i ^ j.toNat))):=if_pos h1
theorem FL (c x j:Int) (w:Option W) (bx:List Bx):∃ x' y,IP [xN c,xN x,xN j,w] bx=.nx [xN c,xN x',xN j,xN y] bx:=by
 let a:=(c % 2147483629+7919*j+1)*48271 % 2147483647
 let b:=(a*a+69621*j+7) % 2147483587
 have a0:0<=a:=ip _ (by decide);have a1:a<2147483647:=iq _ (by decide);have e1:fC (d2 false kF (d2 false dA (d2 false fP (d2 false fP (d2 false kF (dV 0) (dC (.int 2147483629))) (d2 false dA (dC (.int 7919)) (dV 2))) (dC (.int 1))) (dC (.int 48271))) (dC (.int 2147483647))) (fe 3) [xN c,xN x,xN j,w] bx=.nx [xN c,xN x,xN j,xN a] bx :=
  fY (fW (r:=.old _) (fW (r:=.old _) (fW (r:=.old _) (fW (r:=.old _) (fW (r:=.old _) rfl rfl (Jo (by decide))) (fW (r:=.old _) rfl rfl (Jn (by decide) (by decide))) rfl) rfl rfl) rfl (Nk (by decide) (by decide))) rfl (Jo (by decide)))
 have e2:fC (d2 false kF (d2 false fP (d2 false fP (d2 false dA (dV 3) (dV 3)) (d2 false dA (dC (.int 69621)) (dV 2))) (dC (.int 7))) (dC (.int 2147483587))) (fe 3) [xN c,xN x,xN j,xN a] bx=.nx [xN c,xN x,xN j,xN b] bx :=
  fY (fW (r:=.old _) (fW (r:=.old _) (fW (r:=.old _) (fW (r:=.old _) rfl rfl (Jn (by omega) (by omega))) (fW (r:=.old _) rfl rfl (Jn (by decide) (by decide))) rfl) rfl rfl) rfl (Jo (by decide)))
 have e3:fC (d2 false fP (d2 false dA (dV 1) (dC (.int 2147483587))) (dV 3)) (fe 1) [xN c,xN x,xN j,xN b] bx=.nx [xN c,xN (x*2147483587+b),xN j,xN b] bx :=
  fY (fW (r:=.old _) (fW (r:=.old _) rfl rfl (Nk (by decide) (by decide))) rfl rfl)
 exact⟨_,_,by unfold IP;rw[fm e1,fm e2,e3]⟩
theorem Jq {m:aq}{ws:List W}{bx':List Bx}(h:m (ws.map some++List.replicate (n-ws.length) none) bx=.rt (.b i) bx'):aS n (aJ m) ws bx=.val (.b i) bx':=by
 simp only[aS,aJ,DL.envOf,h,nC,nD]
theorem Rw (c:Int) (bx:List Bx):∃ p:Int,jg [.d (.int c)] bx=.val (.b bx.length) (bx++[.lst [.int p]]):=by
 have sz:=ba;have Vt:∀ e b,d2 false e9 (dC (.int 10)) (dC (.int 18)) e b=.val (.d (.int (10 ^ 18))) b:=λe b=>fW (r:=.old _) rfl rfl (Jp (by decide));have t:dB (d2 false uL (dV 0) (d2 false e9 (dC (.int 10)) (dC (.int 18)))) [xN c,none,none,none] bx=.val (decide (10 ^ 18<=c)) bx:=gY (fW (r:=.old _) rfl (Vt _ _) rfl);by_cases h:10 ^ 18<=c
 ·rw[decide_eq_true h]at t;refine⟨c-10 ^ 18,Jq ?_⟩;show iS [xN c,none,none,none] bx=_;unfold iS;refine(gf ((io t).trans (ie (A8 [.int (c-10 ^ 18)] (fr (fW (r:=.old _) rfl (Vt _ _) rfl) rfl) (show (1:Nat)<=sizeLine by omega))))).trans rfl
 ·rw[decide_eq_false h]at t;have rg:=mQ (env:=[xN c,xN 0,none,none]) (bx:=bx) (k:=64) (m:=fc (dC (.int 64)) fg) rfl (by decide);obtain⟨aC,bx',e,x,w2,w3,rfl,rfl⟩:=jR (g:=fe 2) (body:=IP) (λ_ env b=>∃ (x:Int) (w2 w3:Option W),env=[xN c,xN x,w2,w3] /\ b=bx) (fH 0 64) 0 [xN c,xN 0,none,none] bx ⟨0,none,none,rfl,rfl⟩ (by
   rintro i w env b hw ⟨x,w2,w3,rfl,rfl⟩;obtain⟨j,_,rfl⟩:=bV.mp (xl hw);obtain⟨x',y,e⟩:=FL c x (0+(j:Int)) w3 b;exact⟨_,_,_,_,rfl,e,x',_,_,rfl,rfl⟩)
  refine⟨x,Jq ?_⟩;show iS [xN c,none,none,none] bx'=_;unfold iS;refine(fm (f9 t)).trans ?_;refine(fm (fY rfl)).trans ?_;refine(fm ((mJ rg).trans e)).trans ?_;exact ie (A8 [.int x] rfl (show (1:Nat)<=sizeLine by omega))
end K1
namespace K2
open L2 L2.DL K1
section
variable {hs : List D} {c hold hour : Int} {x1 x2 : Option W} 
end
section
variable {d : D} {rs : List Int} {hold hour : Int} 
end
end K2
namespace L2.DL
section
variable {aX : aM} {ag : List Bx} {l : List W} {c : Nat}
end
end L2.DL
namespace K2
open L2 L2.DL K1
section
variable {h : D} {rs : List Int} {hold : Int} 
end
end K2
namespace K1
open L2 L2.DL
section
variable {p : Int} {x y : Bx} {E : List Bx}
theorem jI (h:n<bx.length):pt bx n p++E=pt (bx++E) n p:=by
 unfold pt;rw[EE _ _ h]
theorem mR (h:n<bx.length):(pt (bx++[x]) n p)[bx.length]?=some x:=by
 rw[<-jI h,<-gk (bx:=bx) (n:=n) (p:=p)];exact List.getElem?_concat_length
theorem DC (h:n<bx.length):(pt (bx++[x]) n p).set bx.length y=pt (bx++[y]) n p:=by
 rw[<-jI h,<-jI h,<-gk (bx:=bx) (n:=n) (p:=p),List.set_append_right _ _ (ao _),p9];rfl
theorem B7 (h:n<bx.length):(pt (bx++E) n p).take bx.length=pt bx n p:=by
 rw[<-jI h,<-gk (bx:=bx) (n:=n) (p:=p),List.take_left]
end
theorem DD (h:n<bx.length) (p k:Int) (hk:0<k) (tK:k<1073741824):∃ r q,fj [.b n,.d (.int k)] (pt bx n p)=.val (.d (.int r)) (pt bx n q) /\ 0<=r /\ r<k :=
 ⟨_,_,gO h p k hk tK,ip p hk,iq p hk⟩
end K1
namespace K2
open L2 L2.DL K1
end K2
namespace dh
open L2 L2.DL K1
theorem lm (h:n<bx.length) {p p1:Int}(he:env[i]?=some (xB n)) {k:Int}(hm:m env (pt bx n p)=.val (.d (.int k)) (pt bx n p1)) (h0:0<k) (h1:k<1073741824) :
 ∃ r q,fq K1.fj 2 (fc (dV i) (fc m fg)) env (pt bx n p)=.val (.d (.int r)) (pt bx n q) /\ 0<=r /\ r<k:=by
 obtain⟨r,q,t,a,b⟩:=DD h p1 k h0 h1;refine⟨r,q,?_,a,b⟩;have e0:dV i env (pt bx n p)=.val (.b n) (pt bx n p):=by unfold dV;rw[he]
 exact fN (fr e0 (fr hm rfl)) rfl t
theorem tX (h:n<bx.length) (p:Int) (he:env[i]?=some (xB n)) (k:Int) (h0:0<k) (h1:k<1073741824) :
 ∃ r q,fq K1.fj 2 (fc (dV i) (fc (dC (.int k)) fg)) env (pt bx n p)=.val (.d (.int r)) (pt bx n q) /\ 0<=r /\ r<k :=
 lm h he (m:=dC (.int k)) rfl h0 h1
theorem Jr (h:n<bx.length) (p:Int) (he:env[i]?=some (xB n)) (l:List Int) (hk:∀ e b,ks e b=.val ((l.map D.int).map W.d) b) {k:Int}(hl:(l.length:Int)=k) (h0:0<k) (h1:k<1000) :
 ∃ v q,d2 false ah (gI false ks) (fq K1.fj 2 (fc (dV i) (fc (dC (.int k)) fg))) env (pt bx n p)=.val (.d (.int v)) (pt bx n q) /\ v∈l:=by
 obtain⟨r,q,t,a,b⟩:=tX h p he k h0 (by omega);obtain⟨d,e,m⟩:=jS (l:=l.map D.int) a (by rw[aR,hl];exact b);obtain⟨v,mv,rfl⟩:=bV.mp m;have sz:=ba;exact⟨v,q,fW (r:=.old (.int v)) (oO (l.map D.int) (hk _ _) (by rw[aR];omega)) t (by simp only[ah,e,kM]),mv⟩
theorem Pc (h:m env bx=.val (.b j) bx1) (g:bx1[j]?=some (.lst l)):dN false bf (fc m fg) env bx=.val (.d (.int l.length)) bx1:=by
 rw[CG,fr (w:=.b j) (l:=[]) h rfl,fM];have:eX bx1 [.b j]=some [.lst l]:=by simp only[eX,br,g,bD,kM]
 rw[this];rfl
theorem CM {lo:Int}{m:Nat}{w:W}(h:(fH lo m)[j]?=some w):w=.d (.int (lo+j)) /\ j<m:=by
 have hj:=(List.getElem?_eq_some_iff.mp h).1;have hm:j<m:=by simpa[fH] using hj
 simp[fH,hm]at h;exact⟨h.symm,hm⟩
section
variable {ag : List Bx}
theorem Nl {x y:W}{a b:DE W}(h1:a env bx=.val x bx1) (h2:b env bx1=.val y ag):kT i j (fc a (fc b fg)) env bx=.nx ((env.set i (some x)).set j (some y)) ag:=by
 unfold kT;rw[fr h1 (fr h2 rfl),gX]
end
end dh
namespace K2
open L2 L2.DL K1
end K2
namespace dh
open L2 L2.DL K1
section
variable {ag : List Bx}
theorem MD {k:DE W}{t:Nat}{i:Int}{l0:List D}{d:D}(h1:m env bx=.val (.b j) bx1) (g0:bx1[j]?=some (.lst l0)) (h2:k env bx1=.val (.d (.int i)) ag) (g:ag[j]?=some (.lst l)) (hi:-(2 ^ 63)<=i /\ i<2 ^ 63) (hx:bA l.length i=some t) (hd:l[t]?=some d) :
 tO m k env bx=.val (.d d) (ag.set j (.lst (l.eraseIdx t))):=by
 unfold tO;rw[h1,fM];simp only[g0,h2,fM,g,if_pos hi,hx,hd]
end
theorem ME {m t:Nat}(h:t<m):bA m (t:Int)=some t:=by
 unfold bA;simp;omega
open K2
section
variable {h : D} {k : Nat}
end
theorem Js (is:List Int) (b:Int):eS (.int b) (is.map D.int)=is.any λz=>decide (z=b):=by
 unfold eS;rw[xx];rfl
theorem FM (is:List Int):(is.map D.int).all eR=true:=by rw[sx];exact cT.mpr λ_ _=>rfl
end dh
namespace kZ
open L2 L2.DL
open K1 dh
section
variable {enc : α -> D} {r : aM}
theorem yZ (p:α->Bool) (f:α->D):∀ (l:List α) (w:Option W) (acc:List D),acc.length+l.length<=sizeLine->(∀ a∈l,tf (some (.d (enc a))::r) bx=.val (p a) bx /\ (p a=true->te (some (.d (enc a))::r) bx=.val (.d (f a)) bx)) ->
 aU (fe 0) tf te ((l.map enc).map W.d) (w::r) bx acc=.val (acc++(l.filter p).map f) bx
 |[],w,acc,_,_=>by simp[aU]
 | a::l,w,acc,n,h=>by
   obtain⟨h1,h2⟩:=h a (bL ..);rw[bb]at n;have n':acc.length<sizeLine:=by omega
   have e0:fe 0 (W.d (enc a)) (w::r) bx=some (some (W.d (enc a))::r,bx):=rfl;cases c:p a with
   | false =>
     rw[vw (by simp[c]),<-yZ p f l (some (W.d (enc a))) acc (by omega) λx m=>h x (bC _ m)];rw[c]at h1;simp only[aG,aU,e0,h1,oF]
   | true =>
     rw[vz c];have ih:=yZ p f l (some (W.d (enc a))) (acc++[f a]) (by simp;omega) λx m=>h x (bC _ m);rw[c]at h1;simp only[aG,aU,e0,h1,h2 c,oF,if_pos n',ih];simp
theorem Zm {src:List (Option Nat)}{nK:List Bx}{l:List α}(p:α->Bool) (f:α->D) (h1:mi env nK=.val ((l.map enc).map W.d) bx) (he:cq src env=none::r) (n:l.length<=sizeLine)
 (h:∀ a∈l,tf (some (.d (enc a))::r) bx=.val (p a) bx /\ (p a=true->te (some (.d (enc a))::r) bx=.val (.d (f a)) bx)):fS false src mi (fe 0) tf te env nK=.val (.d (.lst ((l.filter p).map f))) bx :=
 lR h1 he (by rw[yZ p f l none [] (by simpa using n) h];rfl)
theorem Vu {src:List (Option Nat)}{nK:List Bx}{l:List α}(f:α->D) (h1:mi env nK=.val ((l.map enc).map W.d) bx) (he:cq src env=none::r) (n:l.length<=sizeLine)
 (h:∀ a∈l,te (some (.d (enc a))::r) bx=.val (.d (f a)) bx):fS false src mi (fe 0) fQ te env nK=.val (.d (.lst (l.map f))) bx:=by
 have:=Zm (tf:=fQ) (λ_=>true) f h1 he n λa m=>⟨rfl,λ_=>h a m⟩
 rwa [List.filter_eq_self.mpr λ_ _=>rfl]at this
theorem FN (l:List α) (p:α->Bool):kG (l.map λd=>D.bl (p d))=some (l.map p):=by
 induction l with
 |nil=>rfl
 |cons d l ih=>simp[kG,ih]
theorem IQ {src:List (Option Nat)}{nK:List Bx}{l:List α}(p:α->Bool) (h1:mi env nK=.val ((l.map enc).map W.d) bx) (he:cq src env=none::r) (n:l.length<=sizeLine)
 (h:∀ a∈l,te (some (.d (enc a))::r) bx=.val (.d (.bl (p a))) bx):dN false cu (fc (fS false src mi (fe 0) fQ te) fg) env nK=.val (.d (.bl (l.all p))) bx :=
 oN (r:=.old (.bl (l.all p))) [.lst (l.map λa=>.bl (p a))] (fr (Vu _ h1 he n h) rfl) (by simp[cu,FN,sx])
end
noncomputable abbrev tupI (l:List Int):D:=.tup (l.map D.int)
abbrev xU (l:List Int):Option W:=some (.d (tupI l))
theorem oU:∀ l:List Int,PyData.canLayAll0 (a8 (l.map D.int))=true /\ PyData.depthAll (a8 (l.map D.int))=0
 |[]=>⟨rfl,rfl⟩
 | i::l=>by
   obtain⟨a,b⟩:=oU l;simp[a8,toPy,PyData.canLayAll0,PyData.canLay0,PyData.depthAll,PyData.depth,a,b]
theorem B8:∀ l:List (List Int),PyData.canLayAll0 (a8 (l.map tupI))=true /\ PyData.depthAll (a8 (l.map tupI))<=1
 |[]=>⟨rfl,eG _⟩
 | i::l=>by
   obtain⟨a,b⟩:=B8 l;obtain⟨c,d⟩:=oU i;simp only[aG,a8,toPy,PyData.canLayAll0,PyData.canLay0,PyData.depthAll,PyData.depth,a,c,d];exact⟨rfl,by omega⟩
theorem MF (l:List Int):dZ (tupI l)=true:=by
 obtain⟨c,d⟩:=oU l;simp[dZ,toPy,PyData.canLay0,PyData.depth,c,d]
theorem Jt (l:List (List Int)):dZ (.lst (l.map tupI))=true:=by
 obtain⟨c,d⟩:=B8 l;unfold dZ;simp only[toPy,PyData.canLay0,PyData.depth,c,QV,decide_eq_true_eq];omega
theorem CN (ps:List (Int×Int)):ps.map dP=(ps.map λq=>[q.1,q.2]).map tupI:=by rw[bQ];rfl
theorem Ju (a b:Int×Int):eqv (dP a) (dP b)=decide (a=b):=by
 rw[kn];obtain⟨a1,a2⟩:=a;obtain⟨b1,b2⟩:=b;simp[eqv,toPy,a8,PyData.eqv,PyData.eqvAll]
theorem Pd (ps:List (Int×Int)) (q:Int×Int):((ps.map dP).any λz=>eqv z (dP q))=decide (q∈ps):=by
 rw[kn,pL,decide_eq_true_eq];constructor
 ·rintro⟨z,m,e⟩;obtain⟨x,mx,rfl⟩:=bV.mp m;rw[Ju,decide_eq_true_eq]at e;exact e▸mx
 ·intro m;exact⟨dP q,bV.mpr ⟨q,m,rfl⟩,by rw[Ju,decide_eq_true_eq]⟩
end kZ
namespace K11
open L2 L2.DL K1 kZ
open HT (bS)
abbrev hs (rs ks:List D) (ps:List (Int×Int)) (hd:D):D:=.tup [.tup rs,.tup ks,.tup (ps.map dP),hd]
structure Hs (rs ks:List D) (ps:List (Int×Int)) (hd:D):Prop where
 r1:1<=rs.length
 r5:rs.length<=5
 k1:1<=ks.length
 k4:ks.length<=4
 b:∀ p∈ps,p.1<p.2
 l:ps.length<=1000
 hh:house (hs rs ks ps hd)=true
noncomputable def u5 (nr nk:Nat):Pg->Prop
 |.aK h l k r p w=>0<=h /\ (0<=l /\ l<=9) /\ (0<=k /\ k<(nk:Int)) /\ (0<=r /\ r<(nr:Int)) /\ (0<=p /\ p<=999) /\ 0<=w /\ w<=99
 |.to h l r=>0<=h /\ (0<=l /\ l<=9) /\ 0<=r /\ r<(nr:Int)
 |.out h l=>0<=h /\ 0<=l /\ l<=9
theorem eq_str (a b:Str):aF (.str a) (.str b)=some (.old (.bl (decide (a=b)))):=by
 simp[aF]
theorem ne_str (a b:Str):bY (.str a) (.str b)=some (.old (.bl (!decide (a=b)))):=by
 simp[bY]
section
variable {rs ks : List D} 
theorem Pe:(("in":Str)="out")=False:=eq_false (by decide)
theorem Rx:(("in":Str)="to")=False:=eq_false (by decide)
theorem FO:(("out":Str)="in")=False:=eq_false (by decide)
theorem Ry:(("out":Str)="to")=False:=eq_false (by decide)
theorem CO:(("to":Str)="in")=False:=eq_false (by decide)
theorem MG:(("to":Str)="out")=False:=eq_false (by decide)
noncomputable def wQ (rs ks:List D):Pg->List D
 |.aK ..=>[.int 9,.int ((ks.length:Int)-1),.int ((rs.length:Int)-1),.int 999,.int 99]
 |.to ..=>[.int 9,.int ((rs.length:Int)-1)]
 |.out ..=>[.int 9]
noncomputable def aY:Pg->Str
 |.aK ..=>"in"
 |.to ..=>"to"
 |.out ..=>"out"
theorem Ba (g:Pg):gN [.d (hs rs ks ps hd),.d (.str (aY g))] bx=.val (.d (.tup (wQ rs ks g))) bx :=
 gu (by
  have s5:(5:Nat)<=sizeLine:=by decide
  have s1:(1:Nat)<=sizeLine:=by decide
  have s2:(2:Nat)<=sizeLine:=by decide
  cases g<;>simp[iT,kT,bf,ah,a5,bA,dX,eq_str,aY,wQ,Pe,Rx,FO,Ry,CO,MG,s5,s1,s2])
theorem CP {i:Int}(h:0<=i):K2.j8 [.d (.int i)] bx=.val (.d (.bl true)) bx :=
 gu (by simp[K2.AC,BW,wh,uL,h])
theorem Pf (g:Pg) (ok:u5 rs.length ks.length g):ji [.d (hs rs ks ps hd),.d (enc g)] bx=.val (.d (.bl true)) bx:=by
 refine gu ?_;have z:sizeLine=16777216:=ba;cases g with
 | aK h l k r p w =>
   obtain⟨a,b,c,d,e,f⟩:=ok;have g1:=Ba (rs:=rs) (ks:=ks) (ps:=ps) (hd:=hd) (bx:=bx) (.aK h l k r p w);simp only[aY,wQ]at g1;simp[jP,enc,cC,a9,dD,l8,bf,dg,CP a,ah,a5,bA,bY,dX,g1,ph,DL.cutD,HT.aA,rT,eu,aU,gF,wi,z,cu,kG];omega
 | to h l r =>
   obtain⟨a,b,c⟩:=ok;have g1:=Ba (rs:=rs) (ks:=ks) (ps:=ps) (hd:=hd) (bx:=bx) (.to h l r);simp only[aY,wQ]at g1;simp[jP,enc,cC,a9,dD,l8,bf,dg,CP a,ah,a5,bA,bY,dX,g1,ph,DL.cutD,HT.aA,rT,eu,aU,gF,wi,z,cu,kG];omega
 | out h l =>
   obtain⟨a,b⟩:=ok;have g1:=Ba (rs:=rs) (ks:=ks) (ps:=ps) (hd:=hd) (bx:=bx) (.out h l);simp only[aY,wQ]at g1;simp[jP,enc,cC,a9,dD,l8,bf,dg,CP a,ah,a5,bA,bY,dX,g1,ph,DL.cutD,HT.aA,rT,eu,aU,gF,wi,z,cu,kG];omega
theorem Rz {qs:List Pg}{g:Pg}(h:qs[i]?=some g):a5 (qs.map enc) (i:Int)=some (enc g):=Li (by rw[nR,h];rfl)
theorem RC {qs:List Pg}(h:IM qs) (hl:qs.length<=16):K1.gK [.d (.lst (qs.map enc))] bx=.val (.d (.bl true)) bx:=by
 have z:sizeLine=16777216:=ba;refine gu (ie ?_);have rg:sY (fc (dC (.int 1)) (fc (dN false bf (fc (dV 0) fg)) fg)) [some (.d (.lst (qs.map enc)))] bx=.val (((List.range (qs.length-1)).map λ(i:Nat)=>D.int (1+(i:Int))).map W.d) bx:=by
  rw[Jd (i:=1) (j:=(qs.length:Int)) (bx1:=bx) (by simp[bf]) (by omega),show ((qs.length:Int)-1).toNat=qs.length-1 by omega,bQ];rfl
 have:=IQ (l:=List.range (qs.length-1)) (enc:=λ(i:Nat)=>D.int (1+(i:Int))) (r:=[some (.d (.lst (qs.map enc)))]) (te:=d2 false dg (d2 false ah (dV 1) (d2 false dX (dV 0) (dC (.int 1)))) (d2 false ah (dV 1) (dV 0))) (src:=[none,some 0]) (λ_=>true) rg rfl (by simp;omega) λi m=>by
  have hi:=List.mem_range.mp m;have e1:qs[i]?=some qs[i]:=kK (by omega);have e2:qs[i+1]?=some qs[i+1]:=kK (by omega);have lt:=List.pairwise_iff_getElem.mp h i (i+1) (by omega) (by omega) (by omega);refine fW (r:=.old (.bl true)) (x:=enc qs[i]) (y:=enc qs[i+1]) (fW (r:=.old (enc qs[i])) (x:=.lst (qs.map enc)) (y:=.int (i:Int)) rfl (fW (r:=.old (.int (i:Int))) (x:=.int (1+(i:Int))) (y:=.int 1) rfl rfl ?_) ?_) (fW (r:=.old (enc qs[i+1])) (x:=.lst (qs.map enc)) (y:=.int (1+(i:Int))) rfl rfl ?_) ?_
  ·simp[dX];omega
  ·simp[ah,Rz e1]
  ·have:=Rz e2;rw[show ((i+1:Nat):Int)=1+(i:Int) by omega]at this;simp[ah,this]
  ·rw[O8,lt]
 rw[cT.mpr λ_ _=>rfl]at this;exact this
theorem MH (h:Hs rs ks ps hd):IL (hs rs ks ps hd):=by
 show short (.tup (ps.map dP));show (ps.map dP).length<=sizeLine;rw[aR,ba];have:=h.l;omega
theorem Bb (h:Hs rs ks ps hd):dh.iI [.d (hs rs ks ps hd)] bx=.val (.d .non) bx:=by
 have e:=Jf (hs rs ks ps hd) (MH h) bx;rw[h.hh]at e;have b:dh.jh [some (.d (hs rs ks ps hd))] bx=.nx [some (.d (hs rs ks ps hd))] bx :=
  (f9 (Jh (gY (fN (l:=[.d (hs rs ks ps hd)]) rfl rfl e)))).trans rfl
 show nD bx.length (nC (aJ dh.jh [some (.d (hs rs ks ps hd))] bx))=_;unfold aJ;rw[b];simp[nC,nD]
theorem Jv (l:List D):rM (pf (.lst l)) "list"=true:=rfl
structure Gs (nr nk:Nat) (gs:List Pg):Prop where
 ok:∀ g∈gs,u5 nr nk g
 nd:gs.Nodup
 l:gs.length<=16
theorem MI (G:Gs rs.length ks.length gs):jj [.d (hs rs ks ps hd),.d (.lst (gs.map enc))] bx=.val (.d (.bl true)) bx:=by
 have z:sizeLine=16777216:=ba;have gl:=G.l;obtain⟨qs,p,r,e⟩:=Dz G.nd (by omega);have ql:=p.length_eq;refine gu ?_;show jG [some (.d (hs rs ks ps hd)),some (.d (.lst (gs.map enc)))] bx=_;unfold jG;have t:eY (eP (dB (jo "list" (dV 1)))) (dB (d2 false qH (dN false bf (fc (dV 1) fg)) (dC (.int 16)))) [some (.d (hs rs ks ps hd)),some (.d (.lst (gs.map enc)))] bx=.val false bx:=by
  simp[Jv,bf,qH];omega
 have a:dN false cu (fc (fS false [none,some 0] (bt (dV 1)) (fe 0) fQ (fq K11.ji 2 (fc (dV 1) (fc (dV 0) fg)))) fg) [some (.d (hs rs ks ps hd)),some (.d (.lst (gs.map enc)))] bx=.val (.d (.bl (gs.all λ_=>true))) bx :=
  IQ (enc:=enc) (r:=[some (.d (hs rs ks ps hd))]) _ (g9 rfl) rfl (by omega) λg m=>fN (l:=[.d (hs rs ks ps hd),.d (enc g)]) rfl rfl (Pf g (G.ok g m))
 rw[cT.mpr λ_ _=>rfl]at a;refine(fm (f9 t)).trans (ie ?_);rw[Mv a,if_pos rfl];exact fN (l:=[.d (.lst (qs.map enc))]) (fr (oN (r:=.lst (qs.map enc)) [.lst (gs.map enc)] (fr rfl rfl) (e gs (.refl _))) rfl) rfl (RC r (by omega))
theorem Bc (h:Hs rs ks ps hd) (G:Gs rs.length ks.length gs):iJ [.d (hs rs ks ps hd),.d (.lst (gs.map enc))] bx=.val (.d .non) bx:=by
 have b:il [some (.d (hs rs ks ps hd)),some (.d (.lst (gs.map enc)))] bx=.nx [some (.d (hs rs ks ps hd)),some (.d (.lst (gs.map enc)))] bx:=by
  unfold il;refine(fm (jl (fN (l:=[.d (hs rs ks ps hd)]) rfl rfl (Bb h)))).trans ?_;exact(f9 (Jh (gY (fN (l:=[.d (hs rs ks ps hd),.d (.lst (gs.map enc))]) rfl rfl (MI G))))).trans rfl
 show nD bx.length (nC (aJ il [some (.d (hs rs ks ps hd)),some (.d (.lst (gs.map enc)))] bx))=_;unfold aJ;rw[b];simp[nC,nD]
end
noncomputable abbrev Al:=List (Int×Int)
noncomputable def look (l:Al) (x:Int):Option Int:=(l.find? λq=>decide (q.1=x)).map (·.2)
noncomputable def put (l:List (Int×α)) (x:Int) (v:α):List (Int×α):=if (l.any λq=>decide (q.1=x))=true then l.map (λq=>if q.1=x then (q.1,v) else q) else l++[(x,v)]
noncomputable def k5 (l:List (Int×α)) (x:Int):List (Int×α):=l.filter λq=>decide (q.1≠x)
def kk (K:Al) (l:Int):Int:=(look K l).getD 0
noncomputable def cn (ps:Al) (a b:Int):Bool:=decide ((a,b)∈ps)||decide ((b,a)∈ps)
def eB (ps K R:Al) (k r:Int):Bool:=R.any λq=>decide (q.2=r)&&cn ps k (kk K q.1)
def word (ps K R:Al):Pg->Str
 |.aK _ l k r _ _=>if (look K l).isSome then "there" else if eB ps K R k r then "apart" else "takes"
 | .to _ l r=>match look R l with
   |none=>"none"
   |some r0=>if r0=r then "same" else if eB ps K R (kk K l) r then "apart" else "takes"
 | .out _ l=>match look R l with
   |none=>"none"
   |some _=>"takes"
noncomputable def aT:Pg->Int
 |.aK _ l ..=>l
 |.to _ l _=>l
 |.out _ l=>l
def stK (K:Al):Pg->Al
 |.aK _ l k ..=>put K l k
 |_=>K
def u6 (R:Al):Pg->Al
 |.aK _ l _ r ..=>put R l r
 |.to _ l r=>put R l r
 |.out _ l=>k5 R l
def wordsOf (ps:Al):Al->Al->List Pg->List Str
 |_,_,[]=>[]
 |K,R,g::gs=>word ps K R g::(if word ps K R g="takes" then wordsOf ps (stK K g) (u6 R g) gs else wordsOf ps K R gs)
structure cQ (K R:Al) (n:Nat):Prop where
 nd:(R.map (·.1)).Nodup
 sub:∀ q∈R,(look K q.1).isSome=true
 lk:K.length<=n
 lr:R.length<=n
section
variable {e : α -> D}
noncomputable def aN (e:α->D) (l:List (Int×α)):List (Key×D):=l.map λq=>(.inl q.1,e q.2)
abbrev bZ (l:Al):List (Key×D):=aN D.int l
theorem DH (a b:Int):decide ((Sum.inl a:Key)=Sum.inl b)=decide (a=b):=by
 by_cases h:a=b
 ·simp[h]
 ·rw[decide_eq_false h];exact decide_eq_false (λz=>h (Sum.inl.inj z))
theorem lS (l:List (Int×α)) (x:Int):c8 (aN e l) (.inl x)=((l.find? λq=>decide (q.1=x)).map (·.2)).map e:=by
 unfold c8 aN;rw[List.find?_map];have:((λkv:Key×D=>decide (kv.1=Sum.inl x))∘λq:Int×α=>((Sum.inl q.1:Key),e q.2))=λq=>decide (q.1=x):=by
  funext q;exact DH q.1 x
 rw[this];cases l.find? λq=>decide (q.1=x)<;>rfl
theorem MJ (l:List (Int×α)) (x:Int):((aN e l).any λkv=>decide (kv.1=Sum.inl x))=l.any λq=>decide (q.1=x):=by
 unfold aN;rw[xx];congr 1;funext q;exact DH q.1 x
theorem DI (l:List (Int×α)) (x:Int) (v:α):wI (aN e l) (.inl x) (e v)=aN e (put l x v):=by
 unfold wI put;rw[MJ];split
 ·unfold aN;rw[bQ,bQ];refine pJ λq _=>?_;by_cases h:q.1=x
  ·simp[h]
  ·simp[h]
 ·unfold aN;simp
theorem B9 (l:List (Int×α)) (x:Int):qP (aN e l) (.inl x)=aN e (k5 l x):=by
 unfold qP k5 aN;rw[Sq];congr 1;congr 1;funext q;by_cases h:q.1=x<;>simp[h]
theorem lT (l:List (Int×α)) (x:Int) (v:α):(put l x v).length<=l.length+1:=by
 unfold put;split<;>simp
end
theorem Ca {R:Al}(nd:(R.map (·.1)).Nodup) {q:Int×Int}(m:q∈R):look R q.1=some q.2:=by
 induction R with
 |nil=>cases m
 | cons a R ih =>
   rw[aG,qm]at nd;unfold look;rw[kq];rcases bG.mp m with rfl|m
   ·simp
   ·have:¬ a.1=q.1:=λz=>nd.1 (by rw[z];exact vB m);rw[decide_eq_false this];exact ih nd.2 m
theorem CQ (ps:Al):dZ (.tup (ps.map dP))=true:=by
 have h:=Jt (ps.map λq=>[q.1,q.2]);rw[<-CN]at h;unfold dZ at h ⊢;simpa[toPy,PyData.canLay0,PyData.depth] using h
theorem Cb (neg:Bool) (q:Int×Int) (ps:Al):inD neg (dP q) (.tup (ps.map dP))=some (.old (.bl (if neg then !decide (q∈ps) else decide (q∈ps)))):=by
 show (if eR (dP q)=true /\ (ps.map dP).all eR=true then some (Res.old (.bl (if neg then !eS (dP q) (ps.map dP) else eS (dP q) (ps.map dP)))) else tM neg (dP q) (.tup (ps.map dP)) (ps.map dP))=_;rw[if_neg (λz=>by cases z.1)];unfold tM;rw[show dZ (dP q)=true from MF [q.1,q.2],CQ,Pd];rfl
section
variable {rs ks : List D} 
theorem MK (h:Hs rs ks ps hd) (a b:Int):im [.d (hs rs ks ps hd),.d (.int a),.d (.int b)] bx=.val (.d (.bl (!cn ps a b))) bx:=by
 have z:(2:Nat)<=sizeLine:=by decide
 refine gu (ie ?_);have e1:fK (fc (dN false minD (fc (dV 1) (fc (dV 2) fg))) (fc (dN false maxD (fc (dV 1) (fc (dV 2) fg))) fg)) [some (.d (hs rs ks ps hd)),xN a,xN b] bx=.val (.d (dP (if b<a then b else a,if b>a then b else a))) bx:=by
  simp[minD,maxD,z]
 have e2:d2 false ah (dV 0) (dC (.int 2)) [some (.d (hs rs ks ps hd)),xN a,xN b] bx=.val (.d (.tup (ps.map dP))) bx:=by
  simp[ah,a5,bA]
 refine(fW (r:=.old (.bl (!decide ((if b<a then b else a,if b>a then b else a)∈ps)))) e1 e2 (Cb true _ ps)).trans ?_;have:decide ((if b<a then b else a,if b>a then b else a)∈ps)=cn ps a b:=by
  unfold cn;rw[kn];simp only[vn,decide_eq_true_eq];by_cases c:b<a
  ·rw[if_pos c,if_neg (by omega)];exact⟨.inr,λz=>z.elim (λz=>absurd (h.b _ z) (by simp;omega)) id⟩
  ·rw[if_neg c];by_cases d:b>a
   ·rw[if_pos d];exact⟨.inl,λz=>z.elim id (λz=>absurd (h.b _ z) (by simp;omega))⟩
   ·rw[if_neg d];have:a=b:=by omega
    subst this;exact⟨.inl,λz=>z.elim id id⟩
 rw[this];rfl
theorem Bd (g:Pg):fG [.d (enc g)] bx=.val (.d (match g with|.aK _ _ _ r _ _=>.int r|.to _ _ r=>.int r|.out ..=>.non)) bx :=
 gu (by cases g<;>simp[jH,enc,cC,a9,dD,ah,a5,bA,eq_str,CO,FO,Ry])
end
section
variable {e : α -> D} {L : List (Int × α)} {k : DE W} {l : Int}
theorem DJ (neg:Bool) (hk:k env bx=.val (.d (.int l)) bx) (hm:m env bx=.val (.b i) bx) (hb:pC bx (.b i)=some (aN e L)) :
 c9 neg k m env bx=.val (.d (.bl (if neg then !((L.find? λq=>decide (q.1=l)).map (·.2)).isSome else ((L.find? λq=>decide (q.1=l)).map (·.2)).isSome))) bx:=by
 unfold c9;rw[hk,fM,hm,fM,hb];show O.val (W.d (.bl (if neg then !(c8 (aN e L) (.inl l)).isSome else (c8 (aN e L) (.inl l)).isSome))) bx=_;rw[lS,qp]
theorem ls {v:α}(hk:k env bx=.val (.d (.int l)) bx) (hm:m env bx=.val (.b i) bx) (hb:pC bx (.b i)=some (aN e L)) (hf:(L.find? λq=>decide (q.1=l)).map (·.2)=some v):bX m k env bx=.val (.d (e v)) bx:=by
 unfold bX;rw[hm,fM,hk,fM,hb];show (match c8 (aN e L) (.inl l) with|some u=>O.val (W.d u) bx|none=>.bad)=_;rw[lS,hf];rfl
theorem jW {l:List (Key×D)}(h:bx[i]?=some (.ak l)):pC bx (.b i)=some l:=by unfold pC;simp only[h]
theorem Nm {l:List (Key×D)}(h:bx[i]?=some (.fD l)):pC bx (.b i)=some l:=by unfold pC;simp only[h]
theorem Cc:pD (aN e L)=(L.map λq=>D.int q.1).map W.d:=by
 unfold pD aN;rw[bQ,bQ];rfl
end
theorem Cd {x y:Bx}(h:bx[j]?=some x):(bx.set j y).set j x=bx:=by
 rw[Q8];apply EB;intro n;by_cases e:j=n
 ·subst e;rw[k9 (List.getElem?_eq_some_iff.mp h).1,h]
 ·rw[qf e]
theorem RD {l:List (Key×D)}(h:bx[j]?=some (.ak l)):nJ j (bx.set j (.fD l))=some bx:=by
 unfold nJ;rw[k9 (List.getElem?_eq_some_iff.mp h).1];simp only[Cd h]
section
variable {rs ks : List D} {K R : List (Int × Int)} 
abbrev IU:DE W:=tT false [none,some 2,some 6] 2 (fe 0) (dB (d2 false aF (bX (dV 1) (dV 0)) (dV 2))) (dV 0)
theorem Se (J:cQ K R n) (hn:n<=100) (hj:bx[j]?=some (.ak (bZ R))) {r:Int}(h2:env[2]?=some (xB j)) (h6:env[6]?=some (xN r)) :
 IU env bx=.val (.d (.lst ((R.filter λq=>decide (q.2=r)).map λq=>D.int q.1))) bx:=by
 have z:sizeLine=16777216:=ba;have lr:=J.lr;have hb:=k9 (a:=.fD (bZ R)) (List.getElem?_eq_some_iff.mp hj).1;have c:=yZ (enc:=λq:Int×Int=>D.int q.1) (tf:=dB (d2 false aF (bX (dV 1) (dV 0)) (dV 2))) (te:=dV 0) (bx:=bx.set j (.fD (bZ R))) (r:=[xB j,xN r]) (λq=>decide (q.2=r)) (λq=>.int q.1) R none [] (by simp;omega) λq m =>
  ⟨gY (fW (r:=.old (.bl (decide (q.2=r)))) (x:=.int q.2) (y:=.int r) (ls (e:=D.int) (L:=R) rfl rfl (Nm hb) (Ca J.nd m)) rfl (by simp[aF])),λ_=>rfl⟩
 unfold IU tT;simp only[h2,hj];have s:cq [none,some 2,some 6] env=[none,xB j,xN r]:=by simp[h2,h6]
 rw[s,show pD (bZ R)=(R.map λq=>D.int q.1).map W.d from Cc,c,fM];show uY j (.val _ _)=_;unfold uY;simp only[RD hj];rfl
abbrev Vv:DE W:=dN false cu (fc (fS false [none,some 0,some 1,some 7] (bt (dV 8)) (fe 0) fQ (fq K11.im 3 (fc (dV 1) (fc (dV 3) (fc (bX (dV 2) (dV 0)) fg))))) fg)
theorem Sf (h:Hs rs ks ps hd) (J:cQ K R n) (hn:n<=100) (hi:bx[i]?=some (.ak (bZ K))) {r k:Int}(h0:env[0]?=some (some (.d (hs rs ks ps hd)))) (h1:env[1]?=some (xB i)) (h7:env[7]?=some (xN k))
 (h8:env[8]?=some (some (.d (.lst ((R.filter λq=>decide (q.2=r)).map λq=>D.int q.1))))):Vv env bx=.val (.d (.bl (!eB ps K R k r))) bx:=by
 have z:sizeLine=16777216:=ba;have lr:=J.lr;have fl:=vt (λq:Int×Int=>decide (q.2=r)) R;have it:bt (dV 8) env bx=.val (((R.filter λq=>decide (q.2=r)).map λq=>D.int q.1).map W.d) bx:=g9 (by unfold dV;rw[h8]);have s:cq [none,some 0,some 1,some 7] env=none::[some (.d (hs rs ks ps hd)),xB i,xN k]:=by simp[h0,h1,h7]
 refine(IQ (enc:=λq:Int×Int=>D.int q.1) (λq=>!cn ps k (kk K q.1)) it s (by omega) λq m=>?_).trans ?_
 ·have mq:=(qZ.mp m).1;obtain⟨v,hv⟩:=Option.isSome_iff_exists.mp (J.sub q mq);have e:kk K q.1=v:=by unfold kk;rw[hv];rfl
  rw[e];exact fN (l:=[.d (hs rs ks ps hd),.d (.int k),.d (.int v)]) (fr rfl (fr rfl (fr (ls (e:=D.int) (L:=K) rfl rfl (jW hi) hv) rfl))) rfl (MK h k v)
 ·congr 3;unfold eB;rw[kn];simp only[cT,qZ,nQ,QW,aB,decide_eq_true_eq,not_and,Bool.not_eq_true];exact⟨λa q m c=>a q ⟨m,c⟩,λa q m=>a q m.1 m.2⟩
def Vw:aq:=(fw (fC IU (fe 8)) (fw (aI (dB Vv) (fL (dC (.str "takes"))) aQ) (fL (dC (.str "apart")))))
theorem RE (h:Hs rs ks ps hd) (J:cQ K R n) (hn:n<=100) (hi:bx[i]?=some (.ak (bZ K))) (hj:bx[j]?=some (.ak (bZ R))) (x3 x4 x5 x8:Option W) (k r:Int) :
 Vw [some (.d (hs rs ks ps hd)),xB i,xB j,x3,x4,x5,xN r,xN k,x8] bx=.rt (.d (.str (if eB ps K R k r then "apart" else "takes"))) bx:=by
 have a:=Se (env:=[some (.d (hs rs ks ps hd)),xB i,xB j,x3,x4,x5,xN r,xN k,x8]) J hn hj rfl rfl;have b:=Sf (env:=[some (.d (hs rs ks ps hd)),xB i,xB j,x3,x4,x5,xN r,xN k,some (.d (.lst ((R.filter λq=>decide (q.2=r)).map λq=>D.int q.1)))]) h J hn hi rfl rfl rfl rfl;refine(fm (fY a)).trans ?_;cases c:eB ps K R k r with
 | true =>
   rw[c]at b;exact(fm (f9 (gY b))).trans rfl
 | false =>
   rw[c]at b;exact gf ((io (gY b)).trans rfl)
theorem Ph (h:Hs rs ks ps hd) (J:cQ K R n) (hn:n<=100) (hi:bx[i]?=some (.ak (bZ K))) (hj:bx[j]?=some (.ak (bZ R))) (g:Pg) :
 ia [.d (hs rs ks ps hd),.b i,.b j,.d (enc g)] bx=.val (.d (.str (word ps K R g))) bx:=by
 refine gu ?_;show lc [some (.d (hs rs ks ps hd)),xB i,xB j,some (.d (enc g)),none,none,none,none,none] bx=_;have eM:lc=(fw (kT 4 5 (fc (d2 false ah (dV 3) (dC (.int 1))) (fc (d2 false ah (dV 3) (dC (.int 2))) fg))) (fw (aI (kC (dB (d2 false aF (dV 4) (dC (.str "in")))) (dB (c9 false (dV 5) (dV 1)))) (fL (dC (.str "there"))) aQ) (fw (aI (kC (dB (d2 false bY (dV 4) (dC (.str "in")))) (dB (c9 true (dV 5) (dV 2)))) (fL (dC (.str "none"))) aQ) (fw (aI (dB (d2 false aF (dV 4) (dC (.str "out")))) (fL (dC (.str "takes"))) aQ) (fw (fC (fq K11.fG 1 (fc (dV 3) fg)) (fe 6)) (fw (aI (kC (dB (d2 false aF (dV 4) (dC (.str "to")))) (dB (d2 false aF (bX (dV 2) (dV 5)) (dV 6)))) (fL (dC (.str "same"))) aQ) (fw (fC (rH (dB (d2 false aF (dV 4) (dC (.str "in")))) (d2 false ah (dV 3) (dC (.int 3))) (bX (dV 1) (dV 5))) (fe 7)) Vw))))))):=rfl;rw[eM];have p1:kT 4 5 (fc (d2 false ah (dV 3) (dC (.int 1))) (fc (d2 false ah (dV 3) (dC (.int 2))) fg)) [some (.d (hs rs ks ps hd)),xB i,xB j,some (.d (enc g)),none,none,none,none,none] bx=.nx [some (.d (hs rs ks ps hd)),xB i,xB j,some (.d (enc g)),some (.d (.str (aY g))),xN (aT g),none,none,none] bx:=by
  cases g<;>simp[kT,enc,cC,a9,dD,ah,a5,bA,aY,aT]
 refine(fm p1).trans ?_;have tE:∀ (w:Str) (x6 x7:Option W),dB (d2 false aF (dV 4) (dC (.str w))) [some (.d (hs rs ks ps hd)),xB i,xB j,some (.d (enc g)),some (.d (.str (aY g))),xN (aT g),x6,x7,none] bx=.val (decide (aY g=w)) bx:=λw x6 x7=>gY (fW (r:=.old (.bl (decide (aY g=w)))) rfl rfl (eq_str _ _));have tN:dB (d2 false bY (dV 4) (dC (.str "in"))) [some (.d (hs rs ks ps hd)),xB i,xB j,some (.d (enc g)),some (.d (.str (aY g))),xN (aT g),none,none,none] bx=.val (!decide (aY g="in")) bx:=gY (fW (r:=.old (.bl (!decide (aY g="in")))) rfl rfl (ne_str _ _));have iK:dB (c9 false (dV 5) (dV 1)) [some (.d (hs rs ks ps hd)),xB i,xB j,some (.d (enc g)),some (.d (.str (aY g))),xN (aT g),none,none,none] bx=.val (look K (aT g)).isSome bx:=gY (DJ (e:=D.int) (L:=K) false rfl rfl (jW hi));have iR:dB (c9 true (dV 5) (dV 2)) [some (.d (hs rs ks ps hd)),xB i,xB j,some (.d (enc g)),some (.d (.str (aY g))),xN (aT g),none,none,none] bx=.val (!(look R (aT g)).isSome) bx:=gY (DJ (e:=D.int) (L:=R) true rfl rfl (jW hj));cases g with
 | aK h' l k r p w =>
   show _=OS.rt (W.d (.str (if (look K l).isSome then "there" else if eB ps K R k r then "apart" else "takes"))) bx;have t1:=oQ (tE "in" none none) iK;cases c:(look K l).isSome with
   | true =>
     rw[show (look K (aT (.aK h' l k r p w))).isSome=true from c]at t1;exact gf ((io t1).trans rfl)
   | false =>
     rw[show (look K (aT (.aK h' l k r p w))).isSome=false from c]at t1;refine(fm ((f9 t1).trans rfl)).trans ?_;refine(fm ((f9 (oP tN)).trans rfl)).trans ?_;have t3:=tE "out" none none;rw[decide_eq_false (show ¬ aY (.aK h' l k r p w)="out" by show ¬ ("in":Str)="out";rw[Pe];exact id)]at t3;refine(fm ((f9 t3).trans rfl)).trans ?_;refine(fm (fY (fN (l:=[.d (enc (.aK h' l k r p w))]) rfl rfl (Bd _)))).trans ?_;have t4:=tE "to" (xN r) none;rw[decide_eq_false (show ¬ aY (.aK h' l k r p w)="to" by show ¬ ("in":Str)="to";rw[Rx];exact id)]at t4;refine(fm ((f9 (oP t4)).trans rfl)).trans ?_;have t5:=tE "in" (xN r) none;have kv:rH (dB (d2 false aF (dV 4) (dC (.str "in")))) (d2 false ah (dV 3) (dC (.int 3))) (bX (dV 1) (dV 5)) [some (.d (hs rs ks ps hd)),xB i,xB j,some (.d (enc (.aK h' l k r p w))),some (.d (.str (aY (.aK h' l k r p w)))),xN (aT (.aK h' l k r p w)),xN r,none,none] bx=.val (.d (.int k)) bx:=by
      unfold rH;rw[t5,fM];rfl
     exact(fm (fY kv)).trans (RE h J hn hi hj _ _ _ _ k r)
 | to h' l r =>
   have t1:=tE "in" none none;rw[decide_eq_false (show ¬ aY (.to h' l r)="in" by show ¬ ("to":Str)="in";rw[CO];exact id)]at t1 tN;refine(fm ((f9 (oP t1)).trans rfl)).trans ?_;have t2:=oQ tN iR;show _=OS.rt (W.d (.str (match look R l with|none=>"none"|some r0=>if r0=r then "same" else if eB ps K R (kk K l) r then "apart" else "takes"))) bx;cases c:look R l with
   | none =>
     rw[show look R (aT (.to h' l r))=none from c]at t2;exact gf ((io t2).trans rfl)
   | some r0 =>
     rw[show look R (aT (.to h' l r))=some r0 from c]at t2;refine(fm ((f9 t2).trans rfl)).trans ?_;have t3:=tE "out" none none;rw[decide_eq_false (show ¬ aY (.to h' l r)="out" by show ¬ ("to":Str)="out";rw[MG];exact id)]at t3;refine(fm ((f9 t3).trans rfl)).trans ?_;refine(fm (fY (fN (l:=[.d (enc (.to h' l r))]) rfl rfl (Bd _)))).trans ?_;have t4:kC (dB (d2 false aF (dV 4) (dC (.str "to")))) (dB (d2 false aF (bX (dV 2) (dV 5)) (dV 6))) [some (.d (hs rs ks ps hd)),xB i,xB j,some (.d (enc (.to h' l r))),some (.d (.str (aY (.to h' l r)))),xN (aT (.to h' l r)),xN r,none,none] bx=.val (decide (r0=r)) bx :=
      oQ (tE "to" (xN r) none) (gY (fW (r:=.old (.bl (decide (r0=r)))) (x:=.int r0) (y:=.int r) (ls (e:=D.int) (L:=R) rfl rfl (jW hj) c) rfl (by simp[aF])))
     by_cases d:r0=r
     ·rw[decide_eq_true d]at t4;show _=OS.rt (W.d (.str (if r0=r then "same" else if eB ps K R (kk K l) r then "apart" else "takes"))) bx;rw[if_pos d];exact gf ((io t4).trans rfl)
     ·rw[decide_eq_false d]at t4;show _=OS.rt (W.d (.str (if r0=r then "same" else if eB ps K R (kk K l) r then "apart" else "takes"))) bx;rw[if_neg d];refine(fm ((f9 t4).trans rfl)).trans ?_;obtain⟨q,mq,eq⟩:∃ q∈R,q.1=l:=by
       unfold look at c;cases f:R.find? λq=>decide (q.1=l) with
       |none=>rw[f]at c;cases c
       |some q=>exact⟨q,Sr f,by have:=Ss f;simpa using this⟩
      obtain⟨v,hv⟩:=Option.isSome_iff_exists.mp (J.sub q mq);rw[eq]at hv;have ev:kk K l=v:=by unfold kk;rw[hv];rfl
      have t5:=tE "in" (xN r) none;rw[decide_eq_false (show ¬ aY (.to h' l r)="in" by show ¬ ("to":Str)="in";rw[CO];exact id)]at t5;have kv:rH (dB (d2 false aF (dV 4) (dC (.str "in")))) (d2 false ah (dV 3) (dC (.int 3))) (bX (dV 1) (dV 5)) [some (.d (hs rs ks ps hd)),xB i,xB j,some (.d (enc (.to h' l r))),some (.d (.str (aY (.to h' l r)))),xN (aT (.to h' l r)),xN r,none,none] bx=.val (.d (.int (kk K l))) bx:=by
       unfold rH;rw[t5,fM,ev];exact ls (e:=D.int) (L:=K) rfl rfl (jW hi) hv
      exact(fm (fY kv)).trans (RE h J hn hi hj _ _ _ _ (kk K l) r)
 | out h' l =>
   have t1:=tE "in" none none;rw[decide_eq_false (show ¬ aY (.out h' l)="in" by show ¬ ("out":Str)="in";rw[FO];exact id)]at t1 tN;refine(fm ((f9 (oP t1)).trans rfl)).trans ?_;have t2:=oQ tN iR;show _=OS.rt (W.d (.str (match look R l with|none=>"none"|some _=>"takes"))) bx;cases c:look R l with
   | none =>
     rw[show look R (aT (.out h' l))=none from c]at t2;exact gf ((io t2).trans rfl)
   | some r0 =>
     rw[show look R (aT (.out h' l))=some r0 from c]at t2;refine(fm ((f9 t2).trans rfl)).trans ?_;exact gf ((io (tE "out" none none)).trans rfl)
end
open dh
theorem DM {L:List (Int×α)}{x:Int}{v:α}{q:Int×α}(m:q∈put L x v):(q.1=x /\ q.2=v) \/ q∈L:=by
 unfold put at m;split at m
 ·obtain⟨p,mp,rfl⟩:=bV.mp m;by_cases h:p.1=x
  ·rw[if_pos h];exact .inl ⟨h,rfl⟩
  ·rw[if_neg h];exact .inr mp
 ·rcases List.mem_append.mp m with m|m
  ·exact .inr m
  ·cases nT.mp m;exact .inl ⟨rfl,rfl⟩
theorem Jw {L:List (Int×α)}{x:Int}{v:α}(nd:(L.map (·.1)).Nodup):((put L x v).map (·.1)).Nodup:=by
 unfold put;split
 ·rw[bQ];have:((λq:Int×α=>q.1)∘λq=>if q.1=x then (q.1,v) else q)=λq=>q.1:=by
   funext q;by_cases h:q.1=x<;>simp[h]
  rw[this];exact nd
 ·rename_i h;rw[vA,uk];refine⟨nd,by simp,λa ma b mb=>?_⟩;cases (nT.mp mb:b=x);obtain⟨q,mq,rfl⟩:=bV.mp ma;exact λz=>h (pL.mpr ⟨q,mq,decide_eq_true z⟩)
theorem Pi {L:List (Int×α)}{x:Int}(nd:(L.map (·.1)).Nodup):((k5 L x).map (·.1)).Nodup:=nd.sublist ((List.filter_sublist).map _)
theorem AH {L:Al}{x v:Int}(h:look L x=some v):∃ q∈L,q.1=x:=by
 unfold look at h;cases f:L.find? λq=>decide (q.1=x) with
 |none=>rw[f]at h;cases h
 |some q=>exact⟨q,Sr f,by have:=Ss f;simpa using this⟩
theorem lU {L:Al}{x:Int}:(look L x).isSome=true ↔ ∃ q∈L,q.1=x:=by
 constructor
 ·intro h;obtain⟨v,h⟩:=Option.isSome_iff_exists.mp h;exact AH h
 ·rintro⟨q,m,rfl⟩;unfold look;rw[qp,EF];exact⟨q,m,by simp⟩
theorem Jx {L:Al}{x v y:Int}(h:y=x \/ (look L y).isSome=true):(look (put L x v) y).isSome=true:=by
 rw[lU];have key:∀ z,(∃ q∈L,q.1=z)->∃ q∈put L x v,q.1=z:=λz ⟨q,m,e⟩=>by
  unfold put;split
  ·refine⟨if q.1=x then (q.1,v) else q,vB m,?_⟩;split<;>exact e
  ·exact⟨q,qb _ m,e⟩
 rcases h with rfl|h
 ·by_cases c:(look L y).isSome=true
  ·exact key y (lU.mp c)
  ·unfold put;rw[if_neg]
   ·exact⟨(y,v),by simp,rfl⟩
   ·intro z;obtain⟨q,m,e⟩:=pL.mp z;exact c (lU.mpr ⟨q,m,of_decide_eq_true e⟩)
 ·exact key y (lU.mp h)
theorem cQ.step {ps K R:Al}(J:cQ K R n) {g:Pg}(h:word ps K R g="takes"):cQ (stK K g) (u6 R g) (n+1):=by
 have lk:=J.lk;have lr:=J.lr;cases g with
 | aK h' l k r p w =>
   have a:=lT K l k;have b:=lT R l r;refine⟨Jw J.nd,λq m=>?_,by show (put K l k).length<=_;omega,by show (put R l r).length<=_;omega⟩;rcases DM m with m|m
   ·exact Jx (.inl m.1)
   ·exact Jx (.inr (J.sub q m))
 | to h' l r =>
   have b:=lT R l r;refine⟨Jw J.nd,λq m=>?_,by show K.length<=_;omega,by show (put R l r).length<=_;omega⟩;rcases DM m with m|m
   ·show (look K q.1).isSome=true;rw[m.1];cases c:look R l with
    | none =>
      simp only[word,c]at h;exact absurd h (by decide)
    | some v =>
      obtain⟨q0,m0,e0⟩:=AH c;rw[<-e0];exact J.sub q0 m0
   ·exact J.sub q m
 | out h' l =>
   refine⟨Pi J.nd,λq m=>J.sub q (qZ.mp m).1,by show K.length<=_;omega,?_⟩;have:=vt (λq:Int×Int=>decide (q.1≠l)) R;show (k5 R l).length<=_;unfold k5;omega
def tq (x:Pg×Str×D×D):D:=.tup [enc x.1,.str x.2.1,x.2.2.1,x.2.2.2]
section
variable {rs ks : List D} 
def Bk (bx:List Bx) (T:List (Pg×Str×D×D)) (K R:Al):List Bx:=bx++[.lst (T.map tq),.ak (bZ K),.ak (bZ R)]
variable {T T' : List (Pg × Str × D × D)} {K R K' R' : Al}
theorem wR:(Bk bx T K R)[bx.length]?=some (.lst (T.map tq)):=by simp[Bk]
theorem Vx:(Bk bx T K R)[bx.length+1]?=some (.ak (bZ K)):=by simp[Bk,cE]
theorem wU:(Bk bx T K R)[bx.length+2]?=some (.ak (bZ R)):=by simp[Bk,cE]
theorem Vy:(Bk bx T K R).set bx.length (.lst (T'.map tq))=Bk bx T' K R:=by simp[Bk]
theorem Zn:(Bk bx T K R).set (bx.length+1) (.ak (bZ K'))=Bk bx T K' R:=by simp[Bk,sy]
theorem IV:(Bk bx T K R).set (bx.length+2) (.ak (bZ R'))=Bk bx T K R':=by simp[Bk,sy]
abbrev rB:aq:=(fw (fC (d2 false ah (dV 5) (dC (.int 2))) (fe 6)) (fw (fC (fq K11.ia 4 (fc (dV 0) (fc (dV 3) (fc (dV 4) (fc (dV 5) fg))))) (fe 7)) (fw (aI (dB (d2 false bY (dV 7) (dC (.str "takes")))) (fw (gJ (dY (dV 2) (fK (fc (dV 5) (fc (dV 7) (fc (dC .non) (fc (dC .non) fg))))))) yx) aQ) (fw (gJ (dY (dV 2) (fK (fc (dV 5) (fc (dV 7) (fc (rX (dV 4) (dV 6)) (fc (fq K11.fG 1 (fc (dV 5) fg)) fg))))))) (fw (aI (dB (d2 false aF (d2 false ah (dV 5) (dC (.int 1))) (dC (.str "in")))) (kg (dV 3) (dV 6) (d2 false ah (dV 5) (dC (.int 3)))) aQ) (aI (dB (d2 false aF (d2 false ah (dV 5) (dC (.int 1))) (dC (.str "out")))) (tQ (dV 4) (dV 6)) (kg (dV 4) (dV 6) (fq K11.fG 1 (fc (dV 5) fg)))))))))
theorem Pj {aX bT:aM}{ag:List Bx}{w:W}{l:List W}{g:DG}{body:aq}(h1:g w env bx=some (aX,bx1)) (h2:body aX bx1=.ct bT ag):ck g body (w::l) env bx=ck g body l bT ag:=by
 rw[ck,h1];simp only[h2]
noncomputable abbrev rE (H P:D) (t:Nat) (x5 x6 x7:Option W):aM:=[some (.d H),some (.d P),some (.b t),some (.b (t+1)),some (.b (t+2)),x5,x6,x7]
variable {P : D}
theorem RF (g:Pg) (h:env[5]?=some (some (.d (enc g)))):d2 false ah (dV 5) (dC (.int 2)) env B=.val (.d (.int (aT g))) B:=by
 cases g<;>simp[h,enc,cC,a9,dD,ah,a5,bA,aT]
theorem Nn (g:Pg) (w:Str) (h:env[5]?=some (some (.d (enc g)))):dB (d2 false aF (d2 false ah (dV 5) (dC (.int 1))) (dC (.str w))) env B=.val (decide (aY g=w)) B:=by
 refine gY (fW (r:=.old (.bl (decide (aY g=w)))) (x:=.str (aY g)) (y:=.str w) ?_ rfl (eq_str _ _));cases g<;>simp[h,enc,cC,a9,dD,ah,a5,bA,aY]
theorem Jy (h:Hs rs ks ps hd) (J:cQ K R n) (hn:n<=100) (g:Pg) (x6 x7:Option W) {k:aq} :
 fw (fC (d2 false ah (dV 5) (dC (.int 2))) (fe 6)) (fw (fC (fq K11.ia 4 (fc (dV 0) (fc (dV 3) (fc (dV 4) (fc (dV 5) fg))))) (fe 7)) k) (rE (hs rs ks ps hd) P bx.length (some (.d (enc g))) x6 x7) (Bk bx T K R) =
  k (rE (hs rs ks ps hd) P bx.length (some (.d (enc g))) (xN (aT g)) (some (.d (.str (word ps K R g))))) (Bk bx T K R):=
 (fm (fY (RF g rfl))).trans (fm (fY (fN (l:=[.d (hs rs ks ps hd),.b (bx.length+1),.b (bx.length+2),.d (enc g)]) rfl rfl (Ph h J hn Vx wU g))))
theorem No (w:Str) (h:env[7]?=some (some (.d (.str w)))):dB (d2 false bY (dV 7) (dC (.str "takes"))) env B=.val (!decide (w="takes")) B :=
 gY (fW (r:=.old (.bl (!decide (w="takes")))) (x:=.str w) (y:=.str "takes") (by unfold dV;rw[h]) rfl (ne_str _ _))
theorem RG (h:Hs rs ks ps hd) (J:cQ K R n) (hn:n<=100) (hT:T.length<=100) (g:Pg) (x6 x7:Option W) (c:¬ word ps K R g="takes") :
 rB (rE (hs rs ks ps hd) P bx.length (some (.d (enc g))) x6 x7) (Bk bx T K R)=.ct (rE (hs rs ks ps hd) P bx.length (some (.d (enc g))) (xN (aT g)) (some (.d (.str (word ps K R g))))) (Bk bx (T++[(g,word ps K R g,.non,.non)]) K R):=by
 have z:sizeLine=16777216:=ba;refine(Jy h J hn g x6 x7).trans ?_;have t:=No (word ps K R g) (env:=rE (hs rs ks ps hd) P bx.length (some (.d (enc g))) (xN (aT g)) (some (.d (.str (word ps K R g))))) (B:=Bk bx T K R) rfl;rw[decide_eq_false c]at t;have a:=AG (m:=dV 2) (k:=fK (fc (dV 5) (fc (dV 7) (fc (dC .non) (fc (dC .non) fg))))) (env:=rE (hs rs ks ps hd) P bx.length (some (.d (enc g))) (xN (aT g)) (some (.d (.str (word ps K R g))))) (i:=bx.length) (l:=T.map tq) (bx:=Bk bx T K R) (d:=tq (g,word ps K R g,.non,.non)) rfl wR (f8 [enc g,.str (word ps K R g),.non,.non] rfl (by simp;omega)) wR (by simp;omega);rw[show T.map tq++[tq (g,word ps K R g,D.non,D.non)]=(T++[(g,word ps K R g,D.non,D.non)]).map tq by simp,Vy]at a;rw[A4,io t,fm (jl a)];rfl
noncomputable def tY:Pg->D
 |.aK _ _ _ r _ _=>.int r
 |.to _ _ r=>.int r
 |.out ..=>.non
theorem Jz {L:Al}{k v:DE W}{l x:Int}(hv:v env B=.val (.d (.int x)) B) (hm:m env B=.val (.b i) B) (hk:k env B=.val (.d (.int l)) B) (hb:B[i]?=some (.ak (bZ L))) (hl:L.length<=1000):kg m k v env B=.nx env (B.set i (.ak (bZ (put L l x)))):=by
 have z:sizeLine=16777216:=ba;unfold kg;rw[hv,gX,hm,gX,hk,gX];simp only[hb,hZ];rw[if_pos (by unfold bZ aN;simp;omega),DI]
theorem RH {L:Al}{k:DE W}{l:Int}(hm:m env B=.val (.b i) B) (hk:k env B=.val (.d (.int l)) B) (hb:B[i]?=some (.ak (bZ L))) (hs:(look L l).isSome=true):tQ m k env B=.nx env (B.set i (.ak (bZ (k5 L l)))):=by
 unfold tQ;rw[hm,gX,hk,gX];simp only[hb,hZ];rw[if_pos (by rw[lS,qp];exact hs),B9]
theorem Pk {L:Al}{k:DE W}{l:Int}(hm:m env B=.val (.b i) B) (hk:k env B=.val (.d (.int l)) B) (hb:B[i]?=some (.ak (bZ L))):rX m k env B=.val (.d (((look L l).map D.int).getD .non)) B:=by
 unfold rX;rw[hm,fM];simp only[hb,hk,fM,hZ];rw[lS];rfl
theorem JA {h' l:Int}(c:word ps K R (.out h' l)="takes"):(look R l).isSome=true:=by
 simp only[word]at c;cases e:look R l with
 |none=>rw[e]at c;exact absurd c (by decide)
 |some v=>rfl
theorem Pl (h:Hs rs ks ps hd) (J:cQ K R n) (hn:n<=100) (hT:T.length<=100) (g:Pg) (x6 x7:Option W) (c:word ps K R g="takes") :
 ∃ x y,rB (rE (hs rs ks ps hd) P bx.length (some (.d (enc g))) x6 x7) (Bk bx T K R)=.nx (rE (hs rs ks ps hd) P bx.length (some (.d (enc g))) (xN (aT g)) (some (.d (.str (word ps K R g))))) (Bk bx (T++[(g,word ps K R g,x,y)]) (stK K g) (u6 R g)):=by
 have z:sizeLine=16777216:=ba;have lk:=J.lk;have lr:=J.lr;refine⟨((look R (aT g)).map D.int).getD .non,tY g,(Jy h J hn g x6 x7).trans ?_⟩;generalize hE:rE (hs rs ks ps hd) P bx.length (some (.d (enc g))) (xN (aT g)) (some (.d (.str (word ps K R g))))=E;have e2:∀ B,dV 2 E B=.val (.b bx.length) B:=λB=>by subst hE;rfl
 have e3:∀ B,dV 3 E B=.val (.b (bx.length+1)) B:=λB=>by subst hE;rfl
 have e4:∀ B,dV 4 E B=.val (.b (bx.length+2)) B:=λB=>by subst hE;rfl
 have e5:E[5]?=some (some (.d (enc g))):=by subst hE;rfl
 have v5:∀ B,dV 5 E B=.val (.d (enc g)) B:=λB=>by subst hE;rfl
 have e6:∀ B,dV 6 E B=.val (.d (.int (aT g))) B:=λB=>by subst hE;rfl
 have e7:∀ B,dV 7 E B=.val (.d (.str (word ps K R g))) B:=λB=>by subst hE;rfl
 have t:=No (word ps K R g) (env:=E) (B:=Bk bx T K R) (by subst hE;rfl);rw[decide_eq_true c]at t;refine(fm ((f9 t).trans rfl)).trans ?_;have en:∀ B,fq K11.fG 1 (fc (dV 5) fg) E B=.val (.d (tY g)) B:=λB=>(fN (l:=[.d (enc g)]) (fr (v5 B) rfl) rfl (Bd g)).trans (by cases g<;>rfl);have a:=AG (m:=dV 2) (k:=fK (fc (dV 5) (fc (dV 7) (fc (rX (dV 4) (dV 6)) (fc (fq K11.fG 1 (fc (dV 5) fg)) fg))))) (env:=E) (i:=bx.length) (l:=T.map tq) (bx:=Bk bx T K R) (d:=tq (g,word ps K R g,((look R (aT g)).map D.int).getD .non,tY g)) (e2 _) wR
  (f8 [enc g,.str (word ps K R g),((look R (aT g)).map D.int).getD .non,tY g] (fr (v5 _) (fr (e7 _) (fr (Pk (e4 _) (e6 _) wU) (fr (en _) rfl)))) (by simp;omega)) wR (by simp;omega)
 rw[show T.map tq++[tq (g,word ps K R g,((look R (aT g)).map D.int).getD .non,tY g)]=(T++[(g,word ps K R g,((look R (aT g)).map D.int).getD .non,tY g)]).map tq by simp,Vy]at a;refine(fm (jl a)).trans ?_;generalize T++[(g,word ps K R g,((look R (aT g)).map D.int).getD .non,tY g)]=T2;have ti:=Nn g "in" (B:=Bk bx T2 K R) e5;have to:=λK2=>Nn g "out" (B:=Bk bx T2 K2 R) e5;cases g with
 | aK h' l k r p w =>
   have p1:=Jz (v:=d2 false ah (dV 5) (dC (.int 3))) (x:=k) (B:=Bk bx T2 K R) (env:=E) (by rw[Mp,v5];rfl) (e3 _) (e6 _) Vx (by omega);rw[Zn]at p1;refine(fm ((io ti).trans p1)).trans ?_;have to:=to (put K l k);rw[decide_eq_false (show ¬ aY (.aK h' l k r p w)="out" by show ¬ ("in":Str)="out";rw[Pe];exact id)]at to;have p2:=Jz (v:=fq K11.fG 1 (fc (dV 5) fg)) (x:=r) (B:=Bk bx T2 (put K l k) R) (env:=E) (en _) (e4 _) (e6 _) wU (by omega);rw[IV]at p2;exact(f9 to).trans p2
 | to h' l r =>
   rw[decide_eq_false (show ¬ aY (.to h' l r)="in" by show ¬ ("to":Str)="in";rw[CO];exact id)]at ti;refine(fm ((f9 ti).trans rfl)).trans ?_;have to:=to K;rw[decide_eq_false (show ¬ aY (.to h' l r)="out" by show ¬ ("to":Str)="out";rw[MG];exact id)]at to;have p2:=Jz (v:=fq K11.fG 1 (fc (dV 5) fg)) (x:=r) (B:=Bk bx T2 K R) (env:=E) (en _) (e4 _) (e6 _) wU (by omega);rw[IV]at p2;exact(f9 to).trans p2
 | out h' l =>
   rw[decide_eq_false (show ¬ aY (.out h' l)="in" by show ¬ ("out":Str)="in";rw[FO];exact id)]at ti;refine(fm ((f9 ti).trans rfl)).trans ?_;have p2:=RH (B:=Bk bx T2 K R) (env:=E) (e4 _) (e6 _) wU (JA c);rw[show aT (.out h' l)=l from rfl,IV]at p2;exact(io (to K)).trans p2
theorem mh (h:Hs rs ks ps hd):∀ (gs:List Pg) (T:List (Pg×Str×D×D)) (K R:Al) (n:Nat) (x5 x6 x7:Option W),cQ K R n->n+gs.length<=100->T.length+gs.length<=100 ->
 ∃ T' K' R' y5 y6 y7,ck (fe 5) rB ((gs.map enc).map W.d) (rE (hs rs ks ps hd) P bx.length x5 x6 x7) (Bk bx T K R)=.nx (rE (hs rs ks ps hd) P bx.length y5 y6 y7) (Bk bx (T++T') K' R') /\ T'.map (λx=>(x.1,x.2.1))=gs.zip (wordsOf ps K R gs)
 |[],T,K,R,n,x5,x6,x7,_,_,_=>⟨[],K,R,x5,x6,x7,by simp[ck],rfl⟩
 | g::gs,T,K,R,n,x5,x6,x7,J,hn,hT=>by
   rw[bb]at hn hT;have g1:fe 5 (W.d (enc g)) (rE (hs rs ks ps hd) P bx.length x5 x6 x7) (Bk bx T K R)=some (rE (hs rs ks ps hd) P bx.length (some (.d (enc g))) x6 x7,Bk bx T K R):=rfl;by_cases c:word ps K R g="takes"
   ·obtain⟨x,y,e⟩:=Pl (P:=P) (bx:=bx) (T:=T) h J (by omega) (by omega) g x6 x7 c;obtain⟨T',K',R',y5,y6,y7,e2,z⟩:=mh h gs (T++[(g,word ps K R g,x,y)]) (stK K g) (u6 R g) (n+1) (some (.d (enc g))) (xN (aT g)) (some (.d (.str (word ps K R g)))) (J.step c) (by omega) (by simp;omega);refine⟨(g,word ps K R g,x,y)::T',K',R',y5,y6,y7,?_,?_⟩
    ·rw[aG,aG,mf g1 e,e2,qi];rfl
    ·unfold wordsOf;rw[if_pos c,ng,aG,z]
   ·have e:=RG (P:=P) (bx:=bx) h J (by omega) (by omega) (T:=T) g x6 x7 c;obtain⟨T',K',R',y5,y6,y7,e2,z⟩:=mh h gs (T++[(g,word ps K R g,.non,.non)]) K R n (some (.d (enc g))) (xN (aT g)) (some (.d (.str (word ps K R g)))) J (by omega) (by simp;omega);refine⟨(g,word ps K R g,.non,.non)::T',K',R',y5,y6,y7,?_,?_⟩
    ·rw[aG,aG,Pj g1 e,e2,qi];rfl
    ·unfold wordsOf;rw[if_neg c,ng,aG,z]
def aP (ps:Al) (qs:List Pg):List D:=(qs.zip (wordsOf ps [] [] qs)).map λp=>.tup [enc p.1,.str p.2]
theorem Vz:cQ [] [] 0:=⟨by simp,(λq m=>nomatch m),ao _,ao _⟩
theorem Pm (h:Hs rs ks ps hd) {qs:List Pg}(hl:qs.length<=16) (so:cx [.lst (gs.map enc)]=some (.lst (qs.map enc))) :
 ∃ T':List (Pg×Str×D×D),AX [.d (hs rs ks ps hd),.d (.lst (gs.map enc))] bx=.val (.d (.lst (T'.map tq))) bx /\ T'.map (λx=>(x.1,x.2.1))=qs.zip (wordsOf ps [] [] qs):=by
 obtain⟨T',K',R',y5,y6,y7,e,z⟩:=mh (P:=.lst (gs.map enc)) (bx:=bx) h qs [] [] [] 0 none none none Vz (by omega) (by simp;omega);refine⟨T',?_,z⟩;have s1:fC (gI true fg) (fe 2) [some (.d (hs rs ks ps hd)),some (.d (.lst (gs.map enc))),none,none,none,none,none,none] bx=.nx [some (.d (hs rs ks ps hd)),some (.d (.lst (gs.map enc))),xB bx.length,none,none,none,none,none] (bx++[.lst []]):=fY (A8 [] rfl (eG _));have s2:fC (pX true []) (fe 3) [some (.d (hs rs ks ps hd)),some (.d (.lst (gs.map enc))),xB bx.length,none,none,none,none,none] (bx++[.lst []])=.nx [some (.d (hs rs ks ps hd)),some (.d (.lst (gs.map enc))),xB bx.length,xB (bx.length+1),none,none,none,none] (bx++[.lst [],.ak []]):=by
  have:pX true [] [some (.d (hs rs ks ps hd)),some (.d (.lst (gs.map enc))),xB bx.length,none,none,none,none,none] (bx++[.lst []])=.val (.b (bx.length+1)) (bx++[.lst [],.ak []]):=by
   simp[pX,bH]
  exact fY this
 have s3:fC (pX true []) (fe 4) [some (.d (hs rs ks ps hd)),some (.d (.lst (gs.map enc))),xB bx.length,xB (bx.length+1),none,none,none,none] (bx++[.lst [],.ak []])=.nx (rE (hs rs ks ps hd) (.lst (gs.map enc)) bx.length none none none) (Bk bx [] [] []):=by
  have:pX true [] [some (.d (hs rs ks ps hd)),some (.d (.lst (gs.map enc))),xB bx.length,xB (bx.length+1),none,none,none,none] (bx++[.lst [],.ak []])=.val (.b (bx.length+2)) (Bk bx [] [] []):=by
   simp[pX,bH,Bk,aN]
  exact fY this
 have it:bt (dN false cx (fc (dV 1) fg)) (rE (hs rs ks ps hd) (.lst (gs.map enc)) bx.length none none none) (Bk bx [] [] [])=.val ((qs.map enc).map W.d) (Bk bx [] [] []):=
  g9 (oN (r:=.lst (qs.map enc)) [.lst (gs.map enc)] (fr rfl rfl) so)
 have b:G2 [some (.d (hs rs ks ps hd)),some (.d (.lst (gs.map enc))),none,none,none,none,none,none] bx=.rt (.d (.lst (T'.map tq))) ((Bk bx T' K' R').set bx.length .dead):=by
  refine(fm s1).trans ((fm s2).trans ((fm s3).trans ((fm ((mJ it).trans e)).trans ?_)));rw[kL];exact ie (Nj rfl wR)
 refine(oT (ws:=[.d (hs rs ks ps hd),.d (.lst (gs.map enc))]) b).trans ?_;simp[Bk,List.take_append]
abbrev g4:DG:=gq 4 (fB (fe 0) (fB (fe 1) (fB (fe 2) (fB (fe 3) gz))))
theorem VA {B:List Bx}:∀ (T:List (Pg×Str×D×D)) (w0 w1 w2 w3:Option W) (acc:List D),acc.length+T.length<=1000 ->
 aU g4 fQ (fK (fc (dV 0) (fc (dV 1) fg))) ((T.map tq).map W.d) [w0,w1,w2,w3] B acc=.val (acc++T.map λx=>.tup [enc x.1,.str x.2.1]) B
 |[],_,_,_,_,acc,_=>by simp[aU]
 | x::T,w0,w1,w2,w3,acc,hl=>by
   have z:sizeLine=16777216:=ba;rw[bb]at hl;have ih:=VA (B:=B) T (some (.d (enc x.1))) (some (.d (.str x.2.1))) (some (.d x.2.2.1)) (some (.d x.2.2.2)) (acc++[.tup [enc x.1,.str x.2.1]]) (by simp;omega);have e0:g4 (W.d (tq x)) [w0,w1,w2,w3] B=some ([some (.d (enc x.1)),some (.d (.str x.2.1)),some (.d x.2.2.1),some (.d x.2.2.2)],B):=rfl;have e1:fK (fc (dV 0) (fc (dV 1) fg)) [some (.d (enc x.1)),some (.d (.str x.2.1)),some (.d x.2.2.1),some (.d x.2.2.2)] B=.val (.d (.tup [enc x.1,.str x.2.1])) B:=f8 [enc x.1,.str x.2.1] rfl (by simp;omega);simp only[aG,aU,e0,AZ,oF,e1];rw[if_pos (by omega),ih];simp
theorem CS (h:Hs rs ks ps hd) {qs:List Pg}(G:Gs rs.length ks.length gs) (hl:qs.length<=16) (so:cx [.lst (gs.map enc)]=some (.lst (qs.map enc))) :
 ic [.d (hs rs ks ps hd),.d (.lst (gs.map enc))] bx=.val (.b bx.length) (bx++[.lst (aP ps qs)]):=by
 obtain⟨T',e,z⟩:=Pm (bx:=bx) h hl so;have tl:T'.length<=16:=by
  have:=congrArg List.length z;rw[aR,EG]at this;omega
 have c:=VA (B:=bx) T' none none none none [] (by simp;omega);have ez:T'.map (λx=>D.tup [enc x.1,.str x.2.1])=aP ps qs:=by
  unfold aP;rw[<-z,bQ];rfl
 rw[kL,ez]at c;have b:lf [some (.d (hs rs ks ps hd)),some (.d (.lst (gs.map enc)))] bx=.rt (.b bx.length) (bx++[.lst (aP ps qs)]):=by
  refine(fm (jl (fN (l:=[.d (hs rs ks ps hd),.d (.lst (gs.map enc))]) rfl rfl (Bc h G)))).trans ?_;exact ie (Mw (g9 (fN (l:=[.d (hs rs ks ps hd),.d (.lst (gs.map enc))]) rfl rfl e)) rfl c)
 show nD bx.length (nC (aJ lf [some (.d (hs rs ks ps hd)),some (.d (.lst (gs.map enc)))] bx))=_;unfold aJ;rw[b];rfl
end
noncomputable abbrev At:=List (Int×(Int×Int))
def aw (K R:Al):At:=R.map λq=>(q.1,(kk K q.1,q.2))
theorem JB {L:List (Int×α)}(nd:(L.map (·.1)).Nodup) {q:Int×α}(m:q∈L):(L.find? λp=>decide (p.1=q.1)).map (·.2)=some q.2:=by
 induction L with
 |nil=>cases m
 | cons a L ih =>
   rw[aG,qm]at nd;rw[kq];rcases bG.mp m with rfl|m
   ·simp
   ·have:¬ a.1=q.1:=λz=>nd.1 (by rw[z];exact vB m);rw[decide_eq_false this];exact ih nd.2 m
theorem Ce {K R:Al}:(aw K R).map (·.1)=R.map (·.1):=by unfold aw;rw[bQ];rfl
theorem oV {K R:Al}{l:Int}:((aw K R).find? λp=>decide (p.1=l)).map (·.2)=(look R l).map λr=>(kk K l,r):=by
 unfold aw look;induction R with
 |nil=>rfl
 | cons a R ih =>
   rw[aG,kq,kq];by_cases h:a.1=l
   ·simp[h]
   ·rw[decide_eq_false h];exact ih
theorem oW {β:Type}{L:List (Int×α)}{M:List (Int×β)}(h:L.map (·.1)=M.map (·.1)) (x:Int):(L.any λq=>decide (q.1=x))=M.any λq=>decide (q.1=x):=by
 have:∀ {γ:Type}(N:List (Int×γ)),(N.any λq=>decide (q.1=x))=(N.map (·.1)).any λy=>decide (y=x):=λN=>by rw[xx];rfl
 rw[this,this,h]
theorem JC {β:Type}{L:List (Int×α)}{M:List (Int×β)}(h:L.map (·.1)=M.map (·.1)) (x:Int) (v:α) (w:β):(put L x v).map (·.1)=(put M x w).map (·.1):=by
 unfold put;rw[oW h];split
 ·have:∀ {γ:Type}(N:List (Int×γ)) (u:γ),(N.map λq=>if q.1=x then (q.1,u) else q).map (·.1)=N.map (·.1):=λN u=>by
   rw[bQ];refine pJ λq _=>?_;by_cases c:q.1=x<;>simp[c]
  rw[this,this,h]
 ·rw[vA,vA,h];rfl
theorem FP {β:Type}{L:List (Int×α)}{M:List (Int×β)}(h:L.map (·.1)=M.map (·.1)) (x:Int):((L.find? λq=>decide (q.1=x)).map (·.2)).isSome=((M.find? λq=>decide (q.1=x)).map (·.2)).isSome:=by
 rw[qp,qp,kn,EF,EF];have:=oW h x;rw[kn,pL,pL]at this;exact this
theorem DN {K R:Al}{l r:Int}:put (aw K R) l (kk K l,r)=aw K (put R l r):=by
 unfold put;rw[oW Ce];split
 ·unfold aw;rw[bQ,bQ];refine pJ λq _=>?_;by_cases c:q.1=l<;>simp[c]
 ·unfold aw;simp
theorem ML {K R:Al}{l:Int}:k5 (aw K R) l=aw K (k5 R l):=by
 unfold k5 aw;rw[Sq];rfl
theorem JD {K:Al}{l k x:Int}(h:look K l=none):kk (put K l k) x=if x=l then k else kk K x:=by
 have na:¬ (K.any λq=>decide (q.1=l))=true:=λz=>by
  obtain⟨q,m,e⟩:=pL.mp z;have:(look K l).isSome=true:=lU.mpr ⟨q,m,of_decide_eq_true e⟩;rw[h]at this;cases this
 unfold kk put;rw[if_neg na];unfold look at h ⊢;rw[List.find?_append];by_cases c:x=l
 ·subst c;rw[Option.map_eq_none_iff]at h;simp[h]
 ·rw[if_neg c];have c':¬ l=x:=λz=>c z.symm;cases K.find? λq=>decide (q.1=x)<;>simp[c']
theorem MM {K R:Al}{l k r:Int}(J:cQ K R n) (h:look K l=none):put (aw K R) l (k,r)=aw (put K l k) (put R l r):=by
 have e:aw (put K l k) R=aw K R:=by
  unfold aw;refine pJ λq m=>?_;have:q.1≠l:=λz=>by
   have:=J.sub q m;rw[z,h]at this;cases this
  rw[JD h,if_neg this]
 have:kk (put K l k) l=k:=by rw[JD h,if_pos rfl]
 rw[<-DN,e,this]
section
variable {rs ks : List D} {K R : List (Int × Int)} {b : Nat} {k : Int}
theorem Np {C:List Bx}{x y:DE W}{k v:Int}(h0:env[0]?=some (some (.d (hs rs ks ps hd)))) (hx:x env C=.val (.d (.int k)) C) (hy:y env C=.val (.d (.int v)) C) :
 dB (d2 false (inD false) (fK (fc x (fc y fg))) (d2 false ah (dV 0) (dC (.int 2)))) env C=.val (decide ((k,v)∈ps)) C:=by
 have z:(2:Nat)<=sizeLine:=by decide
 refine gY (fW (r:=.old (.bl (decide ((k,v)∈ps)))) (x:=dP (k,v)) (y:=.tup (ps.map dP)) (f8 [.int k,.int v] (fr hx (fr hy rfl)) z) ?_ (Cb false (k,v) ps));simp[h0,ah,a5,bA]
abbrev za:aq:=(fw (fC (d2 false ah (bX (dV 1) (dV 4)) (dC (.int 0))) (fe 5)) (aI (eY (dB (d2 false (inD false) (fK (fc (dV 2) (fc (dV 5) fg))) (d2 false ah (dV 0) (dC (.int 2))))) (dB (d2 false (inD false) (fK (fc (dV 5) (fc (dV 2) fg))) (d2 false ah (dV 0) (dC (.int 2)))))) (gJ (dY (dV 3) (fK (fc (dV 4) (fc (d2 false ah (bX (dV 1) (dV 4)) (dC (.int 1))) fg))))) aQ))
theorem Be (hb:B[b]?=some (.fD (aN dP (aw K R)))) (nd:(R.map (·.1)).Nodup):∀ (L:Al) (acc:List D) (x4 x5:Option W),(∀ q∈L,q∈R)->acc.length+L.length<=1000 ->
 ∃ y4 y5,ck (fe 4) za ((L.map λq=>D.int q.1).map W.d) [some (.d (hs rs ks ps hd)),xB b,xN k,xB B.length,x4,x5] (B++[.lst acc])=.nx [some (.d (hs rs ks ps hd)),xB b,xN k,xB B.length,y4,y5] (B++[.lst (acc++(L.filter λq=>cn ps k (kk K q.1)).map dP)])
 |[],acc,x4,x5,_,_=>⟨x4,x5,by simp[ck]⟩
 | q::L,acc,x4,x5,hm,hl=>by
   have z:sizeLine=16777216:=ba;rw[bb]at hl;have mq:=hm q (bL ..);have nt:((aw K R).map (·.1)).Nodup:=by rw[Ce];exact nd
   have mt:(q.1,(kk K q.1,q.2))∈aw K R:=bV.mpr ⟨q,mq,rfl⟩;have bl:=(List.getElem?_eq_some_iff.mp hb).1;have qy:∀ a,(B++[Bx.lst a])[b]?=some (.fD (aN dP (aw K R))):=λa=>by rw[c6 bl];exact hb
   have g1:∀ (x5:Option W) (a:List D),bX (dV 1) (dV 4) [some (.d (hs rs ks ps hd)),xB b,xN k,xB B.length,xN q.1,x5] (B++[.lst a])=.val (.d (dP (kk K q.1,q.2))) (B++[.lst a]):=λx5 a=>ls (e:=dP) (L:=aw K R) rfl rfl (Nm (qy a)) (JB nt mt);have s1:fC (d2 false ah (bX (dV 1) (dV 4)) (dC (.int 0))) (fe 5) [some (.d (hs rs ks ps hd)),xB b,xN k,xB B.length,xN q.1,x5] (B++[.lst acc])=.nx [some (.d (hs rs ks ps hd)),xB b,xN k,xB B.length,xN q.1,xN (kk K q.1)] (B++[.lst acc]):=
    fY (fW (r:=.old (.int (kk K q.1))) (g1 _ _) rfl rfl)
   have t1:=Np (env:=[some (.d (hs rs ks ps hd)),xB b,xN k,xB B.length,xN q.1,xN (kk K q.1)]) (C:=B++[.lst acc]) (x:=dV 2) (y:=dV 5) (k:=k) (v:=kk K q.1) rfl rfl rfl;have t2:=Np (env:=[some (.d (hs rs ks ps hd)),xB b,xN k,xB B.length,xN q.1,xN (kk K q.1)]) (C:=B++[.lst acc]) (x:=dV 5) (y:=dV 2) (k:=kk K q.1) (v:=k) rfl rfl rfl;have t:eY (dB (d2 false (inD false) (fK (fc (dV 2) (fc (dV 5) fg))) (d2 false ah (dV 0) (dC (.int 2))))) (dB (d2 false (inD false) (fK (fc (dV 5) (fc (dV 2) fg))) (d2 false ah (dV 0) (dC (.int 2))))) [some (.d (hs rs ks ps hd)),xB b,xN k,xB B.length,xN q.1,xN (kk K q.1)] (B++[.lst acc])=.val (cn ps k (kk K q.1)) (B++[.lst acc]):=by
    unfold cn;by_cases c:(k,kk K q.1)∈ps
    ·rw[decide_eq_true c]at t1 ⊢;exact Ru t1
    ·rw[decide_eq_false c]at t1 ⊢;rw[QU];exact Ni t1 t2
   have f1:fe 4 (W.d (.int q.1)) [some (.d (hs rs ks ps hd)),xB b,xN k,xB B.length,x4,x5] (B++[.lst acc])=some ([some (.d (hs rs ks ps hd)),xB b,xN k,xB B.length,xN q.1,x5],B++[.lst acc]):=rfl;cases c:cn ps k (kk K q.1) with
   | false =>
     rw[c]at t;obtain⟨y4,y5,e⟩:=Be hb nd L acc (xN q.1) (xN (kk K q.1)) (λq m=>hm q (bC _ m)) (by omega);refine⟨y4,y5,?_⟩;have bd:za [some (.d (hs rs ks ps hd)),xB b,xN k,xB B.length,xN q.1,x5] (B++[.lst acc])=.nx [some (.d (hs rs ks ps hd)),xB b,xN k,xB B.length,xN q.1,xN (kk K q.1)] (B++[.lst acc]):=(fm s1).trans ((f9 t).trans rfl);rw[aG,aG,mf f1 bd,e,vw (by simp[c])]
   | true =>
     rw[c]at t;obtain⟨y4,y5,e⟩:=Be hb nd L (acc++[dP q]) (xN q.1) (xN (kk K q.1)) (λq m=>hm q (bC _ m)) (by simp;omega);have b0:(B++[Bx.lst acc])[B.length]?=some (.lst acc):=by simp
     have a:=AG (m:=dV 3) (k:=fK (fc (dV 4) (fc (d2 false ah (bX (dV 1) (dV 4)) (dC (.int 1))) fg))) (env:=[some (.d (hs rs ks ps hd)),xB b,xN k,xB B.length,xN q.1,xN (kk K q.1)]) (bx:=B++[.lst acc]) (i:=B.length) (d:=dP q) rfl b0 (f8 [.int q.1,.int q.2] (fr rfl (fr (fW (r:=.old (.int q.2)) (g1 _ _) rfl rfl) rfl)) (by simp;omega)) b0 (by omega);rw[show (B++[Bx.lst acc]).set B.length (.lst (acc++[dP q]))=B++[.lst (acc++[dP q])] by simp]at a;refine⟨y4,y5,?_⟩;have bd:za [some (.d (hs rs ks ps hd)),xB b,xN k,xB B.length,xN q.1,x5] (B++[.lst acc])=.nx [some (.d (hs rs ks ps hd)),xB b,xN k,xB B.length,xN q.1,xN (kk K q.1)] (B++[.lst (acc++[dP q])]):=(fm s1).trans ((io t).trans (jl a));rw[aG,aG,mf f1 bd,e,vz (by simp[c])];simp
theorem DO (J:cQ K R n) (hn:n<=100) (hb:B[b]?=some (.ak (aN dP (aw K R)))):f7 [.d (hs rs ks ps hd),.b b,.d (.int k)] B=.val (.d (.lst ((R.filter λq=>cn ps k (kk K q.1)).map dP))) B:=by
 have z:sizeLine=16777216:=ba;have lr:=J.lr;have bl:=(List.getElem?_eq_some_iff.mp hb).1;have hf:(B.set b (.fD (aN dP (aw K R))))[b]?=some (.fD (aN dP (aw K R))):=k9 bl;obtain⟨y4,y5,e⟩:=Be (rs:=rs) (ks:=ks) (ps:=ps) (hd:=hd) (k:=k) (B:=B.set b (.fD (aN dP (aw K R)))) hf J.nd R [] none none (λq m=>m) (by simp;omega);rw[nh,kL]at e;have kw:pD (aN dP (aw K R))=(R.map λq=>D.int q.1).map W.d:=by
  rw[Cc];simp[aw,WD]
 have b1:(B++[Bx.lst []])[b]?=some (.ak (aN dP (aw K R))):=by rw[c6 bl];exact hb
 have fk:tR 1 (fe 4) za [some (.d (hs rs ks ps hd)),xB b,xN k,xB B.length,none,none] (B++[.lst []])=.nx [some (.d (hs rs ks ps hd)),xB b,xN k,xB B.length,y4,y5] (B++[.lst ((R.filter λq=>cn ps k (kk K q.1)).map dP)]):=by
  unfold tR;simp only[show ([some (.d (hs rs ks ps hd)),xB b,xN k,xB B.length,none,none]:aM)[1]?=some (some (W.b b)) from rfl,b1];rw[kw,EE _ _ bl,e];show se b (.nx _ _)=_;unfold se;have th:nJ b (B.set b (.fD (aN dP (aw K R)))++[.lst ((R.filter λq=>cn ps k (kk K q.1)).map dP)])=some (B++[.lst ((R.filter λq=>cn ps k (kk K q.1)).map dP)]):=by
   unfold nJ;rw[c6 (by rw[nh];exact bl),hf];simp only;rw[EE _ _ (by rw[nh];exact bl),Cd hb]
  simp only[th]
 have m:mH [some (.d (hs rs ks ps hd)),xB b,xN k,none,none,none] B=.rt (.d (.lst ((R.filter λq=>cn ps k (kk K q.1)).map dP))) ((B++[Bx.lst ((R.filter λq=>cn ps k (kk K q.1)).map dP)]).set B.length .dead):=by
  refine(fm (fY (A8 [] rfl (eG _)))).trans ((fm fk).trans ?_);exact ie (Nj rfl (by simp))
 refine(oT (ws:=[.d (hs rs ks ps hd),.b b,.d (.int k)]) m).trans ?_;simp
end
def Bl (bx:List Bx) (th:At) (ca:List (Int×Pg)) (go:Al) (dr:List (List Key×D)) (av wd:List D):List Bx:=bx++[.ak (aN dP th),.ak (aN enc ca),.ak (bZ go),.dT dr,.lst av,.lst wd]
noncomputable abbrev ml (n:Nat):List (Str×Nat):=[("there",n),("came",n+1),("gone",n+2),("doors",n+3),("at",n+4),("words",n+5)]
section
variable {th VB : At} {ca eC : List (Int × Pg)} {go go' : Al} {dr cR : List (List Key × D)} {av qQ wd VC : List D}
theorem qR:(Bl bx th ca go dr av wd)[bx.length]?=some (.ak (aN dP th)):=by simp[Bl]
theorem VD:(Bl bx th ca go dr av wd)[bx.length+1]?=some (.ak (aN enc ca)):=by simp[Bl,cE]
theorem Zo:(Bl bx th ca go dr av wd)[bx.length+2]?=some (.ak (bZ go)):=by simp[Bl,cE]
theorem zc:(Bl bx th ca go dr av wd)[bx.length+3]?=some (.dT dr):=by simp[Bl,cE]
theorem VE:(Bl bx th ca go dr av wd)[bx.length+4]?=some (.lst av):=by simp[Bl,cE]
theorem IW:(Bl bx th ca go dr av wd)[bx.length+5]?=some (.lst wd):=by simp[Bl,cE]
theorem IZ:(Bl bx th ca go dr av wd).set bx.length (.ak (aN dP VB))=Bl bx VB ca go dr av wd:=by simp[Bl]
theorem Zp:(Bl bx th ca go dr av wd).set (bx.length+1) (.ak (aN enc eC))=Bl bx th eC go dr av wd:=by simp[Bl,sy]
theorem kA:(Bl bx th ca go dr av wd).set (bx.length+2) (.ak (bZ go'))=Bl bx th ca go' dr av wd:=by simp[Bl,sy]
theorem zd:(Bl bx th ca go dr av wd).set (bx.length+3) (.dT cR)=Bl bx th ca go cR av wd:=by simp[Bl,sy]
theorem Zq:(Bl bx th ca go dr av wd).set (bx.length+4) (.lst qQ)=Bl bx th ca go dr qQ wd:=by simp[Bl,sy]
theorem wM:(Bl bx th ca go dr av wd).set (bx.length+5) (.lst VC)=Bl bx th ca go dr av VC:=by simp[Bl,sy]
theorem JE:(Bl bx th ca go dr av wd).length=bx.length+6:=by simp[Bl]
end
theorem jJ {k:Str}(h:m env B=.val (.m (ml n)) B) (hk:(ml n).lookup k=some j):bB m k env B=.val (.b j) B:=by
 unfold bB;rw[h,fM];simp only[hk]
theorem VF:(ml n).lookup ("there":Str)=some n:=rfl
theorem VG:(ml n).lookup ("came":Str)=some (n+1):=by rfl
theorem Zr:(ml n).lookup ("gone":Str)=some (n+2):=by rfl
theorem ze:(ml n).lookup ("doors":Str)=some (n+3):=by rfl
theorem Zs:(ml n).lookup ("at":Str)=some (n+4):=by rfl
theorem VH:(ml n).lookup ("words":Str)=some (n+5):=by rfl
noncomputable def nM:Pg->Int
 |.aK h ..=>h
 |.to h ..=>h
 |.out h _=>h
section
variable {e : α -> D} {L : List (Int × α)} {k v : DE W} {l : Int}
theorem Bf {x:α}(hv:v env B=.val (.d (e x)) B) (hm:m env B=.val (.b i) B) (hk:k env B=.val (.d (.int l)) B) (hb:B[i]?=some (.ak (aN e L))) (hl:L.length<=1000):kg m k v env B=.nx env (B.set i (.ak (aN e (put L l x)))):=by
 have z:sizeLine=16777216:=ba;unfold kg;rw[hv,gX,hm,gX,hk,gX];simp only[hb,hZ];rw[if_pos (by unfold aN;simp;omega),DI]
theorem Pn {x:α}(hm:m env B=.val (.b i) B) (hk:k env B=.val (.d (.int l)) B) (hb:B[i]?=some (.ak (aN e L))) (hs:(L.find? λq=>decide (q.1=l)).map (·.2)=some x):uX m k env B=.val (.d (e x)) (B.set i (.ak (aN e (k5 L l)))):=by
 unfold uX;rw[hm,fM];simp only[hb,hk,fM,hZ];rw[lS,hs,B9];rfl
theorem Bg {dr:List (List Key×D)}{a b:Int}{d:D}(hv:v env B=.val (.d d) B) (hm:m env B=.val (.b i) B) (hk:k env B=.val (.d (dP (a,b))) B) (hb:B[i]?=some (.dT dr)) (hl:dr.length<=1000):∃ cR,cR.length<=dr.length+1 /\ pE m k v env B=.nx env (B.set i (.dT cR)):=by
 have z:sizeLine=16777216:=ba;refine⟨sj dr [.inl a,.inl b] d,by unfold sj;split<;>simp,?_⟩;unfold pE;rw[hv,gX,hm,gX,hk,gX];simp only[hb,tP,hZ,bD,kM];rw[if_pos (by omega)]
end
end K11
namespace kZ
open L2 L2.DL K1 dh
end kZ
namespace K2
open L2 L2.DL K1
section
variable {h : D} {rs : List Int} {hold : Int} {x0 x1 x2 x4 x5 x6 x7 x8 x9 cD b9 bj bK Zt : Option W}
end
section
variable {h : D} {rs : List Int} {hold : Int} {x0 x1 x4 x5 x6 x7 x8 bj bK Zt : Option W}
end
end K2
namespace K1
open L2 L2.DL
end K1
namespace K2
open L2 L2.DL K1
end K2
namespace kZ
open L2 L2.DL K1 dh
section
variable {h : D} {k : Nat} 
end
end kZ
namespace dh
open L2 L2.DL K1 K2
section
variable {ag bE : List Bx}
end
section
variable {x0 x1 x2 x5 x7 x8 x9 cD : Option W}
end
section
variable {ag : List Bx}
end
section
variable {x0 x1 x3 x5 x6 x7 b9 bj bK : Option W}
end
section
variable {x0 x1 x5 : Option W}
end
end dh
namespace kZ
open L2 L2.DL K1 dh
section
variable {r : aM}
abbrev gP:DG:=gq 2 (fB (fe 0) (fB (fe 1) gz))
theorem zf (p:Int×Int->Bool) (f:Int×Int->D):∀ (l:List (Int×Int)) (w v:Option W) (acc:List D),acc.length+l.length<=sizeLine->(∀ a∈l,tf (xN a.1::xN a.2::r) bx=.val (p a) bx /\ (p a=true->te (xN a.1::xN a.2::r) bx=.val (.d (f a)) bx)) ->
 aU gP tf te ((l.map dP).map W.d) (w::v::r) bx acc=.val (acc++(l.filter p).map f) bx
 |[],w,v,acc,_,_=>by simp[aU]
 | a::l,w,v,acc,n,h=>by
   obtain⟨h1,h2⟩:=h a (bL ..);rw[bb]at n;have n':acc.length<sizeLine:=by omega
   have e0:gP (W.d (dP a)) (w::v::r) bx=some (some (W.d (.int a.1))::some (W.d (.int a.2))::r,bx):=rfl;cases c:p a with
   | false =>
     rw[vw (by simp[c]),<-zf p f l (some (W.d (.int a.1))) (some (W.d (.int a.2))) acc (by omega) λx m=>h x (bC _ m)];rw[c]at h1;simp only[aG,aU,e0,h1,oF]
   | true =>
     rw[vz c];have ih:=zf p f l (some (W.d (.int a.1))) (some (W.d (.int a.2))) (acc++[f a]) (by simp;omega) λx m=>h x (bC _ m);rw[c]at h1;simp only[aG,aU,e0,h1,h2 c,oF,if_pos n',ih];simp
end
section
variable {ag : List Bx}
end
theorem JF (neg:Bool) (is:List Int) (b:Int):inD neg (.int b) (.lst (is.map D.int))=some (.old (.bl (if neg then !decide (b∈is) else decide (b∈is)))):=by
 show (if eR (.int b)=true /\ (is.map D.int).all eR=true then some (Res.old (.bl (if neg then !eS (.int b) (is.map D.int) else eS (.int b) (is.map D.int)))) else tM neg _ _ _)=_;rw[if_pos ⟨rfl,FM is⟩,Js];have:(is.any λz=>decide (z=b))=decide (b∈is):=by
  rw[kn];simp
 rw[this]
section
variable {k : Nat} 
end
end kZ
namespace K11
open L2 L2.DL K1 kZ dh
def dQ (ps K R:Al) (g:Pg):Al:=if word ps K R g="takes" then stK K g else K
def eT (ps K R:Al) (g:Pg):Al:=if word ps K R g="takes" then u6 R g else R
theorem VI (L:Al) (r:Int):inD false (.int r) (.lst (L.map λq=>.int q.2))=some (.old (.bl (decide (r∈L.map (·.2))))):=by
 have:=JF false (L.map (·.2)) r;rw[bQ]at this;exact this
theorem jX {ps K R:Al}{g:Pg}(h:¬ word ps K R g="takes"):dQ ps K R g=K /\ eT ps K R g=R:=⟨if_neg h,if_neg h⟩
theorem lu {ps K R:Al}{g:Pg}(h:word ps K R g="takes"):dQ ps K R g=stK K g /\ eT ps K R g=u6 R g:=⟨if_pos h,if_pos h⟩
section
variable {rs ks : List D} {K R : List (Int × Int)} 
theorem Nq (k r:Int):decide (r∈(R.filter λq=>cn ps k (kk K q.1)).map (·.2))=eB ps K R k r:=by
 unfold eB;rw[kn,decide_eq_true_eq,pL];simp only[bV,qZ,aB,decide_eq_true_eq];exact⟨λ⟨q,m,e⟩=>⟨q,m.1,e,m.2⟩,λ⟨q,m,e,a⟩=>⟨q,⟨m,a⟩,e⟩⟩
theorem RI {l r0 r:Int}(nd:(R.map (·.1)).Nodup) (h:look R l=some r0) (d:¬ r0=r) (k:Int):decide (r∈(((R.filter λq=>cn ps k (kk K q.1)).filter λq=>!decide (q.1=l))).map (·.2))=eB ps K R k r:=by
 rw[<-Nq,kn,decide_eq_true_eq,decide_eq_true_eq];simp only[bV,qZ,nQ,decide_eq_false_iff_not];refine⟨λ⟨q,m,e⟩=>⟨q,m.1,e⟩,λ⟨q,m,e⟩=>⟨q,⟨m,λz=>?_⟩,e⟩⟩;have:=Ca nd m.1;rw[z,h]at this;exact d ((Option.some.inj this).trans e)
abbrev oE (H:D) (n:Nat) (g:Pg) (x6 x7 x8:Option W):aM:=[some (.d H),some (.m (ml n)),some (.d (enc g)),some (.d (.int (nM g))),some (.d (.str (aY g))),some (.d (.int (aT g))),x6,x7,x8]
theorem RJ (J:cQ K R n) (hn:n<=100) (hb:B[bx.length]?=some (.ak (aN dP (aw K R)))) {mk mr:DE W}{k r:Int}(h0:env[0]?=some (some (.d (hs rs ks ps hd)))) (h6:env[6]?=some (xB bx.length)) (hk:mk env B=.val (.d (.int k)) B) (hr:mr env B=.val (.d (.int r)) B) :
 dB (d2 false (inD false) mr (fS false [none,none] (bt (fq K11.f7 3 (fc (dV 0) (fc (dV 6) (fc mk fg))))) gP fQ (dV 1))) env B=.val (eB ps K R k r) B:=by
 have z:sizeLine=16777216:=ba;have lr:=J.lr;have fl:=vt (λq:Int×Int=>cn ps k (kk K q.1)) R;have v0:dV 0 env B=.val (.d (hs rs ks ps hd)) B:=by unfold dV;rw[h0]
 have v6:dV 6 env B=.val (.b bx.length) B:=by unfold dV;rw[h6]
 have it:bt (fq K11.f7 3 (fc (dV 0) (fc (dV 6) (fc mk fg)))) env B=.val (((R.filter λq=>cn ps k (kk K q.1)).map dP).map W.d) B :=
  g9 (fN (l:=[.d (hs rs ks ps hd),.b bx.length,.d (.int k)]) (fr v0 (fr v6 (fr hk rfl))) rfl (DO J hn hb))
 have c:=zf (tf:=fQ) (te:=dV 1) (bx:=B) (r:=[]) (λ_=>true) (λq=>.int q.2) (R.filter λq=>cn ps k (kk K q.1)) none none [] (by simp;omega) λq _=>⟨rfl,λ_=>rfl⟩;rw[kL,List.filter_eq_self.mpr λ_ _=>rfl]at c;rw[<-Nq];refine gY (fW (r:=.old (.bl (decide (r∈(R.filter λq=>cn ps k (kk K q.1)).map (·.2))))) hr (lR it rfl c) ?_);exact VI _ r
theorem RK (J:cQ K R n) (hn:n<=100) (hb:B[bx.length]?=some (.ak (aN dP (aw K R)))) {mk mr:DE W}{k r l r0:Int}(h0:env[0]?=some (some (.d (hs rs ks ps hd)))) (h5:env[5]?=some (xN l)) (h6:env[6]?=some (xB bx.length)) (hk:mk env B=.val (.d (.int k)) B) (hr:mr env B=.val (.d (.int r)) B) (hl:look R l=some r0) (d:¬ r0=r) :
 dB (d2 false (inD false) mr (fS false [none,none,some 5] (bt (fq K11.f7 3 (fc (dV 0) (fc (dV 6) (fc mk fg))))) gP (dB (d2 false bY (dV 0) (dV 2))) (dV 1))) env B=.val (eB ps K R k r) B:=by
 have z:sizeLine=16777216:=ba;have lr:=J.lr;have fl:=vt (λq:Int×Int=>cn ps k (kk K q.1)) R;have v0:dV 0 env B=.val (.d (hs rs ks ps hd)) B:=by unfold dV;rw[h0]
 have v6:dV 6 env B=.val (.b bx.length) B:=by unfold dV;rw[h6]
 have it:bt (fq K11.f7 3 (fc (dV 0) (fc (dV 6) (fc mk fg)))) env B=.val (((R.filter λq=>cn ps k (kk K q.1)).map dP).map W.d) B :=
  g9 (fN (l:=[.d (hs rs ks ps hd),.b bx.length,.d (.int k)]) (fr v0 (fr v6 (fr hk rfl))) rfl (DO J hn hb))
 have c:=zf (tf:=dB (d2 false bY (dV 0) (dV 2))) (te:=dV 1) (bx:=B) (r:=[xN l]) (λq=>!decide (q.1=l)) (λq=>.int q.2) (R.filter λq=>cn ps k (kk K q.1)) none none [] (by simp;omega) λq _=>⟨gY (fW (r:=.old (.bl (!decide (q.1=l)))) (x:=.int q.1) (y:=.int l) rfl rfl (by simp[bY])),λ_=>rfl⟩;rw[kL]at c;rw[<-RI J.nd hl d];refine gY (fW (r:=.old (.bl (decide (r∈(((R.filter λq=>cn ps k (kk K q.1)).filter λq=>!decide (q.1=l))).map (·.2))))) hr (lR it (by simp[h5]) c) ?_);exact VI _ r
variable {ca : List (Int × Pg)} {go : Al} {dr : List (List Key × D)} {av wd : List D}
structure Lb (K:Al) (ca:List (Int×Pg)) (go:Al) (dr:List (List Key×D)) (m:Nat):Prop where
 k:ca.map (·.1)=K.map (·.1)
 c:ca.length<=m
 g:go.length<=m
 d:dr.length<=2*m
theorem Zu (h:Hs rs ks ps hd) (J:cQ K R n) (hn:n<=100) {m:Nat}(Q:Lb K ca go dr m) (hm:m<=100) (g:Pg) :
 ∃ eC go' cR,jF [some (.d (hs rs ks ps hd)),some (.m (ml bx.length)),some (.d (enc g)),none,none,none,none,none,none] (Bl bx (aw K R) ca go dr av wd)=.rt (.d (.str (word ps K R g))) (Bl bx (aw (dQ ps K R g) (eT ps K R g)) eC go' cR av wd) /\ Lb (dQ ps K R g) eC go' cR (m+1):=by
 have z:sizeLine=16777216:=ba;have qc:=Q.c;have qg:=Q.g;have qd:=Q.d;have up:Lb K ca go dr (m+1):=⟨Q.k,by omega,by omega,by omega⟩;have e1:fC (kY false (dV 2) kW (kX (dC (.int 3)))) (gq 3 (fB (fe 3) (fB (fe 4) (fB (fe 5) gz)))) [some (.d (hs rs ks ps hd)),some (.m (ml bx.length)),some (.d (enc g)),none,none,none,none,none,none] (Bl bx (aw K R) ca go dr av wd)=.nx (oE (hs rs ks ps hd) bx.length g none none none) (Bl bx (aw K R) ca go dr av wd):=by
  cases g<;>simp[enc,cC,a9,dD,ph,DL.cutD,HT.aA,nM,aY,aT]
 have e2:fC (bB (dV 1) "there") (fe 6) (oE (hs rs ks ps hd) bx.length g none none none) (Bl bx (aw K R) ca go dr av wd)=.nx (oE (hs rs ks ps hd) bx.length g (xB bx.length) none none) (Bl bx (aw K R) ca go dr av wd):=fY (jJ rfl VF);have tw:∀ (w:Str) (x7 x8:Option W) (B:List Bx),dB (d2 false aF (dV 4) (dC (.str w))) (oE (hs rs ks ps hd) bx.length g (xB bx.length) x7 x8) B=.val (decide (aY g=w)) B:=λw x7 x8 B=>gY (fW (r:=.old (.bl (decide (aY g=w)))) rfl rfl (eq_str _ _));have ni:dB (c9 true (dV 5) (dV 6)) (oE (hs rs ks ps hd) bx.length g (xB bx.length) none none) (Bl bx (aw K R) ca go dr av wd)=.val (!(look R (aT g)).isSome) (Bl bx (aw K R) ca go dr av wd):=by
  have:=DJ (e:=dP) (L:=aw K R) (k:=dV 5) (m:=dV 6) (env:=oE (hs rs ks ps hd) bx.length g (xB bx.length) none none) (bx:=Bl bx (aw K R) ca go dr av wd) (l:=aT g) true rfl rfl (jW qR);rw[oV,qp]at this;exact gY this
 cases g with
 | aK h' l k r p w =>
   have t1:dB (c9 false (dV 5) (bB (dV 1) "came")) (oE (hs rs ks ps hd) bx.length (.aK h' l k r p w) (xB bx.length) none none) (Bl bx (aw K R) ca go dr av wd)=.val (look K l).isSome (Bl bx (aw K R) ca go dr av wd):=by
    have:=DJ (e:=enc) (L:=ca) (k:=dV 5) (m:=bB (dV 1) "came") (env:=oE (hs rs ks ps hd) bx.length (.aK h' l k r p w) (xB bx.length) none none) (bx:=Bl bx (aw K R) ca go dr av wd) (l:=l) false rfl (jJ rfl VG) (jW VD);rw[FP Q.k]at this;exact gY this
   have t2:=RJ (rs:=rs) (ks:=ks) (ps:=ps) (hd:=hd) (bx:=bx) (B:=Bl bx (aw K R) ca go dr av wd) (env:=oE (hs rs ks ps hd) bx.length (.aK h' l k r p w) (xB bx.length) none none) (mk:=d2 false ah (dV 2) (dC (.int 3))) (mr:=d2 false ah (dV 2) (dC (.int 4))) (k:=k) (r:=r) J hn qR rfl rfl rfl rfl;cases c:(look K l).isSome with
   | true =>
     have ew:word ps K R (.aK h' l k r p w)="there":=by simp only[word,c,if_true]
     obtain⟨n1,n2⟩:=jX (g:=.aK h' l k r p w) (by rw[ew];decide);refine⟨ca,go,dr,?_,by rw[n1];exact up⟩;rw[n1,n2,ew];rw[c]at t1;exact(fm e1).trans ((fm e2).trans (gf ((io (tw "in" none none _)).trans (gf ((io t1).trans rfl)))))
   | false =>
     rw[c]at t1;have hl:look K l=none:=by cases q:look K l with|none=>rfl|some v=>rw[q]at c;cases c
     cases cc:eB ps K R k r with
     | true =>
       have ew:word ps K R (.aK h' l k r p w)="apart":=by simp[word,c,cc]
       obtain⟨n1,n2⟩:=jX (g:=.aK h' l k r p w) (by rw[ew];decide);refine⟨ca,go,dr,?_,by rw[n1];exact up⟩;rw[n1,n2,ew];rw[cc]at t2;exact(fm e1).trans ((fm e2).trans (gf ((io (tw "in" none none _)).trans ((fm ((f9 t1).trans rfl)).trans (gf ((io t2).trans rfl))))))
     | false =>
       have ew:word ps K R (.aK h' l k r p w)="takes":=by simp[word,c,cc]
       obtain⟨n1,n2⟩:=lu (g:=.aK h' l k r p w) ew;rw[cc]at t2;have p1:=Bf (e:=enc) (L:=ca) (x:=.aK h' l k r p w) (v:=dV 2) (m:=bB (dV 1) "came") (k:=dV 5) (env:=oE (hs rs ks ps hd) bx.length (.aK h' l k r p w) (xB bx.length) none none) (B:=Bl bx (aw K R) ca go dr av wd) rfl (jJ rfl VG) rfl VD (by omega);rw[Zp]at p1;have p2:=Bf (e:=dP) (L:=aw K R) (x:=(k,r)) (v:=fK (fc (d2 false ah (dV 2) (dC (.int 3))) (fc (d2 false ah (dV 2) (dC (.int 4))) fg))) (m:=dV 6) (k:=dV 5) (env:=oE (hs rs ks ps hd) bx.length (.aK h' l k r p w) (xB bx.length) none none) (B:=Bl bx (aw K R) (put ca l (.aK h' l k r p w)) go dr av wd) (f8 [.int k,.int r] rfl (by simp;omega)) rfl rfl qR (by unfold aw;rw[aR];have:=J.lr;omega);rw[show aT (.aK h' l k r p w)=l from rfl,MM J hl,IZ]at p2;obtain⟨cR,ld,p3⟩:=Bg (dr:=dr) (v:=dC (.bl true)) (m:=bB (dV 1) "doors") (k:=fK (fc (dV 3) (fc (d2 false ah (dV 2) (dC (.int 4))) fg))) (a:=h') (b:=r) (env:=oE (hs rs ks ps hd) bx.length (.aK h' l k r p w) (xB bx.length) none none) (B:=Bl bx (aw (put K l k) (put R l r)) (put ca l (.aK h' l k r p w)) go dr av wd) rfl (jJ rfl ze) (f8 [.int h',.int r] rfl (by simp;omega)) zc (by omega);rw[zd]at p3;refine⟨put ca l (.aK h' l k r p w),go,cR,?_,?_⟩
       ·rw[n1,n2,ew];exact(fm e1).trans ((fm e2).trans (gf ((io (tw "in" none none _)).trans ((fm ((f9 t1).trans rfl)).trans ((fm ((f9 t2).trans rfl)).trans ((fm p1).trans ((fm p2).trans ((fm p3).trans rfl))))))))
       ·rw[n1];have:=lT ca l (.aK h' l k r p w);exact⟨JC Q.k l _ k,by omega,by omega,by omega⟩
 | to h' l r =>
   have ti:=tw "in" none none (Bl bx (aw K R) ca go dr av wd);rw[decide_eq_false (show ¬ aY (.to h' l r)="in" by show ¬ ("to":Str)="in";rw[CO];exact id)]at ti;have k6:∀ {o:OS}{k:aq},k (oE (hs rs ks ps hd) bx.length (.to h' l r) (xB bx.length) none none) (Bl bx (aw K R) ca go dr av wd)=o->∀ {a:aq},fw (aI (dB (d2 false aF (dV 4) (dC (.str "in")))) a aQ) k (oE (hs rs ks ps hd) bx.length (.to h' l r) (xB bx.length) none none) (Bl bx (aw K R) ca go dr av wd)=o:=λ{o k} hh {a}=>(fm ((f9 ti).trans rfl)).trans hh;cases c:look R l with
   | none =>
     have ew:word ps K R (.to h' l r)="none":=by simp only[word,c]
     obtain⟨n1,n2⟩:=jX (g:=.to h' l r) (by rw[ew];decide);refine⟨ca,go,dr,?_,by rw[n1];exact up⟩;rw[n1,n2,ew];rw[show look R (aT (.to h' l r))=none from c]at ni;exact(fm e1).trans ((fm e2).trans (k6 (gf ((io ni).trans rfl))))
   | some r0 =>
     rw[show look R (aT (.to h' l r))=some r0 from c]at ni;have g2:fC (bX (dV 6) (dV 5)) (gq 2 (fB (fe 7) (fB (fe 8) gz))) (oE (hs rs ks ps hd) bx.length (.to h' l r) (xB bx.length) none none) (Bl bx (aw K R) ca go dr av wd)=.nx (oE (hs rs ks ps hd) bx.length (.to h' l r) (xB bx.length) (xN (kk K l)) (xN r0)) (Bl bx (aw K R) ca go dr av wd):=by
      have gg:=ls (e:=dP) (L:=aw K R) (k:=dV 5) (m:=dV 6) (env:=oE (hs rs ks ps hd) bx.length (.to h' l r) (xB bx.length) none none) (bx:=Bl bx (aw K R) ca go dr av wd) (l:=l) (v:=(kk K l,r0)) rfl rfl (jW qR) (by rw[oV,c];rfl);rw[lg,gg];rfl
     have to:=tw "out" (xN (kk K l)) (xN r0) (Bl bx (aw K R) ca go dr av wd);rw[decide_eq_false (show ¬ aY (.to h' l r)="out" by show ¬ ("to":Str)="out";rw[MG];exact id)]at to;have ts:dB (d2 false aF (dV 8) (d2 false ah (dV 2) (dC (.int 3)))) (oE (hs rs ks ps hd) bx.length (.to h' l r) (xB bx.length) (xN (kk K l)) (xN r0)) (Bl bx (aw K R) ca go dr av wd)=.val (decide (r0=r)) (Bl bx (aw K R) ca go dr av wd):=
      gY (fW (r:=.old (.bl (decide (r0=r)))) (x:=.int r0) (y:=.int r) rfl rfl (by simp[aF]))
     by_cases d:r0=r
     ·have ew:word ps K R (.to h' l r)="same":=by simp only[word,c,if_pos d]
      obtain⟨n1,n2⟩:=jX (g:=.to h' l r) (by rw[ew];decide);refine⟨ca,go,dr,?_,by rw[n1];exact up⟩;rw[n1,n2,ew];rw[decide_eq_true d]at ts;exact(fm e1).trans ((fm e2).trans (k6 ((fm ((f9 ni).trans rfl)).trans ((fm g2).trans (gf ((f9 to).trans ((io ts).trans rfl)))))))
     ·rw[decide_eq_false d]at ts;have tc:=RK (rs:=rs) (ks:=ks) (ps:=ps) (hd:=hd) (bx:=bx) (B:=Bl bx (aw K R) ca go dr av wd) (env:=oE (hs rs ks ps hd) bx.length (.to h' l r) (xB bx.length) (xN (kk K l)) (xN r0)) (mk:=dV 7) (mr:=d2 false ah (dV 2) (dC (.int 3))) (k:=kk K l) (r:=r) (l:=l) (r0:=r0) J hn qR rfl rfl rfl rfl rfl c d;cases cc:eB ps K R (kk K l) r with
      | true =>
        have ew:word ps K R (.to h' l r)="apart":=by simp[word,c,d,cc]
        obtain⟨n1,n2⟩:=jX (g:=.to h' l r) (by rw[ew];decide);refine⟨ca,go,dr,?_,by rw[n1];exact up⟩;rw[n1,n2,ew];rw[cc]at tc;exact(fm e1).trans ((fm e2).trans (k6 ((fm ((f9 ni).trans rfl)).trans ((fm g2).trans (gf ((f9 to).trans ((f9 ts).trans ((io tc).trans rfl))))))))
      | false =>
        have ew:word ps K R (.to h' l r)="takes":=by simp[word,c,d,cc]
        obtain⟨n1,n2⟩:=lu (g:=.to h' l r) ew;rw[cc]at tc;have p2:=Bf (e:=dP) (L:=aw K R) (x:=(kk K l,r)) (v:=fK (fc (dV 7) (fc (d2 false ah (dV 2) (dC (.int 3))) fg))) (m:=dV 6) (k:=dV 5) (env:=oE (hs rs ks ps hd) bx.length (.to h' l r) (xB bx.length) (xN (kk K l)) (xN r0)) (B:=Bl bx (aw K R) ca go dr av wd) (f8 [.int (kk K l),.int r] rfl (by simp;omega)) rfl rfl qR (by unfold aw;rw[aR];have:=J.lr;omega);rw[show aT (.to h' l r)=l from rfl,DN,IZ]at p2;obtain⟨d1,l1,p3⟩:=Bg (dr:=dr) (v:=dC (.bl true)) (m:=bB (dV 1) "doors") (k:=fK (fc (dV 3) (fc (d2 false ah (dV 2) (dC (.int 3))) fg))) (a:=h') (b:=r) (env:=oE (hs rs ks ps hd) bx.length (.to h' l r) (xB bx.length) (xN (kk K l)) (xN r0)) (B:=Bl bx (aw K (put R l r)) ca go dr av wd) rfl (jJ rfl ze) (f8 [.int h',.int r] rfl (by simp;omega)) zc (by omega);rw[zd]at p3;obtain⟨Ia,l2,p4⟩:=Bg (dr:=d1) (v:=dC (.bl true)) (m:=bB (dV 1) "doors") (k:=fK (fc (dV 3) (fc (dV 8) fg))) (a:=h') (b:=r0) (env:=oE (hs rs ks ps hd) bx.length (.to h' l r) (xB bx.length) (xN (kk K l)) (xN r0)) (B:=Bl bx (aw K (put R l r)) ca go d1 av wd) rfl (jJ rfl ze) (f8 [.int h',.int r0] rfl (by simp;omega)) zc (by omega);rw[zd]at p4;refine⟨ca,go,Ia,?_,?_⟩
        ·rw[n1,n2,ew];exact(fm e1).trans ((fm e2).trans (k6 ((fm ((f9 ni).trans rfl)).trans ((fm g2).trans ((fm ((f9 to).trans ((f9 ts).trans ((f9 tc).trans ((fm p2).trans p3))))).trans ((fm p4).trans rfl))))))
        ·rw[n1];exact⟨Q.k,by omega,by omega,by omega⟩
 | out h' l =>
   have ti:=tw "in" none none (Bl bx (aw K R) ca go dr av wd);rw[decide_eq_false (show ¬ aY (.out h' l)="in" by show ¬ ("out":Str)="in";rw[FO];exact id)]at ti;have k6:∀ {o:OS}{k:aq},k (oE (hs rs ks ps hd) bx.length (.out h' l) (xB bx.length) none none) (Bl bx (aw K R) ca go dr av wd)=o->∀ {a:aq},fw (aI (dB (d2 false aF (dV 4) (dC (.str "in")))) a aQ) k (oE (hs rs ks ps hd) bx.length (.out h' l) (xB bx.length) none none) (Bl bx (aw K R) ca go dr av wd)=o:=λ{o k} hh {a}=>(fm ((f9 ti).trans rfl)).trans hh;cases c:look R l with
   | none =>
     have ew:word ps K R (.out h' l)="none":=by simp only[word,c]
     obtain⟨n1,n2⟩:=jX (g:=.out h' l) (by rw[ew];decide);refine⟨ca,go,dr,?_,by rw[n1];exact up⟩;rw[n1,n2,ew];rw[show look R (aT (.out h' l))=none from c]at ni;exact(fm e1).trans ((fm e2).trans (k6 (gf ((io ni).trans rfl))))
   | some r0 =>
     rw[show look R (aT (.out h' l))=some r0 from c]at ni;have ff:((aw K R).find? λp=>decide (p.1=l)).map (·.2)=some (kk K l,r0):=by rw[oV,c];rfl
     have g2:fC (bX (dV 6) (dV 5)) (gq 2 (fB (fe 7) (fB (fe 8) gz))) (oE (hs rs ks ps hd) bx.length (.out h' l) (xB bx.length) none none) (Bl bx (aw K R) ca go dr av wd)=.nx (oE (hs rs ks ps hd) bx.length (.out h' l) (xB bx.length) (xN (kk K l)) (xN r0)) (Bl bx (aw K R) ca go dr av wd):=by
      have gg:=ls (e:=dP) (L:=aw K R) (k:=dV 5) (m:=dV 6) (env:=oE (hs rs ks ps hd) bx.length (.out h' l) (xB bx.length) none none) (bx:=Bl bx (aw K R) ca go dr av wd) (l:=l) (v:=(kk K l,r0)) rfl rfl (jW qR) ff;rw[lg,gg];rfl
     have to:=tw "out" (xN (kk K l)) (xN r0) (Bl bx (aw K R) ca go dr av wd);have ew:word ps K R (.out h' l)="takes":=by simp only[word,c]
     obtain⟨n1,n2⟩:=lu (g:=.out h' l) ew;have p1:=Pn (e:=dP) (L:=aw K R) (m:=dV 6) (k:=dV 5) (env:=oE (hs rs ks ps hd) bx.length (.out h' l) (xB bx.length) (xN (kk K l)) (xN r0)) (B:=Bl bx (aw K R) ca go dr av wd) (l:=l) rfl rfl qR ff;rw[ML,IZ]at p1;have p2:=Bf (e:=D.int) (L:=go) (x:=h') (v:=dV 3) (m:=bB (dV 1) "gone") (k:=dV 5) (env:=oE (hs rs ks ps hd) bx.length (.out h' l) (xB bx.length) (xN (kk K l)) (xN r0)) (B:=Bl bx (aw K (k5 R l)) ca go dr av wd) rfl (jJ rfl Zr) rfl Zo (by omega);rw[show aT (.out h' l)=l from rfl,kA]at p2;obtain⟨d1,l1,p3⟩:=Bg (dr:=dr) (v:=dC (.bl true)) (m:=bB (dV 1) "doors") (k:=fK (fc (dV 3) (fc (dV 8) fg))) (a:=h') (b:=r0) (env:=oE (hs rs ks ps hd) bx.length (.out h' l) (xB bx.length) (xN (kk K l)) (xN r0)) (B:=Bl bx (aw K (k5 R l)) ca (put go l h') dr av wd) rfl (jJ rfl ze) (f8 [.int h',.int r0] rfl (by simp;omega)) zc (by omega);rw[zd]at p3;refine⟨ca,put go l h',d1,?_,?_⟩
     ·rw[n1,n2,ew];exact(fm e1).trans ((fm e2).trans (k6 ((fm ((f9 ni).trans rfl)).trans ((fm g2).trans ((fm ((io to).trans ((fm (jl p1)).trans p2))).trans ((fm p3).trans rfl))))))
     ·rw[n1];have:=lT go l h';exact⟨Q.k,by omega,by omega,by omega⟩
theorem RL (h:Hs rs ks ps hd) (J:cQ K R n) (hn:n<=100) {m:Nat}(Q:Lb K ca go dr m) (hm:m<=100) (g:Pg) :
 ∃ eC go' cR,ge [.d (hs rs ks ps hd),.m (ml bx.length),.d (enc g)] (Bl bx (aw K R) ca go dr av wd)=.val (.d (.str (word ps K R g))) (Bl bx (aw (dQ ps K R g) (eT ps K R g)) eC go' cR av wd) /\ Lb (dQ ps K R g) eC go' cR (m+1):=by
 obtain⟨eC,go',cR,e,q⟩:=Zu (bx:=bx) (av:=av) (wd:=wd) h J hn Q hm g;exact⟨eC,go',cR,AE e (by rw[JE,JE];exact ao _),q⟩
end
theorem cQ.nx {ps K R:Al}(J:cQ K R n) (g:Pg):cQ (dQ ps K R g) (eT ps K R g) (n+1):=by
 by_cases c:word ps K R g="takes"
 ·rw[(lu c).1,(lu c).2];exact J.step c
 ·rw[(jX c).1,(jX c).2];exact⟨J.nd,J.sub,Eu J.lk,Eu J.lr⟩
theorem oX {ps K R:Al}{g:Pg}:wordsOf ps K R (g::gs)=word ps K R g::wordsOf ps (dQ ps K R g) (eT ps K R g) gs:=by
 show word ps K R g::_=_;by_cases c:word ps K R g="takes"
 ·rw[(lu c).1,(lu c).2,if_pos c]
 ·rw[(jX c).1,(jX c).2,if_neg c]
abbrev tZ (p:Pg×Str):D:=.tup [enc p.1,.str p.2]
abbrev VJ:aq:=(fw (gJ (dY (bB (dV 2) "words") (fK (fc (dV 3) (fc (fq K11.ge 3 (fc (dV 0) (fc (dV 2) (fc (dV 3) fg)))) fg))))) (gJ (dY (bB (dV 2) "at") (fK (fc (d2 false ah (dV 3) (dC (.int 0))) (fc (tU false (bB (dV 2) "there")) fg))))))
section
variable {rs ks : List D} {P : D} 
theorem Sg (g:Pg) (h:env[3]?=some (some (.d (enc g)))):d2 false ah (dV 3) (dC (.int 0)) env B=.val (.d (.int (nM g))) B:=by
 cases g<;>simp[h,enc,cC,a9,dD,ah,a5,bA,nM]
theorem DP (h:Hs rs ks ps hd):∀ (gs:List Pg) (K R:Al) (ca:List (Int×Pg)) (go:Al) (dr:List (List Key×D)) (av wd:List D) (n m:Nat) (x3:Option W),cQ K R n->Lb K ca go dr m->n+gs.length<=100->m+gs.length<=100->av.length+gs.length<=100->wd.length+gs.length<=100 ->
 ∃ K' R' eC go' cR qQ y3,ck (fe 3) VJ ((gs.map enc).map W.d) [some (.d (hs rs ks ps hd)),some (.d P),some (.m (ml bx.length)),x3] (Bl bx (aw K R) ca go dr av wd)=.nx [some (.d (hs rs ks ps hd)),some (.d P),some (.m (ml bx.length)),y3] (Bl bx (aw K' R') eC go' cR qQ (wd++(gs.zip (wordsOf ps K R gs)).map tZ))
 |[],K,R,ca,go,dr,av,wd,n,m,x3,_,_,_,_,_,_=>⟨K,R,ca,go,dr,av,x3,by simp[ck]⟩
 | g::gs,K,R,ca,go,dr,av,wd,n,m,x3,J,Q,hn,hm,ha,hw=>by
   have z:sizeLine=16777216:=ba;rw[bb]at hn hm ha hw;obtain⟨wV,k6,wW,e,Q1⟩:=RL (bx:=bx) (av:=av) (wd:=wd) h J (by omega) Q (by omega) g;have a:=AG (m:=bB (dV 2) "words") (k:=fK (fc (dV 3) (fc (fq K11.ge 3 (fc (dV 0) (fc (dV 2) (fc (dV 3) fg)))) fg))) (env:=[some (.d (hs rs ks ps hd)),some (.d P),some (.m (ml bx.length)),some (.d (enc g))]) (bx:=Bl bx (aw K R) ca go dr av wd) (i:=bx.length+5) (d:=tZ (g,word ps K R g)) (jJ rfl VH) IW (f8 [enc g,.str (word ps K R g)] (fr rfl (fr (fN (l:=[.d (hs rs ks ps hd),.m (ml bx.length),.d (enc g)]) rfl rfl e) rfl)) (by simp;omega)) IW (by omega);rw[wM]at a;have dc:tU false (bB (dV 2) "there") [some (.d (hs rs ks ps hd)),some (.d P),some (.m (ml bx.length)),some (.d (enc g))] (Bl bx (aw (dQ ps K R g) (eT ps K R g)) wV k6 wW av (wd++[tZ (g,word ps K R g)]))=.val (.d (.ak (aN dP (aw (dQ ps K R g) (eT ps K R g))))) (Bl bx (aw (dQ ps K R g) (eT ps K R g)) wV k6 wW av (wd++[tZ (g,word ps K R g)])):=by
    unfold tU;rw[jJ rfl VF,fM,jW qR];rfl
   have b:=AG (m:=bB (dV 2) "at") (k:=fK (fc (d2 false ah (dV 3) (dC (.int 0))) (fc (tU false (bB (dV 2) "there")) fg))) (env:=[some (.d (hs rs ks ps hd)),some (.d P),some (.m (ml bx.length)),some (.d (enc g))]) (bx:=Bl bx (aw (dQ ps K R g) (eT ps K R g)) wV k6 wW av (wd++[tZ (g,word ps K R g)])) (i:=bx.length+4) (d:=.tup [.int (nM g),.ak (aN dP (aw (dQ ps K R g) (eT ps K R g)))]) (jJ rfl Zs) VE (f8 [.int (nM g),.ak (aN dP (aw (dQ ps K R g) (eT ps K R g)))] (fr (Sg g rfl) (fr dc rfl)) (by simp;omega)) VE (by omega);rw[Zq]at b;have bd:VJ [some (.d (hs rs ks ps hd)),some (.d P),some (.m (ml bx.length)),some (.d (enc g))] (Bl bx (aw K R) ca go dr av wd)=.nx [some (.d (hs rs ks ps hd)),some (.d P),some (.m (ml bx.length)),some (.d (enc g))] (Bl bx (aw (dQ ps K R g) (eT ps K R g)) wV k6 wW (av++[.tup [.int (nM g),.ak (aN dP (aw (dQ ps K R g) (eT ps K R g)))]]) (wd++[tZ (g,word ps K R g)])):=(fm (jl a)).trans (jl b);have g1:fe 3 (W.d (enc g)) [some (.d (hs rs ks ps hd)),some (.d P),some (.m (ml bx.length)),x3] (Bl bx (aw K R) ca go dr av wd)=some ([some (.d (hs rs ks ps hd)),some (.d P),some (.m (ml bx.length)),some (.d (enc g))],Bl bx (aw K R) ca go dr av wd):=rfl;obtain⟨K',R',eC,go',cR,qQ,y3,e2⟩:=DP h gs (dQ ps K R g) (eT ps K R g) wV k6 wW (av++[.tup [.int (nM g),.ak (aN dP (aw (dQ ps K R g) (eT ps K R g)))]]) (wd++[tZ (g,word ps K R g)]) (n+1) (m+1) (some (.d (enc g))) (J.nx g) Q1 (by omega) (by omega) (by simp;omega) (by simp;omega);refine⟨K',R',eC,go',cR,qQ,y3,?_⟩;rw[aG,aG,mf g1 bd,e2,oX,ng,aG,qi];rfl
theorem MN (h:Hs rs ks ps hd) {qs:List Pg}(hl:qs.length<=16) (so:cx [.lst (gs.map enc)]=some (.lst (qs.map enc))) :
 ∃ th ca go dr av,gj [.d (hs rs ks ps hd),.d (.lst (gs.map enc))] bx=.val (.m (ml bx.length)) (Bl bx th ca go dr av (aP ps qs)):=by
 obtain⟨K',R',eC,go',cR,qQ,y3,e⟩:=DP (P:=.lst (gs.map enc)) (bx:=bx) h qs [] [] [] [] [] [] [] 0 0 none Vz ⟨rfl,ao _,ao _,ao _⟩ (by omega) (by omega) (by simp;omega) (by simp;omega);refine⟨aw K' R',eC,go',cR,qQ,?_⟩;have b0:uZ [("there",1),("came",1),("gone",1),("doors",2),("at",0),("words",0)] [some (.d (hs rs ks ps hd)),some (.d (.lst (gs.map enc))),none,none] bx=.val (.m (ml bx.length)) (Bl bx (aw [] []) [] [] [] [] []):=by
  unfold uZ;rw[if_pos ⟨by decide,by decide⟩];rfl
 have it:bt (dN false cx (fc (dV 1) fg)) [some (.d (hs rs ks ps hd)),some (.d (.lst (gs.map enc))),some (.m (ml bx.length)),none] (Bl bx (aw [] []) [] [] [] [] [])=.val ((qs.map enc).map W.d) (Bl bx (aw [] []) [] [] [] [] []):=
  g9 (oN (r:=.lst (qs.map enc)) [.lst (gs.map enc)] (fr rfl rfl) so)
 have b:j9 [some (.d (hs rs ks ps hd)),some (.d (.lst (gs.map enc))),none,none] bx=.rt (.m (ml bx.length)) (Bl bx (aw K' R') eC go' cR qQ (aP ps qs)):=by
  refine(fm (fY b0)).trans ((fm ((mJ it).trans e)).trans ?_);rw[kL];rfl
 show nD bx.length (nC (aJ j9 [some (.d (hs rs ks ps hd)),some (.d (.lst (gs.map enc))),none,none] bx))=_;unfold aJ;rw[b];rfl
end
abbrev zg (ft:List W->List Bx->O W):aq:=(fC (d2 false fP (dV 3) (fS false [none,some 0,some 4] (bW (fc (dV 4) fg)) (fe 0) (dB (d2 false aF (fq ft 2 (fc (dV 1) (fc (dC (.int 3)) fg))) (dC (.int 0)))) (fK (fc (dV 0) (fc (dV 2) fg))))) (fe 3))
theorem FQ (h:n<bx.length) (k:Nat) (hk:k<=4) (p:Int):∃ is:List Nat,∃ q,is.Sublist (List.range k) /\
 aU (fe 0) (dB (d2 false aF (fq K1.fj 2 (fc (dV 1) (fc (dC (.int 3)) fg))) (dC (.int 0)))) (fK (fc (dV 0) (fc (dV 2) fg))) (fH 0 k) [none,xB n,xN k] (pt bx n p) []=.val (is.map λ(i:Nat)=>dP ((i:Int),(k:Int))) (pt bx n q):=by
 have z2:(2:Nat)<=sizeLine:=by decide
 have sz:=ba
 obtain⟨l',q,e,s⟩:=oR (g:=fe 0) (tf:=dB (d2 false aF (fq K1.fj 2 (fc (dV 1) (fc (dC (.int 3)) fg))) (dC (.int 0)))) (te:=fK (fc (dV 0) (fc (dV 2) fg))) (λe=>∃ w,e=[w,xB n,xN k]) (λw=>.tup [match w with|.d x=>x|_=>.non,.int k]) (bx:=bx) (n:=n) (fH 0 k) [none,xB n,xN k] p [] ⟨none,rfl⟩ (by
  intro w mw env p ⟨w0,je⟩;obtain⟨i,_,rfl⟩:=bV.mp mw;have t:=gO h p 3 (by decide) (by decide);exact⟨[xN (0+(i:Int)),xB n,xN k],decide (p % 3=0),p / 3,by simp[je],⟨_,rfl⟩,by simp[t,aF],by simp[z2]⟩) (by simp[fH];omega)
 unfold fH at s;obtain⟨is,s1,rfl⟩:=List.sublist_map_iff.mp s;refine⟨is,q,s1,?_⟩;rw[e,kL,bQ];congr 1;refine pJ λi _=>?_;simp[dP]
theorem JG {ft:List W->List Bx->O W}{k:Nat}{p q:Int}(x1 x2:Option W) {is:List Nat}(hk:k<=4) (y:ps.length+is.length<=sizeLine)
 (e:aU (fe 0) (dB (d2 false aF (fq ft 2 (fc (dV 1) (fc (dC (.int 3)) fg))) (dC (.int 0)))) (fK (fc (dV 0) (fc (dV 2) fg))) (fH 0 k) [none,xB n,xN k] (pt bx n p) []=.val (is.map λ(i:Nat)=>dP ((i:Int),(k:Int))) (pt bx n q)) :
 zg ft [xB n,x1,x2,xP ps,xN (k:Int)] (pt bx n p)=.nx [xB n,x1,x2,xP (ps++is.map λ(i:Nat)=>((i:Int),(k:Int))),xN (k:Int)] (pt bx n q):=by
 have rg:=mQ (env:=[xB n,x1,x2,xP ps,xN (k:Int)]) (bx:=pt bx n p) (k:=k) (m:=fc (dV 4) fg) (by simp) (by omega);have ad:fP (.lst (ps.map dP)) (.lst (is.map λ(i:Nat)=>dP ((i:Int),(k:Int))))=some (.lst ((ps++is.map λ(i:Nat)=>((i:Int),(k:Int))).map dP)):=by
  refine(if_pos (by rw[aR,aR];exact y)).trans ?_;rw[vA,bQ];rfl
 unfold zg;rw[lg,Mp,show dV 3 [xB n,x1,x2,xP ps,xN (k:Int)] (pt bx n p)=.val (.d (.lst (ps.map dP))) (pt bx n p) from rfl,fM,jk,rg,fM,
  show cq [none,some 0,some 4] [some (W.b n),x1,x2,some (W.d (.lst (ps.map dP))),some (W.d (.int (k:Int)))]=[none,xB n,xN k] from rfl,e,fM,gw,fM,iF,AD,AD,bD,bD,ad,gw,iF,gX,lQ]
 rfl
theorem JH (h:n<bx.length) (x1 x2:Option W):∀ (c k:Nat) (p:Int) (ps:List (Int×Int)) (w:Option W),k+c<=4->wO k ps ->
 ∃ p5 w' q,ck (fe 4) (zg K1.fj) ((List.range' k c).map λ(i:Nat)=>W.d (.int (0+(i:Int)))) [xB n,x1,x2,xP ps,w] (pt bx n p)=.nx [xB n,x1,x2,xP p5,w'] (pt bx n q) /\ wO (k+c) p5:=by
 intro c;induction c with
 |zero=>intro k p ps w _ s;exact⟨ps,w,p,rfl,s⟩
 | succ c ih =>
   intro k p ps w hk s;obtain⟨is,q,s1,e⟩:=FQ h k (by omega) p;have li:is.length<=k:=by have:=s1.length_le;simpa using this
   have s':=s.more s1 (by omega);obtain⟨p5,w',q',e2,s2⟩:=ih (k+1) q _ (xN (k:Int)) (by omega) s';refine⟨p5,w',q',?_,by rw[show k+(c+1)=k+1+c by omega];exact s2⟩;have sz:=ba;have pl:=s.l;have st:=JG x1 x2 (ps:=ps) (is:=is) (by omega) (by omega) e;have g1:fe 4 (W.d (.int (0+(k:Int)))) [xB n,x1,x2,xP ps,w] (pt bx n p)=some ([xB n,x1,x2,xP ps,xN (k:Int)],pt bx n p):=by
    rw[S3];rfl
   rw[List.range'_succ,aG,mf g1 st];exact e2
theorem JI (h:n<bx.length) (p:Int):∃ rs ks ps hd q,ik [.b n] (pt bx n p)=.val (.d (hs rs ks ps hd)) (pt bx n q) /\ Hs rs ks ps hd:=by
 obtain⟨rs,q1,hr,e1⟩:=Jl h p none none none none;obtain⟨ks,q2,hk,lk,e2⟩:=Jm h q1 (some (.d (.tup rs))) none none none;obtain⟨ps,w',q3,e3,s3⟩:=JH h (some (.d (.tup rs))) (some (.d (.tup ks))) ks.length 0 q2 [] none (by omega) ⟨.nil,(λp m=>nomatch m),ao _⟩;rw[Et]at s3;have pl:=s3.l;obtain⟨qs,pq,so,e4⟩:=MB ps (by omega);obtain⟨hd,q4,hh,e5⟩:=MC h q3 (some (.d (.tup rs))) (some (.d (.tup ks))) (xP ps) w';have hb:∀ p∈qs,0<=p.1 /\ p.1<p.2 /\ p.2<(ks.length:Int):=λp m=>s3.b p (pq.mem_iff.mp m);have lq:qs.length<=16:=by rw[pq.length_eq];omega
 simp only[rooms,aB]at hr;have n1:=lh hr.1;have pS:=hk;simp only[kinds,aB]at pS;have n2:=lh pS.1;refine⟨rs,ks,qs,hd,q4,AE ?_ (by rw[gk,gk];exact ao _),⟨by omega,by omega,by omega,by omega,λp m=>(hb p m).2.1,by omega,?_⟩⟩
 ·have sz:=ba;have z4:(4:Nat)<=sizeLine:=by omega
  have z0:(0:Nat)<=sizeLine:=by omega
  show jD [xB n,none,none,none,none] (pt bx n p)=_;have e0:fC (gI false fg) (fe 3) [xB n,some (.d (.tup rs)),some (.d (.tup ks)),none,none] (pt bx n q2)=.nx [xB n,some (.d (.tup rs)),some (.d (.tup ks)),xP ([]:List (Int×Int)),none] (pt bx n q2):=by
   exact fY (oO [] rfl z0)
  have rg:=mQ (env:=[xB n,some (.d (.tup rs)),some (.d (.tup ks)),xP ([]:List (Int×Int)),none]) (bx:=pt bx n q2) (k:=ks.length) (m:=fc (dN false bf (fc (dV 2) fg)) fg) (by simp[bf]) (by omega);have e6:jp (bW (fc (dN false bf (fc (dV 2) fg)) fg)) (fe 4) (zg K1.fj) [xB n,some (.d (.tup rs)),some (.d (.tup ks)),xP ([]:List (Int×Int)),none] (pt bx n q2)=.nx [xB n,some (.d (.tup rs)),some (.d (.tup ks)),xP ps,w'] (pt bx n q3):=by
   rw[G5,rg,gX];unfold fH;rw[List.range_eq_range'];exact e3
  unfold jD;have e7:dN false nE (fc (dN false cx (fc (dV 3) fg)) fg) [xB n,some (.d (.tup rs)),some (.d (.tup ks)),xP ps,w'] (pt bx n q3)=.val (.d (.tup (qs.map dP))) (pt bx n q3):=
   oN (r:=.tup (qs.map dP)) [.lst (qs.map dP)] (fr (oN (r:=.lst (qs.map dP)) [.lst (ps.map dP)] (fr rfl rfl) e4) rfl) rfl
  rw[fm e1,fm e2,fm e0,fm e6];exact ie (f8 [.tup rs,.tup ks,.tup (qs.map dP),hd] (fr rfl (fr rfl (fr e7 (fr e5 rfl)))) z4)
 ·have a:apart (ks.length:Int) (.tup (qs.map dP))=true:=by
   have b1:(qs.map dP).all (dO (ks.length:Int))=true:=by
    rw[sx,cT];intro p m;have:=hb p m;simp[dO,tl];omega
   have b2:incr qs=true:=DB so (pq.nodup_iff.mpr s3.nd);show (((qs.map dP).all (dO (ks.length:Int)))&&incr ((qs.map dP).filterMap toP))=true;rw[Du,b1,b2];rfl
  have Zv:rooms (.tup rs)=true:=by simp only[rooms,hr,vo]
  simp only[house,lenOf,Zv,hk,a,hh,vo]
theorem oY {α:Type}:∀ {l:List α}{c:Nat}(h:c<l.length),(l[c]::l.eraseIdx c).Perm l
 |a::l,0,_=>.refl _
 | a::l,c+1,h=>by
   have h':c<l.length:=Nat.lt_of_succ_lt_succ h;show (l[c]::a::l.eraseIdx c).Perm (a::l);exact(List.Perm.swap _ _ _).trans ((oY h').cons a)
abbrev Zw:DE W:=tO (dV 2) (fq K1.fj 2 (fc (dV 1) (fc (dN false bf (fc (dV 2) fg)) fg)))
theorem oZ {bx:List Bx}{n:Nat}(h:n<bx.length):∀ (l:List W) (left:List D) (w:Option W) (p:Int) (acc:List D),left.length=l.length->left.length<=1000->acc.length+l.length<=sizeLine ->
 ∃ ds q,aU (fe 0) fQ Zw l [w,xB n,xB bx.length] (pt (bx++[.lst left]) n p) acc=.val (acc++ds) (pt (bx++[.lst []]) n q) /\ ds.Perm left
 | [],left,w,p,acc,hl,_,_=>by
   cases left with
   |nil=>exact⟨[],p,by simp[aU],.refl _⟩
   |cons a b=>simp at hl
 | u::l,left,w,p,acc,hl,aa0,z=>by
   have h1:n<(bx++[Bx.lst left]).length:=by simp;omega
   have b0:=mR (p:=p) (x:=.lst left) h;have ln:dN false bf (fc (dV 2) fg) [some u,xB n,xB bx.length] (pt (bx++[.lst left]) n p)=.val (.d (.int left.length)) (pt (bx++[.lst left]) n p):=Pc rfl b0;have lp:0<left.length:=by rw[hl];simp
   obtain⟨r,q,t,r0,r1⟩:=lm h1 (env:=[some u,xB n,xB bx.length]) (i:=1) rfl ln (by omega) (by omega);obtain⟨c,rfl⟩:=xF r0;have hc:c<left.length:=by omega
   have b1:=mR (p:=q) (x:=.lst left) h;have pv:=MD (m:=dV 2) rfl b0 t b1 ⟨by omega,by omega⟩ (ME hc) (kK hc);rw[DC h]at pv;have z':acc.length<sizeLine:=by simp only[bb]at z;omega
   have el:(left.eraseIdx c).length=l.length:=by rw[List.length_eraseIdx_of_lt hc,hl];simp
   obtain⟨ds,q',e3,e4⟩:=oZ h l (left.eraseIdx c) (some u) q (acc++[left[c]]) el (by rw[el];simp at hl;omega) (by simp only[cG,bb,eJ]at z ⊢;omega);refine⟨left[c]::ds,q',?_,?_⟩
   ·have g0:fe 0 u [w,xB n,xB bx.length] (pt (bx++[.lst left]) n p)=some ([some u,xB n,xB bx.length],pt (bx++[.lst left]) n p):=rfl;simp only[aU,g0,AZ,oF,pv,if_pos z',e3];simp
   ·exact(e4.cons _).trans (oY hc)
theorem DQ (h:n<bx.length) (p:Int) (l:List D) (hl:l.length<=1000):∃ ds q,gp [.b n,.d (.lst l)] (pt bx n p)=.val (.d (.lst ds)) (pt bx n q) /\ ds.Perm l:=by
 have sz:=ba;obtain⟨ds,q,e1,e2⟩:=oZ h (l.map W.d) l none p [] (by simp) hl (by simp;omega);rw[kL]at e1;have s1:fC (dN true uM (fc (dV 1) fg)) (fe 2) [xB n,some (.d (.lst l)),none] (pt bx n p)=.nx [xB n,some (.d (.lst l)),xB bx.length] (pt (bx++[.lst l]) n p):=by
  have a:dN true uM (fc (dV 1) fg) [xB n,some (.d (.lst l)),none] (pt bx n p)=.val (.b bx.length) (pt (bx++[.lst l]) n p):=by
   rw[CG,fr (w:=.d (.lst l)) (l:=[]) rfl rfl,fM,<-jI h];have:=gk (bx:=bx) (n:=n) (p:=p);show O.val (W.b (pt bx n p).length) _=_;rw[this]
  exact fY a
 have M:jE [xB n,some (.d (.lst l)),none] (pt bx n p)=.rt (.d (.lst ds)) (pt (bx++[.lst []]) n q):=by
  unfold jE;exact(fm s1).trans (ie (lR (g9 rfl) rfl e1))
 refine⟨ds,q,(oT M).trans ?_,e2⟩;rw[gk,B7 h]
section
variable {rs ks : List D} 
theorem Po (h:env[i]?=some (some (.d (hs rs ks ps hd)))):dN false bf (fc (d2 false ah (dV i) (dC (.int 0))) fg) env B=.val (.d (.int (rs.length:Int))) B:=by
 have v:dV i env B=.val (.d (hs rs ks ps hd)) B:=by unfold dV;rw[h]
 exact oN (r:=.old (.int (rs.length:Int))) [.tup rs] (fr (fW (r:=.old (.tup rs)) v rfl rfl) rfl) (by simp[bf])
theorem Pp (h:env[i]?=some (some (.d (hs rs ks ps hd)))):dN false bf (fc (d2 false ah (dV i) (dC (.int 1))) fg) env B=.val (.d (.int (ks.length:Int))) B:=by
 have v:dV i env B=.val (.d (hs rs ks ps hd)) B:=by unfold dV;rw[h]
 exact oN (r:=.old (.int (ks.length:Int))) [.tup ks] (fr (fW (r:=.old (.tup ks)) v rfl rfl) rfl) (by simp[bf])
theorem MO (h:n<bx.length) (H:Hs rs ks ps hd) (p near:Int) (h0:0<near) (h1:near<=40):∃ g q,gD [.b n,.d (hs rs ks ps hd),.d (.int near)] (pt bx n p)=.val (.d (enc g)) (pt bx n q) /\ u5 rs.length ks.length g /\ nM g<near:=by
 have sz:=ba;have r1:=H.r1;have r5:=H.r5;have k1:=H.k1;have k4:=H.k4;obtain⟨a,q1,t1,a0,a1⟩:=lm h (p:=p) (p1:=p) (env:=[xB n,some (.d (hs rs ks ps hd)),xN near,none,none,none,none,none]) (i:=0) (m:=dV 2) (k:=near) rfl rfl h0 (by omega);obtain⟨v,q2,t2,mv⟩:=Jr h q1 (env:=[xB n,some (.d (hs rs ks ps hd)),xN near,none,none,none,none,none]) (i:=0) rfl [3,10] (ks:=fc (dC (.int 3)) (fc (dC (.int 10)) fg)) (λ_ _=>rfl) (k:=2) rfl (by decide) (by decide);have hv:0<v /\ v<=10:=by simp at mv;omega
 obtain⟨l,q3,t3,l0,l1⟩:=lm h (env:=[xB n,some (.d (hs rs ks ps hd)),xN near,none,none,none,none,none]) (i:=0) rfl t2 hv.1 (by omega);have s1:=Nl (i:=3) (j:=4) t1 t3;obtain⟨r,q4,t4,c0,c1⟩:=lm h (p:=q3) (p1:=q3) (env:=[xB n,some (.d (hs rs ks ps hd)),xN near,xN a,xN l,none,none,none]) (i:=0) (m:=dN false bf (fc (d2 false ah (dV 1) (dC (.int 0))) fg)) (k:=(rs.length:Int)) rfl (Po rfl) (by omega) (by omega);obtain⟨w,q5,t5,w0,w1⟩:=tX h q4 (env:=[xB n,some (.d (hs rs ks ps hd)),xN near,xN a,xN l,none,none,none]) (i:=0) rfl 5 (by decide) (by decide);have s2:=Nl (i:=5) (j:=6) t4 t5;have fin:∀ {g:Pg}{q:Int},oD [xB n,some (.d (hs rs ks ps hd)),xN near,none,none,none,none,none] (pt bx n p)=.rt (.d (enc g)) (pt bx n q)->gD [.b n,.d (hs rs ks ps hd),.d (.int near)] (pt bx n p)=.val (.d (enc g)) (pt bx n q):=λe=>AE e (by rw[gk,gk];exact ao _);have tz:dB (d2 false aF (dV 6) (dC (.int 0))) [xB n,some (.d (hs rs ks ps hd)),xN near,xN a,xN l,xN r,xN w,none] (pt bx n q5)=.val (decide (w=0)) (pt bx n q5):=gY (fW (r:=.old (.bl (decide (w=0)))) (x:=.int w) (y:=.int 0) rfl rfl (by simp[aF]));have tt:dB (d2 false dg (dV 6) (dC (.int 3))) [xB n,some (.d (hs rs ks ps hd)),xN near,xN a,xN l,xN r,xN w,none] (pt bx n q5)=.val (decide (w<3)) (pt bx n q5):=gY (fW (r:=.old (.bl (decide (w<3)))) (x:=.int w) (y:=.int 3) rfl rfl (by simp[dg]));by_cases VL:w=0
 ·rw[decide_eq_true VL]at tz;refine⟨.out a l,q5,fin ?_,⟨a0,l0,by omega⟩,a1⟩;exact(fm s1).trans ((fm s2).trans (gf ((io tz).trans (ie (f8 [.int a,.str "out",.int l] rfl (by simp;omega))))))
 ·rw[decide_eq_false VL]at tz;by_cases c2:w<3
  ·rw[decide_eq_true c2]at tt;refine⟨.to a l r,q5,fin ?_,⟨a0,⟨l0,by omega⟩,c0,c1⟩,a1⟩;exact(fm s1).trans ((fm s2).trans ((fm ((f9 tz).trans rfl)).trans (gf ((io tt).trans (ie (f8 [.int a,.str "to",.int l,.int r] rfl (by simp;omega)))))))
  ·rw[decide_eq_false c2]at tt;obtain⟨x,q6,t6,x0,x1⟩:=tX h q5 (env:=[xB n,some (.d (hs rs ks ps hd)),xN near,xN a,xN l,xN r,xN w,none]) (i:=0) rfl 9 (by decide) (by decide);obtain⟨y,q7,t7,y0,y1⟩:=tX h q6 (env:=[xB n,some (.d (hs rs ks ps hd)),xN near,xN a,xN l,xN r,xN w,none]) (i:=0) rfl 40 (by decide) (by decide);obtain⟨c,q8,t8,e0,e1⟩:=tX h q7 (env:=[xB n,some (.d (hs rs ks ps hd)),xN near,xN a,xN l,xN r,xN w,none]) (i:=0) rfl 4 (by decide) (by decide);obtain⟨d,ed,md⟩:=jS (l:=[D.int 0,.int x,.int y,.int 999]) e0 (by simpa using e1);obtain⟨z,rfl,z0,z1⟩:∃ z,d=.int z /\ 0<=z /\ z<=999:=by
    simp at md;rcases md with rfl|rfl|rfl|rfl
    ·exact⟨_,rfl,by omega,by omega⟩
    ·exact⟨_,rfl,by omega,by omega⟩
    ·exact⟨_,rfl,by omega,by omega⟩
    ·exact⟨_,rfl,by omega,by omega⟩
   have s5:fC (d2 false ah (gI false (fc (dC (.int 0)) (fc (fq K1.fj 2 (fc (dV 0) (fc (dC (.int 9)) fg))) (fc (fq K1.fj 2 (fc (dV 0) (fc (dC (.int 40)) fg))) (fc (dC (.int 999)) fg))))) (fq K1.fj 2 (fc (dV 0) (fc (dC (.int 4)) fg)))) (fe 7) [xB n,some (.d (hs rs ks ps hd)),xN near,xN a,xN l,xN r,xN w,none] (pt bx n q5)=.nx [xB n,some (.d (hs rs ks ps hd)),xN near,xN a,xN l,xN r,xN w,xN z] (pt bx n q8):=
    fY (fW (r:=.old (.int z)) (oO [.int 0,.int x,.int y,.int 999] (fr rfl (fr t6 (fr t7 (fr rfl rfl)))) (by simp;omega)) t8 (by simp only[ah,ed,kM]))
   obtain⟨k,q9,t9,f0,f1⟩:=lm h (p:=q8) (p1:=q8) (env:=[xB n,some (.d (hs rs ks ps hd)),xN near,xN a,xN l,xN r,xN w,xN z]) (i:=0) (m:=dN false bf (fc (d2 false ah (dV 1) (dC (.int 1))) fg)) (k:=(ks.length:Int)) rfl (Pp rfl) (by omega) (by omega);obtain⟨u,qa,ta,u0,u1⟩:=tX h q9 (env:=[xB n,some (.d (hs rs ks ps hd)),xN near,xN a,xN l,xN r,xN w,xN z]) (i:=0) rfl 100 (by decide) (by decide);refine⟨.aK a l k r z u,qa,fin ?_,⟨a0,⟨l0,by omega⟩,⟨f0,f1⟩,⟨c0,c1⟩,⟨z0,z1⟩,u0,by omega⟩,a1⟩;exact(fm s1).trans ((fm s2).trans ((fm ((f9 tz).trans rfl)).trans ((fm ((f9 tt).trans rfl)).trans ((fm s5).trans (ie (f8 [.int a,.str "in",.int l,.int k,.int r,.int z,.int u] (fr rfl (fr rfl (fr rfl (fr t9 (fr rfl (fr rfl (fr ta rfl))))))) (by simp;omega)))))))
end
noncomputable def cw:Pg->List Key
 |.aK h l k r p w=>[.inl h,.inr "in",.inl l,.inl k,.inl r,.inl p,.inl w]
 |.to h l r=>[.inl h,.inr "to",.inl l,.inl r]
 |.out h l=>[.inl h,.inr "out",.inl l]
def ke (g:Pg):List Key×D:=(cw g,.bl true)
theorem Bh (g:Pg):D.tup ((cw g).map yT)=enc g:=by cases g<;>rfl
theorem JJ (g:Pg):∃ l,enc g=.tup l /\ tP l=some (cw g):=by cases g<;>exact⟨_,rfl,rfl⟩
theorem JK {a b:Pg}(h:cw a=cw b):a=b:=Mz (by rw[<-Bh,<-Bh,h])
theorem MP (gs:List Pg):yU (gs.map ke)=gs.map enc:=by
 unfold yU;rw[bQ];exact pJ λg _=>Bh g
theorem Pq {g:Pg}:∃ g2:List Pg,sj (gs.map ke) (cw g) (.bl true)=g2.map ke /\ (gs.Nodup->g2.Nodup) /\ (∀ x∈g2,x∈gs \/ x=g) /\ g2.length<=gs.length+1:=by
 by_cases m:g∈gs
 ·refine⟨gs,?_,id,λx m=>.inl m,by omega⟩;unfold sj;rw[if_pos]
  ·rw[bQ];refine pJ λx _=>?_;show (if cw x=cw g then (cw x,D.bl true) else ke x)=ke x;split<;>rfl
  ·exact pL.mpr ⟨ke g,vB m,by simp[ke]⟩
 ·refine⟨gs++[g],?_,λnd=>?_,λx mx=>?_,by simp⟩
  ·unfold sj;rw[if_neg]
   ·simp[ke]
   ·intro z;obtain⟨x,mx,e⟩:=pL.mp z;obtain⟨y,my,rfl⟩:=bV.mp mx;exact m (JK (of_decide_eq_true e)▸my)
  ·rw[uk];exact⟨nd,by simp,λa ma b mb=>by cases nT.mp mb;exact λz=>m (z▸ma)⟩
  ·rcases List.mem_append.mp mx with z|z
   ·exact .inl z
   ·exact .inr (nT.mp z)
section
variable {rs ks : List D} 
abbrev gB:aq:=(fw (fC (fq K11.gD 3 (fc (dV 0) (fc (dV 1) (fc (dV 3) fg)))) (fe 6)) (fw (aI (kC (dB (d2 false aF (d2 false ah (dV 6) (dC (.int 1))) (dC (.str "in")))) (dB (d2 false qH (fq K1.fj 2 (fc (dV 0) (fc (dC (.int 3)) fg))) (dC (.int 0))))) (fC (d2 false fP (fK (fc (d2 false rL (d2 false ah (dV 6) (dC (.int 0))) (dC (.int 3))) fg)) (kY false (dV 6) (kX (dC (.int 1))) kW)) (fe 6)) aQ) (pE (dV 4) (dV 6) (dC (.bl true)))))
noncomputable abbrev gE (n b:Nat) (H:D) (near:Int) (x5 x6:Option W):aM:=[some (.b n),some (.d H),some (.d (.int 16)),some (.d (.int near)),some (.b b),x5,x6]
def Gd (nr nk:Nat) (near:Int) (g:Pg):Prop:=u5 nr nk g /\ nM g<near
theorem Sh (g:Pg) (near:Int) (h:env[6]?=some (some (.d (enc g)))):dB (d2 false aF (d2 false ah (dV 6) (dC (.int 1))) (dC (.str "in"))) env B=.val (decide (aY g="in")) B:=by
 refine gY (fW (r:=.old (.bl (decide (aY g="in")))) (x:=.str (aY g)) (y:=.str "in") ?_ rfl (eq_str _ _));cases g<;>simp[h,enc,cC,a9,dD,ah,a5,bA,aY]
theorem MQ {h' l k r p w:Int}{near:Int}(x5:Option W) {H:D}{b:Nat}:fC (d2 false fP (fK (fc (d2 false rL (d2 false ah (dV 6) (dC (.int 0))) (dC (.int 3))) fg)) (kY false (dV 6) (kX (dC (.int 1))) kW)) (fe 6) (gE n b H near x5 (some (.d (enc (.aK h' l k r p w))))) B=.nx (gE n b H near x5 (some (.d (enc (.aK (h' / 3) l k r p w))))) B:=by
 have z:sizeLine=16777216:=ba;have c:rm h' 3:=by unfold rm;omega
 simp[enc,cC,a9,dD,ah,a5,bA,rL,c,ph,DL.cutD,HT.aA,fP,z]
theorem Si (h:n<bx.length) (H:Hs rs ks ps hd) (near:Int) (h0:0<near) (h1:near<=40) (nd:gs.Nodup) (ok:∀ g∈gs,Gd rs.length ks.length near g) (hl:gs.length<=100) (q:Int) (x5 x6:Option W) :
 ∃ (g2:List Pg) (q':Int) (y6:Option W),gB (gE n bx.length (hs rs ks ps hd) near x5 x6) (pt (bx++[.dT (gs.map ke)]) n q)=.nx (gE n bx.length (hs rs ks ps hd) near x5 y6) (pt (bx++[.dT (g2.map ke)]) n q') /\ g2.Nodup /\ (∀ g∈g2,Gd rs.length ks.length near g) /\ g2.length<=gs.length+1:=by
 have sz:=ba;have hn:n<(bx++[Bx.dT (gs.map ke)]).length:=by simp;omega
 obtain⟨g,q1,e,og,hg⟩:=MO hn H q near h0 h1;have s1:fC (fq K11.gD 3 (fc (dV 0) (fc (dV 1) (fc (dV 3) fg)))) (fe 6) (gE n bx.length (hs rs ks ps hd) near x5 x6) (pt (bx++[.dT (gs.map ke)]) n q)=.nx (gE n bx.length (hs rs ks ps hd) near x5 (some (.d (enc g)))) (pt (bx++[.dT (gs.map ke)]) n q1):=
  fY (fN (l:=[.b n,.d (hs rs ks ps hd),.d (.int near)]) rfl rfl e)
 have pu:∀ (g:Pg) (q2:Int),Gd rs.length ks.length near g->∃ g2:List Pg,pE (dV 4) (dV 6) (dC (.bl true)) (gE n bx.length (hs rs ks ps hd) near x5 (some (.d (enc g)))) (pt (bx++[.dT (gs.map ke)]) n q2)=.nx (gE n bx.length (hs rs ks ps hd) near x5 (some (.d (enc g)))) (pt (bx++[.dT (g2.map ke)]) n q2) /\ g2.Nodup /\ (∀ g∈g2,Gd rs.length ks.length near g) /\ g2.length<=gs.length+1:=λg q2 og=>by
  obtain⟨g2,e2,n2,m2,l2⟩:=Pq (gs:=gs) (g:=g);obtain⟨l,el,kl⟩:=JJ g;refine⟨g2,?_,n2 nd,λx mx=>(m2 x mx).elim (ok x) (λz=>z▸og),l2⟩;have b1:=mR (p:=q2) (x:=.dT (gs.map ke)) h;unfold pE;have v6:dV 6 (gE n bx.length (hs rs ks ps hd) near x5 (some (.d (enc g)))) (pt (bx++[.dT (gs.map ke)]) n q2)=.val (.d (.tup l)) (pt (bx++[.dT (gs.map ke)]) n q2):=by rw[<-el];rfl
  have v4:dV 4 (gE n bx.length (hs rs ks ps hd) near x5 (some (.d (enc g)))) (pt (bx++[.dT (gs.map ke)]) n q2)=.val (.b bx.length) (pt (bx++[.dT (gs.map ke)]) n q2):=rfl;rw[Rr,gX,v4,gX,v6,gX];simp only[b1,kl];rw[if_pos (by simp;omega),e2,DC h]
 have tg:=Sh g near (env:=gE n bx.length (hs rs ks ps hd) near x5 (some (.d (enc g)))) (B:=pt (bx++[.dT (gs.map ke)]) n q1) rfl;by_cases c:aY g="in"
 ·rw[decide_eq_true c]at tg;obtain⟨r,q2,t,r0,r1⟩:=tX hn q1 (env:=gE n bx.length (hs rs ks ps hd) near x5 (some (.d (enc g)))) (i:=0) rfl 3 (by decide) (by decide);have tt:=oQ tg (gY (fW (g:=qH) (r:=.old (.bl (decide (0<r)))) (x:=.int r) (y:=.int 0) (m:=fq K1.fj 2 (fc (dV 0) (fc (dC (.int 3)) fg))) (k:=dC (.int 0)) t rfl (by simp[qH])));by_cases d:0<r
  ·rw[decide_eq_true d]at tt;cases g with
   | aK h' l k r' p w =>
     obtain⟨o1,o2⟩:=og;have yu:h'<near:=hg;obtain⟨g2,e2,n2,m2,l2⟩:=pu (.aK (h' / 3) l k r' p w) q2 ⟨⟨by omega,o2⟩,by show h' / 3<near;omega⟩;exact⟨g2,q2,_,(fm s1).trans ((fm ((io tt).trans (MQ x5))).trans e2),n2,m2,l2⟩
   |to _ _ _=>exact absurd c (by show ¬ ("to":Str)="in";rw[CO];exact id)
   |out _ _=>exact absurd c (by show ¬ ("out":Str)="in";rw[FO];exact id)
  ·rw[decide_eq_false d]at tt;obtain⟨g2,e2,n2,m2,l2⟩:=pu g q2 ⟨og,hg⟩;exact⟨g2,q2,_,(fm s1).trans ((fm ((f9 tt).trans rfl)).trans e2),n2,m2,l2⟩
 ·rw[decide_eq_false c]at tg;obtain⟨g2,e2,n2,m2,l2⟩:=pu g q1 ⟨og,hg⟩;exact⟨g2,q1,_,(fm s1).trans ((fm ((f9 (oP tg)).trans rfl)).trans e2),n2,m2,l2⟩
theorem JL (h:n<bx.length) (H:Hs rs ks ps hd) (p near:Int) (h0:0<near) (h1:near<=40):∃ (gs:List Pg) (q:Int),gM [.b n,.d (hs rs ks ps hd),.d (.int 16),.d (.int near)] (pt bx n p)=.val (.d (.lst (gs.map enc))) (pt bx n q) /\ gs.Nodup /\ (∀ g∈gs,Gd rs.length ks.length near g) /\ gs.length<=16:=by
 have sz:=ba;have hn:n<(bx++[Bx.dT []]).length:=by simp;omega
 have s1:fC uW (fe 4) [xB n,some (.d (hs rs ks ps hd)),xN 16,xN near,none,none,none] (pt bx n p)=.nx (gE n bx.length (hs rs ks ps hd) near none none) (pt (bx++[.dT (([]:List Pg).map ke)]) n p):=by
  have:uW [xB n,some (.d (hs rs ks ps hd)),xN 16,xN near,none,none,none] (pt bx n p)=.val (.b bx.length) (pt (bx++[.dT []]) n p):=by
   unfold uW;rw[gk,jI h]
  exact fY this
 obtain⟨c,q1,t,c0,c1⟩:=lm hn (p:=p) (p1:=p) (env:=gE n bx.length (hs rs ks ps hd) near none none) (i:=0) (m:=d2 false fP (dV 2) (dC (.int 1))) (k:=17) rfl (fW (r:=.old (.int 17)) (x:=.int 16) (y:=.int 1) rfl rfl (by simp[fP])) (by decide) (by decide);obtain⟨c,rfl⟩:=xF c0;have rg:bW (fc (fq K1.fj 2 (fc (dV 0) (fc (d2 false fP (dV 2) (dC (.int 1))) fg))) fg) (gE n bx.length (hs rs ks ps hd) near none none) (pt (bx++[.dT []]) n p)=.val (fH 0 c) (pt (bx++[.dT []]) n q1):=by
  rw[lj (fr t rfl) (by omega),rf]
 obtain⟨aC,bx',e,gs,q,w5,w6,rfl,rfl,nd,ok,l⟩:=jR (g:=fe 5) (body:=gB) (λi env b=>∃ (gs:List Pg) (q:Int) (w5 w6:Option W),env=gE n bx.length (hs rs ks ps hd) near w5 w6 /\ b=pt (bx++[.dT (gs.map ke)]) n q /\ gs.Nodup /\ (∀ g∈gs,Gd rs.length ks.length near g) /\ gs.length<=i) (fH 0 c) 0 (gE n bx.length (hs rs ks ps hd) near none none) (pt (bx++[.dT (([]:List Pg).map ke)]) n q1) ⟨[],q1,none,none,rfl,rfl,.nil,(λg m=>nomatch m),ao _⟩ (by
  rintro i w env b hw ⟨gs,q,w5,w6,rfl,rfl,nd,ok,l⟩;obtain⟨_,hi⟩:=CM hw;obtain⟨g2,q',y6,e2,n2,m2,l2⟩:=Si h H near h0 h1 nd ok (by omega) q (some w) w6;exact⟨gE n bx.length (hs rs ks ps hd) near (some w) w6,_,gE n bx.length (hs rs ks ps hd) near (some w) y6,_,rfl,e2,g2,q',_,y6,rfl,rfl,n2,m2,by omega⟩)
 have lr:(fH 0 c).length=c:=by simp[fH]
 rw[lr]at l;obtain⟨ds,q2,e3,pm⟩:=DQ (bx:=bx++[.dT (gs.map ke)]) (n:=n) (by simp;omega) q (gs.map enc) (by simp;omega);obtain⟨g2,rfl,pg⟩:=lN pm rfl;have lt:wK false (dV 4) (gE n bx.length (hs rs ks ps hd) near w5 w6) (pt (bx++[.dT (gs.map ke)]) n q)=.val (.d (.lst (gs.map enc))) (pt (bx++[.dT (gs.map ke)]) n q):=by
  have b1:=mR (p:=q) (x:=.dT (gs.map ke)) h;have v4:dV 4 (gE n bx.length (hs rs ks ps hd) near w5 w6) (pt (bx++[.dT (gs.map ke)]) n q)=.val (.b bx.length) (pt (bx++[.dT (gs.map ke)]) n q):=rfl;unfold wK;rw[v4,fM];simp only[b1,MP];rfl
 refine⟨g2,q2,?_,pg.nodup_iff.mpr nd,λg m=>ok g (pg.mem_iff.mp m),by rw[pg.length_eq];omega⟩;have M:mG [xB n,some (.d (hs rs ks ps hd)),xN 16,xN near,none,none,none] (pt bx n p)=.rt (.d (.lst (g2.map enc))) (pt (bx++[.dT (gs.map ke)]) n q2):=
  (fm s1).trans ((fm ((mJ rg).trans e)).trans (ie (fN (l:=[.b n,.d (.lst (gs.map enc))]) (fr rfl (fr lt rfl)) rfl e3)))
 refine(oT (ws:=[.b n,.d (hs rs ks ps hd),.d (.int 16),.d (.int near)]) M).trans ?_;rw[gk,B7 h]
end
noncomputable def sh (c:Int):Pg->Pg
 |.aK h l k r p w=>.aK (h+c) l k r p w
 |.to h l r=>.to (h+c) l r
 |.out h l=>.out (h+c) l
theorem Pr {c:Int}{a b:Pg}(h:sh c a=sh c b):a=b:=by
 cases a<;>cases b<;>simp[sh]at h<;>simp_all
def Lt (nr nk:Nat) (g:Pg):Prop:=u5 nr nk g /\ (nM g).natAbs<=10 ^ 40
theorem RM {nr nk:Nat}{c near:Int}{g:Pg}(h:Gd nr nk near g) (c0:0<=c) (c1:c<=10 ^ 39) (hn:near<=40):Lt nr nk (sh c g):=by
 obtain⟨o,t⟩:=h;cases g with
 | aK h l k r p w =>
   obtain⟨o1,o2⟩:=o;have t':h<near:=t;exact⟨⟨by omega,o2⟩,by show (h+c).natAbs<=_;omega⟩
 | to h l r =>
   obtain⟨o1,o2⟩:=o;have t':h<near:=t;exact⟨⟨by omega,o2⟩,by show (h+c).natAbs<=_;omega⟩
 | out h l =>
   obtain⟨o1,o2⟩:=o;have t':h<near:=t;exact⟨⟨by omega,o2⟩,by show (h+c).natAbs<=_;omega⟩
theorem RN (c:Int) (g:Pg) (B:List Bx):d2 false fP (fK (fc (d2 false fP (d2 false ah (dV 0) (dC (.int 0))) (dV 1)) fg)) (kY false (dV 0) (kX (dC (.int 1))) kW) [some (.d (enc g)),xN c] B=.val (.d (enc (sh c g))) B:=by
 have z:sizeLine=16777216:=ba;cases g<;>simp[enc,cC,a9,dD,ah,a5,bA,ph,DL.cutD,HT.aA,fP,z,sh]
theorem Ps (h:n<bx.length) (p:Int) (hl:gs.length<=100):∃ c q,K2.gW [.b n,.d (.tup []),.d (.lst (gs.map enc))] (pt bx n p)=.val (.d (.tup [.tup [],.lst ((gs.map (sh c)).map enc),.int c])) (pt bx n q) /\ 0<=c /\ c<=10 ^ 39:=by
 have sz:=ba;obtain⟨r4,q,t4,k0,k1⟩:=DD h p 4 (by decide) (by decide);obtain⟨y,ey,my⟩:=jS (l:=[D.int 0,.int 0,.int (10 ^ 6),.int (10 ^ 39)]) k0 (by show _<(4:Int);exact k1);obtain⟨c,rfl,c0,c1⟩:∃ c:Int,y=.int c /\ 0<=c /\ c<=10 ^ 39:=by
  simp only[bG,qk,or_false]at my;rcases my with rfl|rfl|rfl|rfl
  ·exact⟨_,rfl,by decide,by decide⟩
  ·exact⟨_,rfl,by decide,by decide⟩
  ·exact⟨_,rfl,by decide,by decide⟩
  ·exact⟨_,rfl,by decide,by decide⟩
 have p6:∀ e b,d2 false e9 (dC (.int 10)) (dC (.int 6)) e b=.val (.d (.int (10 ^ 6))) b:=λe b=>fW (r:=.old _) rfl rfl (Jp (by decide));have Zx:∀ e b,d2 false e9 (dC (.int 10)) (dC (.int 39)) e b=.val (.d (.int (10 ^ 39))) b:=λe b=>fW (r:=.old _) rfl rfl (Jp (by decide));have e1:fC (d2 false ah (gI false (fc (dC (.int 0)) (fc (dC (.int 0)) (fc (d2 false e9 (dC (.int 10)) (dC (.int 6))) (fc (d2 false e9 (dC (.int 10)) (dC (.int 39))) fg))))) (fq K1.fj 2 (fc (dV 0) (fc (dC (.int 4)) fg)))) (fe 3) [xB n,some (.d (.tup [])),some (.d (.lst (gs.map enc))),none,none] (pt bx n p)=.nx [xB n,some (.d (.tup [])),some (.d (.lst (gs.map enc))),xN c,none] (pt bx n q):=by
  generalize pt bx n p=B at t4 ⊢;generalize pt bx n q=B' at t4 ⊢;have a1:gI false (fc (dC (.int 0)) (fc (dC (.int 0)) (fc (d2 false e9 (dC (.int 10)) (dC (.int 6))) (fc (d2 false e9 (dC (.int 10)) (dC (.int 39))) fg)))) [xB n,some (.d (.tup [])),some (.d (.lst (gs.map enc))),none,none] B=.val (.d (.lst [.int 0,.int 0,.int (10 ^ 6),.int (10 ^ 39)])) B:=oO [.int 0,.int 0,.int (10 ^ 6),.int (10 ^ 39)] (fr rfl (fr rfl (fr (p6 _ _) (fr (Zx _ _) rfl)))) (show (4:Nat)<=sizeLine by omega);have a2:fq K1.fj 2 (fc (dV 0) (fc (dC (.int 4)) fg)) [xB n,some (.d (.tup [])),some (.d (.lst (gs.map enc))),none,none] B=.val (.d (.int r4)) B':=fN (fr rfl (fr rfl rfl)) rfl t4;exact fY (fW (r:=.old (.int c)) a1 a2 (by simp only[ah,ey,kM]))
 refine⟨c,q,?_,c0,c1⟩;have c2:fS false [none,some 3] (bt (dV 2)) (fe 0) fQ (d2 false fP (fK (fc (d2 false fP (d2 false ah (dV 0) (dC (.int 0))) (dV 1)) fg)) (kY false (dV 0) (kX (dC (.int 1))) kW)) [xB n,some (.d (.tup [])),some (.d (.lst (gs.map enc))),xN c,some (.d (.tup []))] (pt bx n q)=.val (.d (.lst (gs.map λg=>enc (sh c g)))) (pt bx n q):=
  Vu (enc:=enc) (r:=[xN c]) _ (g9 rfl) rfl (by omega) λg _=>RN c g _
 have M:K2.AB [xB n,some (.d (.tup [])),some (.d (.lst (gs.map enc))),none,none] (pt bx n p)=.rt (.d (.tup [.tup [],.lst ((gs.map (sh c)).map enc),.int c])) (pt bx n q):=by
  refine(fm e1).trans ?_;refine(fm (fY (oN (r:=.tup []) [.lst []] (fr (lR (Mx (ds:=[]) rfl) rfl rfl) rfl) rfl))).trans ?_;rw[bQ];exact ie (f8 [.tup [],.lst (gs.map λg=>enc (sh c g)),.int c] (fr rfl (fr c2 (fr rfl rfl))) (show (3:Nat)<=sizeLine by omega))
 exact AE M (by rw[gk,gk];exact ao _)
theorem MR {B nr nk:Nat}(hB:999<=B) (r5:nr<=5) (k4:nk<=4) {g:Pg}(o:u5 nr nk g) (t:(nM g).natAbs<=B):Sm B 1 14000 (enc g):=by
 have li:(reprText ("in":Str)).length<=20:=by decide +kernel
 have lt:(reprText ("to":Str)).length<=20:=by decide +kernel
 have lo:(reprText ("out":Str)).length<=20:=by decide +kernel
 have si:=Sm.str (B:=B) (a:=0) (x:="in");have st:=Sm.str (B:=B) (a:=0) (x:="to");have so:=Sm.str (B:=B) (a:=0) (x:="out");have it:∀ {i:Int},i.natAbs<=B->Sm B 0 1921 (.int i):=λh=>Sm.int h;generalize (reprText ("in":Str)).length=L1 at li si;generalize (reprText ("to":Str)).length=L2 at lt st;generalize (reprText ("out":Str)).length=L3 at lo so;cases g with
 | aK h l k r p w =>
   obtain⟨o1,o2,o3,o4,o5,o6⟩:=o;have z:=Sm.tup (bu.cons (it t) (bu.cons si (bu.cons (it (i:=l) (by omega)) (bu.cons (it (i:=k) (by omega)) (bu.cons (it (i:=r) (by omega)) (bu.cons (it (i:=p) (by omega)) (bu.cons (it (i:=w) (by omega)) bu.nil)))))));exact z.mono (ao _) (by omega)
 | to h l r =>
   obtain⟨o1,o2,o3⟩:=o;have z:=Sm.tup (bu.cons (it t) (bu.cons st (bu.cons (it (i:=l) (by omega)) (bu.cons (it (i:=r) (by omega)) bu.nil))));exact z.mono (ao _) (by omega)
 | out h l =>
   obtain⟨o1,o2⟩:=o;have z:=Sm.tup (bu.cons (it t) (bu.cons so (bu.cons (it (i:=l) (by omega)) bu.nil)));exact z.mono (ao _) (by omega)
theorem JM {nr nk:Nat}(r5:nr<=5) (k4:nk<=4) {g:Pg}(h:Lt nr nk g):Sm (10 ^ 40) 1 14000 (enc g):=MR (by decide) r5 k4 h.1 h.2
theorem AI {nr nk:Nat}(r5:nr<=5) (k4:nk<=4) (h:∀ g∈gs,Lt nr nk g) (hl:gs.length<=16):rQ (.lst (gs.map enc))=true:=by
 have sz:=ba;have s:=bu.of (B:=10 ^ 40) (a:=1) (b:=14000) (l:=gs.map enc) λd m=>by
  obtain⟨g,mg,rfl⟩:=bV.mp m;exact JM r5 k4 (h g mg)
 rw[aR]at s;exact oM (Sm.lst s) (by decide) (by decide) (by omega)
theorem JN (ps K R:Al) (g:Pg):(reprText (word ps K R g)).length<=20:=by
 have a:(reprText ("there":Str)).length<=20:=by decide +kernel
 have b:(reprText ("apart":Str)).length<=20:=by decide +kernel
 have c:(reprText ("takes":Str)).length<=20:=by decide +kernel
 have d:(reprText ("none":Str)).length<=20:=by decide +kernel
 have e:(reprText ("same":Str)).length<=20:=by decide +kernel
 cases g with
 | aK h l k r p w =>
   simp only[word];split
   ·exact a
   ·split
    ·exact b
    ·exact c
 | to h l r =>
   simp only[word];split
   ·exact d
   ·split
    ·exact e
    ·split
     ·exact b
     ·exact c
 | out h l =>
   simp only[word];split
   ·exact d
   ·exact c
theorem AJ (ps:Al):∀ (gs:List Pg) (K R:Al),∀ p∈gs.zip (wordsOf ps K R gs),p.1∈gs /\ (reprText p.2).length<=20
 |[],_,_=>λp m=>by simp[wordsOf]at m
 | g::gs,K,R=>λp m=>by
   rw[oX,ng]at m;rcases bG.mp m with rfl|m
   ·exact⟨bL ..,JN ps K R g⟩
   ·have:=AJ ps gs _ _ p m;exact⟨bC _ this.1,this.2⟩
theorem DR {ps:Al}{nr nk:Nat}(r5:nr<=5) (k4:nk<=4) {qs:List Pg}(h:∀ g∈qs,Lt nr nk g) (hl:qs.length<=16):rQ (.lst (aP ps qs))=true:=by
 have sz:=ba;have s:=bu.of (B:=10 ^ 40) (a:=2) (b:=14100) (l:=aP ps qs) λd m=>by
  obtain⟨p,mp,rfl⟩:=bV.mp m;obtain⟨m1,l1⟩:=AJ ps qs [] [] p mp;have z:=Sm.tup (bu.cons (JM r5 k4 (h p.1 m1)) (bu.cons (Sm.str (x:=p.2)) bu.nil));exact z.mono (ao _) (by omega)
 have dJ:(aP ps qs).length<=16:=by
  unfold aP;rw[aR,EG];omega
 have:(aP ps qs).length*(14100+2)<=16*14102:=Nat.mul_le_mul dJ (ao _);exact oM (Sm.lst s) (by decide) (by decide) (by omega)
abbrev I0:aq:=(fw (fC (fq K11.ic 2 (fc (dV 3) (fc (dV 10) fg))) (fe 13)) (fw (aI (eY (dB (d2 false bY (dM (dV 13)) (dV 9))) (dB (d2 false bY (dM (dV 10)) (dV 11)))) (fL (dC (.bl false))) aQ) (gJ (dY (dV 13) (fK (fc (fK (fc (dC (.int 0)) (fc (dC (.str "out")) (fc (dC (.int 0)) fg)))) (fc (dC (.str "takes")) fg)))))))
abbrev Ka:aq:=(fw (fC (dM (dV 10)) (fe 11)) (jp (bW (fc (dC (.int 2)) fg)) (fe 12) I0))
abbrev Kb:aq:=(fw (fC (fq K11.gM 4 (fc (dV 2) (fc (dV 3) (fc (dC (.int 16)) (fc (d2 false ah (gI false (fc (dC (.int 6)) (fc (dC (.int 40)) fg))) (fq K1.fj 2 (fc (dV 2) (fc (dC (.int 2)) fg)))) fg))))) (fe 5)) (fw (fC (fq K2.gW 3 (fc (dV 2) (fc (fK fg) (fc (dV 5) fg)))) (gq 3 (fB (fe 6) (fB (fe 7) (fB (fe 8) gz))))) (fw (fC (dM (bB (fq K11.gj 2 (fc (dV 3) (fc (dV 7) fg))) "words")) (fe 9)) (jp (bt (gI false (fc (dV 7) (fc (sZ false (dV 7)) (fc (fq K11.gp 2 (fc (dV 2) (fc (dV 7) fg))) fg))))) (fe 10) Ka))))
abbrev VM:aq:=(fw (fC (fq K1.jg 1 (fc (fq K1.gL 2 (fc (dV 0) (fc (dV 1) fg))) fg)) (fe 2)) (fw (fC (fq K11.ik 1 (fc (dV 2) fg)) (fe 3)) (jp (bW (fc (dC (.int 4)) fg)) (fe 4) Kb)))
theorem VN {B0:List Bx}(h:m env B0=.val (.b j) B) (g:B[j]?=some (.lst l)) (c:rQ (.lst l)=true):dM m env B0=.val (.d (.str (toPy (.lst l)).shown)) B:=by
 unfold dM;have r:br B (.b j)=some (.lst l):=by simp only[br,g]
 rw[h,fM,r];exact if_pos c
theorem RP (j:Nat) (hj:j<=100) (env:aM) (b:List Bx):bW (fc (dC (.int (j:Nat))) fg) env b=.val (fH 0 j) b:=lj (j:=j) (bx1:=b) (by simp) (by omega)
section
variable {rs ks : List D} 
structure Tr (rs ks:List D) (ps:List (Int×Int)) (hd:D) (qs:List Pg):Prop where
 H:Hs rs ks ps hd
 l:qs.length<=16
 t:∀ g∈qs,Lt rs.length ks.length g
def Kc (rs ks:List D) (qs g2:List Pg):Prop:=Gs rs.length ks.length g2 /\ cx [.lst (g2.map enc)]=some (.lst (qs.map enc)) /\ ∀ g∈g2,Lt rs.length ks.length g
abbrev bF (d:D):D:=.str (toPy d).shown
theorem Pt {qs g2:List Pg}(T:Tr rs ks ps hd qs) (R:Kc rs ks qs g2) (x0 x1 x2 x4 x5 x6 x7 x8 bj bK:Option W) (B:List Bx) :
 ∃ z g,I0 [x0,x1,x2,some (.d (hs rs ks ps hd)),x4,x5,x6,x7,x8,some (.d (bF (.lst (aP ps qs)))),some (.d (.lst (g2.map enc))),some (.d (bF (.lst (g2.map enc)))),bj,bK] B=.nx [x0,x1,x2,some (.d (hs rs ks ps hd)),x4,x5,x6,x7,x8,some (.d (bF (.lst (aP ps qs)))),some (.d (.lst (g2.map enc))),some (.d (bF (.lst (g2.map enc)))),bj,z] (B++[g]):=by
 have sz:=ba;obtain⟨G,so,lt⟩:=R;have r5:=T.H.r5;have k4:=T.H.k4;have oc:=CS (bx:=B) T.H G T.l so;have s1:fC (fq K11.ic 2 (fc (dV 3) (fc (dV 10) fg))) (fe 13) [x0,x1,x2,some (.d (hs rs ks ps hd)),x4,x5,x6,x7,x8,some (.d (bF (.lst (aP ps qs)))),some (.d (.lst (g2.map enc))),some (.d (bF (.lst (g2.map enc)))),bj,bK] B=.nx [x0,x1,x2,some (.d (hs rs ks ps hd)),x4,x5,x6,x7,x8,some (.d (bF (.lst (aP ps qs)))),some (.d (.lst (g2.map enc))),some (.d (bF (.lst (g2.map enc)))),bj,xB B.length] (B++[.lst (aP ps qs)]):=
  fY (fN (l:=[.d (hs rs ks ps hd),.d (.lst (g2.map enc))]) rfl rfl oc)
 have b0:(B++[Bx.lst (aP ps qs)])[B.length]?=some (.lst (aP ps qs)):=by simp
 have t1:dB (d2 false bY (dM (dV 13)) (dV 9)) [x0,x1,x2,some (.d (hs rs ks ps hd)),x4,x5,x6,x7,x8,some (.d (bF (.lst (aP ps qs)))),some (.d (.lst (g2.map enc))),some (.d (bF (.lst (g2.map enc)))),bj,xB B.length] (B++[.lst (aP ps qs)])=.val false (B++[.lst (aP ps qs)]):=by
  refine gY (fW (r:=.old (.bl false)) (x:=bF (.lst (aP ps qs))) (y:=bF (.lst (aP ps qs))) (VN rfl b0 (DR r5 k4 T.t T.l)) rfl ?_);rw[ne_str,decide_eq_true rfl];rfl
 have t2:dB (d2 false bY (dM (dV 10)) (dV 11)) [x0,x1,x2,some (.d (hs rs ks ps hd)),x4,x5,x6,x7,x8,some (.d (bF (.lst (aP ps qs)))),some (.d (.lst (g2.map enc))),some (.d (bF (.lst (g2.map enc)))),bj,xB B.length] (B++[.lst (aP ps qs)])=.val false (B++[.lst (aP ps qs)]):=by
  refine gY (fW (r:=.old (.bl false)) (x:=bF (.lst (g2.map enc))) (y:=bF (.lst (g2.map enc))) (Dx rfl (AI r5 k4 lt G.l)) rfl ?_);rw[ne_str,decide_eq_true rfl];rfl
 have ol:(aP ps qs).length<=16:=by
  have:=T.l;unfold aP;rw[aR,EG];omega
 have a:=AG (m:=dV 13) (k:=fK (fc (fK (fc (dC (.int 0)) (fc (dC (.str "out")) (fc (dC (.int 0)) fg)))) (fc (dC (.str "takes")) fg))) (env:=[x0,x1,x2,some (.d (hs rs ks ps hd)),x4,x5,x6,x7,x8,some (.d (bF (.lst (aP ps qs)))),some (.d (.lst (g2.map enc))),some (.d (bF (.lst (g2.map enc)))),bj,xB B.length]) (bx:=B++[.lst (aP ps qs)]) (i:=B.length) (d:=.tup [.tup [.int 0,.str "out",.int 0],.str "takes"]) rfl b0
  (f8 [.tup [.int 0,.str "out",.int 0],.str "takes"] (fr (f8 [.int 0,.str "out",.int 0] rfl (show (3:Nat)<=sizeLine by omega)) (fr rfl rfl)) (show (2:Nat)<=sizeLine by omega)) b0 (by omega)
 rw[show (B++[Bx.lst (aP ps qs)]).set B.length (.lst (aP ps qs++[.tup [.tup [.int 0,.str "out",.int 0],.str "takes"]]))=B++[.lst (aP ps qs++[.tup [.tup [.int 0,.str "out",.int 0],.str "takes"]])] by simp]at a;exact⟨_,_,(fm s1).trans ((fm ((f9 (Ni t1 t2)).trans rfl)).trans (jl a))⟩
theorem Pu {qs g2:List Pg}(T:Tr rs ks ps hd qs) (R:Kc rs ks qs g2) (x0 x1 x2 x4 x5 x6 x7 x8 b9 bj bK:Option W) (B:List Bx) :
 ∃ nN eD dE g,Ka [x0,x1,x2,some (.d (hs rs ks ps hd)),x4,x5,x6,x7,x8,some (.d (bF (.lst (aP ps qs)))),some (.d (.lst (g2.map enc))),b9,bj,bK] B=.nx [x0,x1,x2,some (.d (hs rs ks ps hd)),x4,x5,x6,x7,x8,some (.d (bF (.lst (aP ps qs)))),some (.d (.lst (g2.map enc))),nN,eD,dE] (B++g):=by
 have s1:fC (dM (dV 10)) (fe 11) [x0,x1,x2,some (.d (hs rs ks ps hd)),x4,x5,x6,x7,x8,some (.d (bF (.lst (aP ps qs)))),some (.d (.lst (g2.map enc))),b9,bj,bK] B=.nx [x0,x1,x2,some (.d (hs rs ks ps hd)),x4,x5,x6,x7,x8,some (.d (bF (.lst (aP ps qs)))),some (.d (.lst (g2.map enc))),some (.d (bF (.lst (g2.map enc)))),bj,bK] B :=
  fY (Dx rfl (AI T.H.r5 T.H.k4 R.2.2 R.1.l))
 obtain⟨aC,b',e,eD,dE,g,rfl,rfl⟩:=jR (g:=fe 12) (body:=I0) (λ_ env b=>∃ eD dE g,env=[x0,x1,x2,some (.d (hs rs ks ps hd)),x4,x5,x6,x7,x8,some (.d (bF (.lst (aP ps qs)))),some (.d (.lst (g2.map enc))),some (.d (bF (.lst (g2.map enc)))),eD,dE] /\ b=B++g) (fH 0 2) 0 [x0,x1,x2,some (.d (hs rs ks ps hd)),x4,x5,x6,x7,x8,some (.d (bF (.lst (aP ps qs)))),some (.d (.lst (g2.map enc))),some (.d (bF (.lst (g2.map enc)))),bj,bK] B ⟨bj,bK,[],rfl,by simp⟩ (by
  rintro i w env b hw ⟨eD,dE,g,rfl,rfl⟩;obtain⟨z,g',e⟩:=Pt T R x0 x1 x2 x4 x5 x6 x7 x8 (some w) dE (B++g);exact⟨[x0,x1,x2,some (.d (hs rs ks ps hd)),x4,x5,x6,x7,x8,some (.d (bF (.lst (aP ps qs)))),some (.d (.lst (g2.map enc))),some (.d (bF (.lst (g2.map enc)))),some w,dE],B++g,_,_,rfl,e,some w,z,g++[g'],rfl,by rw[qi]⟩)
 exact⟨_,eD,dE,g,(fm s1).trans ((mJ (RP 2 (by decide) _ _)).trans e)⟩
theorem RQ (H:Hs rs ks ps hd) {A:List Bx}(hn:n<A.length) (q:Int) (x0 x1 x4 x5 x6 x7 x8 x9 cD b9 bj bK:Option W) :
 ∃ A' q' y5 y6 y7 y8 y9 sq nN eD dE,n<A'.length /\ Kb [x0,x1,xB n,some (.d (hs rs ks ps hd)),x4,x5,x6,x7,x8,x9,cD,b9,bj,bK] (pt A n q)=.nx [x0,x1,xB n,some (.d (hs rs ks ps hd)),x4,y5,y6,y7,y8,y9,sq,nN,eD,dE] (pt A' n q'):=by
 have sz:=ba;obtain⟨near,q1,t1,mn⟩:=Jr hn q (env:=[x0,x1,xB n,some (.d (hs rs ks ps hd)),x4,x5,x6,x7,x8,x9,cD,b9,bj,bK]) (i:=2) rfl [6,40] (ks:=fc (dC (.int 6)) (fc (dC (.int 40)) fg)) (λ_ _=>rfl) (k:=2) rfl (by decide) (by decide);have Kd:0<near /\ near<=40:=by simp at mn;omega
 obtain⟨gs,q2,e2,nd,ok,gl⟩:=JL hn H q1 near Kd.1 Kd.2;obtain⟨c,q3,e3,c0,c1⟩:=Ps hn q2 (gs:=gs) (by omega);generalize hg:gs.map (sh c)=g1 at e3;have l1:g1.length<=16:=by rw[<-hg,aR];exact gl
 have o1:∀ g∈g1,Lt rs.length ks.length g:=λg m=>by
  rw[<-hg]at m;obtain⟨g0,m0,rfl⟩:=bV.mp m;exact RM (ok g0 m0) c0 c1 Kd.2
 have n1:g1.Nodup:=by
  rw[<-hg];exact nS.mpr (nd.imp λh z=>h (Pr z))
 obtain⟨qs,pq,_,so⟩:=Dz n1 (by omega);have T:Tr rs ks ps hd qs:=⟨H,by rw[pq.length_eq];exact l1,λg m=>o1 g (pq.mem_iff.mp m)⟩;have ro:∀ g2:List Pg,g2.Perm g1->Kc rs ks qs g2:=λg2 p=>⟨⟨λg m=>(o1 g (p.mem_iff.mp m)).1,p.nodup_iff.mpr n1,by rw[p.length_eq];exact l1⟩,so g2 p,λg m=>o1 g (p.mem_iff.mp m)⟩;have s1:fC (fq K11.gM 4 (fc (dV 2) (fc (dV 3) (fc (dC (.int 16)) (fc (d2 false ah (gI false (fc (dC (.int 6)) (fc (dC (.int 40)) fg))) (fq K1.fj 2 (fc (dV 2) (fc (dC (.int 2)) fg)))) fg))))) (fe 5) [x0,x1,xB n,some (.d (hs rs ks ps hd)),x4,x5,x6,x7,x8,x9,cD,b9,bj,bK] (pt A n q)=.nx [x0,x1,xB n,some (.d (hs rs ks ps hd)),x4,some (.d (.lst (gs.map enc))),x6,x7,x8,x9,cD,b9,bj,bK] (pt A n q2):=
  fY (fN (l:=[.b n,.d (hs rs ks ps hd),.d (.int 16),.d (.int near)]) (fr rfl (fr rfl (fr rfl (fr t1 rfl)))) rfl e2)
 have s2:fC (fq K2.gW 3 (fc (dV 2) (fc (fK fg) (fc (dV 5) fg)))) (gq 3 (fB (fe 6) (fB (fe 7) (fB (fe 8) gz)))) [x0,x1,xB n,some (.d (hs rs ks ps hd)),x4,some (.d (.lst (gs.map enc))),x6,x7,x8,x9,cD,b9,bj,bK] (pt A n q2)=.nx [x0,x1,xB n,some (.d (hs rs ks ps hd)),x4,some (.d (.lst (gs.map enc))),some (.d (.tup [])),some (.d (.lst (g1.map enc))),xN c,x9,cD,b9,bj,bK] (pt A n q3):=by
  have cc:fq K2.gW 3 (fc (dV 2) (fc (fK fg) (fc (dV 5) fg))) [x0,x1,xB n,some (.d (hs rs ks ps hd)),x4,some (.d (.lst (gs.map enc))),x6,x7,x8,x9,cD,b9,bj,bK] (pt A n q2)=.val (.d (.tup [.tup [],.lst (g1.map enc),.int c])) (pt A n q3):=
   fN (l:=[.b n,.d (.tup []),.d (.lst (gs.map enc))]) (fr rfl (fr (f8 [] rfl (eG _)) (fr rfl rfl))) rfl e3
  rw[lg,cc];rfl
 obtain⟨th,ca,go,dr,av,e4⟩:=MN (bx:=pt A n q3) H T.l (so g1 (.refl _));have BL:Bl (pt A n q3) th ca go dr av (aP ps qs)=pt (A++[.ak (aN dP th),.ak (aN enc ca),.ak (bZ go),.dT dr,.lst av,.lst (aP ps qs)]) n q3:=by unfold Bl;rw[jI hn]
 have s3:fC (dM (bB (fq K11.gj 2 (fc (dV 3) (fc (dV 7) fg))) "words")) (fe 9) [x0,x1,xB n,some (.d (hs rs ks ps hd)),x4,some (.d (.lst (gs.map enc))),some (.d (.tup [])),some (.d (.lst (g1.map enc))),xN c,x9,cD,b9,bj,bK] (pt A n q3)=.nx [x0,x1,xB n,some (.d (hs rs ks ps hd)),x4,some (.d (.lst (gs.map enc))),some (.d (.tup [])),some (.d (.lst (g1.map enc))),xN c,some (.d (bF (.lst (aP ps qs)))),cD,b9,bj,bK] (Bl (pt A n q3) th ca go dr av (aP ps qs)):=by
  have w:bB (fq K11.gj 2 (fc (dV 3) (fc (dV 7) fg))) "words" [x0,x1,xB n,some (.d (hs rs ks ps hd)),x4,some (.d (.lst (gs.map enc))),some (.d (.tup [])),some (.d (.lst (g1.map enc))),xN c,x9,cD,b9,bj,bK] (pt A n q3)=.val (.b ((pt A n q3).length+5)) (Bl (pt A n q3) th ca go dr av (aP ps qs)):=by
   unfold bB;have cc:fq K11.gj 2 (fc (dV 3) (fc (dV 7) fg)) [x0,x1,xB n,some (.d (hs rs ks ps hd)),x4,some (.d (.lst (gs.map enc))),some (.d (.tup [])),some (.d (.lst (g1.map enc))),xN c,x9,cD,b9,bj,bK] (pt A n q3)=.val (.m (ml (pt A n q3).length)) (Bl (pt A n q3) th ca go dr av (aP ps qs)):=fN (l:=[.d (hs rs ks ps hd),.d (.lst (g1.map enc))]) (fr rfl (fr rfl rfl)) rfl e4;rw[cc,fM];simp only[VH]
  exact fY (VN w IW (DR H.r5 H.k4 T.t T.l))
 rw[BL]at s3;generalize hA:A++[.ak (aN dP th),.ak (aN enc ca),.ak (bZ go),.dT dr,.lst av,.lst (aP ps qs)]=A1 at s3;have VO:n<A1.length:=by rw[<-hA];simp;omega
 obtain⟨ds,q4,e5,pm⟩:=DQ VO q3 (g1.map enc) (by rw[aR];omega);obtain⟨g3,rfl,p3⟩:=lN pm rfl;have it:bt (gI false (fc (dV 7) (fc (sZ false (dV 7)) (fc (fq K11.gp 2 (fc (dV 2) (fc (dV 7) fg))) fg)))) [x0,x1,xB n,some (.d (hs rs ks ps hd)),x4,some (.d (.lst (gs.map enc))),some (.d (.tup [])),some (.d (.lst (g1.map enc))),xN c,some (.d (bF (.lst (aP ps qs)))),cD,b9,bj,bK] (pt A1 n q3)=.val ([D.lst (g1.map enc),.lst (g1.reverse.map enc),.lst (g3.map enc)].map W.d) (pt A1 n q4):=by
  refine g9 (oO [.lst (g1.map enc),.lst (g1.reverse.map enc),.lst (g3.map enc)] (fr rfl (fr ?_ (fr (fN (l:=[.b n,.d (.lst (g1.map enc))]) rfl rfl e5) rfl))) (show (3:Nat)<=sizeLine by omega));rw[Q9];rfl
 obtain⟨aC,b',e,g,zh,u7,u9,vb,rfl,rfl⟩:=jR (g:=fe 10) (body:=Ka) (λ_ env b=>∃ g zh u7 u9 vb,env=[x0,x1,xB n,some (.d (hs rs ks ps hd)),x4,some (.d (.lst (gs.map enc))),some (.d (.tup [])),some (.d (.lst (g1.map enc))),xN c,some (.d (bF (.lst (aP ps qs)))),zh,u7,u9,vb] /\ b=pt A1 n q4++g) ([D.lst (g1.map enc),.lst (g1.reverse.map enc),.lst (g3.map enc)].map W.d) 0 [x0,x1,xB n,some (.d (hs rs ks ps hd)),x4,some (.d (.lst (gs.map enc))),some (.d (.tup [])),some (.d (.lst (g1.map enc))),xN c,some (.d (bF (.lst (aP ps qs)))),cD,b9,bj,bK] (pt A1 n q4) ⟨[],cD,b9,bj,bK,rfl,by simp⟩ (by
  rintro i w env b hw ⟨g,zh,u7,u9,vb,rfl,rfl⟩;obtain⟨g2,rfl,p2⟩:∃ g2:List Pg,w=.d (.lst (g2.map enc)) /\ g2.Perm g1:=by
   have:=xl hw;simp only[aG,qh,bG,qk,or_false]at this;rcases this with rfl|rfl|rfl
   ·exact⟨g1,rfl,.refl _⟩
   ·exact⟨g1.reverse,rfl,List.reverse_perm _⟩
   ·exact⟨g3,rfl,p3⟩
  obtain⟨nN,eD,dE,g',e⟩:=Pu T (ro g2 p2) x0 x1 (xB n) x4 (some (.d (.lst (gs.map enc)))) (some (.d (.tup []))) (some (.d (.lst (g1.map enc)))) (xN c) u7 u9 vb (pt A1 n q4++g);exact⟨[x0,x1,xB n,some (.d (hs rs ks ps hd)),x4,some (.d (.lst (gs.map enc))),some (.d (.tup [])),some (.d (.lst (g1.map enc))),xN c,some (.d (bF (.lst (aP ps qs)))),some (.d (.lst (g2.map enc))),u7,u9,vb],pt A1 n q4++g,_,_,rfl,e,g++g',some (.d (.lst (g2.map enc))),nN,eD,dE,rfl,by rw[qi]⟩)
 rw[jI VO]at e;exact⟨A1++g,q4,_,_,_,_,_,zh,u7,u9,vb,by rw[cG];omega,(fm s1).trans ((fm s2).trans ((fm s3).trans ((mJ it).trans e)))⟩
end
theorem RR (l:List Int) (k:Nat) (bx:List Bx) (x2 x3 x4 x5 x6 x7 x8 x9 cD b9 bj bK:Option W):∃ (ys:aM) (bx':List Bx),ys.length=13 /\ VM [some (.s l),xN (k:Int),x2,x3,x4,x5,x6,x7,x8,x9,cD,b9,bj,bK] bx=.nx (some (.s l)::ys) bx':=by
 obtain⟨c,ec⟩:=Pb l k bx;obtain⟨p,ep⟩:=Rw c bx;obtain⟨A,hn,pA⟩:∃ A:List Bx,bx.length<A.length /\ bx++[Bx.lst [D.int p]]=pt A bx.length p :=
  ⟨bx++[.lst [.int p]],by simp,by unfold pt;simp⟩
 rw[pA]at ep;obtain⟨rs,ks,ps,hd,q,eh,H⟩:=JI hn p;obtain⟨aC,bx',e,A',q',y4,y5,y6,y7,y8,y9,sq,nN,eD,dE,rfl,rfl,_⟩:=jR (g:=fe 4) (body:=Kb) (λ_ env b=>∃ A q y4 y5 y6 y7 y8 y9 sq nN eD dE,env=[some (.s l),xN (k:Int),xB bx.length,some (.d (hs rs ks ps hd)),y4,y5,y6,y7,y8,y9,sq,nN,eD,dE] /\ b=pt A bx.length q /\ bx.length<A.length) (fH 0 4) 0 [some (.s l),xN (k:Int),xB bx.length,some (.d (hs rs ks ps hd)),x4,x5,x6,x7,x8,x9,cD,b9,bj,bK] (pt A bx.length q) ⟨A,q,x4,x5,x6,x7,x8,x9,cD,b9,bj,bK,rfl,rfl,hn⟩ (by
  rintro i w env b hw ⟨A,q,y4,y5,y6,y7,y8,y9,sq,nN,eD,dE,rfl,rfl,hA⟩;obtain⟨A',q',z5,z6,z7,z8,z9,Zy,Zz,ZA,ZC,ZD,e⟩:=RQ H hA q (some (.s l)) (xN (k:Int)) (some w) y5 y6 y7 y8 y9 sq nN eD dE;exact⟨[some (.s l),xN (k:Int),xB bx.length,some (.d (hs rs ks ps hd)),some w,y5,y6,y7,y8,y9,sq,nN,eD,dE],pt A bx.length q,_,_,rfl,e,A',q',some w,z5,z6,z7,z8,z9,Zy,Zz,ZA,ZC,rfl,rfl,ZD⟩)
 refine⟨[xN (k:Int),xB bx.length,some (.d (hs rs ks ps hd)),y4,y5,y6,y7,y8,y9,sq,nN,eD,dE],pt A' bx.length q',rfl,?_⟩;exact(fm (fY (fN (fr (fN (fr rfl (fr rfl rfl)) rfl ec) rfl) rfl ep))).trans ((fm (fY (fN (fr rfl rfl) rfl eh))).trans ((mJ (RP 4 (by decide) _ _)).trans e))
theorem ZE (l:List Int) (hl:l.length<=1000) (bx:List Bx) (xs:aM):∃ c:Nat,bW (fc (dN false maxD (fc (dC (.int 1)) (fc (dN false minD (fc (pW (dV 0)) (fc (dC (.int 6)) fg))) fg))) fg) (some (.s l)::xs) bx=.val (fH 0 c) bx:=by
 have e1:pW (dV 0) (some (.s l)::xs) bx=.val (.d (.int l.length)) bx:=rfl;have e2:dN false minD (fc (pW (dV 0)) (fc (dC (.int 6)) fg)) (some (.s l)::xs) bx=.val (.d (.int (if (6:Int)<l.length then 6 else l.length))) bx:=oN (r:=.old _) [.int l.length,.int 6] (fr e1 (fr rfl rfl)) rfl;have e3:dN false maxD (fc (dC (.int 1)) (fc (dN false minD (fc (pW (dV 0)) (fc (dC (.int 6)) fg))) fg)) (some (.s l)::xs) bx=.val (.d (.int (if (if (6:Int)<l.length then (6:Int) else l.length)>1 then (if (6:Int)<l.length then 6 else l.length) else 1))) bx:=oN (r:=.old _) [.int 1,.int (if (6:Int)<l.length then 6 else l.length)] (fr rfl (fr e2 rfl)) rfl;generalize hz:(if (if (6:Int)<l.length then (6:Int) else l.length)>1 then (if (6:Int)<l.length then (6:Int) else l.length) else 1)=z at e3;have zb:0<=z /\ z<=6:=by
  rw[<-hz];split<;>split<;>omega
 exact⟨z.toNat,lj (fr e3 rfl) (by omega)⟩
theorem law_true (l:List Int) (hl:l.length<=1000):∃ bx',AY [.s l] []=.val (.d (.bl true)) bx':=by
 obtain⟨c,ec⟩:=ZE l hl [] [none,none,none,none,none,none,none,none,none,none,none,none,none];obtain⟨aC,bx',e,ys,rfl,hy⟩:=jR (g:=fe 1) (body:=VM) (λ_ env b=>∃ ys:aM,env=some (.s l)::ys /\ ys.length=13) (fH 0 c) 0 [some (.s l),none,none,none,none,none,none,none,none,none,none,none,none,none] [] ⟨_,rfl,rfl⟩ (by
  rintro i w env b hw ⟨ys,rfl,hy⟩;obtain⟨k,_,rfl⟩:=bV.mp (xl hw);match ys,hy with
  | [x1,x2,x3,x4,x5,x6,x7,x8,x9,cD,b9,bj,bK],_ =>
    obtain⟨zs,bx',hz,e⟩:=RR l k b x2 x3 x4 x5 x6 x7 x8 x9 cD b9 bj bK;refine⟨[some (.s l),xN (k:Int),x2,x3,x4,x5,x6,x7,x8,x9,cD,b9,bj,bK],b,_,_,by rw[S3];rfl,e,zs,rfl,hz⟩)
 refine⟨_,oT (bx':=bx') ?_⟩;show Ng [some (.s l),none,none,none,none,none,none,none,none,none,none,none,none,none] []=_;refine(fm ((mJ ec).trans e)).trans ?_;exact ie rfl
end K11
namespace L2.DL
open PySem.W
structure Cf where
 N:List Str
 nm:List (Str×NameKind)
 f:Bool
 bx:List Str
 dc:List Str
 wk:List (Str×Nat)   -- 1: a tuple of aa1,2: a box that is walked,3: a dict with tuple keys
 zi:Str
 fs:List (Str×(Nat×(List W->List Bx->O W)))
 gl:List (Str×Int)
 bl:List Str
 rb:Bool
 ow:List Str
structure bN (c:Cf) (k:Nat) (X:Cx) (Z:Xs):Prop where
 N:X.N=c.N
 nm:X.env.scope.names=c.nm
 kd:X.env.scope.kind=.function
 calm:X.calm=true
 fn:c.f=true->∀ x,X.fn x=true
 ow:∀ x,x∈c.ow->X.fn x=true
 nd:c.N.Nodup
 room:cj k X.A
 fs:∀ x n fn,c.fs.lookup x=some (n,fn)->∃ kk ps,pB X.prog X.w X.K X.mg X.base Z.cl kk x ps fn /\ ps.length=n /\ kk<=k
 gl:∀ x v,c.gl.lookup x=some v->∃ t,X.mg x=some (.int v t)
 bl:∀ x,x∈c.bl->X.mg x=none
 ZF:Passes (nz X.prog X.w) X Z.E
 ti:kU X.K "int"
 tb:kU X.K "bool"
 tt:kU X.K "tuple"
 tl:kU X.K "list"
 own:PassesOwn (model X.prog X.w) X.A X.env X.xe
noncomputable def aD:DE α:=λ_ _=>.bad
section
variable {o : Option Expr}
theorem fF:PD X T Z e aD:=λ_ _ _ _ _ _ h=>by
 obtain⟨_,_,_,_,_,h⟩:=h;exact h.elim
theorem jm:dq X T Z e aD:=λ_ _ _ _ _ _ h=>by
 obtain⟨_,_,_,_,_,h⟩:=h;exact h.elim
theorem DS:pU X T Z e aD:=λ_ _ _ _ _ _ _ h=>by
 obtain⟨_,_,_,_,_,h⟩:=h;exact h.elim
theorem MS:cY X T Z es aD:=λ_ _ _ _ _ _ _ h=>by
 obtain⟨_,_,_,_,_,h⟩:=h;exact h.elim
theorem Bi:rK X T Z tg e aD:=λ_ _ _ _ _ _ h=>by
 obtain⟨_,_,_,_,_,h⟩:=h;exact h.elim
noncomputable def ua:DG:=λ_ _ _=>none
noncomputable def VP:kE:=λ_ _ _=>none
theorem jT:eZ X T e ua:=λ_ _ _ _ _ _ _ _ _ h=>by
 obtain⟨_,_,_,_,_,_,_,h⟩:=h;exact h.elim
theorem JO:qF X T es VP:=λ_ _ _ _ _ _ _ _ _ h=>by
 obtain⟨_,_,_,_,_,_,_,h⟩:=h;exact h.elim
end
noncomputable def Cf.kd (c:Cf) (x:Str) (n:Nat):Bool:=match c.wk.lookup x with|some k=>k==n|none=>false
def VQ (c:Cf) (n:Nat):Expr->Bool
 |.Name x _=>c.kd x n
 |.Subscript _ (.Constant (.str x) _ _) _=>c.kd x n
 |_=>false
noncomputable def Cf.ix (c:Cf) (x:Str):Option Nat:=c.N.findIdx? λy=>decide (y=x)
theorem Cf.Ke {c:Cf}(h:c.ix x=some i):c.N[i]?=some x:=by
 obtain⟨h1,h2,_⟩:=List.findIdx?_eq_some_iff_getElem.mp h;rw[kK h1,of_decide_eq_true h2]
noncomputable def Cf.zj (c:Cf) (x:Str):Bool:=(decide (c.nm.lookup x=some .local)||decide (c.nm.lookup x=some .cell)||decide (c.nm.lookup x=some .free))&&!(x==("__debug__":Str))&&!(x==("__classdict__":Str))
noncomputable def Cf.wX (c:Cf) (x:Str):Bool:=decide (c.nm.lookup x=some .globalImplicit)&&!(x==("__debug__":Str))&&decide (x≠("__name__":Str))
noncomputable def Cf.vc (c:Cf) (x:Str):Bool:=(decide (c.nm.lookup x=some .local)||decide (c.nm.lookup x=some .cell))&&(c.f||decide (x∈c.ow)||decide (c.nm.lookup x=some .local))
def Cf.nO (c:Cf) (x:Str):Bool:=c.wX x&&decide (x∈c.bl)
section
variable {c : Cf} {k : Nat} 
theorem bN.VR (O:bN c k X Z) (h:c.zj x=true):uw X.env.scope x /\ (x==("__debug__":Str))=false /\ (x==("__classdict__":Str))=false:=by
 simp only[Cf.zj,aB,vn,decide_eq_true_eq,nQ]at h;unfold uw;rw[O.nm];exact⟨or_assoc.mp h.1.1,h.1.2,h.2⟩
theorem bN.gb (O:bN c k X Z) (h:c.wX x=true):Gl X x /\ (x==("__debug__":Str))=false /\ x≠("__name__":Str):=by
 simp only[Cf.wX,aB,decide_eq_true_eq,nQ]at h;unfold Gl Env.kindOf;rw[O.nm];exact⟨h.1.1,h.1.2,h.2⟩
theorem bN.lo (O:bN c k X Z) (h:c.vc x=true):Loc X.env.scope x /\ (X.fn x=true \/ X.env.scope.names.lookup x=some .local):=by
 simp only[Cf.vc,aB,vn,decide_eq_true_eq]at h;unfold Loc;rw[O.nm];exact⟨h.1,h.2.imp (λz=>z.elim (λz=>O.fn z x) (O.ow x)) id⟩
theorem bN.blt (O:bN c k X Z) (h:c.nO x=true):Gl X x /\ (x==("__debug__":Str))=false /\ x≠("__name__":Str) /\ X.mg x=none:=by
 simp only[Cf.nO,aB,decide_eq_true_eq]at h;obtain⟨a,b,d⟩:=O.gb h.1;exact⟨a,b,d,O.bl x h.2⟩
theorem bN.at (O:bN c k X Z) (h:c.ix x=some i):X.N[i]?=some x:=by rw[O.N];exact c.Ke h
theorem bN.zk (O:bN c k X Z):X.N.Nodup:=by rw[O.N];exact O.nd
theorem bN.u0 (O:bN c k X Z):X.A.units+100<cLine:=by have:=O.room.un;omega
theorem bN.u1 (O:bN c k X Z):X.A.units+1<cLine:=by have:=O.room.un;omega
def Kf (c:Cf) (fz:Bool) (x:Str):DE W:=match c.ix x with
 |some i=>if c.zj x then (if fz&&c.bx.contains x then tF i else dV i) else aD
 | none=>match c.gl.lookup x with
   |some v=>if c.wX x then dC (.int v) else aD
   |none=>aD
theorem JP (O:bN c k X Z) (fz:Bool):PD X T Z (.Name x pos) (Kf c fz x):=by
 unfold Kf;split
 ·rename_i i e;split
  ·rename_i h;obtain⟨a,b,d⟩:=O.VR h;split
   ·exact OG i (O.at e) a b d
   ·exact Gm i (O.at e) a b d
  ·exact fF
 ·split
  ·rename_i v e;split
   ·rename_i h;obtain⟨a,b,_⟩:=O.gb h;exact LW a (O.gl x v e) b
   ·exact fF
  ·exact fF
end
section
variable {c : Cf} {k : Nat} {f : Expr -> DE W} {t : Expr -> DE Bool} {g : Expr -> DG}
def ub (f:Expr->DE W):List Expr->DE (List W)
 |[]=>fg
 |e::es=>if bJ e then fc (f e) (ub f es) else aD
theorem mj (h:∀ e,PD X T Z e (f e)):∀ es,cY X T Z es (ub f es)
 |[]=>lD
 | e::es=>by
   unfold ub;split
   ·rename_i n;exact mD (h e) (mj h es) n
   ·exact MS
def Kg (f:Expr->DE W):List Expr->DE W
 |[]=>aD
 |[a]=>f a
 |a::r=>gH (f a) (Kg f r)
theorem DT (h:∀ e,PD X T Z e (f e)):∀ es,PD X T Z (.BoolOp .And es pos) (Kg f es)
 |[]=>fF
 |[a]=>Og (h a)
 |a::b::r=>Oh (h a) (DT h (b::r))
def Kh (f:Expr->DE Bool):List Expr->DE Bool
 |[]=>aD
 |[a]=>f a
 |a::r=>kC (f a) (Kh f r)
theorem Cg (h:∀ e,dq X T Z e (t e)):∀ es,pU X T Z (.BoolOp .And es pos) (Kh t es)
 |[]=>DS
 |[a]=>Gp (h a)
 |a::b::r=>Lp (h a) (Cg h (b::r))
def Ki (f:Expr->DE Bool):List Expr->DE Bool
 |[]=>aD
 |[a]=>f a
 |a::r=>eY (f a) (Ki f r)
theorem DU (h:∀ e,dq X T Z e (t e)):∀ es,pU X T Z (.BoolOp .Or es pos) (Ki t es)
 |[]=>DS
 |[a]=>Lo (h a)
 |a::b::r=>Of (h a) (DU h (b::r))
def zm (g:Expr->DG):List Expr->kE
 |[]=>gz
 |e::es=>if bJ e then fB (g e) (zm g es) else VP
theorem JQ (h:∀ e,eZ X T e (g e)):∀ es,qF X T es (zm g es)
 |[]=>Gx
 | e::es=>by
   unfold zm;split
   ·rename_i n;exact OQ (h e) (JQ h es) n
   ·exact JO
end
def VT:Operator->Option (D->D->Option Res)
 |.Add=>some fP|.Sub=>some dX|.Mult=>some dA|.FloorDiv=>some rL|.Mod=>some kF|.Pow=>some e9
 |_=>none
def wY:CmpOp->Option (D->D->Option Res)
 |.Eq=>some aF|.NotEq=>some bY|.Lt=>some dg|.LtE=>some pV|.Gt=>some qH|.GtE=>some uL|.In=>some (inD false)|.NotIn=>some (inD true)
 |_=>none
theorem MT {op:Operator}(h:VT op=some g):∃ q,aH X (binaryOp op) q /\ bI q g:=by
 cases op<;>cases h
 ·exact⟨_,LE,X7⟩
 ·exact⟨_,NR,X8⟩
 ·exact⟨_,LR,YA⟩
 ·exact⟨_,NT,Ya⟩
 ·exact⟨_,NU,Yb⟩
 ·exact⟨_,J8,X9⟩
theorem mS (hu:X.A.units+100<cLine) (h:wY op=some g):∃ q,aH X (compareOp op) q /\ bI q g:=by
 cases op<;>cases h
 ·exact⟨_,OD hu,Yy⟩
 ·exact⟨_,OE hu,Yz⟩
 ·exact⟨_,O0 (by omega),Zj⟩
 ·exact⟨_,OF (by omega),YB⟩
 ·exact⟨_,P3,Yc⟩
 ·exact⟨_,P4,Yd⟩
 ·exact⟨_,Fd.or (OR hu),okIn false⟩
 ·exact⟨_,AN.or (Fz hu),okIn true⟩
def Kj:List (Str×(Bool×(String×(List D->Option Res)))):=
 [("len",false, "len",bf),("all",false, "all",cu),("sorted",false, "sorted",cx),("max",false, "max",maxD),("min",false, "min",minD),
  ("tuple",true, "tuple",nE),("list",true, "list",uM)]
def VU (X:Cx) (x:Str) (p:Bool×(String×(List D->Option Res))):Prop :=
 match p with
 |(false,id,g)=>bootBuiltins x=some (.builtin id) /\ ∃ q,cU X (.builtin id) q /\ eO q g
 |(true,id,g)=>bootBuiltins x=some (.type id) /\ ∃ q,cU X (.type id) q /\ eO q g
theorem ir {α:Type}{P:Str->α->Prop}:∀ {l:List (Str×α)}{x:Str}{a:α},(∀ p∈l,P p.1 p.2)->l.lookup x=some a->P x a
 |[],_,_,_,e=>by cases e
 | (y,b)::r,x,a,h,e=>by
   rw[dH]at e;cases hx:x==y with
   | true =>
     rw[hx]at e;cases e;have:x=y:=by simpa using hx
     subst this;exact h _ (bL ..)
   | false =>
     rw[hx]at e;exact ir (λp m=>h p (bC _ m)) e
theorem MU (hc:X.calm=true) (hu:X.A.units+100<cLine) {p:Bool×(String×(List D->Option Res))}(h:Kj.lookup x=some p):VU X x p:=by
 refine ir (P:=VU X) (λp m=>?_) h;simp only[Kj,bG,qk,or_false]at m;rcases m with rfl|rfl|rfl|rfl|rfl|rfl|rfl
 ·exact⟨by decide +kernel,_,lB,Yf⟩
 ·exact⟨by decide +kernel,_,Fk hc,Yj⟩
 ·exact⟨by decide +kernel,_,CD hu,Y2⟩
 ·exact⟨by decide +kernel,_,D7 hc,Ym⟩
 ·exact⟨by decide +kernel,_,D8 hc,Yn⟩
 ·exact⟨by decide +kernel,_,Ab,Yk⟩
 ·exact⟨by decide +kernel,_,AO,Yl⟩
noncomputable def Kk:List (Str×String):=[("int", "int"),("bool", "bool"),("tuple", "tuple"),("list", "list")]
theorem JR {c:Cf}{k:Nat}(O:bN c k X Z) {n:String}(h:Kk.lookup x=some n):kU X.K n /\ bootBuiltins x=some (.type n):=by
 refine ir (P:=λx n=>kU X.K n /\ bootBuiltins x=some (.type n)) (λp m=>?_) h;simp only[Kk,bG,qk,or_false]at m;rcases m with rfl|rfl|rfl|rfl
 ·exact⟨O.ti,by decide +kernel⟩
 ·exact⟨O.tb,by decide +kernel⟩
 ·exact⟨O.tt,by decide +kernel⟩
 ·exact⟨O.tl,by decide +kernel⟩
end L2.DL
variable {c : L2.DL.Cf}
namespace L2.DL
open PySem.W
noncomputable def Kl:Expr->Bool
 |.Call ..=>false
 |_=>true
theorem jn {o:Expr}{a:Str}{env:Env}{whole:Sem Value}(h:Kl o=true):attributeBase o a env whole=whole:=by
 cases o<;>first|rfl|cases h
noncomputable def plainT:Expr->Bool
 |.BoolOp ..|.UnaryOp ..|.IfExp ..|.Compare ..=>false
 |_=>true
theorem FR {env:Env}(h:plainT e=true) (whole:Sem Value):PySem.isTrue e env whole=(do let v <-whole;standAt e.pos;holding [v] (truthy v)):=by
 cases e<;>first|rfl|cases h
noncomputable def zo:Expr->Bool
 |.Set ..=>false
 |_=>true
theorem lV {env:Env}(h:zo e=true) (x:Value):foldedSetIterable e env x=pure x:=by
 cases e<;>first|rfl|cases h
noncomputable def vd:Expr->Bool
 |.ListComp ..|.SetComp ..|.DictComp ..=>true
 |_=>false
theorem jK {t:Option Expr}{l:Nat}{env:Env}(h:vd e=false):swapsWith e t l env=pure false:=by
 cases e<;>first|rfl|cases h
noncomputable def zp:Expr->Bool
 |.Slice ..=>false
 |_=>true
section
variable {a b o : Expr} {mb mc : DE W} {p : Pos}
theorem o7 (h:zp b=true):yh b:=λ_ _=>by
 cases b<;>first|rfl|cases h
theorem MV (h:zp b=true):yE b:=λ_ _=>by
 cases b<;>first|rfl|cases h
theorem zq {env:Env}(h:bJ e=true):((backTo pos (starEach [e] env)).all (λx=>!x.1)&&(backToKw pos (keywordEach [] env)).all (λx=>x.1.isSome)&&decide ([e].length+([]:List Keyword).length+(if ([]:List Keyword).isEmpty then 0 else 1)<30))=true:=by
 rw[fE h];rfl
theorem MW (hu:X.A.units+1<cLine) (hi:PD X T Z e mb) (ho:PD X T Z o ma) (hm:behindInMarks .In o=false):dq X T Z (.Compare e [.In] [o] pos) (dB (c9 false mb ma)):=
 PT.imp (FX (GD hu hi ho) hm) λσ H Q h=>Nf (Oe h)
theorem JS (hu:X.A.units+1<cLine) (hi:PD X T Z e mb) (ho:PD X T Z o ma) (hm:behindInMarks .NotIn o=false):dq X T Z (.Compare e [.NotIn] [o] pos) (dB (c9 true mb ma)):=
 PT.imp (FX (Ar hu hi ho) hm) λσ H Q h=>GT (Oe h)
end
section
variable {k : Nat} {p : Pos} {f : Expr -> DE W} {o : Expr}
def zr (c:Cf) (f:Expr->DE W) (bo:Bool) (x:Str) (es:List Expr):DE W :=
 match c.fs.lookup x with
 | some (n,fn)=>(match es with
   |[]=>aD
   |e::es=>if c.wX x&&kH (e::es) then fq fn n (ub f (e::es)) else aD)
 | none=>match Kj.lookup x with
   | some (_,_,g)=>(match es with
     |[]=>aD
     |e::es=>if c.nO x&&kH (e::es) then dN bo g (ub f (e::es)) else aD)
   |none=>aD
theorem DV (O:bN c k X Z) (h:∀ e,PD X T Z e (f e)) (bo:Bool) (es:List Expr):PD X T Z (.Call (.Name x p) es [] pos) (zr c f bo x es):=by
 unfold zr;split
 ·rename_i n fn e;split
  ·exact fF
  ·split
   ·rename_i a as q;rw[aB]at q;obtain⟨g1,g2,_⟩:=O.gb q.1;obtain⟨kk,ps,hh,hn,hk⟩:=O.fs x n fn e;exact Rm hh O.room hk g1 O.ZF (mj h _) q.2 hn g2
   ·exact fF
 ·split
  ·rename_i ty id g e;split
   ·exact fF
   ·split
    ·rename_i a as q;rw[aB]at q;obtain⟨g1,g2,g3,g4⟩:=O.blt q.1;have b:=MU O.calm O.u0 e;cases ty with
     | false =>
       obtain⟨b1,qq,b2,b3⟩:=b;exact Rk bo b2 b3 g1 g4 b1 (mj h _) q.2 g3 g2
     | true =>
       obtain⟨b1,qq,b2,b3⟩:=b;exact OP bo b2 b3 g1 g4 b1 (mj h _) q.2 g3 g2
    ·exact fF
  ·exact fF
noncomputable def VW (c:Cf):Expr->Bool
 |.Name x _=>decide (x=c.zi)
 |_=>false
def Km (c:Cf) (f:Expr->DE W) (bo:Bool) (x:Str) (es:List Expr):DE W :=
 if x="isinstance" then (match es with
  | [a,.Name t _]=>(match Kk.lookup t with
    |some n=>if c.nO "isinstance"&&c.nO t&&bJ a then jo n (f a) else aD
    |none=>aD)
  |_=>aD)
 else if x="repr" then (match es with
  |[a]=>if c.nO "repr"&&bJ a then dM (f a) else aD
  |_=>aD)
 else match es with
  |[a]=>if x="len" /\ VW c a=true then (if c.nO "len"&&bJ a then pW (f a) else aD) else if x="list" /\ VQ c 3 a=true then (if c.nO "list"&&bJ a then wK bo (f a) else aD) else if x="dict" then (if c.nO "dict"&&bJ a then tU bo (f a) else aD) else zr c f bo x es
  |_=>zr c f bo x es
theorem JT (O:bN c k X Z) (h:∀ e,PD X T Z e (f e)) (bo:Bool) (es:List Expr):PD X T Z (.Call (.Name x p) es [] pos) (Km c f bo x es):=by
 unfold Km;split
 ·rename_i hx;subst hx;split
  ·rename_i a t tp;split
   ·rename_i n e;split
    ·rename_i q;simp only[aB]at q;obtain⟨g1,g2,g3,g4⟩:=O.blt q.1.1;obtain⟨j1,j2,j3,j4⟩:=O.blt q.1.2;obtain⟨y1,y2⟩:=JR O e;exact Rn y1 g1 g4 j1 j4 y2 (h a) q.2 j3 j2
    ·exact fF
   ·exact fF
  ·exact fF
 ·split
  ·rename_i hx;subst hx;split
   ·rename_i a;split
    ·rename_i q;rw[aB]at q;obtain⟨g1,g2,g3,g4⟩:=O.blt q.1;exact LQ O.room g1 g4 (h a) (fE q.2 _ _)
    ·exact fF
   ·exact fF
  ·split
   ·rename_i a;split
    ·rename_i hx;obtain⟨rfl,_⟩:=hx;split
     ·rename_i q;rw[aB]at q;obtain⟨g1,g2,g3,g4⟩:=O.blt q.1;exact LT g1 g4 (h a) (fE q.2 _ _)
     ·exact fF
    ·split
     ·rename_i hx;obtain⟨rfl,_⟩:=hx;split
      ·rename_i q;rw[aB]at q;obtain⟨g1,g2,g3,g4⟩:=O.blt q.1;exact G0 bo O.calm g1 g4 (h a) q.2
      ·exact fF
     ·split
      ·rename_i hx;subst hx;split
       ·rename_i q;rw[aB]at q;obtain⟨g1,g2,g3,g4⟩:=O.blt q.1;exact FD bo g1 g4 (h a) q.2
       ·exact fF
      ·exact DV O h bo _
   ·exact DV O h bo _
def Kn (dd:Bool) (f:Expr->DE W) (o:Expr) (m:Str) (es:List Expr):DE W:=match es with
 |[e]=>if bJ e then (if dd then (if m="get" then rX (f o) (f e) else if m="pop" then uX (f o) (f e) else aD) else if m="append" then dY (f o) (f e) else if m="pop" then tO (f o) (f e) else aD) else aD
 |_=>aD
theorem MX (hu:X.A.units+1<cLine) (dd:Bool) (h:∀ e,PD X T Z e (f e)) {m:Str}(es:List Expr) (hb:Kl o=true) (hl:(apos.endLine==pos.line)=true):PD X T Z (.Call (.Attribute o m apos) es [] pos) (Kn dd f o m es):=by
 unfold Kn;split
 ·rename_i e;split
  ·rename_i n;split
   ·split
    ·rename_i z;subst z;exact GV hu (h o) (h e) ⟨jn hb,zq n,hl,by rw[fE n];rfl⟩
    ·split
     ·rename_i z;subst z;exact Mc (h o) (h e) ⟨jn hb,zq n,hl,by rw[fE n];rfl⟩
     ·exact fF
   ·split
    ·rename_i z;subst z;exact Fq (h o) (h e) (jn hb) (zq n) hl (fE n _ _)
    ·split
     ·rename_i z;subst z;exact GR (h o) (h e) n (jn hb) (zq n) hl
     ·exact fF
  ·exact fF
 ·exact fF
end
noncomputable def Ko (on names:List (Str×NameKind)):List (Str×NameKind):=names.map λ(n,k)=>if k==NameKind.free&&on.lookup n==some .cell then (n,NameKind.cell) else (n,k)
noncomputable def zt:Nat->Expr->List Str
 |_,.Name x _=>[x]
 |n+1,.Tuple es _ _=>es.flatMap (zt n)
 |_,_=>[]
def Cf.cN (c:Cf) (tg:Expr) (sc:Scope):List Str:=zt 4 tg++c.N.filter λx=>decide (sc.names.lookup x=some .free)
def Cf.src (c:Cf) (tg:Expr) (sc:Scope):List (Option Nat):=(zt 4 tg).map (λ_=>none)++(c.N.filter λx=>decide (sc.names.lookup x=some .free)).map c.ix
def Cf.inner (c:Cf) (tg:Expr) (sc:Scope):Cf:={ c with N:=c.cN tg sc,nm:=Ko c.nm sc.names,f:=false,bx:=[],ow:=(zt 4 tg).filter λx=>decide (sc.names.lookup x=some .cell) }
def Cf.zu (c:Cf) (tg:Expr) (sc:Scope):Bool:=Iw c.N { kind:=.function,names:=c.nm,isGenerator:=false,isCoroutine:=false } sc (c.cN tg sc) (c.src tg sc)&&decide (c.cN tg sc).Nodup
section
variable {k : Nat} {sc : Scope}
theorem bN.inner (O:bN c k X Z) (h:c.zu tg sc=true):pR X (c.cN tg sc) (c.src tg sc) sc /\ ∀ cl s H C fp,bN (c.inner tg sc) k (X.comp (c.cN tg sc) sc cl s H C fp) ⟨E0,Z.cl⟩:=by
 unfold Cf.zu at h;rw[aB,decide_eq_true_eq]at h;have S:pR X (c.cN tg sc) (c.src tg sc) sc:=Cw (XN:=c.N) (sc:={ kind:=.function,names:=c.nm,isGenerator:=false,isCoroutine:=false }) (λx=>by unfold Env.kindOf;rw[O.nm]) O.N h.1;refine⟨S,λcl s H C fp=>⟨rfl,?_,S.kind,O.calm,λz=>(by cases z),λx m=>(qZ.mp m).2,h.2,O.room,O.fs,O.gl,O.bl,C5,O.ti,O.tb,O.tt,O.tl,PassesOwn.never⟩⟩;show (relabel sc X.env).names=Ko c.nm sc.names;unfold relabel Ko Env.kindOf;rw[O.kd,O.nm];simp
end
structure Cm where
 e:Cf->Bool->Bool->Expr->DE W
 t:Cf->Expr->DE Bool
 g:Cf->Expr->DG
 s:Cf->Stmt->aq
structure Good (m:Cm):Prop where
 e:∀ {c:Cf}{k:Nat}{X:Cx}{Z:Xs},bN c k X Z->∀ {T:Fr}(bo fz:Bool) (e:Expr),PD X T Z e (m.e c bo fz e)
 t:∀ {c:Cf}{k:Nat}{X:Cx}{Z:Xs},bN c k X Z->∀ {T:Fr}(e:Expr),dq X T Z e (m.t c e)
 g:∀ {c:Cf}{k:Nat}{X:Cx}{Z:Xs},bN c k X Z->∀ {T:Fr}(e:Expr),eZ X T e (m.g c e)
 s:∀ {c:Cf}{k:Nat}{X:Cx}{Z:Xs},bN c k X Z->∀ {T:Fr}(st:Stmt),cP X T Z st (m.s c st)
section
variable (m : Cm) (c : Cf)
def cI (tg it:Expr):DE (List W):=match it with
 | .Call (.Name x _) [a] [] _ =>
   if x="range" then (if c.nO "range"&&bJ a then bW (fc (m.e c false false a) fg) else aD)
   else bt (m.e c false true it)
 | .Call (.Name x _) [a,b] [] _ =>
   if x="range" then (if c.nO "range"&&bJ a&&bJ b then sY (fc (m.e c false false a) (fc (m.e c false false b) fg)) else aD)
   else if x="zip" then (if c.nO "zip"&&bJ a&&bJ b then rT (fc (m.e c false false a) (fc (m.e c false false b) fg)) else aD)
   else bt (m.e c false true it)
 |_=>bt (m.e c false true it)
def cF (ifs:List Expr):DE Bool:=match ifs with
 |[]=>fQ
 |[t]=>m.t c t
 |_=>aD
def zv (e:Expr):Option Nat:=match e with
 |.Name x _=>if c.dc.contains x&&c.zj x then c.ix x else none
 |_=>none
def Kp (bo:Bool) (elt tg it:Expr) (ifs:List Expr) (sc:Scope):DE W :=
 if c.zu tg sc&&zo it then fS bo (c.src tg sc) (cI m c tg it) (m.g (c.inner tg sc) tg) (cF m (c.inner tg sc) ifs) (m.e (c.inner tg sc) false false elt) else aD
noncomputable def ve:Expr->Bool
 |.Name x _=>c.dc.contains x
 |.Subscript _ (.Constant (.str x) _ _) _=>c.dc.contains x
 |_=>false
def cO (o:Option Expr):DE (Option Int):=match o with
 |none=>kW
 |some e=>kX (m.e c false false e)
def wZ (a:Expr) (op:CmpOp) (b:Expr):DE W :=
 if ve c b then (match op with
  |.In=>if behindInMarks .In b=false then c9 false (m.e c false false a) (m.e c false false b) else aD
  |.NotIn=>if behindInMarks .NotIn b=false then c9 true (m.e c false false a) (m.e c false false b) else aD
  |_=>aD)
 else match wY op with
  |some g=>if behindInMarks op b=false then d2 false g (m.e c false false a) (m.e c false false b) else aD
  |none=>aD
def Kq (a:Expr) (op eU:CmpOp) (b d:Expr):DE W:=match wY op,wY eU with
 |some g,some g'=>if lastMarks [op,eU] [b,d]=false then d3 g g' (m.e c false false a) (m.e c false false b) (m.e c false false d) else aD
 |_,_=>aD
def Kr (bo:Bool) (a b:Expr):DE W:=match b with
 |.Slice lo hi none _=>kY bo (m.e c false false a) (cO m c lo) (cO m c hi)
 |.Slice none none (some (.UnaryOp .USub (.Constant (.int i) _ _) _)) _=>if i=1 then sZ bo (m.e c false false a) else aD
 |.Constant (.str k) _ _=>bB (m.e c false false a) k
 |b=>if zp b then (if VW c a then yH (m.e c false false a) (m.e c false false b) else if ve c a then bX (m.e c false false a) (m.e c false false b) else d2 false ah (m.e c false false a) (m.e c false false b)) else aD
def Ks (bo:Bool) (ks:List (Option Expr)) (vs:List Expr):DE W:=match ks,vs with
 |[],[]=>pX bo []
 | ks,vs=>match wL (λk=>c.kd k 3) ks vs with
   |some l=>if !ks.isEmpty&&decide (ks.length<=15) then uZ l else aD
   |none=>aD
def Kt (v:Const):DE W:=match v with
 |.int i=>dC (.int i)
 |.bool b=>dC (.bl b)
 |.none=>dC .non
 |.str x=>dC (.str x)
 |_=>aD
def Ku (op:UnaryOp) (a:Expr):DE W:=match op with
 |.Not=>yw (m.e c false false a)
 |_=>aD
def Kv (op:BoolOp) (es:List Expr):DE W:=match op with
 |.And=>Kg (m.e c false false) es
 |.Or=>aD
def Kw (a:Expr) (ops:List CmpOp) (bs:List Expr):DE W:=match ops,bs with
 |[op],[b]=>wZ m c a op b
 |[op,eU],[b,d]=>Kq m c a op eU b d
 |_,_=>aD
def Kx (bo:Bool) (f:Expr) (es:List Expr) (ks:List Keyword) (pos:Pos):DE W:=match f with
 | .Name x _=>(match ks with
   |[]=>Km c (m.e c false false) bo x es
   |_::_=>aD)
 | .Attribute o n apos=>(match ks with
   |[]=>if Kl o&&(apos.endLine==pos.line) then Kn (ve c o) (m.e c false false) o n es else aD
   |_::_=>aD)
 |_=>aD
def Ky (bo:Bool) (elt:Expr) (gs:List Comprehension) (sc:Scope):DE W:=match gs with
 |[⟨tg,it,ifs,0⟩]=>Kp m c bo elt tg it ifs sc
 |_=>aD
def sE (bo fz:Bool) (e:Expr):DE W:=match e with
 |.Constant v _ _=>Kt v
 |.Name x _=>Kf c fz x
 |.Tuple es _ _=>fK (ub (m.e c false false) es)
 |.List es _=>gI bo (ub (m.e c false false) es)
 |.Dict ks vs _=>Ks c bo ks vs
 | .BinOp a op b _=>(match VT op with
   |some g=>d2 bo g (m.e c false false a) (m.e c false false b)
   |none=>aD)
 |.UnaryOp op a _=>Ku m c op a
 |.BoolOp op es _=>Kv m c op es
 |.Compare a ops bs _=>Kw m c a ops bs
 |.IfExp t a b _=>rH (m.t c t) (m.e c false false a) (m.e c false false b)
 |.Subscript a b _=>Kr m c bo a b
 |.Call f es ks pos=>Kx m c bo f es ks pos
 |.ListComp elt gs sc _=>Ky m c bo elt gs sc
 |_=>aD
def sT (e:Expr):DE Bool:=match e with
 |.BoolOp .And es _=>Kh (m.t c) es
 |.BoolOp .Or es _=>Ki (m.t c) es
 |.UnaryOp .Not a _=>eP (m.t c a)
 |.Compare a [op] [b] _=>if ve c b then dB (wZ m c a op b) else (match wY op with
  |some g=>if behindInMarks op b=false then dB (d2 false g (m.e c false false a) (m.e c false false b)) else aD
  |none=>aD)
 |e=>if plainT e then dB (m.e c false false e) else aD
def sG (tg:Expr):DG:=match tg with
 | .Name x _=>(match c.ix x with
   |some i=>if c.vc x then fe i else ua
   |none=>ua)
 |.Tuple es _ _=>if kH es then gq es.length (zm (m.g c) es) else ua
 |.Subscript o i _=>if zp i then wo (m.e c false false o) (m.e c false false i) else ua
 |_=>ua
end
section
variable {m : Cm} {k : Nat} (G : Good m) (O : bN c k X Z)
include G O
theorem Nr (tg it:Expr):rK X T Z tg it (cI m c tg it):=by
 unfold cI;split
 ·rename_i x p a pos;split
  ·rename_i z;subst z;split
   ·rename_i q;rw[aB]at q;obtain⟨g1,g2,g3,g4⟩:=O.blt q.1;exact Cq g1 g4 (mD (G.e O _ _ a) lD q.2) (fE q.2 _ _)
   ·exact Bi
  ·exact AR (G.e O _ _ _)
 ·rename_i x p a b pos;split
  ·rename_i z;subst z;split
   ·rename_i q;simp only[aB]at q;obtain⟨⟨q,n1⟩,n2⟩:=q;obtain⟨g1,g2,g3,g4⟩:=O.blt q;exact Cr g1 g4 (mD (G.e O _ _ a) (mD (G.e O _ _ b) lD n2) n1) (by rw[fE n1,fE n2];rfl) (fE n2 _ _)
   ·exact Bi
  ·split
   ·rename_i z;subst z;split
    ·rename_i q;simp only[aB]at q;obtain⟨⟨q,n1⟩,n2⟩:=q;obtain⟨g1,g2,g3,g4⟩:=O.blt q;exact LV g1 g4 (mD (G.e O _ _ a) (mD (G.e O _ _ b) lD n2) n1) (by rw[fE n1,fE n2];rfl) (fE n2 _ _)
    ·exact Bi
   ·exact AR (G.e O _ _ _)
 ·exact AR (G.e O _ _ _)
theorem Nt (ifs:List Expr):PF X ifs (qD T Z (cF m c ifs)):=by
 unfold cF;split
 ·exact LC
 ·exact LD (G.t O _)
 ·exact λ_ _ _ _ _ _ h=>by obtain⟨_,_,_,_,_,h⟩:=h;exact h.elim
omit G in
theorem DW (h:zv c e=some i):PD X T Z e (dV i):=by
 unfold zv at h;split at h
 ·split at h
  ·rename_i q;rw[aB]at q;obtain⟨a,b,d⟩:=O.VR q.2;exact Gm i (O.at h) a b d
  ·cases h
 ·cases h
theorem JU (bo:Bool) (elt tg it:Expr) (ifs:List Expr) (sc:Scope) (pos:Pos):PD X T Z (.ListComp elt [⟨tg,it,ifs,0⟩] sc pos) (Kp m c bo elt tg it ifs sc):=by
 unfold Kp;split
 ·rename_i q;rw[aB]at q;obtain⟨S,OO⟩:=O.inner q.1;exact LB bo O.calm S (Nr G O tg it) (λ_ _ _ _ _ _=>G.g (OO _ _ _ _ _) tg) (λ_ _ _ _ _ _=>Nt G (OO _ _ _ _ _) ifs) (λ_ _ _ _ _ _=>G.e (OO _ _ _ _ _) _ _ elt) (λx=>lV q.2 x)
 ·exact fF
theorem JV (a:Expr) (op:CmpOp) (b:Expr) (pos:Pos):PD X T Z (.Compare a [op] [b] pos) (wZ m c a op b):=by
 unfold wZ;split
 ·split
  ·split
   ·rename_i q;exact OU O.u1 (G.e O _ _ a) (G.e O _ _ b) q
   ·exact fF
  ·split
   ·rename_i q;exact L9 O.u1 (G.e O _ _ a) (G.e O _ _ b) q
   ·exact fF
  ·exact fF
 ·split
  ·rename_i g e;obtain⟨q,h1,h2⟩:=mS O.u0 e;split
   ·rename_i z;exact Od h1 h2 (G.e O _ _ a) (G.e O _ _ b) z
   ·exact fF
  ·exact fF
theorem JW (a:Expr) (op eU:CmpOp) (b d:Expr) (pos:Pos):PD X T Z (.Compare a [op,eU] [b,d] pos) (Kq m c a op eU b d):=by
 unfold Kq;split
 ·rename_i g g' e e';obtain⟨q,h1,h2⟩:=mS O.u0 e;obtain⟨q',ZG,ZH⟩:=mS O.u0 e';split
  ·rename_i z;exact Go h1 ZG h2 ZH (G.e O _ _ a) (G.e O _ _ b) (G.e O _ _ d) z
  ·exact fF
 ·exact fF
theorem Nu (o:Option Expr):wc X T Z o (cO m c o):=by
 unfold cO;split
 ·exact Ov
 ·exact GB (G.e O _ _ _)
theorem MY (bo:Bool) (a b:Expr) (pos:Pos):PD X T Z (.Subscript a b pos) (Kr m c bo a b):=by
 unfold Kr;split
 ·exact GC bo (G.e O _ _ a) (Nu G O _) (Nu G O _)
 ·split
  ·rename_i z;subst z;exact Ox bo (G.e O _ _ a)
  ·exact fF
 ·exact OY O.u1 (G.e O _ _ a)
 ·split
  ·rename_i n;split
   ·exact OH (G.e O _ _ a) (G.e O _ _ _) (o7 n)
   ·split
    ·exact L8 O.u1 (G.e O _ _ a) (G.e O _ _ _) (MV n)
    ·exact P7 N3 Ye (G.e O _ _ a) (G.e O _ _ _) (o7 n)
  ·exact fF
omit G O in
theorem MZ (bo:Bool) (ks:List (Option Expr)) (vs:List Expr) (pos:Pos):PD X T Z (.Dict ks vs pos) (Ks c bo ks vs):=by
 unfold Ks;split
 ·exact LU bo
 ·split
  ·rename_i l e;split
   ·rename_i q;rw[aB,decide_eq_true_eq]at q;obtain⟨a,b,d,_⟩:=Ml (X:=X) (pos:=pos) e;exact G1 a b d (λz=>by rw[z]at q;exact absurd q.1 (by decide)) q.2
   ·exact fF
  ·exact fF
omit G O in
theorem M0 (v:Const) (k:Nat) (pos:Pos):PD X T Z (.Constant v k pos) (Kt v):=by
 unfold Kt;split
 ·exact N9
 ·exact P6
 ·exact Oa
 ·exact Ob
 ·exact fF
theorem Pv (op:UnaryOp) (a:Expr) (pos:Pos):PD X T Z (.UnaryOp op a pos) (Ku m c op a):=by
 unfold Ku;split
 ·exact Oi (G.e O _ _ _)
 ·exact fF
theorem Pw (op:BoolOp) (es:List Expr) (pos:Pos):PD X T Z (.BoolOp op es pos) (Kv m c op es):=by
 unfold Kv;split
 ·exact DT (G.e O _ _) _
 ·exact fF
theorem Px (a:Expr) (ops:List CmpOp) (bs:List Expr) (pos:Pos):PD X T Z (.Compare a ops bs pos) (Kw m c a ops bs):=by
 unfold Kw;split
 ·exact JV G O _ _ _ _
 ·exact JW G O _ _ _ _ _ _
 ·exact fF
theorem Py (bo:Bool) (f:Expr) (es:List Expr) (ks:List Keyword) (pos:Pos):PD X T Z (.Call f es ks pos) (Kx m c bo f es ks pos):=by
 unfold Kx;split
 ·split
  ·exact JT O (G.e O _ _) bo _
  ·exact fF
 ·split
  ·split
   ·rename_i q;rw[aB]at q;exact MX O.u1 _ (G.e O _ _) _ q.1 q.2
   ·exact fF
  ·exact fF
 ·exact fF
theorem Pz (bo:Bool) (elt:Expr) (gs:List Comprehension) (sc:Scope) (pos:Pos):PD X T Z (.ListComp elt gs sc pos) (Ky m c bo elt gs sc):=by
 unfold Ky;split
 ·exact JU G O bo _ _ _ _ _ _
 ·exact fF
theorem RS (bo fz:Bool) (e:Expr):PD X T Z e (sE m c bo fz e):=by
 unfold sE;split
 ·exact M0 _ _ _
 ·exact JP O fz
 ·exact Ol (mj (G.e O _ _) _)
 ·exact Om bo (mj (G.e O _ _) _)
 ·exact MZ bo _ _ _
 ·split
  ·rename_i g e;obtain⟨q,h1,h2⟩:=MT (X:=X) e;exact Oc bo h1 h2 (G.e O _ _ _) (G.e O _ _ _)
  ·exact fF
 ·exact Pv G O _ _ _
 ·exact Pw G O _ _ _
 ·exact Px G O _ _ _ _
 ·exact Oj (G.t O _) (G.e O _ _ _) (G.e O _ _ _)
 ·exact MY G O bo _ _ _
 ·exact Py G O bo _ _ _ _
 ·exact Pz G O bo _ _ _ _
 ·exact fF
theorem RT (e:Expr):dq X T Z e (sT m c e):=by
 unfold sT;split
 ·exact Nb (Cg (G.t O) _)
 ·exact Nb (DU (G.t O) _)
 ·exact Lq (G.t O _)
 ·split
  ·rename_i a op b pos h;unfold wZ;rw[if_pos h];split
   ·split
    ·rename_i q;exact MW O.u1 (G.e O _ _ a) (G.e O _ _ b) q
    ·exact jm
   ·split
    ·rename_i q;exact JS O.u1 (G.e O _ _ a) (G.e O _ _ b) q
    ·exact jm
   ·exact jm
  ·split
   ·rename_i g e;obtain⟨q,h1,h2⟩:=mS O.u0 e;split
    ·rename_i z;exact Lm h1 h2 (G.e O _ _ _) (G.e O _ _ _) z
    ·exact jm
   ·exact jm
 ·split
  ·rename_i h;exact Ll (G.e O _ _ _) (λw=>FR h w)
  ·exact jm
theorem RU (tg:Expr):eZ X T tg (sG m c tg):=by
 unfold sG;split
 ·split
  ·rename_i i e;split
   ·rename_i h;obtain⟨a,b⟩:=O.lo h;exact Gw i O.zk (O.at e) a b
   ·exact jT
  ·exact jT
 ·split
  ·rename_i h;exact Ro O.calm (JQ (G.g O) _) h rfl
  ·exact jT
 ·split
  ·rename_i o i pos h;exact LS (Z:=Z) (G.e O _ _ o) (G.e O _ _ i) (λv=>by cases i<;>first|rfl|cases h)
  ·exact jT
 ·exact jT
end
end L2.DL
namespace L2
end L2
namespace L2.DL
open PySem.W
section
variable {env : Env} {y : Str} {px py pt n6 : Pos} {kt k2 : Nat} {a b : Expr}
theorem M2 (hk:env.blockKind=.function) (hx:env.kindOf x=some .local) (hy:env.kindOf y=some .local) (hl:(px.line==py.line)=true) (rR:x≠y) (na:bJ a=true) (nb:bJ b=true)
 (nf:([a,b].all (foldedForSure 8))=false) (nc:([a,b].all (constantsAlone 8))=false) :
 swappedStores [.Tuple [.Name x px,.Name y py] kt pt] (.Tuple [a,b] k2 n6) env=pure (some [x,y]):=by
 have dJ:px.line=py.line:=by simpa using hl
 have hd:([x,y]:List Str).eraseDups.length=2:=by
  have:(y==x)=false:=by simpa using Ne.symm rR
  simp[List.eraseDups_cons,this]
 unfold swappedStores;simp only[hk,hx,hy,dJ,qX,List.any_nil,pI,List.filterMap_nil,bb,eJ,List.head?_cons,kM,Sx,Expr.pos,nf,nc];simp[dJ,hd,pI,hx,hy,nf,nc];rintro(h|h)
 ·cases a<;>first|(cases h;done)|cases na
 ·cases b<;>first|(cases h;done)|cases nb
end
def uc (f:Stmt->aq):List Stmt->aq
 |[]=>aQ
 |[s]=>f s
 |s::r=>fw (f s) (uc f r)
theorem mm {X:Cx}{Z:Xs}{T:Fr}{f:Stmt->aq}(h:∀ s,cP X T Z s (f s)):∀ b,pd X T Z b (uc f b)
 |[]=>Ls
 |[s]=>Lu (h s)
 |s::a::r=>Gr (h s) (mm h (a::r))
noncomputable def VX:Expr->Expr->Bool
 |.Tuple ..,.Tuple ..|.List ..,.Tuple ..=>false
 |_,_=>true
theorem Nv {env:Env}(h:VX tg e=true):swappedStores [tg] e env=pure none:=by
 cases tg with
 |Tuple es n p=>cases e<;>first|rfl|cases h
 |List es p=>cases e<;>first|rfl|cases h
 |_=>rfl
noncomputable def Kz (c:Cf) (x:Str) (tp cp:Pos) (sc:Scope):Bool:=c.nm.lookup x==some .local&&tp.line==cp.line&&!(sc.names.any λ(n,k)=>n==x&&(k==.local||k==.cell))
section
variable {k : Nat} 
theorem bN.block (O:bN c k X Z):X.env.blockKind=.function:=by unfold Env.blockKind;rw[O.kd];rfl
theorem M3 (O:bN c k X Z) {elt:Expr}{gs:List Comprehension}{sc:Scope}{cp tp:Pos}{l:Nat}:swapsWith (.ListComp elt gs sc cp) (some (.Name x tp)) l X.env=pure (Kz c x tp cp sc):=by
 have h:swapsWith (.ListComp elt gs sc cp) (some (.Name x tp)) l X.env=pure (X.env.blockKind==.function&&X.env.kindOf x==some .local&&tp.line==cp.line&&!(sc.names.any λ(n,k)=>n==x&&(k==.local||k==.cell))):=rfl;rw[h,O.block];unfold Env.kindOf Kz;rw[O.nm];rfl
end
theorem lv {t:Expr}{l:Nat}{env:Env}(h:vd e=false):swapsWithSole [t] e l env=pure false:=jK (t:=some t) h
section
variable (m : Cm) (c : Cf)
noncomputable def KA:Expr->Bool
 |.Dict [] [] _=>true
 |_=>false
def KC (x:Str) (tp:Pos) (e:Expr):aq:=match c.ix x with
 | some i=>if c.vc x then (match e with
   | .ListComp elt [⟨tg,it,ifs,0⟩] sc cp=>if c.zu tg sc&&zo it&&Kz c x tp cp sc then (match zv c it with
     |some j=>fC (tT (c.bx.contains x) (c.src tg sc) j (m.g (c.inner tg sc) tg) (cF m (c.inner tg sc) ifs) (m.e (c.inner tg sc) false false elt)) (fe i)
     |none=>eA) else eA
   |e=>if vd e then eA else fC (if c.kd x 3&&KA e then uW else m.e c (c.bx.contains x) false e) (fe i)) else eA
 |none=>eA
def VY (c:Cf) (x y:Str) (px py:Pos) (a b:Expr):Bool:=bJ a&&bJ b&&decide (x≠y)&&c.vc x&&c.vc y&&(if c.nm.lookup x==some .local&&c.nm.lookup y==some .local then px.line==py.line&&!([a,b].all (foldedForSure 8))&&!([a,b].all (constantsAlone 8)) else false)
def KD (x y:Str) (px py:Pos) (a b:Expr):aq:=match c.ix x,c.ix y with
 |some i,some j=>if VY c x y px py a b then kT i j (fc (m.e c (c.bx.contains x) false a) (fc (m.e c (c.bx.contains y) false b) fg)) else eA
 |_,_=>eA
def KG (tg e:Expr):aq:=match tg,e with
 |.Name x tp,e=>KC m c x tp e
 |.Tuple [.Name x px,.Name y py] _ _,.Tuple [a,b] _ _=>KD m c x y px py a b
 |.Subscript o i p,e=>if vd e then eA else if VQ c 3 o then pE (m.e c false false o) (m.e c false false i) (m.e c false false e) else if ve c o then kg (m.e c false false o) (m.e c false false i) (m.e c false false e) else fC (m.e c false false e) (m.g c (.Subscript o i p))
 |tg,e=>if !vd e&&bJ tg&&VX tg e then fC (m.e c false false e) (m.g c tg) else eA
def sS (st:Stmt):aq:=match st with
 |.Assign [tg] e _=>KG m c tg e
 |.Return (some e) _=>fL (m.e c c.rb (!c.rb) e)
 |.Expr e _=>if vd e then eA else gJ (m.e c false false e)
 |.If t a b _=>aI (m.t c t) (uc (m.s c) a) (uc (m.s c) b)
 | .For tg it body [] _=>if zo it then (match zv c it with
   |some j=>tR j (m.g c tg) (uc (m.s c) body)
   |none=>jp (cI m c tg it) (m.g c tg) (uc (m.s c) body)) else eA
 |.Delete [.Subscript o i _] _=>if ve c o then tQ (m.e c false false o) (m.e c false false i) else eA
 |.Continue _=>yx
 |_=>eA
end
section
variable {m : Cm} {k : Nat} (G : Good m) (O : bN c k X Z)
include G O
theorem M4 (x:Str) (e:Expr) (tp pos:Pos):cP X T Z (.Assign [.Name x tp] e pos) (KC m c x tp e):=by
 unfold KC;split
 ·rename_i i hi;split
  ·rename_i hl;obtain⟨l1,l2⟩:=O.lo hl;split
   ·rename_i elt tg it ifs sc cp;split
    ·rename_i q;rw[aB,aB]at q;obtain⟨S,OO⟩:=O.inner q.1.1;have sw:=M3 O (elt:=elt) (gs:=[⟨tg,it,ifs,0⟩]) (sc:=sc) (cp:=cp) (tp:=tp) (x:=x) (l:=pos.line);rw[q.2]at sw;split
     ·exact FB i _ O.calm S (DW O (by assumption)) (λ_ _ _ _ _ _=>G.g (OO _ _ _ _ _) tg) (λ_ _ _ _ _ _=>Nt G (OO _ _ _ _ _) ifs) (λ_ _ _ _ _ _=>G.e (OO _ _ _ _ _) _ _ elt) O.zk (O.at hi) l1 sw l2 (λx=>lV q.1.2 x)
     ·exact gh
    ·exact gh
   ·split
    ·exact gh
    ·rename_i h;refine Lx i ?_ O.zk (O.at hi) l1 (jK (by simpa using h)) l2;split
     ·rename_i q;rw[aB]at q;revert q;cases e with
      |Dict ks vs p=>cases ks<;>cases vs<;>first|(intro _;exact Ma)|(intro q;exact absurd q.2 (by simp[KA]))
      |_=>intro q;exact absurd q.2 (by simp[KA])
     ·exact G.e O _ _ _
  ·exact gh
 ·exact gh
theorem M5 (x y:Str) (a b:Expr) (px py pt n6 pos:Pos) (kt k2:Nat):cP X T Z (.Assign [.Tuple [.Name x px,.Name y py] kt pt] (.Tuple [a,b] k2 n6) pos) (KD m c x y px py a b):=by
 unfold KD;split
 ·rename_i i j hi hj;split
  ·rename_i q;unfold VY at q;rw[aB,aB,aB,aB,aB,decide_eq_true_eq]at q;obtain⟨⟨⟨⟨⟨na,nb⟩,rR⟩,hx⟩,hy⟩,q⟩:=q;have ps:cY X T Z [a,b] (fc (m.e c (c.bx.contains x) false a) (fc (m.e c (c.bx.contains y) false b) fg)):=mD (G.e O _ _ a) (mD (G.e O _ _ b) lD nb) na;have kx:X.env.kindOf x=c.nm.lookup x:=by unfold Env.kindOf;rw[O.nm]
   have ky:X.env.kindOf y=c.nm.lookup y:=by unfold Env.kindOf;rw[O.nm]
   by_cases h:(c.nm.lookup x==some NameKind.local&&c.nm.lookup y==some NameKind.local)=true
   ·rw[if_pos h]at q;simp only[aB,nQ]at q;rw[aB]at h;have h1:c.nm.lookup x=some .local:=by simpa using h.1
    have h2:c.nm.lookup y=some .local:=by simpa using h.2
    refine L6 i j O.calm O.zk ps (O.at hi) (O.at hj) (λz=>?_) (by rw[O.nm];exact h1) (by rw[O.nm];exact h2) (M2 O.block (kx.trans h1) (ky.trans h2) q.1.1 rR na nb q.1.2 q.2) (lv rfl);subst z;have:=(c.Ke hi).symm.trans (c.Ke hj);exact rR (Option.some.inj this)
   ·rw[if_neg h]at q;cases q
  ·exact gh
 ·exact gh
theorem M6 (tg e:Expr) (pos:Pos):cP X T Z (.Assign [tg] e pos) (KG m c tg e):=by
 unfold KG;split
 ·exact M4 G O _ _ _ _
 ·exact M5 G O _ _ _ _ _ _ _ _ _ _ _
 ·split
  ·exact gh
  ·rename_i h;split
   ·exact FE O.u1 (G.e O _ _ _) (G.e O _ _ _) (G.e O _ _ _) (jK (by simpa using h))
   split
   ·exact GU O.u1 (G.e O _ _ _) (G.e O _ _ _) (G.e O _ _ _) (jK (by simpa using h))
   ·exact C4 (G.e O _ _ _) (G.g O _) (lv (by simpa using h)) (Nv rfl) rfl
 ·split
  ·rename_i q;simp only[aB,nQ]at q;exact C4 (G.e O _ _ _) (G.g O _) (lv q.1.1) (Nv q.2) (by rw[jB q.1.2];rfl)
  ·exact gh
theorem RV (st:Stmt):cP X T Z st (sS m c st):=by
 unfold sS;split
 ·exact M6 G O _ _ _
 ·exact Lv (G.e O _ _ _)
 ·split
  ·exact gh
  ·rename_i h;exact Gv (G.e O _ _ _) (jK (by simpa using h))
 ·exact Oo (G.t O _) (mm (G.s O) _) (mm (G.s O) _)
 ·split
  ·rename_i h;split
   ·exact GY O.own O.calm (DW O (by assumption)) (G.g O _) (mm (G.s O) _) (λx=>lV h x)
   ·exact Ly O.own O.calm (Nr G O _ _) (G.g O _) (mm (G.s O) _) (λx=>lV h x)
  ·exact gh
 ·split
  ·exact Md (G.e O _ _ _) (G.e O _ _ _)
  ·exact gh
 ·exact Gu
 ·exact gh
end
def ZI (m:Cm):Cm:=⟨λc bo fz e=>sE m c bo fz e,λc e=>sT m c e,λc e=>sG m c e,λc st=>sS m c st⟩
def cm:Nat->Cm
 |0=>⟨λ_ _ _ _=>aD,λ_ _=>aD,λ_ _=>ua,λ_ _=>eA⟩
 |n+1=>ZI (cm n)
theorem lW:∀ n,Good (cm n)
 |0=>⟨λ_ _ _ _ _=>fF,λ_ _ _=>jm,λ_ _ _=>jT,λ_ _ _=>gh⟩
 |n+1=>⟨λO _ bo fz e=>RS (lW n) O bo fz e,λO _ e=>RT (lW n) O e,λO _ e=>RU (lW n) O e,λO _ st=>RV (lW n) O st⟩
structure FI where
 x:Str
 ps:List Str
 N:List Str
 bx:List Str
 dc:List Str
 wk:List (Str×Nat)
 fl:Nat   -- 1: its list is a box as it is returned,2: may raise,4: has a try,8: calls itself
 st:Stmt
 fn:List W->List Bx->O W
structure Tx where
 zi:Str
 gl:List (Str×Int)
 bl:List Str
noncomputable def FI.b (f:FI) (i:Nat):Bool:=f.fl / i % 2==1
noncomputable def bp (r:List FI):List (Str×(Nat×(List W->List Bx->O W))):=r.map λg=>(g.x,(g.ps.length,g.fn))
def FI.cf (t:Tx) (fs:List (Str×(Nat×(List W->List Bx->O W)))) (f:FI):Cf :=
 { N:=f.N,nm:=(fJ f.st).names,f:=true,bx:=f.bx,dc:=f.dc,wk:=f.wk,zi:=t.zi,fs:=fs,gl:=t.gl,bl:=t.bl,rb:=f.b 1,ow:=[] }
def FI.body (t:Tx) (fs:List (Str×(Nat×(List W->List Bx->O W)))) (f:FI):List W->List Bx->O W :=
 let m:=uc ((cm 40).s (f.cf t fs)) (gG f.st)
 aS f.N.length (aJ m)
def FI.ok (f:FI):Bool:=decide ((fJ f.st).kind=.function)&&!(fJ f.st).isCoroutine&&!(fJ f.st).isGenerator&&decide f.N.Nodup&&decide (f.N.take f.ps.length=f.ps) &&
 f.ps.all (λx=>decide ((fJ f.st).names.lookup x=some .local)||decide ((fJ f.st).names.lookup x=some .cell))&&(fJ f.st).names.all λy=>decide (y.2≠.free)
theorem FI.scope {f:FI}(h:f.ok=true):uE f.N f.ps (fJ f.st):=by
 simp only[FI.ok,aB,decide_eq_true_eq,cT,vn,nQ]at h;obtain⟨⟨⟨⟨⟨⟨h1,h2⟩,h3⟩,h4⟩,h5⟩,h6⟩,h7⟩:=h;exact⟨h1,h2,h3,h4,h5,h6,λy m=>h7 y m⟩
def FI.Is (t:Tx) (r:List FI) (f:FI):Prop:=f.fn=f.body t (bp r)
noncomputable def KH (t:Tx):List FI->Prop
 |[]=>True
 |f::r=>f.Is t r /\ KH t r
noncomputable def w4:List FI->Nat
 |[]=>0
 |_::r=>w4 r+1
structure KI (K:PySem.W.Frag) (mg:Str->Option Value) (t:Tx):Prop where
 gl:∀ x v,t.gl.lookup x=some v->∃ u,mg x=some (.int v u)
 bl:∀ x,x∈t.bl->mg x=none
 ti:kU K "int"
 tb:kU K "bool"
 tt:kU K "tuple"
 tl:kU K "list"
theorem JX {t:Tx}(B:KI K mg t) {f:FI}(d:Def K mg f.x f.st f.ps) (ho:f.ok=true) {k:Nat}
 {fs:List (Str×(Nat×(List W->List Bx->O W)))}(F:∀ x n fn,fs.lookup x=some (n,fn)->∃ kk ps,pB P w K mg base cl kk x ps fn /\ ps.length=n /\ kk<=k):pB P w K mg base cl (k+1) f.x f.ps (f.body t fs):=by
 have S:=FI.scope ho;unfold FI.body;refine OL (k:=k) d S (λfa aW A outer s H E n F0 hr=>mm ((lW 40).s (k:=k) ?_) _);exact⟨rfl,rfl,S.kind,rfl,λ_ _=>rfl,(λx m=>nomatch m),S.nd,hr,F,B.gl,B.bl,C5,B.ti,B.tb,B.tt,B.tl,PassesOwn.never⟩
def zw:List FI->Bool
 |[]=>true
 |f::r=>f.ok&&zw r
theorem DX {t:Tx}(B:KI K mg t):∀ (l:List FI),KH t l->zw l=true->(∀ f∈l,Def K mg f.x f.st f.ps)->∀ f∈l,∃ kk,pB P w K mg base cl kk f.x f.ps f.fn /\ kk<=w4 l
 |[],_,_,_=>λf m=>nomatch m
 | f::r,A,C,D=>by
   obtain⟨A1,A2⟩:=A;have C':(f.ok&&zw r)=true:=C;rw[aB]at C';have ih:=DX B r A2 C'.2 λg m=>D g (bC _ m);have F:∀ x n fn,(bp r).lookup x=some (n,fn)->∃ kk ps,pB P w K mg base cl kk x ps fn /\ ps.length=n /\ kk<=w4 r:=λx n fn e=>by
    refine ir (P:=λx (p:Nat×(List W->List Bx->O W))=>∃ kk ps,pB P w K mg base cl kk x ps p.2 /\ ps.length=p.1 /\ kk<=w4 r) (l:=bp r) (λp m=>?_) e;obtain⟨g,ZJ,rfl⟩:=bV.mp m;obtain⟨kk,h1,h2⟩:=ih g ZJ;exact⟨kk,g.ps,h1,rfl,h2⟩
   intro g m;rcases bG.mp m with rfl|m
   ·rw[A1];exact⟨w4 r+1,JX B (D g (bL ..)) C'.1 F,ao _⟩
   ·obtain⟨kk,h1,h2⟩:=ih g m;exact⟨kk,h1,Eu h2⟩
noncomputable def VZ (o:Obj):Bool:=match o.cls with|.type n=>n == "list"|_=>false
def zx (K:PySem.W.Frag):Bool:=K.all λp=>!VZ p.2
theorem FS (h:zx K=true) {o:Obj}(e:K.lookup a=some o):o.cls≠.type "list":=by
 intro c;unfold zx at h;rw[cT]at h;have m:(a,o)∈K:=by
  clear h;induction K with
  |nil=>cases e
  | cons p K ih =>
    rw[dH]at e;cases q:a==p.1 with
    | true =>
      rw[q]at e;cases e;have:a=p.1:=by simpa using q
      subst this;exact bL ..
    | false =>
      rw[q]at e;exact bC _ (ih e)
 have:=h _ m;simp[VZ,c]at this
theorem Uv (nl:zx K=true) (hO:HK H) (hS:bz K H a (ns.map V.int)) (hf:∃ bx',fn [.s ns] []=.val (.d (.bl true)) bx') :
 qE cl 1 fn [.ref a] H (λv _=>v=.bl true) λ_ _ _=>False:=by
 rcases hS with hS|⟨o,its,n,e1,e2,_⟩
 ·rcases hS with hS|⟨o,hS⟩
  ·rcases hO a with z|⟨o,xs,z⟩
   ·rw[hS]at z;cases z
   ·rw[hS]at z;cases z
  ·obtain⟨bx',hf⟩:=hf;refine⟨H,[],[.s ns],[],⟨Sub.refl H,λi w e=>by simp at e,rfl,.nil,λn c a e=>by simp at e,λa u e _=>e,λn a _ e=>by simp at e,ao _,ao _,λa u e=>.inr (.inl e)⟩,⟨.ref a,[],rfl,⟨a,o,rfl,hS⟩,rfl⟩,rfl,?_⟩;rw[hf];intro F' r' v H' _ _ d;exact d
 ·exact absurd e2 (FS nl e1)
noncomputable def tys:List String:=["NoneType", "bool", "int", "str", "tuple", "list", "dict"]
def zy (K:PySem.W.Frag):Bool:=tys.all λS=>["int", "bool", "tuple", "list"].all λT=>PySem.W.kitOne K (.type S) (.type T)==some (rM S T)
theorem Bj (h:zy K=true) {T:String}(m:T∈["int", "bool", "tuple", "list"]):kU K T:=by
 intro d;unfold zy at h;rw[cT]at h;have m1:pf d∈tys:=by cases d<;>simp[pf,tys]
 have z:=h _ m1;rw[cT]at z;exact beq_iff_eq.mp (z _ m)
theorem PB {ps:List Str}{f:Addr}{oc:Value}{od an:Option Addr}{kV doc pm aW ct:Value}(X:K.In h) (G:h.Ns mainGlobals mg)
 (a:PySem.W.nsIn K mainGlobals x=some (some (.ref f))) (l:K.lookup f=some ⟨oc,od,.func (PySem.W.fnOf x x (iu st) (gG st) (fJ st) .none kV doc pm an aW ct),pF⟩)
 (c:PySem.W.codeIn K aW x=true) (k:PySem.W.keepIn K (.ref f)=true) (hb:∀ fd,ny K x x st f fd->Binds K fd ps []):Def K mg x st ps :=
 ⟨f,_,Gk l c k,SY X G a,hb _ (Gk l c k)⟩
theorem PH {l:PySem.W.OpenLaw}{fa:Addr}{k:Nat}(cl:Nat->Addr) (vf:mg "law"=some (.ref fa)) (D:Def K mg "law" st ["_law_script"])
 (hB:∀ (fd:FuncData) (f:Addr),ny K "law" "law" st f fd->∀ (s:Shared) (u:Value),BindsTo s fd ⟨[u],[]⟩ [("_law_script",u)])
 (H:∀ base:Heap,K.In base->base.Ns mainGlobals mg->pB l.prog w K mg base cl k "law" ["_law_script"] fn) :
 ∃ (cl:Nat->Addr) (fd:FuncData),(∀ (s:Shared) (u:Value),BindsTo s fd ⟨[u],[]⟩ [("_law_script",u)]) /\ ∀ base:Heap,K.In base->base.Ns mainGlobals mg->dS l.prog w K mg base (nz l.prog w) k fa fd ["_law_script"] (qE cl 1 fn):=by
 obtain⟨f,fd,F,hm,_⟩:=D;rw[vf]at hm;cases hm;refine⟨cl,fd,hB fd fa F,λbase hK hN=>?_⟩;obtain⟨f',aa2,ok,V0,_,_,o,hl,hd⟩:=H base hK hN;rw[vf]at V0;cases V0;obtain⟨o2,sN,hd2⟩:=F.obj;rw[hl]at sN;cases sN;rw[hd]at hd2;cases hd2;exact ok
theorem walk_d {l:PySem.W.OpenLaw}{q:Program}{loose:List Str}{XP:(Str->Option Value)->Heap->Prop}{YP:World->Heap->Prop}{d:DefRec}{K:Params->PySem.W.Frag}{k:Nat}{fn:List W->List Bx->O W}(hk:cj k callerA) (hn:l.most=some 63) (HI:d.params.defaults=[])
 (hY:∀ (w:World) (h:Heap),YP w h->(K w.params).In h) (nl:∀ w:World,zx (K w.params)=true) (hf:∀ ns:List Int,ns.length<=63->∃ bx',fn [.s ns] []=.val (.d (.bl true)) bx')
 (F:∀ (w:World) (mg:Str->Option Value) (fa:Addr) (h:Heap),(K w.params).In h->h.Ns mainGlobals mg->mg d.name=some (.ref fa) ->
  ∃ (cl:Nat->Addr) (fd:FuncData),(∀ (s:Shared) (u:Value),BindsTo s fd ⟨[u],[]⟩ [("_law_script",u)]) /\ ∀ base:Heap,(K w.params).In base->base.Ns mainGlobals mg->dS l.prog w (K w.params) mg base (nz l.prog w) k fa fd ["_law_script"] (qE cl 1 fn)) :
 PySem.W.WalkO q loose XP YP l.row.toRowW d [] (λf vs=>PySem.call f vs):=by
 refine Us.XA hn HI λw s0 s1 mg mb fa o pm cd doc a vs ns G Y ho hd kP hmg HJ hints hlen hg=>?_;have KX:=hY w _ Y;obtain⟨cl,fd,hb,hF⟩:=F w mg fa _ KX G.T.g hmg;exact Gj KX G.T.g G.T.b G.T.builtins G.T.nolimit hg HJ hints (bP hlen (by decide)) hk hF hb (λH hO hS=>Uv (nl w) hO hS (hf ns hlen)) λH e s' z=>by
  obtain⟨_,_,_,_,_,_,_,_,_,_,_,_,_,z⟩:=z;exact z
noncomputable def zz (K:Frag) (bl:List Str):Bool:=bl.all λx=>match nsIn K mainGlobals x with|some none=>true|_=>false
noncomputable def zA (K:Frag) (gl:List (Str×Int)):Bool:=gl.all λp=>match nsIn K mainGlobals p.1 with|some (some (.int v _))=>v==p.2|_=>false
theorem CT {bl:List Str}(X:K.In h) (G:h.Ns mainGlobals mg) (c:zz K bl=true):∀ x,x∈bl->mg x=none:=λx m=>by
 unfold zz at c;rw[cT]at c;have z:=c x m;split at z
 ·next e=>exact mg_none_of X G e
 ·cases z
theorem JY {gl:List (Str×Int)}(X:K.In h) (G:h.Ns mainGlobals mg) (c:zA K gl=true):∀ x v,gl.lookup x=some v->∃ u,mg x=some (.int v u):=λx v e=>by
 unfold zA at c;rw[cT]at c;refine ir (P:=λx (v:Int)=>∃ u,mg x=some (.int v u)) (l:=gl) (λp m=>?_) e;have z:=c p m;split at z
 ·next v u e =>
  have:v=p.2:=by simpa using z
  subst this;exact⟨u,mg_of X G e⟩
 ·cases z
theorem RW {t:Tx}(X:K.In h) (G:h.Ns mainGlobals mg) (z:zz K t.bl=true) (g:zA K t.gl=true) (y:zy K=true):KI K mg t :=
 ⟨JY X G g,CT X G z,Bj y (by simp),Bj y (by simp),Bj y (by simp),Bj y (by simp)⟩
theorem M7 {l:PySem.W.OpenLaw}{fa:Addr}{k:Nat}(cl:Nat->Addr) (vf:mg "law"=some (.ref fa)) (D:Def K mg "law" st ["_law_script"])
 (hB:∀ (fd:FuncData) (f:Addr),ny K "law" "law" st f fd->∀ (s:Shared) (u:Value),BindsTo s fd ⟨[u],[]⟩ [("_law_script",u)])
 (H:∀ base:Heap,K.In base->base.Ns mainGlobals mg->∃ kk,pB l.prog w K mg base cl kk "law" ["_law_script"] fn /\ kk<=k) :
 ∃ (cl:Nat->Addr) (fd:FuncData),(∀ (s:Shared) (u:Value),BindsTo s fd ⟨[u],[]⟩ [("_law_script",u)]) /\ ∀ base:Heap,K.In base->base.Ns mainGlobals mg->dS l.prog w K mg base (nz l.prog w) k fa fd ["_law_script"] (qE cl 1 fn):=
 PH cl vf D hB λbase a b=>by
  obtain⟨kk,⟨f,fd,ok,r⟩,le⟩:=H base a b;exact⟨f,fd,ok.mono le,r⟩
def bw (K:Frag) (x:Str) (st:Stmt):Prop:=∃ (f:Addr) (oc:Value) (od:Option Addr) (kV dc pm:Value) (an:Option Addr) (cd ct:Value) (sl:Array (Option Value)),nsIn K mainGlobals x=some (some (.ref f)) /\
 K.lookup f=some ⟨oc,od,.func (fnOf x x (iu st) (gG st) (fJ st) .none kV dc pm an cd ct),sl⟩ /\ codeIn K cd x=true /\ keepIn K (.ref f)=true
theorem dIn_mk {K:Frag}{x:Str}{st:Stmt}{f:Addr}{oc:Value}{od:Option Addr}{kV dc pm:Value}{an:Option Addr}{cd ct:Value}{sl:Array (Option Value)}(a:nsIn K mainGlobals x=some (some (.ref f)))
 (l:K.lookup f=some ⟨oc,od,.func (fnOf x x (iu st) (gG st) (fJ st) .none kV dc pm an cd ct),sl⟩) (c:codeIn K cd x=true) (k:keepIn K (.ref f)=true):bw K x st:=⟨f,oc,od,kV,dc,pm,an,cd,ct,sl,a,l,c,k⟩
noncomputable def KJ (a:Arguments) (ps:List Str):Bool:=a.posonlyargs.isEmpty&&a.vararg.isNone&&a.kwonlyargs.isEmpty&&a.kwarg.isNone&&decide (a.args.map (·.arg)=ps)&&decide ps.Nodup
theorem jv {β:Type}{f g:Str->Option β}:∀ {l:List Str},(∀ n∈l,f n=g n)->l.filterMap f=l.filterMap g
 |[],_=>rfl
 |n::l,h=>by rw[pI,pI,h n (bL ..),jv λm q=>h m (bC _ q)]
theorem Ch:∀ {ps:List Str}{us:List Value},us.length=ps.length->ps.Nodup->(∀ n∈ps,((ps.zip us).lookup n).isNone=false) /\ ps.filterMap (λn=>((ps.zip us).lookup n).map (n,·))=ps.zip us
 |[],_,_,_=>⟨(λ_ h=>nomatch h),rfl⟩
 |p::ps,[],h,_=>by cases h
 | p::ps,u::us,h,nd=>by
   obtain⟨n1,n2⟩:=qm.mp nd;obtain⟨a,b⟩:=Ch (ps:=ps) (us:=us) (by simpa using h) n2;have ne:∀ n∈ps,(n==p)=false:=λn m=>beq_eq_false_iff_ne.mpr λz=>n1 (z▸m);refine⟨λn m=>?_,?_⟩
   ·rw[ng,dH];cases q:n==p with
    |true=>rfl
    | false =>
      rcases bG.mp m with z|z
      ·rw[z]at q;simp at q
      ·exact a n z
   ·rw[ng,List.filterMap_cons_some (b:=(p,u)) (by simp[dH])];congr 1;refine Eq.trans ?_ b;exact jv λn m=>by rw[dH,ne n m]
theorem CU {a:Arguments}{b:List Stmt}{sc:Scope}{ps:List Str}(h:KJ a ps=true) (kV doc pm:Value) (an:Option Addr) (aW ct:Value) (us:List Value) (hl:us.length=ps.length) :
 bindArgs (fnOf x x a b sc .none kV doc pm an aW ct) ⟨us,[]⟩=pure (ps.zip us):=by
 obtain⟨po,ar,va,ko,kd,kw,df⟩:=a;simp only[KJ,aB,decide_eq_true_eq,List.isEmpty_iff,Option.isNone_iff_eq_none]at h;obtain⟨⟨⟨⟨⟨rfl,rfl⟩,rfl⟩,rfl⟩,rfl⟩,nd⟩:=h;obtain⟨z1,z2⟩:=Ch hl nd;simp only[bindArgs,fnOf];have m0:∀ l:List Str,(∀ n∈l,n∈ar.map (·.arg))->l.filter (λn=>(((ar.map (·.arg)).zip us).lookup n).isNone)=[]:=λl h=>List.filter_eq_nil_iff.mpr λn m=>by rw[z1 n (h n m)];decide
 have n0:(do notAStandIn Value.none;pure (none:Option (Array Value)))=pure none:=rfl;simp only[qh,kL,qV,qj,pure_bind,seqItems?,n0,hl,gt_iff_lt,dG,decide_false,QT,xj,if_false,EJ,List.drop_nil,eJ,Es,EC,List.drop_length,vp,m0 _ λ_ h=>h,List.isEmpty_nil,Bool.not_true,z2]
noncomputable def AllIn (K:Frag):List FI->Prop
 |[]=>True
 |f::r=>bw K f.x f.st /\ AllIn K r
theorem V1 {K:Frag}{h:Heap}{mg:Str->Option Value}(X:K.In h) (G:h.Ns mainGlobals mg):∀ {l:List FI},AllIn K l->(l.all λf=>KJ (iu f.st) f.ps)=true->∀ f∈l,Def K mg f.x f.st f.ps
 |[],_,_=>λ_ m=>nomatch m
 | g::r,d,q=>λf m=>by
   rw[qW,aB]at q;rcases bG.mp m with rfl|m
   ·obtain⟨f,oc,od,kV,dc,pm,an,cd,ct,sl,a,l,c,k⟩:=d.1;exact PB X G a l c k λfd F=>F.binds (CU q.1)
   ·exact V1 X G d.2 q.2 f m
end L2.DL
namespace K11
open L2 L2.DL
def top (i:Nat):Stmt:=PySem.Challenge.pw_rimehold_k11_what_pages_do.main.body.getD i (.Pass ⟨0,0,0,0⟩)
noncomputable def tx:L2.DL.Tx:=⟨"_law_script",[("COLDEST",3),("MOST_PAGES",16),("LAST_LOT",9)],["all", "bool", "dict", "int", "isinstance", "len", "list", "max", "min", "range", "repr", "sorted", "tuple", "zip"]⟩
def i0:FI:=⟨"_law_pot",["_law_cell"],["_law_cell", "_law_number", "_law_j", "_law_more"],[],[],[],1,top 34,K1.jg⟩
def i1:FI:=⟨"_law_take",["_law_pot_here", "_law_far_here"],["_law_pot_here", "_law_far_here", "_law_found"],[],[],[],0,top 35,K1.fj⟩
def i2:FI:=⟨"_law_kind_of",["_law_pot_here"],["_law_pot_here", "_law_top", "_law_rates"],[],[],[],0,top 37,K1.gi⟩
def i3:FI:=⟨"_law_house",["_law_pot_here"],["_law_pot_here", "_law_rooms", "_law_kinds", "_law_pairs", "_law_other"],[],[],[],0,top 38,K11.ik⟩
def i4:FI:=⟨"_law_cell_at",["_law_script", "_law_k"],["_law_script", "_law_k"],[],[],[],0,top 33,K1.gL⟩
def i5:FI:=⟨"_law_mixed",["_law_pot_here", "_law_some"],["_law_pot_here", "_law_some", "_law_left"],["_law_left"],[],[],0,top 36,K11.gp⟩
def i6:FI:=⟨"_law_page",["_law_pot_here", "_law_house_here", "_law_near"],["_law_pot_here", "_law_house_here", "_law_near", "_law_hour", "_law_lot", "_law_room", "_law_way", "_law_ripe"],[],[],[],0,top 39,K11.gD⟩
def i7:FI:=⟨"_law_pages",["_law_pot_here", "_law_house_here", "_law_most", "_law_near"],["_law_pot_here", "_law_house_here", "_law_most", "_law_near", "_law_found", "_law_turn", "_law_page_here"],["_law_found"],[],[("_law_found",3)],0,top 40,K11.gM⟩
def i8:FI:=⟨"_law_far",["_law_pot_here", "_law_outs", "_law_pages_here"],["_law_pot_here", "_law_outs", "_law_pages_here", "_law_by", "_law_later"],[],[],[],0,top 41,K2.gW⟩
def i9:FI:=⟨"_law_mates",["_law_house_here", "_law_there", "_law_kind"],["_law_house_here", "_law_there", "_law_kind", "_law_found", "_law_lot", "_law_other"],["_law_found"],["_law_there"],[],0,top 42,K11.f7⟩
def zB:FI:=⟨"_law_read_one",["_law_house_here", "_law_box", "_law_page_here"],["_law_house_here", "_law_box", "_law_page_here", "_law_hour", "_law_word", "_law_lot", "_law_there", "_law_kind", "_law_room"],["_law_there"],["_law_there", "came", "gone", "there"],[("doors",3)],0,top 43,K11.ge⟩
def zC:FI:=⟨"_law_read",["_law_house_here", "_law_pages_here"],["_law_house_here", "_law_pages_here", "_law_box", "_law_page_here"],[],["_law_box"],[("doors",3)],0,top 44,K11.gj⟩
def i12:FI:=⟨"is_tuple",["thing", "fewest", "most"],["thing", "fewest", "most"],[],[],[],0,top 8,K1.fZ⟩
def zD:FI:=⟨"is_whole",["thing"],["thing"],[],[],[],0,top 5,K1.iA⟩
def zE:FI:=⟨"is_within",["thing", "least", "greatest"],["thing", "least", "greatest"],[],[],[],0,top 6,K1.fV⟩
def zF:FI:=⟨"are_rooms",["thing"],["thing"],[],[],[],0,top 13,K1.ig⟩
def zG:FI:=⟨"are_rates",["thing"],["thing"],[],[],[],0,top 16,K1.jd⟩
def zH:FI:=⟨"is_kind",["thing"],["thing"],[],[],[],0,top 15,K1.j7⟩
def zI:FI:=⟨"are_kinds",["thing"],["thing"],[],[],[],0,top 14,K1.ij⟩
def zJ:FI:=⟨"is_rising",["things"],["things"],[],[],[],0,top 9,K1.gK⟩
def zK:FI:=⟨"is_pair_apart",["thing", "many"],["thing", "many"],[],[],[],0,top 18,K1.gn⟩
def zL:FI:=⟨"are_apart",["thing", "many"],["thing", "many"],[],[],[],0,top 17,K1.gc⟩
def zM:FI:=⟨"is_house",["thing"],["thing", "rooms", "kinds", "apart", "hold"],[],[],[],0,top 12,K1.jC⟩
def zN:FI:=⟨"need_house",["thing"],["thing"],[],[],[],0,top 19,dh.iI⟩
def zO:FI:=⟨"greatest_parts",["house", "word"],["house", "word", "last_kind", "last_room"],[],[],[],0,top 24,K11.gN⟩
def zP:FI:=⟨"is_hour",["thing"],["thing"],[],[],[],0,top 7,K2.j8⟩
def zQ:FI:=⟨"is_page",["house", "thing"],["house", "thing", "greatest"],[],[],[],0,top 25,K11.ji⟩
def zR:FI:=⟨"are_pages",["house", "thing"],["house", "thing"],[],[],[],0,top 26,K11.jj⟩
def zS:FI:=⟨"need_pages",["house", "thing"],["house", "thing"],[],[],[],0,top 27,K11.iJ⟩
def zT:FI:=⟨"room_entered",["page"],["page"],[],[],[],0,top 30,K11.fG⟩
def zU:FI:=⟨"may_share",["house", "kind", "other"],["house", "kind", "other"],[],[],[],0,top 20,K11.im⟩
def zV:FI:=⟨"word_for",["house", "kinds", "rooms", "page"],["house", "kinds", "rooms", "page", "deed", "lot", "room", "kind", "neighbours"],[],["kinds", "rooms"],[],0,top 31,K11.ia⟩
def zW:FI:=⟨"read",["house", "pages"],["house", "pages", "told", "kinds", "rooms", "page", "lot", "word"],["kinds", "rooms", "told"],["kinds", "rooms"],[],0,top 29,K11.AX⟩
def zX:FI:=⟨"outcomes",["house", "pages"],["house", "pages"],[],[],[],1,top 28,K11.ic⟩
def vg:FI:=⟨"law",["_law_script"],["_law_script", "_law_k", "_law_pot_here", "_law_house_here", "_law_turn", "_law_some", "_law_outs", "_law_pages_here", "_law_by", "_law_due", "_law_row", "_law_kept", "_law_lap", "_law_found"],["_law_found"],[],[],0,top 45,K11.AY⟩
noncomputable def r0:List FI:=[]
def r1:List FI:=i0::r0
def r2:List FI:=i1::r1
def r3:List FI:=i2::r2
def r4:List FI:=i3::r3
def r5:List FI:=i4::r4
def r6:List FI:=i5::r5
def r7:List FI:=i6::r6
def r8:List FI:=i7::r7
def r9:List FI:=i8::r8
def wu:List FI:=i9::r9
def KL:List FI:=zB::wu
def KN:List FI:=zC::KL
def KO:List FI:=i12::KN
def KR:List FI:=zD::KO
def KS:List FI:=zE::KR
def KU:List FI:=zF::KS
def KW:List FI:=zG::KU
def KY:List FI:=zH::KW
def KZ:List FI:=zI::KY
def K0:List FI:=zJ::KZ
def K3:List FI:=zK::K0
def K4:List FI:=zL::K3
def K5:List FI:=zM::K4
def K6:List FI:=zN::K5
def K7:List FI:=zO::K6
def K8:List FI:=zP::K7
def K9:List FI:=zQ::K8
def Qa:List FI:=zR::K9
def Qb:List FI:=zS::Qa
def Qc:List FI:=zT::Qb
def Qd:List FI:=zU::Qc
def Qe:List FI:=zV::Qd
def Qf:List FI:=zW::Qe
def Qg:List FI:=zX::Qf
def zY:List FI:=vg::Qg
theorem q0:i0.Is tx r0:=(by kernel_rfl:i0.fn=i0.body tx (bp r0))
theorem q1:i1.Is tx r1:=(by kernel_rfl:i1.fn=i1.body tx (bp r1))
theorem q2:i2.Is tx r2:=(by kernel_rfl:i2.fn=i2.body tx (bp r2))
theorem q3:i3.Is tx r3:=(by kernel_rfl:i3.fn=i3.body tx (bp r3))
theorem q4:i4.Is tx r4:=(by kernel_rfl:i4.fn=i4.body tx (bp r4))
theorem q5:i5.Is tx r5:=(by kernel_rfl:i5.fn=i5.body tx (bp r5))
theorem q6:i6.Is tx r6:=(by kernel_rfl:i6.fn=i6.body tx (bp r6))
theorem q7:i7.Is tx r7:=(by kernel_rfl:i7.fn=i7.body tx (bp r7))
theorem q8:i8.Is tx r8:=(by kernel_rfl:i8.fn=i8.body tx (bp r8))
theorem q9:i9.Is tx r9:=(by kernel_rfl:i9.fn=i9.body tx (bp r9))
theorem ZK:zB.Is tx wu:=(by kernel_rfl:zB.fn=zB.body tx (bp wu))
theorem ZL:zC.Is tx KL:=(by kernel_rfl:zC.fn=zC.body tx (bp KL))
theorem ZM:i12.Is tx KN:=(by kernel_rfl:i12.fn=i12.body tx (bp KN))
theorem ZN:zD.Is tx KO:=(by kernel_rfl:zD.fn=zD.body tx (bp KO))
theorem ZO:zE.Is tx KR:=(by kernel_rfl:zE.fn=zE.body tx (bp KR))
theorem ZP:zF.Is tx KS:=(by kernel_rfl:zF.fn=zF.body tx (bp KS))
theorem ZQ:zG.Is tx KU:=(by kernel_rfl:zG.fn=zG.body tx (bp KU))
theorem ZR:zH.Is tx KW:=(by kernel_rfl:zH.fn=zH.body tx (bp KW))
theorem ZS:zI.Is tx KY:=(by kernel_rfl:zI.fn=zI.body tx (bp KY))
theorem ZT:zJ.Is tx KZ:=(by kernel_rfl:zJ.fn=zJ.body tx (bp KZ))
theorem ZU:zK.Is tx K0:=(by kernel_rfl:zK.fn=zK.body tx (bp K0))
theorem ZV:zL.Is tx K3:=(by kernel_rfl:zL.fn=zL.body tx (bp K3))
theorem ZW:zM.Is tx K4:=(by kernel_rfl:zM.fn=zM.body tx (bp K4))
theorem ZX:zN.Is tx K5:=(by kernel_rfl:zN.fn=zN.body tx (bp K5))
theorem ZY:zO.Is tx K6:=(by kernel_rfl:zO.fn=zO.body tx (bp K6))
theorem ZZ:zP.Is tx K7:=(by kernel_rfl:zP.fn=zP.body tx (bp K7))
theorem Z0:zQ.Is tx K8:=(by kernel_rfl:zQ.fn=zQ.body tx (bp K8))
theorem Z1:zR.Is tx K9:=(by kernel_rfl:zR.fn=zR.body tx (bp K9))
theorem Z2:zS.Is tx Qa:=(by kernel_rfl:zS.fn=zS.body tx (bp Qa))
theorem Z3:zT.Is tx Qb:=(by kernel_rfl:zT.fn=zT.body tx (bp Qb))
theorem Z4:zU.Is tx Qc:=(by kernel_rfl:zU.fn=zU.body tx (bp Qc))
theorem Z5:zV.Is tx Qd:=(by kernel_rfl:zV.fn=zV.body tx (bp Qd))
theorem Z6:zW.Is tx Qe:=(by kernel_rfl:zW.fn=zW.body tx (bp Qe))
theorem Z7:zX.Is tx Qf:=(by kernel_rfl:zX.fn=zX.body tx (bp Qf))
theorem Z8:vg.Is tx Qg:=(by kernel_rfl:vg.fn=vg.body tx (bp Qg))
theorem PJ:KH tx zY:=⟨Z8,⟨Z7,⟨Z6,⟨Z5,⟨Z4,⟨Z3,⟨Z2,⟨Z1,⟨Z0,⟨ZZ,⟨ZY,⟨ZX,⟨ZW,⟨ZV,⟨ZU,⟨ZT,⟨ZS,⟨ZR,⟨ZQ,⟨ZP,⟨ZO,⟨ZN,⟨ZM,⟨ZL,⟨ZK,⟨q9,⟨q8,⟨q7,⟨q6,⟨q5,⟨q4,⟨q3,⟨q2,⟨q1,⟨q0,trivial⟩⟩⟩⟩⟩⟩⟩⟩⟩⟩⟩⟩⟩⟩⟩⟩⟩⟩⟩⟩⟩⟩⟩⟩⟩⟩⟩⟩⟩⟩⟩⟩⟩⟩⟩
theorem PK:zw zY=true:=by kernel_rfl
open PySem.W
theorem PL {l:PySem.W.OpenLaw}{w:World}{K:Frag}{h:Heap}{mg:Str->Option Value}{fa:Addr}(X:K.In h) (G:h.Ns mainGlobals mg) (vf:mg "law"=some (.ref fa))
 (z0:zz K tx.bl=true) (g0:zA K tx.gl=true) (y1:zy K=true)
 (d0:bw K "_law_pot" (top 34))
 (d1:bw K "_law_take" (top 35))
 (d2:bw K "_law_kind_of" (top 37))
 (d3:bw K "_law_house" (top 38))
 (d4:bw K "_law_cell_at" (top 33))
 (d5:bw K "_law_mixed" (top 36))
 (d6:bw K "_law_page" (top 39))
 (d7:bw K "_law_pages" (top 40))
 (d8:bw K "_law_far" (top 41))
 (d9:bw K "_law_mates" (top 42))
 (Z9:bw K "_law_read_one" (top 43))
 (aaa:bw K "_law_read" (top 44))
 (aab:bw K "is_tuple" (top 8))
 (aac:bw K "is_whole" (top 5))
 (aad:bw K "is_within" (top 6))
 (aae:bw K "are_rooms" (top 13))
 (aaf:bw K "are_rates" (top 16))
 (aag:bw K "is_kind" (top 15))
 (aah:bw K "are_kinds" (top 14))
 (aai:bw K "is_rising" (top 9))
 (aaj:bw K "is_pair_apart" (top 18))
 (aak:bw K "are_apart" (top 17))
 (aal:bw K "is_house" (top 12))
 (aam:bw K "need_house" (top 19))
 (aan:bw K "greatest_parts" (top 24))
 (aao:bw K "is_hour" (top 7))
 (aap:bw K "is_page" (top 25))
 (aaq:bw K "are_pages" (top 26))
 (aar:bw K "need_pages" (top 27))
 (aas:bw K "room_entered" (top 30))
 (aat:bw K "may_share" (top 20))
 (aau:bw K "word_for" (top 31))
 (aav:bw K "read" (top 29))
 (aaw:bw K "outcomes" (top 28))
 (aax:bw K "law" (top 45)) :
 ∃ (cl:Nat->Addr) (fd:FuncData),(∀ (s:Shared) (u:Value),BindsTo s fd ⟨[u],[]⟩ [("_law_script",u)]) /\ ∀ base:Heap,K.In base->base.Ns mainGlobals mg->dS l.prog w K mg base (nz l.prog w) 35 fa fd ["_law_script"] (qE cl 1 K11.AY):=by
 have DF:=V1 X G (l:=zY) ⟨aax,aaw,aav,aau,aat,aas,aar,aaq,aap,aao,aan,aam,aal,aak,aaj,aai,aah,aag,aaf,aae,aad,aac,aab,aaa,Z9,d9,d8,d7,d6,d5,d4,d3,d2,d1,d0,trivial⟩ (by kernel_rfl);refine M7 (λ_=>0) vf (DF vg (bL ..)) (λfd f F s u=>?_) λbase _ _=>?_
 ·obtain⟨⟨oc,od,kV,doc,pm,an,aW,ct,pF,rfl,_,_⟩,_⟩:=F;exact .of_eq rfl
 ·exact DX (RW X G z0 g0 y1) zY PJ PK DF vg (bL ..)
end K11
end
inductive PySem.W.Fast|tw17463078972538725598|tw2815779788622317541|tw1600279079519524387|tw4842834649022940337|tw17723181317966657829|tw10508305551702929767|tw1292802254783042373|tw11093633433701556537|tw7765349501109583002|tw15457830419174425048|tw5226985425298071327|tw13803364165982668947|tw9279930279708757933|tw11644252746013941668|tw12468831463091464520|tw15912640623254493812|tw16979666054468946972|tw18054561083530960512|tw7811951759502014190|tw12871637538011316701|tw16988806103286310107|tw5216838340977764705|tw4384962212440431603|tw9206470607938439809|tw6564532708848871285|tw18172270055027322740|tw6952325027598394269|tw15718765112435978845|tw3401766848701887776|tw7693325570639789998|tw13754174630666204913|tw16524532594815166818|tw13684636384730087269|tw4599951353539133850|tw4734861956405258224|tw4757253080930546296|tw4009506973699397575|tw12193440550748913389|tw12026877599512010784|tw12603381282453332960|tw9378204056418963541|tw10531576461462546062|tw10221496622147712658|tw9825442260290394885|tw6767357375695352777|tw5269611173297549576|tw17195712662618664180|tw5100984552508017730|tw7801300727470443349|tw10459753787602795135|tw15043253684245682071|tw13350141346861001010|tw13674214630502224221|tw8474383467682945638|tw4515148826086782779|tw13619163003747681892|tw9068896821117838803|tw3084909474792409201|tw11528005168123824827|tw17176726439172451589|tw2286281745863747468|tw7152985982828666126|tw5282419485778776287|tw6192107951756848491|tw10516642778127008896|tw15575752624000386515|tw10182033419482341765|tw2224160673237006905|tw13396857569912747464|tw11572204961532963955|tw11008091734870618729|tw9629334448457800726|tw15167606390870668378|tw2563471684156966779|tw15793799939168658559|tw9489152862060734808|tw6231012286893220825|tw15256556139580606451|tw6576957277335495010|tw18163758593784862399|tw4966989539323509907|tw680661125034658783|tw3143822196122638088|tw1450953248129962424|tw11444044374437158085|tw3011100624250025898|tw11159768935956381226|tw11551170142190148960|tw2664248631606637370|tw13536029628076280713|tw8300048985167442794|tw14190826836632794203|tw2576437695556488458|tw8417554412860961990|tw1339038081356952344|tw10175621919454861523|tw13502596764839005917|tw11956276732867865132|tw560810349151629317|tw4696704392474638002|tw14329225227864152663|tw11159325722021084631|tw1730746521527842755|tw14948018753208806770|tw17869256188357898863|tw15865750182613381301|tw4867945563296851743|tw12243915830891118559|tw100581878542323437|tw10697488479021836436|tw14535922898134179825|tw3853246611381764530|tw8417693937832319310|tw4765325285727318102|tw1496340054049216851|tw3015447936248646555|tw6534288444750333807|tw15729046988827069282|tw14085795964278307978|tw7317346270247893539|tw17024344398021485754|tw15466322976581380782|tw7898956666996893128|tw10697287073989921130|tw8397298864264981345|tw6652105568186524492|tw14762607597247739027|tw9857745940419315922|tw5753064252632975845|tw2110777142798080270|tw18348254227693926582|tw13201897149316455254|tw15878515878112364156|tw17579954721512316177|tw14798696121070984547|tw3032215599007085667|tw12417097053845235570|tw1120455988545587659|tw4426562778857933216|tw3638027352465944126|tw12648854771119848050|tw10000798027538014829|tw14643848464570573535|tw907028092066795621|tw17637463249903244363|tw3025737637225653281|tw8732138072836159521|tw17248476626364231522|tw16669459164724243345|tw10686266035928137631|tw579916424658877811|tw7064550620324887246|tw6884982220750861549|tw6696615938554761998|tw10841784203541635990|tw15071902485163468968|tw11346456694097477928|tw2222024749089745948|tw3243329795004267691|tw9206092799794204211|tw12187965720213821547|tw16771657602030836766|tw6359601836070975732|tw16025102223245443806|tw18232625619301075796|tw769737863435510540|tw18124682323906715207|tw9577639756526300802|tw11977450566239793218|tw12376863325983378875|tw12795367255861099112|tw7408522528113458499|tw16063949699299575632|tw6489156123289997704|tw10853943814623830340|tw3982205308394305706|tw4905456211703059550|tw6143404400874371302|tw12829212251311443797|tw16473722468499814186|tw15725443775064955984|tw862385371632598528|tw4644636494032062076|tw12479325579944774446|tw11552987245301304590|tw11536433298718360467|tw10622921165307059149|tw14099074375286170715|tw5467874757642384102|tw12137529813172040525|tw16908135210452865520|tw7551567703620475861|tw9857504501897154886|tw17893202302729731973|tw3371600302607926796|tw7670027748822360795|tw2475247669076785106|tw16621030143467989081|tw9557195081503662068|tw10960021492074933992|tw15661818292208468235|tw15260769960384729623|tw18049443019900444781|tw5575833479877871821|tw4394746911485059422|tw15938811058428963418|tw2474887179758985567|tw10935887339797172697|tw3813027126611471745|tw1722895871283887983|tw8818833835254615633|tw14382782389814798137|tw10204162287850959108|tw8886221694337591525|tw4660343673938420994|tw77743994986195052|tw10136631080741627796|tw15335720947965044121|tw6579755161343807387|tw6093605256162535038|tw12025734744939211051|tw15455944722687172723|tw8125645874220979261|tw13366002145331003808|tw8005904086593023934|tw14488734808439771905|tw5416271099361043426|tw10473189537061326731|tw15645480678691434089|tw11907584517000332562|tw11124508058820155556|tw5718395746590723731|tw816343509496913861|tw10265820276075933502|tw17084408459276996400|tw3438741653971578944|tw9234032498442816132|tw15201768304005723040|tw4361997851938382502|tw2143996453032348872|tw11647533957423837369|tw16708809707394326133|tw2328404555874634687|tw4739810382305646102|tw18284891927100349267
open_top hdk11 for PySem.Challenge.rw_rimehold_k11_what_pages_do

set_option maxRecDepth 100000 in
set_option maxHeartbeats 0 in
theorem PySem.Challenge.cw_rimehold_k11_what_pages_do_holds : PySem.Challenge.rw_rimehold_k11_what_pages_do.Holds :=
 hdk11 (by
 k_fill
 refine L2.DL.walk_d (l:=PySem.Challenge.rw_rimehold_k11_what_pages_do) (k:=35) (fn:=K11.AY) ⟨rfl,by decide,by decide,rfl⟩ rfl rfl (λw h Y=>PySem.W.kIn_of Y) ?kq_nl (λns h=>K11.law_true ns (by omega)) ?kq_F
 case kq_nl =>
  intro w;kernel_rfl
 case kq_F =>
  intro w mg fa h KX G hmg
  refine' K11.PL KX G hmg ?kq_z0 ?kq_g0 ?kq_y1 ?_ ?_ ?_ ?_ ?_ ?_ ?_ ?_ ?_ ?_ ?_ ?_ ?_ ?_ ?_ ?_ ?_ ?_ ?_ ?_ ?_ ?_ ?_ ?_ ?_ ?_ ?_ ?_ ?_ ?_ ?_ ?_ ?_ ?_ ?_
  any_goals exact L2.DL.dIn_mk (by k_is) (by k_is) (by k_is) (by k_is)
  (case kq_z0=>kernel_rfl)
  (case kq_g0=>kernel_rfl)
  (case kq_y1=>kernel_rfl)
 )
