import PyProof.Rows.All
import Wide.All
import OpenK.AllK
import Wide.FinOn
import Lean
import PyProof.EqAt
import PyProof.EqKinds
import PyProof.TupleCall
import PyProof.Walks
import PyProof.ListMulRoad
import PyProof.ReprRoads
import PyProof.NeData
import PyProof.P3In
import PyProof.ZipIter
import PyProof.Draws
import PyProof.TupleIter
import PyProof.Rows.StrRules
import PyProof.CompUse
import PyProof.ListRange
import KE.KDictLaws
import PyProof.EnumFor
import PyProof.EnumMake
import PyProof.EnumStmt
import PyProof.ConsumeWalk
import KE.KMinKey
import PyProof.ListNew
import PyProof.Rows.SetFrom
import PyProof.WalksMore
import KE.KDictList
import PyProof.DictWalks
import KE.KDictOf
import KE.KDictSum
import KE.KItemsList
import PySem.Challenge.RW_rimehold_k83_bounds_of_ledgers
set_option Elab.async false
set_option linter.all false
set_option maxRecDepth 100000
set_option maxHeartbeats 4000000
set_option exponentiation.threshold 3000
noncomputable section
variable {a p f C : PySem.Addr}{P prog : PySem.Program}{w : PySem.World}{h' base : PySem.Heap}{u v : PySem.Value}{x qual : PySem.Str}{e tg iter : PySem.Expr}{pins : List (PySem.Addr × PySem.Obj)}{s : PySem.Shared}{t' i j k n : Nat}{ch fp r : List PySem.Addr}{N : List PySem.Str}{M : PySem.Model}{A : PySem.Around}{E Q : PySem.Value -> PySem.Shared -> Prop}{α : Type}{pos apos : PySem.Pos}{K : PySem.W.Frag}{es ifs : List PySem.Expr}{vs us : List PySem.Value}{R : PySem.Result -> PySem.Shared -> Prop}{op : PySem.CmpOp}{mA mg : PySem.Str -> Option PySem.Value}{ns : List Int}{kw : List (PySem.Str × PySem.Value)}{outer : List PySem.Env}{fd : PySem.FuncData}{ps ks pp qs : List (Int × Int)}{kz : Array (Option PySem.Value)}{items : Array PySem.Value}{cl : Nat -> PySem.Addr}
open PySem renaming wpAny_bind->aa,wpAny_pure->ah,sizeLine_eq->a7,wpAny_field->dW,wpAny_mono->eW,mem_of_lookup->eX,wpAny_holding->kA,strLen_append->kB,wpAny_rule->pk,wpAny_truthy_bool->qe,wpAny_call_entry->qf,wpAny_newObj_type->qT,wpAny_seqItems->qU,wpAny_setField_rec->qV,codeAny_mono->sV,wpAny_Call_Name_kw->sW,wpAny_callSpecial?_slot->sX,wpAny_typeOf->sY,not_mem_of_deeper->sZ,wpAny_passesOwn->uU,wpAny_onRaise->uV,wpAny_execs_nil->wu,wpAny_attempt->wx,wpAny_newList->wz,wpAny_eqBool_int->yZ,wpAny_Name->y0,wpAny_standAt->y9,wpAny_load->za,wpAny_call->zc,concat_meets->zd,noFill_tuple_add->ze,seq_tuple_add->zf,evalPart_none->zg,seqIndex_of->zh,call_meets->zj,pushCells_keeps->zk,codeAny_builtin->zl,call_repr_slot->zm,wpAny_updateSeq_pair->zo,wpAny_letGo->zp,wpAny_newTuple->zq,wpAny_pyIter_tuple->zr,piled_cons->zt,wpAny_execs_cons->Km,wpAny_bindName->Kn,intBits_le_64->Ko,wpAny_loadPart->Kp,name_of_addr->Kq,codeAny_call_function->Kr,wpAny_newFunctionEnv_cells->Ks,codeAny_func->Kt,wpAny_forIn_list->Ku,richCompare_meets_room->Kv,wpAny_sequenceKey->Kw,evalPart_some->Kx,wpAny_Slice->Ky,wpAny_getItem_list_slice->Kz,call_list_seq->KA,codeAny_call_builtin->KC,wpAny_pyIter_list->KD,tupleText_mem_le->KG,listText_mem_le->KH,listText_nil->KI,dictText_mem_le->KJ,wpAny_setField->KL
open Nat renaming le_refl->ag,le_trans->bu,lt_of_lt_of_le->cG,ne_of_lt->cU,le_of_lt->eu,sub_self->eI,lt_irrefl->kC,zero_le->k8,lt_succ_self->nJ,le_succ->pw,le_of_not_lt->rV,lt_of_le_of_lt->rW,le_of_eq->tj,lt_trans->tm,le_add_right->tq,lt_or_ge->uW,ne_of_gt->wB,zero_add->wC,sub_zero->zu,min_eq_left->zw,log2_lt->KN,max_eq_right->KO,add_sub_cancel->KR,pow_le_pow_right->KS
open Bool renaming and_eq_true->aw,false_ne_true->b9,not_eq_true'->eA,eq_iff_iff->qg,or_eq_true->uX,and_self->uY,or_eq_false_iff->wD,false_and->zx,false_eq_true->zy,true_and->zA,or_false->KU,or_true->KW
open PySem.Heap renaming get?_push_of_some->aG,lt_size->aP,get?_push_size->bP,size_push->pz,get?_none_of_le->KY,get?_update_self->KZ,get?_update_other->K0,size_update->K3,get?_update_ne->K4
open List renaming length_map->aL,map_cons->aN,size_toArray->aR,mem_cons_of_mem->aV,length_cons->aX,mem_cons_self->a8,length_append->bV,getElem?_append_right->cq,getElem?_append_left->cu,lookup_cons->cV,all_eq_true->bX,map_map->eJ,getElem?_eq_getElem->eY,mem_append_left->kD,mem_append_right->kE,length_nil->kF,prefix_refl->kG,all_cons->k9,prefix_append->ng,mem_cons->aY,length_set->nK,filterMap_cons->pB,getElem?_set_self->pC,getElem?_set_ne->pD,append_nil->pE,not_mem_nil->pF,exists_cons_of_length_pos->pG,getElem?_map->qh,zip_cons_cons->qi,forIn_nil->qj,forIn_cons->rX,take_length->rY,map_nil->tu,getElem?_eq_none->tE,zipIdx_nil->tF,pairwise_map->qk,all_map->tH,zip_nil_left->uZ,filterMap_map->u7,mem_singleton->ni,map_congr_left->u9,map_id->vb,nil_append->vc,set_comm->wF,of_mem_zip->wG,length_take->wH,zip_nil_right->wI,reverse_cons->wJ,replicate_succ->wK,flatten_cons->wL,getElem_mem->wM,mergeSort_perm->wN,zipIdx_cons->wO,mapM_toArray->wQ,eq_nil_of_length_eq_zero->wR,map_append->wU,mem_of_getElem?->zB,length_replicate->zC,length_drop->zD,any_cons->zE,length_singleton->zF,append_assoc->zG,cons_append->zH,nodup_append->tJ,length_range->zI,pairwise_mergeSort->zJ,filter_cons->zK,set_set->zL,any_eq_false->K5,getElem?_replicate->K6,getElem?_take_of_lt->K7,countP_cons->K8,take_zero->K9,ext_getElem?->Qa,filterMap_eq_map->Qb,forIn_toArray->Qc,mapM_nil->Qd,mapM_cons->Qe,map_snd_zip->Qf,getElem?_cons_zero->Qg,take_of_length_le->Qh,length_filter_le->Qi
open Option renaming bind_some->a9,map_some->tK,getD_none->zM,getD_some->Qj
open PyProof.Rows renaming wpS_bind->bj,wpS_pure->cz,boot_isinstance->dH,listItems_at->ql,wpS_get->tL,wpS_forRange->tM,mem_zip_self->vd,callWith_type1->wV,slot_tuple_getitem->tN,listUpdate_at->wW,mirror_perm->wX,wpS_reverse->wY,wpS_mono->wZ,assignInOrder_cons->zN,lt_int->zO,tail_any->zP,sortedAll_at->zQ,sortedAll_old->zR,wpS_lift->zS,wpS_modify->zT,pairsOf_toList->zU,seqEpoch_at->zV,pairsOf_size->zW,assignInOrder_nil->Qk,slicePart_none->Ql,entry_tuple_getitem->Qm,args_tuple_getitem->Qn,tupleItemsOf_->Qo,subscriptTail_builtinR->Qp,get?_update_seq->Qq,kind_sorted->Qr,plain_sorted->Qs,entry_sorted->Qt,args_sorted1->Qu,slot_list_sort->Qv,entry_list_sort->Qw,args_list_sort->Qx,keyKind'_eq->Qy,oneTypeOnly'_eq->Qz,mapM_typeOf_ints->QA,collect_list->QB,callWith_builtin1->Uz
open PySem.W renaming kia_one->nq,callWith_K->w9,plainGet_of->zX,cellsFrom_some->zY,looks_findIn->zZ,looks_mroIn->z7,mg_none_of->z9,kitx_list->QC,kitx_dict->QD,methodCall_KW->QE,codeRec_of->QF,mg_of->QG
open Int renaming toNat_natCast->tO,zero_add->Ea,ediv_one->QH,emod_nonneg->QI,emod_lt_of_pos->QJ,eq_ofNat_of_zero_le->QK
open PyProof.Rows.KeyOrd renaming kle_refl->tP,kle_trans->xa,kle_of_klt->xb,kle_antisymm->QL
open PySem.SeqAt.EqAt renaming int_int->xc,str_str->Eb,int_str->QM,str_int->QN,none_bool->UA,none_int->UB,none_str->UC,bool_none->UD,bool_bool->UE,bool_int->UG,bool_str->UH,int_none->UI,int_bool->UJ,str_none->UK,str_bool->UL
open PySem.F renaming plainAttrs_list->xf,slot_tuple_iterator_next->xg,slot_zip_next->ve,slot_tuple_add->Ec,entry_tuple_add->Ed,args_tuple_add_2->Ee,slot_tuple_lt->QO,entry_tuple_lt->QP,args_tuple_lt_2->QQ,slot_list_append->QR,type_list_append->QS,entry_tuple_iterator_next->QT,args_tuple_iterator_next_1->QU,slot_zip_iter->QV,entry_zip_next->QW,args_zip_next_1->QX
open Array renaming length_toList->Ef,getElem_toList->QY
open PySem.PyData renaming shownKv_eq->Eg
open PySem.Around renaming frames_deeper->QZ
open PySem.AutoSeq1 renaming sub_tuple_tuple->Q0
open PySem.Calls renaming evalArgs_plain->Q2,call_function_entry->Q3
open PySem.Code renaming quiet_builtin->Q4
open PySem.ReprEntriesK renaming of_two->Q5
open PySem.Obj renaming data_mapFields->Q6
open List.Pairwise renaming imp_of_mem->Q7
open PySem.EqNone renaming eq_none_none->UM,eq_none_bool->UN,eq_none_int->UO,eq_none_str->UP,eq_bool_none->UQ,eq_int_none->UR,eq_str_none->US,ne_none_none->UT,ne_none_bool->UU,ne_none_int->UW,ne_none_str->UX,ne_bool_none->UY,ne_int_none->UZ,ne_str_none->U0
open PySem.EqMixed renaming eq_bool_str->U1,eq_int_str->U2,eq_str_bool->U3,eq_str_int->U4,ne_bool_str->U5,ne_int_str->U6,ne_str_bool->U7,ne_str_int->U8
open PySem.Heap.Ns1 renaming of_empty->U9
open PySem.SeqAt.RcNeAt renaming lists_lengths->Va
open PySem PySem.Spec PyProof.Rows
namespace L2
noncomputable abbrev Key:=Sum Int Str
noncomputable def vf:Key->Value->Bool
 |.inl k,v=>Value.isInt k v
 |.inr x,v=>Value.isStrOf x v
noncomputable def Vb (w:World):Key->Int
 |.inl k=>hashInt k
 |.inr x=>hashStr w x
theorem f7:∀ {k:Key}{v:Value},vf k v=true->(∃ i t,k=Sum.inl i /\ v=Value.int i t) \/ (∃ x t,k=Sum.inr x /\ v=Value.str x t)
 | .inl i,v,h=>by
   obtain⟨t,e⟩:=Value.isInt_shape (k:=i) (v:=v) h;exact .inl ⟨i,t,rfl,e⟩
 | .inr x,v,h=>by
   obtain⟨t,e⟩:=Value.isStrOf_shape (x:=x) (v:=v) h;exact .inr ⟨x,t,rfl,e⟩
theorem MU (a b:Int):decide ((Sum.inl a:Key)=Sum.inl b)=(a==b):=by
 by_cases e:a=b
 ·subst e;simp
 ·have h:¬ (Sum.inl a:Key)=Sum.inl b:=λq=>e (Sum.inl.inj q);rw[decide_eq_false h];exact(beq_eq_false_iff_ne.mpr e).symm
theorem MV (a b:Str):decide ((Sum.inr a:Key)=Sum.inr b)=decide (a=b):=by
 by_cases e:a=b
 ·subst e;simp
 ·have h:¬ (Sum.inr a:Key)=Sum.inr b:=λq=>e (Sum.inr.inj q);rw[decide_eq_false h,decide_eq_false e]
theorem MW (a:Int) (b:Str):decide ((Sum.inl a:Key)=Sum.inr b)=false:=decide_eq_false (λq=>nomatch q)
theorem MX (a:Str) (b:Int):decide ((Sum.inr a:Key)=Sum.inl b)=false:=decide_eq_false (λq=>nomatch q)
def tQ (prog:Program) (w:World):PySem.KeyKind prog w Key where
 is:=vf
 hash:=Vb w
 inj:=λv a b ha hb=>by
  rcases f7 ha with⟨i,t,rfl,rfl⟩|⟨x,t,rfl,rfl⟩
  ·rcases f7 hb with⟨j,u,rfl,e⟩|⟨y,u,rfl,e⟩
   ·injection e with e1 _;rw[e1]
   ·exact nomatch e
  ·rcases f7 hb with⟨j,u,rfl,e⟩|⟨y,u,rfl,e⟩
   ·exact nomatch e
   ·injection e with e1 _;rw[e1]
 byValue:=λk v h=>by
  rcases f7 h with⟨i,t,rfl,rfl⟩|⟨x,t,rfl,rfl⟩<;>rfl
 pyHash:=λhv h=>by
  rcases f7 hv with⟨i,t,rfl,rfl⟩|⟨x,t,rfl,rfl⟩
  ·exact wpAny_pyHash_int h
  ·exact wpAny_pyHash_str h
 eqBool:=λhu hv h=>by
  rcases f7 hu with⟨i,t,rfl,rfl⟩|⟨x,t,rfl,rfl⟩
  ·rcases f7 hv with⟨j,u,rfl,rfl⟩|⟨y,u,rfl,rfl⟩
   ·rw[MU]at h;exact yZ h
   ·rw[MW]at h;exact QM i t y u _ _ _ _ h
  ·rcases f7 hv with⟨j,u,rfl,rfl⟩|⟨y,u,rfl,rfl⟩
   ·rw[MX]at h;exact QN x t j u _ _ _ _ h
   ·rw[MV]at h;exact wpAny_eqBool_str h
 «strs»:=λk x t v h=>by
  rcases f7 h with⟨i,u,rfl,e⟩|⟨y,u,rfl,e⟩
  ·exact nomatch e
  ·injection e with e1 _;subst e1;cases v<;>rfl
inductive V where
 |ae|bl (b:Bool)|int (i:Int)|str (x:Str)|eZ (b:Array UInt8)|qm (b:UInt64)|ref (a:Addr)|ty (n:String)
 deriving DecidableEq
noncomputable def RelV:V->Value->Prop
 |.ae,u=>u=Value.none
 |.bl b,u=>u=Value.bool b
 |.int i,u=>∃ t,u=Value.int i t
 |.str x,u=>∃ t,u=Value.str x t
 |.eZ b,u=>∃ t,u=Value.bytes b t
 |.qm b,u=>∃ t,u=Value.float b t
 |.ref a,u=>u=Value.ref a
 |.ty n,u=>u=Value.type n
abbrev Vals:List V->List Value->Prop:=Paired RelV
theorem Vals.length {xs:List V}{us:List Value}(r:Vals xs us):xs.length=us.length:=Paired.length r
theorem Vals.get:∀ {xs:List V}{us:List Value}{i:Nat}{x:V},Vals xs us->xs[i]?=some x->∃ u,us[i]?=some u /\ RelV x u
 |_,_,_,_,.nil,e=>by simp at e
 |_,_,0,_,.cons r _,e=>by simp at e;subst e;exact⟨_,rfl,r⟩
 | _,_,i+1,x,.cons _ t,e=>by
   obtain⟨u,h1,h2⟩:=Vals.get (i:=i) (x:=x) t (by simpa using e);exact⟨u,by simpa using h1,h2⟩
theorem Vals.set {x:V}{u:Value}(r:RelV x u):∀ {xs:List V}{us:List Value}(i:Nat),Vals xs us->Vals (xs.set i x) (us.set i u)
 |_,_,_,.nil=>.nil
 |_,_,0,.cons _ t=>.cons r t
 |_,_,i+1,.cons q t=>.cons q (Vals.set r i t)
theorem Vals.append:∀ {xs ys:List V}{us ws:List Value},Vals xs us->Vals ys ws->Vals (xs++ys) (us++ws)
 |_,_,_,_,.nil,s=>s
 |_,_,_,_,.cons r t,s=>.cons r (Vals.append t s)
theorem Vals.take:∀ {xs:List V}{us:List Value}(n:Nat),Vals xs us->Vals (xs.take n) (us.take n)
 |_,_,0,_=>.nil
 |_,_,_+1,.nil=>.nil
 |_,_,n+1,.cons r t=>.cons r (Vals.take n t)
theorem Vals.drop:∀ {xs:List V}{us:List Value}(n:Nat),Vals xs us->Vals (xs.drop n) (us.drop n)
 |_,_,0,r=>r
 |_,_,_+1,.nil=>.nil
 |_,_,n+1,.cons _ t=>Vals.drop n t
def pH:Option V->Option Value->Prop
 |some v,some u=>RelV v u
 |none,none=>True
 |_,_=>False
def KV {κ:Type}:List (κ×V)->List (κ×Value)->Prop:=Paired λ(p:κ×V) (q:κ×Value)=>p.1=q.1 /\ RelV p.2 q.2
noncomputable def kV:Key->V
 |.inl i=>.int i
 |.inr x=>.str x
inductive HO where
 /-- a list -/
 |lst (xs:List V)
 /-- a tuple (never changes) -/
 |tup (xs:List V)
 /-- a dict Vc keys are ints and texts;one Vc keys are tuples of ints and texts (the empty one is both) -/
 |dK (ay:List (Key×V))|dT (ay:List (List Key×V))
 /-- a set of ints: its members,its size -/
 |set (S:Int->Bool) (n:Nat)
 /-- an instance of the class at C,its dict at dx,its attributes -/
 |ins (C dx:Addr) (fs:List (Str×V))
 /-- the dict of the instance at x -/
 |own (x:Addr)
 /-- the dict of an exception -/
 |xd (fs:List (Str×V))
 /-- a bound method,f of x -/
 |met (f x:Addr)
 /-- a range object lo,lo+1,.. below hi -/
 |vg (lo hi:Int)
 /-- a thing that is known to the object (the Z9;a dict while a loop walks it): read,never written while it is so -/
 |cW (o:Obj) (u:HO)
 /-- a code aaa table -/
 |qo (ps:Array Value)
 /-- any other thing,by aab is true of its one object (a def of Vd own: aac a S n:=HO.ext λh=>..) -/
 |ext (φ:Heap->Prop)
noncomputable abbrev Hp:=Addr->Option HO
noncomputable def upd (H:Hp) (a:Addr) (o:HO):Hp:=λb=>if b=a then some o else H b
theorem fw {H:Hp}{o:HO}:upd H a o a=some o:=by unfold upd;rw[if_pos rfl]
theorem fq {H:Hp}{b:Addr}{o:HO}(h:b≠a):upd H a o b=H b:=by unfold upd;rw[if_neg h]
theorem fE {H:Hp}{b:Addr}{o:HO}(h:H a=some o) (h':H b=none):a≠b:=by
 intro e;subst e;rw[h]at h';cases h'
section
variable (P : Program) (w : World)
noncomputable def aZ (H:Hp) (h:Heap) (a:Addr):HO->Prop
 |.lst xs=>xs.length<=sizeLine /\ ∃ (its:List Value) (n:Nat),Vals xs its /\ h.get? a=some { cls:=.type "list",data:=.seq its.toArray n }
 |.tup xs=>xs.length<=sizeLine /\ ∃ its:List Value,Vals xs its /\ IsTup h a its.toArray
 |.dK ay=>ay.length<=sizeLine /\ (a==sysModules)=false /\ ∃ vs,KV ay vs /\ h.DictOf (tQ P w) a vs
 |.dT ay=>ay.length<=sizeLine /\ (a==sysModules)=false /\ ∃ xs:List (List Key×Addr×Value),
  Paired (λ(p:List Key×V) (q:List Key×Addr×Value)=>p.1=q.1 /\ H q.2.1=some (.tup (p.1.map kV)) /\ RelV p.2 q.2.2) ay xs /\
  ∃ o es ep,h.get? a=some o /\ o.ExactDict /\ o.data=.dict es ep /\ es.toList=xs.map (entryOfKey (tupleKind (tQ P w))) /\ (xs.map (·.1)).Nodup
 |.set S n=>h.SetOf (intKind P w) a S n
 |.ins C dx fs=>H dx=some (.own a) /\ fs.length<=1000 /\ dx≠a /\ h.get? a=some (PySem.W.instObj C dx) /\
  ∃ mA,h.Ns1 dx mA /\ (∀ f,pH (fs.lookup f) (mA f)) /\ PySem.Within mA (fs.map (·.1))
 |.own _=>∃ o,h.get? a=some o
 |.xd fs=>∃ mA,h.Ns1 a mA /\ ∀ f,pH (fs.lookup f) (mA f)
 |.vg lo hi=>∃ t u v,h.get? a=some { cls:=.type "range",data:=.fields #[.int lo t,.int hi u,.int 1 v] }
 |.cW o u=>h.get? a=some o /\ aZ H h a u
 |.qo ps=>h.get? a=some { cls:=.none,data:=.fields ps }
 |.met f x=>h.get? a=some (PySem.W.methodObj (.ref f) (.ref x))
 |.ext φ=>φ h /\ (∃ o,h.get? a=some o) /\ ∀ h1 h2:Heap,φ h1->(∀ o,h1.get? a=some o->h2.get? a=some o)->φ h2
def bJ (H:Hp) (h:Heap):Prop:=∀ a o,H a=some o->aZ P w H h a o
end
section
variable {H H' : Hp} {h : Heap} {o : HO}
theorem aZ.lt (x:aZ P w H h a o):a<h.objs.size:=by
 cases o with
 |lst xs=>obtain⟨_,_,_,_,e⟩:=x;exact aP e
 |tup xs=>obtain⟨_,_,_,p⟩:=x;exact p.lt
 |dK ay=>obtain⟨_,_,_,_,o,_,_,e,_⟩:=x;exact aP e
 |dT ay=>obtain⟨_,_,_,_,o,_,_,e,_⟩:=x;exact aP e
 |set S n=>obtain⟨o,_,_,_,e,_⟩:=x;exact aP e
 |ins C dx fs=>obtain⟨_,_,_,e,_⟩:=x;exact aP e
 |own y=>obtain⟨_,e⟩:=x;exact aP e
 |xd fs=>obtain⟨_,⟨_,_,_,e,_⟩,_⟩:=x;exact aP e
 |vg lo hi=>obtain⟨_,_,_,e⟩:=x;exact aP e
 |cW ob u=>obtain⟨e,_⟩:=x;exact aP e
 |qo ps=>exact aP (show h.get? a=some _ from x)
 |met f y=>exact aP (show h.get? a=some _ from x)
 |ext φ=>obtain⟨_,⟨_,e⟩,_⟩:=x;exact aP e
theorem Paired.Q8 {α β:Type}{F G:α->β->Prop}:∀ {l₁:List α}{l₂:List β},Paired F l₁ l₂->(∀ a b,F a b->G a b)->Paired G l₁ l₂
 |_,_,.nil,_=>.nil
 |_,_,.cons r t,f=>.cons (f _ _ r) (Paired.Q8 t f)
theorem aZ.dX (x:aZ P w H h a o) (k:∀ b u,(b=a \/ H b=some (.own a))->h.get? b=some u->h'.get? b=some u)
 (ho:∀ b,H b=some (.own a)->H' b=some (.own a)) (ht:∀ b xs,H b=some (.tup xs)->H' b=some (.tup xs)):aZ P w H' h' a o:=by
 induction o with
 |lst xs=>obtain⟨z,its,n,r,e⟩:=x;exact⟨z,its,n,r,k _ _ (.inl rfl) e⟩
 |tup xs=>obtain⟨z,its,r,ob,e,c⟩:=x;exact⟨z,its,r,ob,k _ _ (.inl rfl) e,c⟩
 |dK ay=>obtain⟨z,y,vs,r,ob,es,ep,e,c⟩:=x;exact⟨z,y,vs,r,ob,es,ep,k _ _ (.inl rfl) e,c⟩
 | dT ay =>
   obtain⟨z,y,xs,r,ob,es,ep,e,c⟩:=x;exact⟨z,y,xs,Paired.Q8 r λp q z=>⟨z.1,ht _ _ z.2.1,z.2.2⟩,ob,es,ep,k _ _ (.inl rfl) e,c⟩
 |set S n=>obtain⟨ob,es,ep,t,e,c⟩:=x;exact⟨ob,es,ep,t,k _ _ (.inl rfl) e,c⟩
 | ins C dx fs =>
   obtain⟨d,z,ne,e,mA,⟨od,es,ep,e2,c⟩,r⟩:=x;exact⟨ho _ d,z,ne,k _ _ (.inl rfl) e,mA,⟨od,es,ep,k _ _ (.inr d) e2,c⟩,r⟩
 |own y=>obtain⟨ob,e⟩:=x;exact⟨ob,k _ _ (.inl rfl) e⟩
 |xd fs=>obtain⟨mA,⟨od,es,ep,e,c⟩,r⟩:=x;exact⟨mA,⟨od,es,ep,k _ _ (.inl rfl) e,c⟩,r⟩
 |vg lo hi=>obtain⟨t,u,v,e⟩:=x;exact⟨t,u,v,k _ _ (.inl rfl) e⟩
 |cW ob u ih=>obtain⟨e,q⟩:=x;exact⟨k _ _ (.inl rfl) e,ih q⟩
 | qo ps =>
   have e:h.get? a=some { cls:=.none,data:=.fields ps }:=x;show h'.get? a=some { cls:=.none,data:=.fields ps };exact k a _ (.inl rfl) e
 | met f y =>
   have e:h.get? a=some (PySem.W.methodObj (.ref f) (.ref y)):=x;show h'.get? a=some (PySem.W.methodObj (.ref f) (.ref y));exact k a _ (.inl rfl) e
 |ext φ=>obtain⟨p,⟨o,e⟩,st⟩:=x;exact⟨st _ _ p λo q=>k _ _ (.inl rfl) q,⟨o,k _ _ (.inl rfl) e⟩,st⟩
theorem bJ.lt (x:bJ P w H h) (e:H a=some o):a<h.objs.size:=(x a o e).lt
theorem bJ.fresh (x:bJ P w H h) (e:h.objs.size<=a):H a=none:=by
 cases q:H a with
 |none=>rfl
 |some u=>exact absurd (cG (x.lt q) e) (kC _)
theorem bJ.kept (x:bJ P w H h) (k:∀ b u,h.get? b=some u->h'.get? b=some u):bJ P w H h':=λa o e =>
 (x a o e).dX (λb u _ q=>k b u q) (λ_ q=>q) λ_ _ q=>q
theorem bJ.laid (x:bJ P w H h) (k:∀ b u,h.get? b=some u->h'.get? b=some u) (hp:h.objs.size<=a) (new:aZ P w (upd H a o) h' a o):bJ P w (upd H a o) h':=λb u e=>by
 have hn:=x.fresh hp;by_cases hb:b=a
 ·subst hb;rw[fw]at e;cases e;exact new
 ·rw[fq hb]at e;exact(x b u e).dX (λc v _ q=>k c v q) (λc q=>by rw[fq (fE q hn)];exact q) λc xs q=>by rw[fq (fE q hn)];exact q
end
def Rd (H:Hp) (a:Addr) (u:HO):Prop:=H a=some u \/ ∃ o,H a=some (.cW o u)
theorem Rd.ok {H:Hp}{h:Heap}{u:HO}(r:Rd H a u) (x:bJ P w H h):aZ P w H h a u:=by
 rcases r with r|⟨o,r⟩
 ·exact x a u r
 ·obtain⟨_,q⟩:=x a _ r;exact q
noncomputable def xh:Option HO->Prop
 |some (.lst _)=>True
 |some (.dK _)=>True
 |some (.dT _)=>True
 |some (.set _ _)=>True
 |some (.ins _ _ _)=>True
 |some (.ext _)=>True
 |_=>False
section
variable {H : Hp} {h : Heap} {x e : Addr} {o' : HO}
theorem bJ.write (ok:bJ P w H h) (mu:xh (H x)) (he:e=x \/ H e=some (.own x)) (k:∀ b u,b≠e->h.get? b=some u->h'.get? b=some u) (tR:∃ u,h'.get? e=some u)
 (new:aZ P w (upd H x o') h' x o'):bJ P w (upd H x o') h':=λb u q=>by
 have Q9:∀ c y,H c=some (.own y)->c≠x:=λc y r z=>by subst z;rw[r]at mu;exact mu
 have Ve:∀ c xs,H c=some (.tup xs)->c≠x:=λc xs r z=>by subst z;rw[r]at mu;exact mu
 by_cases hb:b=x
 ·subst hb;rw[fw]at q;cases q;exact new
 ·rw[fq hb]at q;by_cases rZ:b=e
  ·have q':H b=some (.own x):=by
    rcases he with z|z
    ·exact absurd (rZ.trans z) hb
    ·rw[rZ];exact z
   rw[q]at q';cases q';obtain⟨v,hv⟩:=tR;exact⟨v,by rw[rZ];exact hv⟩
  ·refine(ok b u q).dX (λc v hc r=>k c v ?_ r) (λc r=>by rw[fq (Q9 c b r)];exact r) λc xs r=>by rw[fq (Ve c xs r)];exact r
   rcases hc with rfl|hc
   ·exact rZ
   ·rintro rfl;rcases he with z|z
    ·exact Q9 c b hc z
    ·rw[hc]at z;cases z;exact hb rfl
end
structure Un (fs ex:List Addr) (H H':Hp) (h h':Heap):Prop where
 keep:∀ b o,h.get? b=some o->H b=none->b∉fs->b∉ex->h'.get? b=some o
 slot:∀ b o,h.get? b=some o->H b=none->b∈fs->b∉ex->∃ sl,h'.get? b=some { o with slots:=sl }
 free:∀ b o,h.get? b=some o->H b=none->b∉ex->H' b=none
 there:∀ b o,h.get? b=some o->b∉ex->∃ o',h'.get? b=some o'
 kH:∀ b xs,H b=some (.tup xs)->H' b=some (.tup xs)
 hG:∀ b o u,H b=some (.cW o u)->H' b=some (.cW o u)
 kI:∀ b ps,H b=some (.qo ps)->∃ more,H' b=some (.qo (ps++more))
section
variable {fs Vf ex Rh : List Addr} {H H1 H2 : Hp} {h h1 h2 : Heap} {x e : Addr} {o : HO}
theorem Un.any (u:Un fs ex H H1 h h1) {b:Addr}{ob:Obj}(q:h.get? b=some ob) (n:H b=none) (hx:b∉ex):∃ sl,h1.get? b=some { ob with slots:=sl }:=by
 by_cases hb:b∈fs
 ·exact u.slot b ob q n hb hx
 ·exact⟨ob.slots,u.keep b ob q n hb hx⟩
theorem Un.kept (k:∀ b u,h.get? b=some u->h'.get? b=some u):Un fs ex H H h h' :=
 ⟨λb ob q _ _ _=>k b ob q,λb ob q _ _ _=>⟨ob.slots,k b ob q⟩,λ_ _ _ n _=>n,λb ob q _=>⟨ob,k b ob q⟩,λ_ _ q=>q,λ_ _ _ q=>q,λ_ ps q=>⟨#[],by rw[q];simp⟩⟩
theorem Un.refl:Un fs ex H H h h:=Un.kept λ_ _ q=>q
theorem Un.laid (k:∀ b u,h.get? b=some u->h'.get? b=some u) (hp:h.objs.size<=a) (hn:H a=none):Un fs ex H (upd H a o) h h' where
 keep:=λb u q _ _ _=>k b u q
 slot:=λb u q _ _ _=>⟨u.slots,k b u q⟩
 free:=λb u q n _=>by rw[fq (cU (cG (aP q) hp))];exact n
 there:=λb u q _=>⟨u,k b u q⟩
 kH:=λb xs q=>by rw[fq (fE q hn)];exact q
 hG:=λb u xs q=>by rw[fq (fE q hn)];exact q
 kI:=λb ps q=>⟨#[],by rw[fq (fE q hn),q];simp⟩
theorem Un.write (mu:xh (H x)) (he:e=x \/ H e=some (.own x)) (k:∀ b u,b≠e->h.get? b=some u->h'.get? b=some u) (tR:∃ u,h'.get? e=some u):Un fs ex H (upd H x o) h h':=by
 have hx:∀ b,H b=none->b≠x:=λb n z=>by subst z;rw[n]at mu;exact mu
 have hb:∀ b,H b=none->b≠e:=λb n z=>by
  subst z;rcases he with r|r
  ·exact hx b n r
  ·rw[n]at r;cases r
 have hm:∀ b u,H b=some u->¬ xh (some u)->b≠x:=λb u q nm z=>by subst z;rw[q]at mu;exact nm mu
 refine⟨λb u q n _ _=>k b u (hb b n) q,λb u q n _ _=>⟨u.slots,k b u (hb b n) q⟩,λb u q n _=>by rw[fq (hx b n)];exact n,λb u q _=>?_,
  λb xs q=>by rw[fq (hm b _ q λz=>z)];exact q,λb u xs q=>by rw[fq (hm b _ q λz=>z)];exact q,λb ps q=>⟨#[],by rw[fq (hm b _ q λz=>z),q];simp⟩⟩
 by_cases rZ:b=e
 ·subst rZ;exact tR
 ·exact⟨u,k b u rZ q⟩
end
noncomputable def xi (h:Heap) (H:Hp):List Addr:=(List.range h.objs.size).filter λa=>(H a).isSome
def qr (h:Heap) (H:Hp):Heap:=PySem.W.hideAll h (xi h H)
theorem DZ (h:Heap) (H:Hp):(qr h H).objs.size=h.objs.size:=PySem.W.hideAll_size _ _
theorem FR {h:Heap}{H:Hp}{b:Addr}{o:Obj}(e:h.get? b=some o) (n:H b=none):(qr h H).get? b=some o :=
 PySem.W.hideAll_get _ e λhm=>by
  have q:(H b).isSome=true:=(List.mem_filter.mp hm).2;rw[n]at q;simp at q
theorem JS {h:Heap}{H:Hp}{b:Addr}{o:Obj}(e:(qr h H).get? b=some o):h.get? b=some o /\ H b=none:=by
 have e':h.get? b=some o:=PySem.W.of_hideAll (xi h H) e;refine⟨e',?_⟩;cases q:H b with
 |none=>rfl
 | some x =>
   have hm:b∈xi h H:=List.mem_filter.mpr ⟨List.mem_range.mpr (aP e'),by simp[q]⟩;have z:(qr h H).get? b=none:=PySem.W.hideAll_none (xi h H) hm;rw[z]at e;cases e
end L2
variable {H H' F H0 : L2.Hp}{o : L2.HO}{ay : List (L2.Key × L2.V)}
namespace L2
structure Mod (K:PySem.W.Frag) (mg:Str->Option Value) (base:Heap):Prop where
 qW:K.In base
 glob:base.Ns mainGlobals mg
 blt:∃ mb,base.Ns builtinsNs mb /\ ∀ x:Str,x ≠ "__name__"->mb x=bootBuiltins x
 nolimit:base.NoLimit
structure Cx where
 prog:Program
 w:World
 K:PySem.W.Frag
 mg:Str->Option Value
 base:Heap
 A:Around
 N:List Str
 s₀:Shared
 H₀:Hp
 env:Env
 outer:List Env
 stack:List Env
 ex:List Addr
 fn:Str->Bool
 calm:Bool
 pn:List (Addr×Obj)
 xe:Value->Shared->Prop
noncomputable def cH (l:List Env):List Addr:=l.filterMap (·.frame)
abbrev Cx.fs (X:Cx):List Addr:=cH X.outer
def qt (sc:Scope) (x:Str):Prop:=sc.names.lookup x=some .local \/ sc.names.lookup x=some .cell \/ sc.names.lookup x=some .free
def Loc (sc:Scope) (x:Str):Prop:=sc.names.lookup x=some .local \/ sc.names.lookup x=some .cell
def Look (env:Env) (h:Heap) (m:Str->Option Value) (x:Str) (u:Value):Prop :=
 (env.kindOf x=some .local /\ m x=some u) \/ ((env.kindOf x=some .cell \/ env.kindOf x=some .free) /\ ∃ c,env.cells.lookup x=some c /\ h.IsCell c (some u))
structure Cx.Ok (X:Cx):Prop where
 mod:Mod X.K X.mg X.base
 kind:X.env.scope.kind=.function
 glob:X.env.globals=mainGlobals
 blt:X.env.builtins=builtinsNs
 above:X.s₀.heap.objs.size<=X.env.locals
 inj:∀ x y c,X.env.cells.lookup x=some c->X.env.cells.lookup y=some c->x=y
 has:∀ x,(X.env.kindOf x=some .cell \/ X.env.kindOf x=some .free)->∃ c,X.env.cells.lookup x=some c
 tT:∀ x c,X.fn x=true->X.env.cells.lookup x=some c->X.s₀.heap.objs.size<=c
 hd:X.calm=true->X.A.handled=none
 frames:X.A.frames=some X.stack
 vh:X.stack=X.outer \/ (X.stack=X.env::X.outer /\ X.env.frame=some X.env.locals)
 vi:∀ b∈X.ex,b≠X.env.locals /\ ∀ x c,X.env.cells.lookup x=some c->c≠b
 bs:∀ b o,X.base.get? b=some o->X.s₀.heap.get? b=some o /\ X.H₀ b=none
 pI:X.base.objs.size<=X.s₀.heap.objs.size
 tU:∀ b o,X.base.get? b=some o->b∉X.ex
 tV:∀ b∈X.ex,b∉X.fs
 dY:X.s₀.heap.FunFrames X.base X.outer
 nL:∀ b∈X.fs,X.H₀ b=none
structure Inv (X:Cx) (pins:List (Addr×Obj)) (σ:List (Option V)) (H:Hp) (s:Shared):Prop where
 ok:X.Ok
 os:s.os=X.s₀.os
 bare:AllBare s.gens
 base:Un X.fs X.ex X.H₀ H X.s₀.heap s.heap
 loc:∃ m,s.heap.Ns X.env.locals m /\ ∀ (i:Nat) (x:Str) (v:V),X.N[i]?=some x->σ[i]?=some (some v)->qt X.env.scope x->∃ u,RelV v u /\ Look X.env s.heap m x u
 cell:∀ x c,X.env.cells.lookup x=some c->∃ v,s.heap.IsCell c v
 free:H X.env.locals=none
 hJ:∀ x c,X.env.cells.lookup x=some c->H c=none
 pin:∀ p∈X.pn++pins,s.heap.get? p.1=some p.2 /\ H p.1=none /\ p.1≠X.env.locals /\ p.1∉X.fs /\ ∀ v,p.2.data≠.cell v
 ai:bJ X.prog X.w H s.heap
 len:σ.length=X.N.length
section
variable {X : Cx} {σ : List (Option V)} 
theorem Cx.Ok.Vg (ok:X.Ok) {b:Addr}{o:Obj}(e:X.base.get? b=some o):b∉X.fs:=λhb=>by
 have:=(ok.dY.mem hb).1;rw[e]at this;cases this
theorem Inv.bs (I:Inv X pins σ H s):∀ b o,X.base.get? b=some o->s.heap.get? b=some o /\ H b=none:=λb o e =>
 ⟨I.base.keep b o (I.ok.bs b o e).1 (I.ok.bs b o e).2 (I.ok.Vg e) (I.ok.tU b o e),I.base.free b o (I.ok.bs b o e).1 (I.ok.bs b o e).2 (I.ok.tU b o e)⟩
theorem Inv.bk (I:Inv X pins σ H s):∀ b o,X.base.get? b=some o->s.heap.get? b=some o:=λb o e=>(I.bs b o e).1
theorem Inv.mod (I:Inv X pins σ H s):Mod X.K X.mg X.base:=I.ok.mod
theorem Inv.bz (I:Inv X pins σ H s):X.K.In s.heap:=I.ok.mod.qW.keeps I.bk
theorem Inv.lt (I:Inv X pins σ H s):X.env.locals<s.heap.objs.size:=let ⟨_,hn,_⟩:=I.loc;hn.lt
theorem Inv.sz (I:Inv X pins σ H s):X.s₀.heap.objs.size<=s.heap.objs.size:=bu I.ok.above (eu I.lt)
theorem Inv.Vh (I:Inv X pins σ H s) (h:s.heap.objs.size<=a):a∉X.fs:=λhb=>by
 obtain⟨_,o,ho,_⟩:=I.ok.dY.mem hb;exact absurd (cG (aP ho) (bu I.sz h)) (kC _)
theorem Inv.qu (I:Inv X pins σ H s):∀ x c,X.env.cells.lookup x=some c->c≠X.env.locals:=λx c e z=>by
 obtain⟨v,o,ho,hd⟩:=I.cell x c e;obtain⟨m,⟨o',es,ep,nM,Eh,_⟩,_⟩:=I.loc;rw[z,nM]at ho;cases ho;rw[Eh]at hd;cases hd
theorem Inv.dY (I:Inv X pins σ H s):s.heap.FunFrames X.base X.outer:=by
 have all:∀ (l:List Env),(∀ b∈cH l,b∈X.fs)->X.s₀.heap.FunFrames X.base l->s.heap.FunFrames X.base l:=by
  intro l;induction l with
  |nil=>intro _ _;trivial
  | cons env r ih =>
    intro hs hl;obtain⟨hk,⟨L,o,hf,hn,ho,hd⟩,hr⟩:=hl;have hL:L∈X.fs:=hs L (by unfold cH;rw[pB,hf];exact a8);obtain⟨sl,e⟩:=I.base.slot L o ho (I.ok.nL L hL) hL λz=>I.ok.tV L z hL;exact⟨hk,⟨L,_,hf,hn,e,hd⟩,ih (λb hb=>hs b (by unfold cH;rw[pB,hf];exact aV _ hb)) hr⟩
 exact all X.outer (λ_ hb=>hb) I.ok.dY
theorem Inv.stack (I:Inv X pins σ H s):s.heap.FunFrames X.base X.stack:=by
 rcases I.ok.vh with e|⟨e,hf⟩
 ·rw[e];exact I.dY
 ·rw[e];obtain⟨m,hn,_⟩:=I.loc;refine .cons (by rw[I.ok.kind];decide) hf hn ?_ I.dY;exact KY (bu I.ok.pI I.ok.above)
theorem Inv.tW (I:Inv X pins σ H s):∀ b∈cH X.stack,b∈X.env.locals::X.fs:=λb hb=>by
 rcases I.ok.vh with e|⟨e,hf⟩
 ·rw[e]at hb;exact aV _ hb
 ·rw[e]at hb;unfold cH at hb;rw[pB,hf]at hb;exact hb
theorem Inv.Ei (I:Inv X pins σ H s):∀ b∈cH X.stack,H b=none:=λb hb=>by
 rcases aY.mp (I.tW b hb) with e|hb
 ·rw[e];exact I.free
 ·obtain⟨_,o,ho,_⟩:=I.ok.dY.mem hb;exact I.base.free b o ho (I.ok.nL b hb) λz=>I.ok.tV b z hb
theorem Inv.step {g':Array GenState}{d':Drawn}(I:Inv X pins σ H s)
 (pJ:∀ b∈ch,(b∈X.ex \/ X.s₀.heap.objs.size<=b) /\ b≠X.env.locals /\ (∀ x c,X.env.cells.lookup x=some c->c≠b) /\ ∀ p∈X.pn++pins,p.1≠b)
 (keep:∀ b o,b≠X.env.locals->b∉X.fs->b∉ch->s.heap.get? b=some o->H b=none->h'.get? b=some o)
 (slot:∀ b o,b≠X.env.locals->b∈X.fs->b∉ch->s.heap.get? b=some o->H b=none->∃ sl,h'.get? b=some { o with slots:=sl }) (free:∀ b o,b∉ch->s.heap.get? b=some o->H b=none->H' b=none)
 (there:∀ b o,b∉ch->s.heap.get? b=some o->∃ o',h'.get? b=some o')
 (kH:∀ b xs,H b=some (.tup xs)->H' b=some (.tup xs)) (hG:∀ b o u,H b=some (.cW o u)->H' b=some (.cW o u)) (kI:∀ b ps,H b=some (.qo ps)->∃ more,H' b=some (.qo (ps++more)))
 (ns:∀ m,s.heap.Ns X.env.locals m->h'.Ns X.env.locals m) (ai:bJ X.prog X.w H' h') (hg:AllBare g') :
 Inv X pins σ H' { s with heap:=h',gens:=g',drawn:=d',toks:=t' }:=by
 have Rj:∀ b o,X.s₀.heap.get? b=some o->b≠X.env.locals:=λb o e=>cU (cG (aP e) I.ok.above);have qX:∀ b o,X.s₀.heap.get? b=some o->b∉X.ex->b∉ch:=λb o e hx hb=>by
  rcases(pJ b hb).1 with z|z
  ·exact hx z
  ·exact absurd (cG (aP e) z) (kC _)
 have cellK:∀ x c,X.env.cells.lookup x=some c->∀ v,s.heap.IsCell c v->h'.IsCell c v:=λx c e v ⟨o,ho,hd⟩=>by
  have nN:c∉ch:=λz=>(pJ c z).2.2.1 x c e rfl;by_cases hc:c∈X.fs
  ·obtain⟨sl,q⟩:=slot c o (I.qu x c e) hc nN ho (I.hJ x c e);exact⟨_,q,hd⟩
  ·exact⟨o,keep c o (I.qu x c e) hc nN ho (I.hJ x c e),hd⟩
 refine⟨I.ok,I.os,hg,⟨λb o e n hb hx=>?_,λb o e n hb hx=>?_,λb o e n hx=>?_,λb o e hx=>?_,λb xs e=>kH b xs (I.base.kH b xs e),λb o xs e=>hG b o xs (I.base.hG b o xs e),λb ps e=>?_⟩,?_,λx c e=>?_,?_,λx c e=>?_,λp hp=>?_,ai,I.len⟩
 ·exact keep b o (Rj b o e) hb (qX b o e hx) (I.base.keep b o e n hb hx) (I.base.free b o e n hx)
 ·obtain⟨sl,e1⟩:=I.base.slot b o e n hb hx;obtain⟨tX,e2⟩:=slot b _ (Rj b o e) hb (qX b o e hx) e1 (I.base.free b o e n hx);exact⟨tX,e2⟩
 ·obtain⟨o',e1⟩:=I.base.there b o e hx;exact free b o' (qX b o e hx) e1 (I.base.free b o e n hx)
 ·obtain⟨o',e1⟩:=I.base.there b o e hx;exact there b o' (qX b o e hx) e1
 ·obtain⟨m1,e1⟩:=I.base.kI b ps e;obtain⟨m2,e2⟩:=kI b _ e1;exact⟨m1++m2,by rw[e2,Array.append_assoc]⟩
 ·obtain⟨m,hn,hl⟩:=I.loc;refine⟨m,ns m hn,λi x v e1 e2 e3=>?_⟩;obtain⟨u,r,l⟩:=hl i x v e1 e2 e3;refine⟨u,r,?_⟩;rcases l with l|⟨k,c,e,z⟩
  ·exact .inl l
  ·exact .inr ⟨k,c,e,cellK x c e _ z⟩
 ·obtain⟨v,z⟩:=I.cell x c e;exact⟨v,cellK x c e v z⟩
 ·obtain⟨m,⟨o,_,_,ho,_⟩,_⟩:=I.loc;exact free _ o (λz=>(pJ _ z).2.1 rfl) ho I.free
 ·obtain⟨v,o,ho,hd⟩:=I.cell x c e;exact free c o (λz=>(pJ c z).2.2.1 x c e rfl) ho (I.hJ x c e)
 ·obtain⟨e,n,ne,nf,d⟩:=I.pin p hp;have nN:p.1∉ch:=λz=>(pJ p.1 z).2.2.2 p hp rfl;exact⟨keep p.1 p.2 ne nf nN e n,free p.1 p.2 nN e n,ne,nf,d⟩
theorem Inv.un (I:Inv X pins σ H s) (u:Un X.fs [] H H' s.heap h') (ai:bJ X.prog X.w H' h'):Inv X pins σ H' { s with heap:=h',toks:=t' }:=by
 obtain⟨m,⟨o,es,ep,ho,r⟩,_⟩:=id I.loc;obtain⟨sl,hL⟩:=u.any ho I.free (by simp);exact I.step (g':=s.gens) (d':=s.drawn) (ch:=[]) (λ_ z=>nomatch z) (λb o _ hb _ e n=>u.keep b o e n hb (by simp)) (λb o _ hb _ e n=>u.slot b o e n hb (by simp)) (λb o _ e n=>u.free b o e n (by simp)) (λb o _ e=>u.there b o e (by simp)) u.kH u.hG u.kI (λm' hm=>by
  obtain⟨o',Ej,Ek,nM,r'⟩:=hm;rw[ho]at nM;cases nM;exact⟨_,Ej,Ek,hL,r'⟩) ai I.bare
theorem Inv.call {g':Array GenState}{d':Drawn}(I:Inv X pins σ H s) (u:Un (cH X.stack) ch H H' s.heap h') (ai:bJ X.prog X.w H' h') (hg:AllBare g')
 (pJ:∀ b∈ch,(b∈X.ex \/ X.s₀.heap.objs.size<=b) /\ b≠X.env.locals /\ (∀ x c,X.env.cells.lookup x=some c->c≠b) /\ ∀ p∈X.pn++pins,p.1≠b) :
 Inv X pins σ H' { s with heap:=h',gens:=g',drawn:=d',toks:=t' }:=by
 obtain⟨m,⟨o,es,ep,ho,r⟩,_⟩:=id I.loc;obtain⟨sl,hL⟩:=u.any ho I.free λz=>(pJ _ z).2.1 rfl;exact I.step (ch:=ch) pJ (λb o hL hb hc e n=>u.keep b o e n (λz=>(aY.mp (I.tW b z)).elim hL hb) hc) (λb o _ _ hc e n=>u.any e n hc) (λb o hc e n=>u.free b o e n hc) (λb o hc e=>u.there b o e hc) u.kH u.hG u.kI (λm' hm=>by
  obtain⟨o',Ej,Ek,nM,r'⟩:=hm;rw[ho]at nM;cases nM;exact⟨_,Ej,Ek,hL,r'⟩) ai hg
theorem Inv.turned {it:Addr}(I:Inv X pins σ H s) (k:∀ b o,b≠it->s.heap.get? b=some o->h'.get? b=some o) (hn:H it=none) (hL:it≠X.env.locals)
 (h1:it∈X.ex \/ X.s₀.heap.objs.size<=it) (h2:∀ x c,X.env.cells.lookup x=some c->c≠it) (h3:∀ p∈X.pn++pins,p.1≠it):Inv X pins σ H { s with heap:=h',toks:=t' }:=by
 have Rk:∀ b u,H b=some u->b≠it:=λb u e z=>by rw[z,hn]at e;cases e
 refine I.step (g':=s.gens) (d':=s.drawn) (ch:=[it]) (λb hb=>?_) (λb o _ _ hc e _=>k b o (λz=>hc (by simp[z])) e) (λb o _ _ hc e _=>⟨o.slots,k b o (λz=>hc (by simp[z])) e⟩) (λ_ _ _ _ n=>n)
  (λb o hc e=>⟨o,k b o (λz=>hc (by simp[z])) e⟩) (λ_ _ e=>e) (λ_ _ _ e=>e) (λb ps e=>⟨#[],by rw[e];simp⟩) (λm hm=>?_) (λb u e=>?_) I.bare
 ·have e:b=it:=by simpa using hb
  subst e;exact⟨h1,hL,h2,h3⟩
 ·obtain⟨o,es,ep,ho,r⟩:=hm;exact⟨o,es,ep,k _ o (Ne.symm hL) ho,r⟩
 ·refine(I.ai b u e).dX (λc v hc q=>k c v ?_ q) (λ_ q=>q) λ_ _ q=>q;rcases hc with z|z
  ·rw[z];exact Rk b u e
  ·exact Rk c _ z
theorem Inv.tok (I:Inv X pins σ H s) (t:Nat):Inv X pins σ H { s with toks:=t }:=I.un (h':=s.heap) (t':=t) Un.refl I.ai
theorem Inv.kept {t':Nat}(I:Inv X pins σ H s) (k:∀ b u,s.heap.get? b=some u->h'.get? b=some u):Inv X pins σ H { s with heap:=h',toks:=t' }:=I.un (Un.kept k) (I.ai.kept k)
theorem Inv.laid {a:Addr}{o:HO}{t':Nat}(I:Inv X pins σ H s) (k:∀ b u,s.heap.get? b=some u->h'.get? b=some u) (hp:s.heap.objs.size<=a) (new:aZ X.prog X.w (upd H a o) h' a o) :
 Inv X pins σ (upd H a o) { s with heap:=h',toks:=t' }:=I.un (Un.laid k hp (I.ai.fresh hp)) (I.ai.laid k hp new)
theorem Inv.write {x e:Addr}{o:HO}{t':Nat}(I:Inv X pins σ H s) (mu:xh (H x)) (he:e=x \/ H e=some (.own x)) (k:∀ b u,b≠e->s.heap.get? b=some u->h'.get? b=some u) (tR:∃ u,h'.get? e=some u)
 (new:aZ X.prog X.w (upd H x o) h' x o):Inv X pins σ (upd H x o) { s with heap:=h',toks:=t' }:=I.un (Un.write mu he k tR) (I.ai.write mu he k tR new)
theorem Inv.El {qY:List (Addr×Obj)}(I:Inv X pins σ H s) (h:∀ p∈qY,s.heap.get? p.1=some p.2 /\ H p.1=none /\ p.1≠X.env.locals /\ p.1∉X.fs /\ ∀ v,p.2.data≠.cell v):Inv X qY σ H s :=
 ⟨I.ok,I.os,I.bare,I.base,I.loc,I.cell,I.free,I.hJ,λp hp=>(List.mem_append.mp hp).elim (λz=>I.pin p (kD _ z)) (h p),I.ai,I.len⟩
theorem oo (hN:N.Nodup) (a:N[i]?=some x) (b:N[j]?=some x):i=j:=by
 obtain⟨h1,e1⟩:=List.getElem?_eq_some_iff.mp a;obtain⟨h2,e2⟩:=List.getElem?_eq_some_iff.mp b;exact(List.getElem_inj hN).mp (e1.trans e2.symm)
theorem D0 {v:V}{Q:Unit->Shared->Prop}(I:Inv X pins σ H s) (hN:X.N.Nodup) (hi:X.N[i]?=some x) (hx:Loc X.env.scope x) (r:RelV v u)
 (h:∀ s',Inv X pins (σ.set i (some v)) H s'->(∃ a,Heap.SameBut a s.heap s'.heap /\ (a=X.env.locals \/ X.env.cells.lookup x=some a))->Q () s') (hf:X.fn x=true \/ X.env.scope.names.lookup x=some .local:=by first|exact .inl rfl|exact .inr rfl|assumption):wpAny M A (storeName X.env x u) Q E s:=by
 obtain⟨m,hn,hl⟩:=id I.loc;have Vi:(X.env.scope.kind==.class||(X.env.scope.kind==.module&&X.env.locals != X.env.globals))=false:=by rw[I.ok.kind];rfl
 have Rm:i<σ.length:=by rw[I.len];exact(List.getElem?_eq_some_iff.mp hi).1
 have qu:=I.qu;have tracked:∀ {a:Addr}{h':Heap},(∃ o,s.heap.get? a=some o /\ H a=none)->Heap.SameBut a s.heap h'->bJ X.prog X.w H h':=λ{a h'} ha hs b ob e=>by
  obtain⟨_,_,Rn⟩:=ha;refine(I.ai b ob e).dX (λc w' hc q=>(hs.2 c ?_).trans q) (λ_ q=>q) λ_ _ q=>q;rintro rfl;rcases hc with rfl|hc
  ·rw[Rn]at e;cases e
  ·rw[Rn]at hc;cases hc
 rcases hx with hk|hk
 ·refine wpAny_storeName_local hk hn (λh' qv hs=>?_) Vi;obtain⟨oL,_,_,xj,_⟩:=id hn;refine h _ ⟨I.ok,I.os,I.bare,⟨λb o e n hb hx=>?_,λb o e n hb hx=>?_,I.base.free,λb o e hx=>?_,I.base.kH,I.base.hG,I.base.kI⟩,⟨_,qv,λj y v' e1 e2 e3=>?_⟩,λy c e=>?_,I.free,I.hJ,λp hp=>?_,tracked ⟨oL,xj,I.free⟩ hs,by simpa using I.len⟩ ⟨_,hs,.inl rfl⟩
  ·exact(hs.2 b (cU (cG (aP e) I.ok.above))).trans (I.base.keep b o e n hb hx)
  ·obtain⟨sl,e1⟩:=I.base.slot b o e n hb hx;exact⟨sl,(hs.2 b (cU (cG (aP e) I.ok.above))).trans e1⟩
  ·obtain⟨o',e1⟩:=I.base.there b o e hx;exact⟨o',(hs.2 b (cU (cG (aP e) I.ok.above))).trans e1⟩
  ·by_cases hj:j=i
   ·subst hj;rw[hi]at e1;cases e1;rw[pC Rm]at e2;cases e2;exact⟨u,r,.inl ⟨hk,by simp⟩⟩
   ·rw[pD (Ne.symm hj)]at e2;obtain⟨u',r',q⟩:=hl j y v' e1 e2 e3;refine⟨u',r',?_⟩;rcases q with⟨k,e⟩|⟨k,c,e,z⟩
    ·refine .inl ⟨k,?_⟩;have:y≠x:=λe=>hj (oo hN e1 (e▸hi));simp[this,e]
    ·exact .inr ⟨k,c,e,z.sameBut hs (qu y c e)⟩
  ·obtain⟨w',z⟩:=I.cell y c e;exact⟨w',z.sameBut hs (qu y c e)⟩
  ·obtain⟨e,n,ne,nf,d⟩:=I.pin p hp;exact⟨(hs.2 p.1 ne).trans e,n,ne,nf,d⟩
 ·have Em:X.fn x=true:=by
   rcases hf with z|z
   ·exact z
   ·rw[z]at hk;cases hk
  obtain⟨c,hc⟩:=I.ok.has x (.inl hk);obtain⟨w',z⟩:=I.cell x c hc;refine wpAny_storeName_cell I.ok.kind hk hc z (λh' Ro hs=>?_);obtain⟨oc,xk,Vj⟩:=id z;refine h { s with heap:=h' } ⟨I.ok,I.os,I.bare,⟨λb o e n hb hx=>?_,λb o e n hb hx=>?_,I.base.free,λb o e hx=>?_,I.base.kH,I.base.hG,I.base.kI⟩,⟨m,hn.sameBut hs (Ne.symm (qu x c hc)),λj y v' e1 e2 e3=>?_⟩,λy c' e=>?_,I.free,I.hJ,λp hp=>?_,tracked ⟨oc,xk,I.hJ x c hc⟩ hs,by simpa using I.len⟩ ⟨c,hs,.inr hc⟩
  ·exact(hs.2 b (cU (cG (aP e) (I.ok.tT x c Em hc)))).trans (I.base.keep b o e n hb hx)
  ·obtain⟨sl,e1⟩:=I.base.slot b o e n hb hx;exact⟨sl,(hs.2 b (cU (cG (aP e) (I.ok.tT x c Em hc)))).trans e1⟩
  ·obtain⟨o',e1⟩:=I.base.there b o e hx;exact⟨o',(hs.2 b (cU (cG (aP e) (I.ok.tT x c Em hc)))).trans e1⟩
  ·by_cases hj:j=i
   ·subst hj;rw[hi]at e1;cases e1;rw[pC Rm]at e2;cases e2;exact⟨u,r,.inr ⟨.inl hk,c,hc,Ro⟩⟩
   ·rw[pD (Ne.symm hj)]at e2;obtain⟨u',r',q⟩:=hl j y v' e1 e2 e3;refine⟨u',r',?_⟩;rcases q with q|⟨k,c',e,z'⟩
    ·exact .inl q
    ·refine .inr ⟨k,c',e,z'.sameBut hs ?_⟩;rintro rfl;exact hj (oo hN e1 (I.ok.inj _ _ _ e hc▸hi))
  ·by_cases cJ:c'=c
   ·subst cJ;exact⟨_,Ro⟩
   ·obtain⟨w2,z2⟩:=I.cell y c' e;exact⟨w2,z2.sameBut hs cJ⟩
  ·obtain⟨e,n,ne,nf,d⟩:=I.pin p hp;refine⟨(hs.2 p.1 ?_).trans e,n,ne,nf,d⟩;intro q;rw[q,xk]at e;have q':oc=p.2:=Option.some.inj e;exact d w' (by rw[<-q'];exact Vj)
theorem jL {v:V}{Q:Unit->Shared->Prop}(I:Inv X pins σ H s) (hN:X.N.Nodup) (hi:X.N[i]?=some x) (hx:Loc X.env.scope x) (r:RelV v u)
 (h:∀ s',Inv X pins (σ.set i (some v)) H s'->Q () s') (hf:X.fn x=true \/ X.env.scope.names.lookup x=some .local:=by first|exact .inl rfl|exact .inr rfl|assumption):wpAny M A (storeName X.env x u) Q E s :=
 D0 I hN hi hx r (λs' I' _=>h s' I') hf
theorem Inv.Rp {s':Shared}(I:Inv X pins σ H s) (ho:s'.os=s.os) (u:Un (cH X.stack) ch H H' s.heap s'.heap) (ai:bJ X.prog X.w H' s'.heap) (hg:AllBare s'.gens)
 (pJ:∀ b∈ch,(b∈X.ex \/ X.s₀.heap.objs.size<=b) /\ b≠X.env.locals /\ (∀ x c,X.env.cells.lookup x=some c->c≠b) /\ ∀ p∈X.pn++pins,p.1≠b):Inv X pins σ H' s':=by
 obtain⟨h',g',d',t',o'⟩:=s';have e:o'=s.os:=ho;subst e;exact I.call (g':=g') (t':=t') (d':=d') u ai hg pJ
end
abbrev XK:=Value->Option Addr->Hp->Prop
noncomputable abbrev St:=List (Option V)
abbrev VK:=V->Hp->Prop
abbrev TE:=St->Hp->VK->Prop
abbrev TT:=St->Hp->(Bool->Hp->Prop)->Prop
abbrev TA:=St->Hp->(List V->Hp->Prop)->Prop
structure Ends where
 nx:St->Hp->Prop
 rt:VK
 bk:St->Hp->Prop:=λ_ _=>False
 ct:St->Hp->Prop:=λ_ _=>False
abbrev TS:=Ends->St->Hp->Prop
def EP (X:Cx) (pins:List (Addr×Obj)) (σ:St) (Q:VK) (u:Value) (s':Shared):Prop:=∃ v H',Inv X pins σ H' s' /\ RelV v u /\ Q v H'
def TP (X:Cx) (pins:List (Addr×Obj)) (σ:St) (Q:Bool->Hp->Prop) (b:Bool) (s':Shared):Prop:=∃ H',Inv X pins σ H' s' /\ Q b H'
def AP (X:Cx) (pins:List (Addr×Obj)) (σ:St) (Q:List V->Hp->Prop) (us:List Value) (s':Shared):Prop:=∃ vs H',Inv X pins σ H' s' /\ Vals vs us /\ Q vs H'
def SP (X:Cx) (pins:List (Addr×Obj)) (D:Ends) (f:Flow) (s':Shared):Prop :=
 match f with
 |.next=>∃ σ' H',Inv X pins σ' H' s' /\ D.nx σ' H'
 |.brk=>∃ σ' H',Inv X pins σ' H' s' /\ D.bk σ' H'
 |.cont=>∃ σ' H',Inv X pins σ' H' s' /\ D.ct σ' H'
 |.ret u=>∃ v σ' H',Inv X pins σ' H' s' /\ RelV v u /\ D.rt v H'
def PE (X:Cx) (e:Expr) (t:TE):Prop :=
 ∀ (pins:List (Addr×Obj)) (s:Shared) (σ:St) (H:Hp) (Q:VK),Inv X pins σ H s->t σ H Q->wpAny (model X.prog X.w) X.A (eval e X.env) (EP X pins σ Q) X.xe s
def PT (X:Cx) (e:Expr) (t:TT):Prop :=
 ∀ (pins:List (Addr×Obj)) (s:Shared) (σ:St) (H:Hp) (Q:Bool->Hp->Prop),Inv X pins σ H s->t σ H Q->wpAny (model X.prog X.w) X.A (isTrue e X.env (eval e X.env)) (TP X pins σ Q) X.xe s
def PW (X:Cx) (e:Expr) (t:TT):Prop :=
 ∀ (whole:Sem Value) (pins:List (Addr×Obj)) (s:Shared) (σ:St) (H:Hp) (Q:Bool->Hp->Prop),Inv X pins σ H s->t σ H Q->wpAny (model X.prog X.w) X.A (isTrue e X.env whole) (TP X pins σ Q) X.xe s
theorem PW.pt {X:Cx}{t:TT}(h:PW X e t):PT X e t:=h _
def PA (X:Cx) (es:List Expr) (t:TA):Prop :=
 ∀ (pos:Pos) (pins:List (Addr×Obj)) (s:Shared) (σ:St) (H:Hp) (Q:List V->Hp->Prop),Inv X pins σ H s->t σ H Q->wpAny (model X.prog X.w) X.A (spliced (backTo pos (starEach es X.env))) (AP X pins σ Q) X.xe s
def PS (X:Cx) (st:Stmt) (t:TS):Prop :=
 ∀ (pins:List (Addr×Obj)) (s:Shared) (σ:St) (H:Hp) (D:Ends),Inv X pins σ H s->t D σ H->wpAny (model X.prog X.w) X.A (exec st X.env) (SP X pins D) X.xe s
def bQ (X:Cx) (st:List Stmt) (t:TS):Prop :=
 ∀ (pins:List (Addr×Obj)) (s:Shared) (σ:St) (H:Hp) (D:Ends),Inv X pins σ H s->t D σ H->wpAny (model X.prog X.w) X.A (execs st X.env) (SP X pins D) X.xe s
theorem ao {t:Sem α}{Q Q':α->Shared->Prop}(h:wpAny M A t Q E s) (hQ:∀ a s,Q a s->Q' a s):wpAny M A t Q' E s:=eW h hQ λ_ _ x=>x
end L2
variable {X : L2.Cx}{σ : L2.St}
namespace L2
section
def Rq (i:Nat):TE:=λσ H Q=>∃ v,σ[i]?=some (some v) /\ Q v H
def tC (v:V):TE:=λ_ H Q=>Q v H
theorem AO (hN:X.N[i]?=some x) (hv:qt X.env.scope x) (hd:(x==("__debug__":Str))=false:=by decide) (cw:(x==("__classdict__":Str))=false:=by decide):PE X (.Name x pos) (Rq i):=by
 intro pins s σ H Q I h;obtain⟨v,e,h⟩:=h;obtain⟨m,hn,hl⟩:=I.loc;obtain⟨u,r,l⟩:=hl i x v hN e hv;have fin:EP X pins σ Q u s:=⟨v,H,I,r,h⟩;rcases l with⟨hk,hm⟩|⟨hk,c,hc,xl⟩
 ·exact y0 (wpAny_loadName_local I.ok.kind hk hn hm fin) hd
 ·rcases hk with hk|hk
  ·exact y0 (wpAny_loadName_cell I.ok.kind hk hc xl fin) hd
  ·exact y0 (wpAny_loadName_free I.ok.kind hk hc xl fin cw) hd
theorem Ca {i j pos}:PE X (.Constant (.int i) j pos) (tC (.int i)):=λ_ _ _ H _ I h=>wpAny_Constant_int ⟨.int i,H,I.tok _,⟨_,rfl⟩,h⟩
theorem FS {b j pos}:PE X (.Constant (.bool b) j pos) (tC (.bl b)):=λ_ _ _ H _ I h=>Constant_bool ⟨.bl b,H,I,rfl,h⟩
theorem MY {j pos}:PE X (.Constant .none j pos) (tC .ae):=λ_ _ _ H _ I h=>Constant_none ⟨.ae,H,I,rfl,h⟩
theorem Cb {x j pos}:PE X (.Constant (.str x) j pos) (tC (.str x)):=λ_ _ _ H _ I h=>Calls.Constant_str ⟨.str x,H,I.tok _,⟨_,rfl⟩,h⟩
def Gl (X:Cx) (x:Str):Prop:=X.env.kindOf x=some .globalImplicit
theorem lE (I:Inv X pins σ H s) (hg:Gl X x) (hm:X.mg x=some u) (h:Q u s)
 (hd:(x==("__debug__":Str))=false:=by decide):wpAny (model X.prog X.w) X.A (eval (.Name x pos) X.env) Q E s :=
 Calls.Name_function_global I.ok.kind hg (Calls.loadGlobal_global (by rw[I.ok.glob];exact I.mod.glob.keeps I.bk) hm h) hd
theorem lY (I:Inv X pins σ H s) (hg:Gl X x) (hm:X.mg x=none) (hv:bootBuiltins x=some u) (h:Q u s)
 (hn:x ≠ "__name__":=by decide) (hd:(x==("__debug__":Str))=false:=by decide):wpAny (model X.prog X.w) X.A (eval (.Name x pos) X.env) Q E s:=by
 obtain⟨mb,h1,h2⟩:=I.mod.blt;exact Calls.Name_function_global I.ok.kind hg (Calls.loadGlobal_builtin (by rw[I.ok.glob];exact I.mod.glob.keeps I.bk) hm (by rw[I.ok.blt];exact h1.keeps I.bk) ((h2 x hn).trans hv) h) hd
theorem f9 {v:V}(hg:Gl X x) (hm:X.mg x=some u) (r:RelV v u) (hd:(x==("__debug__":Str))=false:=by decide):PE X (.Name x pos) (tC v):=
 λ_ _ _ H _ I h=>lE I hg hm ⟨v,H,I,r,h⟩ hd
theorem CW {v:V}(hg:Gl X x) (hm:X.mg x=none) (hv:bootBuiltins x=some u) (r:RelV v u) (hn:x ≠ "__name__":=by decide) (hd:(x==("__debug__":Str))=false:=by decide):PE X (.Name x pos) (tC v):=
 λ_ _ _ H _ I h=>lY I hg hm hv ⟨v,H,I,r,h⟩ hn hd
variable {a b : Expr} {ta tb : TE} 
noncomputable def tB (t:TE):TT:=λσ H Q=>t σ H λx H1=>∃ c,x=.bl c /\ Q c H1
theorem FT {t:TE}(h:PE X e t) (he:∀ whole,isTrue e X.env whole=(do let v <-whole;standAt e.pos;holding [v] (truthy v)):=by intro _;rfl):PT X e (tB t):=by
 intro pins s σ H Q I hw;refine isTrue_plain (ao (h pins s σ H _ I hw) λv s1 ⟨x,H1,I1,r1,q1⟩=>?_) (he _);obtain⟨d,rfl,q⟩:=q1;cases r1;exact qe ⟨H1,I1,q⟩
variable {tA xm : TT} {rest : List Expr}
noncomputable def Vk (t u:TT):TT:=λσ H Q=>t σ H λc H1=>if c=true then u σ H1 Q else Q false H1
noncomputable def Vl (t u:TT):TT:=λσ H Q=>t σ H λc H1=>if c=true then Q true H1 else u σ H1 Q
noncomputable def Vm (t:TT):TT:=λσ H Q=>t σ H λc H1=>Q (!c) H1
theorem JT (ha:PT X a tA):PW X (.BoolOp .And [a] pos) tA:=by
 intro wh pins s σ H Q I h;refine isTrue_and (ao (ha pins s σ H Q I h) λc s1 e=>?_);cases c with
 |true=>exact isTrue_and_nil e
 |false=>exact e
theorem FU (ha:PT X a tA):PW X (.BoolOp .Or [a] pos) tA:=by
 intro wh pins s σ H Q I h;refine isTrue_or (ao (ha pins s σ H Q I h) λc s1 e=>?_);cases c with
 |false=>exact isTrue_or_nil e
 |true=>exact e
theorem MZ (ha:PT X a tA) (hb:PW X (.BoolOp .And (b::rest) pos) xm):PW X (.BoolOp .And (a::b::rest) pos) (Vk tA xm):=by
 intro wh pins s σ H Q I h;refine isTrue_and (ao (ha pins s σ H _ I h) λc s1 ⟨H1,I1,q1⟩=>?_);cases c with
 |true=>exact hb wh pins s1 σ H1 Q I1 q1
 |false=>exact⟨H1,I1,q1⟩
theorem MC (ha:PT X a tA) (hb:PW X (.BoolOp .Or (b::rest) pos) xm):PW X (.BoolOp .Or (a::b::rest) pos) (Vl tA xm):=by
 intro wh pins s σ H Q I h;refine isTrue_or (ao (ha pins s σ H _ I h) λc s1 ⟨H1,I1,q1⟩=>?_);cases c with
 |true=>exact⟨H1,I1,q1⟩
 |false=>exact hb wh pins s1 σ H1 Q I1 q1
theorem FV (ha:PT X a tA):PT X (.UnaryOp .Not a pos) (Vm tA):=by
 intro pins s σ H Q I h;exact isTrue_not (ha pins s σ H (λc H1=>Q (!c) H1) I h)
def Vn (ta tb:TE):TE:=λσ H Q=>ta σ H λx H1=>∃ c,x=.bl c /\ if c=true then tb σ H1 Q else Q (.bl false) H1
def Vo (ta tb:TE):TE:=λσ H Q=>ta σ H λx H1=>∃ c,x=.bl c /\ if c=true then Q (.bl true) H1 else tb σ H1 Q
def Vp (ta:TE):TE:=λσ H Q=>ta σ H λx H1=>∃ c,x=.bl c /\ Q (.bl (!c)) H1
theorem M0 {op}{t:TE}(h:PE X a t):PE X (.BoolOp op [a] pos) t:=λpins s σ H Q I hw=>BoolOp_one (h pins s σ H Q I hw)
theorem M1 (ha:PE X a ta) (hb:PE X (.BoolOp .And (b::rest) pos) tb):PE X (.BoolOp .And (a::b::rest) pos) (Vn ta tb):=by
 intro pins s σ H Q I h;refine BoolOp_and (ao (ha pins s σ H _ I h) λv s1 ⟨x,H1,I1,r1,q1⟩=>?_);obtain⟨c,rfl,q1⟩:=q1;cases r1;refine qe ?_;cases c with
 |true=>exact hb pins s1 σ H1 Q I1 q1
 |false=>exact⟨.bl false,H1,I1,rfl,q1⟩
theorem O0 (ha:PE X a ta) (hb:PE X (.BoolOp .Or (b::rest) pos) tb):PE X (.BoolOp .Or (a::b::rest) pos) (Vo ta tb):=by
 intro pins s σ H Q I h;refine BoolOp_or (ao (ha pins s σ H _ I h) λv s1 ⟨x,H1,I1,r1,q1⟩=>?_);obtain⟨c,rfl,q1⟩:=q1;cases r1;refine qe ?_;cases c with
 |false=>exact hb pins s1 σ H1 Q I1 q1
 |true=>exact⟨.bl true,H1,I1,rfl,q1⟩
theorem M2 (ha:PE X a ta):PE X (.UnaryOp .Not a pos) (Vp ta):=by
 intro pins s σ H Q I h;refine UnaryOp_ (ao (ha pins s σ H _ I h) λv s1 ⟨x,H1,I1,r1,q1⟩=>?_);obtain⟨c,rfl,q1⟩:=q1;cases r1;exact not_of (qe ⟨.bl (!c),H1,I1,rfl,q1⟩)
end
def aQ (K:PySem.W.Frag) (H:Hp) (a:Addr) (xs:List V):Prop :=
 Rd H a (.lst xs) \/
  ∃ (o:Obj) (its:Array Value) (n:Nat),K.lookup a=some o /\ o.cls=.type "list" /\ o.dict=none /\ o.data=.seq its n /\ its.size<=sizeLine /\ Vals xs its.toList
def bc (K:PySem.W.Frag) (H:Hp) (a:Addr) (xs:List V):Prop :=
 Rd H a (.tup xs) \/
  ∃ (o:Obj) (its:Array Value) (n:Nat),K.lookup a=some o /\ o.cls=.type "tuple" /\ o.data=.seq its n /\ its.size<=sizeLine /\ Vals xs its.toList
noncomputable def Vq:Value->Option V
 |.none=>some .ae
 |.bool b=>some (.bl b)
 |.int i _=>some (.int i)
 |.str x _=>some (.str x)
 |.bytes b _=>some (.eZ b)
 |.float b _=>some (.qm b)
 |.ref a=>some (.ref a)
 |.type n=>some (.ty n)
 |_=>none
theorem RelV.abs {x:V}(r:RelV x u):Vq u=some x:=by
 cases x with
 |ae=>cases r;rfl
 |bl _=>cases r;rfl
 |int _=>obtain⟨t,rfl⟩:=r;rfl
 |str _=>obtain⟨t,rfl⟩:=r;rfl
 |eZ _=>obtain⟨t,rfl⟩:=r;rfl
 |qm _=>obtain⟨t,rfl⟩:=r;rfl
 |ref _=>cases r;rfl
 |ty _=>cases r;rfl
theorem RelV.inj {x y:V}{u:Value}(r:RelV x u) (q:RelV y u):x=y:=Option.some.inj (r.abs.symm.trans q.abs)
theorem Vals.inj:∀ {xs ys:List V}{us:List Value},Vals xs us->Vals ys us->xs=ys
 |_,_,_,.nil,.nil=>rfl
 |_,_,_,.cons r t,.cons r' t'=>by rw[r.inj r',Vals.inj t t']
section
variable {xs ys : List V}
theorem aQ.of (h:H a=some (.lst xs)):aQ K H a xs:=.inl (.inl h)
theorem bc.of (h:H a=some (.tup xs)):bc K H a xs:=.inl (.inl h)
theorem Inv.list (I:Inv X pins σ H s) (h:aQ X.K H a xs):∃ its:List Value,Vals xs its /\ PlainL s.heap a its.toArray /\ xs.length<=sizeLine:=by
 rcases h with h|⟨o,its,n,hk,hc,hd,hs,hz,r⟩
 ·obtain⟨z,its,n,r,e⟩:=h.ok I.ai;exact⟨its,r,⟨_,n,e,rfl,rfl,rfl⟩,z⟩
 ·refine⟨its.toList,r,⟨o,n,I.bz a o hk,hc,hd,by simpa using hs⟩,?_⟩;have e:=r.length;simp only[Ef]at e;omega
theorem Inv.tuple (I:Inv X pins σ H s) (h:bc X.K H a xs):∃ its:List Value,Vals xs its /\ IsTup s.heap a its.toArray /\ xs.length<=sizeLine:=by
 rcases h with h|⟨o,its,n,hk,hc,hs,hz,r⟩
 ·obtain⟨z,its,r,p⟩:=h.ok I.ai;exact⟨its,r,p,z⟩
 ·refine⟨its.toList,r,⟨o,I.bz a o hk,hc,n,by simpa using hs⟩,?_⟩;have e:=r.length;simp only[Ef]at e;omega
theorem Inv.Rt (I:Inv X pins σ H s) (h:aQ X.K H a xs) (h':aQ X.K H a ys):xs=ys:=by
 obtain⟨its,r,⟨o,n,e,_,_,d⟩,_⟩:=I.list h;obtain⟨its',r',⟨o',n',e',_,_,d'⟩,_⟩:=I.list h';rw[e]at e';cases e';rw[d]at d';injection d' with d1 _;have:its=its':=by simpa using congrArg Array.toList d1
 subst this;exact r.inj r'
theorem Inv.Ru (I:Inv X pins σ H s) (h:bc X.K H a xs) (h':bc X.K H a ys):xs=ys:=by
 obtain⟨its,r,⟨o,e,_,n,d⟩,_⟩:=I.tuple h;obtain⟨its',r',⟨o',e',_,n',d'⟩,_⟩:=I.tuple h';rw[e]at e';cases e';rw[d]at d';injection d' with d1 _;have:its=its':=by simpa using congrArg Array.toList d1
 subst this;exact r.inj r'
end
noncomputable abbrev Cx.pK (X:Cx) (E:Value->Shared->Prop):Cx:={ X with xe:=E }
abbrev Cx.qw (X:Cx):Cx:=X.pK λ_ _=>False
theorem Cx.Ok.pK {X:Cx}(ok:X.Ok) (E:Value->Shared->Prop):(X.pK E).Ok :=
 ⟨ok.mod,ok.kind,ok.glob,ok.blt,ok.above,ok.inj,ok.has,ok.tT,ok.hd,ok.frames,ok.vh,ok.vi,ok.bs,ok.pI,ok.tU,ok.tV,ok.dY,ok.nL⟩
theorem Cx.Ok.qZ (ok:(X.pK E).Ok):X.Ok :=
 ⟨ok.mod,ok.kind,ok.glob,ok.blt,ok.above,ok.inj,ok.has,ok.tT,ok.hd,ok.frames,ok.vh,ok.vi,ok.bs,ok.pI,ok.tU,ok.tV,ok.dY,ok.nL⟩
theorem Inv.pK (I:Inv X pins σ H s) (E:Value->Shared->Prop):Inv (X.pK E) pins σ H s:=⟨I.ok.pK E,I.os,I.bare,I.base,I.loc,I.cell,I.free,I.hJ,I.pin,I.ai,I.len⟩
theorem Inv.qZ (I:Inv (X.pK E) pins σ H s):Inv X pins σ H s:=⟨I.ok.qZ,I.os,I.bare,I.base,I.loc,I.cell,I.free,I.hJ,I.pin,I.ai,I.len⟩
theorem SP.qZ {D:Ends}{f:Flow}{s':Shared}(h:SP (X.pK E) pins D f s'):SP X pins D f s':=by
 cases f with
 |next=>obtain⟨σ',H',I,q⟩:=h;exact⟨σ',H',I.qZ,q⟩
 |brk=>obtain⟨σ',H',I,q⟩:=h;exact⟨σ',H',I.qZ,q⟩
 |cont=>obtain⟨σ',H',I,q⟩:=h;exact⟨σ',H',I.qZ,q⟩
 |ret u=>obtain⟨v,σ',H',I,r,q⟩:=h;exact⟨v,σ',H',I.qZ,r,q⟩
theorem bQ.qw {st:List Stmt}{t:TS}(h:bQ X.qw st t):bQ X st t:=λpins s σ H D I hw =>
 eW (h pins s σ H D (I.pK _) hw) (λ_ _ q=>q.qZ) λ_ _ z=>False.elim z
section
variable {st : Stmt} {rest : List Stmt} {t u : TS} {te : TE} 
def Vr:TS:=λD σ H=>D.nx σ H
def Vs (t u:TS):TS:=λD σ H=>t { D with nx:=u D } σ H
theorem CY:bQ X [] Vr:=λ_ _ σ H _ I h=>wu ⟨σ,H,I,h⟩
theorem gT (h1:PS X st t) (h2:bQ X rest u):bQ X (st::rest) (Vs t u):=by
 intro pins s σ H D I h;refine Km (ao (h1 pins s σ H { D with nx:=u D } I h) λf s1 q=>?_);cases f with
 | next =>
   obtain⟨σ',H',I',q⟩:=q;exact h2 pins s1 σ' H' D I' q
 |ret v=>exact q
 |brk=>exact q
 |cont=>exact q
theorem lF (h1:PS X st t):bQ X [st] t:=by
 intro pins s σ H D I h;refine Km (ao (h1 pins s σ H D I h) λf s1 q=>?_);cases f with
 |next=>exact wu q
 |ret v=>exact q
 |brk=>exact q
 |cont=>exact q
theorem Inv.quiet (I:Inv X pins σ H s):interactive X.env=false:=by simp[interactive,I.ok.kind]
def Vt (te:TE):TS:=λD σ H=>te σ H λ_ H1=>D.nx σ H1
theorem CZ (he:PE X e te) (hs:swapsWith e none pos.line X.env=pure false:=by rfl):PS X (.Expr e pos) (Vt te):=by
 intro pins s σ H D I h;exact wpAny_Expr_any (ao (he pins s σ H _ I h) λv s1 ⟨x,H1,I1,r1,q1⟩=>⟨σ,H1,I1,q1⟩) I.quiet hs
def Vu (te:TE):TS:=λD σ H=>te σ H D.rt
theorem AQ (he:PE X e te):PS X (.Return (some e) pos) (Vu te):=by
 intro pins s σ H D I h;exact wpAny_Return_some (ao (he pins s σ H _ I h) λv s1 ⟨x,H1,I1,r1,q1⟩=>⟨x,σ,H1,I1,r1,q1⟩)
def Vv (c:TT) (t u:TS):TS:=λD σ H=>c σ H λb H1=>if b=true then t D σ H1 else u D σ H1
theorem MD {c:Expr}{a b:List Stmt}{tc:TT}(hc:PT X c tc) (ha:bQ X a t) (hb:bQ X b u):PS X (.If c a b pos) (Vv tc t u):=by
 intro pins s σ H D I h;refine wpAny_If (ao (hc pins s σ H _ I h) λd s1 ⟨H1,I1,q1⟩=>?_);cases d with
 |true=>exact ha pins s1 σ H1 D I1 q1
 |false=>exact hb pins s1 σ H1 D I1 q1
end
abbrev TG:=V->St->Hp->(St->Hp->Prop)->Prop
abbrev qx:=List V->St->Hp->(St->Hp->Prop)->Prop
def PG (X:Cx) (target:Expr) (t:TG):Prop :=
 ∀ (pins:List (Addr×Obj)) (s:Shared) (σ:St) (H:Hp) (v:V) (u:Value) (Q:St->Hp->Prop),Inv X pins σ H s->RelV v u->t v σ H Q ->
  wpAny (model X.prog X.w) X.A (assign target X.env u) (λ_ s'=>∃ σ' H',Inv X pins σ' H' s' /\ Q σ' H') X.xe s
def pL (X:Cx) (ts:List Expr) (t:qx):Prop :=
 ∀ (pins:List (Addr×Obj)) (s:Shared) (σ:St) (H:Hp) (vs:List V) (us:List Value) (Q:St->Hp->Prop),Inv X pins σ H s->Vals vs us->t vs σ H Q ->
  wpAny (model X.prog X.w) X.A (assignInOrder ((assignEach ts X.env).map (·.2)) us) (λ_ s'=>∃ σ' H',Inv X pins σ' H' s' /\ Q σ' H') X.xe s
abbrev En:=V->V->V->Hp->(Hp->Prop)->Prop
def Rv (X:Cx) (t:En):Prop :=
 ∀ (pins:List (Addr×Obj)) (s:Shared) (σ:St) (H:Hp) (o i v:V) (ov iv u:Value) (Q:Hp->Prop),Inv X pins σ H s->RelV o ov->RelV i iv->RelV v u->t o i v H Q ->
  wpAny (model X.prog X.w) X.A (setItem ov iv u) (λ_ s'=>∃ H',Inv X pins σ H' s' /\ Q H') X.xe s
def Rx (i:Nat):TG:=λv σ H Q=>Q (σ.set i (some v)) H
theorem JU (hN:X.N.Nodup) (hi:X.N[i]?=some x) (hx:Loc X.env.scope x) (hf:X.fn x=true \/ X.env.scope.names.lookup x=some .local:=by first|exact .inl rfl|exact .inr rfl|assumption):PG X (.Name x pos) (Rx i):=by
 intro pins s σ H v u Q I r h;exact wpAny_assign_Name (jL I hN hi hx r (λs' I'=>⟨_,H,I',h⟩) hf)
noncomputable def Vw:qx:=λvs σ H Q=>vs=[] /\ Q σ H
noncomputable def Vx (t:TG) (u:qx):qx:=λvs σ H Q=>∃ v r,vs=v::r /\ t v σ H λσ' H'=>u r σ' H' Q
theorem JV:pL X [] Vw:=by
 intro pins s σ H vs us Q I r h;obtain⟨e,h⟩:=h;subst e;cases r;exact Qk ⟨σ,H,I,h⟩
theorem FW {t:TG}{u:qx}(h1:PG X e t) (h2:pL X es u)
 (hs:(assignEach (e::es) X.env).map (·.2)=assign e X.env::(assignEach es X.env).map (·.2):=by rfl):pL X (e::es) (Vx t u):=by
 intro pins s σ H vs us Q I r h;obtain⟨v,vr,e1,h⟩:=h;subst e1;cases r with
 | cons r rr =>
   rw[hs];refine zN (ao (h1 pins s σ H _ _ _ I r h) λ_ s1 ⟨σ1,H1,I1,q1⟩=>?_);exact h2 pins s1 σ1 H1 _ _ Q I1 rr q1
def Vy (K:PySem.W.Frag) (n:Nat) (t:qx):TG:=λv σ H Q=>∃ a xs,v=.ref a /\ bc K H a xs /\ xs.length=n /\ t xs σ H Q
theorem M3 {t:qx}(hc:X.calm=true) (h:pL X es t)
 (hn:(assignEach es X.env).length=n:=by rfl) (nu:(assignEach es X.env).findIdx? (·.1)=none:=by rfl):PG X (.Tuple es k pos) (Vy X.K n t):=by
 intro pins s σ H v u Q I r hw;obtain⟨a,xs,e1,hq,hl,hw⟩:=hw;subst e1;cases r;obtain⟨its,rv,ht,hz⟩:=I.tuple hq;refine assign_Tuple_tuple (I.ok.hd hc) ht (by simp[hn,<-hl,rv.length]) nu λh' hx=>?_;have I1:Inv X pins σ H { s with heap:=h' }:=I.kept (t':=s.toks) λb o e=>hx b o (cU (aP e)) e;exact h pins _ σ H xs _ Q I1 (by simpa using rv) hw
def Vz (to ti:TE) (t:En):TG:=λv σ H Q=>to σ H λo H1=>ti σ H1 λi H2=>t o i v H2 λH3=>Q σ H3
theorem M4 {o i:Expr}{to ti:TE}{t:En}(ho:PE X o to) (hi:PE X i ti) (hs:Rv X t)
 (ha:∀ v,assign (.Subscript o i pos) X.env v=(do
  let ov <-holding [v] (eval o X.env)
  let iv <-holding [v,ov] (eval i X.env)
  standAt pos
  holding [v,ov,iv] (setItem ov iv v)
  release [v,ov,iv] []):=by intro _;rfl):PG X (.Subscript o i pos) (Vz to ti t):=by
 intro pins s σ H v u Q I r h;rw[ha];refine aa (kA (ao (ho pins s σ H _ I h) λov s1 ⟨x,H1,I1,r1,q1⟩=>?_));refine aa (kA (ao (hi pins s1 σ H1 _ I1 q1) λiv s2 ⟨y,H2,I2,r2,q2⟩=>?_));refine aa (y9 (aa (kA (ao (hs pins s2 σ H2 x y v ov iv u _ I2 r1 r2 r q2) λ_ s3 ⟨H3,I3,q3⟩=>?_))));exact wpAny_release ⟨σ,H3,I3,q3⟩
def Eo (te:TE) (g:TG):TS:=λD σ H=>te σ H λx H1=>g x σ H1 D.nx
theorem M5 {te:TE}{g:TG}(he:PE X e te) (hg:PG X tg g) (hs:swapsWithSole [tg] e pos.line X.env=pure false:=by rfl) (hw:swappedStores [tg] e X.env=pure none:=by rfl)
 (h1:(assignEach [tg] X.env).map (·.2)=[assign tg X.env]:=by rfl):PS X (.Assign [tg] e pos) (Eo te g):=by
 intro pins s σ H D I h;refine wpAny_Assign_stores (ao (he pins s σ H _ I h) λv s1 ⟨x,H1,I1,r1,q1⟩=>?_) hs hw;rw[h1];exact ao (hg pins s1 σ H1 x v _ I1 r1 q1) λ_ s2 q=>q
theorem lZ {te:TE}{pos':Pos}(hN:X.N.Nodup) (hi:X.N[i]?=some x) (hx:Loc X.env.scope x) (he:PE X e te) (hs:swapsWith e (some (.Name x pos')) pos.line X.env=pure false:=by rfl) (hf:X.fn x=true \/ X.env.scope.names.lookup x=some .local:=by first|exact .inl rfl|exact .inr rfl|assumption) :
 PS X (.Assign [.Name x pos'] e pos) (Eo te (Rx i)):=by
 intro pins s σ H D I h;refine wpAny_Assign_Name (ao (he pins s σ H _ I h) λv s1 ⟨y,H1,I1,r1,q1⟩=>?_) hs;exact jL I1 hN hi hx r1 (λs2 I2=>⟨_,H1,I2,q1⟩) hf
def Ry (i j:Nat) (ta:TA):TS:=λD σ H=>ta σ H λvs H1=>∃ v w,vs=[v,w] /\ D.nx ((σ.set i (some v)).set j (some w)) H1
theorem M6 {y:Str}{a b:Expr}{ta:TA}{px py pt:Pos}{kt k2 nO}(hc:X.calm=true) (hN:X.N.Nodup) (hi:X.N[i]?=some x) (hj:X.N[j]?=some y) (vj:i≠j)
 (hx:X.env.scope.names.lookup x=some .local) (hy:X.env.scope.names.lookup y=some .local) (ha:PA X [a,b] ta)
 (hw:swappedStores [.Tuple [.Name x px,.Name y py] kt pt] (.Tuple [a,b] k2 nO) X.env=pure (some [x,y]))
 (hs:swapsWithSole [.Tuple [.Name x px,.Name y py] kt pt] (.Tuple [a,b] k2 nO) pos.line X.env=pure false:=by rfl) :
 PS X (.Assign [.Tuple [.Name x px,.Name y py] kt pt] (.Tuple [a,b] k2 nO) pos) (Ry i j ta):=by
 intro pins s σ H D I h;rw[exec_Assign_arm];refine aa (y9 ?_);rw[hs];refine aa (ah ?_);rw[if_neg (by decide)];refine aa (Tuple_ (ao (ha _ pins s σ H _ I h) λus s1 ⟨vs,H1,I1,r1,q1⟩=>?_));obtain⟨v,w,e1,q1⟩:=q1;subst e1;obtain⟨u1,u2,rfl,rv,vk⟩:∃ u1 u2,us=[u1,u2] /\ RelV v u1 /\ RelV w u2:=by
  cases r1 with
  | cons p q =>
    cases q with
    | cons p' q' =>
      cases q';exact⟨_,_,rfl,p,p'⟩
 refine qT ?_ (by show 2<=sizeLine;decide);have I2:Inv X pins σ H1 { s1 with heap:=s1.heap.push { cls:=.type "tuple",data:=.seq [u1,u2].toArray } }:=I1.kept (t':=s1.toks) λb o e=>aG _ e;rw[hw];refine aa (ah ?_);show wpAny (model X.prog X.w) X.A (do rule "assign.swapped-stores";let items <-unpackItems (.ref s1.heap.objs.size) 2 none;assignInOrder [λv=>bindName X.env y v,λv=>bindName X.env x v] items.reverse;pure Flow.next) _ _ _;refine aa (pk (aa (unpackItems_tuple (items:=#[u1,u2]) (I.ok.hd hc) (IsTup.new s1.heap _) λh' VA=>?_)));have I3:=I2.kept (h':=h') (t':=s1.toks) λb o e=>VA b o (cU (aP e)) e;show wpAny _ _ (assignInOrder [λv=>bindName X.env y v,λv=>bindName X.env x v] [u2,u1] >>= λ_=>pure Flow.next) _ _ _;refine aa (zN (Kn (jL I3 hN hj (.inl hy) vk (λs2 I4=>?_) (.inr hy))));refine zN (Kn (jL I4 hN hi (.inl hx) rv (λs3 I5=>Qk (ah ?_)) (.inr hx)));rw[wF _ _ (Ne.symm vj)]at I5;exact⟨_,H1,I5,q1⟩
structure It where
 go:Nat->Hp->Prop
 vm:Nat->Hp->V->Hp->Prop
 stop:Nat->Hp->Prop
def nP (X:Cx) (pins:List (Addr×Obj)) (H:Hp) (b:Addr):Prop :=
 H b=none /\ b≠X.env.locals /\ b∉X.fs /\ (b∈X.ex \/ X.s₀.heap.objs.size<=b) /\ (∀ x c,X.env.cells.lookup x=some c->c≠b) /\ ∀ p∈X.pn++pins,p.1≠b
theorem Inv.xn {b:Addr}(I:Inv X pins σ H s) (hb:s.heap.objs.size<=b) (hn:H' b=none):nP X pins H' b:=by
 refine⟨hn,wB (cG I.lt hb),I.Vh hb,.inr (bu I.sz hb),λx c e z=>?_,λp hp z=>?_⟩
 ·obtain⟨v,q⟩:=I.cell x c e;exact absurd (cG q.lt (by rw[z];exact hb)) (kC _)
 ·exact absurd (cG (aP (I.pin p hp).1) (by rw[z];exact hb)) (kC _)
structure Turn (P:Program) (w:World) (K:PySem.W.Frag) (tg:Expr) (J:It) (fp:List Addr) (it:Addr) (tn:Nat->Heap->Prop):Prop where
 mem:it∈fp
 obj:∀ i h,tn i h->∀ b∈fp,∃ o,h.get? b=some o /\ ∀ v,o.data≠.cell v
 keep:∀ i h h',tn i h->(∀ b∈fp,∀ o,h.get? b=some o->h'.get? b=some o)->tn i h'
 item:∀ (X:Cx),X.prog=P->X.w=w->X.K=K->X.calm=true->∀ (i:Nat) (pins:List (Addr×Obj)) (s:Shared) (σ:St) (H:Hp) (E:Value->Shared->Prop),Inv X pins σ H s->(∀ b∈fp,nP X pins H b)->tn i s.heap->J.go i H ->
  wpAny (model P w) X.A (pyNext (.ref it)) (λr s1=>∃ u,r=some u /\
   wpAny (model P w) X.A (letOwnedTupleGo tg (.ref it) u) (λ_ s2=>∃ x H',Inv X pins σ H' s2 /\ RelV x u /\ J.vm i H x H' /\ tn (i+1) s2.heap /\ ∀ b∈fp,H' b=none) E s1) E s
 done:∀ (X:Cx),X.prog=P->X.w=w->X.K=K->X.calm=true->∀ (i:Nat) (pins:List (Addr×Obj)) (s:Shared) (σ:St) (H:Hp) (E:Value->Shared->Prop),Inv X pins σ H s->(∀ b∈fp,nP X pins H b)->tn i s.heap->J.stop i H ->
  wpAny (model P w) X.A (pyNext (.ref it)) (λr s1=>r=none /\ Inv X pins σ H s1) E s
 self:∀ (A:Around) (i:Nat) (s:Shared) (Q:Value->Shared->Prop) (E:Value->Shared->Prop),tn i s.heap->Q (.ref it) s->wpAny (model P w) A (pyIter (.ref it)) Q E s
abbrev TI:=St->Hp->(It->Hp->Prop)->Prop
def Rz (X:Cx) (pins:List (Addr×Obj)) (σ:St) (tg:Expr) (R:It->Hp->Prop) (Ep:Value) (s2:Shared):Prop :=
 ∃ (it:Addr) (fp:List Addr) (tn:Nat->Heap->Prop) (J:It) (H':Hp),Ep=.ref it /\ Inv X pins σ H' s2 /\ Turn X.prog X.w X.K tg J fp it tn /\ tn 0 s2.heap /\ (∀ b∈fp,nP X pins H' b) /\ R J H'
def PI (X:Cx) (tg iter:Expr) (wi:TI):Prop :=
 ∀ (pins:List (Addr×Obj)) (s:Shared) (σ:St) (H:Hp) (R:It->Hp->Prop),Inv X pins σ H s->wi σ H R ->
  wpAny (model X.prog X.w) X.A (eval iter X.env) (λv s1=>wpAny (model X.prog X.w) X.A (pyIter v) (Rz X pins σ tg R) X.xe s1) X.xe s
theorem FX {it:Addr}{o:Obj}{n:String}{vs:Array Value}{Q:Unit->Shared->Prop}(ho:s.heap.get? it=some o) (hc:o.cls=.type n) (hd:o.data=.fields vs)
 (hn:["enumerate", "zip", "dict_itemiterator", "dict_reverseitemiterator", "odict_iterator", "itertools.zip_longest", "itertools.pairwise"].contains n=false) (hQ:Q () s):wpAny M A (letOwnedTupleGo tg (.ref it) u) Q E s:=by
 unfold letOwnedTupleGo;cases tg<;>first
  |exact ah hQ
  |(cases u<;>first
   |exact ah hQ
   | (refine aa (za ho ?_)
      rw[hc,hd];show wpAny M A (if (["enumerate", "zip", "dict_itemiterator", "dict_reverseitemiterator", "odict_iterator", "itertools.zip_longest", "itertools.pairwise"].contains n&&vs[0]?==some (rawInt _))=true then _ else _) Q E s;rw[if_neg (by intro h;rw[hn,zx]at h;cases h)];exact ah hQ))
noncomputable def Er (K:PySem.W.Frag) (a:Addr):It :=
 ⟨λi H=>∃ xs x,aQ K H a xs /\ xs[i]?=some x,λi H x H'=>H'=H /\ ∀ xs,aQ K H a xs->xs[i]?=some x,λi H=>∃ xs,aQ K H a xs /\ xs.length<=i⟩
noncomputable def Es (K:PySem.W.Frag) (a:Addr):It :=
 ⟨λi H=>∃ xs x,bc K H a xs /\ xs[i]?=some x,λi H x H'=>H'=H /\ ∀ xs,bc K H a xs->xs[i]?=some x,λi H=>∃ xs,bc K H a xs /\ xs.length<=i⟩
noncomputable def vn (lo:Int) (n:Nat):It:=⟨λi _=>i<n,λi H x H'=>H'=H /\ x=.int (lo+i),λi _=>n<=i⟩
theorem D3 (a it:Addr):Turn P w K tg (Er K a) [it] it (λi h=>h.IsListIter it a i) where
 mem:=by simp
 obj:=λi h st b hb=>by
  have e:b=it:=by simpa using hb
  subst e;obtain⟨o,e,c,d⟩:=st;exact⟨o,e,λv z=>by rw[d]at z;cases z⟩
 keep:=λi h h' st k=>st.at λo e=>k it (by simp) o e
 item:=by
  intro X hP hw hK hc i pins s σ H E I hf st hg;subst hP hw hK;obtain⟨xs,x,hq,hx⟩:=hg;obtain⟨its,rv,p,hz⟩:=I.list hq;obtain⟨u,hu,ru⟩:=rv.get hx;obtain⟨f0,f1,f2,f3,f4,f5⟩:=hf it (by simp);refine wpAny_pyNext_list_item st p.isList (x:=u) (by simpa using hu) λh' rf sb=>?_;have I1:Inv X pins σ H { s with heap:=h' }:=I.turned (t':=s.toks) (λb o hb e=>(sb.2 b hb).trans e) f0 f1 f3 f4 f5;obtain⟨o,e,c,d⟩:=id rf;exact⟨u,rfl,FX (s:={ s with heap:=h' }) e c d (by decide) ⟨x,H,I1,ru,⟨rfl,λys hy=>by rw[I.Rt hy hq];exact hx⟩,rf,λb hb=>(hf b hb).1⟩⟩
 done:=by
  intro X hP hw hK hc i pins s σ H E I hf st hg;subst hP hw hK;obtain⟨xs,hq,hx⟩:=hg;obtain⟨its,rv,p,hz⟩:=I.list hq;obtain⟨f0,f1,f2,f3,f4,f5⟩:=hf it (by simp);have hl:=rv.length;exact wpAny_pyNext_list_end (I.ok.hd hc) st p.isList (by simp;omega) λh' eb=>⟨rfl,I.turned (t':=s.toks) (λb o hb e=>eb b o hb e) f0 f1 f3 f4 f5⟩
 self:=λ_ _ _ _ _ st h=>wpAny_pyIter_listiter st h
theorem Cc (a it:Addr):Turn P w K tg (Es K a) [it] it (λi h=>h.IsTupleIter it a i) where
 mem:=by simp
 obj:=λi h st b hb=>by
  have e:b=it:=by simpa using hb
  subst e;obtain⟨o,e,c,d⟩:=st;exact⟨o,e,λv z=>by rw[d]at z;cases z⟩
 keep:=λi h h' st k=>st.at λo e=>k it (by simp) o e
 item:=by
  intro X hP hw hK hc i pins s σ H E I hf st hg;subst hP hw hK;obtain⟨xs,x,hq,hx⟩:=hg;obtain⟨its,rv,p,hz⟩:=I.tuple hq;obtain⟨u,hu,ru⟩:=rv.get hx;obtain⟨f0,f1,f2,f3,f4,f5⟩:=hf it (by simp);refine wpAny_pyNext_tuple_item st (show s.heap.IsTuple a its.toArray from p) (x:=u) (by simpa using hu) λh' rf sb=>?_;have I1:Inv X pins σ H { s with heap:=h' }:=I.turned (t':=s.toks) (λb o hb e=>(sb.2 b hb).trans e) f0 f1 f3 f4 f5;obtain⟨o,e,c,d⟩:=id rf;exact⟨u,rfl,FX (s:={ s with heap:=h' }) e c d (by decide) ⟨x,H,I1,ru,⟨rfl,λys hy=>by rw[I.Ru hy hq];exact hx⟩,rf,λb hb=>(hf b hb).1⟩⟩
 done:=by
  intro X hP hw hK hc i pins s σ H E I hf st hg;subst hP hw hK;obtain⟨xs,hq,hx⟩:=hg;obtain⟨its,rv,p,hz⟩:=I.tuple hq;obtain⟨f0,f1,f2,f3,f4,f5⟩:=hf it (by simp);have hl:=rv.length;exact wpAny_pyNext_tuple_end (I.ok.hd hc) st (show s.heap.IsTuple a its.toArray from p) (by simp;omega) λh' eb=>⟨rfl,I.turned (t':=s.toks) (λb o hb e=>eb b o hb e) f0 f1 f3 f4 f5⟩
 self:=λ_ _ _ _ _ st h=>wpAny_pyIter_tupleiter st h
theorem Cd (it:Addr) (lo:Int) (n:Nat):Turn P w K tg (vn lo n) [it] it (λi h=>IsRangeIter h it (lo+(i:Nat)*1) ((n:Int)-(i:Nat)) 1) where
 mem:=by simp
 obj:=λi h st b hb=>by
  have e:b=it:=by simpa using hb
  subst e;exact⟨_,st,λv z=>by
   have z':Data.fields _=Data.cell v:=z;cases z'⟩
 keep:=λi h h' st k=>k it (by simp) _ st
 item:=by
  intro X hP hw hK hc i pins s σ H E I hf st hg;subst hP hw hK;obtain⟨f0,f1,f2,f3,f4,f5⟩:=hf it (by simp);have W:=Walks.range (prog:=X.prog) (w:=X.w) (I.ok.hd hc) it lo 1 n;refine W.item i s _ _ hg st λv h' tk hv rf kk=>?_;obtain⟨t,rfl⟩:=hv;have I1:Inv X pins σ H { s with heap:=h',toks:=tk }:=I.turned (λb o hb e=>kk b o (by simpa using hb) e) f0 f1 f3 f4 f5;refine⟨_,rfl,FX (s:={ s with heap:=h',toks:=tk }) (n:="range_iterator") rf rfl rfl (by decide) ⟨.int (lo+i),H,I1,⟨t,?_⟩,⟨rfl,rfl⟩,rf,λb hb=>(hf b hb).1⟩⟩;rw[Int.mul_one]
 done:=by
  intro X hP hw hK hc i pins s σ H E I hf st hg;subst hP hw hK;obtain⟨f0,f1,f2,f3,f4,f5⟩:=hf it (by simp);exact wpAny_pyNext_range_end (I.ok.hd hc) st (by have:n<=i:=hg;omega) λh' eb=>⟨rfl,I.turned (t':=s.toks) (λb o hb e=>eb b o hb e) f0 f1 f3 f4 f5⟩
 self:=λ_ _ _ _ _ st h=>wpAny_pyIter_rangeiter st h
theorem Bs {R:It->Hp->Prop}{lo hi:Int}{t u v:Tok}{tk:Nat}(I:Inv X pins σ H s) (h1:-(2 ^ 62)<=lo) (h2:lo<2 ^ 62) (h3:-(2 ^ 62)<=hi) (h4:hi<2 ^ 62)
 (q:R (vn lo (hi-lo).toNat) H):wpAny (model X.prog X.w) X.A (pyIter (.ref s.heap.objs.size)) (Rz X pins σ tg R) E { s with heap:=s.heap.push { cls:=.type "range",data:=.fields #[.int lo t,.int hi u,.int 1 v] },toks:=tk }:=by
 refine wpAny_pyIter_range (IsRange.new ..) (small_one h1 h2 h3 h4) ?_;have I1:Inv X pins σ H { s with heap:=s.heap.push { cls:=.type "range",data:=.fields #[.int lo t,.int hi u,.int 1 v] },toks:=tk }:=I.kept λb o e=>aG _ e;refine⟨(s.heap.push { cls:=.type "range",data:=.fields #[.int lo t,.int hi u,.int 1 v] }).objs.size,[(s.heap.push { cls:=.type "range",data:=.fields #[.int lo t,.int hi u,.int 1 v] }).objs.size],_,_,H,rfl,
  I1.kept (t':=tk) λb o e=>aG _ e,Cd _ lo (hi-lo).toNat,?_,λb hb=>?_,q⟩
 ·have e1:lo+((0:Nat):Int)*1=lo:=by simp
  have e2:(((hi-lo).toNat:Nat):Int)-((0:Nat):Int)=Builtin.Range.rangeSize lo hi 1:=by rw[rangeSize_one];split<;>omega
  show IsRangeIter _ _ (lo+((0:Nat):Int)*1) ((((hi-lo).toNat:Nat):Int)-((0:Nat):Int)) 1;rw[e1,e2];exact bP _ rfl
 ·have e:b=(s.heap.push { cls:=.type "range",data:=.fields #[.int lo t,.int hi u,.int 1 v] }).objs.size:=by simpa using hb
  subst e;exact I1.xn (ag _) (I1.ai.fresh (ag _))
def VB (ta:TA):TI:=λσ H R=>ta σ H λvs H1=>∃ j:Int,vs=[.int j] /\ -(2 ^ 62)<=j /\ j<2 ^ 62 /\ R (vn 0 j.toNat) H1
def VC (ta:TA):TI:=λσ H R=>ta σ H λvs H1=>∃ i j:Int,vs=[.int i,.int j] /\ (-(2 ^ 62)<=i /\ i<2 ^ 62 /\ -(2 ^ 62)<=j /\ j<2 ^ 62) /\ R (vn i (j-i).toNat) H1
theorem D4 {a:Expr}{ta:TA}{p:Pos}(hg:Gl X "range") (hm:X.mg "range"=none) (ha:PA X [a] ta) (hs:starEach [a] X.env=[(false,eval a X.env)]:=by rfl):PI X tg (.Call (.Name "range" p) [a] [] pos) (VB ta):=by
 intro pins s σ H R I h;refine Call_ (lY I hg hm boot_range (wV (ao (ha pos pins s σ H _ I h) λus s1 ⟨vs,H1,I1,r1,q1⟩=>?_) hs rfl));obtain⟨j,e,q1,q2,q⟩:=q1;subst e;cases r1 with
 | cons r rr =>
   cases rr;obtain⟨t,rfl⟩:=r;exact call_range_1 (Bs I1 (by omega) (by omega) q1 q2 (by simpa using q))
theorem D5 {a b:Expr}{ta:TA}{p:Pos}(hg:Gl X "range") (hm:X.mg "range"=none) (ha:PA X [a,b] ta) (hs:starEach [a,b] X.env=[(false,eval a X.env),(false,eval b X.env)]:=by rfl) (dv:starEach [b] X.env=[(false,eval b X.env)]:=by rfl) :
 PI X tg (.Call (.Name "range" p) [a,b] [] pos) (VC ta):=by
 intro pins s σ H R I h;refine Call_ (lY I hg hm boot_range (wV (ao (ha pos pins s σ H _ I h) λus s1 ⟨vs,H1,I1,r1,q1⟩=>?_) (by rw[hs,dv]) (by rw[dv];rfl)));obtain⟨i,j,e,⟨q1,q2,q3,q4⟩,q⟩:=q1;subst e;cases r1 with
 | cons r rr =>
   cases rr with
   | cons r' rr =>
     cases rr;obtain⟨t,rfl⟩:=r;obtain⟨t',rfl⟩:=r';exact call_range_2 (Bs I1 q1 q2 q3 q4 q)
def RC (wi:TI) (g:TG) (tb:TS):TS:=λD σ H=>wi σ H λJ H1=>∃ W:Nat->Nat->St->Hp->Prop,(∃ m,W 0 m σ H1) /\ ∀ i m σ H,W i m σ H ->
 (J.stop i H /\ D.nx σ H) \/ (J.go i H /\ ∃ N:St->Hp->Prop,(∀ σ' H',N σ' H'->∃ m',m'<m /\ W (i+1) m' σ' H') /\ ∀ x H',J.vm i H x H'->g x σ H' λσ2 H2=>tb { D with nx:=N,ct:=N,bk:=D.nx } σ2 H2)
noncomputable def vo (fp:List Addr) (h:Heap):List (Addr×Obj):=fp.filterMap λb=>(h.get? b).map λo=>(b,o)
theorem jr {h:Heap}{b:Addr}{o:Obj}(hb:b∈fp) (e:h.get? b=some o):(b,o)∈vo fp h:=List.mem_filterMap.mpr ⟨b,hb,by rw[e];rfl⟩
theorem D6 {h:Heap}{p:Addr×Obj}(hp:p∈vo fp h):p.1∈fp /\ h.get? p.1=some p.2:=by
 obtain⟨b,hb,e⟩:=List.mem_filterMap.mp hp;cases q:h.get? b with
 |none=>rw[q]at e;cases e
 | some o =>
   rw[q]at e;have e':(b,o)=p:=Option.some.inj e;subst e';exact⟨hb,q⟩
theorem Inv.pinned (I:Inv X pins σ H s) (hf:∀ b∈fp,nP X pins H b) (ho:∀ b∈fp,∃ o,s.heap.get? b=some o /\ ∀ v,o.data≠.cell v):Inv X (pins++vo fp s.heap) σ H s :=
 I.El λp hp=>(List.mem_append.mp hp).elim (λz=>I.pin p (kE _ z)) λz=>by
  obtain⟨hb,e⟩:=D6 z;obtain⟨f0,f1,f2,_⟩:=hf p.1 hb;obtain⟨o,e',d⟩:=ho p.1 hb;rw[e]at e';cases e';exact⟨e,f0,f1,f2,d⟩
theorem Inv.xo {pl:List (Addr×Obj)}(I:Inv X (pins++pl) σ H s):Inv X pins σ H s:=I.El λp hp=>I.pin p (kE _ (kD _ hp))
theorem M7 {body:List Stmt}{wi:TI}{g:TG}{tb:TS}(hp:PassesOwn (model X.prog X.w) X.A X.env X.xe) (hc:X.calm=true) (hi:PI X tg iter wi) (hg:PG X tg g) (hb:bQ X body tb)
 (hs:∀ x,foldedSetIterable iter X.env x=pure x:=by intro _;rfl):PS X (.For tg iter body [] pos) (RC wi g tb):=by
 intro pins s σ H D I h;refine wpAny_For (ao (hi pins s σ H _ I h) λv s1 h1=>ao h1 λEp s2 h2=>?_) hs;obtain⟨it,fp,tn,J,H2,e,I2,T,xp,f2,W,⟨m0,w0⟩,turn⟩:=h2;subst e;have Et:∀ {H':Hp},(∀ b∈fp,H' b=none)->∀ b∈fp,nP X pins H' b:=λhn b hb=>⟨hn b hb,(f2 b hb).2⟩;refine codeAny_forLoop_any (λn s'=>∃ i σ' H',Inv X pins σ' H' s' /\ tn i s'.heap /\ (∀ b∈fp,H' b=none) /\ W i n σ' H') ?_ m0 ⟨0,σ,H2,I2,xp,λb hb=>(f2 b hb).1,w0⟩;rintro n s3 ⟨i,σ3,H3,I3,vp,RD,w3⟩;rcases turn i n σ3 H3 w3 with⟨stop,qn⟩|⟨go,N,hN,step⟩
 ·refine uU hp (ao (T.done X rfl rfl rfl hc i pins s3 σ3 H3 X.xe I3 (Et RD) vp stop) λr s4 ⟨hr,I4⟩=>?_);subst hr;exact wu ⟨σ3,H3,I4,qn⟩
 ·refine uU hp (ao (T.item X rfl rfl rfl hc i pins s3 σ3 H3 X.xe I3 (Et RD) vp go) λr s4 ⟨u,hr,h4⟩=>?_);subst hr;refine uU hp (ao h4 λ_ s5 ⟨x,H5,I5,r5,y5,tY,xq⟩=>?_);have VD:=I5.pinned (Et xq) (T.obj _ _ tY);refine uU hp (ao (hg _ s5 σ3 H5 x u _ VD r5 (step x H5 y5)) λ_ s6 ⟨σ6,H6,I6,q6⟩=>?_);refine uU hp (ao (hb _ s6 σ6 H6 _ I6 q6) λf s7 q7=>?_);have again:∀ {σ7:St}{H7:Hp},Inv X (pins++vo fp s5.heap) σ7 H7 s7->N σ7 H7->∃ m,m<n /\ ∃ i σ' H',Inv X pins σ' H' s7 /\ tn i s7.heap /\ (∀ b∈fp,H' b=none) /\ W i m σ' H':=λ{σ7 H7} I7 n7=>by
   obtain⟨m',hm,w7⟩:=hN σ7 H7 n7;refine⟨m',hm,i+1,σ7,H7,I7.xo,T.keep _ _ _ tY λb hb o e=>(I7.pin (b,o) (kE _ (kE _ (jr hb e)))).1,λb hb=>?_,w7⟩;obtain⟨o,e,d⟩:=T.obj _ _ tY b hb;exact(I7.pin (b,o) (kE _ (kE _ (jr hb e)))).2.1
  cases f with
  |next=>obtain⟨σ7,H7,I7,n7⟩:=q7;exact again I7 n7
  |cont=>obtain⟨σ7,H7,I7,n7⟩:=q7;exact again I7 n7
  |brk=>obtain⟨σ7,H7,I7,q7⟩:=q7;exact⟨σ7,H7,I7.xo,q7⟩
  |ret v=>obtain⟨x7,σ7,H7,I7,r7,q7⟩:=q7;exact⟨x7,σ7,H7,I7.xo,r7,q7⟩
abbrev R2:=V->V->Hp->VK->Prop
def aA (X:Cx) (f:Value->Value->Sem Value) (r:R2):Prop :=
 ∀ (pins:List (Addr×Obj)) (s:Shared) (σ:St) (H:Hp) (x y:V) (v u:Value) (Q:VK),Inv X pins σ H s->RelV x v->RelV y u->r x y H Q ->
  wpAny (model X.prog X.w) X.A (f v u) (EP X pins σ Q) X.xe s
def Eu (X:Cx) (f:Value->Sem Value) (r:V->Hp->VK->Prop):Prop :=
 ∀ (pins:List (Addr×Obj)) (s:Shared) (σ:St) (H:Hp) (x:V) (v:Value) (Q:VK),Inv X pins σ H s->RelV x v->r x H Q ->
  wpAny (model X.prog X.w) X.A (f v) (EP X pins σ Q) X.xe s
def cK (X:Cx) (f:Value) (r:List V->Hp->VK->Prop):Prop :=
 ∀ (pins:List (Addr×Obj)) (s:Shared) (σ:St) (H:Hp) (xs:List V) (us:List Value) (Q:VK),Inv X pins σ H s->Vals xs us->r xs H Q ->
  wpAny (model X.prog X.w) X.A (call f us) (EP X pins σ Q) X.xe s
def vq (r:R2) (ta tb:TE):TE:=λσ H Q=>ta σ H λx H1=>tb σ H1 λy H2=>r x y H2 Q
def VE (r:V->Hp->VK->Prop) (ta:TE):TE:=λσ H Q=>ta σ H λx H1=>r x H1 Q
def rI (C:Int->Int->Prop) (g:Int->Int->V):R2:=λx y H Q=>∃ i j,x=.int i /\ y=.int j /\ C i j /\ Q (g i j) H
def dZ (g:Int->Int->V):R2:=λx y H Q=>∃ i j,x=.int i /\ y=.int j /\ Q (g i j) H
def rU (g:Int->V):V->Hp->VK->Prop:=λx H Q=>∃ i,x=.int i /\ Q (g i) H
section
variable {a b c : Expr} {ta tb tc : TE} 
theorem Ew (ha:PE X a ta) (hb:PE X b tb) {R:V->V->Hp->Prop}(I:Inv X pins σ H s)
 (h:ta σ H λx H1=>tb σ H1 λy H2=>R x y H2) {f:Value->Value->Sem Value}
 (hf:∀ v u s2 x y H2,Inv X pins σ H2 s2->RelV x v->RelV y u->R x y H2->wpAny (model X.prog X.w) X.A (f v u) Q X.xe s2) :
 wpAny (model X.prog X.w) X.A (eval a X.env) (λv s₁=>wpAny (model X.prog X.w) X.A (eval b X.env) (λu s₂=>wpAny (model X.prog X.w) X.A (f v u) Q X.xe s₂) X.xe s₁) X.xe s:=by
 refine ao (ha pins s σ H _ I h) λv s1 ⟨x,H1,I1,r1,q1⟩=>?_;refine ao (hb pins s1 σ H1 _ I1 q1) λu s2 ⟨y,H2,I2,r2,q2⟩=>?_;exact hf v u s2 x y H2 I2 r1 r2 q2
theorem Bt {op:Operator}{r:R2}(ho:aA X (binaryOp op) r) (ha:PE X a ta) (hb:PE X b tb):PE X (.BinOp a op b pos) (vq r ta tb):=by
 intro pins s σ H Q I h;exact wpAny_BinOp (Ew ha hb I h λv u s2 x y H2 I2 rx ry q=>ho pins s2 σ H2 x y v u Q I2 rx ry q)
theorem ME {op:UnaryOp}{r:V->Hp->VK->Prop}(ho:Eu X (unaryOp op) r) (ha:PE X a ta):PE X (.UnaryOp op a pos) (VE r ta):=by
 intro pins s σ H Q I h;exact UnaryOp_ (ao (ha pins s σ H _ I h) λv s1 ⟨x,H1,I1,r1,q1⟩=>ho pins s1 σ H1 x v Q I1 r1 q1)
theorem xr {f:Value->Value->Sem Value}{C:Int->Int->Prop}{g:Int->Int->Int}
 (rule:∀ (i j:Int) (t u:Tok) (s:Shared) (Q:Value->Shared->Prop) (E:Value->Shared->Prop),C i j->Q (.int (g i j) s.toks) { s with toks:=s.toks+1 }->wpAny (model X.prog X.w) X.A (f (.int i t) (.int j u)) Q E s) :
 aA X f (rI C λi j=>.int (g i j)):=by
 intro pins s σ H x y v u Q I rx ry h;obtain⟨i,j,rfl,rfl,hc,q⟩:=h;obtain⟨t,rfl⟩:=rx;obtain⟨t',rfl⟩:=ry;exact rule i j t t' s _ _ hc ⟨.int (g i j),H,I.tok _,⟨_,rfl⟩,q⟩
theorem RE {f:Value->Value->Sem Value}{g:Int->Int->Int}
 (rule:∀ (i j:Int) (t u:Tok) (s:Shared) (Q:Value->Shared->Prop) (E:Value->Shared->Prop),Q (.int (g i j) s.toks) { s with toks:=s.toks+1 }->wpAny (model X.prog X.w) X.A (f (.int i t) (.int j u)) Q E s) :
 aA X f (dZ λi j=>.int (g i j)):=by
 intro pins s σ H x y v u Q I rx ry h;obtain⟨i,j,rfl,rfl,q⟩:=h;obtain⟨t,rfl⟩:=rx;obtain⟨t',rfl⟩:=ry;exact rule i j t t' s _ _ ⟨.int (g i j),H,I.tok _,⟨_,rfl⟩,q⟩
theorem Ex {f:Value->Value->Sem Value}{g:Int->Int->Bool}
 (rule:∀ (i j:Int) (t u:Tok) (s:Shared) (Q:Value->Shared->Prop) (E:Value->Shared->Prop),Q (.bool (g i j)) s->wpAny (model X.prog X.w) X.A (f (.int i t) (.int j u)) Q E s) :
 aA X f (dZ λi j=>.bl (g i j)):=by
 intro pins s σ H x y v u Q I rx ry h;obtain⟨i,j,rfl,rfl,q⟩:=h;obtain⟨t,rfl⟩:=rx;obtain⟨t',rfl⟩:=ry;exact rule i j t t' s _ _ ⟨.bl (g i j),H,I,rfl,q⟩
def tZ (i j:Int):Prop:=0<=j /\ j<=1000000 /\ i.natAbs<2 ^ 64
def rh (i j:Int):Prop:=(-(2 ^ 64)<i /\ i<2 ^ 64) \/ (-(2 ^ 64)<j /\ j<2 ^ 64)
theorem rh.ok {i j:Int}(h:rh i j):IntMulOk i j:=by
 rcases h with⟨h1,h2⟩|⟨h1,h2⟩
 ·exact .of_left (Ko h1 h2)
 ·exact .of_right (Ko h1 h2)
theorem M8:aA X (binaryOp .Add) (dZ λi j=>.int (i+j)):=RE λ_ _ _ _ _ _ _ q=>add_int q
theorem M9:aA X (binaryOp .Sub) (dZ λi j=>.int (i-j)):=RE λ_ _ _ _ _ _ _ q=>sub_int q
theorem Na:aA X (binaryOp .Mult) (rI rh λi j=>.int (i*j)):=xr λ_ _ _ _ _ _ _ hc q=>mul_int q hc.ok
theorem Nb:aA X (binaryOp .Mod) (rI (λ_ j=>0<j) λi j=>.int (i % j)):=xr λi j _ _ _ _ _ hc q=>by
 have h1:(0:Int)<j:=hc;exact mod_int' (by omega) (by rw[Int.fmod_eq_emod_of_nonneg i (by omega)];exact q)
theorem Nc:aA X (binaryOp .Pow) (rI tZ λi j=>.int (i ^ j.toNat)):=xr λ_ _ _ _ _ _ _ hc q=>pow_int_small hc.1 hc.2.1 hc.2.2 q
theorem VF {f:Value->Sem Value}{g:Int->Int}
 (rule:∀ (i:Int) (t:Tok) (s:Shared) (Q:Value->Shared->Prop) (E:Value->Shared->Prop),Q (.int (g i) s.toks) { s with toks:=s.toks+1 }->wpAny (model X.prog X.w) X.A (f (.int i t)) Q E s) :
 Eu X f (rU λi=>.int (g i)):=by
 intro pins s σ H x v Q I rx h;obtain⟨i,rfl,q⟩:=h;obtain⟨t,rfl⟩:=rx;exact rule i t s _ _ ⟨.int (g i),H,I.tok _,⟨_,rfl⟩,q⟩
theorem FY:Eu X (unaryOp .USub) (rU λi=>.int (-i)):=VF λ_ _ _ _ _ q=>neg_int q
end
noncomputable def RF:V->V->Bool
 |.ae,.ae=>true|.ae,.int _=>true|.int _,.ae=>true|.ae,.bl _=>true|.bl _,.ae=>true|.ae,.str _=>true|.str _,.ae=>true
 |.int _,.int _=>true|.bl _,.bl _=>true|.str _,.str _=>true|.eZ _,.eZ _=>true
 |.int _,.str _=>true|.str _,.int _=>true|.bl _,.str _=>true|.str _,.bl _=>true
 |_,_=>false
def RG:R2:=λx y H Q=>RF x y=true /\ Q (.bl (decide (x=y))) H
def RH:R2:=λx y H Q=>RF x y=true /\ Q (.bl (!decide (x=y))) H
theorem C0 {i j:Int}:decide (V.int i=V.int j)=(i==j):=by
 rw[qg];simp
theorem FZ {i j:Bool}:decide (V.bl i=V.bl j)=(i==j):=by
 rw[qg];simp
theorem C2 {i j:Str}:decide (V.str i=V.str j)=(i==j):=by
 rw[qg];simp
theorem C3 {i j:Array UInt8}:decide (V.eZ i=V.eZ j)=(i.toList==j.toList):=by
 rw[qg];cases i;cases j;simp
section
variable {a b c : Expr} {ta tb tc : TE} 
theorem fU {Q:VK}{k k':Bool}(I:Inv X pins σ H s) (q:Q (.bl k) H) (e:k=k'):EP X pins σ Q (.bool k') s:=by
 subst e;exact⟨.bl k,H,I,rfl,q⟩
theorem O2:aA X (compareOp .Eq) RG:=by
 intro pins s σ H x y v u Q I rx ry h;obtain⟨hs,q⟩:=h;cases x with
 | ae =>
   cases rx;cases y with
   |ae=>cases ry;exact UM (fU I q (by simp))
   |bl j=>cases ry;exact UN (fU I q (by simp))
   |int j=>obtain⟨t',rfl⟩:=ry;exact UO (fU I q (by simp))
   |str j=>obtain⟨t',rfl⟩:=ry;exact UP (fU I q (by simp))
   |_=>exact absurd (show false=true from hs) b9
 | bl i =>
   cases rx;cases y with
   |ae=>cases ry;exact UQ (fU I q (by simp))
   |bl j=>cases ry;exact eq_bool (fU I q FZ)
   |str j=>obtain⟨t',rfl⟩:=ry;exact U1 (fU I q (by simp))
   |_=>exact absurd (show false=true from hs) b9
 | int i =>
   obtain⟨t,rfl⟩:=rx;cases y with
   |ae=>cases ry;exact UR (fU I q (by simp))
   |int j=>obtain⟨t',rfl⟩:=ry;exact eq_int (fU I q C0)
   |str j=>obtain⟨t',rfl⟩:=ry;exact U2 (fU I q (by simp))
   |_=>exact absurd (show false=true from hs) b9
 | str i =>
   obtain⟨t,rfl⟩:=rx;cases y with
   |ae=>cases ry;exact US (fU I q (by simp))
   |bl j=>cases ry;exact U3 (fU I q (by simp))
   |int j=>obtain⟨t',rfl⟩:=ry;exact U4 (fU I q (by simp))
   |str j=>obtain⟨t',rfl⟩:=ry;exact eq_str (fU I q C2)
   |_=>exact absurd (show false=true from hs) b9
 | eZ i =>
   obtain⟨t,rfl⟩:=rx;cases y with
   |eZ j=>obtain⟨t',rfl⟩:=ry;exact PySem.W.eq_bytes (fU I q C3)
   |_=>exact absurd (show false=true from hs) b9
 |_=>cases y<;>exact absurd (show false=true from hs) b9
theorem MF:aA X (compareOp .NotEq) RH:=by
 intro pins s σ H x y v u Q I rx ry h;obtain⟨hs,q⟩:=h;cases x with
 | ae =>
   cases rx;cases y with
   |ae=>cases ry;exact UT (fU I q (by simp))
   |bl j=>cases ry;exact UU (fU I q (by simp))
   |int j=>obtain⟨t',rfl⟩:=ry;exact UW (fU I q (by simp))
   |str j=>obtain⟨t',rfl⟩:=ry;exact UX (fU I q (by simp))
   |_=>exact absurd (show false=true from hs) b9
 | bl i =>
   cases rx;cases y with
   |ae=>cases ry;exact UY (fU I q (by simp))
   |bl j=>cases ry;exact ne_bool (fU I q (congrArg not FZ))
   |str j=>obtain⟨t',rfl⟩:=ry;exact U5 (fU I q (by simp))
   |_=>exact absurd (show false=true from hs) b9
 | int i =>
   obtain⟨t,rfl⟩:=rx;cases y with
   |ae=>cases ry;exact UZ (fU I q (by simp))
   |int j=>obtain⟨t',rfl⟩:=ry;exact ne_int (fU I q (congrArg not C0))
   |str j=>obtain⟨t',rfl⟩:=ry;exact U6 (fU I q (by simp))
   |_=>exact absurd (show false=true from hs) b9
 | str i =>
   obtain⟨t,rfl⟩:=rx;cases y with
   |ae=>cases ry;exact U0 (fU I q (by simp))
   |bl j=>cases ry;exact U7 (fU I q (by simp))
   |int j=>obtain⟨t',rfl⟩:=ry;exact U8 (fU I q (by simp))
   |str j=>obtain⟨t',rfl⟩:=ry;exact ne_str (fU I q (congrArg not C2))
   |_=>exact absurd (show false=true from hs) b9
 | eZ i =>
   obtain⟨t,rfl⟩:=rx;cases y with
   |eZ j=>obtain⟨t',rfl⟩:=ry;exact PySem.W.ne_bytes (fU I q (congrArg not C3))
   |_=>exact absurd (show false=true from hs) b9
 |_=>cases y<;>exact absurd (show false=true from hs) b9
theorem O3:aA X (compareOp .Lt) (dZ λi j=>.bl (decide (i<j))):=Ex λ_ _ _ _ _ _ _ q=>lt_int q
theorem O4:aA X (compareOp .LtE) (dZ λi j=>.bl (decide (i<=j))):=Ex λ_ _ _ _ _ _ _ q=>le_int q
theorem O5:aA X (compareOp .GtE) (dZ λi j=>.bl (decide (j<=i))):=Ex λ_ _ _ _ _ _ _ q=>ge_int q
theorem aA.or {f:Value->Value->Sem Value}{r r':R2}(h:aA X f r) (h':aA X f r'):aA X f (λx y H Q=>r x y H Q \/ r' x y H Q):=by
 intro pins s σ H x y v u Q I rx ry q;rcases q with q|q
 ·exact h pins s σ H x y v u Q I rx ry q
 ·exact h' pins s σ H x y v u Q I rx ry q
theorem VG (b:Expr) (h:op≠.In:=by decide) (h2:op≠.NotIn:=by decide):behindInMarks op b=false:=by
 have e1:(op==CmpOp.In)=false:=by cases op<;>first|rfl|exact absurd rfl h
 have e2:(op==CmpOp.NotIn)=false:=by cases op<;>first|rfl|exact absurd rfl h2
 cases b<;>simp[behindInMarks,e1,e2]
theorem JW {r:R2}(ho:aA X (compareOp op) r) (ha:PE X a ta) (hb:PE X b tb) (hm:behindInMarks op b=false):PE X (.Compare a [op] [b] pos) (vq r ta tb):=by
 intro pins s σ H Q I h;exact wpAny_Compare1 (Ew ha hb I h λv u s2 x y H2 I2 rx ry q=>ho pins s2 σ H2 x y v u Q I2 rx ry q) hm
noncomputable def VH (t:TE):TT:=λσ H Q=>t σ H λx H'=>∃ k,x=.bl k /\ Q k H'
theorem C4 {r:R2}(ho:aA X (compareOp op) r) (ha:PE X a ta) (hb:PE X b tb) (hm:behindInMarks op b=false):PT X (.Compare a [op] [b] pos) (VH (vq r ta tb)):=by
 intro pins s σ H Q I h;refine wpAny_isTrue_Compare1 (ao (ha pins s σ H _ I h) λv s1 ⟨x,H1,I1,r1,q1⟩=>ao (hb pins s1 σ H1 _ I1 q1) λu s2 ⟨y,H2,I2,r2,q2⟩ =>
  ao (ho pins s2 σ H2 x y v u _ I2 r1 r2 q2) λc s3 ⟨z,H3,I3,r3,k,e,q3⟩=>?_) hm
 subst e;cases r3;exact qe ⟨H3,I3,q3⟩
def RI (r r':R2) (ta tb tc:TE):TE:=λσ H Q=>ta σ H λx H1=>tb σ H1 λy H2=>r x y H2 λz H3=>∃ k,z=.bl k /\
 (if k=true then tc σ H3 λw' H4=>r' y w' H4 Q else Q (.bl false) H3)
theorem F6 {eK:CmpOp}{r r':R2}(ho:aA X (compareOp op) r) (nM:aA X (compareOp eK) r') (ha:PE X a ta) (hb:PE X b tb) (hc:PE X c tc)
 (hm:lastMarks [op,eK] [b,c]=false:=by with_unfolding_all rfl):PE X (.Compare a [op,eK] [b,c] pos) (RI r r' ta tb tc):=by
 intro pins s σ H Q I h;refine Compare_chain (ao (ha pins s σ H _ I h) λv s1 ⟨x,H1,I1,r1,q1⟩=>chain_link (ao (hb pins s1 σ H1 _ I1 q1) λu s2 ⟨y,H2,I2,r2,q2⟩ =>
  ao (ho pins s2 σ H2 x y v u _ I2 r1 r2 q2) λd s3 ⟨z,H3,I3,r3,k,e,q3⟩=>?_)) hm
 subst e;cases r3;refine qe ?_;cases k with
 |false=>exact ite_ff ⟨.bl false,H3,I3,rfl,q3⟩
 |true=>exact ite_tt (chain_last (ao (hc pins s3 σ H3 _ I3 q3) λw' s4 ⟨z',H4,I4,r4,q4⟩=>nM pins s4 σ H4 y z' u w' Q I4 r2 r4 q4))
theorem t8:(sizeLine:Nat)<2 ^ 63:=by rw[a7];decide
theorem Ce:aA X (binaryOp .Add) (λx y H Q=>∃ i j,x=.str i /\ y=.str j /\ i.length+j.length<=sizeLine /\ Q (.str (i++j)) H):=by
 intro pins s σ H x y v u Q I rx ry h;obtain⟨i,j,rfl,rfl,hz,q⟩:=h;obtain⟨t,rfl⟩:=rx;obtain⟨t',rfl⟩:=ry;exact add_str (λt' tk=>⟨.str (i++j),H,I.tok _,⟨_,rfl⟩,q⟩) hz
theorem vals1 {x:V}(r:Vals [x] us):∃ u,us=[u] /\ RelV x u:=by
 cases r with
 |cons r1 r2=>cases r2;exact⟨_,rfl,r1⟩
theorem vals2 {x y:V}(r:Vals [x,y] us):∃ u w',us=[u,w'] /\ RelV x u /\ RelV y w':=by
 cases r with
 | cons r1 r2 =>
   cases r2 with
   |cons r3 r4=>cases r4;exact⟨_,_,rfl,r1,r3⟩
theorem D7 (hc:X.calm=true):cK X (.builtin "max") (λxs H Q=>∃ i j,xs=[.int i,.int j] /\ Q (.int (if j>i then j else i)) H):=by
 intro pins s σ H xs us Q I r h;obtain⟨i,j,rfl,q⟩:=h;obtain⟨u,w',rfl,⟨t,rfl⟩,⟨t',rfl⟩⟩:=vals2 r;refine max_two_ints (I.ok.hd hc) λh' tk k=>⟨_,H,I.kept k,?_,q⟩;by_cases hj:j>i
 ·rw[if_pos hj,if_pos hj];exact⟨_,rfl⟩
 ·rw[if_neg hj,if_neg hj];exact⟨_,rfl⟩
theorem D8 (hc:X.calm=true):cK X (.builtin "min") (λxs H Q=>∃ i j,xs=[.int i,.int j] /\ Q (.int (if j<i then j else i)) H):=by
 intro pins s σ H xs us Q I r h;obtain⟨i,j,rfl,q⟩:=h;obtain⟨u,w',rfl,⟨t,rfl⟩,⟨t',rfl⟩⟩:=vals2 r;refine min_two_ints (I.ok.hd hc) λh' tk k=>⟨_,H,I.kept k,?_,q⟩;by_cases hj:j<i
 ·rw[if_pos hj,if_pos hj];exact⟨_,rfl⟩
 ·rw[if_neg hj,if_neg hj];exact⟨_,rfl⟩
end
structure sd (h:Heap) (x dx C:Addr) (mA:Str->Option Value):Prop where
 obj:h.get? x=some (PySem.W.instObj C dx)
 ns:h.Ns1 dx mA
 ne:dx≠x
theorem D9 {h:Heap}{dx:Addr}(n:h.Ns1 dx mA):∃ od,h.get? dx=some od /\ ∀ name,PySem.W.lookIn name od=some (mA name):=by
 obtain⟨o,es,ep,ho,hd,hk,_,hm⟩:=n;refine⟨o,ho,λname=>?_⟩;have e:=hm name;unfold nsFind findBy at e;rw[<-Array.find?_toList]at e;unfold PySem.W.lookIn;rw[hd];dsimp only;split
 ·rename_i y q;rw[q]at e;exact congrArg some e
 ·rename_i q;rw[q]at e;have a:es.toList.any (·.refKey)=false:=by
   rw[K5];intro y hy;obtain⟨z,t,VI⟩:=hk y (Array.mem_toList_iff.mp hy);simp[DictEntry.refKey,VI]
  have a':¬ es.toList.any (·.refKey)=true:=by rw[a];exact b9
  rw[if_neg a'];exact congrArg some e
theorem sd.look {h:Heap}{x dx:Addr}(I:sd h x dx C mA):∃ od,PySem.W.InstAt h x (PySem.W.instObj C dx) C (some od) /\ ∀ name,PySem.W.lookIn name od=some (mA name):=
 let ⟨od,ho,hl⟩:=D9 I.ns
 ⟨od,⟨I.obj,rfl,rfl,ho⟩,hl⟩
section
variable {x dx : Addr} {name : Str} 
theorem JX {expr:Bool}(X:K.In s.heap) (I:sd s.heap x dx C mA) (hg:PySem.W.plainGet K C name=true) (hh:PySem.W.hasDictIn K C=true)
 (ha:PySem.W.findIn K (.ref C) name=some none) (hv:mA name=some v) (vt:PySem.W.handedIn v=true) (h:Q v { s with toks:=s.toks+1 }) :
 wpAny (model prog w) A (getAttr (.ref x) name expr) Q E s:=by
 obtain⟨od,J,hl⟩:=I.look;exact PySem.W.get_value X J (zX hg).1 (PySem.W.findObj_own hh ha rfl (by rw[hl,hv])) vt h
theorem F7 {pl:Sem Bool}{Q:Value×List Value->Shared->Prop}(X:K.In s.heap) (I:sd s.heap x dx C mA) (hg:PySem.W.plainGet K C name=true)
 (hf:PySem.W.findIn K (.ref C) name=some (some (.ref f))) (ht:PySem.W.isFn K (.ref f)=true) (hv:mA name=none) (h:Q (.ref f,[.ref x]) s) :
 wpAny (model prog w) A (getMethod (.ref x) name pl) Q E s:=by
 obtain⟨od,J,hl⟩:=I.look;exact PySem.W.method_fn X J (zX hg).1 (zX hg).2 hf (beq_iff_eq.mp ht) (by show (PySem.W.lookIn name od).map (·.isSome)=some false;rw[hl,hv];rfl) h
theorem JY {ns:List Str}{Q:Unit->Shared->Prop}(X:K.In s.heap) (I:sd s.heap x dx C mA)
 (hs:PySem.W.findIn K (.ref C) "__setattr__"=some (some (.builtin "object.__setattr__"))) (hp:PySem.W.plainOver K C=true) (ht:PySem.W.takerIn K C name=some none) (hh:PySem.W.hasDictIn K C=true)
 (hw:PySem.Within mA ns) (hsz:ns.length<=sizeLine)
 (h:∀ h',sd h' x dx C (λy=>if y=name then some v else mA y)->Heap.SameBut dx s.heap h'->Q () { s with heap:=h',toks:=s.toks+2 }) :
 wpAny (model prog w) A (setAttr (.ref x) name v) Q E s:=by
 obtain⟨od,J,hl⟩:=I.look;refine PySem.W.set_plain X J hs (PySem.W.osa_open (s:={ s with toks:=s.toks+1 }) (r:=none) X J hp ht λb=>?_);obtain⟨cd,hc,Eh⟩:=PySem.W.any_some hh;have hx:s.heap.get? x=some ⟨.ref C,some dx,.plain,#[]⟩:=I.obj;refine aa (ah (aa (aa (Kp hx (aa (PySem.W.Looks.here (s:={ s with toks:=s.toks+1 }) (PySem.W.looks_clsIn X hc) ?_))))));rw[Eh];refine ah (a:=some dx) (aa (ah (aa ?_)));refine wpAny_nsSet1 (s:={ s with toks:=s.toks+1 }) I.ns λh' RJ dv=>?_;obtain⟨oD,aad,aae,VJ,VL,qy⟩:=RJ.count (PySem.Within.cons name v hw);refine aa (wpAny_lookBehind VJ (by rw[VL];exact pastItsLine_dict (bu qy (by rw[aX];omega))) ?_);exact ah (h _ ⟨(dv.2 _ (Ne.symm I.ne)).trans I.obj,RJ,I.ne⟩ dv)
theorem F8 (X:K.In s.heap) (hm:PySem.W.makesIn K C=true)
 (hi:PySem.W.findIn K (.ref C) "__init__"=some (some (.ref f))) (hf:PySem.W.typeIn K (.ref f)=some (.type "function"))
 (h:codeAny (model prog w) (A.under (.builtin "type.__call__" ⟨.ref C::vs,kw⟩)) (.call (.ref f) ⟨.ref (s.heap.objs.size+1)::vs,kw⟩) (PySem.W.InitBack (s.heap.objs.size+1) R)
  { s with heap:=(s.heap.push PySem.W.emptyDict).push (PySem.W.instObj C s.heap.objs.size) }) :
 codeAny (model prog w) A (.call (.ref C) ⟨vs,kw⟩) R s:=by
 obtain⟨hh,g,d,t,os⟩:=s;exact PySem.W.make_core (PySem.W.makes_of X hm) (PySem.W.looks_findIn X hi) (λself=>PySem.W.bind_fn X self hf) (.inl rfl) h
end
noncomputable def dz (f:Str) (v:V):List (Str×V)->List (Str×V)
 |[]=>[(f,v)]
 |(g,x)::r=>if g=f then (g,v)::r else (g,x)::dz f v r
theorem mJ (f g:Str) (v:V):∀ fs:List (Str×V),(dz f v fs).lookup g=if g=f then some v else fs.lookup g
 | []=>by
   show List.lookup g [(f,v)]=_;by_cases h:g=f
   ·have hb:(g==f)=true:=beq_iff_eq.mpr h;simp only[List.lookup,hb,if_pos h]
   ·have hb:(g==f)=false:=beq_eq_false_iff_ne.mpr h;simp only[List.lookup,hb,if_neg h]
 | (k,x)::r=>by
   have ih:=mJ f g v r;rw[show dz f v ((k,x)::r)=(if k=f then (k,v)::r else (k,x)::dz f v r) from rfl];by_cases hk:k=f
   ·rw[if_pos hk];by_cases h:g=k
    ·have hb:(g==k)=true:=beq_iff_eq.mpr h;simp only[List.lookup,hb,if_pos (h.trans hk)]
    ·have hb:(g==k)=false:=beq_eq_false_iff_ne.mpr h;simp only[List.lookup,hb,if_neg (λe:g=f=>h (e.trans hk.symm))]
   ·rw[if_neg hk];by_cases h:g=k
    ·have hb:(g==k)=true:=beq_iff_eq.mpr h;simp only[List.lookup,hb,if_neg (λe:g=f=>hk (h.symm.trans e))]
    ·have hb:(g==k)=false:=beq_eq_false_iff_ne.mpr h;simp only[List.lookup,hb];exact ih
theorem l7 (f:Str) (v:V):∀ fs:List (Str×V),f∈(dz f v fs).map (·.1) /\ ∀ g,g∈fs.map (·.1)->g∈(dz f v fs).map (·.1)
 |[]=>⟨by simp[dz],λg h=>by simp at h⟩
 | (k,x)::r=>by
   obtain⟨i1,i2⟩:=l7 f v r;rw[show dz f v ((k,x)::r)=(if k=f then (k,v)::r else (k,x)::dz f v r) from rfl];by_cases hk:k=f
   ·rw[if_pos hk];subst hk;exact⟨by simp,λg h=>by simpa using h⟩
   ·rw[if_neg hk];refine⟨?_,λg h=>?_⟩
    ·rw[aN];exact aV _ i1
    ·rw[aN]at h ⊢;rcases aY.mp h with e|e
     ·exact aY.mpr (.inl e)
     ·exact aV _ (i2 g e)
theorem mK (f:Str) (v:V):∀ fs:List (Str×V),(dz f v fs).length<=fs.length+1
 |[]=>by simp[dz]
 | (k,x)::r=>by
   have ih:=mK f v r;rw[show dz f v ((k,x)::r)=(if k=f then (k,v)::r else (k,x)::dz f v r) from rfl];by_cases hk:k=f
   ·rw[if_pos hk,aX,aX];omega
   ·rw[if_neg hk,aX,aX];omega
theorem pH.some_of {v:V}{o:Option Value}(r:pH (some v) o):∃ u,o=some u /\ RelV v u:=by
 cases o with
 |none=>exact(show False from r).elim
 |some u=>exact⟨u,rfl,r⟩
theorem pH.none_of {o:Option Value}(r:pH none o):o=none:=by
 cases o with
 |none=>rfl
 |some u=>exact(show False from r).elim
theorem Fa {v:V}(r:RelV v u):PySem.W.handedIn u=true:=by
 cases v with
 |ae=>cases (show u=Value.none from r);rfl
 |bl b=>cases (show u=Value.bool b from r);rfl
 |int i=>obtain⟨t,e⟩:=(show ∃ t,u=Value.int i t from r);cases e;rfl
 |str x=>obtain⟨t,e⟩:=(show ∃ t,u=Value.str x t from r);cases e;rfl
 |eZ b=>obtain⟨t,e⟩:=(show ∃ t,u=Value.bytes b t from r);cases e;rfl
 |qm b=>obtain⟨t,e⟩:=(show ∃ t,u=Value.float b t from r);cases e;rfl
 |ref a=>cases (show u=Value.ref a from r);rfl
 |ty n=>cases (show u=Value.type n from r);rfl
section
variable {h : Heap} {dx : Addr} {fs Vf : List (Str × V)}
theorem mZ (ai:bJ P w H h) (e:H a=some (.ins C dx fs)):∃ mA,sd h a dx C mA /\ (∀ f,pH (fs.lookup f) (mA f)) /\ PySem.Within mA (fs.map (·.1)) /\ fs.length<=1000 /\ H dx=some (.own a):=by
 obtain⟨d,z,ne,ob,mA,n,r,q⟩:=(show aZ P w H h a (.ins C dx fs) from ai a _ e);exact⟨mA,⟨ob,n,ne⟩,r,q,z,d⟩
end
structure dI (K:PySem.W.Frag) (C:Addr):Prop where
 pg:PySem.W.plainGet K C Str.empty=true
 hd:PySem.W.hasDictIn K C=true
 po:PySem.W.plainOver K C=true
 sa:PySem.W.findIn K (.ref C) "__setattr__"=some (some (.builtin "object.__setattr__"))
theorem dI.get (c:dI K C) (f:Str):PySem.W.plainGet K C f=true:=c.pg
def nQ (K:PySem.W.Frag) (C:Addr) (f:Str):Prop:=PySem.W.findIn K (.ref C) f=some none
theorem nQ.VM {f:Str}(n:nQ K C f):PySem.W.takerIn K C f=some none:=by
 unfold PySem.W.takerIn;rw[show PySem.W.findIn K (.ref C) f=some none from n];rfl
structure Meth (K:PySem.W.Frag) (C:Addr) (m:Str) (f:Addr):Prop where
 at_:PySem.W.findIn K (.ref C) m=some (some (.ref f))
 fn:PySem.W.isFn K (.ref f)=true
 kp:PySem.W.keepIn K (.ref f)=true
section
variable {dx : Addr} {fs : List (Str × V)} {f : Str} {v : V} 
theorem Cg {b:Bool}(I:Inv X pins σ H s) (e:H a=some (.ins C dx fs)) (c:dI X.K C) (n:nQ X.K C f) (l:fs.lookup f=some v)
 (h:∀ u s',Inv X pins σ H s'->RelV v u->Q u s'):wpAny (model X.prog X.w) A (getAttr (.ref a) f b) Q E s:=by
 obtain⟨mA,O,r,_,_,_⟩:=mZ I.ai e;obtain⟨u,hu,ru⟩:=pH.some_of (v:=v) (o:=mA f) (by rw[<-l];exact r f);exact JX I.bz O (c.get f) c.hd n hu (Fa ru) (h u _ (I.tok _) ru)
theorem oq {m:Str}{g:Addr}{pl:Sem Bool}{Q:Value×List Value->Shared->Prop}(I:Inv X pins σ H s) (e:H a=some (.ins C dx fs)) (c:dI X.K C) (k:Meth X.K C m g) (l:fs.lookup m=none)
 (h:Q (.ref g,[.ref a]) s):wpAny (model X.prog X.w) A (getMethod (.ref a) m pl) Q E s:=by
 obtain⟨mA,O,r,_,_,_⟩:=mZ I.ai e;have hn:mA m=none:=pH.none_of (by rw[<-l];exact r m);exact F7 I.bz O (c.get m) k.at_ k.fn hn h
theorem Ch {y:V}{Q:Unit->Shared->Prop}(I:Inv X pins σ H s) (e:H a=some (.ins C dx fs)) (c:dI X.K C) (n:nQ X.K C f) (hl:fs.length<1000) (ry:RelV y u)
 (h:∀ s',Inv X pins σ (upd H a (.ins C dx (dz f y fs))) s'->Q () s'):wpAny (model X.prog X.w) A (setAttr (.ref a) f u) Q E s:=by
 obtain⟨mA,O,r,wi,_,ho⟩:=mZ I.ai e;have hz:(fs.map (·.1)).length<=sizeLine:=by rw[aL,a7];omega
 refine JY I.bz O c.sa c.po n.VM c.hd wi hz λh' O' sb=>h _ ?_;have hd:∃ o,h'.get? dx=some o:=let ⟨o,_,_,e',_⟩:=O'.ns;⟨o,e'⟩
 refine I.write (x:=a) (e:=dx) (by rw[e];exact True.intro) (.inr ho) (λb q hb z=>(sb.2 b hb).trans z) hd ?_;refine⟨by rw[fq O.ne];exact ho,?_,O.ne,O'.obj,_,O'.ns,λg=>?_,λg hg=>?_⟩
 ·have:=mK f y fs;omega
 ·show pH ((dz f y fs).lookup g) (if g=f then some u else mA g);rw[mJ];by_cases q:g=f
  ·rw[if_pos q,if_pos q];exact ry
  ·rw[if_neg q,if_neg q];exact r g
 ·by_cases q:g=f
  ·rw[q];exact(l7 f y fs).1
  ·refine(l7 f y fs).2 g (wi g λz=>hg ?_);show (if g=f then some u else mA g)=none;rw[if_neg q];exact z
theorem Inv.made (I:Inv X pins σ H s):Inv X pins σ (upd (upd H s.heap.objs.size (.own (s.heap.objs.size+1))) (s.heap.objs.size+1) (.ins C s.heap.objs.size []))
 { s with heap:=(s.heap.push PySem.W.emptyDict).push (PySem.W.instObj C s.heap.objs.size) }:=by
 have e1:(s.heap.push PySem.W.emptyDict).get? s.heap.objs.size=some PySem.W.emptyDict:=bP s.heap rfl;have e2:((s.heap.push PySem.W.emptyDict).push (PySem.W.instObj C s.heap.objs.size)).get? (s.heap.objs.size+1)=some (PySem.W.instObj C s.heap.objs.size):=by
  have:=bP (s.heap.push PySem.W.emptyDict) (o:=PySem.W.instObj C s.heap.objs.size) rfl
  rwa [pz]at this
 have e3:(s.heap.push PySem.W.emptyDict).Ns s.heap.objs.size (λ_=>none):=⟨PySem.W.emptyDict,#[],_,e1,rfl,(λe he=>absurd he (by simp)),λ_=>rfl⟩;have I1:=I.laid (a:=s.heap.objs.size) (o:=.own (s.heap.objs.size+1)) (h':=s.heap.push PySem.W.emptyDict) (t':=s.toks) (λb u q=>aG _ q) (ag _) ⟨_,e1⟩;refine I1.laid (a:=s.heap.objs.size+1) (o:=.ins C s.heap.objs.size []) (t':=s.toks) (λb u q=>aG _ q) (tj (pz _ _)) ?_;have ne:s.heap.objs.size≠s.heap.objs.size+1:=cU (nJ _);refine⟨by rw[fq ne,fw],k8 _,ne,e2,λ_=>none,(U9 e3).at λo q=>aG _ q,λ_=>True.intro,λy hy=>absurd rfl hy⟩
theorem JZ {env:Env}{f:Str}(hb:attributeBase e f env (eval e env)=eval e env)
 (h:wpAny (model prog w) A (eval e env) (λo s₁=>wpAny (model prog w) A (getAttr o f true) Q E s₁) E s):wpAny (model prog w) A (eval (.Attribute e f pos) env) Q E s :=
 Attribute_any_ h (by rw[arm_eval_Attribute,hb])
end
def VN (K:PySem.W.Frag) (ta:TE) (f:Str):TE:=λσ H Q=>ta σ H λx H1=>∃ a C dx fs v,x=.ref a /\ H1 a=some (.ins C dx fs) /\ dI K C /\ nQ K C f /\ fs.lookup f=some v /\ Q v H1
def VO (K:PySem.W.Frag) (ta tv:TE) (f:Str):TS:=λD σ H=>tv σ H λy H1=>ta σ H1 λx H2=>∃ a C dx fs,x=.ref a /\ H2 a=some (.ins C dx fs) /\ dI K C /\ nQ K C f /\ fs.length<1000 /\
 D.nx σ (upd H2 a (.ins C dx (dz f y fs)))
section
variable {o value : Expr} {f : Str} {pos' RK : Pos} {ta tv : TE}
theorem Nd (he:PE X e ta) (hb:attributeBase e f X.env (eval e X.env)=eval e X.env):PE X (.Attribute e f pos) (VN X.K ta f):=by
 intro pins s σ H Q I h;refine JZ hb (ao (he pins s σ H _ I h) λu s1 ⟨x,H1,I1,rx,a,C,dx,fs,v,ex,ea,c,n,l,q⟩=>?_);subst ex;obtain rfl:u=Value.ref a:=rx;exact Cg I1 ea c n l λu' s2 I2 ru=>⟨v,H1,I2,ru,q⟩
theorem F9 (ha:PE X o ta) (hv:PE X value tv) (hs:swapsWith value (some (.Attribute o f pos')) pos.line X.env=pure false):PS X (.Assign [.Attribute o f pos'] value pos) (VO X.K ta tv f):=by
 intro pins s σ H D I h;refine plainObj_wpAny_Assign_Attribute (ao (hv pins s σ H _ I h) λu s1 ⟨y,H1,I1,ry,q⟩=>ao (ha pins s1 σ H1 _ I1 q) λov s2 ⟨x,H2,I2,rx,a,C,dx,fs,ex,ea,c,n,l,q2⟩=>?_) hs;subst ex;obtain rfl:ov=Value.ref a:=rx;exact Ch I2 ea c n l ry λs3 I3=>⟨σ,_,I3,q2⟩
end
section
variable {c : Value} {b : Bool}
inductive hV (K:PySem.W.Frag) (H:Hp):V->Value->Prop where
 |ae:hV K H .ae (.type "NoneType")
 |bl (x:Bool):hV K H (.bl x) (.type "bool")
 |int (i:Int):hV K H (.int i) (.type "int")
 |str (x:Str):hV K H (.str x) (.type "str")
 |qm (x:UInt64):hV K H (.qm x) (.type "float")
 |lst {a:Addr}{xs:List V}(e:H a=some (.lst xs)):hV K H (.ref a) (.type "list")
 |cW {a:Addr}{o:Obj}{xs:List V}(e:H a=some (.cW o (.lst xs))):hV K H (.ref a) (.type "list")
 |tup {a:Addr}{xs:List V}(e:H a=some (.tup xs)):hV K H (.ref a) (.type "tuple")
 |dK {a:Addr}{ay:List (Key×V)}(e:H a=some (.dK ay)):hV K H (.ref a) (.type "dict")
 |dT {a:Addr}{ay:List (List Key×V)}(e:H a=some (.dT ay)):hV K H (.ref a) (.type "dict")
 |ins {a C dx:Addr}{fs:List (Str×V)}(e:H a=some (.ins C dx fs)) (cl:dI K C) (ha:PySem.W.findIn K (.ref C) "__class__"=some (some (.builtin "object.__class__")))
  (hn:PySem.W.specialIn K (.builtin "object.__class__") "__get__"=some (some (.builtin "getset_descriptor.__get__"))) (RL:PySem.W.takesIn K (.builtin "object.__class__")=some true)
  (hm:PySem.W.mroIn K C (.type "object")=some true):hV K H (.ref a) (.ref C)
theorem Fb {x:V}{t:Value}(I:Inv X pins σ H s) (rx:RelV x u) (ty:hV X.K H x t) (e:PySem.W.kitOne X.K t c=some b) (h:∀ tk,Q (.bool b) { s with toks:=tk }) :
 wpAny (model X.prog X.w) A (call (.builtin "isinstance") [u,c]) Q E s:=by
 cases ty with
 |ae=>cases (show u=Value.none from rx);exact nq PySem.W.kitx_none I.bz True.intro e (λz=>nomatch z) h
 |bl y=>cases (show u=Value.bool y from rx);exact nq PySem.W.kitx_bool I.bz True.intro e (λz=>nomatch z) h
 |int i=>obtain⟨t,q⟩:=(show ∃ t,u=Value.int i t from rx);cases q;exact nq PySem.W.kitx_int I.bz True.intro e (λz=>nomatch z) h
 |str y=>obtain⟨t,q⟩:=(show ∃ t,u=Value.str y t from rx);cases q;exact nq PySem.W.kitx_str I.bz True.intro e (λz=>nomatch z) h
 |qm y=>obtain⟨t,q⟩:=(show ∃ t,u=Value.float y t from rx);cases q;exact nq PySem.W.kitx_float I.bz True.intro e (λz=>nomatch z) h
 | @lst a xs ea =>
   cases (show u=Value.ref a from rx);obtain⟨_,_,n,_,h1⟩:=(show aZ X.prog X.w H s.heap a (.lst xs) from I.ai a _ ea);exact nq QC I.bz ⟨_,h1,rfl⟩ e (λz=>nomatch z) h
 | @cW a ob xs ea =>
   cases (show u=Value.ref a from rx);obtain⟨_,_,_,n,_,h1⟩:=(show aZ X.prog X.w H s.heap a (.cW ob (.lst xs)) from I.ai a _ ea);exact nq QC I.bz ⟨_,h1,rfl⟩ e (λz=>nomatch z) h
 | @tup a xs ea =>
   cases (show u=Value.ref a from rx);obtain⟨_,_,_,p⟩:=(show aZ X.prog X.w H s.heap a (.tup xs) from I.ai a _ ea);obtain⟨o,h1,h2,_⟩:=p;exact nq PySem.W.kitx_tuple I.bz ⟨o,h1,h2⟩ e (λz=>nomatch z) h
 | @dK a ay ea =>
   cases (show u=Value.ref a from rx);obtain⟨_,_,vs,_,p⟩:=(show aZ X.prog X.w H s.heap a (.dK ay) from I.ai a _ ea);obtain⟨o,es,ep,h1,h2,_⟩:=p;exact nq QD I.bz ⟨o,h1,h2.1⟩ e (λz=>nomatch z) h
 | @dT a ay ea =>
   cases (show u=Value.ref a from rx);obtain⟨_,_,xs,_,o,es,ep,h1,h2,_⟩:=(show aZ X.prog X.w H s.heap a (.dT ay) from I.ai a _ ea);exact nq QD I.bz ⟨o,h1,h2.1⟩ e (λz=>nomatch z) h
 | @ins a C dx fs ea cl ha hn RL hm =>
   cases (show u=Value.ref a from rx);obtain⟨mA,O,_⟩:=mZ I.ai ea;obtain⟨od,J,_⟩:=O.look;exact nq (PySem.W.kitx_own (cl.get _) cl.hd ha hn RL hm) I.bz J e (λz=>nomatch z) h
end
structure aO (k:Nat) (A:Around):Prop where
 hd:A.handled=none
 dp:A.depth+3*k+5<recursionLimit
 un:A.units+16*k+200<cLine
 gd:A.guards=some []
theorem aO.mono (r:aO k A) (h:j<=k):aO j A:=⟨r.hd,by have:=r.dp;omega,by have:=r.un;omega,r.gd⟩
theorem aO.deeper {k:Nat}{A:Around}(r:aO (k+1) A) (env:Env):aO k (A.deeper env):=
 ⟨r.hd,by have:=r.dp;show A.depth+1+3*k+5<_;omega,by have:=r.un;show A.units+3+16*k+200<_;omega,by first|exact r.gd|(rw[<-r.gd];first|rfl|simp[Around.under,Code.isGuard,guardIds])⟩
theorem Ci:(A.under (.builtin "type.__call__" ⟨.ref C::us,kw⟩)).depth=A.depth+1:=by
 first|rfl|simp[Around.under,Code.weight,Code.isCreation,Code.isGuard,Code.isCaller,Code.frames,Code.isFrame,guardIds]
theorem Cj:(A.under (.builtin "type.__call__" ⟨.ref C::us,kw⟩)).units=A.units+1:=by
 first|rfl|simp[Around.under,Code.cUnits,Code.frames,Code.isFrame]
theorem aO.make (r:aO (k+1) A) (C:Addr) (us:List Value) (kw:List (Str×Value)):aO k (A.under (.builtin "type.__call__" ⟨.ref C::us,kw⟩)):=
 ⟨r.hd,by have:=r.dp;rw[Ci];omega,by have:=r.un;rw[Cj];omega,by first|exact r.gd|(rw[<-r.gd];first|rfl|simp[Around.under,Code.isGuard,guardIds])⟩
theorem aO.depth {k:Nat}{A:Around}(r:aO k A):A.depth<recursionLimit:=by have:=r.dp;omega
theorem aO.units {k:Nat}{A:Around}(r:aO k A):A.units+64<cLine:=by have:=r.un;omega
def xt:TA:=λ_ H Q=>Q [] H
def Ey (ta:TE) (tr:TA):TA:=λσ H Q=>ta σ H λx H1=>tr σ H1 λxs H2=>Q (x::xs) H2
section
variable {te : TE} {t : TA} 
theorem fO:PA X [] xt:=λ_ _ _ _ H Q I h=>Calls.spliced_nil ⟨[],H,I,.nil,h⟩
theorem fj (ha:PE X e te) (hr:PA X es t) (hs:starEach (e::es) X.env=(false,eval e X.env)::starEach es X.env:=by rfl):PA X (e::es) (Ey te t):=by
 intro pos pins s σ H Q I h;rw[hs];show wpAny _ _ (spliced ((false,eval e X.env)::backTo pos (starEach es X.env))) _ _ s;refine Calls.spliced_cons (ao (ha pins s σ H _ I h) λu s1 ⟨x,H1,I1,r1,q1⟩=>?_);exact ao (hr pos pins s1 σ H1 _ I1 q1) λus s2 ⟨xs,H2,I2,r2,q2⟩=>⟨x::xs,H2,I2,.cons r1 r2,q2⟩
def VP (t:TA):TE:=λσ H Q=>t σ H λxs H1=>xs.length<=sizeLine /\ ∀ p,H1 p=none->Q (.ref p) (upd H1 p (.tup xs))
def VQ (t:TA):TE:=λσ H Q=>t σ H λxs H1=>xs.length<=sizeLine /\ ∀ p,H1 p=none->Q (.ref p) (upd H1 p (.lst xs))
theorem Nf {x1}(h:PA X es t):PE X (.Tuple es x1 pos) (VP t):=by
 intro pins s σ H Q I hq;refine wpAny_Tuple_spliced (ao (h pos pins s σ H _ I hq) λus s1 ⟨xs,H1,I1,r,z,q⟩=>⟨by rw[<-r.length];exact z,?_⟩);have hf:H1 s1.heap.objs.size=none:=I1.ai.fresh (ag _);refine⟨.ref s1.heap.objs.size,upd H1 s1.heap.objs.size (.tup xs),I1.laid (t':=s1.toks) (λb u e=>aG _ e) (ag _) ?_,rfl,q _ hf⟩;exact⟨z,us,r,⟨_,bP _ rfl,rfl,_,rfl⟩⟩
theorem jM (h:PA X es t):PE X (.List es pos) (VQ t):=by
 intro pins s σ H Q I hq;refine wpAny_List_spliced (ao (h pos pins s σ H _ I hq) λus s1 ⟨xs,H1,I1,r,z,q⟩=>⟨by rw[<-r.length];exact z,?_⟩);have hf:H1 s1.heap.objs.size=none:=I1.ai.fresh (ag _);refine⟨.ref s1.heap.objs.size,upd H1 s1.heap.objs.size (.lst xs),I1.laid (t':=s1.toks) (λb u e=>aG _ e) (ag _) ?_,rfl,q _ hf⟩;exact⟨z,us,0,r,bP _ rfl⟩
end
abbrev Sp:=List V->Hp->VK->XK->Prop
abbrev hZ:=List Env->Hp->Shared->XK->Value->Shared->Prop
structure qz (P:Program) (w:World) (K:PySem.W.Frag) (mg:Str->Option Value) (base:Heap) (A:Around) (outer:List Env) (s:Shared) (H:Hp):Prop where
 frames:A.frames=some outer
 mod:Mod K mg base
 bs:∀ b o,base.get? b=some o->s.heap.get? b=some o /\ H b=none
 pI:base.objs.size<=s.heap.objs.size
 dY:s.heap.FunFrames base outer
 nL:∀ b∈cH outer,H b=none
 ai:bJ P w H s.heap
 bare:AllBare s.gens
def CE (outer:List Env) (P:Program) (w:World) (H:Hp) (s:Shared) (Q:VK) (u:Value) (s':Shared):Prop :=
 ∃ v H',s'.os=s.os /\ AllBare s'.gens /\ Un (cH outer) [] H H' s.heap s'.heap /\ bJ P w H' s'.heap /\ RelV v u /\ Q v H'
def CR (CX:hZ) (outer:List Env) (P:Program) (w:World) (H:Hp) (s:Shared) (Q:VK) (E:XK) (r:Result) (s':Shared):Prop :=
 match r with
 |.ok (.ret u)=>CE outer P w H s Q u s'
 |.ok _=>False
 |.error e=>CX outer H s E e s'
structure bA (P:Program) (w:World) (K:PySem.W.Frag) (mg:Str->Option Value) (base:Heap) (CX:hZ) (k:Nat) (f:Addr) (fd:FuncData) (ps:List Str) (sp:Sp):Prop where
 len:∀ vs H Q E,sp vs H Q E->vs.length=ps.length
 run:∀ (A:Around) (outer:List Env) (s:Shared) (H:Hp) (args:Args) (us:List Value) (vs:List V) (Q:VK) (E:XK),aO k A->qz P w K mg base A outer s H->BindsTo s fd args (ps.zip us)->Vals vs us->sp vs H Q E ->
  codeAny (model P w) A (.call (.ref f) args) (CR CX outer P w H s Q E) s
theorem bA.mono {P:Program}{w:World}{K:PySem.W.Frag}{mg:Str->Option Value}{base:Heap}{CX:hZ}{j k:Nat}{f:Addr}{fd:FuncData}{ps:List Str}{sp:Sp}(F:bA P w K mg base CX j f fd ps sp) (h:j<=k) :
 bA P w K mg base CX k f fd ps sp:=⟨F.len,λA outer s H args us vs Q E hr=>F.run A outer s H args us vs Q E (hr.mono h)⟩
theorem qz.make (e:qz P w K mg base A outer s H) (C:Addr) (us:List Value) (kw:List (Str×Value)) :
 qz P w K mg base (A.under (.builtin "type.__call__" ⟨.ref C::us,kw⟩)) outer s H:=⟨by first|exact e.frames|(simpa[Around.under,Code.envs,Code.isFrame,pushEnvs] using e.frames),e.mod,e.bs,e.pI,e.dY,e.nL,e.ai,e.bare⟩
section
variable {s' : Shared}
theorem Inv.env0 (I:Inv X pins σ H s):qz X.prog X.w X.K X.mg X.base X.A X.stack s H :=
 ⟨I.ok.frames,I.ok.mod,I.bs,bu I.ok.pI I.sz,I.stack,I.Ei,I.ai,I.bare⟩
theorem Inv.after {Q:VK}(I:Inv X pins σ H s) (h:CE X.stack X.prog X.w H s Q u s'):EP X pins σ Q u s':=by
 obtain⟨v,H',os,bare,un,ai,r,q⟩:=h;obtain⟨hh,g,d,t,os'⟩:=s';obtain rfl:os'=s.os:=os;exact⟨v,H',I.call (h':=hh) (g':=g) (d':=d) (t':=t) (ch:=[]) un ai bare (λb z=>absurd z (by simp)),r,q⟩
end
def Ez (sp:Sp) (bR:List V) (E:XK) (t:TA):TE:=λσ H Q=>t σ H λvs H1=>sp (vs++bR) H1 Q E
def EA (C:Addr) (m:Str) (sp:Sp) (bR:List V) (E:XK) (ta:TE) (t:TA):TE:=λσ H Q=>ta σ H λx H1=>∃ a dx fs,x=.ref a /\ H1 a=some (.ins C dx fs) /\ fs.lookup m=none /\
 t σ H1 λvs H2=>sp (x::(vs++bR)) H2 Q E
def VR (C:Addr) (sp:Sp) (bR:List V) (E:XK) (t:TA):TE:=λσ H Q=>t σ H λvs H1=>∀ x dx,H1 x=none->H1 dx=none->dx≠x ->
 sp (.ref x::(vs++bR)) (upd (upd H1 dx (.own x)) x (.ins C dx [])) (λv H2=>v=.ae /\ Q (.ref x) H2) E
def Binds (K:PySem.W.Frag) (fd:FuncData) (ps:List Str) (ds:List Value):Prop :=
 ∀ (s:Shared) (us:List Value),K.In s.heap->(us++ds).length=ps.length->BindsTo s fd ⟨us,[]⟩ (ps.zip (us++ds))
theorem Binds.all {ps:List Str}(h:∀ us:List Value,us.length=ps.length->bindArgs fd ⟨us,[]⟩=pure (ps.zip us)):Binds K fd ps []:=λs us _ hl=>by
 rw[pE]at hl ⊢;exact .of_eq (h us hl)
def Passes (CX:hZ) (X:Cx) (E:XK):Prop:=∀ (pins:List (Addr×Obj)) (σ:St) (H:Hp) (s:Shared) (e:Value) (s':Shared),Inv X pins σ H s->CX X.stack H s E e s'->X.xe e s'
section
variable {CX : hZ} {ps : List Str} {sp : Sp} {bR : List V} {ds : List Value} {E : XK} {m : Str} {p : Pos} {o : Expr} {ta : TE} {t : TA}
theorem Ck {Q:VK}{vs:List V}(F:bA X.prog X.w X.K X.mg X.base CX k f fd ps sp) (hr:aO k X.A) (hb:Binds X.K fd ps ds) (hd:Vals bR ds) (hx:Passes CX X E)
 (I:Inv X pins σ H s) (r:Vals vs us) (h:sp (vs++bR) H Q E):wpAny (model X.prog X.w) X.A (call (.ref f) us) (EP X pins σ Q) X.xe s:=by
 have r2:Vals (vs++bR) (us++ds):=r.append hd;have hl:(us++ds).length=ps.length:=by rw[<-r2.length];exact F.len _ _ _ _ h
 refine zc (sV (F.run X.A X.stack s H ⟨us,[]⟩ (us++ds) (vs++bR) Q E hr I.env0 (hb s us I.bz hl) r2 h) λr s' hq=>?_);cases r with
 |error e=>exact hx pins σ H s e s' I hq
 | ok fl =>
   cases fl with
   |ret u=>exact I.after hq
   |next=>exact False.elim hq
   |brk=>exact False.elim hq
   |cont=>exact False.elim hq
theorem J0 (F:bA X.prog X.w X.K X.mg X.base CX k f fd ps sp) (hr:aO k X.A) (hg:Gl X x) (hm:X.mg x=some (.ref f)) (hk:PySem.W.keepIn X.K (.ref f)=true) (hb:Binds X.K fd ps ds) (hd:Vals bR ds) (hx:Passes CX X E)
 (ha:PA X (e::es) t) (bB:(x==("__debug__":Str))=false:=by decide) (he:starEach (e::es) X.env=(false,eval e X.env)::starEach es X.env:=by rfl) (cA:(backTo pos (starEach es X.env)).any (·.1)=false:=by rfl) :
 PE X (.Call (.Name x p) (e::es) [] pos) (Ez sp bR E t):=by
 intro pins s σ H Q I h;refine sW (lE I hg hm ?_ bB);refine w9 (h₀:=X.base) I.ok.mod.qW hk (ao (ha pos pins s σ H _ I h) λus s1 ⟨vs,H1,I1,r,q⟩=>⟨I1.bz,?_⟩) he cA;exact Ck F hr hb hd hx I1 r q
theorem J1 {pl:Sem Bool}(he:PE X o ta) (c:dI X.K C) (hm:Meth X.K C m f) (F:bA X.prog X.w X.K X.mg X.base CX k f fd ps sp) (hr:aO k X.A) (hb:Binds X.K fd ps ds) (hd:Vals bR ds) (hx:Passes CX X E) (ha:PA X (e::es) t)
 (nu:starEach (e::es) X.env=(false,eval e X.env)::starEach es X.env:=by rfl) (cA:(backTo pos (starEach es X.env)).any (·.1)=false:=by rfl)
 (ht:eval (.Call (.Attribute o m apos) (e::es) [] pos) X.env=(do
  let ov <-eval o X.env
  standAt apos.atName
  let (f,first) <-holding [ov] (getMethod ov m pl)
  callWith pos f first (backTo pos (starEach (e::es) X.env)) (backToKw pos (keywordEach [] X.env))):=by rfl) :
 PE X (.Call (.Attribute o m apos) (e::es) [] pos) (EA C m sp bR E ta t):=by
 intro pins s σ H Q I h;refine QE (pl:=pl) (ao (he pins s σ H _ I h) λu s1 ⟨x,H1,I1,rx,a,dx,fs,ex,ea,l,q⟩=>?_) ht;subst ex;obtain rfl:u=Value.ref a:=rx;refine oq I1 ea c hm l ?_;refine w9 (first:=[.ref a]) (h₀:=X.base) I.ok.mod.qW hm.kp (ao (ha pos pins s1 σ H1 _ I1 q) λus s2 ⟨vs,H2,I2,r,q2⟩=>⟨I2.bz,?_⟩) nu cA;exact Ck (us:=.ref a::us) (vs:=.ref a::vs) F hr hb hd hx I2 (.cons rfl r) q2
theorem Ga {pl:Sem Bool}(he:PE X o ta) (c:dI X.K C) (hm:Meth X.K C m f) (F:bA X.prog X.w X.K X.mg X.base CX k f fd ps sp) (hr:aO k X.A) (hb:Binds X.K fd ps ds) (hd:Vals bR ds) (hx:Passes CX X E)
 (ht:eval (.Call (.Attribute o m apos) [] [] pos) X.env=(do
  let ov <-eval o X.env
  standAt apos.atName
  let (f,first) <-holding [ov] (getMethod ov m pl)
  callWith pos f first (backTo pos (starEach [] X.env)) (backToKw pos (keywordEach [] X.env))):=by rfl) :
 PE X (.Call (.Attribute o m apos) [] [] pos) (EA C m sp bR E ta xt):=by
 intro pins s σ H Q I h;refine QE (pl:=pl) (ao (he pins s σ H _ I h) λu s1 ⟨x,H1,I1,rx,a,dx,fs,ex,ea,l,q⟩=>?_) ht;subst ex;obtain rfl:u=Value.ref a:=rx;refine oq I1 ea c hm l ?_;exact PySem.W.callWith_K0 (first:=[.ref a]) I1.bz hm.kp (Ck (us:=[.ref a]) (vs:=[.ref a]) F hr hb hd hx I1 (.cons rfl .nil) q)
structure Mk (K:PySem.W.Frag) (C f:Addr):Prop where
 makes:PySem.W.makesIn K C=true
 init:PySem.W.findIn K (.ref C) "__init__"=some (some (.ref f))
 fn:PySem.W.isFn K (.ref f)=true
 kp:PySem.W.keepIn K (.ref C)=true
theorem Gb {Q:VK}{vs:List V}(M:Mk X.K C f) (F:bA X.prog X.w X.K X.mg X.base CX k f fd ps sp) (hr:aO (k+1) X.A) (hb:Binds X.K fd ps ds) (hd:Vals bR ds)
 (hx:Passes CX X E) (I:Inv X pins σ H s) (r:Vals vs us)
 (h:∀ x dx,H x=none->H dx=none->dx≠x->sp (.ref x::(vs++bR)) (upd (upd H dx (.own x)) x (.ins C dx [])) (λv H2=>v=.ae /\ Q (.ref x) H2) E) :
 wpAny (model X.prog X.w) X.A (call (.ref C) us) (EP X pins σ Q) X.xe s:=by
 have hq:=h (s.heap.objs.size+1) s.heap.objs.size (I.ai.fresh (pw _)) (I.ai.fresh (ag _)) (cU (nJ _));have I2:=Inv.made (C:=C) I;have r2:Vals (V.ref (s.heap.objs.size+1)::(vs++bR)) (Value.ref (s.heap.objs.size+1)::(us++ds)):=.cons rfl (r.append hd);have hl:(Value.ref (s.heap.objs.size+1)::us++ds).length=ps.length:=by
  have e:=r2.length;rw[F.len _ _ _ _ hq]at e;exact e.symm
 refine zc (F8 (f:=f) I.bz M.makes M.init (beq_iff_eq.mp M.fn) (sV (F.run _ X.stack _ _ ⟨Value.ref (s.heap.objs.size+1)::us,[]⟩ (Value.ref (s.heap.objs.size+1)::(us++ds)) _ _ E (hr.make C us [])
  (I2.env0.make C us []) (hb _ (Value.ref (s.heap.objs.size+1)::us) I2.bz hl) r2 hq) λr s' vv=>?_))
 cases r with
 |error e=>exact hx pins σ _ _ e s' I2 vv
 | ok fl =>
   cases fl with
   | ret u =>
     obtain⟨v,H',I3,rv,ev,q3⟩:=I2.after vv;subst ev;exact⟨rv,⟨V.ref (s.heap.objs.size+1),H',I3,rfl,q3⟩⟩
   |next=>exact False.elim vv
   |brk=>exact False.elim vv
   |cont=>exact False.elim vv
theorem J2 (M:Mk X.K C f) (F:bA X.prog X.w X.K X.mg X.base CX k f fd ps sp) (hr:aO (k+1) X.A) (hg:Gl X x) (hm:X.mg x=some (.ref C)) (hb:Binds X.K fd ps ds) (hd:Vals bR ds) (hx:Passes CX X E)
 (ha:PA X (e::es) t) (bB:(x==("__debug__":Str))=false:=by decide) (he:starEach (e::es) X.env=(false,eval e X.env)::starEach es X.env:=by rfl) (cA:(backTo pos (starEach es X.env)).any (·.1)=false:=by rfl) :
 PE X (.Call (.Name x p) (e::es) [] pos) (VR C sp bR E t):=by
 intro pins s σ H Q I h;refine sW (lE I hg hm ?_ bB);refine w9 (h₀:=X.base) I.ok.mod.qW M.kp (ao (ha pos pins s σ H _ I h) λus s1 ⟨vs,H1,I1,r,q⟩=>⟨I1.bz,?_⟩) he cA;exact Gb M F hr hb hd hx I1 r q
end
section
variable {CX : hZ} {ps ks : List Str} {sp : Sp} {E : XK} {m : Str} {p aaf : Pos} {o : Expr} {aag : List Keyword} {te ta : TE} {t tk : TA} {nm : Option Str}
variable {g : List Value -> List Value -> List Value} {gV : List V -> List V -> List V}
end
structure nR (N P:List Str) (sc:Scope):Prop where
 kind:sc.kind=.function
 co:sc.isCoroutine=false
 gen:sc.isGenerator=false
 nd:N.Nodup
 pre:N.take P.length=P
 par:∀ x∈P,sc.names.lookup x=some .local \/ sc.names.lookup x=some .cell
 VS:∀ y∈sc.names,y.2≠.free
theorem Aq {kindOf:Str->Option NameKind}{x:Str}:∀ {binds:List (Str×Value)}{m:Str->Option Value},(∀ v,(x,v)∉binds)->bindL kindOf binds m x=m x
 |[],_,_=>rfl
 | (n,v)::r,m,h=>by
   unfold bindL;rw[Aq λw hw=>h w (aV _ hw)];split
   ·have:x≠n:=by rintro rfl;exact h v a8
    simp[this]
   ·rfl
theorem Ar {kindOf:Str->Option NameKind}{x:Str}:∀ {binds:List (Str×Value)}{m:Str->Option Value},(∀ v,(x,v)∉binds)->bindC kindOf binds m x=m x
 |[],_,_=>rfl
 | (n,v)::r,m,h=>by
   unfold bindC;rw[Ar λw hw=>h w (aV _ hw)];split
   ·rfl
   ·have:x≠n:=by rintro rfl;exact h v a8
    simp[this]
theorem As {kindOf:Str->Option NameKind}{x:Str}{v:Value}:∀ {P:List Str}{vs:List Value}{i:Nat}{m:Str->Option Value},P.Nodup->P[i]?=some x->vs[i]?=some v->kindOf x=some .local ->
 bindL kindOf (P.zip vs) m x=some v
 |[],_,_,_,_,h,_,_=>by simp at h
 |_::_,[],_,_,_,_,h,_=>by simp at h
 | p::P,w::vs,0,m,nd,h1,h2,hk=>by
   simp at h1 h2;subst h1;subst h2;show bindL kindOf ((p,w)::P.zip vs) m p=_;unfold bindL;rw[Aq λv hv=>(List.nodup_cons.mp nd).1 (wG hv).1,if_pos hk];simp
 | p::P,w::vs,i+1,m,nd,h1,h2,hk=>by
   show bindL kindOf ((p,w)::P.zip vs) m x=_;unfold bindL;exact As (i:=i) (List.nodup_cons.mp nd).2 (by simpa using h1) (by simpa using h2) hk
theorem Au {kindOf:Str->Option NameKind}{x:Str}{v:Value}:∀ {P:List Str}{vs:List Value}{i:Nat}{m:Str->Option Value},P.Nodup->P[i]?=some x->vs[i]?=some v->kindOf x≠some .local ->
 bindC kindOf (P.zip vs) m x=some v
 |[],_,_,_,_,h,_,_=>by simp at h
 |_::_,[],_,_,_,_,h,_=>by simp at h
 | p::P,w::vs,0,m,nd,h1,h2,hk=>by
   simp at h1 h2;subst h1;subst h2;show bindC kindOf ((p,w)::P.zip vs) m p=_;unfold bindC;rw[Ar λv hv=>(List.nodup_cons.mp nd).1 (wG hv).1,if_neg hk];simp
 | p::P,w::vs,i+1,m,nd,h1,h2,hk=>by
   show bindC kindOf ((p,w)::P.zip vs) m x=_;unfold bindC;exact Au (i:=i) (List.nodup_cons.mp nd).2 (by simpa using h1) (by simpa using h2) hk
noncomputable def start (N:List Str) (vs:List V):St:=vs.map some++List.replicate (N.length-vs.length) none
noncomputable def kJ (CX:hZ) (P:Program) (w:World) (K:PySem.W.Frag) (mg:Str->Option Value) (base:Heap) (N:List Str) (qual:Str) (scope:Scope) (f:Addr) (cd:Value) (A:Around) (outer:List Env) (s:Shared) (H:Hp) (E:XK):Cx where
 prog:=P
 w:=w
 K:=K
 mg:=mg
 base:=base
 A:=A.deeper (envOfC qual scope s.heap.objs.size f cd)
 N:=N
 s₀:=s
 H₀:=H
 env:=envOfC qual scope s.heap.objs.size f cd
 outer:=outer
 stack:=envOfC qual scope s.heap.objs.size f cd::outer
 ex:=[]
 calm:=true
 fn:=λ_=>true
 pn:=[]
 xe:=λe s'=>wpAny (model P w) (A.deeper (envOfC qual scope s.heap.objs.size f cd)) (leaving (envOfC qual scope s.heap.objs.size f cd) e) (λ_ EB=>CX outer H s E e EB) (λe' EB=>CX outer H s E e' EB) s'
theorem ou {sc:Scope}(h:sc.names.lookup x=some .cell):∃ c,(cellsFrom n sc.names []).lookup x=some c:=by
 have q:=zY sc.names n [] (.inl h);exact Option.isSome_iff_exists.mp q
theorem Av {CX:hZ}{ps:List Str}{scope:Scope}{cd:Value}{s1:Shared}{E:XK}{vs:List V}
 (S:nR N ps scope) (hd:A.handled=none) (e0:qz P w K mg base A outer s H) (hl:vs.length=ps.length) (r:Vals vs us)
 (x:InCallC s s.heap.objs.size (bindL (envOfC qual scope s.heap.objs.size f cd).kindOf (ps.zip us) λ_=>none) (cellsFrom (s.heap.objs.size+1) scope.names []) (bindC (envOfC qual scope s.heap.objs.size f cd).kindOf (ps.zip us) λ_=>none) s1) :
 Inv (kJ CX P w K mg base N qual scope f cd A outer s H E) [] (start N vs) H s1:=by
 have cA:ps.length<=N.length:=by have:=congrArg List.length S.pre;rw[wH]at this;omega
 obtain⟨h1,tk,rfl,hk⟩:=x.done;have vw:∀ b:Addr,b∉(kJ CX P w K mg base N qual scope f cd A outer s H E).ex:=λb z=>absurd (show b∈([]:List Addr) from z) (by simp);refine⟨⟨e0.mod,S.kind,rfl,rfl,ag _,λy z c h1 h2=>?_,λy hy=>?_,λy c _ h=>?_,λ_=>hd,QZ e0.frames,.inr ⟨rfl,rfl⟩,λb z=>absurd z (vw b),e0.bs,e0.pI,λb _ _=>vw b,λb z=>absurd z (vw b),e0.dY,e0.nL⟩,
  rfl,e0.bare,Un.kept hk,⟨_,x.toInCall.ns,λi y v h1 h2 h3=>?_⟩,λy c h=>⟨_,x.cell y c h⟩,e0.ai.fresh (ag _),λy c h=>?_,λp hp=>absurd (show p∈([]:List (Addr×Obj)) from hp) (by simp),e0.ai.kept hk,?_⟩
 ·exact Kq x.apart (eX h1) (eX h2)
 ·have hy:scope.names.lookup y=some .cell \/ scope.names.lookup y=some .free:=hy;rcases hy with hy|hy
  ·exact ou hy
  ·exact absurd rfl (S.VS _ (eX hy))
 ·exact eu (x.above y c (eX h))
 ·have hi:i<vs.length:=by
   unfold start at h2;by_cases hi:i<vs.length
   ·exact hi
   ·rw[cq (by simpa using hi)]at h2;rw[K6]at h2;split at h2<;>cases h2
  have ha:vs[i]?=some v:=by
   unfold start at h2;rw[cu (by simpa using hi),qh]at h2;cases e:vs[i]? with
   |none=>rw[e]at h2;cases h2
   |some a=>rw[e]at h2;cases h2;rfl
  obtain⟨u,hu,rv⟩:=r.get ha;have hp:ps[i]?=some y:=by
   rw[<-S.pre,K7 (by omega)];exact h1
  have RM:ps.Nodup:=by rw[<-S.pre];exact S.nd.sublist (List.take_sublist _ _)
  refine⟨u,rv,?_⟩;rcases S.par y (zB hp) with k|k
  ·exact .inl ⟨k,As RM hp hu k⟩
  ·obtain⟨c,e⟩:=ou (n:=s.heap.objs.size+1) k;refine .inr ⟨.inl k,c,e,?_⟩;have q:=x.cell y c e;rw[Au RM hp hu (by show scope.names.lookup y≠_;rw[k];decide)]at q;exact q
 ·exact e0.ai.fresh (eu (x.above y c (eX h)))
 ·unfold start;show _=N.length;rw[bV,aL,zC];omega
theorem MG {CX:hZ}{name:Str}{params:Arguments}{body:List Stmt}{scope:Scope}{dV kV doc pm cdv ct oc:Value}{an od:Option Addr}
 {ps:List Str}{sp:Sp}(lk:K.lookup f=some ⟨oc,od,.func (PySem.W.fnOf name qual params body scope dV kV doc pm an cdv ct),kz⟩) (cw:PySem.W.codeIn K cdv qual=true) (S:nR N ps scope)
  (len:∀ vs H Q E,sp vs H Q E->vs.length=ps.length)
  (eL:∀ (A:Around) (outer:List Env) (s:Shared) (H:Hp) (vs:List V) (Q:VK) (E:XK),aO k (A.deeper (envOfC qual scope s.heap.objs.size f cdv))->sp vs H Q E ->
   ∃ t,bQ (kJ CX P w K mg base N qual scope f cdv A outer s H E) body t /\ t { nx:=λ_ H'=>Q .ae H',rt:=Q } (start N vs) H) :
  bA P w K mg base CX (k+1) f (PySem.W.fnOf name qual params body scope dV kV doc pm an cdv ct) ps sp:=by
  refine⟨len,λA outer s H args us vs Q E hr e0 hb r kK=>?_⟩;have hl:=len _ _ _ _ kK;have KX:K.In s.heap:=e0.mod.qW.keeps λb o e=>(e0.bs b o e).1;have lim:s.heap.NoLimit:=e0.mod.nolimit.keeps λb o e=>(e0.bs b o e).1;have EC:∀ y∈ps.zip us,scope.names.lookup y.1=some .local \/ (scope.names.lookup y.1=some .cell /\ ((cellsFrom (s.heap.objs.size+1) scope.names []).lookup y.1).isSome=true):=λ⟨n,v⟩ hy=>by
   rcases S.par n (wG hy).1 with q|q
   ·exact .inl q
   ·exact .inr ⟨q,zY _ _ _ (.inl q)⟩
  refine Kr hr.depth (KX _ _ lk) rfl S.co S.gen rfl (QF KX cw) (hb _ _ _ _ ?_);refine Ks S.kind EC λenv he s1 x=>?_;subst he;refine⟨lim.keeps x.toInCall.keep,Kt ?_⟩;obtain⟨t,ht,hq⟩:=eL A outer s H vs Q E (hr.deeper _) kK;have I:Inv (kJ CX P w K mg base N qual scope f cdv A outer s H E) [] (start N vs) H s1:=Av S hr.hd e0 hl r x;refine eW (ht [] s1 (start N vs) H _ I hq) (λfl s' hs=>?_) λe s' hs=>hs;have fin:∀ {σ':St}{H':Hp}{v:V}{u:Value},Inv (kJ CX P w K mg base N qual scope f cdv A outer s H E) [] σ' H' s'->RelV v u->Q v H'->CE outer P w H s Q u s' :=
   λ{σ' H' v u} J rv q=>⟨v,H',J.os,J.bare,J.base,J.ai,rv,q⟩
  cases fl with
  | ret u =>
    obtain⟨v,σ',H',J,rv,q⟩:=hs;exact fin J rv q
  | next =>
    obtain⟨σ',H',J,q⟩:=hs;exact fin (v:=V.ae) (u:=Value.none) J rfl q
  | brk =>
    obtain⟨_,_,_,q⟩:=hs;exact False.elim q
  | cont =>
    obtain⟨_,_,_,q⟩:=hs;exact False.elim q
end L2
variable {CX : L2.hZ}{sp : L2.Sp}
namespace L2
section
variable {p : Pos} {t : TA} {id T : String} {r : List V -> Hp -> VK -> Prop}
def ED (r:List V->Hp->VK->Prop) (t:TA):TE:=λσ H Q=>t σ H λvs H1=>r vs H1 Q
theorem fQ (hc:cK X (.builtin id) r) (hg:Gl X x) (hm:X.mg x=none) (hv:bootBuiltins x=some (.builtin id)) (ha:PA X (e::es) t) (hn:x ≠ "__name__":=by decide) (bB:(x==("__debug__":Str))=false:=by decide)
 (he:starEach (e::es) X.env=(false,eval e X.env)::starEach es X.env:=by rfl) (cA:(backTo pos (starEach es X.env)).any (·.1)=false:=by rfl):PE X (.Call (.Name x p) (e::es) [] pos) (ED r t):=by
 intro pins s σ H Q I h;refine sW (lY I hg hm hv ?_ hn bB);exact Uz (ao (ha pos pins s σ H _ I h) λus s1 ⟨vs,H1,I1,r1,q1⟩=>hc pins s1 σ H1 vs us Q I1 r1 q1) he cA
theorem Fc (hc:cK X (.type T) r) (hg:Gl X x) (hm:X.mg x=none) (hv:bootBuiltins x=some (.type T)) (ha:PA X (e::es) t) (hn:x ≠ "__name__":=by decide) (bB:(x==("__debug__":Str))=false:=by decide)
 (he:starEach (e::es) X.env=(false,eval e X.env)::starEach es X.env:=by rfl) (cA:(backTo pos (starEach es X.env)).any (·.1)=false:=by rfl):PE X (.Call (.Name x p) (e::es) [] pos) (ED r t):=by
 intro pins s σ H Q I h;refine sW (lY I hg hm hv ?_ hn bB);exact wV (ao (ha pos pins s σ H _ I h) λus s1 ⟨vs,H1,I1,r1,q1⟩=>hc pins s1 σ H1 vs us Q I1 r1 q1) he cA
end
end L2
namespace HT
noncomputable def lexLt:List Int->List Int->Bool
 |[],[]=>false
 |[],_::_=>true
 |_::_,[]=>false
 |x::xs,y::ys=>if x=y then lexLt xs ys else decide (x<y)
theorem fK (x y:Int) (xs ys:List Int):lexLt (x::xs) (y::ys)=if x=y then lexLt xs ys else decide (x<y):=rfl
theorem Af:lexLt [] []=false:=rfl
theorem jN (y:Int) (ys:List Int):lexLt [] (y::ys)=true:=rfl
theorem jO (x:Int) (xs:List Int):lexLt (x::xs) []=false:=rfl
theorem Gc (A:Around) (s:Shared) (a:Int) (t:Tok) (c:Int) (u:Tok):∃ e,SeqAt.EqAt A s (.int a t) (.int c u) e /\ (e=true ↔ a=c):=
 ⟨(a==c),xc a t c u,by simp⟩
theorem Gd (A:Around) (s:Shared) (a:Int) (t:Tok) (c:Int) (u:Tok) (prog:Program) (w:World) (E:Value->Shared->Prop) (Q:Value->Shared->Prop) (h:Q (.bool (decide (a<c))) s) :
 wpAny (model prog w) A (richCompare .Lt (.int a t) (.int c u)) Q E s :=
 (zO h:wpAny (model prog w) A (compareOp .Lt (.int a t) (.int c u)) Q E s)
section
open PySem.SeqAt
open PySem.AutoSeq1 (wpAny_loadPart')
open PySem.MeetsSeq PySem.MeetsSeq2 PySem.MeetsSeq3
theorem Ag (l b:Addr) (items items2:Array Value) (n n2:Nat) (dd nv:Option Addr) (sl nz:Array (Option Value)) (ns ms:List Int) (hi:IntsAre items.toList ns) (hj:IntsAre items2.toList ms) :
 Meets (Builtin.«tuple.__lt__» ⟨[.ref l,.ref b],[]⟩)
  (λ_ R s=>s.heap.get? l=some { cls:=.type "tuple",dict:=dd,data:=.seq items n,slots:=sl } /\ s.heap.get? b=some { cls:=.type "tuple",dict:=nv,data:=.seq items2 n2,slots:=nz } /\
   R (.ok (.ret (.bool (lexLt ns ms)))) s):=
 .of_wp λprog w A R s h=>by
  obtain⟨hp,g,d,tk,os⟩:=s;obtain⟨hl,hb,h⟩:=h;have f2:=Q0;have z1:items.size=ns.length:=by rw[<-hi.length];simp
  have z2:items2.size=ms.length:=by rw[<-hj.length];simp
  wp_walk using wpAny_loadPart' hl,wpAny_loadPart' hb,Ku _ (λrest b s'=>b.1=none /\ s'=⟨hp,g,d,tk,os⟩ /\ ∃ (vs ws:List Value) (cB ua:List Int),rest=vs.zip ws /\
   IntsAre vs cB /\ IntsAre ws ua /\ cB.length+items2.size=ua.length+items.size /\ R (.ok (.ret (.bool (lexLt cB ua)))) ⟨hp,g,d,tk,os⟩) _
  case turn =>
   rintro⟨y,x⟩ rest b s' ⟨pM,rfl,vs,ws,cB,ua,hz,EE,xu,hlen,hR⟩;cases EE with
   |nil=>rw[uZ]at hz;cases hz
   | cons a t VT =>
     cases xu with
     |nil=>rw[wI]at hz;cases hz
     | cons c u VU =>
       rw[qi]at hz;injection hz with EF EG;injection EF with hy hx;subst hy hx;rw[fK]at hR;simp only[aX]at hlen;obtain⟨e,he,vz⟩:=Gc A.in1 ⟨hp,g,d,tk,os⟩ a t c u;refine aa (he prog w _ _ ?_);cases e with
       | true =>
         rw[if_pos (vz.mp rfl)]at hR
         wp_walk
         exact⟨rfl,rfl,_,_,_,_,EG,VT,VU,by omega,hR⟩
       | false =>
         rw[if_neg (λq=>absurd (vz.mpr q) b9)]at hR;have EH:=Gd A.in1 ⟨hp,g,d,tk,os⟩ a t c u prog w
         wp_walk using EH
         exact⟨_,rfl,by simpa using hR⟩
  case fin =>
   rintro⟨b1,b2⟩ s' ⟨pM,rfl,vs,ws,cB,ua,hz,EE,xu,hlen,hR⟩;simp only at pM;subst pM;have hv:lexLt cB ua=decide (items.size<items2.size):=by
    cases EE with
    | nil =>
      cases xu with
      | nil =>
        simp only[kF]at hlen;rw[Af];exact(decide_eq_false (by omega)).symm
      | cons c u hw =>
        simp only[kF,aX]at hlen;rw[jN];exact(decide_eq_true (by omega)).symm
    | cons a t hv =>
      cases xu with
      | nil =>
        simp only[kF,aX]at hlen;rw[jO];exact(decide_eq_false (by omega)).symm
      | cons c u hw =>
        rw[qi]at hz;cases hz
   rw[hv]at hR
   wp_walk
   exact⟨_,rfl,by simpa[Builtin.Tuple.tupleCompareSizes] using hR⟩
  case h =>
   exact⟨rfl,rfl,items.toList,items2.toList,ns,ms,rfl,hi,hj,by omega,h⟩
end
theorem oz {l b:Addr}{items2:Array Value}{ms:List Int}(hl:IsTup s.heap l items) (hb:IsTup s.heap b items2) (hi:IntsAre items.toList ns) (hj:IntsAre items2.toList ms)
 (hu:A.units<cLine) (h:Q (.bool (lexLt ns ms)) s):wpAny (model prog w) A (compareOp .Lt (.ref l) (.ref b)) Q E s:=by
 obtain⟨⟨cls,dd,data,sl⟩,ho,hc,n,hd⟩:=id hl;obtain⟨⟨EI,nv,data2,nz⟩,kL,eO,n2,hd2⟩:=id hb;simp only at hc hd eO hd2;subst hc hd eO hd2;exact Kv (op:=.Lt) ⟨_,ho,rfl⟩ ⟨_,kL,rfl⟩ QO QP (QQ _ _) (Ag l b items items2 n n2 dd nv sl nz ns ms hi hj)
  ⟨ho,kL,show Value.bool (lexLt ns ms)≠Value.notImplemented /\ Q (.bool (lexLt ns ms)) s from⟨(λx=>nomatch x),h⟩⟩ hu
theorem J3 {t b:Addr}{ws:List Value}(ht:IsTup s.heap t vs.toArray) (hb:IsTup s.heap b ws.toArray) (hv:vs≠[])
 (h1:ws=[]->Q (.ref t) s) (h2:ws≠[]->Q (.ref s.heap.objs.size) { s with heap:=s.heap.push { cls:=.type "tuple",data:=.seq (vs++ws).toArray } })
 (hsz:vs.length+ws.length<=sizeLine):wpAny (model prog w) A (binaryOp .Add (.ref t) (.ref b)) Q E s:=by
 obtain⟨⟨cls,dd,data,sl⟩,ho,hc,n,hd⟩:=id ht;obtain⟨⟨EI,nv,data2,nz⟩,kL,eO,n2,hd2⟩:=id hb;simp only at hc hd eO hd2;subst hc hd eO hd2;have e:vs.toArray++ws.toArray=(vs++ws).toArray:=by simp
 by_cases hw:ws=[]
 ·exact zd ⟨_,ho,rfl⟩ ⟨_,kL,rfl⟩ ze zf Ec Ed (Ee _ _)
   (tuple_addW1 t b vs.toArray ws.toArray n n2 dd nv sl nz (by simpa using hv) (by simp[hw])) ⟨ho,kL,h1 hw⟩
 ·refine zd ⟨_,ho,rfl⟩ ⟨_,kL,rfl⟩ ze zf Ec Ed (Ee _ _)
   (tuple_addW2 t b vs.toArray ws.toArray n n2 dd nv sl nz (by simpa using hv) (by simpa using hw) (by rw[aR,aR];exact hsz)) ⟨ho,kL,?_⟩
  rw[e];exact h2 hw
noncomputable def aq (n d:Nat):Option Int->Nat
 |none=>d
 |some v=>if v<0 then (v+(n:Int)).toNat else min v.toNat n
theorem Ge (n d:Nat):aq n d none=d:=rfl
theorem J4 (n d k:Nat):aq n d (some (k:Int))=min k n:=by
 show (if (k:Int)<0 then ((k:Int)+(n:Int)).toNat else min (k:Int).toNat n)=min k n;rw[if_neg (by omega),tO]
theorem Ng (n d:Nat) (hd:d<=n) (o:Option Int):aq n d o<=n:=by
 cases o with
 |none=>exact hd
 | some v =>
   show (if v<0 then (v+(n:Int)).toNat else min v.toNat n)<=n;by_cases hv:v<0
   ·rw[if_pos hv];omega
   ·rw[if_neg hv];exact Nat.min_le_right _ _
theorem C5 (v:Int) (n d:Nat):(if v<0 then max (v+(n:Int)) 0 else min v (n:Int))=((aq n d (some v):Nat):Int):=by
 show (if v<0 then max (v+(n:Int)) 0 else min v (n:Int))=(((if v<0 then (v+(n:Int)).toNat else min v.toNat n):Nat):Int);by_cases hv:v<0
 ·simp only[if_pos hv];omega
 ·simp only[if_neg hv];omega
theorem Cl (lo hi:Option Int) (n:Nat):Builtin.Slice.sliceAdjust lo hi 1 (n:Int)=(((aq n 0 lo:Nat):Int),((aq n n hi:Nat):Int)):=by
 have h1:¬ ((1:Int)<0):=by omega
 unfold Builtin.Slice.sliceAdjust;simp only[h1,if_false];refine Prod.ext ?_ ?_
 ·cases lo with
  |none=>rfl
  |some v=>exact C5 v n 0
 ·cases hi with
  |none=>rfl
  |some v=>exact C5 v n n
theorem Cn (i j:Nat):Builtin.Slice.slicePlaces (i:Int) (j:Int) 1=j-i:=by
 unfold Builtin.Slice.slicePlaces;have h1:(1:Int)>0:=by omega
 simp only[h1,if_true,QH];split<;>omega
theorem oA {o:Option Int}{Q:Option Int->Shared->Prop}(p:IsPart v o) (h:Q o s):wpAny (model prog w) A (Builtin.Slice.slicePartIndex v) Q E s:=by
 cases p with
 |none=>exact Ql h
 |int i t=>exact slicePart_int h
theorem jf {sl:Addr}{vl vu:Value}{lo hi:Option Int}{Q:Int×Int×Nat->Shared->Prop}(hs:s.heap.IsSliceOf sl vl vu .none) (pl:IsPart vl lo) (pu:IsPart vu hi)
 (h:Q (((aq n 0 lo:Nat):Int),1,aq n n hi-aq n 0 lo) s):wpAny (model prog w) A (Builtin.Slice.sliceApplied (.ref sl) (pure (n:Int))) Q E s:=by
 obtain⟨os,se,xw,kM⟩:=id hs;unfold Builtin.Slice.sliceApplied Builtin.Slice.sliceFields;refine aa (aa (dW se kM (x:=vl) rfl (aa (dW se kM (x:=vu) rfl (aa (dW se kM (x:=.none) rfl (ah ?_)))))));refine aa (Ql ?_);show wpAny _ _ (if ((1:Int)==0)=true then _ else _) _ _ s;rw[if_neg (by decide)];refine aa (oA pl (aa (oA pu (aa (ah ?_)))));show wpAny _ _ (match Builtin.Slice.sliceAdjust lo hi 1 (n:Int) with|(lo,hi)=>pure (lo,(1:Int),Builtin.Slice.slicePlaces lo hi 1)) _ _ s;rw[Cl lo hi n];show wpAny _ _ (pure (((aq n 0 lo:Nat):Int),(1:Int),Builtin.Slice.slicePlaces ((aq n 0 lo:Nat):Int) ((aq n n hi:Nat):Int) 1)) _ _ s;rw[Cn];exact ah h
theorem Gf (xs:Array Value) (i k:Nat):((List.range k).filterMap λ(m:Nat)=>xs[((i:Int)+(m:Int)*1).toNat]?).toArray=((xs.toList.drop i).take k).toArray:=by
 have e:(λ(m:Nat)=>xs[((i:Int)+(m:Int)*1).toNat]?)=λm=>xs[i+m]?:=by
  funext m;have:((i:Int)+(m:Int)*1).toNat=i+m:=by omega
  rw[this]
 rw[e];have:=pick_run xs i k;rw[u7]at this;have e2:((λx=>xs[x]?)∘λx=>i+x)=λm=>xs[i+m]?:=rfl;rw[e2]at this;rw[this]
theorem lG {t sl:Addr}{vl vu:Value}{lo hi:Option Int}(ht:IsTup s.heap t items) (hs:s.heap.IsSliceOf sl vl vu .none) (pl:IsPart vl lo) (pu:IsPart vu hi)
 (hw:¬ (aq items.size 0 lo=0 /\ aq items.size items.size hi=items.size))
 (h:Q (.ref s.heap.objs.size) { s with heap:=s.heap.push { cls:=.type "tuple",data:=.seq ((items.toList.drop (aq items.size 0 lo)).take (aq items.size items.size hi-aq items.size 0 lo)).toArray } })
 (hsz:items.size<=sizeLine):wpAny (model prog w) A (getItem (.ref t) (.ref sl)) Q E s:=by
 have xx:sizeOk (.seq ((items.toList.drop (aq items.size 0 lo)).take (aq items.size items.size hi-aq items.size 0 lo)).toArray):=by
  show ((items.toList.drop (aq items.size 0 lo)).take (aq items.size items.size hi-aq items.size 0 lo)).toArray.size<=sizeLine;rw[aR,wH,zD,Ef];omega
 have hj:aq items.size items.size hi<=items.size:=Ng _ _ (ag _) hi;obtain⟨os,se,xw,kM⟩:=id hs;have EJ:s.TypeIs (.ref sl) "slice":=⟨os,se,xw⟩;unfold getItem;try with_reducible refine kA ?_
 first|refine aa (ah ?_)|skip
 refine aa (Kw ht.typeIs (by decide) ?_);refine aa (sX (name:=Str.ofString "__getitem__") ht.typeIs tN
  (qf tN ht.typeIs Qm ?_ (Qn _ _)))
 show wpAny _ _ (Builtin.Tuple.tupleItemsOf (.ref t) >>= _) _ _ s;refine aa (Qo ht ?_);refine aa (sY EJ ?_);rw[if_pos (by decide)];refine aa (jf hs pl pu ?_);have qA:¬ ((((aq items.size 0 lo:Nat):Int)==0&&(1:Int)==1&&(aq items.size items.size hi-aq items.size 0 lo)==items.size)=true):=by
  intro q;rw[aw,aw]at q;have q1:((aq items.size 0 lo:Nat):Int)=0:=eq_of_beq q.1.1;have q2:aq items.size items.size hi-aq items.size 0 lo=items.size:=eq_of_beq q.2;exact hw ⟨by omega,by omega⟩
 show wpAny _ _ (if (((aq items.size 0 lo:Nat):Int)==0&&(1:Int)==1&&(aq items.size items.size hi-aq items.size 0 lo)==items.size)=true then _ else _) _ _ s;rw[if_neg qA,Gf];first
  |exact aa (m:=Builtin.Tuple.tupleExact _) (qT (ah ⟨_,rfl,ah h⟩) xx)
  |exact aa (m:=Builtin.Tuple.tupleExact _) (qT (aa (ah (ah ⟨_,rfl,ah h⟩))) xx)
  |exact aa (aa (m:=Builtin.Tuple.tupleExact _) (qT (ah (ah ⟨_,rfl,ah h⟩)) xx))
  |exact aa (aa (m:=Builtin.Tuple.tupleExact _) (qT (ah ⟨_,rfl,ah h⟩) xx))
end HT
namespace L2
abbrev TO:=St->Hp->(Option Int->Hp->Prop)->Prop
def PO (X:Cx) (e:Option Expr) (t:TO):Prop :=
 ∀ (pins:List (Addr×Obj)) (s:Shared) (σ:St) (H:Hp) (Q:Option Int->Hp->Prop),Inv X pins σ H s->t σ H Q ->
  wpAny (model X.prog X.w) X.A (evalPart e X.env) (λu s'=>∃ o H',Inv X pins σ H' s' /\ IsPart u o /\ Q o H') X.xe s
noncomputable def VV:TO:=λ_ H Q=>Q none H
noncomputable def VW (t:TE):TO:=λσ H Q=>t σ H λx H1=>∃ i,x=.int i /\ Q (some i) H1
theorem ik:∀ {us:List Value},Vals (ns.map V.int) us->IntsAre us ns:=by
 induction ns with
 |nil=>intro us r;rw[tu]at r;cases r;exact .nil
 | cons n ns ih =>
   intro us r;rw[aN]at r;cases r with
   | cons r1 r2 =>
     obtain⟨t,e⟩:=r1;subst e;exact .cons n t (ih r2)
section
variable {te : TE} {lo hi : Option Expr} {tl th : TO} {p2 : Pos}
theorem J5:PO X none VV:=by
 intro pins s σ H Q I h;rw[zg];exact ah ⟨none,H,I,.none,h⟩
theorem J6 (h:PE X e te):PO X (some e) (VW te):=by
 intro pins s σ H Q I hw;rw[Kx];refine ao (h pins s σ H _ I hw) λu s1 ⟨x,H1,I1,r1,q1⟩=>?_;obtain⟨i,rfl,q⟩:=q1;obtain⟨t,rfl⟩:=r1;exact⟨some i,H1,I1,.int i t,q⟩
def qB (X:Cx) (r:V->Option Int->Option Int->Hp->VK->Prop):Prop :=
 ∀ (pins:List (Addr×Obj)) (s:Shared) (σ:St) (H:Hp) (x:V) (v vl vu:Value) (lo hi:Option Int) (sl:Addr) (Q:VK),Inv X pins σ H s->RelV x v->s.heap.IsSliceOf sl vl vu .none->IsPart vl lo->IsPart vu hi->r x lo hi H Q ->
  ∃ T id,typeLookup (.type T) "__getitem__"=pure (some (.builtin id)) /\ s.TypeIs v T /\ wpAny (model X.prog X.w) X.A (getItem v (.ref sl)) (EP X pins σ Q) X.xe s
theorem qB.or {r r':V->Option Int->Option Int->Hp->VK->Prop}(h:qB X r) (h':qB X r'):qB X (λx lo hi H Q=>r x lo hi H Q \/ r' x lo hi H Q):=by
 intro pins s σ H x v vl vu lo hi sl Q I rx hs pl pu q;rcases q with q|q
 ·exact h pins s σ H x v vl vu lo hi sl Q I rx hs pl pu q
 ·exact h' pins s σ H x v vl vu lo hi sl Q I rx hs pl pu q
def VX (r:V->Option Int->Option Int->Hp->VK->Prop) (te:TE) (tl th:TO):TE:=λσ H Q=>te σ H λx H1=>tl σ H1 λl H2=>th σ H2 λu H3=>r x l u H3 Q
theorem Gg {r:V->Option Int->Option Int->Hp->VK->Prop}(hr:qB X r) (he:PE X e te) (hl:PO X lo tl) (hu:PO X hi th):PE X (.Subscript e (.Slice lo hi none p2) pos) (VX r te tl th):=by
 intro pins s σ H Q I h;refine Subscript_ (ao (he pins s σ H _ I h) λv s1 ⟨x,H1,I1,r1,q1⟩=>?_);refine Ky (ao (hl pins s1 σ H1 _ I1 q1) λvl s2 ⟨l,H2,I2,pl,q2⟩=>ao (hu pins s2 σ H2 _ I2 q2) λvu s3 ⟨u,H3,I3,pu,q3⟩=>?_);rw[zg];refine ah ?_;have I4:Inv X pins σ H3 { s3 with heap:=s3.heap.push { cls:=.type "slice",data:=.fields #[vl,vu,.none] } }:=I3.kept (t':=s3.toks) λb ob q=>aG _ q;obtain⟨T,id,hT,ht,hg⟩:=hr pins { s3 with heap:=s3.heap.push { cls:=.type "slice",data:=.fields #[vl,vu,.none] } } σ H3 x v vl vu l u s3.heap.objs.size Q I4 r1 (Heap.IsSliceOf.new ..) pl pu q3;show wpAny (model X.prog X.w) X.A (subscriptTail e (.Slice lo hi none p2) v (.ref s3.heap.objs.size)) (EP X pins σ Q) X.xe { s3 with heap:=s3.heap.push { cls:=.type "slice",data:=.fields #[vl,vu,.none] } };exact zP (ops:=[.ref s3.heap.objs.size,v]) ht hT hg (by with_unfolding_all rfl)
def rj (xs:List V) (lo hi:Option Int):List V:=(xs.drop (HT.aq xs.length 0 lo)).take (HT.aq xs.length xs.length hi-HT.aq xs.length 0 lo)
theorem mL (xs:List V) (lo hi:Option Int):(rj xs lo hi).length<=xs.length:=by
 unfold rj;rw[wH,zD];omega
def RN (K:PySem.W.Frag):V->Option Int->Option Int->Hp->VK->Prop:=λx lo hi H Q=>∃ a xs,x=.ref a /\ bc K H a xs /\
 ¬ (HT.aq xs.length 0 lo=0 /\ HT.aq xs.length xs.length hi=xs.length) /\ ∀ p,H p=none->Q (.ref p) (upd H p (.tup (rj xs lo hi)))
theorem Nh:qB X (RN X.K):=by
 intro pins s σ H x v vl vu lo hi sl Q I rx hs pl pu h;obtain⟨a,xs,rfl,hx,hw,q⟩:=h;cases rx;obtain⟨its,r,ht,hz⟩:=I.tuple hx;have hlen:its.toArray.size=xs.length:=by rw[aR];exact r.length.symm
 refine⟨"tuple",_,tN.lookup,ht.typeIs,?_⟩;refine HT.lG ht hs pl pu (by rw[hlen];exact hw) ?_ (by rw[hlen];exact hz);rw[hlen];refine⟨.ref s.heap.objs.size,_,I.laid (t':=s.toks) (o:=.tup (rj xs lo hi)) (λb ob q=>aG _ q) (ag _) ?_,rfl,q _ (I.ai.fresh (ag _))⟩;exact⟨bu (mL xs lo hi) hz,_,(r.drop (HT.aq xs.length 0 lo)).take (HT.aq xs.length xs.length hi-HT.aq xs.length 0 lo),IsTup.new _ _⟩
def vA (K:PySem.W.Frag):R2:=λx y H Q=>∃ a b ns ms,x=.ref a /\ y=.ref b /\ bc K H a (ns.map V.int) /\ bc K H b (ms.map V.int) /\ Q (.bl (HT.lexLt ns ms)) H
theorem Ni (hu:X.A.units<cLine):aA X (compareOp .Lt) (vA X.K):=by
 intro pins s σ H x y v u Q I rx ry h;obtain⟨a,b,ns,ms,rfl,rfl,ha,hb,q⟩:=h;cases rx;cases ry;obtain⟨its,r1,p1,_⟩:=I.tuple ha;obtain⟨rm,r2,p2,_⟩:=I.tuple hb;have i1:IntsAre its.toArray.toList ns:=ik r1;have i2:IntsAre rm.toArray.toList ms:=ik r2;exact HT.oz p1 p2 i1 i2 hu ⟨.bl (HT.lexLt ns ms),H,I,rfl,q⟩
def RP (K:PySem.W.Frag):R2:=λx y H Q=>∃ a b xs ys,x=.ref a /\ y=.ref b /\ bc K H a xs /\ bc K H b ys /\ xs≠[] /\ xs.length+ys.length<=sizeLine /\
 (ys=[]->Q (.ref a) H) /\ (ys≠[]->∀ p,H p=none->Q (.ref p) (upd H p (.tup (xs++ys))))
theorem Vals.EK {xs:List V}(r:Vals xs us):us=[] ↔ xs=[]:=by
 cases r with
 |nil=>simp
 |cons _ _=>simp
theorem J7:aA X (binaryOp .Add) (RP X.K):=by
 intro pins s σ H x y v u Q I rx ry h;obtain⟨a,b,xs,ys,rfl,rfl,ha,hb,hx,hz,q1,q2⟩:=h;cases rx;cases ry;obtain⟨its,r1,p1,_⟩:=I.tuple ha;obtain⟨rm,r2,p2,_⟩:=I.tuple hb;refine HT.J3 p1 p2 (λz=>hx (r1.EK.mp z)) (λz=>⟨.ref a,H,I,rfl,q1 (r2.EK.mp z)⟩) (λz=>?_) (by rw[<-r1.length,<-r2.length];exact hz);refine⟨.ref s.heap.objs.size,_,I.laid (t':=s.toks) (o:=.tup (xs++ys)) (λb ob q=>aG _ q) (ag _) ?_,rfl,q2 (λw=>z (r2.EK.mpr w)) _ (I.ai.fresh (ag _))⟩;exact⟨by rw[bV];exact hz,_,r1.append r2,IsTup.new _ _⟩
end
noncomputable def cb (n:Nat) (i:Int):Option Nat:=if 0<=i then (if i<n then some i.toNat else none) else if -(n:Int)<=i then some (i+n).toNat else none
def a6 (xs:List α) (i:Int):Option α:=(cb xs.length i).bind λj=>xs[j]?
theorem C6 {i:Int}(h:cb n i=some j):seqIndex? i n=some j /\ j<n /\ -(n:Int)<=i /\ i<n:=by
 unfold cb at h;by_cases h0:0<=i
 ·rw[if_pos h0]at h;by_cases h1:i<n
  ·rw[if_pos h1]at h;have e:i.toNat=j:=Option.some.inj h;exact⟨by rw[zh h0 h1,e],by omega,by omega,h1⟩
  ·rw[if_neg h1]at h;cases h
 ·rw[if_neg h0]at h;by_cases h1:-(n:Int)<=i
  ·rw[if_pos h1]at h;have e:(i+n).toNat=j:=Option.some.inj h;exact⟨by rw[seqIndex_neg (by omega) h1,e],by omega,h1,by omega⟩
  ·rw[if_neg h1]at h;cases h
theorem AR {xs:List α}{i:Int}{v:α}(h:a6 xs i=some v):∃ j,seqIndex? i xs.length=some j /\ xs[j]?=some v /\ j<xs.length /\ -(xs.length:Int)<=i /\ i<xs.length:=by
 unfold a6 at h;cases e:cb xs.length i with
 |none=>rw[e]at h;cases h
 | some j =>
   rw[e]at h;obtain⟨h1,h2,h3,h4⟩:=C6 e;exact⟨j,h1,h,h2,h3,h4⟩
theorem C7 {xs:List α}{v:α}(h:xs[j]?=some v):a6 xs (j:Int)=some v:=by
 have hj:j<xs.length:=(List.getElem?_eq_some_iff.mp h).1;have e:cb xs.length (j:Int)=some j:=by
  unfold cb;rw[if_pos (by omega),if_pos (by omega)];simp
 unfold a6;rw[e];exact h
def xy (b:Expr):Prop:=∀ o i,subscripted b false o i=operate [o,i] (getItem o i)
def pN (X:Cx) (r:R2):Prop :=
 ∀ (value slice:Expr) (pins:List (Addr×Obj)) (s:Shared) (σ:St) (H:Hp) (x y:V) (v u:Value) (Q:VK),Inv X pins σ H s->RelV x v->RelV y u->r x y H Q ->
  subscripted slice false v u=operate [v,u] (getItem v u)->wpAny (model X.prog X.w) X.A (subscriptTail value slice v u) (EP X pins σ Q) X.xe s
def RQ (X:Cx) (id:String) (r:V->List V->Hp->VK->Prop):Prop :=
 ∀ (pins:List (Addr×Obj)) (s:Shared) (σ:St) (H:Hp) (x:V) (xs:List V) (v:Value) (us:List Value) (Q:VK),Inv X pins σ H s->RelV x v->Vals xs us->r x xs H Q ->
  wpAny (model X.prog X.w) X.A (call (.builtin id) (v::us)) (EP X pins σ Q) X.xe s
section
variable {a b : Expr} {ta tb : TE} 
theorem pN.or {r r':R2}(h:pN X r) (h':pN X r'):pN X (λx y H Q=>r x y H Q \/ r' x y H Q):=by
 intro value slice pins s σ H x y v u Q I rx ry q hs;rcases q with q|q
 ·exact h value slice pins s σ H x y v u Q I rx ry q hs
 ·exact h' value slice pins s σ H x y v u Q I rx ry q hs
theorem Gh {r:R2}(hr:pN X r) (ha:PE X a ta) (hb:PE X b tb) (hs:xy b):PE X (.Subscript a b pos) (vq r ta tb):=by
 intro pins s σ H Q I h;exact Subscript_ (Ew ha hb I h λv u s2 x y H2 I2 rx ry q=>hr a b pins s2 σ H2 x y v u Q I2 rx ry q (hs _ _))
def RR (K:PySem.W.Frag):R2:=λx y H Q=>∃ p xs i v,x=.ref p /\ y=.int i /\ aQ K H p xs /\ a6 xs i=some v /\ Q v H
def RS (K:PySem.W.Frag):R2:=λx y H Q=>∃ p xs i v,x=.ref p /\ y=.int i /\ bc K H p xs /\ a6 xs i=some v /\ Q v H
def RT:R2:=λx y H Q=>∃ z i c,x=.str z /\ y=.int i /\ z.length<=sizeLine /\ a6 z.cps.toList i=some c /\ Q (.str ⟨#[c]⟩) H
theorem AS:pN X (RR X.K):=by
 intro value slice pins s σ H x y v u Q I rx ry h hs;obtain⟨p,xs,i,z,rfl,rfl,hq,he,q⟩:=h;cases rx;obtain⟨t,rfl⟩:=ry;obtain⟨its,r,pl,hz⟩:=I.list hq;obtain⟨j,h1,h2,h3,h4,h5⟩:=AR he;obtain⟨w,ew,vk⟩:=r.get h2;have hl:=r.length;have hn:=t8;have fin:EP X pins σ Q w s:=⟨z,H,I,vk,q⟩;by_cases h0:0<=i
 ·have hj:i.toNat=j:=by
   rw[zh h0 h5]at h1;exact Option.some.inj h1
  exact item_listR pl.isList h0 (by omega) (by rw[hj];simpa using ew) fin hs
 ·have hj:(i+(its.toArray.size:Int)).toNat=j:=by
   rw[seqIndex_neg (by omega) h4]at h1;rw[aR,<-hl];exact Option.some.inj h1
  exact Qp (x:=w) pl.isList.typeIs slot_list_getitem.lookup
   (wpAny_getItem_list_neg (Q:=λr s'=>r=w /\ EP X pins σ Q r s') pl.isList (by omega) (by rw[aR]<;>omega) (by omega) (by rw[hj];simpa using ew) ⟨rfl,fin⟩) hs
theorem Nj:pN X (RS X.K):=by
 intro value slice pins s σ H x y v u Q I rx ry h hs;obtain⟨p,xs,i,z,rfl,rfl,hq,he,q⟩:=h;cases rx;obtain⟨t,rfl⟩:=ry;obtain⟨its,r,pl,hz⟩:=I.tuple hq;obtain⟨j,h1,h2,h3,h4,h5⟩:=AR he;obtain⟨w,ew,vk⟩:=r.get h2;have hl:=r.length;have hn:=t8;have fin:EP X pins σ Q w s:=⟨z,H,I,vk,q⟩;exact Qp (x:=w) pl.typeIs slot_tuple_getitem.lookup
  (getItem_tuple (j:=j) (Q:=λr s'=>r=w /\ EP X pins σ Q r s') pl (by omega) (by omega) (by rw[aR,<-hl];exact h1) (by simpa using ew) ⟨rfl,fin⟩) hs
theorem Nk:pN X RT:=by
 intro value slice pins s σ H x y v u Q I rx ry h hs;obtain⟨z,i,c,rfl,rfl,hz,he,q⟩:=h;obtain⟨t,rfl⟩:=rx;obtain⟨t',rfl⟩:=ry;obtain⟨j,h1,h2,h3,h4,h5⟩:=AR he;have hl:z.cps.toList.length=z.length:=by simp[Str.length]
 rw[hl]at h1 h4 h5;have hn:=t8;exact zP (typeIs_str s z t) slot_str_getitem.lookup (getItem_str (c:=c) (by
  have e1:decide (i < -(2 ^ 63:Int))=false:=decide_eq_false (by omega);have e2:decide (i>=2 ^ 63)=false:=decide_eq_false (by omega);rw[e1,e2,KU]) (by rw[h1];simpa using h2) ⟨.str ⟨#[c]⟩,H,I.tok _,⟨_,rfl⟩,q⟩) hs
def RU (K:PySem.W.Frag):R2:=λx y H Q=>RR K x y H Q \/ RS K x y H Q \/ RT x y H Q
theorem Nl:pN X (RU X.K):=AS.or (Nj.or Nk)
theorem Co (its:List Value) (n j:Nat) (u:Value):Obj.mapSeq (·.setIfInBounds j u) { cls:=.type "list",data:=.seq its.toArray n }={ cls:=.type "list",data:=.seq (its.set j u).toArray n }:=by
 simp[Obj.mapSeq]
theorem Inv.lst {pins:List (Addr×Obj)}{σ:St}{H:Hp}{s:Shared}{p:Addr}{xs:List V}(I:Inv X pins σ H s) (h:H p=some (.lst xs)) :
 ∃ (its:List Value) (n:Nat),Vals xs its /\ s.heap.get? p=some { cls:=.type "list",data:=.seq its.toArray n } /\ xs.length<=sizeLine:=by
 obtain⟨z,its,n,r,e⟩:=I.ai p _ h;exact⟨its,n,r,e,z⟩
theorem Inv.VY {xs ys:List V}{its its':List Value}{n':Nat}{f:Obj->Obj}(I:Inv X pins σ H s) (h:H p=some (.lst xs))
 (ho:s.heap.get? p=some { cls:=.type "list",data:=.seq its.toArray n }) (hf:f { cls:=.type "list",data:=.seq its.toArray n }={ cls:=.type "list",data:=.seq its'.toArray n' }) (r:Vals ys its') (hz:ys.length<=sizeLine) (t:Nat) :
 Inv X pins σ (upd H p (.lst ys)) { s with heap:=s.heap.update p f,toks:=t }:=by
 have e:(s.heap.update p f).get? p=some { cls:=.type "list",data:=.seq its'.toArray n' }:=by
  rw[KZ f ho (by rw[hf]<;>rfl),hf]
 refine I.write (x:=p) (e:=p) (by rw[h];trivial) (.inl rfl) (λb u hb q=>(K0 _ _ (Ne.symm hb)).trans q) ⟨_,e⟩ ?_;exact⟨hz,its',n',r,e⟩
def VZ:V->V->V->Hp->(Hp->Prop)->Prop:=λo i v H Q=>∃ p xs k j,o=.ref p /\ i=.int k /\ H p=some (.lst xs) /\ cb xs.length k=some j /\ Q (upd H p (.lst (xs.set j v)))
theorem Gi:Rv X VZ:=by
 intro pins s σ H o i v ov iv u Q I ro ri rv h;obtain⟨p,xs,k,j,rfl,rfl,hp,hj,q⟩:=h;cases ro;obtain⟨t,rfl⟩:=ri;obtain⟨its,n,r,ho,hz⟩:=I.lst hp;obtain⟨h1,h2,h3,h4⟩:=C6 hj;have hl:=r.length;have hn:=t8;have I':Inv X pins σ (upd H p (.lst (xs.set j v))) { s with heap:=s.heap.update p (Obj.mapSeq (·.setIfInBounds j u)) } :=
  I.VY hp ho (Co its n j u) (r.set rv j) (by rw[nK];exact hz) s.toks
 by_cases h0:0<=k
 ·have hk:k.toNat=j:=by
   rw[zh h0 h4]at h1;exact Option.some.inj h1
  exact PySem.W.ki_setAt ho h0 (by omega) (by rw[aR,<-hl];exact h4) (by rw[hk];exact⟨_,I',q⟩)
 ·have hk:(k+(its.toArray.size:Int)).toNat=j:=by
   rw[seqIndex_neg (by omega) h3]at h1;rw[aR,<-hl];exact Option.some.inj h1
  exact PySem.W.ki_setBack ho (by omega) (by rw[aR,<-hl];exact h3) (by omega) (by rw[hk];exact⟨_,I',q⟩)
theorem AT (lo hi:Option Int) (n:Nat):(sliceBounds lo hi none n).1=((HT.aq n 0 lo:Nat):Int) /\ (sliceBounds lo hi none n).2.1=((HT.aq n n hi:Nat):Int) /\ (sliceBounds lo hi none n).2.2=1:=by
 refine⟨?_,?_,rfl⟩
 ·cases lo with
  |none=>simp[sliceBounds,HT.aq]
  | some i =>
    simp only[sliceBounds,HT.aq,zM,show (1:Int)>0 by decide,if_true];by_cases h:i<0
    ·simp only[h,if_true]<;>omega
    ·simp only[h,if_false]<;>omega
 ·cases hi with
  |none=>simp[sliceBounds,HT.aq]
  | some i =>
    simp only[sliceBounds,HT.aq,zM,show (1:Int)>0 by decide,if_true];by_cases h:i<0
    ·simp only[h,if_true]<;>omega
    ·simp only[h,if_false]<;>omega
theorem Ah (its:List Value) (lo hi:Option Int):slicePick its.toArray lo hi none=((its.drop (HT.aq its.length 0 lo)).take (HT.aq its.length its.length hi-HT.aq its.length 0 lo)).toArray:=by
 obtain⟨h1,h2,h3⟩:=AT lo hi its.toArray.size;unfold slicePick;rw[h1,h2,h3];simp only[sliceRange_one,pick_run,aR]<;>rfl
def RV (K:PySem.W.Frag):V->Option Int->Option Int->Hp->VK->Prop:=λx lo hi H Q=>∃ a xs,x=.ref a /\ aQ K H a xs /\ ∀ p,H p=none->Q (.ref p) (upd H p (.lst (rj xs lo hi)))
theorem J8:qB X (RV X.K):=by
 intro pins s σ H x v vl vu lo hi sl Q I rx hs pl pu h;obtain⟨a,xs,rfl,hx,q⟩:=h;cases rx;obtain⟨its,r,ht,hz⟩:=I.list hx;have hlen:=r.length;refine⟨"list",_,slot_list_getitem.lookup,ht.isList.typeIs,?_⟩;refine Kz ht.isList hs pl pu .none (by simp) ?_ (by rw[aR]<;>omega);rw[Ah,<-hlen];refine⟨.ref s.heap.objs.size,_,I.laid (t':=s.toks) (o:=.lst (rj xs lo hi)) (λb ob q=>aG _ q) (ag _) ?_,rfl,q _ (I.ai.fresh (ag _))⟩;exact⟨bu (mL xs lo hi) hz,_,0,(r.drop (HT.aq xs.length 0 lo)).take (HT.aq xs.length xs.length hi-HT.aq xs.length 0 lo),bP _ rfl⟩
noncomputable def cX:V->Bool
 |.ae=>true
 |.bl _=>true
 |.int _=>true
 |.str _=>true
 |_=>false
noncomputable def cL:V->V->Bool
 |.ae,.ae=>true
 |.bl a,.bl b=>a==b
 |.bl a,.int b=>(if a then 1 else 0)==b
 |.int a,.bl b=>a==(if b then 1 else 0)
 |.int a,.int b=>a==b
 |.str a,.str b=>a==b
 |_,_=>false
theorem Gj {y x:V}(ry:RelV y u) (rx:RelV x v) (fy:cX y=true) (fx:cX x=true):SeqAt.EqAt A s u v (cL y x):=by
 cases y with
 | ae =>
   cases ry;cases x with
   |ae=>cases rx;exact SeqAt.EqAt.same _
   |bl b=>cases rx;exact UA b
   |int b=>obtain⟨t,rfl⟩:=rx;exact UB b t
   |str b=>obtain⟨t,rfl⟩:=rx;exact UC b t
   |_=>exact absurd (show false=true from fx) b9
 | bl a =>
   cases ry;cases x with
   |ae=>cases rx;exact UD a
   |bl b=>cases rx;exact UE a b
   |int b=>obtain⟨t,rfl⟩:=rx;exact UG a b t
   |str b=>obtain⟨t,rfl⟩:=rx;exact UH a b t
   |_=>exact absurd (show false=true from fx) b9
 | int a =>
   obtain⟨t',rfl⟩:=ry;cases x with
   |ae=>cases rx;exact UI a t'
   |bl b=>cases rx;exact UJ a t' b
   |int b=>obtain⟨t,rfl⟩:=rx;exact xc a t' b t
   |str b=>obtain⟨t,rfl⟩:=rx;exact QM a t' b t
   |_=>exact absurd (show false=true from fx) b9
 | str a =>
   obtain⟨t',rfl⟩:=ry;cases x with
   |ae=>cases rx;exact UK a t'
   |bl b=>cases rx;exact UL a t' b
   |int b=>obtain⟨t,rfl⟩:=rx;exact QN a t' b t
   |str b=>obtain⟨t,rfl⟩:=rx;exact Eb a t' b t
   |_=>exact absurd (show false=true from fx) b9
 |_=>exact absurd (show false=true from fy) b9
def eP (x:V) (u:Value):Bool:=match u with
 |.none=>cL .ae x
 |.bool b=>cL (.bl b) x
 |.int i _=>cL (.int i) x
 |.str z _=>cL (.str z) x
 |_=>false
theorem Gk {x y:V}(r:RelV y u) (f:cX y=true):eP x u=cL y x:=by
 cases y with
 |ae=>cases r;rfl
 |bl b=>cases r;rfl
 |int i=>obtain⟨t,rfl⟩:=r;rfl
 |str z=>obtain⟨t,rfl⟩:=r;rfl
 |_=>exact absurd (show false=true from f) b9
theorem lH {x:V}:∀ {xs:List V}{us:List Value},Vals xs us->xs.all cX=true->us.any (eP x)=xs.any λy=>cL y x
 |_,_,.nil,_=>rfl
 | y::xs,u::us,.cons r t,f=>by
   rw[k9,aw]at f;rw[zE,zE,Gk r f.1,lH t f.2]
theorem jP {A:Around}{s:Shared}{x:V}{v:Value}(rx:RelV x v) (fx:cX x=true):∀ {xs:List V}{us:List Value},Vals xs us->xs.all cX=true->∀ u∈us,SeqAt.EqAt A s u v (eP x u)
 |_,_,.nil,_=>λu hu=>by cases hu
 | y::xs,u::us,.cons r t,f=>λu' hu=>by
   rw[k9,aw]at f;rcases aY.mp hu with rfl|hu
   ·rw[Gk r f.1];exact Gj r rx f.1 fx
   ·exact jP rx fx t f.2 u' hu
def xA (x:V) (xs:List V):Bool:=xs.any λy=>cL y x
def xC (K:PySem.W.Frag) (neg:Bool):R2:=λx y H Q=>∃ p xs,y=.ref p /\ (aQ K H p xs \/ bc K H p xs) /\ cX x=true /\ xs.all cX=true /\ Q (.bl (if neg then !xA x xs else xA x xs)) H
theorem Fd:aA X (compareOp .In) (xC X.K false):=by
 intro pins s σ H x y v u Q I rx ry h;obtain⟨p,xs,rfl,hq,fx,fs,q⟩:=h;cases ry;rcases hq with hq|hq
 ·obtain⟨its,r,pl,hz⟩:=I.list hq;refine SeqAt.in_listAt (eP x) pl.isList (λw hw=>jP rx fx r fs w (by simpa using hw)) ⟨.bl _,H,I,rfl,?_⟩;rw[show its.toArray.any (eP x)=its.any (eP x) by simp,lH r fs];exact q
 ·obtain⟨its,r,pl,hz⟩:=I.tuple hq;refine SeqAt.in_tupleAt (eP x) pl (λw hw=>jP rx fx r fs w (by simpa using hw)) ⟨.bl _,H,I,rfl,?_⟩;rw[show its.toArray.any (eP x)=its.any (eP x) by simp,lH r fs];exact q
theorem AU:aA X (compareOp .NotIn) (xC X.K true):=by
 intro pins s σ H x y v u Q I rx ry h;obtain⟨p,xs,rfl,hq,fx,fs,q⟩:=h;cases ry;rcases hq with hq|hq
 ·obtain⟨its,r,pl,hz⟩:=I.list hq;refine SeqAt.notIn_listAt (eP x) pl.isList (λw hw=>jP rx fx r fs w (by simpa using hw)) ⟨.bl _,H,I,rfl,?_⟩;rw[show its.toArray.any (eP x)=its.any (eP x) by simp,lH r fs];exact q
 ·obtain⟨its,r,pl,hz⟩:=I.tuple hq;refine SeqAt.notIn_tupleAt (eP x) pl (λw hw=>jP rx fx r fs w (by simpa using hw)) ⟨.bl _,H,I,rfl,?_⟩;rw[show its.toArray.any (eP x)=its.any (eP x) by simp,lH r fs];exact q
theorem lI:cK X (.builtin "len") (λxs H Q=>∃ p ys,xs=[.ref p] /\ (aQ X.K H p ys \/ bc X.K H p ys) /\ Q (.int ys.length) H):=by
 intro pins s σ H xs us Q I r h;obtain⟨p,ys,rfl,hq,q⟩:=h;obtain⟨u,rfl,rx⟩:=vals1 r;cases rx;have hn:=t8;rcases hq with hq|hq
 ·obtain⟨its,r',pl,hz⟩:=I.list hq;have hlen:=r'.length;exact Calls.call_len_list pl.isList (by simp only[aR]<;>omega) ⟨.int ys.length,H,I.tok _,⟨s.toks+1,by rw[aR,hlen]⟩,q⟩
 ·obtain⟨its,r',pl,hz⟩:=I.tuple hq;have hlen:=r'.length;exact len_tuple pl (by simp only[aR]<;>omega) ⟨.int ys.length,H,I.tok _,⟨s.toks+1,by rw[aR,hlen]⟩,q⟩
theorem AV:cK X (.type "list") (λxs H Q=>∃ p ys,xs=[.ref p] /\ (aQ X.K H p ys \/ bc X.K H p ys) /\ ∀ l,H l=none->Q (.ref l) (upd H l (.lst ys))):=by
 intro pins s σ H xs us Q I r h;obtain⟨p,ys,rfl,hq,q⟩:=h;obtain⟨u,rfl,rx⟩:=vals1 r;cases rx
 have fin:∀ (its:List Value),Vals ys its->ys.length<=sizeLine->∀ (h':Heap) (c':Nat),(∀ b o',s.heap.get? b=some o'->h'.get? b=some o') ->
  h'.get? s.heap.objs.size=some { cls:=.type "list",dict:=none,data:=.seq its.toArray c',slots:=#[] }->EP X pins σ Q (.ref s.heap.objs.size) { s with heap:=h' }:=λits r' hz h' c' kp e =>
  ⟨.ref s.heap.objs.size,_,I.laid (t':=s.toks) kp (ag _) (show aZ X.prog X.w _ h' _ (.lst ys) from⟨hz,its,c',r',e⟩),rfl,q _ (I.ai.fresh (ag _))⟩
 rcases hq with hq|hq
 ·obtain⟨its,r',pl,hz⟩:=I.list hq;have hlen:=r'.length;obtain⟨o,ho,hc,n,hd⟩:=pl.isList;exact KA p (.inl rfl) ho hc hd (λh' c' kp e=>fin its r' hz h' c' kp e) (by simp only[aR]<;>omega)
 ·obtain⟨its,r',pl,hz⟩:=I.tuple hq;have hlen:=r'.length;obtain⟨o,ho,hc,n,hd⟩:=pl;exact KA p (.inr rfl) ho hc hd (λh' c' kp e=>fin its r' hz h' c' kp e) (by simp only[aR]<;>omega)
theorem Ai:cK X (.type "tuple") (λxs H Q=>∃ p ys,xs=[.ref p] /\ ((aQ X.K H p ys /\ ∀ l,H l=none->Q (.ref l) (upd H l (.tup ys))) \/ (bc X.K H p ys /\ Q (.ref p) H))):=by
 intro pins s σ H xs us Q I r h;obtain⟨p,ys,rfl,h⟩:=h;obtain⟨u,rfl,rx⟩:=vals1 r;cases rx;rcases h with⟨hq,q⟩|⟨hq,q⟩
 ·obtain⟨its,r',pl,hz⟩:=I.list hq;have hlen:=r'.length;refine call_tuple_list pl.isList (λh' kp=>?_) (by simp only[aR]<;>omega);have I1:Inv X pins σ H { s with heap:=h' }:=I.kept (t':=s.toks) kp;have I2:Inv X pins σ (upd H h'.objs.size (.tup ys)) { s with heap:=h'.push { cls:=.type "tuple",data:=.seq its.toArray } } :=
   I1.laid (t':=s.toks) (λb o e=>aG _ e) (ag _) (show aZ X.prog X.w _ _ _ (.tup ys) from⟨hz,its,r',IsTup.new _ _⟩)
  exact⟨.ref h'.objs.size,_,I2,rfl,q _ (I1.ai.fresh (ag _))⟩
 ·obtain⟨its,r',pl,hz⟩:=I.tuple hq;exact call_tuple_same pl ⟨.ref p,H,I,rfl,q⟩
def RW (K:PySem.W.Frag) (T:String) (x:V) (H:Hp):Prop:=match x with
 |.str _=>T="str"
 |.int _=>T="int"
 |.ref p=>(T="list" /\ ∃ xs,aQ K H p xs) \/ (T="tuple" /\ ∃ o,K.lookup p=some o /\ o.cls=.type "tuple" /\ o.dict=none) \/
  (T="dict" /\ ((∃ ay,H p=some (.dK ay)) \/ ∃ ay,H p=some (.dT ay))) \/ (T="set" /\ ∃ S n,H p=some (.set S n))
 |_=>False
theorem Nm {T:String}{x:V}(I:Inv X pins σ H s) (r:RelV x v) (ty:RW X.K T x H) :
 s.TypeIs v T /\ ∀ a,v=.ref a->∃ ob,s.heap.get? a=some ob /\ ob.dict=none:=by
 cases x with
 | str z =>
   obtain⟨t,rfl⟩:=r;cases (show T="str" from ty);exact⟨typeIs_str s z t,λ_ e=>nomatch e⟩
 | int i =>
   obtain⟨t,rfl⟩:=r;cases (show T="int" from ty);exact⟨typeIs_int s i t,λ_ e=>nomatch e⟩
 | ref p =>
   cases r;rcases ty with⟨rfl,xs,hq⟩|⟨rfl,o,hk,hc,hd⟩|⟨rfl,hk⟩|⟨rfl,S,n,hk⟩
   ·obtain⟨its,_,pl,_⟩:=I.list hq;refine⟨pl.isList.typeIs,λa e=>?_⟩;cases e;obtain⟨o,n,e,c,hd,_⟩:=pl;exact⟨o,e,hd⟩
   ·refine⟨⟨o,I.bz p o hk,hc⟩,λa e=>?_⟩;cases e;exact⟨o,I.bz _ o hk,hd⟩
   ·have z:∃ o,s.heap.get? p=some o /\ o.ExactDict:=by
     rcases hk with⟨ay,hk⟩|⟨ay,hk⟩
     ·obtain⟨_,_,_,_,o,_,_,e,ex,_⟩:=I.ai p _ hk;exact⟨o,e,ex⟩
     ·obtain⟨_,_,_,_,o,_,_,e,ex,_⟩:=I.ai p _ hk;exact⟨o,e,ex⟩
    obtain⟨o,e,ex⟩:=z;refine⟨⟨o,e,ex.1⟩,λa e2=>?_⟩;cases e2;exact⟨o,e,ex.2.1⟩
   ·obtain⟨o,_,_,_,e,ex,_⟩:=I.ai p _ hk;refine⟨⟨o,e,ex.1⟩,λa e2=>?_⟩;cases e2;exact⟨o,e,ex.2.1⟩
 |_=>exact False.elim ty
def RX (K:PySem.W.Frag) (T:String) (r:V->List V->Hp->VK->Prop) (to:TE) (t:TA):TE:=λσ H Q=>to σ H λx H1=>RW K T x H1 /\ t σ H1 λxs H2=>r x xs H2 Q
variable {o : Expr} {to : TE} {t : TA} {name : Str} {cY : Pos} {T id : String} {r : V -> List V -> Hp -> VK -> Prop}
theorem C8 (pa:PlainAttrs T) (slot:Slot T name id) (V0:typeOf (.builtin id)=pure (.type "method_descriptor")) (hm:RQ X id r) (ho:PE X o to) (ha:PA X (e::es) t)
 (vB:attributeBase o name X.env (eval o X.env)=eval o X.env:=by rfl)
 (EL:((backTo cY (starEach (e::es) X.env)).all (λx=>!x.1)&&(backToKw cY (keywordEach [] X.env)).all (λx=>x.1.isSome)
  && decide ((e::es).length+([]:List Keyword).length+(if ([]:List Keyword).isEmpty then 0 else 1)<30))=true:=by rfl)
 (qC:(apos.endLine==cY.line)=true:=by rfl) (hs:starEach (e::es) X.env=(false,eval e X.env)::starEach es X.env:=by rfl) (V1:(backTo cY (starEach es X.env)).any (·.1)=false:=by rfl) :
 PE X (.Call (.Attribute o name apos) (e::es) [] cY) (RX X.K T r to t):=by
 intro pins s σ H Q I h;refine wpAny_Call_method_late vB EL qC rfl (ao (ho pins s σ H _ I h) λv s1 ⟨x,H1,I1,r1,ty,q1⟩=>?_);obtain⟨h1,h2⟩:=Nm I1 r1 ty;refine⟨T,id,pa,slot,V0,h1,h2,?_⟩;have hA:=ha cY pins s1 σ H1 _ I1 q1;rw[hs]at hA ⊢;refine Calls.callWith_builtin (by show (false||(backTo cY (starEach es X.env)).any (·.1))=false;rw[V1]<;>rfl) (Q2 ?_);exact ao hA λus s2 ⟨vs,H2,I2,r2,q2⟩=>hm pins s2 σ H2 x vs v us Q I2 r1 r2 q2
/- xs.append(e),list.index on a aah tuple .. are RQ facts of 06m -/
end
def EM (X:Cx) (id:String) (r:V->List V->Hp->VK->Prop):Prop :=
 ∀ (pins:List (Addr×Obj)) (s:Shared) (σ:St) (H:Hp) (x:V) (xs:List V) (v:Value) (us:List Value) (Q:VK),Inv X pins σ H s->RelV x v->Vals xs us->r x xs H Q ->
  wpAny (model X.prog X.w) X.A (call (.builtin id) (v::us)) (EP X pins σ Q) X.xe s
theorem Vals.one:∀ {x:V}{us:List Value},Vals [x] us->∃ u,us=[u] /\ RelV x u
 |_,_,.cons r .nil=>⟨_,rfl,r⟩
theorem Vals.two:∀ {x y:V}{us:List Value},Vals [x,y] us->∃ u v,us=[u,v] /\ RelV x u /\ RelV y v
 |_,_,_,.cons r (.cons q .nil)=>⟨_,_,rfl,r,q⟩
theorem Vals.reverse {xs:List V}{us:List Value}(h:Vals xs us):Vals xs.reverse us.reverse:=by
 induction h with
 |nil=>exact .nil
 |cons r t ih=>rw[wJ,wJ];exact Vals.append ih (.cons r .nil)
theorem Vals.rep {xs:List V}{us:List Value}(h:Vals xs us):∀ k:Nat,Vals (List.replicate k xs).flatten (List.replicate k us).flatten
 |0=>.nil
 | k+1=>by
   rw[wK,wK,wL,wL];exact Vals.append h (Vals.rep h k)
section
variable {l b : Addr} {xs ys zs : List V}
theorem Inv.V2 {its its':List Value}{f:Array Value->Array Value}(I:Inv X pins σ H s) (hH:H l=some (.lst xs))
 (e:s.heap.get? l=some { cls:=.type "list",data:=.seq its.toArray n }) (hf:f its.toArray=its'.toArray) (hv:Vals ys its') (hz:ys.length<=sizeLine) :
 Inv X pins σ (upd H l (.lst ys)) { s with heap:=s.heap.update l (Obj.mapSeq f),toks:=t' }:=by
 have q:=PySem.IsL.update e f;rw[hf]at q;refine I.write (x:=l) (e:=l) (by rw[hH];exact trivial) (.inl rfl) (λb' u hb hu=>(K0 s.heap (Obj.mapSeq f) (Ne.symm hb)).trans hu) ⟨_,q⟩ ?_;exact⟨hz,its',_,hv,q⟩
theorem Inv.V3 {its:List Value}(I:Inv X pins σ H s) (hv:Vals ys its) (hz:ys.length<=sizeLine) :
 Inv X pins σ (upd H s.heap.objs.size (.lst ys)) { s with heap:=s.heap.push { cls:=.type "list",data:=.seq its.toArray },toks:=t' } :=
 I.laid (λ_ _ q=>aG _ q) (ag _) ⟨hz,its,0,hv,bP _ rfl⟩
theorem Inv.fresh (I:Inv X pins σ H s):H s.heap.objs.size=none:=I.ai.fresh (ag _)
theorem Inv.vC (I:Inv X pins σ H s) (hH:H l=some (.lst xs)):xs.length<=sizeLine /\ ∃ (its:List Value) (n:Nat),Vals xs its /\ xs.length=its.length /\ s.heap.get? l=some { cls:=.type "list",data:=.seq its.toArray n }:=by
 obtain⟨z,its,n,r,e⟩:=I.ai l _ hH;exact⟨z,its,n,r,r.length,e⟩
end
def RY:V->List V->Hp->VK->Prop:=λx vs H Q=>∃ l xs y,x=.ref l /\ vs=[y] /\ H l=some (.lst xs) /\ xs.length<sizeLine /\ Q .ae (upd H l (.lst (xs++[y])))
theorem l8:EM X "list.append" RY:=by
 intro pins s σ H x vs v us Q I rx rv h;obtain⟨l,xs,y,rfl,rfl,hH,hz,q⟩:=h;cases rx;obtain⟨u,rfl,ru⟩:=rv.one;obtain⟨z,its,n,r,hl,e⟩:=I.vC hH;refine zj F.slot_list_append ⟨_,e,rfl⟩ F.entry_list_append (F.args_list_append_2 _ _) (PySem.list_append l its.toArray n u (by rw[aR];omega)) ⟨e,?_⟩;refine⟨.ae,_,I.V2 (its':=its++[u]) hH e (by simp) (r.append (.cons ru .nil)) ?_,rfl,q⟩;rw[bV,zF];omega
def RZ:R2:=λx y H Q=>∃ l b xs zs,x=.ref l /\ y=.ref b /\ H l=some (.lst xs) /\ H b=some (.lst zs) /\ xs.length+zs.length<=sizeLine /\ ∀ p,H p=none->Q (.ref p) (upd H p (.lst (xs++zs)))
theorem oB:aA X (binaryOp .Add) RZ:=by
 intro pins s σ H x y v u Q I rx ry h;obtain⟨l,b,xs,zs,rfl,rfl,hH,hB,hz,q⟩:=h;cases rx;cases ry;obtain⟨z,its,n,r,hl,e⟩:=I.vC hH;obtain⟨z2,rm,n2,r2,pO,e2⟩:=I.vC hB;refine PySem.P.add_list e e2 ?_ (by rw[aR,aR];omega);have ea:its.toArray++rm.toArray=(its++rm).toArray:=by simp
 rw[ea];exact⟨.ref _,_,I.V3 (t':=s.toks) (r.append r2) (by rw[bV];omega),rfl,q _ I.fresh⟩
end L2
namespace R6
open PySem.W PySem.Calls
theorem mY {P:Params}{h:Heap}:∀ (ns:List Int) (vs:List Value),WellAll P h vs (ns.map WData.int)->IntsAre vs ns:=by
 intro ns;induction ns with
 | nil =>
   intro vs w;rw[tu]at w;cases w;exact .nil
 | cons n ns ih =>
   intro vs w;rw[aN]at w;cases w with
   | cons a b =>
     cases a;exact .cons _ _ (ih _ b)
theorem Fe {l:OpenLaw}(hn:l.most=some n) {P:Params}{h:Heap}{args:List WData}{vals:List Value}
 (xD:l.row.toRowW.claim.pre args=true) (EN:WellAll P h vals args) :
 ∃ a vs ns,vals=[Value.ref a] /\ args=[WData.list (ns.map WData.int)] /\ h.get? a=some { cls:=.type "list",data:=.seq vs.toArray } /\ IntsAre vs ns /\ ns.length<=n:=by
 have V4:WShape.hasAll [] args [.list .int]=true:=(pre_splitW xD).1;have hc:l.pre.holds [] { args:=args }=true:=(pre_splitW xD).2;obtain⟨d,r,rfl,h1,h2⟩:=hasAllW_cons V4;obtain rfl:=hasAllW_nil h2;obtain⟨xs,rfl,h3⟩:=hasW_list h1;obtain⟨ns,rfl⟩:=items_int h3;have hlen:ns.length<=n:=by
  unfold OpenLaw.pre at hc;have h4:(WTm.not (.lt (.lit (.int (n:Int))) (.len (.arg 0)))).holds [] { args:=[.list (ns.map .int)] }=true:=by
   have h4:=(holds_andW hc).1;rw[hn]at h4;exact h4
  have h5:=condW_of h4 (w_not (w_lt w_lit (w_len_list (w_arg rfl))));rw[aL]at h5;refine rV λq=>?_;have q':(n:Int)<((ns.length:Nat):Int):=by omega
  first
   |(rw[decide_eq_true q']at h5;exact absurd h5 (by decide))
   |(simp at h5;omega)
 cases EN with
 | cons w1 w2 =>
   cases w2;cases w1 with
   |list ho EO=>exact⟨_,_,ns,rfl,rfl,ho,mY ns _ EO,hlen⟩
theorem Ff (l:OpenLaw) (args:List WData):l.row.toRowW.claim.post args (.bool true) args=true :=
 postW_of (r:=l.row.toRowW) (X:=(true==true))
  (show WShape.has [] (.bool true) .bool=true by first|rfl|decide|simp[WShape.has,WShape.arms,WShape.armsAll])
  (show (WTm.eq .res (.lit (.bool true))).value [] { args:=args,res:=some (.bool true),after:=args }=some (.bool (true==true)) from w_eq_bool (w_res rfl) w_lit) rfl
theorem V5 {l:OpenLaw}{q:Program}{loose:List Str}{XP:(Str->Option Value)->Heap->Prop}{YP:World->Heap->Prop}{d:DefRec}
 (hn:l.most=some n) (ER:d.params.defaults=[])
 (call:∀ (w:World) (s₀ s₁:Shared) (mg mb:Str->Option Value) (fa:Addr) (o:Obj) (pm cd doc:Value) (a:Addr) (vs:List Value) (ns:List Int),
  Ground q loose [] XP w s₀ mg mb s₁.heap->YP w s₁.heap ->
  s₁.heap.get? fa=some o->o.data=.func (docDef d.name d.params d.body d.scope pm cd doc)->s₁.heap.CodeRec cd d.name->mg d.name=some (.ref fa) ->
  s₁.heap.get? a=some { cls:=.type "list",data:=.seq vs.toArray }->IntsAre vs ns->ns.length<=n->s₁.gens=#[] ->
  codeAny (model l.prog w) callerA (.call (.ref fa) ⟨[.ref a],[]⟩) (λr s'=>r=.ok (.ret (.bool true)) /\ OldK s₁.heap s'.heap /\ s'.os=s₁.os /\ AllBare s'.gens) s₁) :
 WalkO q loose XP YP l.row.toRowW d [] (λf vs=>PySem.call f vs):=by
 intro w s₀ s₁ mg mb G Y fa o pm cd doc dV kV ho hd cw hD hmg hg args vals as xD aai aaj EN aak;obtain rfl:dV=.none:=Dflts.none hD ER;obtain rfl:kV=.none:=Dflts.noKw hD;obtain⟨a,vs,ns,rfl,rfl,ES,hints,hlen⟩:=Fe hn xD EN;refine enter_call (sV (call w s₀ s₁ mg mb fa o pm cd doc a vs ns G Y ho (fd_plain hd) cw hmg ES hints hlen hg) λr s' hq=>?_);obtain⟨rfl,h2,h3,h4⟩:=hq;exact⟨.inl ⟨.bool true,.bool true,[],rfl,λ_=>rfl,.bool true,Ff l _,λ_=>⟨List.Pairwise.nil,λ_ hm=>(nomatch hm)⟩⟩,h2,h3,h4⟩
end R6
namespace L2
theorem Aw:∀ {vs:List Value}{ns:List Int},IntsAre vs ns->Vals (ns.map V.int) vs
 |_,_,.nil=>.nil
 |_,_,.cons n t h=>.cons ⟨t,rfl⟩ (Aw h)
def ET (H:Hp):Prop:=∀ b,H b=none \/ ∃ o xs,H b=some (.cW o (.lst xs))
theorem Gm {mb:Str->Option Value}{fa:Addr}{s₁:Shared} 
 (KX:K.In s₁.heap) (bC:s₁.heap.Ns mainGlobals mg) (hb:s₁.heap.Ns builtinsNs mb) (V6:∀ x:Str,x ≠ "__name__"->mb x=bootBuiltins x) (V7:s₁.heap.NoLimit) (hg:s₁.gens=#[])
 (ha:s₁.heap.get? a=some { cls:=.type "list",data:=.seq vs.toArray }) (hi:IntsAre vs ns) (hl:ns.length<=sizeLine) (hr:aO k callerA)
 (F:∀ base:Heap,K.In base->base.Ns mainGlobals mg->bA P w K mg base CX k fa fd [x] sp) (V8:∀ (s:Shared) (u:Value),BindsTo s fd ⟨[u],[]⟩ [(x,u)])
 (kK:∀ H:Hp,ET H->aQ K H a (ns.map V.int)->sp [.ref a] H (λv _=>v=.bl true) λ_ _ _=>False)
 (V9:∀ H e s',CX [] H s₁ (λ_ _ _=>False) e s'->False) :
 codeAny (model P w) callerA (.call (.ref fa) ⟨[.ref a],[]⟩) (λr s'=>r=.ok (.ret (.bool true)) /\ OldK s₁.heap s'.heap /\ s'.os=s₁.os /\ AllBare s'.gens) s₁:=by
 have rv:=Aw hi;have Wa:=hi.length
 have core:∀ H:Hp,ET H->aQ K H a (ns.map V.int)->bJ P w H s₁.heap->(∀ b,H b≠none->b=a)->(H a≠none->K.lookup a=none) ->
  codeAny (model P w) callerA (.call (.ref fa) ⟨[.ref a],[]⟩) (λr s'=>r=.ok (.ret (.bool true)) /\ OldK s₁.heap s'.heap /\ s'.os=s₁.os /\ AllBare s'.gens) s₁:=by
  intro H hO hS ai hA hK;have jF:∀ {b:Addr}{o:Obj},s₁.heap.get? b=some o->H b=none->(qr s₁.heap H).get? b=some o:=λe n=>FR e n;have vw:∀ {b:Addr}{o:Obj}{es:Array DictEntry}{ep:Nat},s₁.heap.get? b=some o->o.data=.dict es ep->H b=none:=λ{b o es ep} e d=>by
   cases q:H b with
   |none=>rfl
   | some u =>
     have e':b=a:=hA b (by rw[q];simp);subst e';rw[ha]at e;cases e;have d':Data.seq vs.toArray _=Data.dict es ep:=d;cases d'
  have xE:∀ {b:Addr}{m:Str->Option Value},s₁.heap.Ns b m->(qr s₁.heap H).Ns b m:=λ{b m} ⟨o,es,ep,e,d,r⟩=>⟨o,es,ep,jF e (vw e d),d,r⟩;have R7:K.In (qr s₁.heap H):=λb o e=>jF (KX b o e) (by
   cases q:H b with
   |none=>rfl
   | some u =>
     have e':b=a:=hA b (by rw[q];simp);subst e';rw[hK (by rw[q];simp)]at e;cases e)
  have hM:Mod K mg (qr s₁.heap H):=⟨R7,xE bC,⟨mb,xE hb,V6⟩,let ⟨mc,h1,h2⟩:=V7;⟨mc,xE h1,h2⟩⟩;have e0:qz P w K mg (qr s₁.heap H) callerA [] s₁ H:=⟨rfl,hM,λb o e=>JS e,tj (DZ _ _),trivial,λb hb=>absurd (show b∈([]:List Addr) from hb) (by simp),ai,.of_eq hg⟩;refine sV ((F _ R7 (xE bC)).run callerA [] s₁ H ⟨[.ref a],[]⟩ [.ref a] [.ref a] _ _ hr e0 (V8 s₁ (.ref a)) (.cons rfl .nil) (kK H hO hS)) λr s' h=>?_;cases r with
  |error e=>exact(V9 H e s' h).elim
  | ok fl =>
    cases fl with
    |next=>exact False.elim h
    |brk=>exact False.elim h
    |cont=>exact False.elim h
    | ret u =>
      obtain⟨v,H',os,bare,un,Wb,r',q⟩:=h;have q':v=.bl true:=q;subst q';obtain rfl:u=Value.bool true:=r';refine⟨rfl,OldK.of_keep λb o e=>?_,os,bare⟩;cases q:H b with
      |none=>exact un.keep b o e q (by intro z;exact absurd (show b∈([]:List Addr) from z) (by simp)) (by simp)
      | some u =>
        rcases hO b with z|⟨ob,xs,z⟩
        ·rw[q]at z;cases z
        ·have z2:=un.hG b ob _ z;obtain⟨e1,_⟩:=ai b _ z;obtain⟨e2,_⟩:=Wb b _ z2;rw[e]at e1;cases e1;exact e2
 cases hk:K.lookup a with
 | some o =>
   have e:=KX a o hk;rw[ha]at e;cases e;refine core (λ_=>none) (λ_=>.inl rfl) (.inr ⟨_,vs.toArray,_,hk,rfl,rfl,rfl,by rw[aR,Wa];exact hl,by simpa using rv⟩) (λb u z=>by have z':(none:Option HO)=some u:=z;cases z') (λb z=>absurd rfl z) λz=>absurd rfl z
 | none =>
   refine core (λb=>if b=a then some (.cW { cls:=.type "list",data:=.seq vs.toArray } (.lst (ns.map V.int))) else none) (λb=>?_) (.inl (.inr ⟨{ cls:=.type "list",data:=.seq vs.toArray },if_pos rfl⟩)) (λb u z=>?_) (λb z=>?_) λ_=>hk
   ·by_cases hb:b=a
    ·exact .inr ⟨_,_,if_pos hb⟩
    ·exact .inl (if_neg hb)
   ·by_cases hb:b=a
    ·have z':=(if_pos hb).symm.trans z;cases z';subst hb;exact⟨ha,by rw[aL];exact hl,vs,_,rv,ha⟩
    ·have z':=(if_neg hb).symm.trans z;cases z'
   ·by_cases hb:b=a
    ·exact hb
    ·exact absurd (if_neg hb) z
noncomputable abbrev R8 {h:Heap}(_:K.In h):PySem.W.Frag:=K
end L2
/- aal aam aan (shape;aao,My.* are aap):
 My.aaq: a structure of the addresses that aar aas names (classes,aat);My.Txt K t: a structure (Prop) of the equations over K;
 My.Wc:{K}{implicit addresses ..}(e1:nsIn K mainGlobals "law"=some (some (.ref f))) (e2:K.lookup f=some ⟨oc,od,.func (fnOf "law" "law" params body scope dV kV doc pm an cdv ct),sl⟩) (e3:codeIn K cdv "law"=true) ..:∃ t,My.Txt K t
set_option maxRecDepth 100000 in
set_option maxHeartbeats 0 in
theorem PySem.Challenge.cw_LID_holds : PySem.Challenge.We.Holds := by
 w_on;o_law;k_head;(case hw=>aau)
 k_fill
 refine L2.aav (l:=PySem.Challenge.We) (n:=63) (k:=40) (x:="script") (CX:=λw=>..) (sp:=λ_=>My.R9) rfl (by decide) rfl ⟨rfl,by decide,by decide⟩ (λw h Y=>PySem.W.kIn_of Y) ?F ?S ?C
 case F =>
  intro w mg fa h KX G hmg;have T:∃ t,My.Txt (L2.R8 KX) t:=by
   dsimp only[L2.R8]                          -- K aaw aax as «<heap const> w.params» for k_is
   refine' My.Wc ?e1 ?e2 ?e3 ..
   (case e1=>PySem.W.k_is)                    -- in the order: a name->its address->its object->its parts
   (case e2=>PySem.W.k_is)
   ..
  obtain⟨t,T⟩:=T;have e0:=hmg.symm.trans (QG KX G T.law)
  cases e0                                       -- fa is the aay own address
  exact⟨_,λs u=>.of_eq rfl,λbase kb nb=>My.Wf T kb nb⟩     -- if «.of_eq rfl» comes aaz early: refine' ⟨_,?b,λbase kb nb=>My.Wf T kb nb⟩;exact λs u=>.of_eq rfl
 case S=>exact λw H a ns hl hO hS=>..
 case C=>exact ..
(the tactic k_is has no namespace: write k_is) -/
namespace L2
noncomputable def inClass (s:Stmt) (j:Nat):Stmt:=match s with
 |.ClassDef _ _ _ body _ _ _ _ _ _ _=>body.getD j (.Pass ⟨0,0,0,0⟩)
 |_=>.Pass ⟨0,0,0,0⟩
noncomputable def gU (s:Stmt):Arguments:=match s with
 |.FunctionDef _ a _ _ _ _ _ _ _ _=>a
 |_=>{ posonlyargs:=[],args:=[],vararg:=none,kwonlyargs:=[],kw_defaults:=[],kwarg:=none,defaults:=[] }
noncomputable def fV (s:Stmt):List Stmt:=match s with
 |.FunctionDef _ _ b _ _ _ _ _ _ _=>b
 |_=>[]
noncomputable def fA (s:Stmt):Scope:=match s with
 |.FunctionDef _ _ _ _ _ _ sc _ _ _=>sc
 |_=>{ kind:=.function,names:=[],isGenerator:=false,isCoroutine:=false }
abbrev nS:hZ:=λ_ _ _ _ _ _=>False
noncomputable abbrev E0:XK:=λ_ _ _=>False
theorem Wg:Passes nS X E0:=λ_ _ _ _ _ _ _ h=>h.elim
structure cC (K:PySem.W.Frag) (x qual:Str) (st:Stmt) (f:Addr) (fd:FuncData):Prop where
 ex:∃ (oc:Value) (od:Option Addr) (kV doc pm:Value) (an:Option Addr) (cdv ct:Value) (kz:Array (Option Value)),
  fd=PySem.W.fnOf x qual (gU st) (fV st) (fA st) .none kV doc pm an cdv ct /\ K.lookup f=some ⟨oc,od,.func fd,kz⟩ /\ PySem.W.codeIn K cdv qual=true
 kp:PySem.W.keepIn K (.ref f)=true
theorem cC.ok {st:Stmt}{ps:List Str}(F:cC K x qual st f fd) (S:nR N ps (fA st)) (len:∀ vs H Q E,sp vs H Q E->vs.length=ps.length)
 (eL:∀ (cdv:Value) (A:Around) (outer:List Env) (s:Shared) (H:Hp) (vs:List V) (Q:VK) (E:XK),aO k (A.deeper (envOfC qual (fA st) s.heap.objs.size f cdv))->sp vs H Q E ->
  ∃ t,bQ (kJ nS P w K mg base N qual (fA st) f cdv A outer s H E).qw (fV st) t /\ t { nx:=λ_ H'=>Q .ae H',rt:=Q } (start N vs) H):bA P w K mg base nS (k+1) f fd ps sp:=by
 obtain⟨oc,od,kV,doc,pm,an,cdv,ct,kz,rfl,lk,cw⟩:=F.ex;refine MG lk cw S len λA outer s H vs Q E hr kK=>?_;obtain⟨t,h,q⟩:=eL cdv A outer s H vs Q E hr kK;exact⟨t,h.qw,q⟩
theorem cC.binds {st:Stmt}{ps:List Str}(F:cC K x qual st f fd)
 (h:∀ (kV doc pm:Value) (an:Option Addr) (cdv ct:Value) (us:List Value),us.length=ps.length->bindArgs (PySem.W.fnOf x qual (gU st) (fV st) (fA st) .none kV doc pm an cdv ct) ⟨us,[]⟩=pure (ps.zip us)):Binds K fd ps []:=by
 obtain⟨oc,od,kV,doc,pm,an,cdv,ct,kz,rfl,lk,cw⟩:=F.ex;exact .all (h kV doc pm an cdv ct)
theorem AW {st:Stmt}{oc:Value}{od an:Option Addr}{kV doc pm cdv ct:Value}(l:K.lookup f=some ⟨oc,od,.func (PySem.W.fnOf x qual (gU st) (fV st) (fA st) .none kV doc pm an cdv ct),kz⟩)
 (c:PySem.W.codeIn K cdv qual=true) (k:PySem.W.keepIn K (.ref f)=true):cC K x qual st f (PySem.W.fnOf x qual (gU st) (fV st) (fA st) .none kV doc pm an cdv ct):=⟨⟨oc,od,kV,doc,pm,an,cdv,ct,kz,rfl,l,c⟩,k⟩
theorem xF (h:n<=1000):n<sizeLine:=rW h (by decide)
theorem pv (i:Nat) (hN:X.N[i]?=some x:=by rfl) (hv:qt X.env.scope x:=by first|exact Or.inl rfl|exact Or.inr (Or.inl rfl)|exact Or.inr (Or.inr rfl)) (hd:(x==("__debug__":Str))=false:=by decide)
 (cw:(x==("__classdict__":Str))=false:=by decide):PE X (.Name x pos) (Rq i):=AO hN hv hd cw
theorem Sa {A B:Prop}(h:B):if false=true then A else B:=by
 rw[if_neg b9];exact h
def cZ (H H':Hp):Prop:=∀ b o,H b=some o->H' b=some o
theorem cZ.free (e:cZ H H') {l:Addr}(h:H' l=Option.none):H l=Option.none:=by
 cases q:H l with
 |none=>rfl
 | some o =>
   rw[e l o q]at h;cases h
noncomputable def dg (cells:List (Str×Addr)):List (Str×NameKind)->List (Str×Addr)->List (Str×Addr)
 |[],acc=>acc
 |(n,k)::r,acc=>dg cells r (if k==.free then (match cells.lookup n with|some c=>(n,c)::acc|none=>acc) else acc)
theorem js {env:Env}:∀ (names:List (Str×NameKind)) (acc:List (Str×Addr)),(∀ y∈names,y.2=.free->∃ c,env.cells.lookup y.1=some c) ->
 (forIn names acc (λ(x:Str×NameKind) (r:List (Str×Addr))=>(match x with
  |(name,kind)=>if (kind==NameKind.free)=true then (do let a <-cellOf env name;pure (ForInStep.yield ((name,a)::r))) else pure (ForInStep.yield r):Sem (ForInStep (List (Str×Addr))))))=(pure (dg env.cells names acc):Sem _)
 |[],acc,_=>rfl
 | (n,k)::r,acc,h=>by
   rw[rX];by_cases hk:k=.free
   ·subst hk;obtain⟨c,e⟩:=h (n,.free) a8 rfl;have e':env.cells.lookup n=some c:=e;have e1:cellOf env n=pure c:=by unfold cellOf;rw[e']
    dsimp only;rw[if_pos (by decide),e1];have q:=js (env:=env) r ((n,c)::acc) λy hy=>h y (aV _ hy);have z:dg env.cells ((n,NameKind.free)::r) acc=dg env.cells r ((n,c)::acc):=by
     show dg env.cells r _=_;rw[if_pos (by decide),e']
    rw[z,<-q];rfl
   ·dsimp only;have hb:(k==NameKind.free)=false:=by simpa using hk
    rw[if_neg (by rw[hb];decide)];have q:=js (env:=env) r acc λy hy=>h y (aV _ hy);have z:dg env.cells ((n,k)::r) acc=dg env.cells r acc:=by
     show dg env.cells r _=_;rw[if_neg (by rw[hb];decide)]
    rw[z,<-q];rfl
theorem Cp {scope:Scope}{env:Env}(h:∀ y∈scope.names,y.2=.free->∃ c,env.cells.lookup y.1=some c):closureFor scope env=pure (dg env.cells scope.names []):=by
 have q:=js (env:=env) scope.names [] h;unfold closureFor;first
  |exact q
  |(dsimp only;rw[show (forIn scope.names ([]:List (Str×Addr)) _:Sem _)=_ from q];rfl)
  |(rw[<-q];rfl)
theorem Bu {cells:List (Str×Addr)}:∀ (names:List (Str×NameKind)) (acc:List (Str×Addr)),(∀ x c,acc.lookup x=some c->cells.lookup x=some c)->∀ x c,(dg cells names acc).lookup x=some c->cells.lookup x=some c
 |[],_,h=>h
 | (n,k)::r,acc,h=>by
   refine Bu r _ ?_;intro x c e;by_cases hk:(k==NameKind.free)=true
   ·rw[if_pos hk]at e;cases q:cells.lookup n with
    |none=>rw[q]at e;exact h x c e
    | some a =>
      rw[q]at e;have e':((n,a)::acc).lookup x=some c:=e;rw[cV]at e';cases hx:x==n with
      |true=>rw[hx]at e';rw[eq_of_beq hx,q];exact e'
      |false=>rw[hx]at e';exact h x c e'
   ·rw[if_neg hk]at e;exact h x c e
theorem Bv {cells:List (Str×Addr)}:∀ (names:List (Str×NameKind)) (acc:List (Str×Addr)) (x:Str),((∃ c,acc.lookup x=some c) \/ ((x,NameKind.free)∈names /\ ∃ c,cells.lookup x=some c))->∃ c,(dg cells names acc).lookup x=some c
 |[],_,x,h=>h.elim id λz=>nomatch z.1
 | (n,k)::r,acc,x,h=>by
   refine Bv r _ x ?_;rcases h with⟨c,e⟩|⟨hm,c,e⟩
   ·left;by_cases hk:(k==NameKind.free)=true
    ·rw[if_pos hk];cases q:cells.lookup n with
     |none=>exact⟨c,e⟩
     | some a =>
       show ∃ c,((n,a)::acc).lookup x=some c;rw[cV];cases hx:x==n with
       |true=>exact⟨a,rfl⟩
       |false=>exact⟨c,e⟩
    ·rw[if_neg hk];exact⟨c,e⟩
   ·rcases aY.mp hm with z|z
    ·have z1:x=n:=congrArg Prod.fst z;have z2:NameKind.free=k:=congrArg Prod.snd z;subst z1;subst z2;left;rw[if_pos (by decide),e];exact⟨c,by show ((x,c)::acc).lookup x=_;rw[cV,beq_self_eq_true]⟩
    ·exact .inr ⟨z,c,e⟩
theorem lj {env:Env}:∀ (names:List (Str×NameKind)) (x:Str) (k':NameKind),
 (names.map λ(n,k)=>if (k==NameKind.free&&env.scope.kind==.function&&env.kindOf n==some .cell) then (n,NameKind.cell) else (n,k)).lookup x=some k' ->
 ∃ k,names.lookup x=some k /\ (k'=k \/ (k=.free /\ k'=.cell))
 |[],_,_,h=>by simp at h
 | (n,k)::r,x,k',h=>by
   have h':List.lookup x ((if (k==NameKind.free&&env.scope.kind==.function&&env.kindOf n==some .cell)=true then (n,NameKind.cell) else (n,k))::(r.map λ(n,k)=>if (k==NameKind.free&&env.scope.kind==.function&&env.kindOf n==some .cell) then (n,NameKind.cell) else (n,k)))=some k':=h;by_cases hc:(k==NameKind.free&&env.scope.kind==.function&&env.kindOf n==some .cell)=true
   ·rw[if_pos hc,cV]at h';rw[cV];cases hx:x==n with
    | true =>
      rw[hx]at h';have hk:k=.free:=by
       cases hq:(k==NameKind.free) with
       |true=>exact eq_of_beq hq
       |false=>rw[hq]at hc;simp at hc
      exact⟨k,rfl,.inr ⟨hk,(Option.some.inj h').symm⟩⟩
    |false=>rw[hx]at h';exact lj r x k' h'
   ·rw[if_neg hc,cV]at h';rw[cV];cases hx:x==n with
    |true=>rw[hx]at h';exact⟨k,rfl,.inl (Option.some.inj h').symm⟩
    |false=>rw[hx]at h';exact lj r x k' h'
theorem jt {env:Env}:∀ (names:List (Str×NameKind)) (x:Str),names.lookup x=some .free ->
 (names.map λ(n,k)=>if (k==NameKind.free&&env.scope.kind==.function&&env.kindOf n==some .cell) then (n,NameKind.cell) else (n,k)).lookup x=some .cell \/
 (names.map λ(n,k)=>if (k==NameKind.free&&env.scope.kind==.function&&env.kindOf n==some .cell) then (n,NameKind.cell) else (n,k)).lookup x=some .free
 |[],_,h=>by simp at h
 | (n,k)::r,x,h=>by
   show List.lookup x ((if (k==NameKind.free&&env.scope.kind==.function&&env.kindOf n==some .cell)=true then (n,NameKind.cell) else (n,k))::_)=_ \/ List.lookup x ((if (k==NameKind.free&&env.scope.kind==.function&&env.kindOf n==some .cell)=true then (n,NameKind.cell) else (n,k))::_)=_;rw[cV]at h;by_cases hc:(k==NameKind.free&&env.scope.kind==.function&&env.kindOf n==some .cell)=true
   ·rw[if_pos hc,cV];cases hx:x==n with
    |true=>exact .inl rfl
    |false=>rw[hx]at h;exact jt r x h
   ·rw[if_neg hc,cV];cases hx:x==n with
    |true=>rw[hx]at h;exact .inr h
    |false=>rw[hx]at h;exact jt r x h
theorem il:∀ (names:List (Str×NameKind)) (n:Nat) (acc:List (Str×Addr)),cellsFrom n names acc=cellsFrom n names []++acc
 |[],_,_=>rfl
 | (x,k)::r,n,acc=>by
   unfold cellsFrom;split
   ·rw[il r (n+1) ((x,n)::acc),il r (n+1) [(x,n)],zG];rfl
   ·exact il r n acc
theorem md:∀ (names:List (Str×NameKind)) (n:Nat) {x:Str}{c:Addr},(x,c)∈cellsFrom n names []->(x,NameKind.cell)∈names
 |[],_,_,_,h=>nomatch h
 | (y,k)::r,n,x,c,h=>by
   unfold cellsFrom at h;split at h
   ·rename_i hk;rw[il]at h;rcases List.mem_append.mp h with h|h
    ·exact aV _ (md r _ h)
    ·cases ni.mp h;rw[<-eq_of_beq hk];exact a8
   ·exact aV _ (md r _ h)
theorem oC {α:Type}:∀ {l:List (Str×α)}{x:Str}{a b:α},(l.map (·.1)).Nodup->(x,a)∈l->(x,b)∈l->a=b
 | (y,c)::l,x,a,b,h,ha,hb=>by
   rw[aN,List.nodup_cons]at h;rcases aY.mp ha with e|ha<;>rcases aY.mp hb with e'|hb
   ·rw[<-e']at e;exact(Prod.mk.inj e).2
   ·exact absurd (List.mem_map.mpr ⟨_,hb,(Prod.mk.inj e).1⟩) h.1
   ·exact absurd (List.mem_map.mpr ⟨_,ha,(Prod.mk.inj e').1⟩) h.1
   ·exact oC h.2 ha hb
theorem ju {α:Type}{x:Str}:∀ {l m:List (Str×α)},(l++m).lookup x=match l.lookup x with|some a=>some a|none=>m.lookup x
 |[],m=>rfl
 | (y,a)::l,m=>by
   rw[zH,cV,cV];cases x==y with
   |true=>rfl
   |false=>exact ju
theorem Cq {scope:Scope}{globals:Addr}{cl:List (Str×Addr)}{env:Env}{Q:Env->Shared->Prop}
 (h:Q { scope:=scope,locals:=s.heap.objs.size,globals:=globals,cells:=cellsFrom (s.heap.objs.size+1) scope.names cl,qual:=qual,func:=none,code:=env.code,frame:=env.frame,builtins:=env.builtins }
  { s with heap:=pushCells (s.heap.push { cls:=.type "dict",data:=.dict #[] }) scope.names }) :
 wpAny M A (newFunctionEnv scope globals cl [] qual none .none (some env)) Q E s:=by
 unfold newFunctionEnv;refine aa (wpAny_alloc (aa (wpAny_layCells _ (λname kind cells=>by cases hk:kind==NameKind.cell<;>simp[hk]) _ _ _ _ ?_)));rw[show ({ s with heap:=s.heap.push { cls:=.type (if (some env).isSome=true then "dict" else "frame"),data:=.dict #[] } }:Shared).heap.objs.size=s.heap.objs.size+1 from pz ..];exact aa (ah (ah h))
noncomputable abbrev Cx.comp (X:Cx) (N:List Str) (scope:Scope) (cl:List (Str×Addr)) (s:Shared) (H:Hp) (C:Addr) (fp:List Addr):Cx :=
 { X with N:=N,s₀:=s,H₀:=H,env:=compEnvC scope cl C X.env,outer:=X.stack,stack:=X.stack,ex:=fp,fn:=λx=>decide (scope.names.lookup x=some .cell),pn:=[],xe:=λ_ _=>False }
structure rn (X:Cx) (N:List Str) (src:List (Option Nat)) (scope:Scope):Prop where
 kind:scope.kind=.function
 nk:(scope.names.map (·.1)).Nodup
 names:∀ y∈scope.names,y.2=.local->scope.names.lookup y.1=some .local
 has:∀ y∈scope.names,y.2=.free->X.env.kindOf y.1=some .cell \/ X.env.kindOf y.1=some .free
 Wh:src.length=N.length
 Wi:∀ (j i:Nat) (x:Str),src[j]?=some (some i)->N[j]?=some x->X.N[i]?=some x /\ scope.names.lookup x=some .free
noncomputable def rq (src:List (Option Nat)) (σ:St):St:=src.map λo=>o.bind λi=>(σ[i]?).bind id
def PF (X:Cx) (ifs:List Expr) (t:TT):Prop :=
 ∀ (pins:List (Addr×Obj)) (s:Shared) (σ:St) (H:Hp) (Q:Bool->Hp->Prop),Inv X pins σ H s->t σ H Q ->
  wpAny (model X.prog X.w) X.A (forIn ifs true λc r=>if r=true then do let ok <-isTrue c X.env (eval c X.env);pure (ForInStep.yield ok) else pure (ForInStep.yield r)) (TP X pins σ Q) X.xe s
theorem Nn:PF X [] (λ_ H Q=>Q true H):=λ_ _ _ H _ I h=>wpAny_tests_nil ⟨H,I,h⟩
theorem No {c:Expr}{t:TT}(h:PT X c t):PF X [c] t:=λpins s σ H Q I hw=>wpAny_tests_one (h pins s σ H Q I hw)
def Sb (J:It) (g:TG) (tf:TT) (te:TE) (D:Addr) (Q:VK) (σ0:St) (H0:Hp):Prop :=
 ∃ W:Nat->Nat->St->Hp->Prop,(∃ m,W 0 m σ0 H0) /\ ∀ i m σ' H',W i m σ' H' ->
  (J.stop i H' /\ Q (.ref D) H') \/ (J.go i H' /\ ∃ N:St->Hp->Prop,(∀ σ2 H2,N σ2 H2->∃ m',m'<m /\ W (i+1) m' σ2 H2) /\ ∀ x H2,J.vm i H' x H2->g x σ' H2 λσ2 H3=>tf σ2 H3 λb H4 =>
   if b=true then te σ2 H4 λy H5=>∃ ys,H5 D=some (.lst ys) /\ ys.length<sizeLine /\ N σ2 (upd H5 D (.lst (ys++[y]))) else N σ2 H4)
def Sd (src:List (Option Nat)) (wi:TI) (g:TG) (tf:TT) (te:TE):TE:=λσ H Q=>wi σ H λJ H1=>∀ D,H1 D=none->Sb J g tf te D Q (rq src σ) (upd H1 D (.lst []))
noncomputable abbrev ub (P:Program) (w:World) (A:Around) (env:Env) (R:Result->Shared->Prop):Value->Shared->Prop :=
 notedBy (model P w) A env λx z=>R (.error x) z
noncomputable abbrev Wj (ifs:List Expr) (env:Env):Sem Bool :=
 forIn ifs true λc r=>if r=true then do let ok <-isTrue c env (eval c env);pure (ForInStep.yield ok) else pure (ForInStep.yield r)
theorem AX {elt:Expr}{scope:Scope}{it acc:Value}{env:Env}
 (J:Nat->Shared->Prop) (N:Value->Nat->Shared->Prop)
 (hN:∀ v n z,N v n z->wpAny (model prog w) A (letOwnedTupleGo tg it v) (λ_ z1 =>
  wpAny (model prog w) A (assign tg env v) (λ_ z2 =>
  wpAny (model prog w) A (Wj ifs env) (λb z3 =>
   if b=true then wpAny (model prog w) A (eval elt env) (λy z4 =>
    wpAny (model prog w) A (call (.builtin "list.append") [acc,y])
     (λ_ z5=>∃ k,k<n /\ J k z5) (ub prog w A env R) z4) (ub prog w A env R) z3
   else ∃ k,k<n /\ J k z3)
   (ub prog w A env R) z2) (ub prog w A env R) z1) (ub prog w A env R) z)
 (go:∀ n z,J n z->wpAny (model prog w) A (pyNext it)
  (λr z1=>match r with|none=>R (.ok .next) z1|some v=>N v n z1) (ub prog w A env R) z)
 (n:Nat) (h:J n s) :
 codeAny (model prog w) A (.compLoop (.ListComp elt [⟨tg,iter,ifs,0⟩] scope pos) 0 it acc env) R s:=by
 refine codeAny_loop rfl J (λk z hz=>?_) n h;show wpAny _ A (Sem.onRaise (compTurn _ 0 it acc env) _) _ _ z;refine wpAny_noted ?_;rw[compTurn_list];refine aa (y9 (aa ?_));refine eW (go k z hz) (λr z1 h1=>?_) λ_ _ q=>q;cases r with
 |none=>exact ah h1
 | some v =>
   refine aa (eW (hN v k z1 h1) (λ_ z2 h2=>aa ?_) λ_ _ q=>q);refine eW h2 (λ_ z3 h3=>aa ?_) λ_ _ q=>q;refine eW h3 (λb z4 h4=>?_) λ_ _ q=>q;cases b with
   |false=>exact ah ⟨rfl,h4⟩
   | true =>
     refine aa (aa (eW h4 (λy z5 h5=>aa ?_) λ_ _ q=>q));exact eW h5 (λ_ z6 h6=>ah (ah ⟨rfl,h6⟩)) λ_ _ q=>q
theorem rn.cells {N:List Str}{src:List (Option Nat)}{scope:Scope}(S:rn X N src scope) (ok:X.Ok):∀ y∈scope.names,y.2=.free->∃ c,X.env.cells.lookup y.1=some c :=
 λy hy hf=>ok.has y.1 (S.has y hy hf)
theorem Bw {cells:List (Str×Addr)}{x:Str}{c:Addr}:∀ (names:List (Str×NameKind)) (acc:List (Str×Addr)),(x,c)∉acc->(x,c)∈dg cells names acc->(x,NameKind.free)∈names
 |[],_,h,e=>absurd e h
 | (n,k)::r,acc,h,e=>by
   by_cases hx:x=n /\ k=.free
   ·obtain⟨rfl,rfl⟩:=hx;exact a8
   ·refine aV _ (Bw r _ ?_ e);by_cases hk:(k==NameKind.free)=true
    ·rw[if_pos hk];cases q:cells.lookup n with
     |none=>exact h
     | some a =>
       intro z;rcases aY.mp z with z|z
       ·exact hx ⟨(Prod.mk.inj z).1,eq_of_beq hk⟩
       ·exact h z
    ·rw[if_neg hk];exact h
theorem Gn {src:List (Option Nat)}{scope:Scope}{s':Shared} 
 (S:rn X N src scope) (I:Inv X pins σ H s) (EU:∀ b∈fp,nP X pins H b /\ b<s.heap.objs.size) (hh:s'={ s with heap:=pushCells (s.heap.push { cls:=.type "dict",data:=.dict #[] }) scope.names }) :
 Inv (X.comp N scope (cellsFrom (s.heap.objs.size+1) scope.names (dg X.env.cells scope.names [])) s H s.heap.objs.size fp) [] (rq src σ) H s':=by
 subst hh;have hk:∀ b o,s.heap.get? b=some o->(pushCells (s.heap.push { cls:=.type "dict",data:=.dict #[] }) scope.names).get? b=some o:=λb o e=>zk _ _ b o (aG _ e);have bC:(pushCells (s.heap.push { cls:=.type "dict",data:=.dict #[] }) scope.names).Ns s.heap.objs.size (λ_=>none):=(Heap.Ns.new s.heap (.type "dict")).keeps (zk _ _);have ok:=cellsFrom_ok scope.names (s.heap.push { cls:=.type "dict",data:=.dict #[] }) (s.heap.objs.size+1) [] ⟨λ_ _ hm=>(nomatch hm),List.Pairwise.nil⟩ (by rw[pz];exact ag _);rw[pz]at ok;have split:∀ x c,(cellsFrom (s.heap.objs.size+1) scope.names (dg X.env.cells scope.names [])).lookup x=some c->(cellsFrom (s.heap.objs.size+1) scope.names []).lookup x=some c \/ (dg X.env.cells scope.names []).lookup x=some c:=λx c e=>by
  rw[il,ju]at e;cases q:(cellsFrom (s.heap.objs.size+1) scope.names []).lookup x with
  |some a=>rw[q]at e;exact .inl e
  |none=>rw[q]at e;exact .inr e
 have own:∀ x c,(cellsFrom (s.heap.objs.size+1) scope.names []).lookup x=some c->s.heap.objs.size<c /\ (pushCells (s.heap.push { cls:=.type "dict",data:=.dict #[] }) scope.names).IsCell c none:=λx c e=>by
  obtain⟨a,b⟩:=ok.empty x c (eX e);exact⟨b,a⟩
 have Se:∀ x,scope.names.lookup x=some .free->(cellsFrom (s.heap.objs.size+1) scope.names (dg X.env.cells scope.names [])).lookup x=(dg X.env.cells scope.names []).lookup x:=λx e=>by
  rw[il,ju];cases q:(cellsFrom (s.heap.objs.size+1) scope.names []).lookup x with
  |some a=>exact absurd (oC S.nk (eX e) (md _ _ (eX q))) (by decide)
  |none=>rfl
 have low:∀ x c,X.env.cells.lookup x=some c->c<s.heap.objs.size:=λx c e=>by
  obtain⟨v,o,ho,_⟩:=I.cell x c e;exact aP ho
 have sub:=Bu (cells:=X.env.cells) scope.names [] (λx c e=>by simp at e);have Wk:∀ x,((relabel scope X.env).names.lookup x=some .cell \/ (relabel scope X.env).names.lookup x=some .free)->scope.names.lookup x=some .free \/ scope.names.lookup x=some .cell:=λx hx=>by
  have go:∀ k',(k'=NameKind.cell \/ k'=NameKind.free)->(relabel scope X.env).names.lookup x=some k'->scope.names.lookup x=some .free \/ scope.names.lookup x=some .cell:=λk' nC e=>by
   obtain⟨k,e1,q⟩:=lj (env:=X.env) scope.names x k' e;rcases q with q|⟨q,_⟩
   ·subst q;rcases nC with z|z
    ·subst z;exact .inr e1
    ·subst z;exact .inl e1
   ·subst q;exact .inl e1
  exact hx.elim (go _ (.inl rfl)) (go _ (.inr rfl))
 have Sf:∀ x,scope.names.lookup x=some .free->∃ c,(dg X.env.cells scope.names []).lookup x=some c /\ X.env.cells.lookup x=some c:=λx e=>by
  have hm:=eX e;obtain⟨c,e1⟩:=Bv (cells:=X.env.cells) scope.names [] x (.inr ⟨hm,S.cells I.ok (x,.free) hm rfl⟩);exact⟨c,e1,sub x c e1⟩
 refine⟨⟨I.ok.mod,?_,I.ok.glob,I.ok.blt,ag _,λx y c e1 e2=>?_,λx hx=>?_,λx c e=>?_,I.ok.hd,I.ok.frames,.inl rfl,λb hb=>?_,I.bs,bu I.ok.pI I.sz,λb o e hb=>?_,λb hb=>?_,I.stack,I.Ei⟩,
  rfl,I.bare,Un.kept hk,⟨_,bC,λj x v e1 e2 e3=>?_⟩,λx c e=>?_,I.ai.fresh (ag _),λx c e=>?_,λp hp=>absurd (show p∈([]:List (Addr×Obj)) from hp) (by simp),I.ai.kept hk,?_⟩
 ·exact S.kind
 ·rcases split x c e1 with q1|q1<;>rcases split y c e2 with q2|q2
  ·exact Kq ok.apart (eX q1) (eX q2)
  ·exact absurd (tm (own x c q1).1 (low y c (sub y c q2))) (kC _)
  ·exact absurd (tm (own y c q2).1 (low x c (sub x c q1))) (kC _)
  ·exact I.ok.inj x y c (sub x c q1) (sub y c q2)
 ·rcases Wk x hx with k|k
  ·obtain⟨c,e1,_⟩:=Sf x k;exact⟨c,(Se x k).trans e1⟩
  ·obtain⟨c,e1⟩:=ou (n:=s.heap.objs.size+1) k;refine⟨c,?_⟩;show (cellsFrom (s.heap.objs.size+1) scope.names (dg X.env.cells scope.names [])).lookup x=some c;rw[il,ju,e1]
 ·intro hl;rcases split x c hl with q|q
  ·exact eu (own x c q).1
  ·have k:scope.names.lookup x=some .cell:=of_decide_eq_true e;have m:(x,NameKind.free)∈scope.names:=Bw _ _ (by simp) (eX q);exact absurd (oC S.nk (eX k) m) (by decide)
 ·obtain⟨f,hl⟩:=EU b hb;refine⟨cU hl,λx c e=>?_⟩;rcases split x c e with q|q
  ·exact wB (tm hl (own x c q).1)
  ·exact f.2.2.2.2.1 x c (sub x c q)
 ·obtain⟨f,_⟩:=EU b hb;obtain⟨_,_,_,f4,_⟩:=f;rcases f4 with z|z
  ·exact I.ok.tU b o e z
  ·have q:=(I.ok.bs b o e).1;exact absurd (cG (aP q) z) (kC _)
 ·obtain⟨f,_⟩:=EU b hb;intro hz;rcases aY.mp (I.tW b hz) with e|e
  ·exact f.2.1 e
  ·exact f.2.2.1 e
 ·have hs:∃ i,src[j]?=some (some i) /\ σ[i]?=some (some v):=by
   have qD:(src.map λo=>o.bind λi=>(σ[i]?).bind id)[j]?=some (some v):=e2;rw[qh]at qD;cases q:src[j]? with
   |none=>rw[q]at qD;cases qD
   | some o =>
     rw[q]at qD;cases o with
     |none=>cases qD
     | some i =>
       refine⟨i,rfl,?_⟩;have xG:(σ[i]?).bind id=some v:=Option.some.inj qD;cases z:σ[i]? with
       |none=>rw[z]at xG;cases xG
       | some o' =>
         rw[z]at xG;have:o'=some v:=xG;rw[this]
  obtain⟨i,Wl,hσ⟩:=hs;obtain⟨hN,di⟩:=S.Wi j i x Wl e1;have Sg:=S.has (x,.free) (eX di) rfl;obtain⟨m,_,hl⟩:=I.loc;obtain⟨u,r,lk⟩:=hl i x v hN hσ (.inr Sg);refine⟨u,r,?_⟩;rcases lk with⟨k,_⟩|⟨_,c,ec,xl⟩
  ·rcases Sg with z|z
   ·rw[z]at k;cases k
   ·rw[z]at k;cases k
  ·obtain⟨c',kN,qD⟩:=Sf x di;have:c'=c:=by rw[ec]at qD;exact(Option.some.inj qD).symm
   subst this;refine .inr ⟨?_,c',(Se x di).trans kN,?_⟩
   ·exact jt (env:=X.env) scope.names x di
   ·obtain⟨o,ho,hd⟩:=xl;exact⟨o,hk _ _ ho,hd⟩
 ·rcases split x c e with q|q
  ·exact⟨none,(own x c q).2⟩
  ·obtain⟨v,o,ho,hd⟩:=I.cell x c (sub x c q);exact⟨v,o,hk _ _ ho,hd⟩
 ·rcases split x c e with q|q
  ·exact I.ai.fresh (eu (own x c q).1)
  ·exact I.hJ x c (sub x c q)
 ·show (rq src σ).length=N.length;unfold rq;rw[aL];exact S.Wh
theorem J9 {src:List (Option Nat)}{elt:Expr}{scope:Scope}{wi:TI}{g:TG}{tf:TT}{te:TE}
 (hc:X.calm=true) (S:rn X N src scope) (hi:PI X tg iter wi)
 (hg:∀ cl s H C fp,PG (X.comp N scope cl s H C fp) tg g) (hf:∀ cl s H C fp,PF (X.comp N scope cl s H C fp) ifs tf) (he:∀ cl s H C fp,PE (X.comp N scope cl s H C fp) elt te)
 (hs:∀ x,foldedSetIterable iter X.env x=pure x:=by intro _;rfl):PE X (.ListComp elt [⟨tg,iter,ifs,0⟩] scope pos) (Sd src wi g tf te):=by
 intro pins s σ H Q I h;rw[eval_ListComp];refine wpAny_comprehension_free (use:=none) rfl hs (Cp (S.cells I.ok)) S.kind S.names (ao (hi pins s σ H _ I h) λxv s1 h1=>ao h1 λEp s2 h2=>?_);obtain⟨it,fp,tn,J,H2,e,I2,T,xp,f2,hW⟩:=h2;subst e;refine qT ?_;generalize hD:s2.heap.objs.size=D;have Wm:H2 D=none:=I2.ai.fresh (tj hD);have I3:Inv X pins σ (upd H2 D (.lst [])) { s2 with heap:=s2.heap.push { cls:=.type "list",dict:=none,data:=.seq ([]:List Value).toArray } }:=by
  subst hD;exact I2.laid (t':=s2.toks) (λb u e=>aG _ e) (ag _) ⟨k8 _,[],0,.nil,bP _ rfl⟩
 obtain⟨W,⟨m0,w0⟩,turn⟩:=hW D Wm;have up:∀ b o,s2.heap.get? b=some o->(s2.heap.push { cls:=.type "list",dict:=none,data:=.seq ([]:List Value).toArray }).get? b=some o:=λb u e=>aG _ e;have Wn:=T.obj _ _ xp;have vp:tn 0 (s2.heap.push { cls:=.type "list",dict:=none,data:=.seq ([]:List Value).toArray }):=T.keep _ _ _ xp λb _ o e=>up b o e;have Sh:∀ b∈fp,b<s2.heap.objs.size:=λb hb=>by obtain⟨o,e,_⟩:=Wn b hb;exact aP e
 have f3:∀ b∈fp,nP X pins (upd H2 D (.lst [])) b:=λb hb=>⟨by rw[fq (by rw[<-hD];exact cU (Sh b hb))];exact(f2 b hb).1,(f2 b hb).2⟩;generalize Wo:({ s2 with heap:=s2.heap.push { cls:=.type "list",dict:=none,data:=.seq ([]:List Value).toArray } }:Shared)=s3 at I3 ⊢;have Si:s3.heap=s2.heap.push { cls:=.type "list",dict:=none,data:=.seq ([]:List Value).toArray }:=by rw[<-Wo]
 rw[<-Si]at vp;have Wq:∀ b∈fp,b<s3.heap.objs.size:=λb hb=>by rw[Si,pz];exact Nat.lt_succ_of_lt (Sh b hb)
 generalize aaA:upd H2 D (.lst [])=H3 at I3 f3 w0;refine Cq ?_;generalize Sj:pushCells (s3.heap.push { cls:=.type "dict",data:=.dict #[] }) scope.names=h₁;have k1:∀ b o,s3.heap.get? b=some o->h₁.get? b=some o:=λb o e=>by rw[<-Sj];exact zk _ _ b o (aG _ e)
 have IY:=Gn S I3 (λb hb=>⟨f3 b hb,Wq b hb⟩) (s':={ s3 with heap:=h₁ }) (by rw[Sj]);have Sk:tn 0 h₁:=T.keep _ _ _ vp λb _ o e=>k1 b o e;generalize sf:cellsFrom (s3.heap.objs.size+1) scope.names (dg X.env.cells scope.names [])=cl at IY ⊢;generalize hC:s3.heap.objs.size=C at IY ⊢;have EV:∀ {H':Hp},(∀ b∈fp,H' b=none)->∀ b∈fp,nP (X.comp N scope cl s3 H3 C fp) [] H' b:=λhn b hb=>by
  refine⟨hn b hb,?_,?_,.inl hb,?_,λp hp=>absurd (show p∈([]:List (Addr×Obj)) from hp) (by simp)⟩
  ·exact(IY.ok.vi b hb).1
  ·exact IY.ok.tV b hb
  ·intro x c e z;exact(IY.ok.vi b hb).2 x c e z
 have fin:∀ (σ':St) (H':Hp) (s':Shared),Inv (X.comp N scope cl s3 H3 C fp) [] σ' H' s'->∀ h',Heap.SameBut C s'.heap h'->Inv X pins σ H' { s' with heap:=h' }:=λσ' H' s' I' h' EW=>by
  have Sl:H' C=none:=I'.free;have kp:∀ b o,b≠C->s'.heap.get? b=some o->h'.get? b=some o:=λb o hb e=>EW.extBut b o hb e;have Wr:s3.heap.get? C=none:=by rw[<-hC];exact KY (ag _)
  have qX:∀ b o,s3.heap.get? b=some o->b≠C:=λb o e z=>by rw[z,Wr]at e;cases e
  have U:=I'.base;refine I3.Rp (s':={ s' with heap:=h' }) (ch:=fp) I'.os ⟨λb o e n hb hx=>kp b o (qX b o e) (U.keep b o e n hb hx),λb o e n hb hx=>?_,U.free,λb o e hx=>?_,U.kH,U.hG,U.kI⟩ ?_ I'.bare λb hb=>?_
  ·obtain⟨sl,e1⟩:=U.slot b o e n hb hx;exact⟨sl,kp b _ (qX b o e) e1⟩
  ·obtain⟨o',e1⟩:=U.there b o e hx;exact⟨o',kp b o' (qX b o e) e1⟩
  ·intro b ob e;refine(I'.ai b ob e).dX (λc w' cJ q=>kp c w' (λz=>?_) q) (λ_ q=>q) λ_ _ q=>q;rcases cJ with z1|z1
   ·rw[<-z1,z,Sl]at e;cases e
   ·rw[z,Sl]at z1;cases z1
  ·exact⟨(f3 b hb).2.2.2.1,(f3 b hb).2.1,λx c e=>(f3 b hb).2.2.2.2.1 x c e,(f3 b hb).2.2.2.2.2⟩
 have loop:∀ s4:Shared,s4={ s3 with heap:=h₁ } ->
  codeAny (model X.prog X.w) X.A (.compLoop (.ListComp elt [⟨tg,iter,ifs,0⟩] scope pos) 0 (.ref it) (.ref D) (compEnvC scope cl C X.env)) (compPost (model X.prog X.w) X.A X.xe none (EP X pins σ Q) (.ref D) C) s4:=by
  rintro s4 rfl;refine AX (λn s'=>∃ i σ' H',Inv (X.comp N scope cl s3 H3 C fp) [] σ' H' s' /\ tn i s'.heap /\ (∀ b∈fp,H' b=none) /\ W i n σ' H') _ (λ_ _ _ q=>q) ?_ m0 ⟨0,_,H3,IY,Sk,λb hb=>(f3 b hb).1,w0⟩;rintro n s5 ⟨i,σ5,H5,I5,tY,xq,w5⟩;have nT:∀ {α:Type}{t:Sem α}{Q1:α->Shared->Prop}{E1:Value->Shared->Prop}{ss:Shared},wpAny (model X.prog X.w) X.A t Q1 (λ_ _=>False) ss->wpAny (model X.prog X.w) X.A t Q1 E1 ss:=λhw=>eW hw (λ_ _ q=>q) λ_ _ z=>False.elim z;rcases turn i n σ5 H5 w5 with⟨stop,q5⟩|⟨go,NN,hN,step⟩
  ·refine nT (ao (T.done (X.comp N scope cl s3 H3 C fp) rfl rfl rfl hc i [] s5 σ5 H5 (λ_ _=>False) I5 (EV xq) tY stop) λr s6 ⟨hr,I6⟩=>?_);subst hr;obtain⟨m6,Ws,_⟩:=I6.loc;exact⟨m6,Ws,λh' EW=>⟨.ref D,H5,fin σ5 H5 s6 I6 h' EW,rfl,q5⟩⟩
  ·refine nT (ao (T.item (X.comp N scope cl s3 H3 C fp) rfl rfl rfl hc i [] s5 σ5 H5 (λ_ _=>False) I5 (EV xq) tY go) λr s6 ⟨u,hr,h6⟩=>?_);subst hr;refine nT (ao h6 λ_ s7 ⟨x,H7,I7,r7,y7,EX,Wt⟩=>?_);have Wu:=I7.pinned (EV Wt) (T.obj _ _ EX);refine nT (ao (hg cl s3 H3 C fp _ s7 σ5 H7 x u _ Wu r7 (step x H7 y7)) λ_ s8 ⟨σ8,H8,I8,q8⟩=>?_);refine nT (ao (hf cl s3 H3 C fp _ s8 σ8 H8 _ I8 q8) λb s9 ⟨H9,I9,q9⟩=>?_);have again:∀ {σ9:St}{HA:Hp}{sA:Shared},Inv (X.comp N scope cl s3 H3 C fp) ([]++vo fp s7.heap) σ9 HA sA->NN σ9 HA->∃ m,m<n /\ ∃ i σ' H',Inv (X.comp N scope cl s3 H3 C fp) [] σ' H' sA /\ tn i sA.heap /\ (∀ b∈fp,H' b=none) /\ W i m σ' H':=λ{σ9 HA sA} IA nA=>by
    obtain⟨m',hm,wA⟩:=hN σ9 HA nA;refine⟨m',hm,i+1,σ9,HA,IA.xo,T.keep _ _ _ EX λb hb o e=>(IA.pin (b,o) (kE _ (kE _ (jr hb e)))).1,λb hb=>?_,wA⟩;obtain⟨o,e,d⟩:=T.obj _ _ EX b hb;exact(IA.pin (b,o) (kE _ (kE _ (jr hb e)))).2.1
   cases b with
   | false =>
     rw[if_neg (by decide)]at q9;rw[if_neg (by decide)];exact again I9 q9
   | true =>
     rw[if_pos rfl]at q9;rw[if_pos rfl];refine nT (ao (he cl s3 H3 C fp _ s9 σ8 H9 _ I9 q9) λyv sA ⟨y,HA,IA,rA,ys,Wv,Ww,nA⟩=>?_);refine nT (ao (l8 _ sA σ8 HA (.ref D) [y] (.ref D) [yv] (λ_ HB=>NN σ8 HB) IA rfl (.cons rA .nil) ⟨D,ys,y,rfl,rfl,Wv,Ww,nA⟩) λr sB hB=>?_);obtain⟨_,HB,IB,_,nB⟩:=hB;exact again IB nB
 exact codeAny_compStart_list (loop _ rfl) (T.self _ 0 _ _ _ Sk (loop _ rfl))
open PySem.W PySem.Builtin PySem.Builtin.ObjectAttr PySem.Builtin.Getset_descriptor
section
variable {x : Addr}
def dj (x C:Addr) (h:Heap):Prop:=∃ ox,h.get? x=some ox /\ ox.cls=.ref C
theorem dj.type {h:Heap}(I:dj x C h):Looks M h (typeOf (.ref x)) (.ref C):=by
 obtain⟨ox,e,hc⟩:=I;exact hc▸(Looks.ld e).andThen .now
theorem Go {h:Heap}(X:K.In h) {a g:Value}{name:Str}(ha:findIn K (.ref C) name=some (some a)) (hg:specialIn K a "__get__"=some (some g)) (ht:takesIn K a=some true) :
 Looks M h (find (.ref x) (.ref C) name) (.bind g a):=by
 have l1:=zZ (M:=M) X ha;have l2:Looks M h (getOf (some a)) (some g):=looks_specialIn X hg;have l3:=looks_takesIn (M:=M) X ht;have l4:Looks M h (dataDescriptor? (some a) (some g)) (some (g,a)):=l3.andThen .now;exact l1.andThen (l2.andThen (l4.andThen (Looks.tag .now)))
theorem La {tp:Value}(X:K.In s.heap) (I:dj x C s.heap) (hm:mroIn K C (.type "object")=some true) (q:R (.ok (.ret (.ref C))) s) :
 codeAny (model prog w) A (.call (.builtin "getset_descriptor.__get__") ⟨[.builtin "object.__class__",.ref x,tp],[]⟩) R s:=by
 obtain⟨hh,g,dr,t,os⟩:=s;have l0:=I.type (M:=model prog w);have l1:=z7 (M:=model prog w) X hm;refine KC KF.slot_gs.plain KF.entry_gs
  (KF.slot_gs.check _ _ _ _ _ _ _ _ KF.type_class (KF.args_gs _ _ _) ?_)
 unfold Builtin.«getset_descriptor.__get__» descrGet;rw[dga_obj];refine aa (ah ?_);unfold descrGetter descrCheckInstance descrNameAndClass;unfold isInstance;simp only[KF.owner_class]
 repeat (any_goals (first|assumption|with_reducible refine l0.at ?_|with_reducible refine l1.at ?_|wp_step))
 refine⟨Q4 _ (by decide +kernel),zl KF.entry_class ?_⟩;unfold Builtin.«object.__class__»;unfold shownTypeOf
 repeat (any_goals (first|assumption|with_reducible refine l0.at ?_|wp_step))
structure si (K:Frag) (C:Addr):Prop where
 ga:findIn K (.ref C) "__getattribute__"=some (some (.builtin "BaseException.__getattribute__"))
 gt:findIn K (.ref C) "__getattr__"=some none
 cl:findIn K (.ref C) "__class__"=some (some (.builtin "object.__class__"))
 gs:specialIn K (.builtin "object.__class__") "__get__"=some (some (.builtin "getset_descriptor.__get__"))
 tk:takesIn K (.builtin "object.__class__")=some true
 mo:mroIn K C (.type "object")=some true
 mb:mroIn K C (.type "BaseException")=some true
 cd:(clsIn K C).isSome=true
theorem Gp {h:Heap}{g:Array GenState}{d:Drawn}{t:Nat}{os:OsState}{Sn:Value}{Q:Unit->Shared->Prop}(T:si K C) (X:K.In h) (I:dj x C h)
 (hq:Q () ⟨h,g,d,t,os⟩):wpAny M A (checkBuiltinCall "BaseException.__getattribute__" ⟨[.ref x,Sn],[]⟩) Q E ⟨h,g,d,t,os⟩:=by
 have hk:builtinKind "BaseException.__getattribute__"=some .slot:=by decide +kernel
 have Wx:splitId "BaseException.__getattribute__"=some ("BaseException", "__getattribute__"):=by decide +kernel
 have ha:=F.args_bexc_ga (.ref x) Sn;have L0:=I.type (M:=M);have L1:=z7 (M:=M) X T.mb;have LI:Looks M h (isInstance (.ref x) (.type "BaseException")) true:=L0.andThen L1;simp only[checkBuiltinCall,hk,Wx];refine aa (LI.at ?_)
 repeat (any_goals (first|assumption|wp_step))
theorem Gq {tk:Tok}{Q:Fin->Shared->Prop}{h:Heap}{g:Array GenState}{d:Drawn}{t:Nat}{os:OsState}(T:si K C) (X:K.In h) (I:dj x C h) (hq:Q (.done (.ret (.ref C))) ⟨h,g,d,t,os⟩) :
 wpAny (model prog w) A (Builtin.«object.__getattribute__» ⟨[.ref x,.str "__class__" tk],[]⟩) Q E ⟨h,g,d,t,os⟩:=by
 have L0:=I.type (M:=model prog w);have L1:=Go (x:=x) (M:=model prog w) X T.cl T.gs T.tk;unfold Builtin.«object.__getattribute__»;refine aa (ah ?_)
 repeat (any_goals (first|assumption|with_reducible refine L0.at ?_|with_reducible refine L1.at ?_|wp_step))
 refine La X I T.mo ?_
 repeat (any_goals (first|assumption|wp_step))
theorem Lb {tk:Tok}{h:Heap}{g:Array GenState}{d:Drawn}{t:Nat}{os:OsState}(T:si K C) (X:K.In h) (I:dj x C h) (hq:R (.ok (.ret (.ref C))) ⟨h,g,d,t,os⟩) :
 codeAny (model prog w) A (.call (.builtin "BaseException.__getattribute__") ⟨[.ref x,.str "__class__" tk],[]⟩) R ⟨h,g,d,t,os⟩ :=
 KC F.excAttr_ValueError.ga.plain F.entry_bexc_ga (Gp T X I (Gq T X I hq))
theorem Np {Q:Option Value->Shared->Prop}(T:si K C) (X:K.In s.heap) (I:dj x C s.heap) (hq:Q (some (.ref C)) { s with toks:=s.toks+1 }) :
 wpAny (model prog w) A (getAttr? (.ref x) "__class__") Q E s:=by
 obtain⟨h,g,d,t,os⟩:=s;have L0:=I.type (M:=model prog w);have L1:=zZ (M:=model prog w) X T.ga;have L2:=zZ (M:=model prog w) X T.gt;have f3:=F.excAttr_ValueError.ga.bind (.ref x);have aaB:(false&&onTheHeap (Value.builtin "BaseException.__getattribute__"))=false:=rfl;have Wy:(Value.builtin "BaseException.__getattribute__"==Value.builtin "object.__getattribute__")=false:=by decide +kernel
 have aaC:(onTheHeap (Value.ref C)&&Value.builtin "BaseException.__getattribute__"==Value.builtin "object.__getattribute__")=false:=by rw[Wy];rfl
 unfold getAttr? getAttrBy?;refine aa (wpAny_mkText (aa (wx ?_)))
 repeat (any_goals (first|assumption|with_reducible refine L0.at ?_|with_reducible refine L1.at ?_|with_reducible refine L2.at ?_|wp_step))
 refine Lb T X I ?_
 repeat (any_goals (first|assumption|wp_step))
theorem Gr (T:si K C):KitX K (.ref x) (.ref C) (dj x C) where
 ty:=λ_ _ _ I=>I.type
 it:=λ_ _ X _=>by
  obtain⟨Wz,qy⟩:=Option.isSome_iff_exists.mp T.cd;unfold clsIn at qy;split at qy
  ·rename_i c' d' WA tX ho;intro A' Q' E' s' k q;unfold isType loadHead;exact aa (Kp (k _ _ (X _ _ ho)) (ah q))
  ·cases qy
 ne:=λh tp dd its n sl X WB=>by
  obtain⟨Wz,qy⟩:=Option.isSome_iff_exists.mp T.cd;refine Bool.eq_false_iff.mpr λq=>?_;have e:C=tp:=Value.ref.inj (beq_iff_eq.mp q);subst e;unfold clsIn at qy;split at qy
  ·rename_i c' d' WA tX ho;have z:=(X _ _ ho).symm.trans WB;cases z
  ·cases qy
 ca:=λX I k=>Np T X I k
end
def pP (B:Heap) (l:List Env) (ea:Addr) (cls a0:Value) (h:Heap):Prop :=
 Heap.FlyingW B l ea cls a0 h \/ (B.StaysIn h /\ B.get? ea=none /\ h.FunFrames B l /\
  h.get? ea=some { cls:=cls,data:=.fields #[a0,.none,.none,.none,.bool false,.none] })
theorem pP.stays {B:Heap}{l:List Env}{ea:Addr}{cls a0:Value}{h:Heap}(x:pP B l ea cls a0 h):B.StaysIn h:=x.elim (λz=>z.1) λz=>z.1
theorem pP.EY {B:Heap}{l:List Env}{ea:Addr}{cls a0:Value}{h:Heap}(x:pP B l ea cls a0 h):B.get? ea=none:=x.elim (λz=>z.2.1) λz=>z.2.1
section
variable {B : Heap} {env : Env} {L ea : Addr} {cls a0 : Value} {Q : Unit -> Shared -> Prop}
theorem Gs (di:A.frames=some (env::outer)) (hf:env.frame=some L) (hx:pP B (env::outer) ea cls a0 s.heap)
 (q:∀ h',pP B outer ea cls a0 h'->s.heap.UpToSlots h'->Q () { s with heap:=h' }):wpAny M A (leaving env (.ref ea)) Q E s:=by
 rcases hx with hx|⟨x1,x2,x3,x4⟩
 ·exact wpAny_leaves_onW di hf hx λh' y1 y2=>q h' (.inl y1) y2
 ·refine wpAny_leaving_firstW (a0:=a0) di x3 hf x4 x1 x2 rfl rfl rfl λh' y=>?_;obtain⟨k1,⟨_,_,k2⟩,k3,k4⟩:=y;exact q h' (.inl ⟨k1,x2,k2,k3⟩) k4
theorem Ld (di:A.frames=some (env::outer)) (hf:env.frame=some L) (hx:pP B (env::outer) ea cls a0 s.heap)
 (q:∀ h',Heap.HeldW B (env::outer) ea cls a0 L h'->s.heap.UpToSlots h'->Q () { s with heap:=h' }):wpAny M A (noteFrame (.ref ea) env) Q E s:=by
 rcases hx with hx|⟨x1,x2,x3,x4⟩
 ·exact wpAny_looks_onW di hf hx q
 ·unfold noteFrame;simp only[hf];have h1:(#[a0,.none,.none,.none,.bool false,.none]:Array Value)[1]?=some Value.none:=rfl;refine aa (dW x4 rfl h1 ?_);rw[if_neg (show ¬ ((Value.none != Value.none)=true) by decide)];refine wpAny_entryW di x3 hf x4 x1 x2 rfl (by show 1<6;decide) (by rfl) λh' y=>?_;obtain⟨k1,k2,k3,k4⟩:=y;exact q h' ⟨k1,x2,k2,k3⟩ k4
end
def bK (P:Program) (w:World):hZ:=λouter H s E e s'=>∃ (ea C:Addr) (a0:Value) (B:Heap) (H':Hp),
 e=.ref ea /\ s'.os=s.os /\ AllBare s'.gens /\ Un (cH outer) [] H H' s.heap s'.heap /\ bJ P w H' s'.heap /\ pP B outer ea (.ref C) a0 s'.heap /\
 (∀ b u o,H' b=some u->s'.heap.get? b=some o->B.get? b=some o) /\ (∀ b o,s.heap.get? b=some o->b∉cH outer->∃ o',B.get? b=some o') /\ E (.ref C) none H'
def XE (X:Cx) (E:XK) (e:Value) (s':Shared):Prop:=∃ (σ':St) (H':Hp) (ea C:Addr) (a0:Value) (B:Heap),
 e=.ref ea /\ Inv X [] σ' H' s' /\ pP B X.stack ea (.ref C) a0 s'.heap /\ (∀ b u o,H' b=some u->s'.heap.get? b=some o->B.get? b=some o) /\
 (∀ p∈X.pn,B.get? p.1=some p.2) /\ (∀ b o,X.s₀.heap.get? b=some o->b∉X.fs->b∉X.ex->∃ o',B.get? b=some o') /\ E (.ref C) none H'
def rB (X:Cx) (E:XK):Prop:=∀ e s',XE X E e s'->X.xe e s'
theorem Cr {s':Shared}{B h:Heap}(I:Inv X pins σ H' s') (u:s'.heap.UpToSlots h) (st:B.StaysIn s'.heap) (sh:B.StaysIn h)
 (old:∀ b o,X.s₀.heap.get? b=some o->b∉X.fs->b∉X.ex->∃ o',B.get? b=some o'):Un X.fs X.ex X.H₀ H' X.s₀.heap h where
 keep:=λb o e n hb hx=>by
  obtain⟨o',q⟩:=old b o e hb hx;have q1:=I.base.keep b o e n hb hx;have q2:=st b o' q;rw[q1]at q2;cases q2;exact sh b _ q
 slot:=λb o e n hb hx=>by
  obtain⟨sl,q1⟩:=I.base.slot b o e n hb hx;obtain⟨_,WC,q2,d⟩:=I.ok.dY.mem hb;rw[e]at q2;cases q2;obtain⟨tX,q3⟩:=u b _ q1 d;exact⟨tX,q3⟩
 free:=I.base.free
 there:=λb o e hx=>by
  by_cases hb:b∈X.fs
  ·obtain⟨sl,q1⟩:=I.base.slot b o e (I.ok.nL b hb) hb hx;obtain⟨_,WC,q2,d⟩:=I.ok.dY.mem hb;rw[e]at q2;cases q2;obtain⟨tX,q3⟩:=u b _ q1 d;exact⟨_,q3⟩
  ·obtain⟨o',q⟩:=old b o e hb hx;exact⟨o',sh b o' q⟩
 kH:=I.base.kH
 hG:=I.base.hG
 kI:=I.base.kI
theorem C9 {h B:Heap}(k:bJ P w H' h) (sh:B.StaysIn h') (tr:∀ b u o,H' b=some u->h.get? b=some o->B.get? b=some o):bJ P w H' h':=λa o e =>
 (k a o e).dX (λb u hb q=>sh b u (hb.elim (λz=>tr b o u (z▸e) q) λz=>tr b _ u z q)) (λ_ q=>q) λ_ _ q=>q
theorem Db {s':Shared}{B h:Heap}(I:Inv X [] σ H' s') (u:s'.heap.UpToSlots h) (st:B.StaysIn s'.heap) (sh:B.StaysIn h)
 (tr:∀ b u o,H' b=some u->s'.heap.get? b=some o->B.get? b=some o) (pn:∀ p∈X.pn,B.get? p.1=some p.2)
 (old:∀ b o,X.s₀.heap.get? b=some o->b∉X.fs->b∉X.ex->∃ o',B.get? b=some o'):Inv X [] σ H' { s' with heap:=h }:=by
 have cellK:∀ c v,s'.heap.IsCell c v->h.IsCell c v:=λc v ⟨o,e,d⟩=>by
  obtain⟨sl,q⟩:=u c o e (λvs z=>by rw[d]at z;cases z);exact⟨_,q,d⟩
 refine⟨I.ok,I.os,I.bare,Cr I u st sh old,?_,λx c e=>?_,I.free,I.hJ,λp hp=>?_,C9 I.ai sh tr,I.len⟩
 ·obtain⟨m,hn,hl⟩:=I.loc;refine⟨m,u.ns hn,λi x v e1 e2 e3=>?_⟩;obtain⟨w',r,l⟩:=hl i x v e1 e2 e3;refine⟨w',r,?_⟩;rcases l with l|⟨k,c,e,z⟩
  ·exact .inl l
  ·exact .inr ⟨k,c,e,cellK c _ z⟩
 ·obtain⟨v,z⟩:=I.cell x c e;exact⟨v,cellK c v z⟩
 ·obtain⟨e,n,r⟩:=I.pin p hp;rw[pE]at hp;exact⟨sh _ _ (pn p hp),n,r⟩
theorem Inv.So (I:Inv X pins σ H s):Inv X [] σ H s:=I.El λp hp=>absurd hp (by simp)
theorem rB.passes {E:XK}(l:rB X E):Passes (bK X.prog X.w) X E:=by
 intro pins σ H s e s' I h;obtain⟨ea,C,a0,B,H',he,os,bare,un,ai,ex,tr,old,q⟩:=h;have I':Inv X pins σ H' s':=I.Rp os un ai bare (λb z=>absurd z (by simp));have EZ:∀ b,b≠X.env.locals->b∉X.fs->b∉cH X.stack:=λb h1 h2 z=>by
  rcases aY.mp (I.tW b z) with y|y
  ·exact h1 y
  ·exact h2 y
 refine l e s' ⟨σ,H',ea,C,a0,B,he,I'.So,ex,tr,λp hp=>?_,λb o e hb hx=>?_,q⟩
 ·obtain⟨e1,n1,n2,n3,_⟩:=I.pin p (kD _ hp);obtain⟨o',q1⟩:=old p.1 p.2 e1 (EZ _ n2 n3);have q2:=un.keep p.1 p.2 e1 n1 (EZ _ n2 n3) (by simp);have q3:=ex.stays _ _ q1;rw[q2]at q3;cases q3;exact q1
 ·obtain⟨o1,e1⟩:=I.base.there b o e hx;exact old b o1 e1 (EZ b (cU (cG (aP e) I.ok.above)) hb)
theorem By {scope:Scope}{cd:Value}{E:XK} :
 rB (kJ (bK P w) P w K mg base N qual scope f cd A outer s H E) E:=by
 intro e s' h;obtain⟨σ',H',ea,C,a0,B,he,I,ex,tr,pn,old,q⟩:=h;subst he;refine Gs I.ok.frames rfl ex λh' y1 y2=>?_;refine⟨ea,C,a0,B,H',rfl,I.os,I.bare,Cr I y2 ex.stays y1.stays old,C9 I.ai y1.stays tr,y1,λb u o e1 e2=>?_,λb o e1 e2=>old b o e1 e2 (by intro z;exact absurd (show b∈([]:List Addr) from z) (by simp)),q⟩;have hs:=(I.ai b u e1).lt;obtain⟨o1,q1⟩:∃ o1,s'.heap.get? b=some o1:=by
  rcases(I.ai b u e1) with _;cases z:s'.heap.get? b with
  |some o1=>exact⟨o1,rfl⟩
  | none =>
    exfalso
    have k:=I.ai b u e1;cases u with
    |lst xs=>obtain⟨_,_,_,_,e⟩:=k;rw[z]at e;cases e
    |tup xs=>obtain⟨_,_,_,ob,e,_⟩:=k;rw[z]at e;cases e
    |dK ay=>obtain⟨_,_,_,_,o,_,_,e,_⟩:=k;rw[z]at e;cases e
    |dT ay=>obtain⟨_,_,_,_,o,_,_,e,_⟩:=k;rw[z]at e;cases e
    |set S n=>obtain⟨o,_,_,_,e,_⟩:=k;rw[z]at e;cases e
    |ins C dx fs=>obtain⟨_,_,_,e,_⟩:=k;rw[z]at e;cases e
    |own y=>obtain⟨_,e⟩:=k;rw[z]at e;cases e
    |xd fs=>obtain⟨_,⟨_,_,_,e,_⟩,_⟩:=k;rw[z]at e;cases e
    |vg lo hi=>obtain⟨_,_,_,e⟩:=k;rw[z]at e;cases e
    |cW ob u=>obtain⟨e,_⟩:=k;rw[z]at e;cases e
    |qo ps=>have e:s'.heap.get? b=some _:=k;rw[z]at e;cases e
    |met f y=>have e:s'.heap.get? b=some _:=k;rw[z]at e;cases e
    |ext φ=>obtain⟨_,⟨_,e⟩,_⟩:=k;rw[z]at e;cases e
 have q2:=tr b u o1 e1 q1;have q3:=y1.stays b o1 q2;rw[e2]at q3;cases q3;exact q2
noncomputable abbrev E2:List Value:=[.type "ValueError",.type "Exception",.type "BaseException",.type "object"]
theorem Le {h:Heap}{Sq:List Value}{Sr:String}(X:K.In h) (q:excIn K C Sq Sr=true) :
 ∃ bm N nm qn bs hd sn sub ab col dd k0 k1 k2 k3 k5 mN,h.get? C=some (excClassObj nm qn C N bs bm hd sn sub ab col dd k0 k1 k2 k3 k5 Sr) /\ h.Ns N mN /\ mN "__init__"=none /\ OwnTail h Sq bm:=by
 unfold excIn at q;split at q
 ·rename_i dd cd sl ho;split at q
  ·rename_i C1 bm k0 k1 k2 k3 nw k5 mr hs;simp only[aw,beq_iff_eq,eA]at q;obtain⟨⟨⟨⟨⟨rfl,rfl⟩,z1⟩,z2⟩,z3⟩,z4⟩:=q;obtain⟨nm,bs,mro,ns,qn,hd,sn,sub,ab,col,del⟩:=cd;dsimp only at mr z1 z3 z4;subst mr z1;have es:sl=#[k0,k1,k2,k3,some (.builtin nw),k5]:=by
    cases sl;exact congrArg Array.mk hs
   subst es;exact⟨bm,ns,nm,qn,bs,hd,sn,sub,ab,col,dd,k0,k1,k2,k3,k5,_,X _ _ ho,
    .of_isNs (isNs_of_in X z3),nsMap_none_of_in X z3 z4,tail_of_in X z2⟩
  ·cases q
 ·cases q
theorem Lf {E:XK}{ea:Addr}(l:rB X E) (I:Inv X pins σ H s) (m:Heap.MadeExcOf s.heap h' ea (.ref C) vs) (q:E (.ref C) none H) :
 X.xe (.ref ea) { s with heap:=h' }:=by
 obtain⟨t,e1,e2,e3⟩:=m.there;have I':Inv X pins σ H { s with heap:=h' }:=I.kept (t':=s.toks) m.keeps;have WD:∀ env∈X.stack,∀ b,env.frame=some b->b∈cH X.stack:=λenv he b hb=>List.mem_filterMap.mpr ⟨env,he,hb⟩;have fr:h'.FunFrames (hideAll s.heap (cH X.stack)) X.stack:=by
  have f0:=funFrames_hide I.stack WD;exact f0.of_keeps λb o e _=>⟨o,m.keeps b o e,rfl⟩
 have nh:∀ b o,s.heap.get? b=some o->b∉cH X.stack->(hideAll s.heap (cH X.stack)).get? b=some o:=λb o e hb=>hideAll_get _ e hb;refine l _ _ ⟨σ,H,ea,C,.ref t,hideAll s.heap (cH X.stack),rfl,I'.So,.inr ⟨λb o e=>m.keeps b o (of_hideAll _ e),?_,fr,e1⟩,λb u o eb eo=>?_,λp hp=>?_,λb o e hb hx=>?_,q⟩
 ·cases z:(hideAll s.heap (cH X.stack)).get? ea with
  |none=>rfl
  |some o=>have:=of_hideAll _ z;rw[m.new]at this;cases this
 ·have hb:b∉cH X.stack:=λz=>by rw[I.Ei b z]at eb;cases eb
  cases z:s.heap.get? b with
  | some o1 =>
    have:=m.keeps b o1 z;rw[this]at eo;cases eo;exact nh b _ z hb
  |none=>exact absurd ((I.ai b u eb).lt) (by intro hl;exact absurd z (by
   intro z';have k:=I.ai b u eb;cases u with
   |lst xs=>obtain⟨_,_,_,_,e⟩:=k;rw[z]at e;cases e
   |tup xs=>obtain⟨_,_,_,ob,e,_⟩:=k;rw[z]at e;cases e
   |dK ay=>obtain⟨_,_,_,_,o,_,_,e,_⟩:=k;rw[z]at e;cases e
   |dT ay=>obtain⟨_,_,_,_,o,_,_,e,_⟩:=k;rw[z]at e;cases e
   |set S n=>obtain⟨o,_,_,_,e,_⟩:=k;rw[z]at e;cases e
   |ins C dx fs=>obtain⟨_,_,_,e,_⟩:=k;rw[z]at e;cases e
   |own y=>obtain⟨_,e⟩:=k;rw[z]at e;cases e
   |xd fs=>obtain⟨_,⟨_,_,_,e,_⟩,_⟩:=k;rw[z]at e;cases e
   |vg lo hi=>obtain⟨_,_,_,e⟩:=k;rw[z]at e;cases e
   |cW ob u=>obtain⟨e,_⟩:=k;rw[z]at e;cases e
   |qo ps=>have e:s.heap.get? b=some _:=k;rw[z]at e;cases e
   |met f y=>have e:s.heap.get? b=some _:=k;rw[z]at e;cases e
   |ext φ=>obtain⟨_,⟨_,e⟩,_⟩:=k;rw[z]at e;cases e))
 ·obtain⟨e1,n1,n2,n3,_⟩:=I.pin p (kD _ hp);exact nh _ _ e1 λz=>(aY.mp (I.tW p.1 z)).elim n2 n3
 ·obtain⟨o1,q1⟩:=I.base.there b o e hx;exact⟨o1,nh b o1 q1 λz=>(aY.mp (I.tW b z)).elim (cU (cG (aP e) I.ok.above)) hb⟩
theorem Gt {te:TE}{E:XK}{np cY:Pos}(hc:X.calm=true) (l:rB X E) (hg:Gl X x) (hm:X.mg x=some (.ref C)) (q:excIn X.K C E2 "ValueError.__new__"=true) (he:PE X e te)
 (hs:starEach [e] X.env=[(false,eval e X.env)]:=by rfl) (hd:(x==("__debug__":Str))=false:=by decide) :
 PS X (.Raise (some (.Call (.Name x np) [e] [] cY)) none pos) (λ_ σ H=>te σ H λv H1=>[v].length=1 /\ E (.ref C) none H1):=by
 intro pins s σ H D I h;obtain⟨bm,N,nm,qn,bs,vD,sn,sub,ab,col,dd,k0,k1,k2,k3,k5,mN,hC,hN,WE,T⟩:=Le I.mod.qW q;refine wpAny_Raise_call_subT (C:=C) (nm:=nm) (q:=qn) (N:=N) (bs:=bs) (bm:=bm) (hdct:=vD) (sn:=sn) (sub:=sub) (ab:=ab) (col:=col) (dd:=dd)
  (k0:=k0) (k1:=k1) (k2:=k2) (k3:=k3) (k5:=k5) PySem.F.excBase_ValueError (mN:=mN) (T.hasType PySem.F.excBase_ValueError.hasBase) (I.ok.hd hc) (by rw[hs];rfl) WE ?_
 refine ao (f9 (v:=.ref C) (pos:=np) hg hm rfl hd pins s σ H (λv H1=>v=.ref C /\ H1=H) I ⟨rfl,rfl⟩) λf s1 ⟨v,H1,I1,r1,e1,e2⟩=>?_;subst e1;subst e2;refine⟨r1,?_⟩;rw[hs];refine Q2 ?_;have ha:PA X [e] (Ey te xt):=fj he fO (by rw[hs];rfl);have hA:=ha cY pins s1 σ H1 (λvs H2=>vs.length=1 /\ E (.ref C) none H2) I1 h;rw[hs]at hA;refine ao hA λus s2 ⟨vs,H2,I2,r2,e3,q2⟩=>?_;refine⟨rfl,?_,I2.bk _ _ hC,hN.keeps I2.bk,T.keeps I2.bk,λh' ea m=>Lf l I2 m q2⟩;rw[<-r2.length,e3];decide
theorem Fg {ea R:Addr}{Q:Bool->Shared->Prop}(X:K.In s.heap) (I:dj ea C s.heap)
 (hk:kitCls K (.ref C) (.ref R)=some true) (hb:mroIn K R (.type "BaseException")=some true) (q:Q true s):wpAny M A (excMatches (.ref ea) (.ref R)) Q E s:=by
 obtain⟨h,g,d,t,os⟩:=s;obtain⟨l1,l2,l3⟩:=kit_cls (M:=M) X hk;have l4:=z7 (M:=M) X hb;have l5:=I.type (M:=M);have f:=tc_notTuple;unfold excMatches isInstance isExcClass
 repeat (any_goals (first|assumption|with_reducible refine l1.at ?_|with_reducible refine l2.at ?_|with_reducible refine l3.at ?_|with_reducible refine l4.at ?_|with_reducible refine l5.at ?_|wp_step))
noncomputable abbrev Cx.nU (X:Cx) (pn:List (Addr×Obj)) (E:XK):Cx:={ X with pn:=pn,xe:=XE { X with pn:=pn } E }
noncomputable abbrev Cx.hand (X:Cx) (pn:List (Addr×Obj)) (ea:Addr):Cx:={ X with pn:=pn,A:=X.A.mark (some (.ref ea)),calm:=false,xe:=λ_ _=>False }
theorem Inv.turn {Y:Cx}{qY:List (Addr×Obj)}(I:Inv X pins σ H s) (hp:∀ p∈Y.pn++qY,p∈X.pn++pins) (hf:Y.A.frames=some Y.stack) (hd:Y.calm=true->Y.A.handled=none)
 (h1:Y.prog=X.prog:=by rfl) (h2:Y.w=X.w:=by rfl) (h3:Y.K=X.K:=by rfl) (h4:Y.mg=X.mg:=by rfl) (h5:Y.base=X.base:=by rfl) (h6:Y.N=X.N:=by rfl) (h7:Y.s₀=X.s₀:=by rfl) (h8:Y.H₀=X.H₀:=by rfl) (h9:Y.env=X.env:=by rfl)
 (ha:Y.outer=X.outer:=by rfl) (hb:Y.stack=X.stack:=by rfl) (hc:Y.ex=X.ex:=by rfl) (he:Y.fn=X.fn:=by rfl):Inv Y qY σ H s:=by
 obtain⟨yp,yw,yK,aaD,aaE,yA,yN,aaF,aaG,aaH,aaI,aaJ,aaK,aaL,aaM,aaN,aaO⟩:=Y;dsimp only at h1 h2 h3 h4 h5 h6 h7 h8 h9 ha hb hc he hp hf hd;subst h1 h2 h3 h4 h5 h6 h7 h8 h9 ha hb hc he;exact⟨⟨I.ok.mod,I.ok.kind,I.ok.glob,I.ok.blt,I.ok.above,I.ok.inj,I.ok.has,I.ok.tT,hd,hf,I.ok.vh,I.ok.vi,I.ok.bs,I.ok.pI,I.ok.tU,I.ok.tV,I.ok.dY,I.ok.nL⟩,
  I.os,I.bare,I.base,I.loc,I.cell,I.free,I.hJ,λp q=>I.pin p (hp p q),I.ai,I.len⟩
theorem Ax {pn:List (Addr×Obj)}{E:XK}:rB (X.nU pn E) E:=by
 intro e s' h;obtain⟨σ',H',ea,C,a0,B,he,I,ex,tr,hp,old,q⟩:=h;exact⟨σ',H',ea,C,a0,B,he,I.turn (λp z=>z) I.ok.frames I.ok.hd,ex,tr,hp,old,q⟩
theorem SP.turn {Y:Cx}{qY:List (Addr×Obj)}{D:Ends}{f:Flow}{s':Shared}(k:∀ σ H,Inv X pins σ H s'->Inv Y qY σ H s') (h:SP X pins D f s'):SP Y qY D f s':=by
 cases f with
 |next=>obtain⟨σ',H',I,q⟩:=h;exact⟨σ',H',k _ _ I,q⟩
 |brk=>obtain⟨σ',H',I,q⟩:=h;exact⟨σ',H',k _ _ I,q⟩
 |cont=>obtain⟨σ',H',I,q⟩:=h;exact⟨σ',H',k _ _ I,q⟩
 |ret u=>obtain⟨v,σ',H',I,r,q⟩:=h;exact⟨v,σ',H',k _ _ I,r,q⟩
theorem Inv.watch {φ:Heap->Prop}(I:Inv X pins σ H s) (hn:H a=none) (hL:a≠X.env.locals) (hC:∀ x c,X.env.cells.lookup x=some c->c≠a)
 (hp:∀ p∈X.pn++pins,p.1≠a) (ho:∀ b o,X.s₀.heap.get? b=some o->b∉X.ex->b≠a) (new:aZ X.prog X.w (upd H a (.ext φ)) s.heap a (.ext φ)):Inv X pins σ (upd H a (.ext φ)) s:=by
 have ne:∀ b u,H b=some u->b≠a:=λb u e z=>by rw[z,hn]at e;cases e
 refine⟨I.ok,I.os,I.bare,⟨I.base.keep,I.base.slot,λb o e n hx=>?_,I.base.there,λb xs e=>?_,λb o u e=>?_,λb ps e=>?_⟩,I.loc,I.cell,?_,λx c e=>?_,λp q=>?_,λb o e=>?_,I.len⟩
 ·rw[fq (ho b o e hx)];exact I.base.free b o e n hx
 ·have z:=I.base.kH b xs e;rw[fq (ne b _ z)];exact z
 ·have z:=I.base.hG b o u e;rw[fq (ne b _ z)];exact z
 ·obtain⟨more,z⟩:=I.base.kI b ps e;exact⟨more,by rw[fq (ne b _ z)];exact z⟩
 ·rw[fq hL.symm];exact I.free
 ·rw[fq (hC x c e)];exact I.hJ x c e
 ·obtain⟨q1,q2,q3⟩:=I.pin p q;exact⟨q1,by rw[fq (hp p q)];exact q2,q3⟩
 ·by_cases hb:b=a
  ·subst hb;rw[fw]at e;cases e;exact new
  ·rw[fq hb]at e;exact(I.ai b o e).dX (λ_ _ _ z=>z) (λc z=>by rw[fq (ne c _ z)];exact z) λc xs z=>by rw[fq (ne c _ z)];exact z
theorem Inv.gone {n:Str}{m:Str->Option Value}{v:Option Value}(I:Inv X pins σ H s) (hN:X.N.Nodup) (hi:X.N[i]?=some n)
 (hm:∀ (j:Nat) (x:Str) (v:V),X.N[j]?=some x->σ[j]?=some (some v)->qt X.env.scope x->∃ u,RelV v u /\ Look X.env s.heap m x u)
 (hn:h'.Ns X.env.locals (λx=>if x=n then v else m x)) (sb:Heap.SameBut X.env.locals s.heap h'):Inv X pins (σ.set i none) H { s with heap:=h',toks:=t' }:=by
 have kp:∀ b o,b≠X.env.locals->s.heap.get? b=some o->h'.get? b=some o:=λb o hb e=>sb.extBut b o hb e;have old:∀ b o,X.s₀.heap.get? b=some o->b≠X.env.locals:=λb o e=>cU (cG (aP e) I.ok.above);refine⟨I.ok,I.os,I.bare,⟨λb o e n hb hx=>kp b o (old b o e) (I.base.keep b o e n hb hx),λb o e n hb hx=>?_,I.base.free,λb o e hx=>?_,I.base.kH,I.base.hG,I.base.kI⟩,⟨_,hn,λj x w e1 e2 e3=>?_⟩,λx c e=>?_,I.free,I.hJ,λp q=>?_,λb o e=>?_,by rw[nK];exact I.len⟩
 ·obtain⟨sl,q⟩:=I.base.slot b o e n hb hx;exact⟨sl,kp b _ (old b o e) q⟩
 ·obtain⟨o',q⟩:=I.base.there b o e hx;exact⟨o',kp b _ (old b o e) q⟩
 ·by_cases hj:j=i
  ·subst hj;by_cases hl:j<σ.length
   ·rw[pC hl]at e2;cases e2
   ·rw[tE (by rw[nK];omega)]at e2;cases e2
  ·rw[pD (Ne.symm hj)]at e2;obtain⟨u,r,l⟩:=hm j x w e1 e2 e3;refine⟨u,r,?_⟩;rcases l with⟨k,e⟩|⟨k,c,e,z⟩
   ·refine .inl ⟨k,?_⟩;have:x≠n:=λq=>hj (oo hN e1 (q▸hi));show (if x=n then v else m x)=some u;rw[if_neg this];exact e
   ·obtain⟨o,eo,d⟩:=z;exact .inr ⟨k,c,e,o,kp c o (I.qu x c e) eo,d⟩
 ·obtain⟨w,o,eo,d⟩:=I.cell x c e;exact⟨w,o,kp c o (I.qu x c e) eo,d⟩
 ·obtain⟨q1,q2,q3,q4⟩:=I.pin p q;exact⟨kp _ _ q3 q1,q2,q3,q4⟩
 ·refine(I.ai b o e).dX (λc w hc q=>kp c w (λz=>?_) q) (λ_ q=>q) λ_ _ q=>q;rcases hc with z1|z1
  ·rw[<-z1,z,I.free]at e;cases e
  ·rw[z,I.free]at z1;cases z1
noncomputable def Ss (i:Nat) (D:Ends):Ends:={ nx:=λσ H=>D.nx (σ.set i none) H,rt:=D.rt,bk:=λσ H=>D.bk (σ.set i none) H,ct:=λσ H=>D.ct (σ.set i none) H }
def WG (K:Frag) (len:Nat) (Ra:Addr) (i:Nat) (E:XK) (tb ts:TS):TS:=λD σ H=>tb D σ H /\ ∀ (σ':St) (ea C:Addr) (H':Hp),σ'.length=len->E (.ref C) none H'->H' ea=none ->
 kitCls K (.ref C) (.ref Ra)=some true /\ ts (Ss i D) (σ'.set i (some (.ref ea))) (upd H' ea (.ext (dj ea C)))
theorem Nq {body Su:List Stmt}{b₀:Stmt}{R n:Str}{Ra L:Addr}{E:XK}{tb ts:TS}{rp sj:Pos}(nu:X.stack=X.env::X.outer) (di:X.env.frame=some L) (xH:L=X.env.locals)
 (hg:Gl X R) (hm:X.mg R=some (.ref Ra)) (WH:mroIn X.K Ra (.type "BaseException")=some true) (hN:X.N.Nodup) (hi:X.N[i]?=some n) (hn:X.env.kindOf n=some .local)
 (hb:∀ pn,bQ (X.nU pn E) body tb) (WI:∀ pn ea,bQ (X.hand pn ea) (b₀::Su) ts) (hd:(R==("__debug__":Str))=false:=by decide) :
 PS X (.Try body [.ExceptHandler (some (.Name R rp)) (some n) (b₀::Su) sj] [] [] pos) (WG X.K X.N.length Ra i E tb ts):=by
 intro pins s σ H D I ⟨h1,h2⟩;have I0:Inv (X.nU (X.pn++pins) E) [] σ H s:=I.turn (λp z=>by simpa using z) I.ok.frames I.ok.hd;have back:∀ {Y:Cx}(s':Shared) (σ':St) (H':Hp),Y=X.nU (X.pn++pins) E->Inv Y [] σ' H' s'->Inv X pins σ' H' s':=λ{Y} s' σ' H' e J=>by
  subst e;exact J.turn (λp z=>by simpa using z) I.ok.frames I.ok.hd
 refine wpAny_Try_except (eW (hb _ [] s σ H D I0 h1) (λf s1 q=>?_) λe s1 q=>?_)
 ·have q':SP X pins D f s1:=q.turn λσ' H' J=>back s1 σ' H' rfl J;cases f with
  |next=>exact wu q'
  |brk=>exact q'
  |cont=>exact q'
  |ret u=>exact q'
 ·obtain⟨σ1,H1,ea,C,a0,B,he,I1,ex,tr,E3,old,hE⟩:=q;subst he;have Rh:pP B (X.env::X.outer) ea (.ref C) a0 s1.heap:=by rw[<-nu];exact ex
  have WJ:X.A.frames=some (X.env::X.outer):=by rw[<-nu];exact I.ok.frames
  have nT:∀ {α:Type}{t:Sem α}{A1:Around}{Q1:α->Shared->Prop}{E1:Value->Shared->Prop}{ss:Shared},wpAny (model X.prog X.w) A1 t Q1 (λ_ _=>False) ss->wpAny (model X.prog X.w) A1 t Q1 E1 ss:=λhw=>eW hw (λ_ _ q=>q) λ_ _ z=>False.elim z;refine Ld WJ di Rh λh4 hh u4=>?_;refine wpAny_landsW hh λh5 E4 u5=>?_;have I5:Inv { X with pn:=X.pn++pins } [] σ1 H1 { s1 with heap:=h5 }:=Db I1 (u4.trans u5) ex.stays E4.1 tr E3 old;have Sv:Inv (X.hand (X.pn++pins) ea) [] σ1 H1 { s1 with heap:=h5 }:=I5.turn (λp z=>z) I.ok.frames (λz=>nomatch z);have xI:H1 ea=none:=by
   cases z:H1 ea with
   |none=>rfl
   | some u =>
     obtain⟨o,eo,_⟩:=ex.elim (λy=>y.there) (λy=>⟨_,y.2.2.2,rfl⟩);have:=tr ea u o z eo;rw[ex.EY]at this;cases this
  obtain⟨hk,WK⟩:=h2 σ1 ea C H1 I1.len hE xI;refine wpAny_handleBy_cons (codeAny_handlers_test (nT ?_)) (by intro z;cases z);refine lE (X:=X.hand (X.pn++pins) ea) Sv hg hm ?_ hd;obtain⟨o5,WL,WM⟩:=E4.there;refine Fg Sv.bz ⟨o5,WL,WM⟩ hk WH ?_;refine codeAny_handlers_suite_as (lands_againW E4 λh6 E5 u6=>?_);have u:s1.heap.UpToSlots h6:=(u4.trans u5).trans u6;have I6:Inv { X with pn:=X.pn++pins } [] σ1 H1 { s1 with heap:=h6 }:=Db I1 u ex.stays E5.1 tr E3 old;have E6:Inv (X.hand (X.pn++pins) ea) [] σ1 H1 { s1 with heap:=h6 }:=I6.turn (λp z=>z) I.ok.frames (λz=>nomatch z);obtain⟨oe,vs,vE,xk,E7,_⟩:=E5.first;have I7:Inv (X.hand (X.pn++pins) ea) [] σ1 (upd H1 ea (.ext (dj ea C))) { s1 with heap:=h6 }:=by
   refine E6.watch xI (λz=>?_) (λx c e z=>?_) (λp q z=>?_) (λb o e hx z=>?_) ⟨⟨oe,vE,xk⟩,⟨oe,vE⟩,λg1 g2 ⟨o,e1,e2⟩ k=>⟨o,k o e1,e2⟩⟩
   ·obtain⟨m,⟨o,es,ep,e1,e2,_⟩,_⟩:=E6.loc;have kN:h6.get? ea=some o:=by rw[z];exact e1
    rw[vE]at kN;cases kN;rw[E7]at e2;cases e2
   ·obtain⟨v,o,e1,e2⟩:=E6.cell x c e;have kN:h6.get? ea=some o:=by rw[<-z];exact e1
    rw[vE]at kN;cases kN;rw[E7]at e2;cases e2
   ·have q':p∈X.pn++pins:=by simpa using q
    have:=E3 p q';rw[z,ex.EY]at this;cases this
   ·subst z;by_cases hf:b∈X.fs
    ·obtain⟨sl,q1⟩:=(Cr I1 u ex.stays E5.1 old).slot b o e (I.ok.nL b hf) hf hx;obtain⟨_,o2,q2,d⟩:=I.ok.dY.mem hf;rw[e]at q2;cases q2;rw[vE]at q1;have q3:oe.data=o.data:=by cases q1;rfl
     exact d vs (by rw[<-q3];exact E7)
    ·obtain⟨o',q1⟩:=old b o e hf hx;rw[ex.EY]at q1;cases q1
  refine nT (jL (X:=X.hand (X.pn++pins) ea) I7 hN hi (.inl hn) (v:=.ref ea) (u:=.ref ea) rfl (λs8 I8=>?_) (.inr hn));refine nT (ao (WI _ ea [] s8 _ _ (Ss i D) I8 WK) λf s9 q9=>?_);have sf:(X.env.scope.kind==.class||(X.env.scope.kind==.module&&X.env.locals != X.env.globals))=false:=by rw[I.ok.kind];rfl
  have fin:∀ (σ9:St) (H9:Hp) (Z:Flow->Shared->Prop),Inv (X.hand (X.pn++pins) ea) [] σ9 H9 s9->(∀ sA,Inv X pins (σ9.set i none) H9 sA->Z f sA) ->
   wpAny (model X.prog X.w) X.A (do bindName X.env n .none;unbindBehindTheSuite X.env n sj) (λ_ sA=>Z f sA) X.xe s9:=λσ9 H9 Z I9 k=>by
   have Sw:Inv X pins σ9 H9 s9:=I9.turn (λp z=>by simpa using z) I.ok.frames I.ok.hd;obtain⟨m,WN,WO⟩:=Sw.loc;exact wpAny_nameGoes_keeps hn WN sf λh' v qv sb=>k _ (Sw.gone hN hi WO qv sb)
  show wpAny (model X.prog X.w) X.A (do bindName X.env n .none;unbindBehindTheSuite X.env n sj) (λ_ sA=>SP X pins D f sA) X.xe s9;cases f with
  |next=>obtain⟨σ9,H9,I9,q⟩:=q9;exact fin σ9 H9 (SP X pins D) I9 λsA IA=>⟨_,_,IA,q⟩
  |brk=>obtain⟨σ9,H9,I9,q⟩:=q9;exact fin σ9 H9 (SP X pins D) I9 λsA IA=>⟨_,_,IA,q⟩
  |cont=>obtain⟨σ9,H9,I9,q⟩:=q9;exact fin σ9 H9 (SP X pins D) I9 λsA IA=>⟨_,_,IA,q⟩
  |ret u=>obtain⟨v,σ9,H9,I9,r,q⟩:=q9;exact fin σ9 H9 (SP X pins D) I9 λsA IA=>⟨v,_,_,IA,r,q⟩
structure kO (k:Nat) (A:Around):Prop where
 dp:A.depth+3*k+5<recursionLimit
 un:A.units+16*k+200<cLine
theorem aO.h (r:aO k A):kO k A:=⟨r.dp,r.un⟩
theorem kO.mark {k:Nat}{A:Around}{e:Option Value}(r:kO k A):kO k (A.mark e):=⟨r.dp,r.un⟩
theorem kO.deeper {k:Nat}{A:Around}(r:kO (k+1) A) (env:Env):kO k (A.deeper env):=
 ⟨by have:=r.dp;show A.depth+1+3*k+5<_;omega,by have:=r.un;show A.units+3+16*k+200<_;omega⟩
theorem kO.depth {k:Nat}{A:Around}(r:kO k A):A.depth<recursionLimit:=by have:=r.dp;omega
structure vF (P:Program) (w:World) (K:PySem.W.Frag) (mg:Str->Option Value) (base:Heap) (CX:hZ) (k:Nat) (f:Addr) (fd:FuncData) (ps:List Str) (sp:Sp):Prop where
 len:∀ vs H Q E,sp vs H Q E->vs.length=ps.length
 run:∀ (A:Around) (outer:List Env) (s:Shared) (H:Hp) (args:Args) (us:List Value) (vs:List V) (Q:VK) (E:XK),kO k A->qz P w K mg base A outer s H->BindsTo s fd args (ps.zip us)->Vals vs us->sp vs H Q E ->
  codeAny (model P w) A (.call (.ref f) args) (CR CX outer P w H s Q E) s
abbrev vG (CX:hZ) (P:Program) (w:World) (K:PySem.W.Frag) (mg:Str->Option Value) (base:Heap) (N:List Str) (qual:Str) (scope:Scope) (f:Addr) (cd:Value) (A:Around) (outer:List Env) (s:Shared) (H:Hp) (E:XK):Cx :=
 { kJ CX P w K mg base N qual scope f cd A outer s H E with calm:=false }
theorem Nr {name:Str}{params:Arguments}{body:List Stmt}{scope:Scope}{dV kV doc pm cdv ct oc:Value}{an od:Option Addr}
 {ps:List Str}(lk:K.lookup f=some ⟨oc,od,.func (PySem.W.fnOf name qual params body scope dV kV doc pm an cdv ct),kz⟩) (cw:PySem.W.codeIn K cdv qual=true) (S:nR N ps scope)
  (len:∀ vs H Q E,sp vs H Q E->vs.length=ps.length)
  (eL:∀ (A:Around) (outer:List Env) (s:Shared) (H:Hp) (vs:List V) (Q:VK) (E:XK),kO k (A.deeper (envOfC qual scope s.heap.objs.size f cdv))->sp vs H Q E ->
   ∃ t,bQ (vG CX P w K mg base N qual scope f cdv A outer s H E) body t /\ t { nx:=λ_ H'=>Q .ae H',rt:=Q } (start N vs) H) :
  vF P w K mg base CX (k+1) f (PySem.W.fnOf name qual params body scope dV kV doc pm an cdv ct) ps sp:=by
  refine⟨len,λA outer s H args us vs Q E hr e0 hb r kK=>?_⟩;have hl:=len _ _ _ _ kK;have KX:K.In s.heap:=e0.mod.qW.keeps λb o e=>(e0.bs b o e).1;have lim:s.heap.NoLimit:=e0.mod.nolimit.keeps λb o e=>(e0.bs b o e).1;have EC:∀ y∈ps.zip us,scope.names.lookup y.1=some .local \/ (scope.names.lookup y.1=some .cell /\ ((cellsFrom (s.heap.objs.size+1) scope.names []).lookup y.1).isSome=true):=λ⟨n,v⟩ hy=>by
   rcases S.par n (wG hy).1 with q|q
   ·exact .inl q
   ·exact .inr ⟨q,zY _ _ _ (.inl q)⟩
  refine Kr hr.depth (KX _ _ lk) rfl S.co S.gen rfl (QF KX cw) (hb _ _ _ _ ?_);refine Ks S.kind EC λenv he s1 x=>?_;subst he;refine⟨lim.keeps x.toInCall.keep,Kt ?_⟩;obtain⟨t,ht,hq⟩:=eL A outer s H vs Q E (hr.deeper _) kK;have e1:qz P w K mg base { A with handled:=none } outer s H:=⟨e0.frames,e0.mod,e0.bs,e0.pI,e0.dY,e0.nL,e0.ai,e0.bare⟩;have I0:Inv (kJ CX P w K mg base N qual scope f cdv { A with handled:=none } outer s H E) [] (start N vs) H s1:=Av S rfl e1 hl r x;have I:Inv (vG CX P w K mg base N qual scope f cdv A outer s H E) [] (start N vs) H s1:=I0.turn (λp z=>z) (QZ e0.frames) (λz=>nomatch z);refine eW (ht [] s1 (start N vs) H _ I hq) (λfl s' hs=>?_) λe s' hs=>hs;have fin:∀ {σ':St}{H':Hp}{v:V}{u:Value},Inv (vG CX P w K mg base N qual scope f cdv A outer s H E) [] σ' H' s'->RelV v u->Q v H'->CE outer P w H s Q u s' :=
   λ{σ' H' v u} J rv q=>⟨v,H',J.os,J.bare,J.base,J.ai,rv,q⟩
  cases fl with
  | ret u =>
    obtain⟨v,σ',H',J,rv,q⟩:=hs;exact fin J rv q
  | next =>
    obtain⟨σ',H',J,q⟩:=hs;exact fin (v:=V.ae) (u:=Value.none) J rfl q
  | brk =>
    obtain⟨_,_,_,q⟩:=hs;exact False.elim q
  | cont =>
    obtain⟨_,_,_,q⟩:=hs;exact False.elim q
theorem cC.uc {st:Stmt}{ps:List Str}(F:cC K x qual st f fd) (S:nR N ps (fA st)) (len:∀ vs H Q E,sp vs H Q E->vs.length=ps.length)
 (eL:∀ (cdv:Value) (A:Around) (outer:List Env) (s:Shared) (H:Hp) (vs:List V) (Q:VK) (E:XK),kO k (A.deeper (envOfC qual (fA st) s.heap.objs.size f cdv))->sp vs H Q E ->
  ∃ t,bQ (vG nS P w K mg base N qual (fA st) f cdv A outer s H E).qw (fV st) t /\ t { nx:=λ_ H'=>Q .ae H',rt:=Q } (start N vs) H):vF P w K mg base nS (k+1) f fd ps sp:=by
 obtain⟨oc,od,kV,doc,pm,an,cdv,ct,kz,rfl,lk,cw⟩:=F.ex;refine Nr lk cw S len λA outer s H vs Q E hr kK=>?_;obtain⟨t,h,q⟩:=eL cdv A outer s H vs Q E hr kK;exact⟨t,h.qw,q⟩
theorem cC.WQ {st:Stmt}{ps:List Str}(F:cC K x qual st f fd) (S:nR N ps (fA st)) (len:∀ vs H Q E,sp vs H Q E->vs.length=ps.length)
 (eL:∀ (cdv:Value) (A:Around) (outer:List Env) (s:Shared) (H:Hp) (vs:List V) (Q:VK) (E:XK),aO k (A.deeper (envOfC qual (fA st) s.heap.objs.size f cdv))->sp vs H Q E ->
  ∃ t,bQ (kJ (bK P w) P w K mg base N qual (fA st) f cdv A outer s H E) (fV st) t /\ t { nx:=λ_ H'=>Q .ae H',rt:=Q } (start N vs) H):bA P w K mg base (bK P w) (k+1) f fd ps sp:=by
 obtain⟨oc,od,kV,doc,pm,an,cdv,ct,kz,rfl,lk,cw⟩:=F.ex;exact MG lk cw S len λA outer s H vs Q E hr kK=>eL cdv A outer s H vs Q E hr kK
section
variable {ps : List Str} {bR : List V} {ds : List Value} {E : XK} {m : Str} {p : Pos} {o : Expr} {ta : TE} {t : TA}
theorem Gu (F:vF X.prog X.w X.K X.mg X.base CX k f fd ps sp) (hr:kO k X.A) (hg:Gl X x) (hm:X.mg x=some (.ref f)) (hk:PySem.W.keepIn X.K (.ref f)=true) (hb:Binds X.K fd ps ds) (hd:Vals bR ds) (hx:Passes CX X E)
 (ha:PA X (e::es) t) (bB:(x==("__debug__":Str))=false:=by decide) (he:starEach (e::es) X.env=(false,eval e X.env)::starEach es X.env:=by rfl) (cA:(backTo pos (starEach es X.env)).any (·.1)=false:=by rfl) :
 PE X (.Call (.Name x p) (e::es) [] pos) (Ez sp bR E t):=by
 intro pins s σ H Q I h;refine sW (lE I hg hm ?_ bB);refine w9 (h₀:=X.base) I.ok.mod.qW hk (ao (ha pos pins s σ H _ I h) λus s1 ⟨vs,H1,I1,r,q⟩=>⟨I1.bz,?_⟩) he cA;have r2:Vals (vs++bR) (us++ds):=r.append hd;have hl:(us++ds).length=ps.length:=by rw[<-r2.length];exact F.len _ _ _ _ q
 refine zc (sV (F.run X.A X.stack s1 H1 ⟨us,[]⟩ (us++ds) (vs++bR) Q E hr I1.env0 (hb s1 us I1.bz hl) r2 q) λr s' hq=>?_);cases r with
 |error e=>exact hx pins σ H1 s1 e s' I1 hq
 | ok fl =>
   cases fl with
   |ret u=>exact I1.after hq
   |next=>exact False.elim hq
   |brk=>exact False.elim hq
   |cont=>exact False.elim hq
inductive E8 (K:Frag) (H:Hp):V->Value->Prop where
 |of {x:V}{t:Value}(h:hV K H x t):E8 K H x t
 |exc {a C:Addr}(e:H a=some (.ext (dj a C))) (T:si K C):E8 K H (.ref a) (.ref C)
noncomputable def WR:V->Value->Prop
 |.ref a,c=>c=.ref a
 |.ty n,c=>c=.type n
 |_,_=>False
def WS (K:Frag):List V->Hp->VK->Prop:=λvs H Q=>∃ x c t cv b,vs=[x,c] /\ E8 K H x t /\ WR c cv /\ kitOne K t cv=some b /\ Q (.bl b) H
theorem fP:cK X (.builtin "isinstance") (WS X.K):=by
 intro pins s σ H xs us Q I rv h;obtain⟨x,c,t,cv,b,rfl,ty,hc,e,q⟩:=h;cases rv with
 | cons r1 r2 =>
   cases r2 with
   | cons r3 r4 =>
     cases r4;rename_i u1 u2;have ec:u2=cv:=by
      cases c with
      |ref a=>exact(show u2=.ref a from r3).trans (show cv=.ref a from hc).symm
      |ty n=>exact(show u2=.type n from r3).trans (show cv=.type n from hc).symm
      |ae=>exact hc.elim
      |bl _=>exact hc.elim
      |int _=>exact hc.elim
      |str _=>exact hc.elim
      |eZ _=>exact hc.elim
      |qm _=>exact hc.elim
     subst ec;cases ty with
     |of ty=>exact Fb I r1 ty e λtk=>⟨.bl b,H,I.tok tk,rfl,q⟩
     | @exc a C ea T =>
       cases (show u1=Value.ref a from r1);obtain⟨p,_,_⟩:=(show aZ X.prog X.w H s.heap a (.ext (dj a C)) from I.ai a _ ea);exact nq (Gr T) I.bz p e (λz=>nomatch z) λtk=>⟨.bl b,H,I.tok tk,rfl,q⟩
end
def WT:V->List V->Hp->VK->Prop:=λx vs H Q=>∃ l xs y,x=.ref l /\ vs=[y] /\ H l=some (.lst xs) /\ xs.all cX=true /\ cX y=true /\ Q (.int (xs.countP λz=>cL z y:Nat)) H
theorem oE {A:Around}{s:Shared}{y:V}{u:Value}(ry:RelV y u) (fy:cX y=true) (f:Value->Bool):∀ {xs:List V}{us:List Value},Vals xs us->xs.all cX=true ->
 (∀ z w,z∈xs->w∈us->RelV z w->f w=cL z y)->∀ w∈us,SeqAt.EqAt A s w u (f w)
 |_,_,.nil,_,_,_,h=>nomatch h
 | z::zs,w::ws,.cons r t,ha,hf,v,hv=>by
   rw[k9,aw]at ha;rcases aY.mp hv with e|e
   ·subst e;rw[hf z v a8 a8 r];exact Gj r ry ha.1 fy
   ·exact oE ry fy f t ha.2 (λa b h1 h2=>hf a b (aV _ h1) (aV _ h2)) v e
def sk (y:V) (w:Value):Bool:=match w with
 |.none=>cL .ae y
 |.bool b=>cL (.bl b) y
 |.int i _=>cL (.int i) y
 |.str x _=>cL (.str x) y
 |_=>false
theorem AY {z y:V}{w:Value}(r:RelV z w) (f:cX z=true):sk y w=cL z y:=by
 cases z with
 |ae=>cases (show w=Value.none from r);rfl
 |bl b=>cases (show w=Value.bool b from r);rfl
 |int i=>obtain⟨t,rfl⟩:=(show ∃ t,w=Value.int i t from r);rfl
 |str x=>obtain⟨t,rfl⟩:=(show ∃ t,w=Value.str x t from r);rfl
 |eZ b=>exact nomatch f
 |qm b=>exact nomatch f
 |ref a=>exact nomatch f
 |ty n=>exact nomatch f
theorem Bz {y:V}:∀ {xs:List V}{us:List Value},Vals xs us->xs.all cX=true->us.countP (sk y)=xs.countP λz=>cL z y
 |_,_,.nil,_=>rfl
 | z::zs,w::ws,.cons r t,ha=>by
   rw[k9,aw]at ha;rw[K8,K8,Bz t ha.2,AY r ha.1]
theorem Nt {y:V}:∀ {xs:List V}{us:List Value}{j:Nat}(h:j<us.length),Vals xs us->xs.all cX=true->∃ z,xs[j]?=some z /\ sk y us[j]=cL z y
 |_,_,_,h,.nil,_=>absurd h (by simp)
 | z::zs,w::ws,0,_,.cons r t,ha=>by
   rw[k9,aw]at ha;exact⟨z,rfl,AY r ha.1⟩
 | z::zs,w::ws,j+1,h,.cons r t,ha=>by
   rw[k9,aw]at ha;obtain⟨v,e1,e2⟩:=Nt (y:=y) (j:=j) (by simpa using h) t ha.2;exact⟨v,by simpa using e1,by simpa using e2⟩
theorem Gv:EM X "list.count" WT:=by
 intro pins s σ H x vs v us Q I rx rv h;obtain⟨l,xs,y,rfl,rfl,hH,ha,hy,q⟩:=h;cases rx;obtain⟨u,rfl,ru⟩:=rv.one;obtain⟨z,its,n,r,hl,e⟩:=I.vC hH;refine zj F.slot_list_count ⟨_,e,rfl⟩ F.entry_list_count (F.args_list_count_2 _ _) (SeqAt.list_countAt l its.toArray n none #[] u (sk y)) ⟨e,?_,?_⟩
 ·intro w hw;refine oE ru hy (sk y) r ha (λz w h1 h2 rz=>AY rz (bX.mp ha z h1)) w (by simpa using hw)
 ·refine⟨.int _,H,I.tok _,⟨_,rfl⟩,?_⟩;rw[show its.toArray.toList=its from rfl,Bz r ha];exact q
def WU:V->List V->Hp->VK->Prop:=λx vs H Q=>∃ l xs y j,x=.ref l /\ vs=[y] /\ H l=some (.lst xs) /\ xs.all cX=true /\ cX y=true /\ j<xs.length /\
 (∀ z,xs[j]?=some z->cL z y=true) /\ (∀ (m:Nat) z,m<j->xs[m]?=some z->cL z y=false) /\ Q (.int (j:Nat)) H
theorem Gw:EM X "list.index" WU:=by
 intro pins s σ H x vs v us Q I rx rv h;obtain⟨l,xs,y,j,rfl,rfl,hH,ha,hy,hj,hit,qA,q⟩:=h;cases rx;obtain⟨u,rfl,ru⟩:=rv.one;obtain⟨z,its,n,r,hl,e⟩:=I.vC hH;have ud:j<its.length:=by omega
 have small:(j:Int)<2 ^ 63-1:=by have:=t8;omega
 refine zj F.slot_list_index ⟨_,e,rfl⟩ F.entry_list_index (F.args_list_index_2 _ _) (SeqAt.list_indexAt l its.toArray n none #[] u (sk y) j (by simpa using ud) small ?_ ?_) ⟨e,?_,?_⟩
 ·obtain⟨v,e1,e2⟩:=Nt (y:=y) ud r ha;rw[show (its.toArray[j]'(by simpa using ud))=its[j] from rfl,e2];exact hit v e1
 ·intro m hm WV;have xK:m<its.length:=by simpa using hm
  obtain⟨v,e1,e2⟩:=Nt (y:=y) xK r ha;rw[show (its.toArray[m]'hm)=its[m] from rfl,e2];exact qA m v WV e1
 ·intro w hw;exact oE ru hy (sk y) r ha (λz w h1 h2 rz=>AY rz (bX.mp ha z h1)) w (by simpa using hw)
 ·exact⟨.int (j:Nat),H,I.tok _,⟨_,rfl⟩,q⟩
noncomputable def Sx:Expr->Option Str
 |.Constant (.str x) _ _=>some x
 |_=>none
def WW (xs:List Str):TA:=λ_ H Q=>Q (xs.map V.str) H
theorem AZ:∀ {es:List Expr}{xs:List Str},es.map Sx=xs.map some->PA X es (WW xs)
 |[],[],_=>fO
 |[],_::_,h=>by simp at h
 |_::_,[],h=>by simp at h
 | e::es,x::xs,h=>by
   rw[aN,aN,List.cons.injEq]at h;have ih:=AZ h.2;cases e with
   | Constant k j pos =>
     cases k with
     | str y =>
       have e1:y=x:=Option.some.inj h.1;subst e1;exact fj Cb ih
     |_=>exact nomatch h.1
   |_=>exact nomatch h.1
end L2
namespace L2.DL
inductive D where
 |ae|bl (b:Bool)|int (i:Int)|str (x:Str)|tup (l:List D)|lst (l:List D)|aH (l:List (Key×D))
inductive W where
 |d (x:D)|b (n:Nat)|s (l:List Int)|x (i:Nat)|t (l:List Nat)|m (l:List (Str×Nat))
inductive Bx where
 |lst (l:List D)|aH (l:List (Key×D))|dead|dT (l:List (List Key×D))|fD (l:List (Key×D))|ins (C:Addr) (fs:List (Str×(D ⊕ Nat)))
mutual
noncomputable def Den (F:Hp):D->V->Prop
 |.ae,v=>v=.ae
 |.bl b,v=>v=.bl b
 |.int i,v=>v=.int i
 |.str x,v=>v=.str x
 |.tup l,v=>∃ a vs,v=.ref a /\ F a=some (.tup vs) /\ aj F l vs
 |.lst l,v=>∃ a vs,v=.ref a /\ F a=some (.lst vs) /\ aj F l vs
 |.aH l,v=>∃ a ay,v=.ref a /\ F a=some (.dK ay) /\ cx F l ay
noncomputable def aj (F:Hp):List D->List V->Prop
 |[],vs=>vs=[]
 |d::l,vs=>∃ v r,vs=v::r /\ Den F d v /\ aj F l r
noncomputable def cx (F:Hp):List (Key×D)->List (Key×V)->Prop
 |[],r=>r=[]
 |(k,d)::l,r=>∃ v r',r=(k,v)::r' /\ Den F d v /\ cx F l r'
end
def Sub (F F':Hp):Prop:=∀ a u,F a=some u->F' a=some u
theorem Sub.refl (F:Hp):Sub F F:=λ_ _ h=>h
theorem Sub.trans {G:Hp}(a:Sub F G) (b:Sub G H):Sub F H:=λx u h=>b x u (a x u h)
def ue (F F':Hp):Prop:=∀ a u,(∀ o v,u≠.cW o v)->F a=some u->F' a=some u
theorem Sub.d {F':Hp}(s:Sub F F'):ue F F':=λa u _ h=>s a u h
mutual
theorem Den.cy {F F':Hp}(s:ue F F'):∀ (d:D) {v:V},Den F d v->Den F' d v
 |.ae,_,h=>h
 |.bl _,_,h=>h
 |.int _,_,h=>h
 |.str _,_,h=>h
 | .tup l,_,h=>by
   obtain⟨a,vs,e,h1,h2⟩:=h;exact⟨a,vs,e,s _ _ (λ_ _ z=>nomatch z) h1,aj.cy s l h2⟩
 | .lst l,_,h=>by
   obtain⟨a,vs,e,h1,h2⟩:=h;exact⟨a,vs,e,s _ _ (λ_ _ z=>nomatch z) h1,aj.cy s l h2⟩
 | .aH l,_,h=>by
   obtain⟨a,vs,e,h1,h2⟩:=h;exact⟨a,vs,e,s _ _ (λ_ _ z=>nomatch z) h1,cx.cy s l h2⟩
theorem aj.cy {F F':Hp}(s:ue F F'):∀ (l:List D) {vs:List V},aj F l vs->aj F' l vs
 |[],_,h=>h
 | d::l,_,h=>by
   obtain⟨v,r,e,h1,h2⟩:=h;exact⟨v,r,e,Den.cy s d h1,aj.cy s l h2⟩
theorem cx.cy {F F':Hp}(s:ue F F'):∀ (l:List (Key×D)) {vs:List (Key×V)},cx F l vs->cx F' l vs
 |[],_,h=>h
 | (k,d)::l,_,h=>by
   obtain⟨v,r,e,h1,h2⟩:=h;exact⟨v,r,e,Den.cy s d h1,cx.cy s l h2⟩
end
theorem Den.mono {F':Hp}(s:Sub F F') (d:D) {v:V}(h:Den F d v):Den F' d v:=Den.cy s.d d h
theorem aj.mono {F':Hp}(s:Sub F F') (l:List D) {vs:List V}(h:aj F l vs):aj F' l vs:=aj.cy s.d l h
theorem cx.mono {F':Hp}(s:Sub F F') (l:List (Key×D)) {vs:List (Key×V)}(h:cx F l vs):cx F' l vs:=cx.cy s.d l h
theorem aj.length {F:Hp}:∀ {l:List D}{vs:List V},aj F l vs->l.length=vs.length
 | [],_,h=>by
   have e:_=[]:=h;rw[e];rfl
 | d::l,_,h=>by
   obtain⟨v,r,e,_,h2⟩:=h;rw[e,aX,aX,h2.length]
theorem aj.get {F:Hp}:∀ {l:List D}{vs:List V}{i:Nat}{d:D},aj F l vs->l[i]?=some d->∃ v,vs[i]?=some v /\ Den F d v
 |[],_,_,_,_,e=>by simp at e
 | x::l,_,0,d,h,e=>by
   obtain⟨v,r,q,h1,_⟩:=h;simp at e;subst e;subst q;exact⟨v,rfl,h1⟩
 | x::l,_,i+1,d,h,e=>by
   obtain⟨v,r,q,_,h2⟩:=h;subst q;obtain⟨u,e1,e2⟩:=aj.get (i:=i) h2 (by simpa using e);exact⟨u,by simpa using e1,e2⟩
theorem aj.nil:aj F [] []:=rfl
theorem aj.cons {F:Hp}{d:D}{v:V}{l:List D}{vs:List V}(h:Den F d v) (t:aj F l vs):aj F (d::l) (v::vs):=⟨v,vs,rfl,h,t⟩
theorem aj.append {F:Hp}:∀ {l l':List D}{vs qE:List V},aj F l vs->aj F l' qE->aj F (l++l') (vs++qE)
 | [],_,_,_,h,t=>by
   have e:_=[]:=h;rw[e];exact t
 | d::l,_,_,_,h,t=>by
   obtain⟨v,r,q,h1,h2⟩:=h;subst q;exact .cons h1 (h2.append t)
theorem aj.take {F:Hp}:∀ {l:List D}{vs:List V}(n:Nat),aj F l vs->aj F (l.take n) (vs.take n)
 |l,_,0,_=>by rw[K9,K9];rfl
 | [],_,n+1,h=>by
   have e:_=[]:=h;rw[e];exact rfl
 | d::l,_,n+1,h=>by
   obtain⟨v,r,q,h1,h2⟩:=h;subst q;exact .cons h1 (h2.take n)
theorem aj.drop {F:Hp}:∀ {l:List D}{vs:List V}(n:Nat),aj F l vs->aj F (l.drop n) (vs.drop n)
 |l,_,0,h=>h
 | [],_,n+1,h=>by
   have e:_=[]:=h;rw[e];exact rfl
 | d::l,_,n+1,h=>by
   obtain⟨v,r,q,h1,h2⟩:=h;subst q;exact h2.drop n
theorem aj.reverse {F:Hp}:∀ {l:List D}{vs:List V},aj F l vs->aj F l.reverse vs.reverse
 | [],_,h=>by
   have e:_=[]:=h;rw[e];exact rfl
 | d::l,_,h=>by
   obtain⟨v,r,q,h1,h2⟩:=h;subst q;rw[wJ,wJ];exact h2.reverse.append (.cons h1 .nil)
theorem aj.set {F:Hp}{d:D}{v:V}(hd:Den F d v):∀ {l:List D}{vs:List V}(i:Nat),aj F l vs->aj F (l.set i d) (vs.set i v)
 | [],_,_,h=>by
   have e:_=[]:=h;rw[e];exact rfl
 | _::l,_,0,h=>by
   obtain⟨v',r,q,h1,h2⟩:=h;subst q;exact .cons hd h2
 | _::l,_,i+1,h=>by
   obtain⟨v',r,q,h1,h2⟩:=h;subst q;exact .cons h1 (aj.set hd i h2)
structure Fr where
 H₀:Hp
 n₀:Nat
 F₀:Hp
noncomputable def uf (r:List Addr):List Nat->List Addr->Prop
 |[],as=>as=[]
 |n::l,as=>∃ a t,as=a::t /\ r[n]?=some a /\ uf r l t
theorem uf.mono {r r':List Addr}(p:r <+: r'):∀ {l:List Nat}{as:List Addr},uf r l as->uf r' l as
 |[],_,h=>h
 | n::l,_,h=>by
   obtain⟨a,t,e,h1,h2⟩:=h;refine⟨a,t,e,?_,h2.mono p⟩;obtain⟨u,rfl⟩:=p;rw[cu (List.getElem?_eq_some_iff.mp h1).1];exact h1
def nV (F:Hp):List (List Key×D)->List (List Key×V)->Prop
 |[],r=>r=[]
 |(k,d)::l,r=>∃ v r',r=(k,v)::r' /\ Den F d v /\ nV F l r'
theorem nV.cy {F F':Hp}(s:ue F F'):∀ (l:List (List Key×D)) {vs:List (List Key×V)},nV F l vs->nV F' l vs
 |[],_,h=>h
 | (k,d)::l,_,h=>by
   obtain⟨v,r,e,h1,h2⟩:=h;exact⟨v,r,e,Den.cy s d h1,nV.cy s l h2⟩
theorem nV.mono {F':Hp}(s:Sub F F') (l:List (List Key×D)) {vs:List (List Key×V)}(h:nV F l vs):nV F' l vs:=nV.cy s.d l h
def bD (F:Hp) (E9:List Addr):W->V->Prop
 |.d x,v=>Den F x v
 |.b n,v=>∃ a,v=.ref a /\ E9[n]?=some a
 |.s l,v=>∃ a o,v=.ref a /\ F a=some (.cW o (.lst (l.map V.int)))
 |.x _,_=>False
 |.t l,v=>∃ c as,v=.ref c /\ F c=some (.tup (as.map V.ref)) /\ uf E9 l as
 |.m l,v=>∃ c as,v=.ref c /\ F c=some (.dK (List.zipWith (λk a=>(.inr k.1,V.ref a)) l as)) /\ uf E9 (l.map (·.2)) as
theorem bD.mono {F F':Hp}{r r':List Addr}(s:Sub F F') (p:r <+: r'):∀ (w:W) {v:V},bD F r w v->bD F' r' w v
 |.d x,_,h=>Den.mono s x h
 | .b n,_,h=>by
   obtain⟨a,e,h⟩:=h;refine⟨a,e,?_⟩;obtain⟨t,rfl⟩:=p;rw[cu (List.getElem?_eq_some_iff.mp h).1];exact h
 |.s l,_,h=>let ⟨a,o,e,h⟩:=h;⟨a,o,e,s _ _ h⟩
 |.x _,_,h=>h
 |.t l,_,h=>let ⟨c,as,e,h1,h2⟩:=h;⟨c,as,e,s _ _ h1,h2.mono p⟩
 |.m l,_,h=>let ⟨c,as,e,h1,h2⟩:=h;⟨c,as,e,s _ _ h1,h2.mono p⟩
def vH (F:Hp) (r:List Addr) (n:Nat):D ⊕ Nat->V->Prop
 |.inl d,v=>Den F d v
 |.inr m,v=>m<n /\ ∃ a,v=.ref a /\ r[m]?=some a
def cg (F:Hp) (r:List Addr) (n:Nat):List (Str×(D ⊕ Nat))->List (Str×V)->Prop
 |[],vs=>vs=[]
 |(k,w)::l,vs=>∃ v t,vs=(k,v)::t /\ vH F r n w v /\ cg F r n l t
theorem cg.cy {F F':Hp}{r r':List Addr}{n:Nat}(s:ue F F') (p:∀ m,m<n->∀ a,r[m]?=some a->r'[m]?=some a):∀ (l:List (Str×(D ⊕ Nat))) {vs:List (Str×V)},cg F r n l vs->cg F' r' n l vs
 |[],_,h=>h
 |(k,.inl d)::l,_,⟨v,t,e,h1,h2⟩=>⟨v,t,e,Den.cy s d h1,cg.cy s p l h2⟩
 |(k,.inr m)::l,_,⟨v,t,e,⟨h1,a,h2,h3⟩,h4⟩=>⟨v,t,e,⟨h1,a,h2,p m h1 a h3⟩,cg.cy s p l h4⟩
theorem Cs {r':List Addr}(p:r <+: r') (m:Nat) (a:Addr) (h:r[m]?=some a):r'[m]?=some a:=by
 obtain⟨t,rfl⟩:=p;rw[cu (List.getElem?_eq_some_iff.mp h).1];exact h
def pQ (F:Hp) (r:List Addr) (n:Nat) (H:Hp) (a:Addr):Bx->Prop
 |.lst l=>F a=none /\ ∃ vs,H a=some (.lst vs) /\ aj F l vs
 |.aH l=>F a=none /\ ∃ ay,H a=some (.dK ay) /\ cx F l ay
 |.dead=>∃ u,H a=some u
 |.dT l=>F a=none /\ ∃ ay,H a=some (.dT ay) /\ nV F l ay
 |.fD l=>∃ o ay,F a=some (.cW o (.dK ay)) /\ H a=some (.cW o (.dK ay)) /\ cx F l ay
 |.ins C fs=>F a=none /\ ∃ dx vs,H a=some (.ins C dx vs) /\ cg F r n fs vs
noncomputable abbrev aF:=List (Option W)
noncomputable abbrev xB (n:Nat):Option W:=some (.b n)
noncomputable abbrev xN (i:Int):Option W:=some (.d (.int i))
noncomputable abbrev xJ (l:List Int):Option W:=some (.d (.lst (l.map D.int)))
structure Rel (T:Fr) (F:Hp) (r:List Addr) (σ:St) (H:Hp) (env:aF) (bx:List Bx):Prop where
 fh:Sub F H
 slot:∀ (i:Nat) (w:W),env[i]?=some (some w)->∃ v,σ[i]?=some (some v) /\ bD F r w v
 len:r.length=bx.length
 nd:r.Nodup
 box:∀ (n:Nat) (c:Bx) (a:Addr),bx[n]?=some c->r[n]?=some a->pQ F r n H a c
 keep:∀ a u,T.H₀ a=some u->a∉r->H a=some u
 new:∀ (n:Nat) (a:Addr),T.n₀<=n->r[n]?=some a->T.H₀ a=none
 n0:T.n₀<=r.length
 sl:env.length<=σ.length
 fs:∀ a u,F a=some u->(∃ vs,u=.tup vs) \/ T.F₀ a=some u \/ T.H₀ a=none \/ a∈r
structure aJ (F:Hp) (r:List Addr) (F':Hp) (r':List Addr):Prop where
 s:Sub F F'
 p:r <+: r'
theorem aJ.refl (F:Hp) (r:List Addr):aJ F r F r:=⟨Sub.refl F,kG r⟩
theorem aJ.trans {F F' Sy:Hp}{r r' Sz:List Addr}(a:aJ F r F' r') (b:aJ F' r' Sy Sz):aJ F r Sy Sz:=⟨a.s.trans b.s,a.p.trans b.p⟩
theorem aJ.den {F':Hp}{r':List Addr}(g:aJ F r F' r') {w:W}{v:V}(h:bD F r w v):bD F' r' w v:=h.mono g.s g.p w
inductive O (α:Type) where
 |val (a:α) (bx:List Bx)|exc (c:Nat) (bx:List Bx)|bad
abbrev DE (α:Type):=aF->List Bx->O α
noncomputable def fB {β:Type}(m:O α) (k:α->List Bx->O β):O β :=
 match m with
 |.val a bx=>k a bx
 |.exc c bx=>.exc c bx
 |.bad=>.bad
structure Xs where
 E:XK
 cl:Nat->Addr
noncomputable def End {β:Type}(T:Fr) (Z:Xs) (Rl:Hp->List Addr->α->β->Prop) (F:Hp) (r:List Addr) (σ:St) (env:aF) (Q:β->Hp->Prop):O α->Prop
 |.val d bx'=>∀ F' r' v H',aJ F r F' r'->Rel T F' r' σ H' env bx'->Rl F' r' d v->Q v H'
 |.exc c bx'=>∀ F' r' H',aJ F r F' r'->Rel T F' r' [] H' [] bx'->Z.E (.ref (Z.cl c)) none H'
 |.bad=>False
theorem End.weak {β:Type}{T:Fr}{Z:Xs}{Rl:Hp->List Addr->α->β->Prop}{F':Hp}{r':List Addr}{env:aF}{Q:β->Hp->Prop}(g:aJ F r F' r'):∀ {o:O α},End T Z Rl F r σ env Q o->End T Z Rl F' r' σ env Q o
 |.val _ _,h=>λF2 r2 v H2 g2=>h F2 r2 v H2 (g.trans g2)
 |.exc _ _,h=>λF2 r2 H2 g2=>h F2 r2 H2 (g.trans g2)
 |.bad,h=>h
theorem End.bind {β α' β':Type}{T:Fr}{Z:Xs}{R1:Hp->List Addr->α->β->Prop}{R2:Hp->List Addr->α'->β'->Prop}{env:aF}{Q:β'->Hp->Prop}{Q1:β->Hp->Prop}
 {m:O α}{k:α->List Bx->O α'}(h:End T Z R2 F r σ env Q (fB m k))
 (c:∀ d bx1 F1 r1 v H1,aJ F r F1 r1->Rel T F1 r1 σ H1 env bx1->R1 F1 r1 d v->End T Z R2 F1 r1 σ env Q (k d bx1)->Q1 v H1):End T Z R1 F r σ env Q1 m:=by
 cases m with
 |val d bx=>exact λF' r' v H' g R q=>c d bx F' r' v H' g R q (End.weak g h)
 |exc n bx=>exact h
 |bad=>exact h
theorem Rel.drop {T:Fr}{env:aF}{bx:List Bx}(R:Rel T F r σ H env bx):Rel T F r [] H [] bx :=
 ⟨R.fh,λi w e=>by simp at e,R.len,R.nd,R.box,R.keep,R.new,R.n0,ag _,R.fs⟩
def tD (T:Fr) (Z:Xs) (m:DE W):TE:=λσ H Q=>∃ F r env bx,Rel T F r σ H env bx /\ End T Z bD F r σ env Q (m env bx)
def PD (X:Cx) (T:Fr) (Z:Xs) (e:Expr) (m:DE W):Prop:=PE X e (tD T Z m)
abbrev WX:Hp->List Addr->Bool->Bool->Prop:=λ_ _ a b=>a=b
def rC (T:Fr) (Z:Xs) (m:DE Bool):TT:=λσ H Q=>∃ F r env bx,Rel T F r σ H env bx /\ End T Z WX F r σ env Q (m env bx)
def eB (X:Cx) (T:Fr) (Z:Xs) (e:Expr) (m:DE Bool):Prop:=PT X e (rC T Z m)
def dJ (F:Hp) (r:List Addr):List W->List V->Prop
 |[],vs=>vs=[]
 |w::l,vs=>∃ v t,vs=v::t /\ bD F r w v /\ dJ F r l t
theorem dJ.mono {F F':Hp}{r r':List Addr}(g:aJ F r F' r'):∀ {l:List W}{vs:List V},dJ F r l vs->dJ F' r' l vs
 |[],_,h=>h
 | w::l,_,h=>by
   obtain⟨v,t,e,h1,h2⟩:=h;exact⟨v,t,e,g.den h1,h2.mono g⟩
def vI (T:Fr) (Z:Xs) (m:DE (List W)):TA:=λσ H Q=>∃ F r env bx,Rel T F r σ H env bx /\ End T Z dJ F r σ env Q (m env bx)
def cD (X:Cx) (T:Fr) (Z:Xs) (es:List Expr) (m:DE (List W)):Prop:=PA X es (vI T Z m)
theorem PE.imp {t t':TE}(h:PE X e t) (f:∀ σ H Q,t' σ H Q->t σ H Q):PE X e t':=λpins s σ H Q I q=>h pins s σ H Q I (f σ H Q q)
theorem PT.imp {t t':TT}(h:PT X e t) (f:∀ σ H Q,t' σ H Q->t σ H Q):PT X e t':=λpins s σ H Q I q=>h pins s σ H Q I (f σ H Q q)
theorem PW.imp {t t':TT}(h:PW X e t) (f:∀ σ H Q,t' σ H Q->t σ H Q):PW X e t':=λwhole pins s σ H Q I q=>h whole pins s σ H Q I (f σ H Q q)
theorem PA.imp {e:List Expr}{t t':TA}(h:PA X e t) (f:∀ σ H Q,t' σ H Q->t σ H Q):PA X e t':=λpos pins s σ H Q I q=>h pos pins s σ H Q I (f σ H Q q)
theorem PS.imp {e:Stmt}{t t':TS}(h:PS X e t) (f:∀ Q σ H,t' Q σ H->t Q σ H):PS X e t':=λpins s σ H Q I q=>h pins s σ H Q I (f Q σ H q)
theorem bQ.imp {e:List Stmt}{t t':TS}(h:bQ X e t) (f:∀ Q σ H,t' Q σ H->t Q σ H):bQ X e t':=λpins s σ H Q I q=>h pins s σ H Q I (f Q σ H q)
section
variable {T : Fr} {Z : Xs} {a b c : Expr} {ma mb mc : DE W} 
noncomputable def dV (i:Nat):DE W:=λenv bx=>match env[i]? with|some (some w)=>.val w bx|_=>.bad
theorem Nu (i:Nat) (hN:X.N[i]?=some x:=by rfl) (hv:qt X.env.scope x:=by first|exact Or.inl rfl|exact Or.inr (Or.inl rfl)|exact Or.inr (Or.inr rfl)) (hd:(x==("__debug__":Str))=false:=by decide)
 (cw:(x==("__classdict__":Str))=false:=by decide):PD X T Z (.Name x pos) (dV i):=by
 refine PE.imp (AO hN hv hd cw) λσ H Q ⟨F,r,env,bx,R,h⟩=>?_;unfold dV at h;split at h
 ·rename_i w e;obtain⟨v,e1,e2⟩:=R.slot i w e;exact⟨v,e1,h F r v H (.refl F r) R e2⟩
 ·exact h.elim
noncomputable def dC (d:D):DE W:=λ_ bx=>.val (.d d) bx
theorem BA {d:D}{v:V}(h:PE X e (tC v)) (hd:∀ F,Den F d v):PD X T Z e (dC d):=
 PE.imp h λσ H Q ⟨F,r,env,bx,R,h⟩=>h F r v H (.refl F r) R (hd F)
theorem Nv {i:Int}{j}:PD X T Z (.Constant (.int i) j pos) (dC (.int i)):=BA Ca λ_=>rfl
theorem O6 {i:Bool}{j}:PD X T Z (.Constant (.bool i) j pos) (dC (.bl i)):=BA FS λ_=>rfl
theorem Nw {j}:PD X T Z (.Constant .none j pos) (dC .ae):=BA MY λ_=>rfl
theorem Nx {j}:PD X T Z (.Constant (.str x) j pos) (dC (.str x)):=BA Cb λ_=>rfl
noncomputable def fe:DE (List W):=λ_ bx=>.val [] bx
def fc (m:DE W) (k:DE (List W)):DE (List W):=λenv bx=>fB (m env bx) λw bx1=>fB (k env bx1) λl bx2=>.val (w::l) bx2
theorem lJ:cD X T Z [] fe:=PA.imp fO λσ H Q ⟨F,r,env,bx,R,h⟩=>h F r [] H (.refl F r) R rfl
theorem Gx {k:DE (List W)}(ha:PD X T Z e ma) (hr:cD X T Z es k) (hs:starEach (e::es) X.env=(false,eval e X.env)::starEach es X.env:=by rfl):cD X T Z (e::es) (fc ma k):=by
 refine PA.imp (fj ha hr hs) λσ H Q ⟨F,r,env,bx,R,h⟩=>?_;refine⟨F,r,env,bx,R,End.bind h λw bx1 F1 r1 v H1 g1 R1 d1 h1=>?_⟩;refine⟨F1,r1,env,bx1,R1,End.bind h1 λl bx2 F2 r2 vs H2 g2 R2 d2 h2=>?_⟩;exact h2 F2 r2 _ H2 (.refl F2 r2) R2 ⟨v,vs,rfl,g2.den d1,d2⟩
end
end L2.DL
variable {t tf : L2.DL.DE Bool}{te mb ma : L2.DL.DE L2.DL.W}{m mi : L2.DL.DE (List L2.DL.W)}{env : L2.DL.aF}{T : L2.DL.Fr}{l er : List L2.DL.D}{B bx bx' bx1 : List L2.DL.Bx}{Z : L2.DL.Xs}{fn : List L2.DL.W -> List L2.DL.Bx -> L2.DL.O L2.DL.W}{hd : L2.DL.D}
namespace L2.DL
theorem A0 (h:F p=none):Sub F (upd F p o):=λa u e=>by rw[fq (fE e h)];exact e
theorem Rel.sq (R:Rel T F r σ H env bx) (h:H p=none):F p=none:=by
 cases e:F p with
 |none=>rfl
 |some u=>rw[R.fh p u e]at h;cases h
theorem pQ.there:∀ {c:Bx},pQ F r n H a c->∃ u,H a=some u
 |.lst _,h=>let ⟨_,vs,e,_⟩:=h;⟨_,e⟩
 |.aH _,h=>let ⟨_,vs,e,_⟩:=h;⟨_,e⟩
 |.dead,h=>h
 |.dT _,h=>let ⟨_,vs,e,_⟩:=h;⟨_,e⟩
 |.fD _,h=>let ⟨_,_,_,e,_⟩:=h;⟨_,e⟩
 |.ins _ _,h=>let ⟨_,_,_,e,_⟩:=h;⟨_,e⟩
theorem Rel.rD (R:Rel T F r σ H env bx) (e:r[n]?=some a):∃ c,bx[n]?=some c /\ pQ F r n H a c:=by
 have h:=(List.getElem?_eq_some_iff.mp e).1;rw[R.len]at h;exact⟨_,eY h,R.box n _ a (eY h) e⟩
theorem Rel.vJ (R:Rel T F r σ H env bx) (h:H p=none):p∉r:=λhp=>by
 obtain⟨n,e⟩:=List.mem_iff_getElem?.mp hp;obtain⟨c,_,k⟩:=R.rD e;obtain⟨u,k⟩:=k.there;rw[h]at k;cases k
theorem pQ.grow {F':Hp}{r':List Addr}(s:Sub F F') (p:r <+: r') (hf:F a=none->F' a=none) (hh:∀ u,H a=some u->H' a=some u):∀ {c:Bx},pQ F r n H a c->pQ F' r' n H' a c
 |.lst _,h=>let ⟨h1,vs,h2,h3⟩:=h;⟨hf h1,vs,hh _ h2,aj.mono s _ h3⟩
 |.aH _,h=>let ⟨h1,vs,h2,h3⟩:=h;⟨hf h1,vs,hh _ h2,cx.mono s _ h3⟩
 |.dead,h=>let ⟨u,h⟩:=h;⟨u,hh u h⟩
 |.dT _,h=>let ⟨h1,vs,h2,h3⟩:=h;⟨hf h1,vs,hh _ h2,nV.mono s _ h3⟩
 |.fD _,h=>let ⟨o,vs,h1,h2,h3⟩:=h;⟨o,vs,s _ _ h1,hh _ h2,cx.mono s _ h3⟩
 |.ins _ _,h=>let ⟨h1,dx,vs,h2,h3⟩:=h;⟨hf h1,dx,vs,hh _ h2,cg.cy s.d (λm _ a e=>Cs p m a e) _ h3⟩
theorem Rel.xM (R:Rel T F r σ H env bx) (h:H p=none):Rel T (upd F p o) r σ (upd H p o) env bx:=by
 have hf:=R.sq h;have s:=A0 (o:=o) hf;refine⟨λa u e=>?_,λi w e=>?_,R.len,R.nd,λn c a e1 e2=>?_,λa u e hn=>?_,R.new,R.n0,R.sl,λa u e=>?_⟩
 ·by_cases ha:a=p
  ·subst ha;rw[fw]at e ⊢;exact e
  ·rw[fq ha]at e ⊢;exact R.fh a u e
 ·obtain⟨v,e1,e2⟩:=R.slot i w e;exact⟨v,e1,e2.mono s (kG r)⟩
 ·have k:=R.box n c a e1 e2;obtain⟨u,hu⟩:=k.there;have ha:a≠p:=fE hu h;exact k.grow s (kG r) (λz=>by rw[fq ha];exact z) (λu z=>by rw[fq ha];exact z)
 ·have k:=R.keep a u e hn;rw[fq (fE k h)];exact k
 ·by_cases ha:a=p
  ·subst ha;refine .inr (.inr (.inl ?_));cases q:T.H₀ a with
   |none=>rfl
   |some u=>rw[R.keep a u q (R.vJ h)]at h;cases h
  ·rw[fq ha]at e;exact R.fs a u e
theorem Rel.sr (R:Rel T F r σ H env bx) (h:H p=none):aJ F r (upd F p o) r:=⟨A0 (R.sq h),kG r⟩
theorem Rel.xO (R:Rel T F r σ H env bx) {c:Bx}(h:H p=none) (hc:pQ F r r.length (upd H p o) p c):Rel T F (r++[p]) σ (upd H p o) env (bx++[c]):=by
 have hs:∀ a u,H a=some u->upd H p o a=some u:=λa u e=>by rw[fq (fE e h)];exact e
 refine⟨λa u e=>hs a u (R.fh a u e),λi w e=>?_,by rw[bV,bV,R.len];rfl,?_,λn c' a e1 e2=>?_,λa u e hn=>?_,λn a hn e=>?_,by rw[bV];exact bu R.n0 (tq _ _),R.sl,λa u e=>(R.fs a u e).imp id (Or.imp id (Or.imp id λz=>kD _ z))⟩
 ·obtain⟨v,e1,e2⟩:=R.slot i w e;exact⟨v,e1,e2.mono (Sub.refl F) (ng r [p])⟩
 ·rw[tJ];refine⟨R.nd,by simp,λa ha b hb=>?_⟩;rw[ni]at hb;subst hb;exact λz=>R.vJ h (z▸ha)
 ·by_cases hn:n<r.length
  ·rw[cu hn]at e2;rw[cu (by rw[<-R.len];exact hn)]at e1;exact(R.box n c' a e1 e2).grow (Sub.refl F) (ng r [p]) id (hs a)
  ·rw[cq (by omega)]at e2;rw[cq (by rw[<-R.len];omega)]at e1;have hl:n-r.length=0:=by
    cases q:n-r.length with
    |zero=>rfl
    |succ k=>rw[q]at e2;simp at e2
   have eD:n-bx.length=0:=by rw[<-R.len];exact hl
   rw[hl]at e2;rw[eD]at e1;simp at e1 e2;subst e1 e2;have qv:n=r.length:=by omega
   subst qv;exact hc.grow (Sub.refl F) (ng r _) id λ_ z=>z
 ·exact hs a u (R.keep a u e λz=>hn (kD _ z))
 ·by_cases hl:n<r.length
  ·rw[cu hl]at e;exact R.new n a hn e
  ·have hp:a=p:=by
    rw[cq (by omega)]at e;cases q:n-r.length with
    |zero=>rw[q]at e;simp at e;exact e.symm
    |succ k=>rw[q]at e;simp at e
   subst hp;cases q:T.H₀ a with
   |none=>rfl
   |some u=>rw[R.keep a u q (R.vJ h)]at h;cases h
theorem BB {l:List α}(h:l.Nodup) {x:α}(a:l[i]?=some x) (b:l[j]?=some x):i=j:=by
 have h1:=(List.getElem?_eq_some_iff.mp a).1;have h2:=(List.getElem?_eq_some_iff.mp b).1;exact(List.getElem?_inj h1 h).mp (a.trans b.symm)
theorem Rel.write (R:Rel T F r σ H env bx) {c:Bx}(e:r[n]?=some a) (hF:F a=none) (hc:pQ F r n (upd H a o) a c):Rel T F r σ (upd H a o) env (bx.set n c):=by
 have ha:a∈r:=List.mem_iff_getElem?.mpr ⟨n,e⟩;refine⟨λb u q=>?_,R.slot,by rw[nK];exact R.len,R.nd,λm c' b e1 e2=>?_,λb u q hn=>?_,R.new,R.n0,R.sl,R.fs⟩
 ·by_cases hb:b=a
  ·subst hb;rw[hF]at q;cases q
  ·rw[fq hb];exact R.fh b u q
 ·by_cases hm:m=n
  ·subst hm;rw[e]at e2;cases e2;rw[pC (by rw[<-R.len];exact(List.getElem?_eq_some_iff.mp e).1)]at e1;cases e1;exact hc
  ·rw[pD (Ne.symm hm)]at e1;have hb:b≠a:=λz=>hm (BB R.nd e2 (z▸e));exact(R.box m c' b e1 e2).grow (Sub.refl F) (kG r) id λu z=>by rw[fq hb];exact z
 ·rw[fq (λz=>hn (by rw[z];exact ha))];exact R.keep b u q hn
def ke (F H:Hp):D->V->Prop
 |.lst l,v=>∃ a vs,v=.ref a /\ H a=some (.lst vs) /\ aj F l vs
 |.aH l,v=>∃ a ay,v=.ref a /\ H a=some (.dK ay) /\ cx F l ay
 |.tup l,v=>∃ a vs,v=.ref a /\ F a=some (.tup vs) /\ aj F l vs
 |.ae,v=>v=.ae
 |.bl b,v=>v=.bl b
 |.int i,v=>v=.int i
 |.str x,v=>v=.str x
noncomputable def ba (bx:List Bx):W->Option D
 |.d x=>some x
 | .b n=>match bx[n]? with
   |some (.lst l)=>some (.lst l)
   |some (.aH l)=>some (.aH l)
   |_=>none
 |_=>none
theorem Den.nW (s:Sub F H):∀ {d:D}{v:V},Den F d v->ke F H d v
 |.ae,_,h=>h
 |.bl _,_,h=>h
 |.int _,_,h=>h
 |.str _,_,h=>h
 |.tup l,_,h=>h
 |.lst l,_,h=>let ⟨a,vs,e,h1,h2⟩:=h;⟨a,vs,e,s _ _ h1,h2⟩
 |.aH l,_,h=>let ⟨a,vs,e,h1,h2⟩:=h;⟨a,vs,e,s _ _ h1,h2⟩
theorem Rel.nW (R:Rel T F r σ H env bx) {w:W}{v:V}{d:D}(h:bD F r w v) (e:ba bx w=some d):ke F H d v:=by
 cases w with
 | d x =>
   cases e;exact Den.nW R.fh h
 | b n =>
   obtain⟨a,rfl,ha⟩:=h;obtain⟨c,hc,k⟩:=R.rD ha;simp only[ba,hc]at e;cases c with
   |lst l=>cases e;obtain⟨_,vs,k1,k2⟩:=k;exact⟨a,vs,rfl,k1,k2⟩
   |aH l=>cases e;obtain⟨_,vs,k1,k2⟩:=k;exact⟨a,vs,rfl,k1,k2⟩
   |dead=>cases e
   |dT _=>cases e
   |fD _=>cases e
   |ins _ _=>cases e
 |s l=>cases e
 |x i=>exact h.elim
 |t _=>cases e
 |m _=>cases e
def Ha (F H:Hp):List D->List V->Prop
 |[],vs=>vs=[]
 |d::l,vs=>∃ v t,vs=v::t /\ ke F H d v /\ Ha F H l t
def kP (bx:List Bx):List W->Option (List D)
 |[]=>some []
 |w::l=>(ba bx w).bind λd=>(kP bx l).map λt=>d::t
theorem Rel.SA (R:Rel T F r σ H env bx):∀ {ws:List W}{vs:List V}{ds:List D},dJ F r ws vs->kP bx ws=some ds->Ha F H ds vs
 |[],_,_,h,e=>by cases e;exact h
 | w::l,_,ds,h,e=>by
   obtain⟨v,t,q,h1,h2⟩:=h;unfold kP at e;cases e1:ba bx w with
   |none=>rw[e1]at e;cases e
   | some d =>
     rw[e1]at e;cases e2:kP bx l with
     |none=>rw[e2]at e;cases e
     | some t' =>
       rw[e2]at e;cases e;exact⟨v,t,q,R.nW h1 e1,R.SA h2 e2⟩
inductive Res where
 |old (d:D)|tup (l:List D)|lst (l:List D)|aH (l:List (Key×D))
noncomputable def Res.toD:Res->D
 |.old d=>d|.tup l=>.tup l|.lst l=>.lst l|.aH l=>.aH l
def su (F H:Hp):Res->V->Hp->Prop
 |.old d,v,H'=>H'=H /\ Den F d v
 |.tup l,v,H'=>(H'=H /\ Den F (.tup l) v) \/ ∃ p vs,v=.ref p /\ H p=none /\ H'=upd H p (.tup vs) /\ aj F l vs
 |.lst l,v,H'=>∃ p vs,v=.ref p /\ H p=none /\ H'=upd H p (.lst vs) /\ aj F l vs
 |.aH l,v,H'=>∃ p vs,v=.ref p /\ H p=none /\ H'=upd H p (.dK vs) /\ cx F l vs
theorem Rel.res (R:Rel T F r σ H env bx) {v:V}:∀ {q:Res},su F H q v H'->∃ F',aJ F r F' r /\ Rel T F' r σ H' env bx /\ Den F' q.toD v
 | .old d,h=>by
   obtain⟨rfl,h⟩:=h;exact⟨F,.refl F r,R,h⟩
 | .tup l,h=>by
   rcases h with⟨rfl,h⟩|⟨p,vs,rfl,hp,rfl,h⟩
   ·exact⟨F,.refl F r,R,h⟩
   exact⟨_,R.sr hp,R.xM hp,p,vs,rfl,fw,aj.mono (R.sr (o:=.tup vs) hp).s l h⟩
 | .lst l,h=>by
   obtain⟨p,vs,rfl,hp,rfl,h⟩:=h;exact⟨_,R.sr hp,R.xM hp,p,vs,rfl,fw,aj.mono (R.sr (o:=.lst vs) hp).s l h⟩
 | .aH l,h=>by
   obtain⟨p,vs,rfl,hp,rfl,h⟩:=h;exact⟨_,R.sr hp,R.xM hp,p,vs,rfl,fw,cx.mono (R.sr (o:=.dK vs) hp).s l h⟩
theorem Rel.resB (R:Rel T F r σ H env bx) {v:V}(h:su F H (.lst l) v H'):∃ r',aJ F r F r' /\ Rel T F r' σ H' env (bx++[.lst l]) /\ bD F r' (.b bx.length) v:=by
 obtain⟨p,vs,rfl,hp,rfl,h⟩:=h;refine⟨r++[p],⟨Sub.refl F,ng r [p]⟩,R.xO hp ⟨R.sq hp,vs,fw,h⟩,p,rfl,?_⟩;rw[<-R.len,cq (ag _),eI];rfl
theorem Rel.WY (R:Rel T F r σ H env bx) {v:V}{l:List (Key×D)}(h:su F H (.aH l) v H'):∃ r',aJ F r F r' /\ Rel T F r' σ H' env (bx++[.aH l]) /\ bD F r' (.b bx.length) v:=by
 obtain⟨p,vs,rfl,hp,rfl,h⟩:=h;refine⟨r++[p],⟨Sub.refl F,ng r [p]⟩,R.xO hp ⟨R.sq hp,vs,fw,h⟩,p,rfl,?_⟩;rw[<-R.len,cq (ag _),eI];rfl
def bS (b:Bool):Option Res->List Bx->O W
 |none,_=>.bad
 | some q,bx=>match b,q with
   |true,.lst l=>.val (.b bx.length) (bx++[.lst l])
   |true,.aH l=>.val (.b bx.length) (bx++[.aH l])
   |_,_=>.val (.d q.toD) bx
theorem jv {Q:VK}{b:Bool}{q:Res}{v:V}(R:Rel T F r σ H env bx) (h:End T Z bD F r σ env Q (bS b (some q) bx)) (k:su F H q v H'):Q v H':=by
 have one:End T Z bD F r σ env Q (.val (.d q.toD) bx)->Q v H':=λh=>by
  obtain⟨F',g,R',d⟩:=R.res k;exact h F' r v H' g R' d
 cases b with
 |false=>exact one h
 | true =>
   cases q with
   |old d=>exact one h
   |tup l=>exact one h
   | lst l =>
     obtain⟨r',g,R',d⟩:=R.resB k;exact h F r' v H' g R' d
   | aH l =>
     obtain⟨r',g,R',d⟩:=R.WY k;exact h F r' v H' g R' d
def bp (q:R2) (g:D->D->Option Res):Prop:=∀ (F H:Hp) (x y:D) (v w:V) (Q:VK) (s:Res),Sub F H->ke F H x v->ke F H y w->g x y=some s->(∀ u H',su F H s u H'->Q u H')->q v w H Q
def eE (q:List V->Hp->VK->Prop) (g:List D->Option Res):Prop:=∀ (F H:Hp) (xs:List D) (vs:List V) (Q:VK) (s:Res),Sub F H->Ha F H xs vs->g xs=some s->(∀ u H',su F H s u H'->Q u H')->q vs H Q
def d2 (b:Bool) (g:D->D->Option Res) (ma mb:DE W):DE W:=λenv bx=>fB (ma env bx) λx bx1=>fB (mb env bx1) λy bx2=>bS b ((ba bx2 x).bind λp=>(ba bx2 y).bind λq=>g p q) bx2
theorem Dc {q:R2}{g:D->D->Option Res}{b:Bool}(hg:bp q g) (σ:St) (H:Hp) (Q:VK) (h:tD T Z (d2 b g ma mb) σ H Q):vq q (tD T Z ma) (tD T Z mb) σ H Q:=by
 obtain⟨F,r,env,bx,R,h⟩:=h;refine⟨F,r,env,bx,R,End.bind h λx bx1 F1 r1 v H1 g1 R1 d1 h1=>?_⟩;refine⟨F1,r1,env,bx1,R1,End.bind h1 λy bx2 F2 r2 w H2 g2 R2 WZ h2=>?_⟩;have Hb:=g2.den d1;cases e1:ba bx2 x with
 |none=>rw[e1]at h2;exact h2.elim
 | some p =>
   cases e2:ba bx2 y with
   |none=>rw[e1,e2]at h2;exact h2.elim
   | some z =>
     cases e3:g p z with
     |none=>rw[e1,e2]at h2;simp only[a9,e3]at h2;exact h2.elim
     | some s =>
       rw[e1,e2]at h2;simp only[a9,e3]at h2;exact hg F2 H2 p z v w Q s R2.fh (R2.nW Hb e1) (R2.nW WZ e2) e3 λu H' k=>jv R2 h2 k
def dN (b:Bool) (g:List D->Option Res) (k:DE (List W)):DE W:=λenv bx=>fB (k env bx) λws bx1=>bS b ((kP bx1 ws).bind g) bx1
theorem MH {q:List V->Hp->VK->Prop}{g:List D->Option Res}{b:Bool}{k:DE (List W)}(hg:eE q g) (σ:St) (H:Hp) (Q:VK) (h:tD T Z (dN b g k) σ H Q):ED q (vI T Z k) σ H Q:=by
 obtain⟨F,r,env,bx,R,h⟩:=h;refine⟨F,r,env,bx,R,End.bind h λws bx1 F1 r1 vs H1 g1 R1 d1 h1=>?_⟩;cases e1:kP bx1 ws with
 |none=>rw[e1]at h1;exact h1.elim
 | some ds =>
   rw[e1]at h1;cases e2:g ds with
   |none=>simp only[a9,e2]at h1;exact h1.elim
   | some s =>
     simp only[a9,e2]at h1;exact hg F1 H1 ds vs Q s R1.fh (R1.SA d1 e1) e2 λu H' k=>jv R1 h1 k
end L2.DL
variable {g : L2.DL.D -> L2.DL.D -> Option L2.DL.Res}
namespace L2.DL
section
variable {a b c : Expr} {mc : DE W} {p : Pos}
theorem Ny {op:Operator}{q:R2}(bo:Bool) (ho:aA X (binaryOp op) q) (hg:bp q g) (ha:PD X T Z a ma) (hb:PD X T Z b mb):PD X T Z (.BinOp a op b pos) (d2 bo g ma mb):=
 PE.imp (Bt ho ha hb) (Dc hg)
theorem Nz {q:R2}(ho:aA X (compareOp op) q) (hg:bp q g) (ha:PD X T Z a ma) (hb:PD X T Z b mb) (hm:behindInMarks op b=false):PD X T Z (.Compare a [op] [b] pos) (d2 false g ma mb):=
 PE.imp (JW ho ha hb hm) (Dc hg)
theorem O7 {q:R2}(ho:pN X q) (hg:bp q g) (ha:PD X T Z a ma) (hb:PD X T Z b mb) (hs:xy b):PD X T Z (.Subscript a b pos) (d2 false g ma mb):=
 PE.imp (Gh ho ha hb hs) (Dc hg)
def dB (m:DE W):DE Bool:=λenv bx=>fB (m env bx) λw bx1=>match w with|.d (.bl k)=>.val k bx1|_=>.bad
theorem PZ {Q:Bool->Hp->Prop}(h:rC T Z (dB ma) σ H Q):tB (tD T Z ma) σ H Q:=by
 obtain⟨F,r,env,bx,R,h⟩:=h;refine⟨F,r,env,bx,R,End.bind h λw bx1 F1 r1 v H1 g1 R1 d1 h1=>?_⟩;split at h1
 ·rename_i k;exact⟨k,d1,h1 F1 r1 k H1 (.refl F1 r1) R1 rfl⟩
 ·exact h1.elim
theorem Lg (h:PD X T Z e ma) (he:∀ whole,isTrue e X.env whole=(do let v <-whole;standAt e.pos;holding [v] (truthy v)):=by intro _;rfl):eB X T Z e (dB ma):=
 PT.imp (FT h he) λσ H Q h=>PZ h
theorem Lh {q:R2}(ho:aA X (compareOp op) q) (hg:bp q g) (ha:PD X T Z a ma) (hb:PD X T Z b mb) (hm:behindInMarks op b=false):eB X T Z (.Compare a [op] [b] pos) (dB (d2 false g ma mb)):=by
 refine PT.imp (C4 ho ha hb hm) λσ H Q h=>?_;obtain⟨F,r,env,bx,R,h⟩:=h;refine Dc (T:=T) (Z:=Z) (b:=false) hg σ H _ ⟨F,r,env,bx,R,End.bind h λw bx1 F1 r1 v H1 g1 R1 d1 h1=>?_⟩;split at h1
 ·rename_i k;exact⟨k,d1,h1 F1 r1 k H1 (.refl F1 r1) R1 rfl⟩
 ·exact h1.elim
theorem aj.isEmpty {F:Hp}{l:List D}{vs:List V}(h:aj F l vs):l.isEmpty=vs.isEmpty:=by
 have:=h.length;cases l<;>cases vs<;>simp_all
def d3 (g g':D->D->Option Res) (ma mb mc:DE W):DE W:=λenv bx=>fB (ma env bx) λx bx1=>fB (mb env bx1) λy bx2 =>
 fB (bS false ((ba bx2 x).bind λp=>(ba bx2 y).bind λq=>g p q) bx2) λz bL=>match z with
  |.d (.bl true)=>fB (mc env bL) λw cE=>bS false ((ba cE y).bind λp=>(ba cE w).bind λq=>g' p q) cE
  |.d (.bl false)=>.val (.d (.bl false)) bL
  |_=>.bad
theorem SD {q:R2}(hg:bp q g) {x y:W}{v w:V}{Q:VK}(R:Rel T F r σ H env bx) (dx:bD F r x v) (dy:bD F r y w)
 (h:End T Z bD F r σ env Q (bS false ((ba bx x).bind λp=>(ba bx y).bind λq=>g p q) bx)):q v w H Q:=by
 cases e1:ba bx x with
 |none=>rw[e1]at h;exact h.elim
 | some p =>
   cases e2:ba bx y with
   |none=>rw[e1,e2]at h;exact h.elim
   | some z =>
     cases e3:g p z with
     |none=>rw[e1,e2]at h;simp only[a9,e3]at h;exact h.elim
     | some s =>
       rw[e1,e2]at h;simp only[a9,e3]at h;exact hg F H p z v w Q s R.fh (R.nW dx e1) (R.nW dy e2) e3 λu H' k=>jv R h k
theorem Li {q q':R2}{g':D->D->Option Res}(hg:bp q g) (Hc:bp q' g') {Q:VK}(h:tD T Z (d3 g g' ma mb mc) σ H Q):RI q q' (tD T Z ma) (tD T Z mb) (tD T Z mc) σ H Q:=by
 obtain⟨F,r,env,bx,R,h⟩:=h;refine⟨F,r,env,bx,R,End.bind h λx bx1 F1 r1 v H1 g1 R1 d1 h1=>?_⟩;refine⟨F1,r1,env,bx1,R1,End.bind h1 λy bx2 F2 r2 w H2 g2 R2 d2 h2=>?_⟩;refine SD (T:=T) (Z:=Z) (bx:=bx2) hg R2 (g2.den d1) d2 (End.bind h2 λz bL F3 r3 u H3 g3 R3 d3 h3=>?_);split at h3
 ·refine⟨true,d3,?_⟩;rw[if_pos rfl];refine⟨F3,r3,env,bL,R3,End.bind h3 λt cE F4 r4 s H4 g4 R4 d4 h4=>?_⟩;exact SD (T:=T) (Z:=Z) Hc R4 (g4.den (g3.den d2)) d4 h4
 ·refine⟨false,d3,?_⟩;rw[if_neg (by decide)];exact h3 F3 r3 _ H3 (.refl F3 r3) R3 rfl
 ·exact h3.elim
theorem Gy {eK:CmpOp}{q q':R2}{g':D->D->Option Res}(ho:aA X (compareOp op) q) (nM:aA X (compareOp eK) q') (hg:bp q g) (Hc:bp q' g') (ha:PD X T Z a ma) (hb:PD X T Z b mb) (hc:PD X T Z c mc)
 (hm:lastMarks [op,eK] [b,c]=false:=by with_unfolding_all rfl):PD X T Z (.Compare a [op,eK] [b,c] pos) (d3 g g' ma mb mc):=
 PE.imp (F6 ho nM ha hb hc hm) λσ H Q h=>Li hg Hc h
def Hd (m k:DE Bool):DE Bool:=λenv bx=>fB (m env bx) λb bx1=>match b with|true=>k env bx1|false=>.val false bx1
def dM (m k:DE Bool):DE Bool:=λenv bx=>fB (m env bx) λb bx1=>match b with|true=>.val true bx1|false=>k env bx1
def aS (m:DE Bool):DE Bool:=λenv bx=>fB (m env bx) λb bx1=>.val (!b) bx1
def pR (X:Cx) (T:Fr) (Z:Xs) (e:Expr) (m:DE Bool):Prop:=PW X e (rC T Z m)
variable {ta tb : DE Bool} {rest : List Expr}
theorem Gz (h:eB X T Z a ta):pR X T Z (.BoolOp .And [a] pos) ta:=JT h
theorem Lj (h:eB X T Z a ta):pR X T Z (.BoolOp .Or [a] pos) ta:=FU h
theorem Lk (ha:eB X T Z a ta) (hb:pR X T Z (.BoolOp .And (b::rest) pos) tb):pR X T Z (.BoolOp .And (a::b::rest) pos) (Hd ta tb):=by
 refine PW.imp (MZ ha hb) λσ H Q ⟨F,r,env,bx,R,h⟩=>?_;refine⟨F,r,env,bx,R,End.bind h λk bx1 F1 r1 v H1 g1 R1 d1 h1=>?_⟩;subst d1;cases k with
 |true=>rw[if_pos rfl];exact⟨F1,r1,env,bx1,R1,h1⟩
 |false=>rw[if_neg (by decide)];exact h1 F1 r1 _ H1 (.refl F1 r1) R1 rfl
theorem NA (ha:eB X T Z a ta) (hb:pR X T Z (.BoolOp .Or (b::rest) pos) tb):pR X T Z (.BoolOp .Or (a::b::rest) pos) (dM ta tb):=by
 refine PW.imp (MC ha hb) λσ H Q ⟨F,r,env,bx,R,h⟩=>?_;refine⟨F,r,env,bx,R,End.bind h λk bx1 F1 r1 v H1 g1 R1 d1 h1=>?_⟩;subst d1;cases k with
 |false=>rw[if_neg (by decide)];exact⟨F1,r1,env,bx1,R1,h1⟩
 |true=>rw[if_pos rfl];exact h1 F1 r1 _ H1 (.refl F1 r1) R1 rfl
theorem MI (h:pR X T Z e ta):eB X T Z e ta:=h.pt
theorem Ll (h:eB X T Z a ta):eB X T Z (.UnaryOp .Not a pos) (aS ta):=by
 refine PT.imp (FV h) λσ H Q ⟨F,r,env,bx,R,h⟩=>?_;refine⟨F,r,env,bx,R,End.bind h λk bx1 F1 r1 v H1 g1 R1 d1 h1=>?_⟩;subst d1;exact h1 F1 r1 _ H1 (.refl F1 r1) R1 rfl
def gx (m k:DE W):DE W:=λenv bx=>fB (m env bx) λw bx1=>match w with|.d (.bl true)=>k env bx1|.d (.bl false)=>.val (.d (.bl false)) bx1|_=>.bad
def xQ (m k:DE W):DE W:=λenv bx=>fB (m env bx) λw bx1=>match w with|.d (.bl true)=>.val (.d (.bl true)) bx1|.d (.bl false)=>k env bx1|_=>.bad
def xR (m:DE W):DE W:=λenv bx=>fB (m env bx) λw bx1=>match w with|.d (.bl k)=>.val (.d (.bl (!k))) bx1|_=>.bad
theorem GA {op}(h:PD X T Z a ma):PD X T Z (.BoolOp op [a] pos) ma:=M0 h
theorem NB (ha:PD X T Z a ma) (hb:PD X T Z (.BoolOp .And (b::rest) pos) mb):PD X T Z (.BoolOp .And (a::b::rest) pos) (gx ma mb):=by
 refine PE.imp (M1 ha hb) λσ H Q ⟨F,r,env,bx,R,h⟩=>?_;refine⟨F,r,env,bx,R,End.bind h λw bx1 F1 r1 v H1 g1 R1 d1 h1=>?_⟩;split at h1
 ·refine⟨true,d1,?_⟩;rw[if_pos rfl];exact⟨F1,r1,env,bx1,R1,h1⟩
 ·refine⟨false,d1,?_⟩;rw[if_neg (by decide)];exact h1 F1 r1 _ H1 (.refl F1 r1) R1 rfl
 ·exact h1.elim
theorem O8 (ha:PD X T Z a ma) (hb:PD X T Z (.BoolOp .Or (b::rest) pos) mb):PD X T Z (.BoolOp .Or (a::b::rest) pos) (xQ ma mb):=by
 refine PE.imp (O0 ha hb) λσ H Q ⟨F,r,env,bx,R,h⟩=>?_;refine⟨F,r,env,bx,R,End.bind h λw bx1 F1 r1 v H1 g1 R1 d1 h1=>?_⟩;split at h1
 ·refine⟨true,d1,?_⟩;rw[if_pos rfl];exact h1 F1 r1 _ H1 (.refl F1 r1) R1 rfl
 ·refine⟨false,d1,?_⟩;rw[if_neg (by decide)];exact⟨F1,r1,env,bx1,R1,h1⟩
 ·exact h1.elim
theorem NC (ha:PD X T Z a ma):PD X T Z (.UnaryOp .Not a pos) (xR ma):=by
 refine PE.imp (M2 ha) λσ H Q ⟨F,r,env,bx,R,h⟩=>?_;refine⟨F,r,env,bx,R,End.bind h λw bx1 F1 r1 v H1 g1 R1 d1 h1=>?_⟩;split at h1
 ·rename_i k;exact⟨k,d1,h1 F1 r1 _ H1 (.refl F1 r1) R1 rfl⟩
 ·exact h1.elim
noncomputable def kg:List W->Option (List D)
 |[]=>some []
 |.d x::l=>(kg l).map λt=>x::t
 |_=>none
theorem dJ.ds {F:Hp}{r:List Addr}:∀ {ws:List W}{vs:List V}{ds:List D},dJ F r ws vs->kg ws=some ds->aj F ds vs
 |[],_,_,h,e=>by cases e;exact h
 | .d x::l,_,ds,h,e=>by
   obtain⟨v,t,q,h1,h2⟩:=h;unfold kg at e;cases e2:kg l with
   |none=>rw[e2]at e;cases e
   | some t' =>
     rw[e2]at e;cases e;exact⟨v,t,q,h1,h2.ds e2⟩
 |.b _::l,_,ds,h,e=>by cases e
 |.s _::l,_,ds,h,e=>by cases e
 |.x _::l,_,ds,h,e=>by cases e
 |.t _::l,_,ds,h,e=>by cases e
 |.m _::l,_,ds,h,e=>by cases e
def fG (k:DE (List W)):DE W:=λenv bx=>fB (k env bx) λws bx1=>bS false ((kg ws).bind λl=>if l.length<=sizeLine then some (.tup l) else none) bx1
def iE (bo:Bool) (k:DE (List W)):DE W:=λenv bx=>fB (k env bx) λws bx1=>bS bo ((kg ws).bind λl=>if l.length<=sizeLine then some (.lst l) else none) bx1
theorem ND {x1}{k:DE (List W)}(h:cD X T Z es k):PD X T Z (.Tuple es x1 pos) (fG k):=by
 refine PE.imp (Nf h) λσ H Q ⟨F,r,env,bx,R,h⟩=>?_;refine⟨F,r,env,bx,R,End.bind h λws bx1 F1 r1 vs H1 g1 R1 d1 h1=>?_⟩;cases e:kg ws with
 |none=>rw[e]at h1;exact h1.elim
 | some l =>
   rw[e]at h1;simp only[a9]at h1;split at h1
   ·have dl:=d1.ds e;refine⟨by rw[<-dl.length];assumption,λp hp=>jv R1 h1 (.inr ⟨p,vs,rfl,hp,rfl,dl⟩)⟩
   ·exact h1.elim
theorem NE {k:DE (List W)}(bo:Bool) (h:cD X T Z es k):PD X T Z (.List es pos) (iE bo k):=by
 refine PE.imp (jM h) λσ H Q ⟨F,r,env,bx,R,h⟩=>?_;refine⟨F,r,env,bx,R,End.bind h λws bx1 F1 r1 vs H1 g1 R1 d1 h1=>?_⟩;cases e:kg ws with
 |none=>rw[e]at h1;exact h1.elim
 | some l =>
   rw[e]at h1;simp only[a9]at h1;split at h1
   ·have dl:=d1.ds e;refine⟨by rw[<-dl.length];assumption,λp hp=>jv R1 h1 ⟨p,vs,rfl,hp,rfl,dl⟩⟩
   ·exact h1.elim
theorem GB {id:String}{q:List V->Hp->VK->Prop}{g:List D->Option Res}{k:DE (List W)}(bo:Bool) (hc:cK X (.builtin id) q) (hk:eE q g) (hg:Gl X x) (hm:X.mg x=none) (hv:bootBuiltins x=some (.builtin id)) (ha:cD X T Z (e::es) k)
 (hn:x ≠ "__name__":=by decide) (bB:(x==("__debug__":Str))=false:=by decide)
 (he:starEach (e::es) X.env=(false,eval e X.env)::starEach es X.env:=by rfl) (cA:(backTo pos (starEach es X.env)).any (·.1)=false:=by rfl):PD X T Z (.Call (.Name x p) (e::es) [] pos) (dN bo g k):=
 PE.imp (fQ hc hg hm hv ha hn bB he cA) (MH hk)
theorem Fh {id:String}{q:List V->Hp->VK->Prop}{g:List D->Option Res}{k:DE (List W)}(bo:Bool) (hc:cK X (.type id) q) (hk:eE q g) (hg:Gl X x) (hm:X.mg x=none) (hv:bootBuiltins x=some (.type id)) (ha:cD X T Z (e::es) k)
 (hn:x ≠ "__name__":=by decide) (bB:(x==("__debug__":Str))=false:=by decide)
 (he:starEach (e::es) X.env=(false,eval e X.env)::starEach es X.env:=by rfl) (cA:(backTo pos (starEach es X.env)).any (·.1)=false:=by rfl):PD X T Z (.Call (.Name x p) (e::es) [] pos) (dN bo g k):=
 PE.imp (Fc hc hg hm hv ha hn bB he cA) (MH hk)
def kQ (cl:Nat->Addr) (n:Nat) (fn:List W->List Bx->O W):Sp:=λvs H Q E=>∃ F r ws bx,Rel ⟨H,r.length,F⟩ F r [] H [] bx /\ dJ F r ws vs /\ ws.length=n /\ End ⟨H,r.length,F⟩ ⟨E,cl⟩ bD F r [] [] Q (fn ws bx)
theorem dJ.length {F:Hp}{r:List Addr}:∀ {ws:List W}{vs:List V},dJ F r ws vs->ws.length=vs.length
 | [],_,h=>by
   have e:_=[]:=h;rw[e];rfl
 | d::l,_,h=>by
   obtain⟨v,t,e,_,h2⟩:=h;rw[e,aX,aX,h2.length]
theorem Rel.enter (R:Rel T F r σ H env bx):Rel ⟨H,r.length,F⟩ F r [] H [] bx :=
 ⟨R.fh,λi w e=>by simp at e,R.len,R.nd,R.box,λa u e _=>e,λn a hn e=>(by rw[tE hn]at e;cases e),ag _,ag _,λa u e=>.inr (.inl e)⟩
theorem Rel.after {F':Hp}{r':List Addr}(R:Rel T F r σ H env bx) (g:aJ F r F' r') (R':Rel ⟨H,r.length,F⟩ F' r' [] H' [] bx'):Rel T F' r' σ H' env bx':=by
 have pre:∀ (n:Nat) (a:Addr),r[n]?=some a->r'[n]?=some a:=λn a e=>by
  obtain⟨t,rfl⟩:=g.p;rw[cu (List.getElem?_eq_some_iff.mp e).1];exact e
 have sub:∀ a,a∈r->a∈r':=λa h=>g.p.subset h;refine⟨R'.fh,λi w e=>?_,R'.len,R'.nd,R'.box,λa u e hn=>?_,λn a hn e=>?_,bu R.n0 g.p.length_le,R.sl,λa u e=>?_⟩
 ·obtain⟨v,e1,e2⟩:=R.slot i w e;exact⟨v,e1,g.den e2⟩
 ·exact R'.keep a u (R.keep a u e λz=>hn (sub a z)) hn
 ·by_cases hl:n<r.length
  ·have q:=pre n _ (eY hl);rw[e]at q;cases q;exact R.new n _ hn (eY hl)
  ·have q:H a=none:=R'.new n a (rV hl) e;cases z:T.H₀ a with
   |none=>rfl
   | some u =>
     have hr:a∉r:=λha=>by
      obtain⟨m,em⟩:=List.mem_iff_getElem?.mp ha;have:=BB R'.nd (pre m a em) e;exact hl (by rw[<-this];exact(List.getElem?_eq_some_iff.mp em).1)
     rw[R.keep a u z hr]at q;cases q
 ·rcases R'.fs a u e with z|z|z|z
  ·exact .inl z
  ·exact(R.fs a u z).imp id (Or.imp id (Or.imp id (sub a)))
  ·by_cases ha:a∈r
   ·exact .inr (.inr (.inr (sub a ha)))
   ·refine .inr (.inr (.inl ?_));cases y:T.H₀ a with
    |none=>rfl
    | some u =>
      have z':H a=none:=z;rw[R.keep a u y ha]at z';cases z'
  ·exact .inr (.inr (.inr z))
def fk (fn:List W->List Bx->O W) (n:Nat) (k:DE (List W)):DE W:=λenv bx=>fB (k env bx) λws bx1=>if ws.length=n then fn ws bx1 else .bad
theorem NF {k:DE (List W)}{Q:VK}(h:tD T Z (fk fn n k) σ H Q):Ez (kQ Z.cl n fn) [] Z.E (vI T Z k) σ H Q:=by
 obtain⟨F,r,env,bx,R,h⟩:=h;refine⟨F,r,env,bx,R,End.bind h λws bx1 F1 r1 vs H1 g1 R1 d1 h1=>?_⟩;split at h1
 ·rename_i hl;refine⟨F1,r1,ws,bx1,R1.enter,by rw[pE];exact d1,hl,?_⟩;cases e:fn ws bx1 with
  |val w bx'=>rw[e]at h1;exact λF' r' v H' g R' d=>h1 F' r' v H' g (R1.after g R') d
  |exc c bx'=>rw[e]at h1;exact λF' r' H' g R'=>h1 F' r' H' g (R1.after g R').drop
  |bad=>rw[e]at h1;exact h1
 ·exact h1.elim
theorem Lm {ps:List Str}(G:bA X.prog X.w X.K X.mg X.base (bK X.prog X.w) k f fd ps (kQ Z.cl ps.length fn)) (hr:aO k X.A) (hg:Gl X x) (hm:X.mg x=some (.ref f))
 (hk:PySem.W.keepIn X.K (.ref f)=true) (hb:Binds X.K fd ps []) (hx:Passes (bK X.prog X.w) X Z.E) (ha:cD X T Z (e::es) m) (bB:(x==("__debug__":Str))=false:=by decide)
 (he:starEach (e::es) X.env=(false,eval e X.env)::starEach es X.env:=by rfl) (cA:(backTo pos (starEach es X.env)).any (·.1)=false:=by rfl):PD X T Z (.Call (.Name x p) (e::es) [] pos) (fk fn ps.length m):=
 PE.imp (J0 G hr hg hm hk hb .nil hx ha bB he cA) λσ H Q h=>NF h
end
inductive OS where
 |nx (env:aF) (bx:List Bx)|rt (w:W) (bx:List Bx)|bk (env:aF) (bx:List Bx)|ct (env:aF) (bx:List Bx)|exc (c:Nat) (bx:List Bx)|bad
abbrev af:=aF->List Bx->OS
def dO (T:Fr) (Z:Xs) (F:Hp) (r:List Addr) (D:Ends):OS->Prop
 |.nx au bx'=>∀ F' r' σ' H',aJ F r F' r'->Rel T F' r' σ' H' au bx'->D.nx σ' H'
 |.rt w bx'=>∀ F' r' v H',aJ F r F' r'->Rel T F' r' [] H' [] bx'->bD F' r' w v->D.rt v H'
 |.bk au bx'=>∀ F' r' σ' H',aJ F r F' r'->Rel T F' r' σ' H' au bx'->D.bk σ' H'
 |.ct au bx'=>∀ F' r' σ' H',aJ F r F' r'->Rel T F' r' σ' H' au bx'->D.ct σ' H'
 |.exc c bx'=>∀ F' r' H',aJ F r F' r'->Rel T F' r' [] H' [] bx'->Z.E (.ref (Z.cl c)) none H'
 |.bad=>False
theorem dO.weak {F':Hp}{r':List Addr}{D:Ends}(g:aJ F r F' r'):∀ {o:OS},dO T Z F r D o->dO T Z F' r' D o
 |.nx _ _,h=>λF2 r2 s2 H2 g2=>h F2 r2 s2 H2 (g.trans g2)
 |.rt _ _,h=>λF2 r2 s2 H2 g2=>h F2 r2 s2 H2 (g.trans g2)
 |.bk _ _,h=>λF2 r2 s2 H2 g2=>h F2 r2 s2 H2 (g.trans g2)
 |.ct _ _,h=>λF2 r2 s2 H2 g2=>h F2 r2 s2 H2 (g.trans g2)
 |.exc _ _,h=>λF2 r2 H2 g2=>h F2 r2 H2 (g.trans g2)
 |.bad,h=>h
noncomputable def bF (m:O α) (k:α->List Bx->OS):OS :=
 match m with
 |.val a bx=>k a bx
 |.exc c bx=>.exc c bx
 |.bad=>.bad
theorem End.bF {β:Type}{R1:Hp->List Addr->α->β->Prop}{D:Ends}{Q1:β->Hp->Prop}
 {m:O α}{k:α->List Bx->OS}(h:dO T Z F r D (DL.bF m k))
 (c:∀ d bx1 F1 r1 v H1,aJ F r F1 r1->Rel T F1 r1 σ H1 env bx1->R1 F1 r1 d v->dO T Z F1 r1 D (k d bx1)->Q1 v H1):End T Z R1 F r σ env Q1 m:=by
 cases m with
 |val d bx=>exact λF' r' v H' g R q=>c d bx F' r' v H' g R q (dO.weak g h)
 |exc n bx=>exact h
 |bad=>exact h
def tS (T:Fr) (Z:Xs) (m:af):TS:=λD σ H=>∃ F r env bx,Rel T F r σ H env bx /\ dO T Z F r D (m env bx)
def cM (X:Cx) (T:Fr) (Z:Xs) (s:Stmt) (m:af):Prop:=PS X s (tS T Z m)
def nX (X:Cx) (T:Fr) (Z:Xs) (s:List Stmt) (m:af):Prop:=bQ X s (tS T Z m)
section
variable {a b c : Expr} {mc : DE W} {p : Pos} {st : Stmt} {rest : List Stmt} {m k : af} {tc : DE Bool}
noncomputable def aT:af:=λenv bx=>.nx env bx
noncomputable def fI (m k:af):af:=λenv bx=>match m env bx with|.nx env1 bx1=>k env1 bx1|o=>o
theorem Ln:nX X T Z [] aT:=bQ.imp CY λD σ H ⟨F,r,env,bx,R,h⟩=>h F r σ H (.refl F r) R
theorem GC (h1:cM X T Z st m) (h2:nX X T Z rest k):nX X T Z (st::rest) (fI m k):=by
 refine bQ.imp (gT h1 h2) λD σ H ⟨F,r,env,bx,R,h⟩=>⟨F,r,env,bx,R,?_⟩;unfold fI at h;cases e:m env bx with
 |nx env1 bx1=>rw[e]at h;exact λF1 r1 σ1 H1 g R1=>⟨F1,r1,env1,bx1,R1,dO.weak g h⟩
 |rt w bx1=>rw[e]at h;exact h
 |bk env1 bx1=>rw[e]at h;exact h
 |ct env1 bx1=>rw[e]at h;exact h
 |exc c bx1=>rw[e]at h;exact h
 |bad=>rw[e]at h;exact h
theorem Lo (h1:cM X T Z st m):nX X T Z [st] m:=lF h1
def ij (m:DE W):af:=λenv bx=>bF (m env bx) λ_ bx1=>.nx env bx1
theorem GD (h:PD X T Z e ma) (hs:swapsWith e none pos.line X.env=pure false:=by rfl):cM X T Z (.Expr e pos) (ij ma):=by
 refine PS.imp (CZ h hs) λD σ H ⟨F,r,env,bx,R,h⟩=>?_;exact⟨F,r,env,bx,R,End.bF h λw bx1 F1 r1 v H1 g1 R1 d1 h1=>h1 F1 r1 σ H1 (.refl F1 r1) R1⟩
def fY (m:DE W):af:=λenv bx=>bF (m env bx) λw bx1=>.rt w bx1
theorem Lp (h:PD X T Z e ma):cM X T Z (.Return (some e) pos) (fY ma):=by
 refine PS.imp (AQ h) λD σ H ⟨F,r,env,bx,R,h⟩=>?_;exact⟨F,r,env,bx,R,End.bF h λw bx1 F1 r1 v H1 g1 R1 d1 h1=>h1 F1 r1 v H1 (.refl F1 r1) R1.drop d1⟩
def aM (t:DE Bool) (m k:af):af:=λenv bx=>bF (t env bx) λb bx1=>match b with|true=>m env bx1|false=>k env bx1
theorem NG {sa sb:List Stmt}(hc:eB X T Z c tc) (ha:nX X T Z sa m) (hb:nX X T Z sb k):cM X T Z (.If c sa sb pos) (aM tc m k):=by
 refine PS.imp (MD hc ha hb) λD σ H ⟨F,r,env,bx,R,h⟩=>?_;refine⟨F,r,env,bx,R,End.bF h λw bx1 F1 r1 v H1 g1 R1 d1 h1=>?_⟩;subst d1;cases w with
 |true=>rw[if_pos rfl];exact⟨F1,r1,env,bx1,R1,h1⟩
 |false=>rw[if_neg (by decide)];exact⟨F1,r1,env,bx1,R1,h1⟩
abbrev DG:=W->aF->List Bx->Option (aF×List Bx)
abbrev kh:=List W->aF->List Bx->Option (aF×List Bx)
noncomputable def SE (T:Fr) (F:Hp) (r:List Addr) (Q:St->Hp->Prop):Option (aF×List Bx)->Prop
 |none=>False
 |some (au,bx')=>∀ F' r' σ' H',aJ F r F' r'->Rel T F' r' σ' H' au bx'->Q σ' H'
def tG (T:Fr) (g:DG):TG:=λv σ H Q=>∃ F r env bx w,Rel T F r σ H env bx /\ bD F r w v /\ SE T F r Q (g w env bx)
def W0 (T:Fr) (g:kh):qx:=λvs σ H Q=>∃ F r env bx ws,Rel T F r σ H env bx /\ dJ F r ws vs /\ SE T F r Q (g ws env bx)
def kR (X:Cx) (T:Fr) (tg:Expr) (g:DG):Prop:=PG X tg (tG T g)
def qF (X:Cx) (T:Fr) (tg:List Expr) (g:kh):Prop:=pL X tg (W0 T g)
theorem PG.imp {t t':TG}(h:PG X tg t) (f:∀ v σ H Q,t' v σ H Q->t v σ H Q):PG X tg t':=λpins s σ H v u Q I r q=>h pins s σ H v u Q I r (f v σ H Q q)
theorem pL.imp {tg:List Expr}{t t':qx}(h:pL X tg t) (f:∀ v σ H Q,t' v σ H Q->t v σ H Q):pL X tg t':=λpins s σ H v u Q I r q=>h pins s σ H v u Q I r (f v σ H Q q)
noncomputable def fg (i:Nat):DG:=λw env bx=>some (env.set i (some w),bx)
theorem Rel.set {F H:Hp}{r:List Addr}{σ:St}{env:aF}{bx:List Bx}(R:Rel T F r σ H env bx) {w:W}{v:V}(d:bD F r w v) (i:Nat):Rel T F r (σ.set i (some v)) H (env.set i (some w)) bx:=by
 refine⟨R.fh,λj w' e=>?_,R.len,R.nd,R.box,R.keep,R.new,R.n0,by rw[nK,nK];exact R.sl,R.fs⟩;by_cases hj:j=i
 ·subst hj;have hl:j<env.length:=by
   have:=(List.getElem?_eq_some_iff.mp e).1;rw[nK]at this;exact this
  rw[pC hl]at e;cases e;exact⟨v,pC (cG hl R.sl),d⟩
 ·rw[pD (Ne.symm hj)]at e;obtain⟨u,e1,e2⟩:=R.slot j w' e;exact⟨u,by rw[pD (Ne.symm hj)];exact e1,e2⟩
theorem GE (i:Nat) (hN:X.N.Nodup) (hi:X.N[i]?=some x:=by rfl) (hx:Loc X.env.scope x:=by first|exact Or.inl rfl|exact Or.inr rfl) (hf:X.fn x=true \/ X.env.scope.names.lookup x=some .local:=by first|exact .inl rfl|exact .inr rfl|assumption):kR X T (.Name x pos) (fg i):=
 PG.imp (JU hN hi hx hf) λv σ H Q ⟨F,r,env,bx,w,R,d,h⟩=>h F r _ H (.refl F r) (R.set d i)
noncomputable def jH:kh:=λws env bx=>match ws with|[]=>some (env,bx)|_=>none
noncomputable def f8 (g:DG) (k:kh):kh:=λws env bx=>match ws with|w::l=>(g w env bx).bind λ(env1,bx1)=>k l env1 bx1|_=>none
theorem GF:qF X T [] jH:=pL.imp JV λv σ H Q ⟨F,r,env,bx,w,R,d,h⟩=>by
 cases w with
 |nil=>exact⟨d,h F r σ H (.refl F r) R⟩
 |cons _ _=>exact h.elim
theorem Fi {g:DG}{k:kh}(h1:kR X T e g) (h2:qF X T es k) (hs:(assignEach (e::es) X.env).map (·.2)=assign e X.env::(assignEach es X.env).map (·.2):=by rfl):qF X T (e::es) (f8 g k):=by
 refine pL.imp (FW h1 h2 hs) λv σ H Q ⟨F,r,env,bx,ws,R,d,h⟩=>?_;cases ws with
 |nil=>exact h.elim
 | cons w l =>
   obtain⟨u,t,rfl,d1,d2⟩:=d;refine⟨u,t,rfl,F,r,env,bx,w,R,d1,?_⟩;unfold f8 at h;cases eg:g w env bx with
   |none=>simp only[eg]at h;exact h.elim
   | some o =>
     obtain⟨env1,bx1⟩:=o;simp only[eg,a9]at h;intro F1 r1 σ1 H1 g1 R1;refine⟨F1,r1,env1,bx1,l,R1,d2.mono g1,?_⟩;cases ek:k l env1 bx1 with
     |none=>simp only[ek]at h;exact h.elim
     | some o2 =>
       simp only[ek]at h;exact λF2 r2 σ2 H2 g2 R2=>h F2 r2 σ2 H2 (g1.trans g2) R2
theorem aj.ws {F:Hp}{r:List Addr}:∀ {l:List D}{vs:List V},aj F l vs->dJ F r (l.map W.d) vs
 |[],_,h=>h
 | d::l,_,h=>by
   obtain⟨v,t,e,h1,h2⟩:=h;exact⟨v,t,e,h1,h2.ws⟩
noncomputable def iP (n:Nat) (k:kh):DG:=λw env bx=>match w with|.d (.tup l)=>if l.length=n then k (l.map W.d) env bx else none|_=>none
theorem Lq {k:kh}(hc:X.calm=true) (h:qF X T es k) (hn:(assignEach es X.env).length=n:=by rfl) (nu:(assignEach es X.env).findIdx? (·.1)=none:=by rfl):kR X T (.Tuple es i pos) (iP n k):=by
 refine PG.imp (M3 hc h hn nu) λv σ H Q ⟨F,r,env,bx,w,R,d,h⟩=>?_;unfold iP at h;split at h
 ·rename_i l;split at h
  ·rename_i hl;obtain⟨p,vs,rfl,h1,h2⟩:=d;exact⟨p,vs,rfl,.of (R.fh _ _ h1),by rw[<-h2.length];exact hl,F,r,env,bx,_,R,h2.ws,h⟩
  ·exact h.elim
 ·exact h.elim
def gc (m:DE W) (g:DG):af:=λenv bx=>bF (m env bx) λw bx1=>match g w env bx1 with|some (env1,bx2)=>.nx env1 bx2|none=>.bad
theorem O9 {g:DG}{D:Ends}(h:tS T Z (gc ma g) D σ H):Eo (tD T Z ma) (tG T g) D σ H:=by
 obtain⟨F,r,env,bx,R,h⟩:=h;refine⟨F,r,env,bx,R,End.bF h λw bx1 F1 r1 v H1 g1 R1 d1 h1=>⟨F1,r1,env,bx1,w,R1,d1,?_⟩⟩;cases eg:g w env bx1 with
 |none=>simp only[eg]at h1;exact h1.elim
 |some o=>simp only[eg]at h1;exact h1
theorem Dd {g:DG}(he:PD X T Z e ma) (hg:kR X T tg g) (hs:swapsWithSole [tg] e pos.line X.env=pure false:=by rfl) (hw:swappedStores [tg] e X.env=pure none:=by rfl)
 (h1:(assignEach [tg] X.env).map (·.2)=[assign tg X.env]:=by rfl):cM X T Z (.Assign [tg] e pos) (gc ma g):=
 PS.imp (M5 he hg hs hw h1) λD σ H h=>O9 h
theorem Lr (i:Nat) {pos':Pos}(he:PD X T Z e ma) (hN:X.N.Nodup) (hi:X.N[i]?=some x:=by rfl) (hx:Loc X.env.scope x:=by first|exact Or.inl rfl|exact Or.inr rfl) (hs:swapsWith e (some (.Name x pos')) pos.line X.env=pure false:=by rfl) (hf:X.fn x=true \/ X.env.scope.names.lookup x=some .local:=by first|exact .inl rfl|exact .inr rfl|assumption) :
 cM X T Z (.Assign [.Name x pos'] e pos) (gc ma (fg i)):=by
 refine PS.imp (lZ hN hi hx he hs hf) λD σ H ⟨F,r,env,bx,R,h⟩=>?_;exact⟨F,r,env,bx,R,End.bF h λw bx1 F1 r1 v H1 g1 R1 d1 h1=>h1 F1 r1 _ H1 (.refl F1 r1) (R1.set d1 i)⟩
def vK (i j:Nat) (m:DE (List W)):af:=λenv bx=>bF (m env bx) λws bx1=>match ws with|[x,y]=>.nx ((env.set i (some x)).set j (some y)) bx1|_=>.bad
theorem Pa {m:DE (List W)}{D:Ends}(h:tS T Z (vK i j m) D σ H):Ry i j (vI T Z m) D σ H:=by
 obtain⟨F,r,env,bx,R,h⟩:=h;refine⟨F,r,env,bx,R,End.bF h λws bx1 F1 r1 vs H1 g1 R1 d1 h1=>?_⟩;split at h1
 ·obtain⟨v,t,rfl,q1,u,t2,rfl,q2,q3⟩:=d1;cases (show t2=[] from q3);exact⟨v,u,rfl,h1 F1 r1 _ H1 (.refl F1 r1) ((R1.set q1 i).set q2 j)⟩
 ·exact h1.elim
def sv (F:Hp) (r:List Addr) (ds:List W) (J:It):Prop :=
 ∀ (T:Fr) (i:Nat) (F1:Hp) (r1:List Addr) (σ1:St) (H1:Hp) (env1:aF) (bx1:List Bx),aJ F r F1 r1->Rel T F1 r1 σ1 H1 env1 bx1 ->
  (ds.length=i->J.stop i H1) /\ ∀ w,ds[i]?=some w->J.go i H1 /\ ∀ x H2,J.vm i H1 x H2->∃ F2,aJ F1 r1 F2 r1 /\ Rel T F2 r1 σ1 H2 env1 bx1 /\ bD F2 r1 w x
def tI (T:Fr) (Z:Xs) (m:DE (List W)):TI:=λσ H R=>∃ F r env bx,Rel T F r σ H env bx /\ End T Z sv F r σ env R (m env bx)
def rE (X:Cx) (T:Fr) (Z:Xs) (tg iter:Expr) (m:DE (List W)):Prop:=PI X tg iter (tI T Z m)
theorem PI.imp {t t':TI}(h:PI X tg iter t) (f:∀ σ H Q,t' σ H Q->t σ H Q):PI X tg iter t':=λpins s σ H R I q=>h pins s σ H R I (f σ H R q)
noncomputable def cP (g:DG) (body:af):List W->af
 |[],env,bx=>.nx env bx
 | w::l,env,bx=>match g w env bx with
   |none=>.bad
   | some (env1,bx1)=>match body env1 bx1 with
     |.nx bT bx2=>cP g body l bT bx2
     |.ct bT bx2=>cP g body l bT bx2
     |.bk bT bx2=>.nx bT bx2
     |o=>o
def jg (m:DE (List W)) (g:DG) (body:af):af:=λenv bx=>bF (m env bx) λds bx1=>cP g body ds env bx1
theorem Pb {g:DG}{D:Ends}{H1 F1:Hp}{r1:List Addr}{ds:List W}{J:It}(R1:Rel T F1 r1 σ H1 env bx1) (y1:sv F1 r1 ds J) (h1:dO T Z F1 r1 D (cP g m ds env bx1)) :
 ∃ W:Nat->Nat->St->Hp->Prop,(∃ m,W 0 m σ H1) /\ ∀ i n σ H,W i n σ H->(J.stop i H /\ D.nx σ H) \/ (J.go i H /\ ∃ N:St->Hp->Prop,(∀ σ' H',N σ' H'->∃ n',n'<n /\ W (i+1) n' σ' H') /\ ∀ x H',J.vm i H x H'->tG T g x σ H' λσ2 H2=>tS T Z m { D with nx:=N,ct:=N,bk:=D.nx } σ2 H2):=by
 refine⟨λi n σ' H'=>∃ pre l F' r' au bx',ds=pre++l /\ pre.length=i /\ n=l.length /\ aJ F1 r1 F' r' /\ Rel T F' r' σ' H' au bx' /\ dO T Z F' r' D (cP g m l au bx'),⟨ds.length,[],ds,F1,r1,env,bx1,rfl,rfl,rfl,.refl F1 r1,R1,h1⟩,?_⟩;rintro i n σ' H' ⟨pre,l,F',r',au,bx',kM,hi,hn,g',R',h'⟩;obtain⟨ys,yg⟩:=y1 T i F' r' σ' H' au bx' g' R';cases l with
 |nil=>exact .inl ⟨ys (by rw[kM,pE];omega),h' F' r' σ' H' (.refl F' r') R'⟩
 | cons w l =>
   obtain⟨go,yl⟩:=yg w (by rw[kM,cq (by omega),hi,eI];rfl);refine .inr ⟨go,λσ2 H2=>∃ F2 r2 bT bx2,aJ F1 r1 F2 r2 /\ Rel T F2 r2 σ2 H2 bT bx2 /\ dO T Z F2 r2 D (cP g m l bT bx2),λσ2 H2 ⟨F2,r2,bT,bx2,g2,R2,h2⟩=>⟨l.length,by rw[hn];exact nJ _,pre++[w],l,F2,r2,bT,bx2,by rw[kM,zG];rfl,by rw[bV,hi];rfl,rfl,g2,R2,h2⟩,λx H2 hy=>?_⟩;obtain⟨F2,g2,R2,d2⟩:=yl x H2 hy;refine⟨F2,r',au,bx',w,R2,d2,?_⟩;simp only[cP]at h';cases eg:g w au bx' with
   |none=>simp only[eg]at h';exact h'.elim
   | some o =>
     obtain⟨qG,bL⟩:=o;simp only[eg]at h';intro F3 r3 σ3 H3 g3 R3;refine⟨F3,r3,qG,bL,R3,?_⟩;have gg:=(g'.trans g2).trans g3;cases em:m qG bL with
     |nx xS cE=>simp only[em]at h';exact λF4 r4 σ4 H4 g4 R4=>⟨F4,r4,xS,cE,gg.trans g4,R4,dO.weak ((g2.trans g3).trans g4) h'⟩
     |ct xS cE=>simp only[em]at h';exact λF4 r4 σ4 H4 g4 R4=>⟨F4,r4,xS,cE,gg.trans g4,R4,dO.weak ((g2.trans g3).trans g4) h'⟩
     |bk xS cE=>simp only[em]at h';exact λF4 r4 σ4 H4 g4 R4=>h' F4 r4 σ4 H4 ((g2.trans g3).trans g4) R4
     |rt w cE=>simp only[em]at h';exact dO.weak (g2.trans g3) (o:=.rt w cE) h'
     |exc c cE=>simp only[em]at h';exact dO.weak (g2.trans g3) (o:=.exc c cE) h'
     |bad=>simp only[em]at h';exact h'
theorem Pc {g:DG}{D:Ends}(h:tS T Z (jg mi g m) D σ H):RC (tI T Z mi) (tG T g) (tS T Z m) D σ H:=by
 obtain⟨F,r,env,bx,R,h⟩:=h;exact⟨F,r,env,bx,R,End.bF h λds bx1 F1 r1 J H1 g1 R1 y1 h1=>Pb R1 y1 h1⟩
theorem Ls {body:List Stmt}{g:DG}(hp:PassesOwn (model X.prog X.w) X.A X.env X.xe) (hc:X.calm=true) (hi:rE X T Z tg iter mi) (hg:kR X T tg g) (hb:nX X T Z body m)
 (hs:∀ x,foldedSetIterable iter X.env x=pure x:=by intro _;rfl):cM X T Z (.For tg iter body [] pos) (jg mi g m):=
 PS.imp (M7 hp hc hi hg hb hs) λD σ H h=>Pc h
def bY (m:DE W):DE (List W):=λenv bx=>fB (m env bx) λw bx1=>match w with|.d (.lst l)=>.val (l.map W.d) bx1|.d (.tup l)=>.val (l.map W.d) bx1|_=>.bad
end
noncomputable def kS:OS->O W
 |.rt w bx=>.val w bx
 |.nx _ bx=>.val (.d .ae) bx
 |.exc c bx=>.exc c bx
 |_=>.bad
noncomputable def kT (n:Nat):O W->O W
 |.val (.d x) bx=>.val (.d x) (bx.take n)
 |.val w bx=>.val w bx
 |.exc c bx=>.exc c (bx.take n)
 |.bad=>.bad
noncomputable def envOf (n:Nat) (ws:List W):aF:=ws.map some++List.replicate (n-ws.length) none
def aD (n:Nat) (m:af):List W->List Bx->O W:=λws bx=>kT bx.length (kS (m (envOf n ws) bx))
noncomputable def aK (m:af):af:=λenv bx=>match m env bx with|.exc _ _=>.bad|o=>o
theorem dJ.get {F:Hp}{r:List Addr}:∀ {l:List W}{vs:List V}{i:Nat}{d:W},dJ F r l vs->l[i]?=some d->∃ v,vs[i]?=some v /\ bD F r d v
 |[],_,_,_,_,e=>by simp at e
 | x::l,_,0,d,h,e=>by
   obtain⟨v,t,q,h1,_⟩:=h;simp at e;subst e;subst q;exact⟨v,rfl,h1⟩
 | x::l,_,i+1,d,h,e=>by
   obtain⟨v,t,q,_,h2⟩:=h;subst q;obtain⟨u,e1,e2⟩:=dJ.get (i:=i) h2 (by simpa using e);exact⟨u,by simpa using e1,e2⟩
theorem Rel.start {T:Fr}{F H:Hp}{r:List Addr}{bx:List Bx}{N:List Str}{ws:List W}{vs:List V}(R:Rel T F r [] H [] bx) (d:dJ F r ws vs):Rel T F r (start N vs) H (envOf N.length ws) bx:=by
 have hl:=d.length;refine⟨R.fh,λi w e=>?_,R.len,R.nd,R.box,R.keep,R.new,R.n0,?_,R.fs⟩
 ·unfold envOf at e;unfold L2.start;by_cases hi:i<ws.length
  ·rw[cu (by rw[aL];exact hi),qh]at e;cases q:ws[i]? with
   |none=>rw[q]at e;cases e
   | some w' =>
     rw[q]at e;cases e;obtain⟨v,e1,e2⟩:=d.get q;refine⟨v,?_,e2⟩;rw[cu (by rw[aL,<-hl];exact hi),qh,e1];rfl
  ·rw[cq (by rw[aL];omega)]at e;rw[K6]at e;split at e<;>cases e
 ·unfold envOf L2.start;rw[bV,bV,aL,aL,zC,zC,hl];exact ag _
theorem GG {l l':List α}(h:l <+: l'):l'.take l.length=l:=by
 obtain⟨t,rfl⟩:=h;simp
theorem Rel.cut {F':Hp}{r':List Addr}(g:aJ F r F' r') (R:Rel ⟨H,r.length,F⟩ F' r' [] H' [] bx'):Rel ⟨H,r.length,F⟩ F' r [] H' [] (bx'.take r.length):=by
 have hr:r'.take r.length=r:=GG g.p;have hle:r.length<=r'.length:=g.p.length_le;have pre:∀ (n:Nat) (a:Addr),r[n]?=some a->r'[n]?=some a:=λn a e=>by
  obtain⟨t,rfl⟩:=g.p;rw[cu (List.getElem?_eq_some_iff.mp e).1];exact e
 refine⟨R.fh,λi w e=>by simp at e,?_,?_,λn c a e1 e2=>?_,λa u e hn=>?_,λn a hn e=>?_,ag _,ag _,λa u e=>?_⟩
 ·rw[wH,<-R.len];omega
 ·exact List.Sublist.nodup (List.IsPrefix.sublist g.p) R.nd
 ·have eQ:=(List.getElem?_eq_some_iff.mp e2).1;rw[K7 eQ]at e1;have k:=R.box n c a e1 (pre n a e2);cases c with
  |ins _ _=>obtain⟨q1,dx,vs,q2,q3⟩:=k;exact⟨q1,dx,vs,q2,cg.cy (Sub.refl F').d (λm hm b e=>by
   have q:=pre m _ (eY (tm hm eQ));rw[e]at q;rw[eY (tm hm eQ)];exact q.symm) _ q3⟩
  |_=>exact k
 ·refine R.keep a u e λz=>?_;obtain⟨m,em⟩:=List.mem_iff_getElem?.mp z;by_cases hm:m<r.length
  ·have q:=pre m _ (eY hm);rw[em]at q;cases q;exact hn (wM hm)
  ·have q:=R.new m a (rV hm) em;have e':H a=some u:=e;have q':H a=none:=q;rw[e']at q';cases q'
 ·rw[tE hn]at e;cases e
 ·rcases R.fs a u e with y|z|z|z
  ·exact .inl y
  ·exact .inr (.inl z)
  ·exact .inr (.inr (.inl z))
  ·obtain⟨m,em⟩:=List.mem_iff_getElem?.mp z;by_cases hm:m<r.length
   ·have q:=pre m _ (eY hm);rw[em]at q;cases q;exact .inr (.inr (.inr (wM hm)))
   ·exact .inr (.inr (.inl (R.new m a (rV hm) em)))
theorem De {Q:VK}(hb:bx.length=r.length) {o:O W}(h:End ⟨H,r.length,F⟩ Z bD F r [] [] Q (kT bx.length o)):End ⟨H,r.length,F⟩ Z bD F r [] [] Q o:=by
 rw[hb]at h;cases o with
 |bad=>exact h
 |exc c bx1=>exact λF' r' H' g R=>h F' r H' ⟨g.s,kG r⟩ (R.cut g)
 | val w bx1 =>
   cases w with
   |d x=>exact λF' r' v H' g R d=>h F' r v H' ⟨g.s,kG r⟩ (R.cut g) d
   |b n=>exact h
   |s l=>exact h
   |x i=>exact h
   |t _=>exact h
   |m _=>exact h
theorem Df {Q:VK}{o:OS}(h:End T Z bD F r [] [] Q (kS o)):dO T Z F r { nx:=λ_ H'=>Q .ae H',rt:=Q } o:=by
 cases o with
 |nx env bx=>exact λF' r' σ' H' g R=>h F' r' .ae H' g R.drop rfl
 |rt w bx=>exact λF' r' v H' g R d=>h F' r' v H' g R d
 |exc c bx=>exact h
 |bk env bx=>exact(show False from h).elim
 |ct env bx=>exact(show False from h).elim
 |bad=>exact h
section
variable {st : Stmt} {ps : List Str} {m : af} 
theorem P0 (F:cC K x qual st f fd) (S:nR N ps (fA st))
 (eL:∀ (cdv:Value) (A:Around) (outer:List Env) (s:Shared) (H:Hp) (E:XK) (n:Nat) (F0:Hp),aO k (A.deeper (envOfC qual (fA st) s.heap.objs.size f cdv)) ->
  nX (kJ (bK P w) P w K mg base N qual (fA st) f cdv A outer s H E) ⟨H,n,F0⟩ ⟨E,cl⟩ (fV st) m):bA P w K mg base (bK P w) (k+1) f fd ps (kQ cl ps.length (aD N.length m)):=by
 refine F.WQ S (λvs H Q E h=>?_) (λcdv A outer s H vs Q E hr h=>?_)
 ·obtain⟨F,r,ws,bx,_,d,hl,_⟩:=h;rw[<-d.length];exact hl
 ·obtain⟨F,r,ws,bx,R,d,hl,h⟩:=h;exact⟨_,eL cdv A outer s H E r.length F hr,F,r,envOf N.length ws,bx,R.start d,Df (De R.len.symm h)⟩
theorem MJ (G:bA P w K mg base nS k f fd ps sp):bA P w K mg base CX k f fd ps sp :=
 ⟨G.len,λA outer s H args us vs Q E hr e0 hb hv hs=>sV (G.run A outer s H args us vs Q E hr e0 hb hv hs) λr s' h=>by
  cases r with
  |error e=>exact False.elim h
  | ok fl =>
    cases fl with
    |ret u=>exact h
    |next=>exact h
    |brk=>exact h
    |cont=>exact h⟩
theorem Pd (F:cC K x qual st f fd) (S:nR N ps (fA st))
 (eL:∀ (cdv:Value) (A:Around) (outer:List Env) (s:Shared) (H:Hp) (E:XK) (n:Nat) (F0:Hp),aO k (A.deeper (envOfC qual (fA st) s.heap.objs.size f cdv)) ->
  nX (kJ nS P w K mg base N qual (fA st) f cdv A outer s H E).qw ⟨H,n,F0⟩ ⟨E0,cl⟩ (fV st) m):bA P w K mg base (bK P w) (k+1) f fd ps (kQ cl ps.length (aD N.length (aK m))):=by
 refine MJ (F.ok S (λvs H Q E h=>?_) (λcdv A outer s H vs Q E hr h=>?_))
 ·obtain⟨F,r,ws,bx,_,d,hl,_⟩:=h;rw[<-d.length];exact hl
 ·obtain⟨F,r,ws,bx,R,d,hl,h⟩:=h;refine⟨_,eL cdv A outer s H E r.length F hr,F,r,envOf N.length ws,bx,R.start d,?_⟩;have h':=Df (De R.len.symm h);unfold aK at h';cases e:m (envOf N.length ws) bx with
  |nx env bx1=>simp only[e]at h';exact h'
  |rt w bx1=>simp only[e]at h';exact h'
  |bk env bx1=>simp only[e]at h';exact h'
  |ct env bx1=>simp only[e]at h';exact h'
  |exc c bx1=>simp only[e]at h';exact h'.elim
  |bad=>simp only[e]at h';exact h'
end
theorem A3:Passes (bK X.prog X.w) X E0:=λ_ _ _ _ _ _ _ h=>by
 obtain⟨_,_,_,_,_,_,_,_,_,_,_,_,_,h⟩:=h;exact h.elim
section
variable {m : af} {aaP : List Stmt}
end
noncomputable def bindB {β:Type}(m:O α) (k:α->List Bx->O β):O β :=
 match m with
 |.val a bx=>k a bx
 |_=>.bad
def bq (g:DG) (tf:DE Bool) (te:DE W):List W->aF->List Bx->List D->O (List D)
 |[],_,bx,acc=>.val acc bx
 | w::l,env,bx,acc=>match g w env bx with
   |none=>.bad
   | some (env1,bx1)=>bindB (tf env1 bx1) λb bx2=>match b with
     |false=>bq g tf te l env1 bx2 acc
     | true=>bindB (te env1 bx2) λy bL=>match y with
       |.d d=>if acc.length<sizeLine then bq g tf te l env1 bL (acc++[d]) else .bad
       |_=>.bad
noncomputable def ed (src:List (Option Nat)) (env:aF):aF:=src.map λo=>o.bind λi=>(env[i]?).bind id
def gu (bo:Bool) (src:List (Option Nat)) (mi:DE (List W)) (g:DG) (tf:DE Bool) (te:DE W):DE W:=λenv bx =>
 fB (mi env bx) λds bx1=>fB (bq g tf te ds (ed src env) bx1 []) λl bx2=>bS bo (some (.lst l)) bx2
theorem Rel.src {T:Fr}{F H:Hp}{r:List Addr}{σ:St}{env:aF}{bx:List Bx}(R:Rel T F r σ H env bx) (src:List (Option Nat)):Rel T F r (rq src σ) H (ed src env) bx:=by
 refine⟨R.fh,λj w e=>?_,R.len,R.nd,R.box,R.keep,R.new,R.n0,?_,R.fs⟩
 ·unfold ed at e;unfold L2.rq;rw[qh]at e ⊢;cases q:src[j]? with
  |none=>rw[q]at e;cases e
  | some o =>
    rw[q]at e;cases o with
    |none=>cases e
    | some i =>
      have e':(env[i]?).bind id=some w:=Option.some.inj e;cases z:env[i]? with
      |none=>rw[z]at e';cases e'
      | some o' =>
        rw[z]at e';have e2:o'=some w:=e';subst e2;obtain⟨v,e1,e2⟩:=R.slot i w z;exact⟨v,by simp[e1],e2⟩
 ·unfold ed L2.rq;rw[aL,aL];exact ag _
theorem Rel.inner {F':Hp}{r':List Addr}{σ':St}{au:aF}(R:Rel T F r σ H env bx) (g:aJ F r F' r') (R':Rel ⟨H,r.length,F⟩ F' r' σ' H' au bx'):Rel T F' r' σ' H' au bx':=by
 have q:=R.after g R'.drop;exact⟨q.fh,R'.slot,q.len,q.nd,q.box,q.keep,q.new,q.n0,R'.sl,q.fs⟩
theorem Rel.again (R:Rel T F r σ H env bx):Rel ⟨H,r.length,F⟩ F r σ H env bx :=
 ⟨R.fh,R.slot,R.len,R.nd,R.box,λa u e _=>e,λn a hn e=>(by rw[tE hn]at e;cases e),ag _,R.sl,λa u e=>.inr (.inl e)⟩
structure Own (F:Hp) (r:List Addr) (H:Hp) (a:Addr) (vs:List V):Prop where
 h:H a=some (.lst vs)
 f:F a=none
 b:a∉r
theorem Own.inner {F':Hp}{r':List Addr}{σ':St}{au:aF}{vs:List V}(o:Own F r H a vs) (g:aJ F r F' r') (R':Rel ⟨H,r.length,F⟩ F' r' σ' H' au bx'):Own F' r' H' a vs:=by
 have hb:a∉r':=λz=>by
  obtain⟨m,em⟩:=List.mem_iff_getElem?.mp z;by_cases hm:m<r.length
  ·obtain⟨t,e⟩:=g.p;rw[<-e,cu hm]at em;exact o.b (List.mem_iff_getElem?.mpr ⟨m,em⟩)
  ·have q:H a=none:=R'.new m a (rV hm) em;rw[o.h]at q;cases q
 refine⟨R'.keep a _ o.h hb,?_,hb⟩;cases q:F' a with
 |none=>rfl
 | some u =>
   rcases R'.fs a u q with⟨qE,rfl⟩|z|z|z
   ·have:=R'.fh a _ q;rw[R'.keep a _ o.h hb]at this;cases this
   ·have z':F a=some u:=z;rw[o.f]at z';cases z'
   ·have z':H a=none:=z;rw[o.h]at z';cases z'
   ·exact absurd z hb
theorem Rel.SF (R:Rel T F r σ H env bx) (h:H p=none):Rel T F r σ (upd H p o) env bx:=by
 have hs:∀ a u,H a=some u->upd H p o a=some u:=λa u e=>by rw[fq (fE e h)];exact e
 exact⟨λa u e=>hs a u (R.fh a u e),R.slot,R.len,R.nd,λn c a e1 e2=>(R.box n c a e1 e2).grow (Sub.refl F) (kG r) id (hs a),λa u e hn=>hs a u (R.keep a u e hn),R.new,R.n0,R.sl,R.fs⟩
theorem Rel.W2 (R:Rel T F r σ H env bx) {vs:List V}(w:Own F r H p vs) (hT:T.H₀ p=none):Rel T F r σ (upd H p o) env bx:=by
 refine⟨λa u e=>?_,R.slot,R.len,R.nd,λn c a e1 e2=>?_,λa u e hn=>?_,R.new,R.n0,R.sl,R.fs⟩
 ·rw[fq (λz=>by rw[z,w.f]at e;cases e)];exact R.fh a u e
 ·have ha:a≠p:=λz=>w.b (List.mem_iff_getElem?.mpr ⟨n,z▸e2⟩);exact(R.box n c a e1 e2).grow (Sub.refl F) (kG r) id λu z=>by rw[fq ha];exact z
 ·rw[fq (λz=>by rw[z,hT]at e;cases e)];exact R.keep a u e hn
theorem Rel.W3 (R:Rel T F r σ H env bx) {vs:List V}(w:Own F r H p vs) (hT:T.H₀ p=none):Rel T (upd F p (.lst vs)) r σ H env bx /\ aJ F r (upd F p (.lst vs)) r:=by
 have s:=A0 (o:=.lst vs) w.f;refine⟨⟨λa u e=>?_,λi w e=>?_,R.len,R.nd,λn c a e1 e2=>?_,R.keep,R.new,R.n0,R.sl,λa u e=>?_⟩,s,kG r⟩
 ·by_cases ha:a=p
  ·subst ha;rw[fw]at e;cases e;exact w.h
  ·rw[fq ha]at e;exact R.fh a u e
 ·obtain⟨v,e1,e2⟩:=R.slot i w e;exact⟨v,e1,e2.mono s (kG r)⟩
 ·have ha:a≠p:=λz=>w.b (List.mem_iff_getElem?.mpr ⟨n,z▸e2⟩);exact(R.box n c a e1 e2).grow s (kG r) (λz=>by rw[fq ha];exact z) λu z=>z
 ·by_cases ha:a=p
  ·subst ha;exact .inr (.inr (.inl hT))
  ·rw[fq ha]at e;exact R.fs a u e
theorem Rel.W4 (R:Rel T F r σ H env bx) {vs:List V}(w:Own F r H p vs) (hT:T.H₀ p=none) (d:aj F l vs):Rel T F (r++[p]) σ H env (bx++[.lst l]) /\ aJ F r F (r++[p]) /\ (r++[p])[bx.length]?=some p:=by
 have hx:(r++[p])[bx.length]?=some p:=by rw[<-R.len,cq (ag _),eI];rfl
 have g:aJ F r F (r++[p]):=⟨Sub.refl F,ng r [p]⟩;refine⟨⟨R.fh,λi w e=>?_,by rw[bV,bV,R.len];rfl,?_,λn c' a e1 e2=>?_,λa u e hn=>R.keep a u e λz=>hn (kD _ z),λn a hn e=>?_,by rw[bV];exact bu R.n0 (tq _ _),R.sl,λa u e=>(R.fs a u e).imp id (Or.imp id (Or.imp id λz=>kD _ z))⟩,g,hx⟩
 ·obtain⟨v,e1,e2⟩:=R.slot i w e;exact⟨v,e1,g.den e2⟩
 ·rw[tJ];refine⟨R.nd,by simp,λa ha b hb=>?_⟩;rw[ni]at hb;subst hb;exact λz=>w.b (z▸ha)
 ·by_cases hn:n<r.length
  ·rw[cu hn]at e2;rw[cu (by rw[<-R.len];exact hn)]at e1;exact(R.box n c' a e1 e2).grow (Sub.refl F) (ng r [p]) id λ_ z=>z
  ·rw[cq (by omega)]at e2;rw[cq (by rw[<-R.len];omega)]at e1;have hl:n-r.length=0:=by
    cases q:n-r.length with
    |zero=>rfl
    |succ k=>rw[q]at e2;simp at e2
   have eD:n-bx.length=0:=by rw[<-R.len];exact hl
   rw[hl]at e2;rw[eD]at e1;simp at e1 e2;subst e1 e2;exact⟨w.f,vs,w.h,d⟩
 ·by_cases hl:n<r.length
  ·rw[cu hl]at e;exact R.new n a hn e
  ·have hp:a=p:=by
    rw[cq (by omega)]at e;cases q:n-r.length with
    |zero=>rw[q]at e;simp at e;exact e.symm
    |succ k=>rw[q]at e;simp at e
   subst hp;exact hT
section
variable {src : List (Option Nat)} {elt : Expr} {scope : Scope} {g : DG} 
abbrev He (g:DG):TG:=λv σ H Q=>∃ T,tG T g v σ H Q
abbrev Hf (Z:Xs) (tf:DE Bool):TT:=λσ H Q=>∃ T,rC T Z tf σ H Q
abbrev Hg (Z:Xs) (te:DE W):TE:=λσ H Q=>∃ T,tD T Z te σ H Q
theorem Rel.slots {T':Fr}{F':Hp}{r':List Addr}{σ':St}{au:aF}(R:Rel T F r σ H env bx) (g:aJ F r F' r') (R':Rel T' F' r' σ' H' au bx'):Rel T' F' r' σ H' env bx' :=
 ⟨R'.fh,λi w e=>let ⟨v,e1,e2⟩:=R.slot i w e;⟨v,e1,g.den e2⟩,R'.len,R'.nd,R'.box,R'.keep,R'.new,R'.n0,R.sl,R'.fs⟩
theorem NH {bo:Bool}{Q:VK}{F1 H1:Hp}{r1:List Addr}{ds:List W}{J:It}(R1:Rel T F1 r1 σ H1 env bx1) (y1:sv F1 r1 ds J)
 (h1:End T Z bD F1 r1 σ env Q (fB (bq g tf te ds (ed src env) bx1 []) λl bx2=>bS bo (some (.lst l)) bx2)) (Da:Addr) (hD:H1 Da=none):Sb J (He g) (Hf ⟨E0,Z.cl⟩ tf) (Hg ⟨E0,Z.cl⟩ te) Da Q (rq src σ) (upd H1 Da (.lst [])):=by
 have hT:T.H₀ Da=none:=by
  cases q:T.H₀ Da with
  |none=>rfl
  |some u=>rw[R1.keep Da u q (R1.vJ hD)]at hD;cases hD
 have o0:Own F1 r1 (upd H1 Da (.lst [])) Da []:=⟨fw,R1.sq hD,R1.vJ hD⟩;refine⟨λi n σ' H'=>∃ pre l F' r' au bx' acc vs,ds=pre++l /\ pre.length=i /\ n=l.length /\ aJ F1 r1 F' r' /\ Rel T F' r' σ' H' au bx' /\ Own F' r' H' Da vs /\ aj F' acc vs /\
  End T Z bD F' r' σ env Q (fB (bq g tf te l au bx' acc) λl bx2=>bS bo (some (.lst l)) bx2),
  ⟨ds.length,[],ds,F1,r1,_,bx1,[],[],rfl,rfl,rfl,.refl F1 r1,(R1.SF hD).src src,o0,.nil,h1⟩,?_⟩
 rintro i n σ' H' ⟨pre,l,F',r',au,bx',acc,vs,kM,hi,hn,g',R',o',da,h'⟩;obtain⟨ys,yg⟩:=y1 ⟨H',r'.length,F'⟩ i F' r' σ' H' au bx' g' R'.again;cases l with
 | nil =>
   refine .inl ⟨ys (by rw[kM,pE];omega),?_⟩;have RO:Rel T F' r' σ H' env bx':=R1.slots g' R';have hd:End T Z bD F' r' σ env Q (.val (.d (.lst acc)) bx')->Q (.ref Da) H':=λh'=>by
    obtain⟨RA,gA⟩:=RO.W3 o' hT;exact h' _ r' _ H' gA RA ⟨Da,vs,rfl,fw,aj.mono gA.s acc da⟩
   cases bo with
   |false=>exact hd h'
   | true =>
     obtain⟨RB,gB,hx⟩:=RO.W4 o' hT da;exact h' F' _ _ H' gB RB ⟨Da,rfl,hx⟩
 | cons w l =>
   obtain⟨go,yl⟩:=yg w (by rw[kM,cq (by omega),hi,eI];rfl);refine .inr ⟨go,λσ2 H2=>∃ F2 r2 bT bx2 xT vL,aJ F1 r1 F2 r2 /\ Rel T F2 r2 σ2 H2 bT bx2 /\ Own F2 r2 H2 Da vL /\ aj F2 xT vL /\
    End T Z bD F2 r2 σ env Q (fB (bq g tf te l bT bx2 xT) λl bx2=>bS bo (some (.lst l)) bx2),
    λσ2 H2 ⟨F2,r2,bT,bx2,xT,vL,g2,R2,o2,d2,h2⟩=>⟨l.length,by rw[hn];exact nJ _,pre++[w],l,F2,r2,bT,bx2,xT,vL,by rw[kM,zG];rfl,by rw[bV,hi];rfl,rfl,g2,R2,o2,d2,h2⟩,λx H2 hy=>?_⟩
   obtain⟨F2,g2,R2,d2⟩:=yl x H2 hy;have SG:=R'.inner g2 R2;have o2:=o'.inner g2 R2;refine⟨⟨H2,r'.length,F2⟩,F2,r',au,bx',w,SG.again,d2,?_⟩;simp only[bq]at h';cases eg:g w au bx' with
   |none=>simp only[eg]at h';exact h'.elim
   | some o =>
     obtain⟨qG,bL⟩:=o;simp only[eg]at h';intro F3 r3 σ3 H3 g3 R3;have SH:=SG.inner g3 R3;have o3:=o2.inner g3 R3;refine⟨⟨H3,r3.length,F3⟩,F3,r3,qG,bL,SH.again,?_⟩;cases ef:tf qG bL with
     |bad=>simp only[ef,bindB]at h';exact h'.elim
     |exc c cE=>simp only[ef,bindB]at h';exact h'.elim
     | val b cE =>
       simp only[ef,bindB]at h';intro F4 r4 b' H4 g4 R4 eb;subst eb;have Hh:=SH.inner g4 R4;have o4:=o3.inner g4 R4;have SI:aJ F1 r1 F4 r4:=((g'.trans g2).trans g3).trans g4;have Hi:aJ F' r' F4 r4:=(g2.trans g3).trans g4;cases b with
       | false =>
         rw[if_neg (by decide)];exact⟨F4,r4,qG,cE,acc,vs,SI,Hh,o4,aj.mono Hi.s acc da,End.weak Hi h'⟩
       | true =>
         rw[if_pos rfl];refine⟨⟨H4,r4.length,F4⟩,F4,r4,qG,cE,Hh.again,?_⟩;cases ee:te qG cE with
         |bad=>simp only[ee]at h';exact h'.elim
         |exc c SJ=>simp only[ee]at h';exact h'.elim
         | val y SJ =>
           simp only[ee]at h';intro F5 r5 v H5 g5 R5 d5;have W5:=Hh.inner g5 R5;have o5:=o4.inner g5 R5;have SK:=Hi.trans g5;cases y with
           | d d =>
             simp only at h';split at h'
             ·rename_i hz;have W6:=aj.mono SK.s acc da;refine⟨vs,o5.h,by rw[<-da.length];exact hz,F5,r5,qG,SJ,acc++[d],vs++[v],SI.trans g5,W5.W2 o5 hT,⟨fw,o5.f,o5.b⟩,W6.append (.cons d5 .nil),End.weak SK h'⟩
             ·exact h'.elim
           |b n=>exact h'.elim
           |s l=>exact h'.elim
           |x i=>exact h'.elim
           |t _=>exact h'.elim
           |m _=>exact h'.elim
theorem NI {bo:Bool}{Q:VK}(h:tD T Z (gu bo src mi g tf te) σ H Q):Sd src (tI T Z mi) (He g) (Hf ⟨E0,Z.cl⟩ tf) (Hg ⟨E0,Z.cl⟩ te) σ H Q:=by
 obtain⟨F,r,env,bx,R,h⟩:=h;exact⟨F,r,env,bx,R,End.bind h λds bx1 F1 r1 J H1 g1 R1 y1 h1=>NH R1 y1 h1⟩
theorem Lu (bo:Bool) (hc:X.calm=true) (S:rn X N src scope) (hi:rE X T Z tg iter mi)
 (hg:∀ T cl s H C fp,kR (X.comp N scope cl s H C fp) T tg g) (hf:∀ T cl s H C fp,PF (X.comp N scope cl s H C fp) ifs (rC T ⟨E0,Z.cl⟩ tf)) (he:∀ T cl s H C fp,PD (X.comp N scope cl s H C fp) T ⟨E0,Z.cl⟩ elt te)
 (hs:∀ x,foldedSetIterable iter X.env x=pure x:=by intro _;rfl):PD X T Z (.ListComp elt [⟨tg,iter,ifs,0⟩] scope pos) (gu bo src mi g tf te):=
 PE.imp (J9 (src:=src) (g:=He g) (tf:=Hf ⟨E0,Z.cl⟩ tf) (te:=Hg ⟨E0,Z.cl⟩ te) hc S hi (λcl s H C fp pins s' σ' H' v u Q I rv ⟨T,q⟩=>hg T cl s H C fp pins s' σ' H' v u Q I rv q)
  (λcl s H C fp pins s' σ' H' Q I ⟨T,q⟩=>hf T cl s H C fp pins s' σ' H' Q I q) (λcl s H C fp pins s' σ' H' Q I ⟨T,q⟩=>he T cl s H C fp pins s' σ' H' Q I q) hs) λσ H Q h=>NI h
noncomputable def gz:DE Bool:=λ_ bx=>.val true bx
theorem Lv:PF X [] (rC T Z gz):=λpins s σ H Q I ⟨F,r,env,bx,R,h⟩=>Nn pins s σ H Q I (h F r true H (.refl F r) R rfl)
theorem Lw {c:Expr}(h:eB X T Z c t):PF X [c] (rC T Z t):=No h
theorem Ay {w:W}(e:(l.map W.d)[i]?=some w):∃ d,l[i]?=some d /\ w=.d d:=by
 rw[qh]at e;cases q:l[i]? with
 |none=>rw[q]at e;cases e
 |some d=>rw[q]at e;cases e;exact⟨d,rfl,rfl⟩
noncomputable def fM (lo:Int) (n:Nat):List W:=(List.range n).map λ(i:Nat)=>W.d (.int (lo+i))
theorem lK (lo:Int) (n:Nat):sv F r (fM lo n) (vn lo n):=λT i F1 r1 σ1 H1 env1 bx1 g R=>by
 unfold fM;refine⟨λhl=>?_,λw e=>?_⟩
 ·rw[aL,zI]at hl;exact tj hl
 ·rw[qh]at e;cases q:(List.range n)[i]? with
  |none=>rw[q]at e;cases e
  | some j =>
    rw[q]at e;cases e;obtain⟨h1,h2⟩:=List.getElem?_eq_some_iff.mp q;rw[List.getElem_range]at h2;subst h2;rw[zI]at h1;refine⟨h1,λx H2 ⟨e1,e2⟩=>?_⟩;subst e1 e2;exact⟨F1,.refl F1 r1,R,rfl⟩
def cQ (k:DE (List W)):DE (List W):=λenv bx=>fB (k env bx) λws bx1=>match ws with
 |[.d (.int j)]=>if -(2 ^ 62)<=j /\ j<2 ^ 62 then .val (fM 0 j.toNat) bx1 else .bad
 |_=>.bad
theorem Ct {a:Expr}{p:Pos}{k:DE (List W)}(hg:Gl X "range") (hm:X.mg "range"=none) (ha:cD X T Z [a] k) (hs:starEach [a] X.env=[(false,eval a X.env)]:=by rfl):rE X T Z tg (.Call (.Name "range" p) [a] [] pos) (cQ k):=by
 refine PI.imp (D4 hg hm ha hs) λσ H Q ⟨F,r,env,bx,R,h⟩=>?_;refine⟨F,r,env,bx,R,End.bind h λws bx1 F1 r1 vs H1 g1 R1 d1 h1=>?_⟩;split at h1
 ·rename_i j;split at h1
  ·rename_i hj;obtain⟨v,t,rfl,e1,e2⟩:=d1;cases (show t=[] from e2);cases (show v=.int j from e1);exact⟨j,rfl,hj.1,hj.2,h1 F1 r1 _ H1 (.refl F1 r1) R1 (lK 0 j.toNat)⟩
  ·exact h1.elim
 ·exact h1.elim
def ug (k:DE (List W)):DE (List W):=λenv bx=>fB (k env bx) λws bx1=>match ws with
 |[.d (.int i),.d (.int j)]=>if (-(2 ^ 62)<=i /\ i<2 ^ 62) /\ -(2 ^ 62)<=j /\ j<2 ^ 62 then .val (fM i (j-i).toNat) bx1 else .bad
 |_=>.bad
theorem Cu {a b:Expr}{p:Pos}{k:DE (List W)}(hg:Gl X "range") (hm:X.mg "range"=none) (ha:cD X T Z [a,b] k) (hs:starEach [a,b] X.env=[(false,eval a X.env),(false,eval b X.env)]:=by rfl) (dv:starEach [b] X.env=[(false,eval b X.env)]:=by rfl) :
 rE X T Z tg (.Call (.Name "range" p) [a,b] [] pos) (ug k):=by
 refine PI.imp (D5 hg hm ha hs dv) λσ H Q ⟨F,r,env,bx,R,h⟩=>?_;refine⟨F,r,env,bx,R,End.bind h λws bx1 F1 r1 vs H1 g1 R1 d1 h1=>?_⟩;split at h1
 ·rename_i i j;split at h1
  ·rename_i hj;obtain⟨v,t,rfl,e1,v2,t2,rfl,e2,e3⟩:=d1;cases (show t2=[] from e3);cases (show v=.int i from e1);cases (show v2=.int j from e2);exact⟨i,j,rfl,⟨hj.1.1,hj.1.2,hj.2.1,hj.2.2⟩,h1 F1 r1 _ H1 (.refl F1 r1) R1 (lK i _)⟩
  ·exact h1.elim
 ·exact h1.elim
end
section
variable {a b c : Expr} {mc : DE W} {p : Pos}
def SM (K:PySem.W.Frag):R2:=λx y H Q=>∃ a b ys,x=.ref a /\ y=.ref b /\ bc K H a [] /\ bc K H b ys /\ Q (.ref b) H
theorem GH:aA X (binaryOp .Add) (SM X.K):=by
 intro pins s σ H x y v u Q I rx ry h;obtain⟨a,b,ys,rfl,rfl,ha,hb,q⟩:=h;cases rx;cases ry;obtain⟨its,r1,p1,_⟩:=I.tuple ha;obtain⟨rm,r2,p2,_⟩:=I.tuple hb;cases r1;obtain⟨⟨cls,dd,data,sl⟩,ho,hc,n,hd⟩:=id p1;obtain⟨⟨EI,nv,data2,nz⟩,kL,eO,n2,hd2⟩:=id p2;simp only at hc hd eO hd2;subst hc hd eO hd2
 exact zd ⟨_,ho,rfl⟩ ⟨_,kL,rfl⟩ ze zf Ec Ed (Ee _ _)
  (tuple_addW0 a b ([]:List Value).toArray rm.toArray n n2 dd nv sl nz (by simp)) ⟨ho,kL,⟨.ref b,H,I,rfl,q⟩⟩
def SN (K:PySem.W.Frag):R2:=λx y H Q=>dZ (λi j=>.int (i+j)) x y H Q \/ RP K x y H Q \/ SM K x y H Q \/ RZ x y H Q \/ ∃ i j,x=.str i /\ y=.str j /\ i.length+j.length<=sizeLine /\ Q (.str (i++j)) H
theorem Lx:aA X (binaryOp .Add) (SN X.K):=M8.or (J7.or (GH.or (oB.or Ce)))
noncomputable def fN:D->D->Option Res
 |.int i,.int j=>some (.old (.int (i+j)))
 |.tup a,.tup b=>if a.length+b.length<=sizeLine then some (.tup (a++b)) else none
 |.lst a,.lst b=>if a.length+b.length<=sizeLine then some (.lst (a++b)) else none
 |.str a,.str b=>if a.length+b.length<=sizeLine then some (.old (.str (a++b))) else none
 |_,_=>none
theorem aj.eq_nil {vs:List V}(h:aj F l vs):vs=[] ↔ l=[]:=by
 have:=h.length;cases l<;>cases vs<;>simp_all
theorem W7:bp (SN K) fN:=by
 intro F H x y v w Q s sub rx ry e k;unfold fN at e;split at e
 ·rename_i i j;cases e;exact .inl ⟨i,j,rx,ry,k _ _ ⟨rfl,rfl⟩⟩
 ·rename_i l l';split at e
  ·rename_i hz;cases e;obtain⟨a,vs,rfl,h1,h2⟩:=rx;obtain⟨b,ws,rfl,h3,h4⟩:=ry;by_cases hv:vs=[]
   ·subst hv;have hl:l=[]:=h2.eq_nil.mp rfl;subst hl;exact .inr (.inr (.inl ⟨a,b,ws,rfl,rfl,.of (sub _ _ h1),.of (sub _ _ h3),k _ _ (.inl ⟨rfl,b,ws,rfl,h3,h4⟩)⟩))
   ·refine .inr (.inl ⟨a,b,vs,ws,rfl,rfl,.of (sub _ _ h1),.of (sub _ _ h3),hv,by rw[<-h2.length,<-h4.length];exact hz,λhw=>?_,λhw p hp=>k _ _ (.inr ⟨p,vs++ws,rfl,hp,rfl,h2.append h4⟩)⟩);have hl:l'=[]:=h4.eq_nil.mp hw;subst hl;exact k _ _ (.inl ⟨rfl,a,vs,rfl,h1,by rw[pE];exact h2⟩)
  ·cases e
 ·rename_i l l';split at e
  ·rename_i hz;cases e;obtain⟨a,vs,rfl,h1,h2⟩:=rx;obtain⟨b,ws,rfl,h3,h4⟩:=ry;exact .inr (.inr (.inr (.inl ⟨a,b,vs,ws,rfl,rfl,h1,h3,by rw[<-h2.length,<-h4.length];exact hz,λp hp=>k _ _ ⟨p,vs++ws,rfl,hp,rfl,h2.append h4⟩⟩)))
  ·cases e
 ·rename_i i j;split at e
  ·rename_i hz;cases e;exact .inr (.inr (.inr (.inr ⟨i,j,rx,ry,hz,k _ _ ⟨rfl,rfl⟩⟩)))
  ·cases e
 ·cases e
theorem xU {C:Int->Int->Prop} [∀ i j,Decidable (C i j)] {g:Int->Int->D}{gv:Int->Int->V}(hg:∀ i j F,Den F (g i j) (gv i j)):bp (rI C gv) λx y=>match x,y with|.int i,.int j=>if C i j then some (.old (g i j)) else none|_,_=>none:=by
 intro F H x y v w Q s sub rx ry e k;dsimp only at e;split at e
 ·rename_i i j;split at e
  ·rename_i hc;cases e;exact⟨i,j,rx,ry,hc,k _ _ ⟨rfl,hg i j F⟩⟩
  ·cases e
 ·cases e
theorem Hj {g:Int->Int->D}{gv:Int->Int->V}(hg:∀ i j F,Den F (g i j) (gv i j)):bp (dZ gv) λx y=>match x,y with|.int i,.int j=>some (.old (g i j))|_,_=>none:=by
 intro F H x y v w Q s sub rx ry e k;dsimp only at e;split at e
 ·rename_i i j;cases e;exact⟨i,j,rx,ry,k _ _ ⟨rfl,hg i j F⟩⟩
 ·cases e
noncomputable def dk:D->D->Option Res:=λx y=>match x,y with|.int i,.int j=>some (.old (.int (i-j)))|_,_=>none
theorem W8:bp (dZ λi j=>.int (i-j)) dk:=Hj (g:=λi j=>.int (i-j)) λ_ _ _=>rfl
instance (i j:Int):Decidable (rh i j):=by unfold rh;exact inferInstance
def sx (i j:Int):Prop:=0<j /\ j<10 ^ 40
theorem GI:aA X (binaryOp .FloorDiv) (rI sx λi j=>.int (i / j)):=xr λi j _ _ _ _ _ hc q=>by
 have h1:(0:Int)<j:=hc.1;have h2:j<10 ^ 40:=hc.2;refine floordiv_int (by omega) (by rw[Int.fdiv_eq_ediv_of_nonneg i (by omega)];exact q) (.inl (PyProof.noPylong_of_log2 ?_));have h3:j.natAbs.log2<133:=(KN (by omega)).mpr (by omega);omega
instance (i j:Int):Decidable (sx i j):=by unfold sx;exact inferInstance
instance (i j:Int):Decidable (tZ i j):=by unfold tZ;exact inferInstance
noncomputable def rF:D->D->Option Res:=λx y=>match x,y with|.int i,.int j=>if sx i j then some (.old (.int (i / j))) else none|_,_=>none
theorem W9:bp (rI sx λi j=>.int (i / j)) rF:=xU (g:=λi j=>.int (i / j)) λ_ _ _=>rfl
noncomputable def dQ:D->D->Option Res:=λx y=>match x,y with|.int i,.int j=>if 0<j then some (.old (.int (i % j))) else none|_,_=>none
theorem Xa:bp (rI (λ_ j=>0<j) λi j=>.int (i % j)) dQ:=xU (C:=λ_ j=>0<j) (g:=λi j=>.int (i % j)) λ_ _ _=>rfl
noncomputable def dR:D->D->Option Res:=λx y=>match x,y with|.int i,.int j=>if tZ i j then some (.old (.int (i ^ j.toNat))) else none|_,_=>none
theorem Xb:bp (rI tZ λi j=>.int (i ^ j.toNat)) dR:=xU (g:=λi j=>.int (i ^ j.toNat)) λ_ _ _=>rfl
noncomputable def intsOf:List D->Option (List Int)
 |[]=>some []
 |.int i::l=>(intsOf l).map λt=>i::t
 |_=>none
theorem aj.ints {F:Hp}:∀ {l:List D}{vs:List V}{ns:List Int},aj F l vs->intsOf l=some ns->vs=ns.map V.int
 |[],_,_,h,e=>by cases e;exact h
 | .int i::l,_,ns,h,e=>by
   obtain⟨v,r,q,h1,h2⟩:=h;unfold intsOf at e;cases e2:intsOf l with
   |none=>rw[e2]at e;cases e
   | some t =>
     rw[e2]at e;cases e;rw[q,h2.ints e2,show v=.int i from h1];rfl
 |.ae::l,_,_,_,e=>by cases e
 |.bl _::l,_,_,_,e=>by cases e
 |.str _::l,_,_,_,e=>by cases e
 |.tup _::l,_,_,_,e=>by cases e
 |.lst _::l,_,_,_,e=>by cases e
 |.aH _::l,_,_,_,e=>by cases e
def SO:D->D->Option Res
 |.int i,.int j=>some (.old (.bl (decide (i<j))))
 |.tup a,.tup b=>(intsOf a).bind λns=>(intsOf b).map λms=>.old (.bl (HT.lexLt ns ms))
 |_,_=>none
theorem Ly (hu:X.A.units<cLine):aA X (compareOp .Lt) (λx y H Q=>dZ (λi j=>.bl (decide (i<j))) x y H Q \/ vA X.K x y H Q):=O3.or (Ni hu)
theorem SQ:bp (λx y H Q=>dZ (λi j=>.bl (decide (i<j))) x y H Q \/ vA K x y H Q) SO:=by
 intro F H x y v w Q s sub rx ry e k;unfold SO at e;split at e
 ·rename_i i j;cases e;exact .inl ⟨i,j,rx,ry,k _ _ ⟨rfl,rfl⟩⟩
 ·rename_i l l';cases e1:intsOf l with
  |none=>rw[e1]at e;cases e
  | some ns =>
    cases e2:intsOf l' with
    |none=>rw[e1,e2]at e;cases e
    | some ms =>
      rw[e1,e2]at e;cases e;obtain⟨a,vs,rfl,h1,h2⟩:=rx;obtain⟨b,ws,rfl,h3,h4⟩:=ry;have q1:=h2.ints e1;have q2:=h4.ints e2;subst q1 q2;exact .inr ⟨a,b,ns,ms,rfl,rfl,.of (sub _ _ h1),.of (sub _ _ h3),k _ _ ⟨rfl,rfl⟩⟩
 ·cases e
noncomputable def qH:D->D->Option Res:=λx y=>match x,y with|.int i,.int j=>some (.old (.bl (decide (j<=i))))|_,_=>none
theorem Xc:bp (dZ λi j=>.bl (decide (j<=i))) qH:=Hj (g:=λi j=>.bl (decide (j<=i))) λ_ _ _=>rfl
def ax:D->D->Option Res
 |.lst l,.int i=>(a6 l i).map Res.old
 |.tup l,.int i=>(a6 l i).map Res.old
 |_,_=>none
theorem Dg {vs:List V}{i:Int}{d:D}(h:aj F l vs) (e:a6 l i=some d):∃ v,a6 vs i=some v /\ Den F d v:=by
 unfold a6 at e ⊢;rw[<-h.length];cases q:cb l.length i with
 |none=>rw[q]at e;cases e
 |some j=>rw[q]at e;exact h.get e
theorem Xd:bp (RU K) ax:=by
 intro F H x y v w Q s sub rx ry e k;unfold ax at e;split at e
 ·rename_i l i;obtain⟨a,vs,rfl,h1,h2⟩:=rx;cases e1:a6 l i with
  |none=>rw[e1]at e;cases e
  | some d =>
    rw[e1]at e;cases e;obtain⟨u,e2,du⟩:=Dg h2 e1;exact .inl ⟨a,vs,i,u,rfl,ry,.of h1,e2,k _ _ ⟨rfl,du⟩⟩
 ·rename_i l i;obtain⟨a,vs,rfl,h1,h2⟩:=rx;cases e1:a6 l i with
  |none=>rw[e1]at e;cases e
  | some d =>
    rw[e1]at e;cases e;obtain⟨u,e2,du⟩:=Dg h2 e1;exact .inr (.inl ⟨a,vs,i,u,rfl,ry,.of (sub _ _ h1),e2,k _ _ ⟨rfl,du⟩⟩)
 ·cases e
noncomputable def bU:List D->Option Res
 |[.lst l]=>some (.old (.int l.length))
 |[.tup l]=>some (.old (.int l.length))
 |_=>none
theorem Xe:eE (λxs H Q=>∃ p ys,xs=[.ref p] /\ (aQ K H p ys \/ bc K H p ys) /\ Q (.int ys.length) H) bU:=by
 intro F H xs vs Q s sub rx e k;unfold bU at e;split at e
 ·rename_i l;cases e;obtain⟨v,t,rfl,⟨a,us,rfl,h1,h2⟩,rt⟩:=rx;cases (show t=[] from rt);exact⟨a,us,rfl,.inl (.of h1),k _ _ ⟨rfl,by rw[<-h2.length];rfl⟩⟩
 ·rename_i l;cases e;obtain⟨v,t,rfl,⟨a,us,rfl,h1,h2⟩,rt⟩:=rx;cases (show t=[] from rt);exact⟨a,us,rfl,.inr (.of (sub _ _ h1)),k _ _ ⟨rfl,by rw[<-h2.length];rfl⟩⟩
 ·cases e
noncomputable def nY:D->String
 |.ae=>"NoneType"|.bl _=>"bool"|.int _=>"int"|.str _=>"str"|.tup _=>"tuple"|.lst _=>"list"|.aH _=>"dict"
noncomputable def rG (S T:String):Bool:=S==T||(S == "bool"&&T == "int")
def kU (K:PySem.W.Frag) (T:String):Prop:=∀ d:D,PySem.W.kitOne K (.type (nY d)) (.type T)=some (rG (nY d) T)
theorem Pe (sub:Sub F H):∀ {d:D}{v:V},ke F H d v->hV K H v (.type (nY d))
 |.ae,_,h=>by cases (show _=V.ae from h);exact .ae
 |.bl b,_,h=>by cases (show _=V.bl b from h);exact .bl b
 |.int b,_,h=>by cases (show _=V.int b from h);exact .int b
 |.str b,_,h=>by cases (show _=V.str b from h);exact .str b
 |.tup l,_,h=>by obtain⟨a,vs,rfl,h1,h2⟩:=h;exact .tup (sub _ _ h1)
 |.lst l,_,h=>by obtain⟨a,vs,rfl,h1,h2⟩:=h;exact .lst h1
 |.aH l,_,h=>by obtain⟨a,vs,rfl,h1,h2⟩:=h;exact .dK h1
def lf (n:String) (m:DE W):DE W:=λenv bx=>fB (m env bx) λw bx1=>match ba bx1 w with|some d=>.val (.d (.bl (rG (nY d) n))) bx1|none=>.bad
theorem Lz {n:String}{p p1:Pos}(hT:kU X.K n) (hg:Gl X "isinstance") (hm:X.mg "isinstance"=none) (Hk:Gl X x) (Hl:X.mg x=none) (hv:bootBuiltins x=some (.type n)) (ha:PD X T Z a ma)
 (hn:x ≠ "__name__":=by decide) (bB:(x==("__debug__":Str))=false:=by decide)
 (SR:starEach [a,.Name x p1] X.env=(false,eval a X.env)::starEach [.Name x p1] X.env:=by rfl) (Xf:starEach [.Name x p1] X.env=(false,eval (.Name x p1) X.env)::starEach [] X.env:=by rfl)
 (cA:(backTo pos (starEach [.Name x p1] X.env)).any (·.1)=false:=by rfl):PD X T Z (.Call (.Name "isinstance" p) [a,.Name x p1] [] pos) (lf n ma):=by
 refine PE.imp (fQ fP hg hm (by decide +kernel) (fj ha (fj (CW Hk Hl hv (v:=.ty n) rfl hn bB) fO Xf) SR) (by decide) (by decide) SR cA) λσ H Q ⟨F,r,env,bx,R,h⟩=>?_;refine⟨F,r,env,bx,R,End.bind h λw bx1 F1 r1 v H1 g1 R1 d1 h1=>?_⟩;cases e:ba bx1 w with
 |none=>simp only[e]at h1;exact h1.elim
 | some d =>
   simp only[e]at h1;exact⟨v,.ty n,_,.type n,_,rfl,.of (Pe R1.fh (R1.nW d1 e)),rfl,hT d,h1 F1 r1 _ H1 (.refl F1 r1) R1 rfl⟩
end
section
variable {a b c : Expr} {mc : DE W} {p : Pos}
def SS (K:PySem.W.Frag):R2:=λx y H Q=>∃ a b xs,x=.ref a /\ y=.ref b /\ bc K H a xs /\ bc K H b [] /\ Q (.bl xs.isEmpty) H
theorem NJ (hu:X.A.units<cLine):aA X (compareOp .Eq) (SS X.K):=by
 intro pins s σ H x y v u Q I rx ry h;obtain⟨a,b,xs,rfl,rfl,h1,h2,q⟩:=h;cases rx;cases ry;obtain⟨i1,r1,p1,z1⟩:=I.tuple h1;obtain⟨i2,r2,p2,z2⟩:=I.tuple h2;cases r2;refine SeqAt.eq_tupleAt (items:=i1.toArray) (items2:=([]:List Value).toArray) (e:=λ_=>true) p1 p2 hu (λj h1 h2=>absurd h2 (by simp)) ⟨.bl xs.isEmpty,H,I,?_,q⟩;have:=r1.length;cases xs<;>cases i1<;>simp_all[RelV]
def SU (K:PySem.W.Frag):R2:=λx y H Q=>∃ (a b:Addr) (ns ms:List Int),x=.ref a /\ y=.ref b /\ aQ K H a (ns.map V.int) /\ aQ K H b (ms.map V.int) /\ Q (.bl (decide (ns=ms))) H
theorem Fj {ms:List Int}(h:ns.length=ms.length):((List.range ns.length).all λj=>(ns.getD j 0==ms.getD j 0))=decide (ns=ms):=by
 rw[qg,bX,decide_eq_true_iff];constructor
 ·intro q;refine List.ext_getElem h λj h1 h2=>?_;have:=q j (List.mem_range.mpr h1);simpa[List.getD,h1,h2] using this
 ·rintro rfl j _;simp
theorem NK (hu:X.A.units<cLine):aA X (compareOp .Eq) (SU X.K):=by
 intro pins s σ H x y v u Q I rx ry h;obtain⟨a,b,ns,ms,rfl,rfl,h1,h2,q⟩:=h;cases rx;cases ry;obtain⟨i1,r1,p1,z1⟩:=I.list h1;obtain⟨i2,r2,p2,z2⟩:=I.list h2;have l1:ns.length=i1.length:=by have:=r1.length;simpa using this
 have l2:ms.length=i2.length:=by have:=r2.length;simpa using this
 by_cases hl:ns.length=ms.length
 ·refine SeqAt.eq_listAt (items:=i1.toArray) (items2:=i2.toArray) (e:=λj=>ns.getD j 0==ms.getD j 0) p1.isList p2.isList (by simp;omega) hu (λj h1 h2=>?_) ?_
  ·have g1:j<i1.length:=by simpa using h1
   have g2:j<i2.length:=by simpa using h2
   obtain⟨w1,e1,q1⟩:=r1.get (i:=j) (x:=V.int (ns[j]'(by omega))) (by simp[show j<ns.length by omega]);obtain⟨w2,e2,q2⟩:=r2.get (i:=j) (x:=V.int (ms[j]'(by omega))) (by simp[show j<ms.length by omega]);have k1:i1[j]=w1:=by rw[eY g1]at e1;exact Option.some.inj e1
   have k2:i2[j]=w2:=by rw[eY g2]at e2;exact Option.some.inj e2
   show SeqAt.EqAt _ _ i1[j] i2[j] _;rw[k1,k2];obtain⟨t,rfl⟩:=q1;obtain⟨t',rfl⟩:=q2;have d1:ns.getD j 0=ns[j]'(by omega):=by simp[List.getD,show j<ns.length by omega]
   have d2:ms.getD j 0=ms[j]'(by omega):=by simp[List.getD,show j<ms.length by omega]
   rw[d1,d2];exact xc _ _ _ _
  ·rw[show i1.toArray.size=ns.length by simp;omega,Fj hl];exact⟨.bl _,H,I,rfl,q⟩
 ·refine SeqAt.eq_list_lengthsAt (items:=i1.toArray) (items2:=i2.toArray) p1.isList p2.isList (by simp;omega) hu ⟨.bl false,H,I,rfl,?_⟩;rw[decide_eq_false (λz=>hl (by rw[z]))]at q;exact q
def xV (K:PySem.W.Frag):R2:=λx y H Q=>RG x y H Q \/ SS K x y H Q \/ SU K x y H Q
theorem LA (hu:X.A.units<cLine):aA X (compareOp .Eq) (xV X.K):=O2.or ((NJ hu).or (NK hu))
def Hm:D->D->Option Res
 |.int i,.int j=>some (.old (.bl (decide (i=j))))
 |.str i,.str j=>some (.old (.bl (decide (i=j))))
 |.tup l,.tup []=>some (.old (.bl l.isEmpty))
 |.lst a,.lst b=>(intsOf a).bind λns=>(intsOf b).map λms=>.old (.bl (decide (ns=ms)))
 |_,_=>none
theorem Xg:bp (xV K) Hm:=by
 intro F H x y v w Q s sub rx ry e k;unfold Hm at e;split at e
 ·rename_i i j;cases e;cases (show v=.int i from rx);cases (show w=.int j from ry);exact .inl ⟨rfl,k _ _ ⟨rfl,by show _=_;simp⟩⟩
 ·rename_i i j;cases e;cases (show v=.str i from rx);cases (show w=.str j from ry);exact .inl ⟨rfl,k _ _ ⟨rfl,by show _=_;simp⟩⟩
 ·rename_i l;cases e;obtain⟨a,vs,rfl,h1,h2⟩:=rx;obtain⟨b,ws,rfl,h3,h4⟩:=ry;cases (show ws=[] from h4);exact .inr (.inl ⟨a,b,vs,rfl,rfl,.of (sub _ _ h1),.of (sub _ _ h3),k _ _ ⟨rfl,by show _=_;rw[h2.isEmpty]⟩⟩)
 ·rename_i l l';cases e1:intsOf l with
  |none=>rw[e1]at e;cases e
  | some ns =>
    cases e2:intsOf l' with
    |none=>rw[e1,e2]at e;cases e
    | some ms =>
      rw[e1,e2]at e;cases e;obtain⟨a,vs,rfl,h1,h2⟩:=rx;obtain⟨b,ws,rfl,h3,h4⟩:=ry;have q1:=h2.ints e1;have q2:=h4.ints e2;subst q1 q2;exact .inr (.inr ⟨a,b,ns,ms,rfl,rfl,.of h1,.of h3,k _ _ ⟨rfl,rfl⟩⟩)
 ·cases e
def SV (K:PySem.W.Frag):R2:=λx y H Q=>∃ a b xs,x=.ref a /\ y=.ref b /\ aQ K H a xs /\ aQ K H b [] /\ Q (.bl (!xs.isEmpty)) H
theorem NL (hu:X.A.units<cLine):aA X (compareOp .NotEq) (SV X.K):=by
 intro pins s σ H x y v u Q I rx ry h;obtain⟨a,b,xs,rfl,rfl,h1,h2,q⟩:=h;cases rx;cases ry;obtain⟨i1,r1,p1,z1⟩:=I.list h1;obtain⟨i2,r2,p2,z2⟩:=I.list h2;cases r2;cases r1 with
 |nil=>exact SeqAt.RcNeAt.lists (items:=([]:List Value).toArray) (items2:=([]:List Value).toArray) (e:=λ_=>true) p1.isList p2.isList rfl hu (λj h1 h2=>absurd h2 (by simp)) X.prog X.w X.xe _ ⟨.bl false,H,I,rfl,q⟩
 |cons _ _=>exact Va (items2:=([]:List Value).toArray) p1.isList p2.isList (by simp) hu X.prog X.w X.xe _ ⟨.bl true,H,I,rfl,q⟩
def xW (K:PySem.W.Frag):R2:=λx y H Q=>RH x y H Q \/ SV K x y H Q
theorem LB (hu:X.A.units<cLine):aA X (compareOp .NotEq) (xW X.K):=MF.or (NL hu)
noncomputable def Hn:D->D->Option Res
 |.int i,.int j=>some (.old (.bl (!decide (i=j))))
 |.str i,.str j=>some (.old (.bl (!decide (i=j))))
 |.lst l,.lst []=>some (.old (.bl (!l.isEmpty)))
 |_,_=>none
theorem Xh:bp (xW K) Hn:=by
 intro F H x y v w Q s sub rx ry e k;unfold Hn at e;split at e
 ·rename_i i j;cases e;cases (show v=.int i from rx);cases (show w=.int j from ry);exact .inl ⟨rfl,k _ _ ⟨rfl,by show _=_;simp⟩⟩
 ·rename_i i j;cases e;cases (show v=.str i from rx);cases (show w=.str j from ry);exact .inl ⟨rfl,k _ _ ⟨rfl,by show _=_;simp⟩⟩
 ·rename_i l;cases e;obtain⟨a,vs,rfl,h1,h2⟩:=rx;obtain⟨b,ws,rfl,h3,h4⟩:=ry;cases (show ws=[] from h4);exact .inr ⟨a,b,vs,rfl,rfl,.of h1,.of h3,k _ _ ⟨rfl,by show _=_;rw[h2.isEmpty]⟩⟩
 ·cases e
def SW (K:PySem.W.Frag) (vs:List V) (H:Hp) (Q:VK):Prop:=∃ (p:Addr) (bs:List Bool),vs=[.ref p] /\ H p=some (.lst (bs.map V.bl)) /\ Q (.bl (bs.all id)) H
theorem Fk (hc:X.calm=true):cK X (.builtin "all") (SW X.K):=by
 intro pins s σ H xs us Q I rv h;obtain⟨p,bs,rfl,hp,q⟩:=h;obtain⟨u,rfl,ru⟩:=Vals.one rv;cases ru;obtain⟨its,r1,p1,z1⟩:=I.list (aQ.of (K:=X.K) hp);have hl:=p1.isList;have eQ:p<s.heap.objs.size:=by obtain⟨_,e,_⟩:=hl;exact aP e
 have hlen:bs.length=its.length:=by have:=r1.length;simpa using this
 refine call_all_walk (KD hl ?_);refine⟨s.heap.objs.size,[s.heap.objs.size,p],[s.heap.objs.size],its.toArray.size,_,_,λi=>(bs[i]?).getD true,rfl,Walks.list (A:=X.A.in1) (I.ok.hd hc) _ p (cU eQ) its.toArray,
  ⟨⟨_,bP _ rfl,rfl,rfl⟩,hl.push _⟩,λi v s' Q' E' hP hQ=>?_,λh' tk hk=>?_⟩
 ·have SX:its[i]?=some v:=by simpa using hP
  have hi:i<bs.length:=by rw[hlen];exact(List.getElem?_eq_some_iff.mp SX).1
  obtain⟨w,e1,e2⟩:=r1.get (i:=i) (x:=V.bl bs[i]) (by simp[hi]);rw[SX]at e1;cases e1;cases e2;simp only[eY hi,Qj]at hQ;exact qe hQ
 ·have e:((List.range its.toArray.size).all λi=>(bs[i]?).getD true)=bs.all id:=by
   rw[aR,<-hlen];exact LSm.range_all bs
  rw[e];exact⟨.bl _,H,I.kept (t':=tk) (LSm.kept_iter hk),rfl,q⟩
noncomputable def nD:List D->Option (List Bool)
 |[]=>some []
 |.bl i::l=>(nD l).map λt=>i::t
 |_=>none
theorem aj.SY {F:Hp}:∀ {l:List D}{vs:List V}{ns:List Bool},aj F l vs->nD l=some ns->vs=ns.map V.bl
 |[],_,_,h,e=>by cases e;exact h
 | .bl i::l,_,ns,h,e=>by
   obtain⟨v,r,q,h1,h2⟩:=h;unfold nD at e;cases e2:nD l with
   |none=>rw[e2]at e;cases e
   | some t =>
     rw[e2]at e;cases e;rw[q,h2.SY e2,show v=.bl i from h1];rfl
 |.ae::l,_,_,_,e=>by cases e
 |.int _::l,_,_,_,e=>by cases e
 |.str _::l,_,_,_,e=>by cases e
 |.tup _::l,_,_,_,e=>by cases e
 |.lst _::l,_,_,_,e=>by cases e
 |.aH _::l,_,_,_,e=>by cases e
def dA:List D->Option Res
 |[.lst l]=>(nD l).map λbs=>.old (.bl (bs.all id))
 |_=>none
theorem Xi:eE (SW K) dA:=by
 intro F H xs vs Q s sub rx e k;unfold dA at e;split at e
 ·rename_i l;obtain⟨v,t,rfl,⟨a,us,rfl,h1,h2⟩,rt⟩:=rx;cases (show t=[] from rt);cases e1:nD l with
  |none=>rw[e1]at e;cases e
  | some bs =>
    rw[e1]at e;cases e;have q1:=h2.SY e1;subst q1;exact⟨a,bs,rfl,h1,k _ _ ⟨rfl,rfl⟩⟩
 ·cases e
theorem Xj:eE (λxs H Q=>∃ p ys,xs=[.ref p] /\ ((aQ K H p ys /\ ∀ l,H l=none->Q (.ref l) (upd H l (.tup ys))) \/ (bc K H p ys /\ Q (.ref p) H)))
 (λxs=>match xs with|[.lst l]=>some (.tup l)|[.tup l]=>some (.tup l)|_=>none):=by
 intro F H xs vs Q s sub rx e k;dsimp only at e;split at e
 ·rename_i l;cases e;obtain⟨v,t,rfl,⟨a,us,rfl,h1,h2⟩,rt⟩:=rx;cases (show t=[] from rt);exact⟨a,us,rfl,.inl ⟨.of h1,λp hp=>k _ _ (.inr ⟨p,us,rfl,hp,rfl,h2⟩)⟩⟩
 ·rename_i l;cases e;obtain⟨v,t,rfl,⟨a,us,rfl,h1,h2⟩,rt⟩:=rx;cases (show t=[] from rt);exact⟨a,us,rfl,.inr ⟨.of (sub _ _ h1),k _ _ (.inl ⟨rfl,a,us,rfl,h1,h2⟩)⟩⟩
 ·cases e
noncomputable def eS:List D->Option Res:=λxs=>match xs with|[.lst l]=>some (.tup l)|[.tup l]=>some (.tup l)|_=>none
noncomputable def xX:List D->Option Res:=λxs=>match xs with|[.lst l]=>some (.lst l)|[.tup l]=>some (.lst l)|_=>none
theorem Xk:eE (λxs H Q=>∃ p ys,xs=[.ref p] /\ (aQ K H p ys \/ bc K H p ys) /\ ∀ l,H l=none->Q (.ref l) (upd H l (.lst ys))) xX:=by
 intro F H xs vs Q s sub rx e k;unfold xX at e;split at e
 ·rename_i l;cases e;obtain⟨v,t,rfl,⟨a,us,rfl,h1,h2⟩,rt⟩:=rx;cases (show t=[] from rt);exact⟨a,us,rfl,.inl (.of h1),λp hp=>k _ _ ⟨p,us,rfl,hp,rfl,h2⟩⟩
 ·rename_i l;cases e;obtain⟨v,t,rfl,⟨a,us,rfl,h1,h2⟩,rt⟩:=rx;cases (show t=[] from rt);exact⟨a,us,rfl,.inr (.of (sub _ _ h1)),λp hp=>k _ _ ⟨p,us,rfl,hp,rfl,h2⟩⟩
 ·cases e
noncomputable def maxD:List D->Option Res:=λxs=>match xs with|[.int i,.int j]=>some (.old (.int (if j>i then j else i)))|_=>none
theorem Xl:eE (λxs H Q=>∃ i j,xs=[.int i,.int j] /\ Q (.int (if j>i then j else i)) H) maxD:=by
 intro F H xs vs Q s sub rx e k;unfold maxD at e;split at e
 ·rename_i i j;cases e;obtain⟨v,t,rfl,h1,v2,t2,rfl,h2,rt⟩:=rx;cases (show t2=[] from rt);cases (show v=.int i from h1);cases (show v2=.int j from h2);exact⟨i,j,rfl,k _ _ ⟨rfl,rfl⟩⟩
 ·cases e
noncomputable def minD:List D->Option Res:=λxs=>match xs with|[.int i,.int j]=>some (.old (.int (if j<i then j else i)))|_=>none
theorem Xm:eE (λxs H Q=>∃ i j,xs=[.int i,.int j] /\ Q (.int (if j<i then j else i)) H) minD:=by
 intro F H xs vs Q s sub rx e k;unfold minD at e;split at e
 ·rename_i i j;cases e;obtain⟨v,t,rfl,h1,v2,t2,rfl,h2,rt⟩:=rx;cases (show t2=[] from rt);cases (show v=.int i from h1);cases (show v2=.int j from h2);exact⟨i,j,rfl,k _ _ ⟨rfl,rfl⟩⟩
 ·cases e
end
end L2.DL
namespace HT
theorem lL {t sl:Addr}{vl vu:Value}{lo hi:Option Int}(ht:IsTup s.heap t items) (hs:s.heap.IsSliceOf sl vl vu .none) (pl:IsPart vl lo) (pu:IsPart vu hi)
 (hw:aq items.size 0 lo=0 /\ aq items.size items.size hi=items.size) (h:Q (.ref t) s):wpAny (model prog w) A (getItem (.ref t) (.ref sl)) Q E s:=by
 obtain⟨os,se,xw,kM⟩:=id hs;have EJ:s.TypeIs (.ref sl) "slice":=⟨os,se,xw⟩;unfold getItem;try with_reducible refine kA ?_
 first|refine aa (ah ?_)|skip
 refine aa (Kw ht.typeIs (by decide) ?_);refine aa (sX (name:=Str.ofString "__getitem__") ht.typeIs tN
  (qf tN ht.typeIs Qm ?_ (Qn _ _)))
 show wpAny _ _ (Builtin.Tuple.tupleItemsOf (.ref t) >>= _) _ _ s;refine aa (Qo ht ?_);refine aa (sY EJ ?_);rw[if_pos (by decide)];refine aa (jf hs pl pu ?_);have Xn:((((aq items.size 0 lo:Nat):Int)==0&&(1:Int)==1&&(aq items.size items.size hi-aq items.size 0 lo)==items.size)=true):=by
  rw[hw.1,hw.2];simp
 show wpAny _ _ (if (((aq items.size 0 lo:Nat):Int)==0&&(1:Int)==1&&(aq items.size items.size hi-aq items.size 0 lo)==items.size)=true then _ else _) _ _ s;rw[if_pos Xn];refine aa (m:=Builtin.Tuple.tupleIsExact (.ref t)) ?_;unfold Builtin.Tuple.tupleIsExact;refine aa (sY ht.typeIs (ah ?_));rw[if_pos (by decide)];exact aa (pk (ah ⟨_,rfl,ah h⟩))
theorem jQ {α β:Type}{f g:α->Option β}:∀ {l:List α},(∀ x∈l,f x=g x)->l.filterMap f=l.filterMap g
 |[],_=>rfl
 | x::l,h=>by
   rw[pB,pB,h x a8,jQ λy hy=>h y (aV _ hy)]
theorem oF (n:Nat):sliceRange ((n:Int)-1) (-1) (-1)=(List.range n).map λk=>n-1-k:=by
 have e:(if (-1:Int)>0 then (if (n:Int)-1 < -1 then (-1-((n:Int)-1)+-1-1) / -1 else 0) else (if (n:Int)-1>-1 then ((n:Int)-1 - -1 - -1-1) / (- -1) else 0):Int).toNat=n:=by
  rw[if_neg (by decide)];split
  ·have:((n:Int)-1 - -1 - -1-1) / (- -1)=n:=by
    rw[show (- -1:Int)=1 by decide,QH];omega
   rw[this];rfl
  ·omega
 show (List.range (if (-1:Int)>0 then (if (n:Int)-1 < -1 then (-1-((n:Int)-1)+-1-1) / -1 else 0) else (if (n:Int)-1>-1 then ((n:Int)-1 - -1 - -1-1) / (- -1) else 0):Int).toNat).map _=_;rw[e];refine u9 λk hk=>?_;have:=List.mem_range.mp hk;omega
theorem Aj (its:List Value):slicePick its.toArray none none (some (-1))=its.reverse.toArray:=by
 unfold slicePick;have e:sliceBounds none none (some (-1)) its.toArray.size=((its.length:Int)-1,-1,-1):=by
  simp[sliceBounds]
 rw[e];congr 1;show (sliceRange ((its.length:Int)-1) (-1) (-1)).filterMap (its.toArray[·]?)=_;rw[oF,u7];apply Qa;intro i;have h1:(List.range its.length).filterMap ((λx=>its.toArray[x]?)∘λk=>its.length-1-k)=(List.range its.length).map λk=>(its[its.length-1-k]?).getD .none:=by
  rw[<-Qb];refine jQ λk hk=>?_;have nC:=List.mem_range.mp hk;have eQ:its.length-1-k<its.length:=by omega
  simp[eQ]
 rw[h1,qh];by_cases hi:i<its.length
 ·have eQ:its.length-1-i<its.length:=by omega
  rw[List.getElem?_range hi,List.getElem?_reverse hi];simp[eQ]
 ·rw[tE (by simpa using rV hi),tE (by simpa using rV hi)];rfl
end HT
namespace L2.DL
section
variable {a b c : Expr} {mc : DE W} {p p2 : Pos} {lo hi : Option Expr}
def S0 (K:PySem.W.Frag):V->Option Int->Option Int->Hp->VK->Prop:=λx lo hi H Q=>∃ a xs,x=.ref a /\ bc K H a xs /\
 (HT.aq xs.length 0 lo=0 /\ HT.aq xs.length xs.length hi=xs.length) /\ Q (.ref a) H
theorem LC:qB X (S0 X.K):=by
 intro pins s σ H x v vl vu lo hi sl Q I rx hs pl pu h;obtain⟨a,xs,rfl,hx,hw,q⟩:=h;cases rx;obtain⟨its,r,ht,hz⟩:=I.tuple hx;have hlen:its.toArray.size=xs.length:=by rw[aR];exact r.length.symm
 exact⟨"tuple",_,tN.lookup,ht.typeIs,HT.lL ht hs pl pu (by rw[hlen];exact hw) ⟨.ref a,H,I,rfl,q⟩⟩
def S3 (K:PySem.W.Frag):V->Option Int->Option Int->Hp->VK->Prop:=λx lo hi H Q=>RN K x lo hi H Q \/ S0 K x lo hi H Q \/ RV K x lo hi H Q
theorem NM:qB X (S3 X.K):=Nh.or (LC.or J8)
def cutD (xs:List D) (lo hi:Option Int):List D:=(xs.drop (HT.aq xs.length 0 lo)).take (HT.aq xs.length xs.length hi-HT.aq xs.length 0 lo)
theorem Dh {vs:List V}(h:aj F l vs) (lo hi:Option Int):aj F (cutD l lo hi) (rj vs lo hi):=by
 unfold cutD rj;rw[h.length];exact(h.drop _).take _
def pS:D->Option Int->Option Int->Option Res
 |.tup l,lo,hi=>some (.tup (cutD l lo hi))
 |.lst l,lo,hi=>some (.lst (cutD l lo hi))
 |_,_,_=>none
theorem Xo {x:D}{v:V}{lo hi:Option Int}{Q:VK}{s:Res}(sub:Sub F H) (rx:ke F H x v) (e:pS x lo hi=some s) (k:∀ u H',su F H s u H'->Q u H'):S3 K v lo hi H Q:=by
 cases x with
 | tup l =>
   cases e;obtain⟨a,vs,rfl,h1,h2⟩:=rx;by_cases hw:HT.aq vs.length 0 lo=0 /\ HT.aq vs.length vs.length hi=vs.length
   ·refine .inr (.inl ⟨a,vs,rfl,.of (sub _ _ h1),hw,k _ _ (.inl ⟨rfl,?_⟩)⟩);have e:cutD l lo hi=l:=by
     unfold cutD;rw[h2.length,hw.1,hw.2,zu,List.drop_zero,<-h2.length,rY]
    rw[e];exact⟨a,vs,rfl,h1,h2⟩
   ·exact .inl ⟨a,vs,rfl,.of (sub _ _ h1),hw,λp hp=>k _ _ (.inr ⟨p,_,rfl,hp,rfl,Dh h2 lo hi⟩)⟩
 | lst l =>
   cases e;obtain⟨a,vs,rfl,h1,h2⟩:=rx;exact .inr (.inr ⟨a,vs,rfl,.of h1,λp hp=>k _ _ ⟨p,_,rfl,hp,rfl,Dh h2 lo hi⟩⟩)
 |ae=>cases e
 |bl _=>cases e
 |int _=>cases e
 |str _=>cases e
 |aH _=>cases e
abbrev Xp:Hp->List Addr->Option Int->Option Int->Prop:=λ_ _ a b=>a=b
def Xq (T:Fr) (Z:Xs) (m:DE (Option Int)):TO:=λσ H Q=>∃ F r env bx,Rel T F r σ H env bx /\ End T Z Xp F r σ env Q (m env bx)
def vM (X:Cx) (T:Fr) (Z:Xs) (e:Option Expr) (m:DE (Option Int)):Prop:=PO X e (Xq T Z m)
theorem PO.imp {e:Option Expr}{t t':TO}(h:PO X e t) (f:∀ σ H Q,t' σ H Q->t σ H Q):PO X e t':=λpins s σ H Q I q=>h pins s σ H Q I (f σ H Q q)
noncomputable def sy:DE (Option Int):=λ_ bx=>.val none bx
def rH (m:DE W):DE (Option Int):=λenv bx=>fB (m env bx) λw bx1=>match w with|.d (.int i)=>.val (some i) bx1|_=>.bad
theorem NO:vM X T Z none sy:=PO.imp J5 λσ H Q ⟨F,r,env,bx,R,h⟩=>h F r none H (.refl F r) R rfl
theorem GJ (h:PD X T Z e ma):vM X T Z (some e) (rH ma):=by
 refine PO.imp (J6 h) λσ H Q ⟨F,r,env,bx,R,h⟩=>?_;refine⟨F,r,env,bx,R,End.bind h λw bx1 F1 r1 v H1 g1 R1 d1 h1=>?_⟩;split at h1
 ·rename_i i;exact⟨i,d1,h1 F1 r1 _ H1 (.refl F1 r1) R1 rfl⟩
 ·exact h1.elim
def rJ (bo:Bool) (m:DE W) (l u:DE (Option Int)):DE W:=λenv bx=>fB (m env bx) λx bx1=>fB (l env bx1) λi bx2=>fB (u env bx2) λj bL=>bS bo ((ba bL x).bind λd=>pS d i j) bL
theorem GK {l u:DE (Option Int)}(bo:Bool) (ha:PD X T Z e ma) (hl:vM X T Z lo l) (hu:vM X T Z hi u):PD X T Z (.Subscript e (.Slice lo hi none p2) pos) (rJ bo ma l u):=by
 refine PE.imp (Gg NM ha hl hu) λσ H Q ⟨F,r,env,bx,R,h⟩=>?_;refine⟨F,r,env,bx,R,End.bind h λx bx1 F1 r1 v H1 g1 R1 d1 h1=>?_⟩;refine⟨F1,r1,env,bx1,R1,End.bind h1 λi bx2 F2 r2 i' H2 g2 R2 d2 h2=>?_⟩;refine⟨F2,r2,env,bx2,R2,End.bind h2 λj bL F3 r3 j' H3 g3 R3 d3 h3=>?_⟩;subst d2 d3;cases e1:ba bL x with
 |none=>rw[e1]at h3;exact h3.elim
 | some d =>
   rw[e1]at h3;simp only[a9]at h3;cases e2:pS d i j with
   |none=>rw[e2]at h3;exact h3.elim
   | some s =>
     rw[e2]at h3;exact Xo R3.fh (R3.nW (g3.den (g2.den d1)) e1) e2 λu H' k=>jv R3 h3 k
theorem NP {te:TE}{i:Int}{q1 q2:Pos}(he:PE X e te):PE X (.Subscript e (.Slice none none (some (.UnaryOp .USub (.Constant (.int 1) j q1) q2)) p2) pos)
 (λσ H Q=>te σ H λx H1=>∃ a xs,x=.ref a /\ aQ X.K H1 a xs /\ ∀ p,H1 p=none->Q (.ref p) (upd H1 p (.lst xs.reverse))):=by
 intro pins s σ H Q I h;refine Subscript_ (ao (he pins s σ H _ I h) λv s1 ⟨x,H1,I1,r1,q1⟩=>?_);refine Ky ?_;rw[zg];refine ah (ah ?_);rw[Kx];refine ao (ME (X:=X) FY Ca pins s1 σ H1 (λy H2=>y=.int (-1) /\ H2=H1) I1 ⟨1,rfl,rfl,rfl⟩) λvs s3 ⟨y,H3,I3,r3,e1,e2⟩=>?_;subst e1 e2;obtain⟨t,rfl⟩:=r3;obtain⟨a,xs,rfl,hx,q⟩:=q1;cases r1;have I4:Inv X pins σ H3 { s3 with heap:=s3.heap.push { cls:=.type "slice",data:=.fields #[.none,.none,.int (-1) t] } }:=I3.kept (t':=s3.toks) λb ob q=>aG _ q;obtain⟨its,r,ht,hz⟩:=I4.list hx;have hlen:=r.length;have hg:wpAny (model X.prog X.w) X.A (getItem (.ref a) (.ref s3.heap.objs.size)) (EP X pins σ Q) X.xe { s3 with heap:=s3.heap.push { cls:=.type "slice",data:=.fields #[.none,.none,.int (-1) t] } }:=by
  refine Kz (lo:=none) (hi:=none) (st:=some (-1)) ht.isList (Heap.IsSliceOf.new ..) .none .none (.int (-1) t) (by simp) ?_ (by rw[aR]<;>omega);rw[HT.Aj];refine⟨.ref _,_,I4.laid (t':=s3.toks) (o:=.lst xs.reverse) (λb ob q=>aG _ q) (ag _) ?_,rfl,q _ (I4.ai.fresh (ag _))⟩;exact⟨by rw[List.length_reverse];exact hz,_,0,r.reverse,bP _ rfl⟩
 show wpAny (model X.prog X.w) X.A (subscriptTail e (.Slice none none (some (.UnaryOp .USub (.Constant (.int 1) j _) q2)) p2) (.ref a) (.ref s3.heap.objs.size)) (EP X pins σ Q) X.xe _;exact zP (ops:=[.ref a,.ref s3.heap.objs.size]) ht.isList.typeIs slot_list_getitem.lookup hg (by with_unfolding_all rfl)
def xY (bo:Bool) (m:DE W):DE W:=λenv bx=>fB (m env bx) λx bx1=>bS bo ((ba bx1 x).bind λd=>match d with|.lst l=>some (.lst l.reverse)|_=>none) bx1
theorem NQ {q1 q2:Pos}(bo:Bool) (ha:PD X T Z e ma):PD X T Z (.Subscript e (.Slice none none (some (.UnaryOp .USub (.Constant (.int 1) j q1) q2)) p2) pos) (xY bo ma):=by
 refine PE.imp (NP (i:=0) ha) λσ H Q ⟨F,r,env,bx,R,h⟩=>?_;refine⟨F,r,env,bx,R,End.bind h λx bx1 F1 r1 v H1 g1 R1 d1 h1=>?_⟩;cases e1:ba bx1 x with
 |none=>rw[e1]at h1;exact h1.elim
 | some d =>
   rw[e1]at h1;cases d with
   | lst l =>
     obtain⟨a,vs,rfl,k1,k2⟩:=R1.nW d1 e1;exact⟨a,vs,rfl,.of k1,λp hp=>jv R1 h1 ⟨p,_,rfl,hp,rfl,k2.reverse⟩⟩
   |_=>exact h1.elim
def vN (m:DE W):DE W:=λenv bx=>fB (m env bx) λw bx1=>match w with|.d (.int i)=>.val (.d (.int (-i))) bx1|_=>.bad
theorem NR (ha:PD X T Z a ma):PD X T Z (.UnaryOp .USub a pos) (vN ma):=by
 refine PE.imp (ME FY ha) λσ H Q ⟨F,r,env,bx,R,h⟩=>?_;refine⟨F,r,env,bx,R,End.bind h λw bx1 F1 r1 v H1 g1 R1 d1 h1=>?_⟩;split at h1
 ·rename_i i;exact⟨i,d1,h1 F1 r1 _ H1 (.refl F1 r1) R1 rfl⟩
 ·exact h1.elim
end
end L2.DL
namespace HT
theorem mM {l:Addr}{Q:List Value->Shared->Prop}(hl:IsTup s.heap l vs.toArray) (hz:vs.length<=sizeLine)
 (h:Q vs { s with heap:=(s.heap.push (seqObj "list" #[] 0)).update s.heap.objs.size (Obj.mapSeq (·++vs.toArray)) }):wpAny (model prog w) A (collect (.ref l)) Q E s:=by
 obtain⟨ob,ho,sf,k,nZ⟩:=id hl;unfold collect;refine aa (wpAny_runValue (zl entry_proto_collect' (aa (wz (ah ⟨Q4 _ (by decide +kernel),zl entry_list_iadd' ?_⟩)))));show wpAny _ _ (Builtin.List.listExtendWith (.ref s.heap.objs.size) (.ref l) (.ref s.heap.objs.size)) _ _ { s with heap:=s.heap.push (seqObj "list" #[] 0) };unfold Builtin.List.listExtendWith;have n8:(s.heap.push (seqObj "list" #[] 0)).get? l=some ob:=aG _ ho;refine aa (sY (T:="tuple") ⟨ob,n8,sf⟩ ?_);rw[if_pos (by rw[show (Value.type "tuple"==Value.type "tuple")=true by decide,KW])];refine aa (ql n8 nZ (aa (ql (xs:=#[]) (n:=0) (bP _ rfl) rfl ?_)));rw[if_neg (by simp)];refine aa (wW (xs:=#[]) (n:=0) (bP _ rfl) rfl (ah ?_) (k8 _) (by show (#[]++vs.toArray).size<=sizeLine+1;simp only[Array.size_append,aR,kF];omega));refine aa (za (Qq (bP _ rfl) _) (show wpAny _ _ (pure ((#[]:Array Value)++vs.toArray).toList) Q E _ from ?_));rw[show ((#[]:Array Value)++vs.toArray).toList=vs by simp];exact ah h
theorem oG {l:Addr}(hl:IsTup s.heap l vs.toArray) (hI:IntsAre vs ns) (cj:vs.length<64)
 (h:∀ (out:Array Value) (cB:List Int),IntsAre out.toList cB->cB.Perm ns->cB.Pairwise (·<=·)->Q (.ref (s.heap.objs.size+1)) { s with heap:=sortedAll s.heap vs out }):wpAny (model prog w) A (call (.builtin "sorted") [.ref l]) Q E s:=by
 refine Q3 Qr Qs Qt (Qu _) ?_;unfold Builtin.«sorted»;refine aa (m:=checkCount "sorted" 1 1 _) (ah (aa (mM hl (bu (eu cj) (by decide)) (aa (wz ?_)))));have hsz:((s.heap.push (seqObj "list" #[] 0)).update s.heap.objs.size (Obj.mapSeq (·++vs.toArray))).objs.size=s.heap.objs.size+1:=by rw[K3,size_push']
 have xj:(((s.heap.push (seqObj "list" #[] 0)).update s.heap.objs.size (Obj.mapSeq (·++vs.toArray))).push (seqObj "list" vs.toArray 0)).get? (s.heap.objs.size+1)=some (seqObj "list" vs.toArray 0):=by rw[<-hsz];exact bP _ rfl
 show wpAny _ _ _ _ _ { s with heap:=((s.heap.push (seqObj "list" #[] 0)).update s.heap.objs.size (Obj.mapSeq (·++vs.toArray))).push (seqObj "list" vs.toArray 0) };rw[hsz];exact aa (kA (qf Qv ⟨_,xj,rfl⟩ Qw (list_sort_tree xj hI cj λout cB a1 a2 a3=>⟨_,rfl,ah ⟨_,rfl,h out cB a1 a2 a3⟩⟩) (Qx _)))
end HT
namespace L2.DL
noncomputable def sortI (ns:List Int):List Int:=ns.mergeSort λa b=>decide (a<=b)
theorem jw (ns:List Int):(sortI ns).Perm ns:=wN ns _
theorem lM (ns:List Int):(sortI ns).Pairwise (·<=·):=by
 have h:=zJ (le:=λa b:Int=>decide (a<=b)) (λa b c h1 h2=>by simp at *;omega) (λa b=>by simp;omega) ns;exact h.imp λq=>by simpa using q
theorem BC {a b:List Int}(p:a.Perm b) (ha:a.Pairwise (·<=·)) (hb:b.Pairwise (·<=·)):a=b :=
 p.eq_of_pairwise (λx y _ _ h1 h2=>Int.le_antisymm h1 h2) ha hb
section
variable {a b c : Expr} {mc : DE W} {p p2 : Pos}
def uh (K:PySem.W.Frag) (vs:List V) (H:Hp) (Q:VK):Prop:=∃ (p:Addr) (ns:List Int),vs=[.ref p] /\ (aQ K H p (ns.map V.int) \/ bc K H p (ns.map V.int)) /\ ns.length<64 /\ ∀ l,H l=none->Q (.ref l) (upd H l (.lst ((sortI ns).map V.int)))
theorem Az:∀ {us:List Value}{ns:List Int},IntsAre us ns->Vals (ns.map V.int) us
 |_,_,.nil=>.nil
 |_,_,.cons n t h=>.cons ⟨t,rfl⟩ (Az h)
theorem Fl:cK X (.builtin "sorted") (uh X.K):=by
 intro pins s σ H xs us Q I rv h;obtain⟨p,ns,rfl,hp,cj,q⟩:=h;obtain⟨u,rfl,ru⟩:=Vals.one rv;cases ru;have fin:∀ (its:List Value) (out:Array Value) (cB:List Int),IntsAre out.toList cB->cB.Perm ns->cB.Pairwise (·<=·)->EP X pins σ Q (.ref (s.heap.objs.size+1)) { s with heap:=sortedAll s.heap its out }:=λits out cB a1 a2 a3=>by
  obtain⟨k,he⟩:=zQ s.heap its out;have e:cB=sortI ns:=BC (a2.trans (jw ns).symm) a3 (lM ns);subst e;have hf:H (s.heap.objs.size+1)=none:=I.ai.fresh (pw _);have ll:((sortI ns).map V.int).length<=sizeLine:=by
   rw[aL,(jw ns).length_eq];exact bu (eu cj) (by decide)
  refine⟨.ref (s.heap.objs.size+1),_,I.laid (t':=s.toks) (o:=.lst ((sortI ns).map V.int)) (λb ob q=>zR q) (pw _) ?_,rfl,q _ hf⟩;exact⟨ll,out.toList,k,Az a1,he⟩
 rcases hp with hp|hp
 ·obtain⟨its,r1,p1,z1⟩:=I.list hp;have hl:ns.length=its.length:=by have:=r1.length;simpa using this
  exact sorted_ints p1.isList (ik r1) (by omega) λout cB=>fin its out cB
 ·obtain⟨its,r1,p1,z1⟩:=I.tuple hp;have hl:ns.length=its.length:=by have:=r1.length;simpa using this
  exact HT.oG p1 (ik r1) (by omega) λout cB=>fin its out cB
def qI:List D->Option Res
 |[.lst l]=>(intsOf l).bind λns=>if ns.length<64 then some (.lst ((sortI ns).map D.int)) else none
 |[.tup l]=>(intsOf l).bind λns=>if ns.length<64 then some (.lst ((sortI ns).map D.int)) else none
 |_=>none
theorem lN {F:Hp}:∀ (ns:List Int),aj F (ns.map D.int) (ns.map V.int)
 |[]=>rfl
 |n::ns=>.cons rfl (lN ns)
theorem Xr:eE (uh K) qI:=by
 intro F H xs vs Q s sub rx e k;unfold qI at e;split at e
 ·rename_i l;obtain⟨v,t,rfl,⟨a,us,rfl,h1,h2⟩,rt⟩:=rx;cases (show t=[] from rt);cases e1:intsOf l with
  |none=>rw[e1]at e;cases e
  | some ns =>
    rw[e1]at e;simp only[a9]at e;split at e
    ·rename_i cj;cases e;have q1:=h2.ints e1;subst q1;exact⟨a,ns,rfl,.inl (.of h1),cj,λl hl=>k _ _ ⟨l,_,rfl,hl,rfl,lN _⟩⟩
    ·cases e
 ·rename_i l;obtain⟨v,t,rfl,⟨a,us,rfl,h1,h2⟩,rt⟩:=rx;cases (show t=[] from rt);cases e1:intsOf l with
  |none=>rw[e1]at e;cases e
  | some ns =>
    rw[e1]at e;simp only[a9]at e;split at e
    ·rename_i cj;cases e;have q1:=h2.ints e1;subst q1;exact⟨a,ns,rfl,.inr (.of (sub _ _ h1)),cj,λl hl=>k _ _ ⟨l,_,rfl,hl,rfl,lN _⟩⟩
    ·cases e
 ·cases e
def ui (m:DE W) (k:DE W):DE W:=λenv bx=>fB (m env bx) λx bx1=>match x with
 | .b n=>(match bx1[n]? with
   | some (.lst _)=>fB (k env bx1) λy bx2=>(match y,bx2[n]? with
     |.d d,some (.lst l)=>if l.length<sizeLine then .val (.d .ae) (bx2.set n (.lst (l++[d]))) else .bad
     |_,_=>.bad)
   |_=>.bad)
 |_=>.bad
theorem Pf {Q:VK}(h:tD T Z (ui ma mb) σ H Q):RX X.K "list" RY (tD T Z ma) (Ey (tD T Z mb) xt) σ H Q:=by
 obtain⟨F,r,env,bx,R,h⟩:=h;refine⟨F,r,env,bx,R,End.bind h λx bx1 F1 r1 v H1 g1 R1 d1 h1=>?_⟩;cases x with
 |d _=>exact h1.elim
 |s _=>exact h1.elim
 |x _=>exact h1.elim
 |t _=>exact h1.elim
 |m _=>exact h1.elim
 | b n =>
   simp only at h1;obtain⟨a,rfl,ha⟩:=d1;obtain⟨c,hc,kc⟩:=R1.rD ha;rw[hc]at h1;cases c with
   |aH _=>exact h1.elim
   |dead=>exact h1.elim
   |dT _=>exact h1.elim
   |fD _=>exact h1.elim
   |ins _ _=>exact h1.elim
   | lst l0 =>
     obtain⟨_,Xt,k0,_⟩:=kc;refine⟨.inl ⟨rfl,Xt,aQ.of k0⟩,?_⟩;refine⟨F1,r1,env,bx1,R1,End.bind h1 λy bx2 F2 r2 u H2 g2 R2 d2 h2=>?_⟩;obtain⟨t,et⟩:=g2.p;have xZ:r2[n]?=some a:=by rw[<-et,cu (List.getElem?_eq_some_iff.mp ha).1];exact ha
     obtain⟨c2,eO,Ho⟩:=R2.rD xZ;rw[eO]at h2;cases y with
     |b _=>exact h2.elim
     |s _=>exact h2.elim
     |x _=>exact h2.elim
     |t _=>exact h2.elim
     |m _=>exact h2.elim
     | d dd =>
       cases c2 with
       |aH _=>exact h2.elim
       |dead=>exact h2.elim
       |dT _=>exact h2.elim
       |fD _=>exact h2.elim
       |ins _ _=>exact h2.elim
       | lst l =>
         simp only at h2;split at h2
         ·rename_i hz;obtain⟨hF,vs,k1,k2⟩:=Ho;refine⟨a,vs,u,rfl,rfl,k1,by rw[<-k2.length];exact hz,?_⟩;exact h2 F2 r2 _ _ (.refl F2 r2) (R2.write xZ hF ⟨hF,vs++[u],fw,k2.append (.cons d2 .nil)⟩) rfl
         ·exact h2.elim
end
end L2.DL
namespace L2
section
variable {κ : Type} [DecidableEq κ]
end
section
variable {h : Heap} 
end
section
variable {y v : V} {r : Value} {o : Option V} 
end
section
variable {k : Key} 
end
section
variable {o i value : Expr} {pos' RK : Pos} {td ty tv : TE}
end
section
variable {y d : V} {r : Value} {o : Option V} 
end
section
variable {o f : Expr} {cY : Pos} {td ty tx : TE}
end
section
variable {y : V} 
end
end L2
namespace L2.DL
noncomputable def kl:Key->PyData
 |.inl i=>.int i
 |.inr x=>.str x
mutual
noncomputable def toPy:D->PyData
 |.ae=>.none
 |.bl b=>.bool b
 |.int i=>.int i
 |.str x=>.str x
 |.tup l=>.tuple (aI l)
 |.lst l=>.list (aI l)
 |.aH l=>.dict (aU l)
noncomputable def aI:List D->List PyData
 |[]=>[]
 |d::l=>toPy d::aI l
noncomputable def aU:List (Key×D)->List (PyData×PyData)
 |[]=>[]
 |(k,d)::l=>(kl k,toPy d)::aU l
end
theorem mf {h:Heap}:∀ {es:List DictEntry}{vs:List (Key×Value)}{l:List (Key×D)}{ay:List (Key×V)},PySem.Pairs (tQ X.prog X.w) es vs->KV ay vs->cx F l ay->ReadsAll h (es.map (·.key)) ((aU l).map (·.1)) []
 | _,_,[],_,p,k,d=>by
   cases (show _=[] from d);cases k;cases p;exact .nil
 | _,_,(k,x)::l,_,p,q,d=>by
   obtain⟨v,r,e,_,d2⟩:=d;subst e;cases q with
   | cons q1 q2 =>
     cases p with
     | @cons de _ _ _ p1 p2 p3 =>
       have ih:=mf (h:=h) p3 q2 d2;have e1:=q1.1;simp only at e1;rw[<-e1]at p1;have hk:Reads h de.key (kl k) []:=by
        rcases f7 (show vf k de.key=true from p1) with⟨i,t,e2,e3⟩|⟨y,t,e2,e3⟩
        ·rw[e2,e3];exact .int i t
        ·rw[e2,e3];exact .str y t
       exact ReadsAll.cons hk ih
mutual
theorem ge (I:Inv X pins σ H s) (sub:Sub F H):∀ {d:D}{v:V}{u:Value},Den F d v->RelV v u->∃ as,Reads s.heap u (toPy d) as
 |.ae,_,_,h,r=>by cases (show _=V.ae from h);cases r;exact⟨[],.none⟩
 |.bl b,_,_,h,r=>by cases (show _=V.bl b from h);cases r;exact⟨[],.bool b⟩
 |.int i,_,_,h,r=>by cases (show _=V.int i from h);obtain⟨t,rfl⟩:=r;exact⟨[],.int i t⟩
 |.str x,_,_,h,r=>by cases (show _=V.str x from h);obtain⟨t,rfl⟩:=r;exact⟨[],.str x t⟩
 | .tup l,_,_,h,r=>by
   obtain⟨a,vs,rfl,h1,h2⟩:=h;cases r;obtain⟨_,its,rv,ob,e1,e2,n,e3⟩:=(show aZ X.prog X.w H s.heap a (.tup vs) from I.ai a _ (sub _ _ h1));obtain⟨as,ra⟩:=jx I sub h2 rv;exact⟨as,.tuple e1 e2 e3 (by simpa using ra)⟩
 | .lst l,_,_,h,r=>by
   obtain⟨a,vs,rfl,h1,h2⟩:=h;cases r;obtain⟨_,its,n,rv,e1⟩:=(show aZ X.prog X.w H s.heap a (.lst vs) from I.ai a _ (sub _ _ h1));obtain⟨as,ra⟩:=jx I sub h2 rv;exact⟨a::as,.list e1 rfl rfl (by simpa using ra)⟩
 | .aH l,_,_,h,r=>by
   obtain⟨a,ay,rfl,h1,h2⟩:=h;cases r;obtain⟨_,_,vs,rk,ob,es,ep,e1,e2,e3,_,pr,_⟩:=(show aZ X.prog X.w H s.heap a (.dK ay) from I.ai a _ (sub _ _ h1));obtain⟨as,ra⟩:=lm I sub h2 rk pr;exact⟨a::[]++as,.dict e1 e2.1 e3 (mf (X:=X) pr rk h2) ra⟩
theorem jx (I:Inv X pins σ H s) (sub:Sub F H):∀ {l:List D}{vs:List V}{us:List Value},aj F l vs->Vals vs us->∃ as,ReadsAll s.heap us (aI l) as
 |[],_,_,h,r=>by cases (show _=[] from h);cases r;exact⟨[],.nil⟩
 | d::l,_,_,h,r=>by
   obtain⟨v,t,e,h1,h2⟩:=h;subst e;cases r with
   | cons r1 r2 =>
     obtain⟨as,ra⟩:=ge I sub h1 r1;obtain⟨bs,rb⟩:=jx I sub h2 r2;exact⟨as++bs,.cons ra rb⟩
theorem lm (I:Inv X pins σ H s) (sub:Sub F H):∀ {l:List (Key×D)}{ay:List (Key×V)}{vs:List (Key×Value)}{es:List DictEntry},cx F l ay->KV ay vs->PySem.Pairs (tQ X.prog X.w) es vs->∃ as,ReadsAll s.heap (es.map (·.val)) ((aU l).map (·.2)) as
 |[],_,_,_,h,r,p=>by cases (show _=[] from h);cases r;cases p;exact⟨[],.nil⟩
 | (k,d)::l,_,_,_,h,r,p=>by
   obtain⟨v,t,e,h1,h2⟩:=h;subst e;cases r with
   | cons r1 r2 =>
     cases p with
     | cons p1 p2 p3 =>
       obtain⟨as,ra⟩:=ge I sub h1 r1.2;obtain⟨bs,rb⟩:=lm I sub h2 r2 p3;rw[<-p2]at ra;exact⟨as++bs,.cons ra rb⟩
end
abbrev vO (ts:List Str):Prop:=∀ t∈ts,t.length<=sizeLine
theorem GL {h:Heap}{k:Key}{y:Value}(e:vf k y=true) (hs:(kl k).showable=true) (hz:(kl k).shown.length<=sizeLine) (n:Nat):ReprK X.prog X.w [] h n y (kl k).shown:=by
 rcases f7 e with⟨i,t,e2,e3⟩|⟨x,t,e2,e3⟩
 ·subst e2;subst e3;exact .of_is (ReprIs.int t (by simpa[kl,PyData.showable] using hs)) _ _ _
 ·subst e2;subst e3;exact .of_is (ReprIs.str x t (by simpa only[kl,PyData.shown] using hz)) _ _ _
theorem mh {h:Heap}{n:Nat}:∀ {es:List DictEntry}{vs:List (Key×Value)}{l:List (Key×D)}{ay:List (Key×V)},PySem.Pairs (tQ X.prog X.w) es vs->KV ay vs->cx F l ay->PyData.showableKv (aU l)=true->vO (PyData.shownKv (aU l)) ->
 ReprAllK X.prog X.w [] h n (es.map (·.key)) (PyData.shownAll ((aU l).map (·.1)))
 | _,_,[],_,p,k,d,_,_=>by
   cases (show _=[] from d);cases k;cases p;exact .nil
 | _,_,(k,x)::l,_,p,q,d,hs,hz=>by
   obtain⟨v,r,e,_,d2⟩:=d;subst e;simp only[aU,PyData.showableKv,aw]at hs;simp only[aU,PyData.shownKv]at hz;have z1:=hz _ (a8 ..);rw[kB,kB]at z1;cases q with
   | cons q1 q2 =>
     cases p with
     | @cons de _ _ _ p1 p2 p3 =>
       have e1:=q1.1;simp only at e1;rw[<-e1]at p1;simp only[aU,aN,PyData.shownAll];exact .cons (GL (show vf k de.key=true from p1) hs.1.1 (by omega) n) (mh p3 q2 d2 hs.2 λt m=>hz t (aV _ m))
mutual
theorem BD (I:Inv X pins σ H s) (sub:Sub F H):∀ {d:D}{v:V}{u:Value},Den F d v->RelV v u->(toPy d).showable=true->(toPy d).shown.length<=sizeLine->∃ bs,ReadAtMost s.heap (toPy d).depth bs /\ ReprK X.prog X.w bs s.heap (toPy d).depth u (toPy d).shown
 |.ae,_,_,h,r,_,_=>by cases (show _=V.ae from h);cases r;exact⟨[],(λ_ z=>nomatch z),.of_is ReprIs.none _ _ _⟩
 |.bl b,_,_,h,r,_,_=>by cases (show _=V.bl b from h);cases r;exact⟨[],(λ_ z=>nomatch z),.of_is (ReprIs.bool b) _ _ _⟩
 |.int i,_,_,h,r,hs,_=>by cases (show _=V.int i from h);obtain⟨t,rfl⟩:=r;exact⟨[],(λ_ z=>nomatch z),.of_is (ReprIs.int t (of_decide_eq_true hs)) _ _ _⟩
 |.str x,_,_,h,r,_,hz=>by cases (show _=V.str x from h);obtain⟨t,rfl⟩:=r;exact⟨[],(λ_ z=>nomatch z),.of_is (ReprIs.str x t hz) _ _ _⟩
 | .tup l,_,_,h,r,hs,hz=>by
   obtain⟨as,rd⟩:=ge I sub h r;obtain⟨a,vs,rfl,h1,h2⟩:=h;cases r;obtain⟨_,its,rv,ob,e1,e2,n,e3⟩:=(show aZ X.prog X.w H s.heap a (.tup vs) from I.ai a _ (sub _ _ h1));have eT:(tupleText (PyData.shownAll (aI l))).length<=sizeLine:=by simpa only[toPy,PyData.shown] using hz
   obtain⟨bs,hb,hk⟩:=jh I sub h2 rv (by simpa[toPy,PyData.showable] using hs) λt m=>bu (KG m) eT;simp only[toPy,PyData.depth,PyData.shown]at rd ⊢;exact⟨a::bs,ReadAtMost.cons rd (pw _) hb,ReprK.tuple e1 e2 e3 (sZ rd (nJ _) hb) (by simpa using hk)⟩
 | .lst l,_,_,h,r,hs,hz=>by
   obtain⟨as,rd⟩:=ge I sub h r;obtain⟨a,vs,rfl,h1,h2⟩:=h;cases r;obtain⟨_,its,n,rv,e1⟩:=(show aZ X.prog X.w H s.heap a (.lst vs) from I.ai a _ (sub _ _ h1));have eT:(listText (PyData.shownAll (aI l))).length<=sizeLine:=by simpa only[toPy,PyData.shown] using hz
   obtain⟨bs,hb,hk⟩:=jh I sub h2 rv (by simpa[toPy,PyData.showable] using hs) λt m=>bu (KH m) eT;simp only[toPy,PyData.depth,PyData.shown]at rd ⊢;refine⟨a::bs,ReadAtMost.cons rd (pw _) hb,?_⟩;cases its with
   | nil =>
     have e:aI l=[]:=by
      cases l with
      |nil=>rfl
      |cons x l=>obtain⟨v,t,e,_⟩:=h2;subst e;cases rv
     rw[e];simp only[PyData.shownAll,KI];exact ReprK.listEmpty e1 rfl rfl
   |cons x its=>exact ReprK.list e1 rfl rfl (sZ rd (nJ _) hb) (by simpa using hk.length_eq) λi y q=>hk.item i y (by simpa using q)
 | .aH l,_,_,h,r,hs,hz=>by
   obtain⟨as,rd⟩:=ge I sub h r;obtain⟨a,ay,rfl,h1,h2⟩:=h;cases r;obtain⟨_,hy,vs,rk,ob,es,ep,e1,e2,e3,_,pr,_⟩:=(show aZ X.prog X.w H s.heap a (.dK ay) from I.ai a _ (sub _ _ h1));have eT:(dictText (PyData.shownKv (aU l))).length<=sizeLine:=by simpa only[toPy,PyData.shown] using hz
   have fit:vO (PyData.shownKv (aU l)):=λt m=>bu (KJ m) eT;have vP:PyData.showableKv (aU l)=true:=by simpa[toPy,PyData.showable] using hs
   obtain⟨bs,hb,hk⟩:=mj I sub h2 rk pr vP fit;have hK:=mh (X:=X) (h:=s.heap) (n:=PyData.depthKv (aU l)) pr rk h2 vP fit;simp only[toPy,PyData.depth,PyData.shown]at rd ⊢;rw[Eg];exact⟨a::bs,ReadAtMost.cons rd (pw _) hb,ReprK.dict e1 e2.1 e3 hy (sZ rd (nJ _) hb) (Q5 _ _ _ (hK.more_le (λ_ z=>by cases z) (ag _)) hk)⟩
theorem jh (I:Inv X pins σ H s) (sub:Sub F H):∀ {l:List D}{vs:List V}{us:List Value},aj F l vs->Vals vs us->PyData.showableAll (aI l)=true->vO (PyData.shownAll (aI l))->∃ bs,ReadAtMost s.heap (PyData.depthAll (aI l)) bs /\ ReprAllK X.prog X.w bs s.heap (PyData.depthAll (aI l)) us (PyData.shownAll (aI l))
 |[],_,_,h,r,_,_=>by cases (show _=[] from h);cases r;exact⟨[],(λ_ z=>nomatch z),.nil⟩
 | d::l,_,_,h,r,hs,hz=>by
   obtain⟨v,t,e,h1,h2⟩:=h;subst e;simp only[aI,PyData.showableAll,aw]at hs;simp only[aI,PyData.shownAll]at hz;cases r with
   | cons r1 r2 =>
     obtain⟨as,ha,ka⟩:=BD I sub h1 r1 hs.1 (hz _ (a8 ..));obtain⟨bs,hb,kb⟩:=jh I sub h2 r2 hs.2 λt m=>hz t (aV _ m);simp only[aI,PyData.depthAll,PyData.shownAll];have la:=Nat.le_max_left (toPy d).depth (PyData.depthAll (aI l));have lb:=Nat.le_max_right (toPy d).depth (PyData.depthAll (aI l));exact⟨as++bs,(ha.mono la).append (hb.mono lb),.cons ((ka.more λ_ m=>kD _ m).level_le la) (kb.more_le (λ_ m=>kE _ m) lb)⟩
theorem mj (I:Inv X pins σ H s) (sub:Sub F H):∀ {l:List (Key×D)}{ay:List (Key×V)}{vs:List (Key×Value)}{es:List DictEntry},cx F l ay->KV ay vs->PySem.Pairs (tQ X.prog X.w) es vs->PyData.showableKv (aU l)=true->vO (PyData.shownKv (aU l)) ->
 ∃ bs,ReadAtMost s.heap (PyData.depthKv (aU l)) bs /\ ReprAllK X.prog X.w bs s.heap (PyData.depthKv (aU l)) (es.map (·.val)) (PyData.shownAll ((aU l).map (·.2)))
 |[],_,_,_,h,r,p,_,_=>by cases (show _=[] from h);cases r;cases p;exact⟨[],(λ_ z=>nomatch z),.nil⟩
 | (k,d)::l,_,_,_,h,r,p,hs,hz=>by
   obtain⟨v,t,e,h1,h2⟩:=h;subst e;simp only[aU,PyData.showableKv,aw]at hs;simp only[aU,PyData.shownKv]at hz;have z1:=hz _ (a8 ..);rw[kB,kB]at z1;cases r with
   | cons r1 r2 =>
     cases p with
     | cons p1 p2 p3 =>
       obtain⟨as,ha,ka⟩:=BD I sub h1 r1.2 hs.1.2 (by omega);obtain⟨bs,hb,kb⟩:=mj I sub h2 r2 p3 hs.2 λt m=>hz t (aV _ m);rw[<-p2]at ka;simp only[aU,PyData.depthKv,aN,PyData.shownAll];have la:(toPy d).depth<=max (max (kl k).depth (toPy d).depth) (PyData.depthKv (aU l)):=by omega
       have lb:PyData.depthKv (aU l)<=max (max (kl k).depth (toPy d).depth) (PyData.depthKv (aU l)):=by omega
       exact⟨as++bs,(ha.mono la).append (hb.mono lb),.cons ((ka.more λ_ m=>kD _ m).level_le la) (kb.more_le (λ_ m=>kE _ m) lb)⟩
end
section
variable {a b c : Expr} {mc : DE W} {p p2 : Pos}
def Xu (vs:List V) (H:Hp) (Q:VK):Prop:=∃ (F:Hp) (d:D) (v:V),vs=[v] /\ Sub F H /\ Den F d v /\ (toPy d).showable=true /\ (toPy d).depth<=60 /\ (toPy d).shown.length<=sizeLine /\ Q (.str (toPy d).shown) H
theorem Fm (hr:aO k X.A):cK X (.builtin "repr") Xu:=by
 intro pins s σ H xs us Q I rv h;obtain⟨F,d,v,rfl,sub,hd,h1,h2,h3,q⟩:=h;obtain⟨u,rfl,ru⟩:=Vals.one rv;have fin:∀ (t:Tok) (tk:Nat),EP X pins σ Q (.str (toPy d).shown t) { s with toks:=tk }:=λt tk=>⟨.str _,H,I.tok tk,⟨t,rfl⟩,q⟩;have ya:∀ (t':Str),t'=(toPy d).shown->∀ h' u tk,(∀ b o,s.heap.get? b=some o->h'.get? b=some o)->∃ x t,Value.str t' u=.str x t /\ EP X pins σ Q (.str t' u) { s with heap:=h',toks:=tk }:=λt' et h' t tk hk=>by
  subst et;exact⟨_,_,rfl,.str _,H,I.kept (t':=tk) hk,⟨t,rfl⟩,q⟩
 have hu:=hr.units;cases d with
 |ae=>cases (show v=.ae from hd);cases ru;exact P.repr_of_none (fin _ _)
 |bl b=>cases (show v=.bl b from hd);cases ru;exact P.repr_of_bool (fin _ _)
 |int i=>cases (show v=.int i from hd);obtain⟨t,rfl⟩:=ru;exact P.repr_of_int (of_decide_eq_true h1) (fin _ _)
 |str x=>cases (show v=.str x from hd);obtain⟨t,rfl⟩:=ru;exact P.repr_of_str (hsz:=h3) (fin _ _)
 | tup l =>
   obtain⟨as,rd⟩:=ge I sub hd ru;obtain⟨a,vs,rfl,k1,k2⟩:=hd;cases ru;obtain⟨_,its,rv,ob,e1,e2,n,e3⟩:=(show aZ X.prog X.w H s.heap a (.tup vs) from I.ai a _ (sub _ _ k1));have eT:(tupleText (PyData.shownAll (aI l))).length<=sizeLine:=by simpa only[toPy,PyData.shown] using h3
   obtain⟨bs,hb,hk⟩:=jh I sub k2 rv (by simpa[toPy,PyData.showable] using h1) λt m=>bu (KG m) eT;simp only[toPy,PyData.depth]at rd h2;exact zm (by omega) ⟨ob,e1,e2⟩ PySem.F.slot_tuple_repr (call_tuple_reprK e1 e2 e3 (sZ rd (nJ _) hb) (by simpa using hk) hr.gd (λb _=>Clear.nil b) (by show X.A.units+1+_<cLine;omega) (λ_ _ z=>z) (ya _ (by simp only[toPy,PyData.shown])) eT)
 | lst l =>
   obtain⟨as,rd⟩:=ge I sub hd ru;obtain⟨a,vs,rfl,k1,k2⟩:=hd;cases ru;obtain⟨_,its,n,rv,e1⟩:=(show aZ X.prog X.w H s.heap a (.lst vs) from I.ai a _ (sub _ _ k1));have eT:(listText (PyData.shownAll (aI l))).length<=sizeLine:=by simpa only[toPy,PyData.shown] using h3
   obtain⟨bs,hb,hk⟩:=jh I sub k2 rv (by simpa[toPy,PyData.showable] using h1) λt m=>bu (KH m) eT;simp only[toPy,PyData.depth]at rd h2;refine zm (by omega) ⟨_,e1,rfl⟩ PySem.F.slot_list_repr.toG ?_;cases its with
   | nil =>
     have e:aI l=[]:=by
      cases l with
      |nil=>rfl
      |cons x l=>obtain⟨v,t,e,_⟩:=k2;subst e;cases rv
     exact call_list_repr_empty ⟨_,e1,rfl⟩ e1 rfl (ya "[]" (by simp only[toPy,PyData.shown,e,PyData.shownAll,KI]) s.heap _ _ λ_ _ z=>z)
   |cons x its=>exact call_list_reprK e1 rfl rfl (sZ rd (nJ _) hb) (by simpa using hk.length_eq) (λi y q=>hk.item i y (by simpa using q)) hr.gd (λb _=>Clear.nil b) (by show X.A.units+1+_<cLine;omega) (λ_ _ z=>z) (ya _ (by simp only[toPy,PyData.shown])) eT
 | aH l =>
   obtain⟨as,rd⟩:=ge I sub hd ru;obtain⟨a,ay,rfl,k1,k2⟩:=hd;cases ru;obtain⟨_,hy,vs,rk,ob,es,ep,e1,e2,e3,_,pr,_⟩:=(show aZ X.prog X.w H s.heap a (.dK ay) from I.ai a _ (sub _ _ k1));have eT:(dictText (PyData.shownKv (aU l))).length<=sizeLine:=by simpa only[toPy,PyData.shown] using h3
   have fit:vO (PyData.shownKv (aU l)):=λt m=>bu (KJ m) eT;have vP:PyData.showableKv (aU l)=true:=by simpa[toPy,PyData.showable] using h1
   obtain⟨bs,hb,hk⟩:=mj I sub k2 rk pr vP fit;have hK:=mh (X:=X) (h:=s.heap) (n:=PyData.depthKv (aU l)) pr rk k2 vP fit;simp only[toPy,PyData.depth]at rd h2;rw[Eg]at eT;exact zm (by omega) ⟨ob,e1,e2.1⟩ PySem.F.slot_dict_repr (call_dict_reprK e1 e2.1 e3 hy (sZ rd (nJ _) hb) (Q5 _ _ _ (hK.more_le (λ_ z=>by cases z) (ag _)) hk) hr.gd (λb _=>Clear.nil b) (by show X.A.units+1+_<cLine;omega) (λ_ _ z=>z) (ya _ (by simp only[toPy,PyData.shown,Eg])) eT)
def nE (d:D):Bool:=(toPy d).showable&&decide ((toPy d).depth<=60)&&decide ((toPy d).shown.length<=sizeLine)
theorem LD (s:Sub F H):∀ {d:D}{v:V},ke F H d v->∃ F',Sub F' H /\ Den F' d v
 | .lst l,_,h=>by
   obtain⟨a,vs,rfl,h1,h2⟩:=h;refine⟨upd F a (.lst vs),λb u e=>?_,a,vs,rfl,fw,aj.mono (λb u e=>?_) l h2⟩
   ·by_cases z:b=a
    ·subst z;rw[fw]at e;rw[h1,e]
    ·rw[fq z]at e;exact s b u e
   ·by_cases z:b=a
    ·subst z;rw[s b u e]at h1;rw[fw,h1]
    ·rw[fq z];exact e
 | .aH l,_,h=>by
   obtain⟨a,vs,rfl,h1,h2⟩:=h;refine⟨upd F a (.dK vs),λb u e=>?_,a,vs,rfl,fw,cx.mono (λb u e=>?_) l h2⟩
   ·by_cases z:b=a
    ·subst z;rw[fw]at e;rw[h1,e]
    ·rw[fq z]at e;exact s b u e
   ·by_cases z:b=a
    ·subst z;rw[s b u e]at h1;rw[fw,h1]
    ·rw[fq z];exact e
 |.tup _,_,h=>⟨F,s,h⟩
 |.ae,_,h=>⟨F,s,h⟩
 |.bl _,_,h=>⟨F,s,h⟩
 |.int _,_,h=>⟨F,s,h⟩
 |.str _,_,h=>⟨F,s,h⟩
def sC (m:DE W):DE W:=λenv bx=>fB (m env bx) λw bx1=>match ba bx1 w with
 |some d=>if nE d=true then .val (.d (.str (toPy d).shown)) bx1 else .bad
 |none=>.bad
theorem LE (hr:aO k X.A) (hg:Gl X "repr") (hm:X.mg "repr"=none) (ha:PD X T Z a ma) (he:starEach [a] X.env=(false,eval a X.env)::starEach [] X.env:=by rfl) :
 PD X T Z (.Call (.Name "repr" p) [a] [] pos) (sC ma):=by
 refine PE.imp (fQ (Fm hr) hg hm (by decide +kernel) (fj ha fO he) (by decide) (by decide) he (by rfl)) λσ H Q ⟨F,r,env,bx,R,h⟩=>?_;refine⟨F,r,env,bx,R,End.bind h λw bx1 F1 r1 v H1 g1 R1 d1 h1=>?_⟩;split at h1
 ·rename_i d er;obtain⟨F2,sub,d2⟩:=LD R1.fh (R1.nW d1 er);split at h1
  ·rename_i hc;unfold nE at hc;rw[aw,aw]at hc;exact⟨F2,d,v,rfl,sub,d2,hc.1.1,of_decide_eq_true hc.1.2,of_decide_eq_true hc.2,h1 F1 r1 _ H1 (.refl F1 r1) R1 rfl⟩
  ·exact h1.elim
 ·exact h1.elim
end
theorem gP (I:Inv X pins σ H s) (sub:Sub F H) {d:D}{v:V}(h:ke F H d v) (r:RelV v u):∃ as,Reads s.heap u (toPy d) as:=by
 cases d with
 | lst l =>
   obtain⟨a,vs,rfl,h1,h2⟩:=h;cases r;obtain⟨_,its,n,rv,e1⟩:=(show aZ X.prog X.w H s.heap a (.lst vs) from I.ai a _ h1);obtain⟨as,ra⟩:=jx I sub h2 rv;exact⟨a::as,.list e1 rfl rfl (by simpa using ra)⟩
 | aH l =>
   obtain⟨a,ay,rfl,h1,h2⟩:=h;cases r;obtain⟨_,_,vs,rk,ob,es,ep,e1,e2,e3,_,pr,_⟩:=(show aZ X.prog X.w H s.heap a (.dK ay) from I.ai a _ h1);obtain⟨as,ra⟩:=lm I sub h2 rk pr;exact⟨a::[]++as,.dict e1 e2.1 e3 (mf (X:=X) pr rk h2) ra⟩
 |tup l=>exact ge (d:=.tup l) I sub h r
 |ae=>exact ge (d:=.ae) I sub h r
 |bl b=>exact ge (d:=.bl b) I sub h r
 |int i=>exact ge (d:=.int i) I sub h r
 |str x=>exact ge (d:=.str x) I sub h r
def km (d:D):Bool:=(toPy d).canLay0&&decide ((toPy d).depth<=60)
def eqv (x y:D):Bool:=PyData.eqv (toPy x) (toPy y)
theorem jR {d:D}(h:km d=true):(toPy d).canLay0=true /\ (toPy d).depth<=60:=by
 unfold km at h
 rwa [aw,decide_eq_true_eq]at h
def sD (neg:Bool):R2:=λx y H Q=>∃ F dx dy,Sub F H /\ ke F H dx x /\ ke F H dy y /\ km dx=true /\ km dy=true /\ Q (.bl (if neg then !eqv dx dy else eqv dx dy)) H
theorem NS (hu:X.A.units+100<cLine):aA X (compareOp .Eq) (sD false):=by
 intro pins s σ H x y v u Q I rx ry h;obtain⟨F,dx,dy,sub,hx,hy,ox,oy,q⟩:=h;obtain⟨as,ra⟩:=gP I sub hx rx;obtain⟨bs,rb⟩:=gP I sub hy ry;obtain⟨x1,x2⟩:=jR ox;obtain⟨y1,y2⟩:=jR oy;exact SeqAt.compareEq_reads ra rb x1 y1 (by omega) ⟨.bl _,H,I,rfl,q⟩
theorem NT (hu:X.A.units+100<cLine):aA X (compareOp .NotEq) (sD true):=by
 intro pins s σ H x y v u Q I rx ry h;obtain⟨F,dx,dy,sub,hx,hy,ox,oy,q⟩:=h;obtain⟨as,ra⟩:=gP I sub hx rx;obtain⟨bs,rb⟩:=gP I sub hy ry;obtain⟨x1,x2⟩:=jR ox;obtain⟨y1,y2⟩:=jR oy;exact SeqAt.compareNe_reads ra rb x1 y1 (by omega) ⟨.bl _,H,I,rfl,q⟩
def n9 (neg:Bool) (x y:D):Option Res:=if km x&&km y then some (.old (.bl (if neg then !eqv x y else eqv x y))) else none
theorem S4 (neg:Bool):bp (sD neg) (n9 neg):=by
 intro F H x y v w Q s sub rx ry e k;unfold n9 at e;split at e
 ·rename_i c;rw[aw]at c;cases e;exact⟨F,x,y,sub,rx,ry,c.1,c.2,k _ _ ⟨rfl,rfl⟩⟩
 ·cases e
def bw:D->D->Option Res
 |.int i,.int j=>some (.old (.bl (decide (i=j))))
 |.str i,.str j=>some (.old (.bl (decide (i=j))))
 |.tup l,.tup []=>some (.old (.bl l.isEmpty))
 | .lst a,.lst b=>(match intsOf a,intsOf b with
   |some ns,some ms=>some (.old (.bl (decide (ns=ms))))
   |_,_=>n9 false (.lst a) (.lst b))
 |x,y=>n9 false x y
def pT:D->D->Option Res
 |.int i,.int j=>some (.old (.bl (!decide (i=j))))
 |.str i,.str j=>some (.old (.bl (!decide (i=j))))
 |.lst l,.lst []=>some (.old (.bl (!l.isEmpty)))
 |x,y=>n9 true x y
theorem NU {x y:D}{s:Res}(h:bw x y=some s):Hm x y=some s \/ n9 false x y=some s:=by
 unfold bw at h;split at h
 ·exact .inl h
 ·exact .inl h
 ·exact .inl h
 ·rename_i a b;split at h
  ·rename_i ns ms e1 e2;left;show ((intsOf a).bind λns=>(intsOf b).map λms=>Res.old (.bl (decide (ns=ms))))=_;rw[e1,e2];exact h
  ·exact .inr h
 ·exact .inr h
theorem NV {x y:D}{s:Res}(h:pT x y=some s):Hn x y=some s \/ n9 true x y=some s:=by
 unfold pT at h;split at h
 ·exact .inl h
 ·exact .inl h
 ·exact .inl h
 ·exact .inr h
theorem NW (hu:X.A.units+100<cLine):aA X (compareOp .Eq) (λx y H Q=>xV X.K x y H Q \/ sD false x y H Q):=(LA (by omega)).or (NS hu)
theorem NX (hu:X.A.units+100<cLine):aA X (compareOp .NotEq) (λx y H Q=>xW X.K x y H Q \/ sD true x y H Q):=(LB (by omega)).or (NT hu)
theorem Xv:bp (λx y H Q=>xV K x y H Q \/ sD false x y H Q) bw:=λF H x y v w Q s sub rx ry e k=>(NU e).imp (λe=>Xg F H x y v w Q s sub rx ry e k) λe=>S4 false F H x y v w Q s sub rx ry e k
theorem Xw:bp (λx y H Q=>xW K x y H Q \/ sD true x y H Q) pT:=λF H x y v w Q s sub rx ry e k=>(NV e).imp (λe=>Xh F H x y v w Q s sub rx ry e k) λe=>S4 true F H x y v w Q s sub rx ry e k
end L2.DL
namespace HT
section
open PySem.SeqAt
open PySem.AutoSeq1 (wpAny_loadPart')
open PySem.MeetsSeq PySem.MeetsSeq2 PySem.MeetsSeq3
end
section
open PySem.AutoSeq1 (wpAny_loadPart')
end
end HT
namespace L2.DL
section
variable {a b c : Expr} {mc : DE W} {p p2 : Pos}
theorem LF:aA X (binaryOp .Mult) (rI rh λi j=>.int (i*j)):=Na
noncomputable def dD:D->D->Option Res:=λx y=>match x,y with|.int i,.int j=>if rh i j then some (.old (.int (i*j))) else none|_,_=>none
theorem aj.rep {F:Hp}{l:List D}{vs:List V}(h:aj F l vs):∀ k:Nat,aj F (List.replicate k l).flatten (List.replicate k vs).flatten
 |0=>rfl
 | k+1=>by
   rw[wK,wK,wL,wL];exact h.append (h.rep k)
theorem Xx:bp (rI rh λi j=>.int (i*j)) dD:=xU (g:=λi j=>.int (i*j)) λ_ _ _=>rfl
theorem NY (hu:X.A.units<cLine):aA X (compareOp .LtE) (dZ λi j=>.bl (decide (i<=j))):=O4
noncomputable def pU:D->D->Option Res:=λx y=>match x,y with|.int i,.int j=>some (.old (.bl (decide (i<=j))))|_,_=>none
theorem Xy:bp (dZ λi j=>.bl (decide (i<=j))) pU:=Hj (g:=λi j=>.bl (decide (i<=j))) λ_ _ _=>rfl
theorem Fn {o:Expr}(ho:PD X T Z o ma) (ha:PD X T Z e mb)
 (vB:attributeBase o "append" X.env (eval o X.env)=eval o X.env:=by rfl)
 (EL:((backTo pos (starEach [e] X.env)).all (λx=>!x.1)&&(backToKw pos (keywordEach [] X.env)).all (λx=>x.1.isSome)
  && decide ([e].length+([]:List Keyword).length+(if ([]:List Keyword).isEmpty then 0 else 1)<30))=true:=by rfl)
 (qC:(apos.endLine==pos.line)=true:=by rfl) (hs:starEach [e] X.env=(false,eval e X.env)::starEach [] X.env:=by rfl) :
 PD X T Z (.Call (.Attribute o "append" apos) [e] [] pos) (ui ma mb):=
 PE.imp (C8 xf QR QS l8 ho (fj ha fO hs) vB EL qC hs (by rfl)) λσ H Q h=>Pf h
def vQ (mo mi:DE W):DG:=λw env bx=>match mo env bx with
 | .val (.b n) bx1=>(match mi env bx1 with
   | .val (.d (.int k)) bx2=>(match w,bx2[n]? with
     |.d d,some (.lst l)=>(cb l.length k).map λj=>(env,bx2.set n (.lst (l.set j d)))
     |_,_=>none)
   |_=>none)
 |_=>none
theorem LG {o i:Expr}{mo mi:DE W}(ho:PD X T Z o mo) (hi:PD X T Z i mi)
 (ha:∀ v,assign (.Subscript o i pos) X.env v=(do
  let ov <-holding [v] (eval o X.env)
  let iv <-holding [v,ov] (eval i X.env)
  standAt pos
  holding [v,ov,iv] (setItem ov iv v)
  release [v,ov,iv] []):=by intro _;rfl):kR X T (.Subscript o i pos) (vQ mo mi):=by
 refine PG.imp (M4 ho hi Gi ha) λv σ H Q ⟨F,r,env,bx,w,R,dw,h⟩=>?_;unfold vQ at h;refine⟨F,r,env,bx,R,?_⟩;cases eo:mo env bx with
 |bad=>simp only[eo]at h;exact h.elim
 |exc c bx1=>simp only[eo]at h;exact h.elim
 | val ow bx1 =>
   simp only[eo]at h;intro F1 r1 ov H1 g1 R1 d1;cases ow with
   |d _=>exact h.elim
   |s _=>exact h.elim
   |x _=>exact h.elim
   |t _=>exact h.elim
   |m _=>exact h.elim
   | b n =>
     simp only at h;refine⟨F1,r1,env,bx1,R1,?_⟩;cases ei:mi env bx1 with
     |bad=>simp only[ei]at h;exact h.elim
     |exc c bx2=>simp only[ei]at h;exact h.elim
     | val iw bx2 =>
       simp only[ei]at h;intro F2 r2 iv H2 g2 R2 d2;cases iw with
       |b _=>exact h.elim
       |s _=>exact h.elim
       |x _=>exact h.elim
       |t _=>exact h.elim
       |m _=>exact h.elim
       | d id =>
         cases id with
         | int k =>
           simp only at h;obtain⟨a,rfl,ha⟩:=g2.den d1;obtain⟨c2,eO,Ho⟩:=R2.rD ha;rw[eO]at h;cases w with
           |b _=>exact h.elim
           |s _=>exact h.elim
           |x _=>exact h.elim
           |t _=>exact h.elim
           |m _=>exact h.elim
           | d dd =>
             cases c2 with
             |aH _=>exact h.elim
             |dead=>exact h.elim
             |dT _=>exact h.elim
             |fD _=>exact h.elim
             |ins _ _=>exact h.elim
             | lst l =>
               simp only at h;cases ej:cb l.length k with
               |none=>rw[ej]at h;exact h.elim
               | some j =>
                 rw[ej]at h;obtain⟨hF,vs,k1,k2⟩:=Ho;refine⟨a,vs,k,j,rfl,d2,k1,by rw[<-k2.length];exact ej,?_⟩;have Xz:Den F2 dd v:=Den.mono (g1.trans g2).s dd dw;exact h F2 r2 σ _ (g1.trans g2) (R2.write ha hF ⟨hF,_,fw,aj.set Xz j k2⟩)
         |_=>exact h.elim
def pV (m:DE W):DE W:=λenv bx=>fB (m env bx) λw bx1=>match w with|.s l=>.val (.d (.int l.length)) bx1|_=>.bad
theorem LH (hg:Gl X "len") (hm:X.mg "len"=none) (ha:PD X T Z a ma) (he:starEach [a] X.env=(false,eval a X.env)::starEach [] X.env:=by rfl):PD X T Z (.Call (.Name "len" p) [a] [] pos) (pV ma):=by
 refine PE.imp (fQ lI hg hm PySem.boot_len (fj ha fO he) (by decide) (by decide) he (by rfl)) λσ H Q ⟨F,r,env,bx,R,h⟩=>?_;refine⟨F,r,env,bx,R,End.bind h λw bx1 F1 r1 v H1 g1 R1 d1 h1=>?_⟩;cases w with
 |b _=>exact h1.elim
 |d _=>exact h1.elim
 |x _=>exact h1.elim
 |t _=>exact h1.elim
 |m _=>exact h1.elim
 | s l =>
   obtain⟨q,o,rfl,k⟩:=d1;refine⟨q,_,rfl,.inl (.inl (.inr ⟨o,R1.fh _ _ k⟩)),?_⟩;rw[aL];exact h1 F1 r1 _ H1 (.refl F1 r1) R1 rfl
def yb (m k:DE W):DE W:=λenv bx=>fB (m env bx) λw bx1=>fB (k env bx1) λu bx2=>match w,u with
 |.s l,.d (.int i)=>(match a6 l i with|some n=>.val (.d (.int n)) bx2|none=>.bad)
 |_,_=>.bad
theorem NZ (ha:PD X T Z a ma) (hb:PD X T Z b mb) (hs:xy b):PD X T Z (.Subscript a b pos) (yb ma mb):=by
 refine PE.imp (Gh AS ha hb hs) λσ H Q ⟨F,r,env,bx,R,h⟩=>?_;refine⟨F,r,env,bx,R,End.bind h λw bx1 F1 r1 v H1 g1 R1 d1 h1=>?_⟩;refine⟨F1,r1,env,bx1,R1,End.bind h1 λu bx2 F2 r2 y H2 g2 R2 d2 h2=>?_⟩;cases w with
 |b _=>exact h2.elim
 |d _=>exact h2.elim
 |x _=>exact h2.elim
 |t _=>exact h2.elim
 |m _=>exact h2.elim
 | s l =>
   cases u with
   |b _=>exact h2.elim
   |s _=>exact h2.elim
   |x _=>exact h2.elim
   |t _=>exact h2.elim
   |m _=>exact h2.elim
   | d d =>
     cases d with
     | int i =>
       obtain⟨q,o,rfl,k⟩:=d1;simp only at h2;cases e:a6 l i with
       |none=>rw[e]at h2;exact h2.elim
       | some n =>
         rw[e]at h2;refine⟨q,l.map V.int,i,.int n,rfl,d2,.inl (.inr ⟨o,R2.fh _ _ (g2.s _ _ k)⟩),?_,h2 F2 r2 _ H2 (.refl F2 r2) R2 rfl⟩;unfold a6 at e ⊢;rw[aL];cases ej:cb l.length i with
         |none=>rw[ej]at e;cases e
         |some j=>rw[ej]at e;simp only[a9]at e ⊢;rw[qh,e];rfl
     |_=>exact h2.elim
end
end L2.DL
namespace HT
section
theorem Cw {it t:Addr}{x:Value}(hit:s.heap.IsTupleIter it t i) (ht:s.heap.IsTuple t items) (hx:items[i]?=some x)
 (hQ:∀ h',h'.IsTupleIter it t (i+1)->Heap.SameBut it s.heap h'->Q x { s with heap:=h' }):wpAny (model prog w) A (Builtin.SmallTypes.nextOf (.ref it)) Q E s:=by
 obtain⟨ob,n8,sf,nZ⟩:=id hit;obtain⟨ot,Hq,_,nt,vD⟩:=ht;unfold Builtin.SmallTypes.nextOf;refine aa (sX (name:=Str.ofString "__next__") hit.typeIs xg (qf xg hit.typeIs QT (show wpAny _ _ (field (.ref it) 0 >>= _) _ _ s from aa (dW n8 nZ (x:=.ref t) rfl ?_)) (QU _)))
 change wpAny _ _ (if (Value.ref t==Value.none)=true then _ else _) _ _ s;rw[if_neg (show ¬ ((Value.ref t==Value.none)=true) from b9)]
 change wpAny _ _ (field (.ref it) 1 >>= _) _ _ s
 refine aa (dW n8 nZ (x:=.int i 0) rfl (show wpAny _ _ (seqItems? (.ref t) >>= _) _ _ s from aa (qU Hq vD ?_)));simp only[tO,hx];refine aa (KL n8 nZ (by simp) (ah ⟨x,rfl,ah (hQ _ ⟨_,KZ _ n8 (Obj.isFreed_of_fields (Q6 nZ _)),(Obj.cls_mapFields ..).trans sf,?_⟩ (Heap.SameBut.update ..))⟩));rw[Q6 nZ];simp[rawInt]
theorem Fo {it t:Addr}(hh:A.handled=none) (hit:s.heap.IsTupleIter it t i) (ht:s.heap.IsTuple t items) (hx:items[i]?=none)
 (hE:∀ h' e,Heap.ExtBut it s.heap h'->(∃ o,h'.get? e=some o /\ o.cls=.type "StopIteration")->E (.ref e) { s with heap:=h' }):wpAny (model prog w) A (Builtin.SmallTypes.nextOf (.ref it)) Q E s:=by
 obtain⟨ob,n8,sf,nZ⟩:=id hit;obtain⟨ot,Hq,_,nt,vD⟩:=ht;unfold Builtin.SmallTypes.nextOf;refine aa (sX (name:=Str.ofString "__next__") hit.typeIs xg (qf xg hit.typeIs QT (show wpAny _ _ (field (.ref it) 0 >>= _) _ _ s from aa (dW n8 nZ (x:=.ref t) rfl ?_)) (QU _)))
 change wpAny _ _ (if (Value.ref t==Value.none)=true then _ else _) _ _ s;rw[if_neg (show ¬ ((Value.ref t==Value.none)=true) from b9)]
 change wpAny _ _ (field (.ref it) 1 >>= _) _ _ s
 refine aa (dW n8 nZ (x:=.int i 0) rfl (show wpAny _ _ (seqItems? (.ref t) >>= _) _ _ s from aa (qU Hq vD ?_)));simp only[tO,hx];refine aa (pk (aa (KL n8 nZ (by simp) (show wpAny _ _ (newExc (.type "StopIteration") [] >>= _) _ _ _ from aa ?_))));simp only[newExc,newTuple];refine aa (qT (aa (m:=firstArgMember _ _) (wpAny_of_eq (a:=Value.none) (by first|rfl|(simp only[firstArgMember];rfl)) (qT ?_ (by size_fits)))) (by size_fits));simp only[raiseNew];refine aa (wpAny_handled ?_);first|rw[show A.in1.handled=none from hh]|rw[hh]
 exact aa (ah (wpAny_throw (hE _ _ (((Heap.SameBut.update ..).extBut.push _).push _) ⟨_,bP _ rfl,rfl⟩)))
theorem Fp (hh:A.handled=none) (it l:Addr) (qJ:l≠it) (items:Array Value) :
 Draws prog w A it [it,l] items.size (λi v=>items[i]?=some v) (λi h=>h.IsTupleIter it l i /\ h.IsTuple l items) where
 live:=λ_ _ st=>let ⟨o,ho,_⟩:=st.1;⟨o,ho⟩
 frame:=λ_ _ _ st hk=>⟨st.1.at λo e=>hk it (by simp) o e,st.2.at λo e=>hk l (by simp) o e⟩
 item:=λi s Q E hi st hQ=>Cw st.1 st.2 (x:=items[i]) (by simp[hi]) λh' a b=>hQ _ h' s.toks (by simp[hi]) ⟨a,st.2.at λo e=>b.extBut _ _ qJ e⟩ b
 done:=λs Q E st hE=>Fo hh st.1 st.2 (by simp) hE
structure vR (z TI TO i1 i2:Addr) (nF nG:List Addr):Prop where
 a:TI≠z /\ TO≠z /\ i1≠z /\ i2≠z /\ TI≠TO /\ TI≠i1 /\ TI≠i2 /\ TO≠i1 /\ TO≠i2 /\ i1≠i2
 f1:z∉nF /\ TO∉nF /\ i2∉nF
 f2:z∉nG /\ TO∉nG /\ i1∉nG
variable {z TI TO i1 i2 : Addr} {nF nG : List Addr} {n1 n2 : Nat} {P1 P2 : Nat -> Value -> Prop} {S1 S2 : Nat -> Heap -> Prop}
theorem Draws.same {it:Addr}{P:Nat->Value->Prop}{S:Nat->Heap->Prop}(D:Draws prog w A it fp n P S) {c:Addr}{h:Heap}(x:Heap.SameBut c h h') (hc:c∉fp) (st:S k h):S k h' :=
 D.frame k h h' st λb hb o e=>x.extBut _ _ (λq=>hc (q▸hb)) e
abbrev pb (h:Heap) (z TI TO:Addr) (f0 f1:Value):Prop:=h.get? z=some { cls:=.type "zip",dict:=none,data:=.fields #[f0,f1,.bool false,.ref TI,.ref TO],slots:=#[] }
def pd (h:Heap) (z TI TO:Addr):Prop:=∃ f0 f1,(f0=.none \/ ∃ a,f0=rawInt a) /\ pb h z TI TO f0 f1
theorem XA {Q:Option Obj->Shared->Prop}(h:Q (s.heap.get? a) s):wpAny (model prog w) A (loadIfAlive a) Q E s:=λΓ p _=>by simpa[loadIfAlive] using h
theorem oH {f0 f1:Value}{Q:Bool->Shared->Prop}(hf:f0=.none \/ ∃ a,f0=rawInt a) (hz:pb s.heap z TI TO f0 f1) (h:∀ r h' XB,pb h' z TI TO f0 XB->Heap.SameBut z s.heap h'->Q r { s with heap:=h' }) :
 wpAny (model prog w) A (Builtin.SmallTypes.ownedTupleIsFree (.ref z)) Q E s:=by
 have hs:Heap.SameBut z s.heap s.heap:=⟨rfl,λ_ _=>rfl⟩;unfold Builtin.SmallTypes.ownedTupleIsFree;rcases hf with rfl|⟨a,rfl⟩
 ·exact aa (dW hz rfl (x:=.none) rfl (ah (h _ _ f1 hz hs)))
 ·refine aa (dW hz rfl (x:=rawInt a) rfl (aa (XA ?_)));cases s.heap.get? a.toNat with
  |none=>exact ah (h _ _ f1 hz hs)
  | some o =>
    refine aa (dW hz rfl (x:=f1) rfl ?_);by_cases q:(f1 != Value.bool true)=true
    ·rw[if_pos q];exact aa (qV hz (by simp) λg1 sF e1=>ah (h _ g1 (.bool true) sF e1))
    ·rw[if_neg q];exact aa (ah (ah (h _ _ f1 hz hs)))
theorem GM (D1:Draws prog w A i1 nF n1 P1 S1) (D2:Draws prog w A i2 nG n2 P2 S2) (R:vR z TI TO i1 i2 nF nG) {a b:Value}(k1:k<n1) (k2:k<n2)
 (hz:pd s.heap z TI TO) (sH:IsPair s.heap TI (.ref i1) (.ref i2)) (rK:IsPair s.heap TO a b) (s1:S1 k s.heap) (s2:S2 k s.heap)
 (hQ:∀ x y h' tk,P1 k x->P2 k y->pd h' z TI TO->(∃ u v,IsPair h' TO u v)->S1 (k+1) h'->S2 (k+1) h'->IsPair h' s.heap.objs.size x y ->
  (∀ c o,c≠z->c≠TO->c≠i1->c≠i2->s.heap.get? c=some o->h'.get? c=some o)->Q (.ref s.heap.objs.size) { s with heap:=h',toks:=tk }) :
 wpAny (model prog w) A (Builtin.«zip.__next__» ⟨[.ref z],[]⟩) (λfin s'=>∃ v,fin=.done (.ret v) /\ Q v s') E s:=by
 obtain⟨⟨r1,r2,r3,r4,r5,r6,r7,r8,r9,yc⟩,⟨f1,f2,f3⟩,⟨f4,f5,f6⟩⟩:=R;obtain⟨o0,o1,ho,hz⟩:=hz
 change wpAny _ _ (field (.ref z) 2 >>= _) _ _ _;refine aa (dW hz rfl (x:=.bool false) rfl ?_)
 change wpAny _ _ (field (.ref z) 3 >>= _) _ _ _;refine aa (dW hz rfl (x:=.ref TI) rfl (aa (qU sH rfl ?_)))
 change wpAny _ _ (Builtin.SmallTypes.ownedTupleIsFree (.ref z) >>= _) _ _ _
 refine aa (oH ho hz λr g0 o2 uj e0=>?_);cases r with
 | true =>
   simp only[if_true];refine aa (pk (aa (dW uj rfl (x:=.ref TO) rfl (aa (qV uj (by simp) λg1 sF kN=>?_)))));have e1:Heap.SameBut z s.heap g1:=⟨kN.1.trans e0.1,λc hc=>(kN.2 c hc).trans (e0.2 c hc)⟩;have yd:pb g1 z TI TO .ellipsis o2:=sF;refine aa ?_;simp only[wO,tF,rX,qj];refine aa (aa (uV (show wpAny _ _ (Builtin.SmallTypes.nextOf (.ref i1) >>= _) _ _ _ from aa (D1.item k _ _ _ k1 (Draws.same D1 e1 f1 s1) λx g2 t2 px vS e2=>ah ?_))));have vT:IsPair g2 TO a b:=e2.extBut _ _ r8 (e1.extBut _ _ r2 rK);refine aa (qU vT rfl (aa (zo vT λg3 S5 e3=>aa (zp (ah ?_)))));have XC:IsPair g3 TO x b:=S5;refine aa (aa (uV (show wpAny _ _ (Builtin.SmallTypes.nextOf (.ref i2) >>= _) _ _ _ from aa (D2.item k _ _ _ k2 (Draws.same D2 e3 f5 (Draws.same D2 e2 f6 (Draws.same D2 e1 f4 s2))) λy g4 t4 py Hr e4=>ah ?_))));have S6:IsPair g4 TO x b:=e4.extBut _ _ r9 XC;refine aa (qU S6 rfl (aa (zo S6 λg5 XD e5=>aa (zp (ah (ah ?_))))));have S7:IsPair g5 TO x y:=XD;refine aa (qU S7 rfl (aa (zq ?_)));have hsz:g5.objs.size=s.heap.objs.size:=by rw[e5.1,e4.1,e3.1,e2.1,e1.1]
   have S8:pb g5 z TI TO .ellipsis o2:=e5.extBut _ _ r2.symm (e4.extBut _ _ r4.symm (e3.extBut _ _ r2.symm (e2.extBut _ _ r3.symm yd)));have kp:∀ c o,c≠z->c≠TO->c≠i1->c≠i2->s.heap.get? c=some o->g5.get? c=some o:=λc o c1 c2 c3 c4 q=>e5.extBut _ _ c2 (e4.extBut _ _ c4 (e3.extBut _ _ c2 (e2.extBut _ _ c3 (e1.extBut _ _ c1 q))));have q1:S1 (k+1) g5:=Draws.same D1 e5 f2 (Draws.same D1 e4 f3 (Draws.same D1 e3 f2 vS));have q2:S2 (k+1) g5:=Draws.same D2 e5 f5 Hr;have vU:z<g5.objs.size:=aP S8
   change wpAny _ _ (Builtin.SmallTypes.ownedTupleHandOut (.ref z) (.ref g5.objs.size) >>= _) _ _ _;refine aa ?_
   unfold Builtin.SmallTypes.ownedTupleHandOut;refine aa (qV (aG _ S8) (by simp) λg7 XF e7=>qV (show pb g7 z TI TO (rawInt g5.objs.size) o2 from XF) (by simp) λg8 XG e8=>?_);have up:∀ c o,c≠z->g5.get? c=some o->g8.get? c=some o:=λc o c1 q=>e8.extBut _ _ c1 (e7.extBut _ _ c1 (aG _ q));have S9:IsPair g8 g5.objs.size x y:=e8.extBut _ _ (wB vU) (e7.extBut _ _ (wB vU) (bP _ rfl));have XH:pd g8 z TI TO:=⟨_,_,.inr ⟨_,rfl⟩,show pb g8 z TI TO (rawInt g5.objs.size) (.bool false) from XG⟩;refine ah ⟨_,rfl,(show Q (.ref g5.objs.size) _ from ?_)⟩;rw[hsz]at S9 ⊢;exact hQ x y g8 _ px py XH ⟨_,_,up _ _ r2 S7⟩ (D1.frame _ _ _ q1 λc hc o q=>up c o (λw=>f1 (w▸hc)) q) (D2.frame _ _ _ q2 λc hc o q=>up c o (λw=>f4 (w▸hc)) q) S9 λc o c1 c2 c3 c4 q=>up c o c1 (kp c o c1 c2 c3 c4 q)
 | false =>
   simp only[zy,if_false];rw[show (#[Value.ref i1,Value.ref i2]:Array Value)=[Value.ref i1,Value.ref i2].toArray from rfl];simp only[Qc,rX,qj];refine aa (aa (aa (kA (show wpAny _ _ (Builtin.SmallTypes.nextOf (.ref i1) >>= _) _ _ _ from aa (D1.item k _ _ _ k1 (Draws.same D1 e0 f1 s1) λx g2 t2 px vS e2=>ah ?_)))));refine ah (aa (aa (kA (show wpAny _ _ (Builtin.SmallTypes.nextOf (.ref i2) >>= _) _ _ _ from aa (D2.item k _ _ _ k2 (Draws.same D2 e2 f6 (Draws.same D2 e0 f4 s2)) λy g4 t4 py Hr e4=>ah ?_)))));refine ah (ah (aa (zq (ah ⟨_,rfl,?_⟩) (show 2<=sizeLine by decide))));have hsz:g4.objs.size=s.heap.objs.size:=by rw[e4.1,e2.1,e0.1]
   have ye:pb g4 z TI TO o0 o2:=e4.extBut _ _ r4.symm (e2.extBut _ _ r3.symm uj);have up:∀ c o,g4.get? c=some o->(g4.push { cls:=.type "tuple",data:=.seq #[x,y] }).get? c=some o:=λc o q=>aG _ q;have hT:IsPair (g4.push { cls:=.type "tuple",data:=.seq #[x,y] }) g4.objs.size x y:=bP _ rfl;show Q (.ref g4.objs.size) _;rw[hsz]at hT ⊢;exact hQ x y _ _ px py ⟨o0,o2,ho,up _ _ ye⟩ ⟨a,b,up _ _ (e4.extBut _ _ r9 (e2.extBut _ _ r8 (e0.extBut _ _ r2 rK)))⟩ (D1.frame _ _ _ (Draws.same D1 e4 f3 vS) λc hc o q=>up c o q) (D2.frame _ _ _ Hr λc hc o q=>up c o q) hT
    λc o c1 c2 c3 c4 q=>up c o (e4.extBut _ _ c4 (e2.extBut _ _ c3 (e0.extBut _ _ c1 q)))
theorem GN (D1:Draws prog w A i1 nF n1 P1 S1) (D2:Draws prog w A i2 nG n2 P2 S2) (R:vR z TI TO i1 i2 nF nG) {a b:Value}{Q:Fin->Shared->Prop}(hk:k=n1 \/ (k<n1 /\ k=n2))
 (hz:pd s.heap z TI TO) (sH:IsPair s.heap TI (.ref i1) (.ref i2)) (rK:IsPair s.heap TO a b) (s1:S1 k s.heap) (s2:S2 k s.heap)
 (hE:∀ h' e tk,(∀ c o,c≠z->c≠TO->c≠i1->c≠i2->s.heap.get? c=some o->h'.get? c=some o)->(∃ o,h'.get? e=some o /\ o.cls=.type "StopIteration")->E (.ref e) { s with heap:=h',toks:=tk }) :
 wpAny (model prog w) A (Builtin.«zip.__next__» ⟨[.ref z],[]⟩) Q E s:=by
 obtain⟨⟨r1,r2,r3,r4,r5,r6,r7,r8,r9,yc⟩,⟨f1,f2,f3⟩,⟨f4,f5,f6⟩⟩:=R;obtain⟨o0,o1,ho,hz⟩:=hz
 change wpAny _ _ (field (.ref z) 2 >>= _) _ _ _;refine aa (dW hz rfl (x:=.bool false) rfl ?_)
 change wpAny _ _ (field (.ref z) 3 >>= _) _ _ _;refine aa (dW hz rfl (x:=.ref TI) rfl (aa (qU sH rfl ?_)))
 change wpAny _ _ (Builtin.SmallTypes.ownedTupleIsFree (.ref z) >>= _) _ _ _
 refine aa (oH ho hz λr g0 o2 uj e0=>?_);cases r with
 | true =>
   simp only[if_true];refine aa (pk (aa (dW uj rfl (x:=.ref TO) rfl (aa (qV uj (by simp) λg1 sF kN=>?_)))));have e1:Heap.SameBut z s.heap g1:=⟨kN.1.trans e0.1,λc hc=>(kN.2 c hc).trans (e0.2 c hc)⟩;have yd:pb g1 z TI TO .ellipsis o2:=sF;refine aa ?_;simp only[wO,tF,rX,qj];rcases hk with hk|⟨Ht,uq⟩
   ·refine aa (aa (uV (show wpAny _ _ (Builtin.SmallTypes.nextOf (.ref i1) >>= _) _ _ _ from aa (D1.done _ _ _ (hk▸Draws.same D1 e1 f1 s1) λg2 ex e2 hx=>?_))));obtain⟨oe,sI,vV⟩:=hx;have yf:pb g2 z TI TO .ellipsis o2:=e2 _ _ r3.symm yd;have Hu:ex≠z:=λq=>by subst q;rw[yf]at sI;cases sI;simp at vV
    exact qV yf (by simp) λg3 _ e3=>hE g3 ex _ (λc o c1 _ c3 _ q=>e3.extBut _ _ c1 (e2 _ _ c3 (e1.extBut _ _ c1 q))) ⟨oe,e3.extBut _ _ Hu sI,vV⟩
   ·refine aa (aa (uV (show wpAny _ _ (Builtin.SmallTypes.nextOf (.ref i1) >>= _) _ _ _ from aa (D1.item k _ _ _ Ht (Draws.same D1 e1 f1 s1) λx g2 t2 px vS e2=>ah ?_))));have vT:IsPair g2 TO a b:=e2.extBut _ _ r8 (e1.extBut _ _ r2 rK);refine aa (qU vT rfl (aa (zo vT λg3 S5 e3=>aa (zp (ah ?_)))));refine aa (aa (uV (show wpAny _ _ (Builtin.SmallTypes.nextOf (.ref i2) >>= _) _ _ _ from aa (D2.done _ _ _ (uq▸Draws.same D2 e3 f5 (Draws.same D2 e2 f6 (Draws.same D2 e1 f4 s2))) λg4 ex e4 hx=>?_))));obtain⟨oe,sI,vV⟩:=hx;have ye:pb g4 z TI TO .ellipsis o2:=e4 _ _ r4.symm (e3.extBut _ _ r2.symm (e2.extBut _ _ r3.symm yd));have Hu:ex≠z:=λq=>by subst q;rw[ye]at sI;cases sI;simp at vV
    exact qV ye (by simp) λg5 _ e5=>hE g5 ex _ (λc o c1 c2 c3 c4 q=>e5.extBut _ _ c1 (e4 _ _ c4 (e3.extBut _ _ c2 (e2.extBut _ _ c3 (e1.extBut _ _ c1 q))))) ⟨oe,e5.extBut _ _ Hu sI,vV⟩
 | false =>
   simp only[zy,if_false];rw[show (#[Value.ref i1,Value.ref i2]:Array Value)=[Value.ref i1,Value.ref i2].toArray from rfl];simp only[Qc,rX,qj];rcases hk with hk|⟨Ht,uq⟩
   ·refine aa (aa (aa (kA (show wpAny _ _ (Builtin.SmallTypes.nextOf (.ref i1) >>= _) _ _ _ from aa (D1.done _ _ _ (hk▸Draws.same D1 e0 f1 s1) λg2 ex e2 hx=>?_)))));exact hE g2 ex _ (λc o c1 _ c3 _ q=>e2 _ _ c3 (e0.extBut _ _ c1 q)) hx
   ·refine aa (aa (aa (kA (show wpAny _ _ (Builtin.SmallTypes.nextOf (.ref i1) >>= _) _ _ _ from aa (D1.item k _ _ _ Ht (Draws.same D1 e0 f1 s1) λx g2 t2 px vS e2=>ah ?_)))));refine ah (aa (aa (kA (show wpAny _ _ (Builtin.SmallTypes.nextOf (.ref i2) >>= _) _ _ _ from aa (D2.done _ _ _ (uq▸Draws.same D2 e2 f6 (Draws.same D2 e0 f4 s2)) λg4 ex e4 hx=>?_)))));exact hE g4 ex _ (λc o c1 _ c3 c4 q=>e4 _ _ c4 (e2.extBut _ _ c3 (e0.extBut _ _ c1 q))) hx
theorem GO (hz:pd s.heap z TI TO) (h:Q (.ref z) s):wpAny (model prog w) A (pyIter (.ref z)) Q E s:=by
 have ty:s.TypeIs (.ref z) "zip":=let ⟨_,_,_,hz⟩:=hz;⟨_,hz,rfl⟩
 exact wpAny_pyIter_slot ty QV (qf QV ty F.entry_zip_iter (show wpAny _ _ (ret (.ref z)) _ _ s from ah ⟨_,rfl, "zip",_,ty,ve.lookup,h⟩) (F.args_zip_iter_1 _))
theorem Ak (D1:Draws prog w A.in1 i1 nF n1 P1 S1) (D2:Draws prog w A.in1 i2 nG n2 P2 S2) (R:vR z TI TO i1 i2 nF nG) {a b:Value}{Q:Option Value->Shared->Prop}(k1:k<n1) (k2:k<n2)
 (hz:pd s.heap z TI TO) (sH:IsPair s.heap TI (.ref i1) (.ref i2)) (rK:IsPair s.heap TO a b) (s1:S1 k s.heap) (s2:S2 k s.heap)
 (hQ:∀ x y h' tk,P1 k x->P2 k y->pd h' z TI TO->(∃ u v,IsPair h' TO u v)->S1 (k+1) h'->S2 (k+1) h'->IsPair h' s.heap.objs.size x y ->
  (∀ c o,c≠z->c≠TO->c≠i1->c≠i2->s.heap.get? c=some o->h'.get? c=some o)->Q (some (.ref s.heap.objs.size)) { s with heap:=h',toks:=tk }):wpAny (model prog w) A (pyNext (.ref z)) Q E s:=by
 have hT:s.TypeIs (.ref z) "zip":=let ⟨_,_,_,hz⟩:=hz;⟨_,hz,rfl⟩
 unfold pyNext;exact aa (wx (sX (name:=Str.ofString "__next__") hT ve (qf ve hT QW (GM D1 D2 R k1 k2 hz sH rK s1 s2 λx y h' tk b1 b2 b3 b4 b5 b6 b7 b8=>ah (hQ x y h' tk b1 b2 b3 b4 b5 b6 b7 b8)) (QX _))))
theorem N0 {Q:Unit->Shared->Prop}(hz:pd s.heap z TI TO) (h:∀ h',pd h' z TI TO->Heap.SameBut z s.heap h'->Q () { s with heap:=h' }):wpAny (model prog w) A (letOwnedTupleGo tg (.ref z) (.ref p)) Q E s:=by
 have hs:Heap.SameBut z s.heap s.heap:=⟨rfl,λ_ _=>rfl⟩;have same:Q () s:=h _ hz hs;obtain⟨f0,f1,hf,hz⟩:=id hz
 have tup:wpAny (model prog w) A (do
  let o <-load z
  match o.cls,o.data with
  | .type n,.fields vs =>
    if ["enumerate", "zip", "dict_itemiterator", "dict_reverseitemiterator", "odict_iterator", "itertools.zip_longest", "itertools.pairwise"].contains n&&vs[0]?==some (rawInt p) then
     rule "for.unpacks-the-owned-tuple"
     updateField z 0 .none
  |_,_=>pure ()) Q E s:=by
  refine aa (za hz ?_);dsimp only;split
  ·refine aa (pk (qV hz (by simp) λg1 sF e1=>h g1 ⟨.none,f1,.inl rfl,sF⟩ e1))
  ·exact ah same
 unfold letOwnedTupleGo;cases tg with
 |Tuple es n q=>exact tup
 |List es q=>exact tup
 |_=>exact ah same
theorem Am (D1:Draws prog w A.in1 i1 nF n1 P1 S1) (D2:Draws prog w A.in1 i2 nG n2 P2 S2) (R:vR z TI TO i1 i2 nF nG) {a b:Value}{Q:Option Value->Shared->Prop}(hk:k=n1 \/ (k<n1 /\ k=n2))
 (hz:pd s.heap z TI TO) (sH:IsPair s.heap TI (.ref i1) (.ref i2)) (rK:IsPair s.heap TO a b) (s1:S1 k s.heap) (s2:S2 k s.heap)
 (hQ:∀ h' tk,(∀ c o,c≠z->c≠TO->c≠i1->c≠i2->s.heap.get? c=some o->h'.get? c=some o)->Q none { s with heap:=h',toks:=tk }):wpAny (model prog w) A (pyNext (.ref z)) Q E s:=by
 have hT:s.TypeIs (.ref z) "zip":=let ⟨_,_,_,hz⟩:=hz;⟨_,hz,rfl⟩
 unfold pyNext;refine aa (wx (sX (name:=Str.ofString "__next__") hT ve (qf ve hT QW (GN D1 D2 R hk hz sH rK s1 s2 λh' e tk q1 q2=>?_) (QX _))));obtain⟨o,ho,hc⟩:=q2;exact aa (wpAny_isInstance (T:="StopIteration") (b:=true) ⟨o,ho,hc⟩ isSubtype_stop (ah (hQ h' tk q1)))
noncomputable def vW (h:Heap) (l1:Addr):Heap:=h.push { cls:=.type "tuple_iterator",data:=.fields #[.ref l1,.int 0 0] }
def uu (h:Heap) (l1 l2:Addr):Heap:=(vW h l1).push { cls:=.type "tuple_iterator",data:=.fields #[.ref l2,.int 0 0] }
def uv (h:Heap) (l1 l2:Addr):Heap:=(uu h l1 l2).push { cls:=.type "tuple",data:=.seq #[.ref h.objs.size,.ref (vW h l1).objs.size] }
def vX (h:Heap) (l1 l2:Addr):Heap:=(uv h l1 l2).push { cls:=.type "tuple",data:=.seq #[.none,.none] }
def uw (h:Heap) (l1 l2:Addr):Heap:=(vX h l1 l2).push { cls:=.type "zip",data:=.fields #[.none,.bool false,.bool false,.ref (uu h l1 l2).objs.size,.ref (uv h l1 l2).objs.size] }
theorem Cy (l1 l2:Addr) (xs ys:Array Value) :
 Meets (Builtin.«zip.__new__» ⟨[.type "zip",.ref l1,.ref l2],[]⟩) (λ_ R s=>s.heap.IsTuple l1 xs /\ s.heap.IsTuple l2 ys /\ R (.ok (.ret (.ref (vX s.heap l1 l2).objs.size))) { s with heap:=uw s.heap l1 l2 }):=
 .of_wp λprog w A R s h=>by
  obtain⟨hp,g,d,tk,os⟩:=s;obtain⟨ux,pO,h⟩:=h;have aaQ:=sub_zip;have XI:Heap.IsTuple (Shared.heap ⟨hp,g,d,tk,os⟩) l1 xs:=ux;have XJ:Heap.IsTuple (Shared.heap ⟨hp.push { cls:=.type "tuple_iterator",data:=.fields #[.ref l1,.int 0 0] },g,d,tk,os⟩) l2 ys:=pO.at λo e=>aG _ e
  wp_walk using zr XI,zr XJ
  exact⟨_,rfl,h⟩
theorem Fq {l1 l2:Addr}{xs ys:Array Value}(ux:s.heap.IsTuple l1 xs) (pO:s.heap.IsTuple l2 ys)
 (h:∀ h',IsZip h' (s.heap.objs.size+4) (s.heap.objs.size+2) (s.heap.objs.size+3) .none->IsPair h' (s.heap.objs.size+2) (.ref s.heap.objs.size) (.ref (s.heap.objs.size+1))->IsPair h' (s.heap.objs.size+3) .none .none ->
  h'.IsTupleIter s.heap.objs.size l1 0->h'.IsTupleIter (s.heap.objs.size+1) l2 0->(∀ c o,s.heap.get? c=some o->h'.get? c=some o)->Q (.ref (s.heap.objs.size+4)) { s with heap:=h' }):wpAny (model prog w) A (call (.type "zip") [.ref l1,.ref l2]) Q E s:=by
 refine callType_new F.called_zip (by decide) (F.typeCall_zip_2 _ _) (F.newCall_zip_2 _ _) (λobj=>F.args_object_init_3 obj _ _) F.entry_zip_new (Cy l1 l2 xs ys) ⟨ux,pO,?_⟩;have z1:(vW s.heap l1).objs.size=s.heap.objs.size+1:=pz ..;have z2:(uu s.heap l1 l2).objs.size=s.heap.objs.size+2:=by rw[uu,pz,z1]
 have z3:(uv s.heap l1 l2).objs.size=s.heap.objs.size+3:=by rw[uv,pz,z2]
 have z4:(vX s.heap l1 l2).objs.size=s.heap.objs.size+4:=by rw[vX,pz,z3]
 have g5:(uw s.heap l1 l2).get? (vX s.heap l1 l2).objs.size=some { cls:=.type "zip",data:=.fields #[.none,.bool false,.bool false,.ref (uu s.heap l1 l2).objs.size,.ref (uv s.heap l1 l2).objs.size] }:=bP _ rfl;have g4:(uw s.heap l1 l2).get? (uv s.heap l1 l2).objs.size=some { cls:=.type "tuple",data:=.seq #[.none,.none] }:=aG _ (bP _ rfl);have g3:(uw s.heap l1 l2).get? (uu s.heap l1 l2).objs.size=some { cls:=.type "tuple",data:=.seq #[.ref s.heap.objs.size,.ref (vW s.heap l1).objs.size] }:=aG _ (aG _ (bP _ rfl));have g2:(uw s.heap l1 l2).get? (vW s.heap l1).objs.size=some { cls:=.type "tuple_iterator",data:=.fields #[.ref l2,.int 0 0] }:=aG _ (aG _ (aG _ (bP _ rfl)));have g1:(uw s.heap l1 l2).get? s.heap.objs.size=some { cls:=.type "tuple_iterator",data:=.fields #[.ref l1,.int 0 0] }:=aG _ (aG _ (aG _ (aG _ (bP _ rfl))))
 change _ /\ _
 rw[z2,z3,z4]at g5;rw[z1,z2]at g3;rw[z3]at g4;rw[z1]at g2;rw[z4];exact⟨⟨_,g5,rfl⟩,h _ g5 g3 g4 ⟨_,g1,rfl,rfl⟩ ⟨_,g2,rfl,rfl⟩ λc o q=>aG _ (aG _ (aG _ (aG _ (aG _ q))))⟩
end
end HT
namespace L2
theorem Inv.XM (I:Inv X pins σ H s) (hf:∀ b∈ch,nP X pins H b) (k:∀ b o,b∉ch->s.heap.get? b=some o->h'.get? b=some o) (hp:s.heap.objs.size<=p)
 (new:aZ X.prog X.w (upd H p o) h' p o):Inv X pins σ (upd H p o) { s with heap:=h',toks:=t' }:=by
 have di:H p=none:=I.ai.fresh hp;have nN:∀ b u,H b=some u->b∉ch:=λb u e z=>by rw[(hf b z).1]at e;cases e
 have XO:∀ b u,H b=some u->b≠p:=λb u e=>fE e di;have dX:∀ b u,H b=some u->upd H p o b=some u:=λb u e=>by rw[fq (XO b u e)];exact e
 refine I.step (g':=s.gens) (d':=s.drawn) (ch:=ch) (λb hb=>?_) (λb o _ _ hc e _=>k b o hc e) (λb o _ _ hc e _=>⟨o.slots,k b o hc e⟩) (λb ob _ e n=>?_)
  (λb o hc e=>⟨o,k b o hc e⟩) (λb _ e=>dX b _ e) (λb _ _ e=>dX b _ e) (λb ps e=>⟨#[],by rw[dX b _ e];simp⟩) (λm hm=>?_) ?_ I.bare
 ·obtain⟨f0,f1,f2,f3,f4,f5⟩:=hf b hb;exact⟨f3,f1,f4,f5⟩
 ·rw[fq (λz=>kC _ (cG (aP e) (by rw[z];exact hp)))];exact n
 ·obtain⟨ob,es,ep,ho,r⟩:=hm;exact⟨ob,es,ep,k _ ob (λz=>(hf _ z).2.1 rfl) ho,r⟩
 ·intro b u e;by_cases hb:b=p
  ·subst hb;rw[fw]at e;cases e;exact new
  ·rw[fq hb]at e;refine(I.ai b u e).dX (λc v hc q=>k c v ?_ q) (λc q=>dX c _ q) λc xs q=>dX c _ q;rcases hc with z|z
   ·rw[z];exact nN b u e
   ·exact nN c _ z
theorem Inv.XQ (I:Inv X pins σ H s) (hf:∀ b∈ch,nP X pins H b) (k:∀ b o,b∉ch->s.heap.get? b=some o->h'.get? b=some o):Inv X pins σ H { s with heap:=h',toks:=t' }:=by
 have nN:∀ b u,H b=some u->b∉ch:=λb u e z=>by rw[(hf b z).1]at e;cases e
 refine I.step (g':=s.gens) (d':=s.drawn) (ch:=ch) (λb hb=>?_) (λb o _ _ hc e _=>k b o hc e) (λb o _ _ hc e _=>⟨o.slots,k b o hc e⟩) (λb ob _ e n=>n)
  (λb o hc e=>⟨o,k b o hc e⟩) (λb _ e=>e) (λb _ _ e=>e) (λb ps e=>⟨#[],by rw[e];simp⟩) (λm hm=>?_) ?_ I.bare
 ·obtain⟨f0,f1,f2,f3,f4,f5⟩:=hf b hb;exact⟨f3,f1,f4,f5⟩
 ·obtain⟨ob,es,ep,ho,r⟩:=hm;exact⟨ob,es,ep,k _ ob (λz=>(hf _ z).2.1 rfl) ho,r⟩
 ·intro b u e;refine(I.ai b u e).dX (λc v hc q=>k c v ?_ q) (λc q=>q) λc xs q=>q;rcases hc with z|z
  ·rw[z];exact nN b u e
  ·exact nN c _ z
def dE (t:Bool) (K:PySem.W.Frag) (H:Hp) (a:Addr) (xs:List V):Prop:=match t with|true=>bc K H a xs|false=>aQ K H a xs
def PX (t:Bool) (h:Heap) (a:Addr) (xs:Array Value):Prop:=match t with|true=>h.IsTuple a xs|false=>h.IsList a xs
def pW (t:Bool) (h:Heap) (it l:Addr) (i:Nat):Prop:=match t with|true=>h.IsTupleIter it l i|false=>h.IsListIter it l i
section
variable {t : Bool} 
theorem uz {xs:List V}(I:Inv X pins σ H s) (q:dE t X.K H a xs):∃ its:List Value,Vals xs its /\ PX t s.heap a its.toArray /\ a<s.heap.objs.size:=by
 cases t with
 |true=>obtain⟨its,r,p,_⟩:=I.tuple q;exact⟨its,r,p,let ⟨_,e,_⟩:=p;aP e⟩
 |false=>obtain⟨its,r,p,_⟩:=I.list q;exact⟨its,r,p.isList,let ⟨_,_,e,_⟩:=p;aP e⟩
theorem Ta {xs ys:List V}(I:Inv X pins σ H s) (q:dE t X.K H a xs) (q':dE t X.K H a ys):xs=ys:=by
 cases t with
 |true=>exact I.Ru q q'
 |false=>exact I.Rt q q'
theorem pW.ob {h:Heap}{it l:Addr}(x:pW t h it l i):∃ o fs,h.get? it=some o /\ o.data=.fields fs:=by
 cases t with
 |true=>obtain⟨o,e,_,d⟩:=x;exact⟨o,_,e,d⟩
 |false=>obtain⟨o,e,_,d⟩:=x;exact⟨o,_,e,d⟩
theorem pW.at {h h':Heap}{it l:Addr}{i:Nat}(x:pW t h it l i) (k:∀ o,h.get? it=some o->h'.get? it=some o):pW t h' it l i:=by
 cases t with
 |true=>exact Heap.IsTupleIter.at x k
 |false=>exact Heap.IsListIter.at x k
theorem yh (hh:A.handled=none) (it l:Addr) (qJ:l≠it) (items:Array Value) :
 Draws prog w A it [it,l] items.size (λi v=>items[i]?=some v) (λi h=>pW t h it l i /\ PX t h l items):=by
 cases t with
 |true=>exact HT.Fp hh it l qJ items
 |false=>exact Draws.list hh it l qJ items
theorem Ft {l1 l2:Addr}{xs ys:Array Value}(ux:PX t s.heap l1 xs) (pO:PX t s.heap l2 ys)
 (h:∀ h',IsZip h' (s.heap.objs.size+4) (s.heap.objs.size+2) (s.heap.objs.size+3) .none->IsPair h' (s.heap.objs.size+2) (.ref s.heap.objs.size) (.ref (s.heap.objs.size+1))->IsPair h' (s.heap.objs.size+3) .none .none ->
  pW t h' s.heap.objs.size l1 0->pW t h' (s.heap.objs.size+1) l2 0->(∀ c o,s.heap.get? c=some o->h'.get? c=some o)->Q (.ref (s.heap.objs.size+4)) { s with heap:=h' }):wpAny (model prog w) A (call (.type "zip") [.ref l1,.ref l2]) Q E s:=by
 cases t with
 |true=>exact HT.Fq ux pO h
 |false=>exact call_zip_2 ux pO λh' b1 b2 b3 b4 b5 _ b6=>h h' b1 b2 b3 b4 b5 b6
end
def Hv (t:Bool) (K:PySem.W.Frag) (a b:Addr):It :=
 ⟨λi H=>∃ (xs ys:List V) (x y:V),dE t K H a xs /\ dE t K H b ys /\ xs[i]?=some x /\ ys[i]?=some y,
  λi H w H'=>∀ (xs ys:List V),dE t K H a xs->dE t K H b ys->∃ (p:Addr) (x y:V),xs[i]?=some x /\ ys[i]?=some y /\ H p=none /\ w=.ref p /\ H'=upd H p (.tup [x,y]),
  λi H=>∃ (xs ys:List V),dE t K H a xs /\ dE t K H b ys /\ (i=xs.length \/ (i<xs.length /\ i=ys.length))⟩
theorem AA {b:Nat}(k:Nat) (h:b<n):b≠n+k:=by omega
theorem AB {m:Nat}(h:n+4<m):m≠n /\ m≠n+1 /\ m≠n+2 /\ m≠n+3 /\ m≠n+4:=by omega
theorem Di {n b:Addr}(ha:a<n) (hb:b<n):HT.vR (n+4) (n+2) (n+3) n (n+1) [n,a] [n+1,b] where
 a:=by refine⟨?_,?_,?_,?_,?_,?_,?_,?_,?_,?_⟩<;>exact λz=>by have z':(_:Nat)=_:=z;omega
 f1:=by
  have e1:∀ k:Nat,n+k≠a:=λk z=>kC _ (rW (tq n k) (z▸ha));refine⟨?_,?_,?_⟩<;>(rw[aY,ni];rintro(z|z))
  ·have z':(_:Nat)=_:=z;omega
  ·exact e1 4 z
  ·have z':(_:Nat)=_:=z;omega
  ·exact e1 3 z
  ·have z':(_:Nat)=_:=z;omega
  ·exact e1 1 z
 f2:=by
  have e1:∀ k:Nat,n+k≠b:=λk z=>kC _ (rW (tq n k) (z▸hb));refine⟨?_,?_,?_⟩<;>(rw[aY,ni];rintro(z|z))
  ·have z':(_:Nat)=_:=z;omega
  ·exact e1 4 z
  ·have z':(_:Nat)=_:=z;omega
  ·exact e1 3 z
  ·have z':(_:Nat)=_:=z;omega
  ·exact e1 0 z
theorem GP {t:Bool}{n b:Addr}(ha:a<n) (hb:b<n) :
 Turn P w K tg (Hv t K a b) [n+4,n+2,n+3,n,n+1] (n+4)
  (λi h=>HT.pd h (n+4) (n+2) (n+3) /\ IsPair h (n+2) (.ref n) (.ref (n+1)) /\ (∃ u v,IsPair h (n+3) u v) /\ pW t h n a i /\ pW t h (n+1) b i) where
 mem:=by simp
 obj:=λi h st c hc=>by
  obtain⟨⟨_,_,_,z1⟩,z2,⟨u,v,z3⟩,z4,z5⟩:=st;obtain⟨o4,_,e4,d4⟩:=z4.ob;obtain⟨o5,_,e5,d5⟩:=z5.ob;simp only[aY,pF,or_false]at hc;rcases hc with rfl|rfl|rfl|rfl|rfl
  ·exact⟨_,z1,λv z=>by cases z⟩
  ·exact⟨_,z2,λv z=>by cases z⟩
  ·exact⟨_,z3,λv z=>by cases z⟩
  ·exact⟨o4,e4,λv z=>by rw[d4]at z;cases z⟩
  ·exact⟨o5,e5,λv z=>by rw[d5]at z;cases z⟩
 keep:=λi h h' st k=>by
  obtain⟨z1,z2,⟨u,v,z3⟩,z4,z5⟩:=st;obtain⟨w0,w1,w2,z1⟩:=z1;exact⟨⟨w0,w1,w2,k _ (by simp) _ z1⟩,k _ (by simp) _ z2,⟨u,v,k _ (by simp) _ z3⟩,z4.at λo e=>k _ (by simp) o e,z5.at λo e=>k _ (by simp) o e⟩
 item:=by
  intro X hP hw hK hc i pins s σ H E I hf st hg;subst hP hw hK;obtain⟨xs,ys,x,y,q1,q2,e1,e2⟩:=hg;obtain⟨z1,z2,⟨u,v,z3⟩,z4,z5⟩:=st;obtain⟨i1,r1,p1,l1⟩:=uz I q1;obtain⟨i2,r2,p2,l2⟩:=uz I q2;have hx:=(List.getElem?_eq_some_iff.mp e1).1;have hy:=(List.getElem?_eq_some_iff.mp e2).1;have R:=Di ha hb;have D1:=yh (t:=t) (prog:=X.prog) (w:=X.w) (A:=X.A.in1) (I.ok.hd hc) n a (cU ha) i1.toArray;have D2:=yh (t:=t) (prog:=X.prog) (w:=X.w) (A:=X.A.in1) (I.ok.hd hc) (n+1) b (AA 1 hb) i2.toArray;refine HT.Ak D1 D2 R (by rw[aR,<-r1.length];exact hx) (by rw[aR,<-r2.length];exact hy) z1 z2 z3 ⟨z4,p1⟩ ⟨z5,p2⟩ λvx vy h' tk b1 b2 b3 b4 b5 b6 b7 b8=>⟨_,rfl,?_⟩;refine HT.N0 b3 λh2 yf dv=>?_;obtain⟨w1,f1,g1⟩:=r1.get e1;obtain⟨w2,f2,g2⟩:=r2.get e2;have Tb:i1[i]?=some vx:=by simpa using b1
  have Tc:i2[i]?=some vy:=by simpa using b2
  rw[f1]at Tb;cases Tb;rw[f2]at Tc;cases Tc;have vU:(n+4:Nat)<s.heap.objs.size:=let ⟨_,_,_,z1⟩:=z1;aP z1
  have XR:IsPair h2 s.heap.objs.size vx vy:=dv.extBut _ _ (AB vU).2.2.2.2 b7;have nw:H s.heap.objs.size=none:=I.ai.fresh (ag _);have I2:Inv X pins σ (upd H s.heap.objs.size (.tup [x,y])) { s with heap:=h2,toks:=tk }:=by
   refine I.XM (ch:=[n+4,n+2,n+3,n,n+1]) hf (λc o cJ e=>?_) (ag _) ?_
   ·simp only[aY,pF,or_false,not_or]at cJ;exact dv.extBut _ _ cJ.1 (b8 c o cJ.1 cJ.2.2.1 cJ.2.2.2.1 cJ.2.2.2.2 e)
   ·exact⟨by show 2<=sizeLine;decide,[vx,vy],.cons g1 (.cons g2 .nil),⟨_,XR,rfl,_,rfl⟩⟩
  refine⟨.ref s.heap.objs.size,_,I2,rfl,λaaR aaS y1 y2=>⟨_,x,y,by rw[Ta I y1 q1];exact e1,by rw[Ta I y2 q2];exact e2,nw,rfl,rfl⟩,⟨yf,?_,(let ⟨u,v,b4⟩:=b4;⟨u,v,dv.extBut _ _ R.a.2.1 b4⟩),?_,?_⟩,λc cJ=>?_⟩
  ·exact dv.extBut _ _ R.a.1 (b8 _ _ R.a.1 R.a.2.2.2.2.1 R.a.2.2.2.2.2.1 R.a.2.2.2.2.2.2.1 z2)
  ·exact b5.1.at λo e=>dv.extBut _ _ R.a.2.2.1 e
  ·exact b6.1.at λo e=>dv.extBut _ _ R.a.2.2.2.1 e
  ·rw[fq]
   ·exact(hf c cJ).1
   ·intro z;subst z;simp only[aY,pF,or_false]at cJ;obtain⟨m1,m2,m3,m4,m5⟩:=AB vU;rcases cJ with q|q|q|q|q
    ·exact m5 q
    ·exact m3 q
    ·exact m4 q
    ·exact m1 q
    ·exact m2 q
 done:=by
  intro X hP hw hK hc i pins s σ H E I hf st hg;subst hP hw hK;obtain⟨xs,ys,q1,q2,hk⟩:=hg;obtain⟨z1,z2,⟨u,v,z3⟩,z4,z5⟩:=st;obtain⟨i1,r1,p1,l1⟩:=uz I q1;obtain⟨i2,r2,p2,l2⟩:=uz I q2;have R:=Di ha hb;have D1:=yh (t:=t) (prog:=X.prog) (w:=X.w) (A:=X.A.in1) (I.ok.hd hc) n a (cU ha) i1.toArray;have D2:=yh (t:=t) (prog:=X.prog) (w:=X.w) (A:=X.A.in1) (I.ok.hd hc) (n+1) b (AA 1 hb) i2.toArray;refine HT.Am D1 D2 R (k:=i) (by rw[aR,aR,<-r1.length,<-r2.length];exact hk) z1 z2 z3 ⟨z4,p1⟩ ⟨z5,p2⟩ λh' tk b8=>⟨rfl,I.XQ (ch:=[n+4,n+2,n+3,n,n+1]) hf λc o cJ e=>?_⟩;simp only[aY,pF,or_false,not_or]at cJ;exact b8 c o cJ.1 cJ.2.2.1 cJ.2.2.2.1 cJ.2.2.2.2 e
 self:=λA i s Q E st h=>HT.GO st.1 h
def XS (K:PySem.W.Frag) (ta:TA):TI:=λσ H R=>ta σ H λvs H2=>∃ (t:Bool) (p q:Addr) (xs ys:List V),vs=[.ref p,.ref q] /\ dE t K H2 p xs /\ dE t K H2 q ys /\ R (Hv t K p q) H2
theorem N1 {a b:Expr}{ta:TA}{p:Pos}(hg:Gl X "zip") (hm:X.mg "zip"=none) (ha:PA X [a,b] ta) (hs:starEach [a,b] X.env=[(false,eval a X.env),(false,eval b X.env)]:=by rfl) (dv:starEach [b] X.env=[(false,eval b X.env)]:=by rfl) :
 PI X tg (.Call (.Name "zip" p) [a,b] [] pos) (XS X.K ta):=by
 intro pins s σ H R I h;refine sW (lY I hg hm (by decide +kernel:bootBuiltins "zip"=some (.type "zip")) ?_);refine wV (ao (ha pos pins s σ H _ I h) λus s1 ⟨vs,H2,I2,r2,q⟩=>?_) (by rw[hs,dv]) (by rw[dv];rfl);obtain⟨t,x,y,xs,ys,rfl,hx,hy,q⟩:=q;obtain⟨u,v,rfl,ru,rv⟩:=Vals.two r2;cases ru;cases rv;obtain⟨i1,r1,p1,l1⟩:=uz I2 hx;obtain⟨i2,r2,p2,l2⟩:=uz I2 hy;refine Ft (xs:=i1.toArray) (ys:=i2.toArray) p1 p2 λh' b1 b2 b3 b4 b5 b6=>?_;refine wpAny_pyIter_zip b1 ?_;refine⟨s1.heap.objs.size+4,_,_,_,H2,rfl,I2.kept (t':=s1.toks) b6,GP l1 l2,⟨⟨_,_,.inl rfl,b1⟩,b2,⟨_,_,b3⟩,b4,b5⟩,λc hc=>?_,q⟩;have hle:s1.heap.objs.size<=c:=by
  simp only[aY,pF,or_false]at hc;rcases hc with z|z|z|z|z<;>(rw[z];first|exact ag _|exact tq _ _)
 exact I2.xn hle (I2.ai.fresh hle)
end L2
namespace L2.DL
section
variable {a b : Expr} {p : Pos} {k : DE (List W)}
noncomputable def dq:List D->List D->List W
 |x::l,y::r=>.d (.tup [x,y])::dq l r
 |_,_=>[]
theorem BE:∀ (l r:List D),(dq l r).length=min l.length r.length
 |[],_=>by simp[dq]
 |_::_,[]=>by simp[dq]
 |_::l,_::r=>by simp only[dq,aX,BE l r];omega
theorem BF:∀ {l r:List D}{i:Nat}{w:W},(dq l r)[i]?=some w->∃ x y,l[i]?=some x /\ r[i]?=some y /\ w=.d (.tup [x,y])
 |[],_,_,_,e=>by simp[dq]at e
 |_::_,[],_,_,e=>by simp[dq]at e
 |x::l,y::r,0,w,e=>by simp[dq]at e;exact⟨x,y,rfl,rfl,e.symm⟩
 | x::l,y::r,i+1,w,e=>by
   have e':(dq l r)[i]?=some w:=by simpa[dq] using e
   obtain⟨x',y',h1,h2,h3⟩:=BF e';exact⟨x',y',by simpa using h1,by simpa using h2,h3⟩
def pf (k:DE (List W)):DE (List W):=λenv bx=>fB (k env bx) λws bx1=>match ws with
 |[.d (.tup l),.d (.tup r)]=>.val (dq l r) bx1
 |[.d (.lst l),.d (.lst r)]=>.val (dq l r) bx1
 |_=>.bad
theorem oI {t:Bool}{p q:Addr}{vs us:List V}{m:List D}(hp:∀ H,Sub F H->dE t K H p vs) (hq:∀ H,Sub F H->dE t K H q us) (dl:aj F l vs) (dm:aj F m us):sv F r (dq l m) (Hv t K p q):=by
 intro T i F1 r1 σ1 H1 env1 bx1 g R;have s1:dE t K H1 p vs:=hp _ (g.s.trans R.fh);have s2:dE t K H1 q us:=hq _ (g.s.trans R.fh);have e1:=dl.length;have e2:=dm.length;refine⟨λhl=>?_,λw e=>?_⟩
 ·rw[BE]at hl;exact⟨vs,us,s1,s2,by omega⟩
 ·obtain⟨x,y,h1,h2,rfl⟩:=BF e;obtain⟨v,f1,d1⟩:=dl.get h1;obtain⟨u,f2,d2⟩:=dm.get h2;refine⟨⟨vs,us,v,u,s1,s2,f1,f2⟩,λw H2 hy=>?_⟩;obtain⟨a,v',u',g1,g2,ha,rfl,rfl⟩:=hy vs us s1 s2;rw[f1]at g1;cases g1;rw[f2]at g2;cases g2;have gr:=R.sr (o:=.tup [v,u]) ha;exact⟨_,gr,R.xM ha,a,[v,u],rfl,fw,.cons (Den.mono (g.trans gr).s x d1) (.cons (Den.mono (g.trans gr).s y d2) .nil)⟩
theorem LJ (hg:Gl X "zip") (hm:X.mg "zip"=none) (ha:cD X T Z [a,b] k) (hs:starEach [a,b] X.env=[(false,eval a X.env),(false,eval b X.env)]:=by rfl) (dv:starEach [b] X.env=[(false,eval b X.env)]:=by rfl) :
 rE X T Z tg (.Call (.Name "zip" p) [a,b] [] pos) (pf k):=by
 refine PI.imp (N1 hg hm ha hs dv) λσ H Q ⟨F,r,env,bx,R,h⟩=>?_;refine⟨F,r,env,bx,R,End.bind h λws bx1 F1 r1 vs H1 g1 R1 d1 h1=>?_⟩;split at h1
 ·rename_i l m;obtain⟨v,t,rfl,⟨p,us,rfl,k1,k2⟩,v2,t2,rfl,⟨q,vY,rfl,k3,k4⟩,rt⟩:=d1;cases (show t2=[] from rt);have z1:∀ H,Sub F1 H->dE true X.K H p us:=λH s=>.of (s _ _ k1);have z2:∀ H,Sub F1 H->dE true X.K H q vY:=λH s=>.of (s _ _ k3);exact⟨true,p,q,us,vY,rfl,z1 _ R1.fh,z2 _ R1.fh,h1 F1 r1 _ H1 (.refl F1 r1) R1 (oI z1 z2 k2 k4)⟩
 ·rename_i l m;obtain⟨v,t,rfl,⟨p,us,rfl,k1,k2⟩,v2,t2,rfl,⟨q,vY,rfl,k3,k4⟩,rt⟩:=d1;cases (show t2=[] from rt);have z1:∀ H,Sub F1 H->dE false X.K H p us:=λH s=>.of (s _ _ k1);have z2:∀ H,Sub F1 H->dE false X.K H q vY:=λH s=>.of (s _ _ k3);exact⟨false,p,q,us,vY,rfl,z1 _ R1.fh,z2 _ R1.fh,h1 F1 r1 _ H1 (.refl F1 r1) R1 (oI z1 z2 k2 k4)⟩
 ·exact h1.elim
end
section
variable {a : Expr} {p : Pos}
def XT (K:PySem.W.Frag) (tl:TE):TI:=λσ H R=>tl σ H λx H1=>(∃ a,x=.ref a /\ (∃ xs,aQ K H1 a xs) /\ R (Er K a) H1) \/ ∃ a,x=.ref a /\ (∃ xs,bc K H1 a xs) /\ R (Es K a) H1
theorem N2 {l:Expr}{tl:TE}(hl:PE X l tl):PI X tg l (XT X.K tl):=by
 intro pins s σ H R I h;refine ao (hl pins s σ H _ I h) λv s1 ⟨x,H1,I1,r1,q1⟩=>?_;rcases q1 with⟨a,rfl,⟨xs,hq⟩,q⟩|⟨a,rfl,⟨xs,hq⟩,q⟩
 ·cases r1;obtain⟨its,rv,p,hz⟩:=I1.list hq;refine KD p.isList ⟨s1.heap.objs.size,[s1.heap.objs.size],_,_,H1,rfl,I1.kept (t':=s1.toks) λb o e=>aG _ e,D3 a _,⟨_,bP _ rfl,rfl,rfl⟩,λb hb=>?_,q⟩;cases ni.mp hb;exact I1.xn (ag _) (I1.ai.fresh (ag _))
 ·cases r1;obtain⟨its,rv,p,hz⟩:=I1.tuple hq;refine zr (show s1.heap.IsTuple a its.toArray from p) ⟨s1.heap.objs.size,[s1.heap.objs.size],_,_,H1,rfl,I1.kept (t':=s1.toks) λb o e=>aG _ e,Cc a _,⟨_,bP _ rfl,rfl,rfl⟩,λb hb=>?_,q⟩;cases ni.mp hb;exact I1.xn (ag _) (I1.ai.fresh (ag _))
theorem BG {a:Addr}{vs:List V}(k1:F a=some (.lst vs)) (k2:aj F l vs):sv F r (l.map W.d) (Er K a):=λT' i F2 r2 σ2 H2 bT bx2 g2 R2=>by
 have hq:aQ K H2 a vs:=.of (R2.fh _ _ (g2.s _ _ k1));refine⟨λhl=>?_,λw e=>?_⟩
 ·rw[aL,k2.length]at hl;exact⟨vs,hq,tj hl⟩
 ·obtain⟨d,e1,rfl⟩:=Ay e;obtain⟨u,e2,du⟩:=k2.get e1;refine⟨⟨vs,u,hq,e2⟩,λx H3 ⟨e3,hy⟩=>?_⟩;subst e3;have e4:vs[i]?=some x:=hy vs hq;rw[e2]at e4;cases e4;exact⟨F2,.refl F2 r2,R2,Den.mono g2.s d du⟩
theorem Cz {a:Addr}{vs:List V}(k1:F a=some (.tup vs)) (k2:aj F l vs):sv F r (l.map W.d) (Es K a):=λT' i F2 r2 σ2 H2 bT bx2 g2 R2=>by
 have hq:bc K H2 a vs:=.of (R2.fh _ _ (g2.s _ _ k1));refine⟨λhl=>?_,λw e=>?_⟩
 ·rw[aL,k2.length]at hl;exact⟨vs,hq,tj hl⟩
 ·obtain⟨d,e1,rfl⟩:=Ay e;obtain⟨u,e2,du⟩:=k2.get e1;refine⟨⟨vs,u,hq,e2⟩,λx H3 ⟨e3,hy⟩=>?_⟩;subst e3;have e4:vs[i]?=some x:=hy vs hq;rw[e2]at e4;cases e4;exact⟨F2,.refl F2 r2,R2,Den.mono g2.s d du⟩
theorem A4 (ha:PD X T Z a ma):rE X T Z tg a (bY ma):=by
 refine PI.imp (N2 ha) λσ H Q ⟨F,r,env,bx,R,h⟩=>?_;refine⟨F,r,env,bx,R,End.bind h λw bx1 F1 r1 v H1 g1 R1 d1 h1=>?_⟩;split at h1
 ·rename_i l;obtain⟨p,vs,rfl,k1,k2⟩:=d1;exact .inl ⟨p,rfl,⟨vs,.of (R1.fh _ _ k1)⟩,h1 F1 r1 _ H1 (.refl F1 r1) R1 (BG k1 k2)⟩
 ·rename_i l;obtain⟨p,vs,rfl,k1,k2⟩:=d1;exact .inr ⟨p,rfl,⟨vs,.of (R1.fh _ _ k1)⟩,h1 F1 r1 _ H1 (.refl F1 r1) R1 (Cz k1 k2)⟩
 ·exact h1.elim
theorem LK {v:Int}(hg:Gl X x) (hm:∃ t,X.mg x=some (.int v t)) (hd:(x==("__debug__":Str))=false:=by decide):PD X T Z (.Name x pos) (dC (.int v)):=by
 obtain⟨t,hm⟩:=hm;exact BA (f9 (v:=.int v) hg hm ⟨t,rfl⟩ hd) λ_=>rfl
end
noncomputable def Hw (XN:List Str) (sc cs:Scope) (N:List Str) (src:List (Option Nat)):Bool :=
 decide (cs.kind=.function)&&decide (cs.names.map (·.1)).Nodup&&cs.names.all (λy=>decide (y.2=.local->cs.names.lookup y.1=some .local)) &&
 cs.names.all (λy=>decide (y.2=.free->(sc.names.lookup y.1=some .cell \/ sc.names.lookup y.1=some .free)))&&decide (src.length=N.length) &&
 (List.range src.length).all λj=>match src[j]?,N[j]? with
  |some (some i),some x=>decide (XN[i]?=some x /\ cs.names.lookup x=some .free)
  |_,_=>true
theorem CA {XN:List Str}{src:List (Option Nat)}{sc cs:Scope}(hX:∀ x,X.env.kindOf x=sc.names.lookup x) (hN:X.N=XN) (h:Hw XN sc cs N src=true):rn X N src cs:=by
 subst hN;unfold Hw at h;simp only[aw,decide_eq_true_eq,bX]at h;obtain⟨⟨⟨⟨⟨h1,h2⟩,h3⟩,h4⟩,h5⟩,h6⟩:=h;refine⟨h1,h2,λy hy=>h3 y hy,λy hy hf=>?_,h5,λj i x e1 e2=>?_⟩
 ·rw[hX];exact h4 y hy hf
 ·have q:=h6 j (List.mem_range.mpr (List.getElem?_eq_some_iff.mp e1).1);rw[e1,e2]at q;exact of_decide_eq_true q
section
variable (P : Program) (w : World) (K : PySem.W.Frag) (mg : Str -> Option Value) (base : Heap) (cl : Nat -> Addr)
def kX (k:Nat) (x:Str) (ps:List Str) (fn:List W->List Bx->O W):Prop :=
 ∃ (f:Addr) (fd:FuncData),bA P w K mg base (bK P w) k f fd ps (kQ cl ps.length fn) /\ mg x=some (.ref f) /\ PySem.W.keepIn K (.ref f)=true /\ Binds K fd ps [] /\ ∃ o:Obj,K.lookup f=some o /\ o.data=.func fd
def Def (x:Str) (st:Stmt) (ps:List Str):Prop:=∃ (f:Addr) (fd:FuncData),cC K x x st f fd /\ mg x=some (.ref f) /\ Binds K fd ps []
end
section
variable {st : Stmt} {ps : List Str} {m : af} {nn kk : Nat}
theorem _root_.L2.cC.obj (F:cC K x qual st f fd):∃ o:Obj,K.lookup f=some o /\ o.data=.func fd:=by
 obtain⟨⟨oc,od,kV,doc,pm,an,cdv,ct,kz,_,l,_⟩,_⟩:=F;exact⟨_,l,rfl⟩
theorem LL (d:Def K mg x st ps):kX P w K mg base cl k x ps (λ_ _=>.bad):=by
 obtain⟨f,fd,F,hm,hb⟩:=d;refine⟨f,fd,⟨λvs H Q E h=>?_,λA outer s H args us vs Q E _ _ _ _ h=>?_⟩,hm,F.kp,hb,F.obj⟩
 ·obtain⟨_,_,_,_,_,_,_,h⟩:=h;exact h.elim
 ·obtain⟨_,_,_,_,_,_,_,h⟩:=h;exact h.elim
end
section
variable {p : Pos} {k' : Nat} {ps : List Str} {nn : Nat}
theorem N3 (h:kX X.prog X.w X.K X.mg X.base Z.cl k x ps fn) (hr:aO k' X.A) (hk:k<=k') (hg:Gl X x) (hx:Passes (bK X.prog X.w) X Z.E) (ha:cD X T Z (e::es) m) (bB:(x==("__debug__":Str))=false:=by decide)
 (he:starEach (e::es) X.env=(false,eval e X.env)::starEach es X.env:=by rfl) (cA:(backTo pos (starEach es X.env)).any (·.1)=false:=by rfl) (hn:ps.length=nn:=by rfl):PD X T Z (.Call (.Name x p) (e::es) [] pos) (fk fn nn m):=by
 subst hn;obtain⟨f,fd,G,hm,XU,hb,_⟩:=h;exact Lm G (hr.mono hk) hg hm XU hb hx ha bB he cA
end
end L2.DL
namespace HT
structure SB (kd:SortKind) (b:Array Keyed) (z:SortSt):Prop where
 pm:(arrOf z).Perm b
 kd:kindOf z=kd
 fl:failedOf z=none
 pn:pendingOf z=#[]
theorem SB.len {kd:SortKind}{b:Array Keyed}{z:SortSt}(g:SB kd b z):(arrOf z).size=b.size:=g.pm.size_eq
theorem SB.put {kd:SortKind}{b:Array Keyed}{z:SortSt}(g:SB kd b z) {c:Array Keyed}(q:c.Perm (arrOf z)):SB kd b (setArr z c):=⟨q.trans g.pm,g.kd,g.fl,g.pn⟩
section
def pX (prog:Program) (w:World) (A:Around) (E:Value->Shared->Prop) (s:Shared) (κ:KeyKind) (kd:SortKind) (b:Array Keyed):Prop :=
 ∀ (x y:Keyed),x∈b.toList->y∈b.toList->∀ (Q:Bool->Shared->Prop) (E':Value->Shared->Prop),Q (κ.blt ((κ.keyOf x.1).getD κ.dflt) ((κ.keyOf y.1).getD κ.dflt)) s->wpAny (model prog w) A (keyLt' kd x.1 y.1) Q E' s
variable {κ : KeyKind} {kd : SortKind} {b : Array Keyed}
noncomputable abbrev kx (κ:KeyKind) (z:SortSt) (i:Nat):κ.α:=KK κ (arrOf z) i
theorem SB.item {z:SortSt}(g:SB kd b z) (hi:i<b.size):∃ x,(arrOf z)[i]?=some x /\ x∈b.toList /\ kx κ z i=(κ.keyOf x.1).getD κ.dflt:=by
 have hz:i<(arrOf z).size:=g.len▸hi;refine⟨(arrOf z)[i],getElem?_pos _ i hz,(Array.perm_iff_toList_perm.mp g.pm).mem_iff.mp (by simp),?_⟩;simp only[kx,KK,getElem?_pos (arrOf z) i hz]
theorem ask (C:pX prog w A E s κ kd b) {z:SortSt}(g:SB kd b z) (hi:i<b.size) (hj:j<b.size) {Q:Option Bool->SortSt->Prop}
 (q:Q (some (κ.blt (kx κ z i) (kx κ z j))) z):wpS (model prog w) A E s (ltAt' i j) Q z:=by
 obtain⟨x,ex,mx,XX⟩:=g.item (κ:=κ) hi;obtain⟨y,ey,my,XY⟩:=g.item (κ:=κ) hj;rw[XX,XY]at q;rw[ltAt'_eq];refine bj (tL ?_);dsimp only;rw[elem'_eq,elem'_eq,ex,ey];refine bj (cz (bj (cz ?_)));rw[lt'_eq];refine bj (tL ?_);rw[g.kd];exact bj (zS (wx (C x y mx my _ _ ⟨rfl,cz q⟩)))
def Up (κ:KeyKind) (z:SortSt) (n:Nat):Prop:=∀ i j,i<=j->j<n->κ.kle (kx κ z i) (kx κ z j)
def Dn (κ:KeyKind) (z:SortSt) (n:Nat):Prop:=∀ i j,i<=j->j<n->κ.kle (kx κ z j) (kx κ z i)
theorem Up.one {z:SortSt}(h:n<=1):Up κ z n:=λi j a c=>by
 have e:i=j:=by omega
 subst e;exact tP _
theorem Up.more {z:SortSt}(u:Up κ z n) (h:1<=n) (l:κ.kle (kx κ z (n-1)) (kx κ z n)):Up κ z (n+1):=λi j a c=>by
 rcases uW j n with c'|c'
 ·exact u i j a c'
 obtain rfl:j=n:=by omega
 rcases uW i j with a'|a'
 ·exact xa (u i (j-1) (by omega) (by omega)) l
 ·obtain rfl:i=j:=by omega
  exact tP _
theorem Dn.more {z:SortSt}(u:Dn κ z n) (h:1<=n) (l:κ.kle (kx κ z n) (kx κ z (n-1))):Dn κ z (n+1):=λi j a c=>by
 rcases uW j n with c'|c'
 ·exact u i j a c'
 obtain rfl:j=n:=by omega
 rcases uW i j with a'|a'
 ·exact xa l (u i (j-1) (by omega) (by omega))
 ·obtain rfl:i=j:=by omega
  exact tP _
theorem asc (C:pX prog w A E s κ kd b) {z:SortSt}(g:SB kd b z) {a:Nat}(hn:n<=b.size) (h1:1<=a) (h2:a<=n) (u:Up κ z a) {Q:AscSt->SortSt->Prop}
 (q:∀ m,a<=m->m<=n->Up κ z m->(m<n->κ.klt (kx κ z m) (kx κ z (m-1)))->Q (none,m) z):wpS (model prog w) A E s (ascLoop a n) Q z:=by
 unfold ascLoop;refine tM (I:=λm c y=>y=z /\ c=(none,m) /\ Up κ z m) ?_ ?_ ⟨rfl,rfl,u⟩
 ·intro m c y g1 g2 ⟨e1,e2,u'⟩;subst e1;subst e2;refine bj (ask C g (show m<b.size by omega) (show m-1<b.size by omega) ?_);cases e:κ.blt (kx κ y m) (kx κ y (m-1)) with
  |true=>exact cz (q m g1 (eu g2) u' λ_=>e)
  |false=>exact cz ⟨rfl,rfl,u'.more (by omega) e⟩
 ·intro c y ⟨e1,e2,u'⟩;subst e1;subst e2;rw[KO h2]at u' ⊢;exact q n h2 (ag n) u' λh=>absurd h (kC n)
theorem Dj {z:SortSt}(hj:j<=(arrOf z).size):kx κ (setArr z (mirror (arrOf z) i j ((j-i) / 2))) k=if i<=k /\ k<j then kx κ z (i+j-1-k) else kx κ z k:=KK_mirror (κ:=κ) hj k
theorem j0 {z:SortSt}(hj:j<=(arrOf z).size) (e:∀ k,i<=k->k<j->kx κ z k=kx κ z (j-1)) (k:Nat):kx κ (setArr z (mirror (arrOf z) i j ((j-i) / 2))) k=kx κ z k:=KK_mirror_equal (κ:=κ) hj e k
def Ends (prog:Program) (w:World) (A:Around) (E:Value->Shared->Prop) (s:Shared) (κ:KeyKind) (kd:SortKind) (b:Array Keyed) (n:Nat) (Q:Option Nat->SortSt->Prop):Prop :=
 ∀ m y,SB kd b y->1<=m->m<=n->Up κ y m->Q (some m) y
theorem turned (C:pX prog w A E s κ kd b) {z:SortSt}(g:SB kd b z) {a:Nat}(hn:n<=b.size) (h1:1<=a) (h2:a<=n) (d:Dn κ z a) {Q:Option Nat->SortSt->Prop}(q:Ends prog w A E s κ kd b n Q) :
 wpS (model prog w) A E s (tail3 a n) Q z:=by
 have hz:a<=(arrOf z).size:=g.len▸bu h2 hn;have g':SB kd b (setArr z (mirror (arrOf z) 0 a ((a-0) / 2))):=g.put (wX _ _ _ _);unfold tail3;refine bj (wY (bj (asc C g' hn h1 h2 (λi j c1 c2=>?_) λm m1 m2 um _=>cz (q m _ g' (bu h1 m1) m2 um))));rw[Dj hz,Dj hz,if_pos ⟨k8 i,by omega⟩,if_pos ⟨k8 j,c2⟩];exact d _ _ (by omega) (by omega)
def Alike (κ:KeyKind) (z:SortSt) (m e:Nat):Prop:=e+1<=m /\ ∀ i,m-(e+1)<=i->i<m->kx κ z i=kx κ z (m-1)
theorem Alike.zero {z:SortSt}{m:Nat}(h:1<=m):Alike κ z m 0:=⟨h,λi h1 h2=>by rw[show i=m-1 by omega]⟩
theorem desc (C:pX prog w A E s κ kd b) {z:SortSt}(g:SB kd b z) {a:Nat}(hn:n<=b.size) (h1:1<=a) (h2:a<=n) (d:Dn κ z a) {Q:DescSt->SortSt->Prop}
 (q:∀ m e y,SB kd b y->a<=m->m<=n->Dn κ y m->Alike κ y m e->Q (none,m,e) y):wpS (model prog w) A E s (descLoop a n) Q z:=by
 unfold descLoop;refine tM (I:=λm c y=>∃ e,c=(none,m,e) /\ SB kd b y /\ Dn κ y m /\ Alike κ y m e) ?_ ?_ ⟨0,rfl,g,d,.zero h1⟩
 ·intro m c y g1 g2 ⟨e,ec,gy,dy,al⟩;subst ec;have hm:m<=(arrOf y).size:=by rw[gy.len];omega
  refine bj (ask C gy (show m<b.size by omega) (show m-1<b.size by omega) ?_);cases t:κ.blt (kx κ y m) (kx κ y (m-1)) with
  | true =>
    have d':Dn κ y (m+1):=dy.more (by omega) (xb t);dsimp only;rw[if_pos rfl];by_cases he:e>0
    ·rw[if_pos he];refine bj (wY (cz ⟨0,rfl,gy.put (wX _ _ _ _),λi j c1 c2=>?_,.zero (by omega)⟩));rw[j0 hm al.2,j0 hm al.2];exact d' i j c1 c2
    ·rw[if_neg he];exact cz ⟨0,rfl,gy,d',.zero (by omega)⟩
  | false =>
    dsimp only;rw[if_neg (by simp)];refine bj (ask C gy (show m-1<b.size by omega) (show m<b.size by omega) ?_);cases t2:κ.blt (kx κ y (m-1)) (kx κ y m) with
    |true=>exact cz (q m e y gy g1 (by omega) dy al)
    | false =>
      have eq:kx κ y m=kx κ y (m-1):=QL t2 t;refine cz ⟨e+1,rfl,gy,dy.more (by omega) t2,by have:=al.1;omega,λi c1 c2=>?_⟩;rw[show m+1-1=m by omega];by_cases hi:i=m
      ·rw[hi]
      ·rw[eq];exact al.2 i (by omega) (by omega)
 ·intro c y ⟨e,ec,gy,dy,al⟩;subst ec;rw[KO h2]at dy al ⊢;exact q n e y gy h2 (ag n) dy al
theorem fall (C:pX prog w A E s κ kd b) {z:SortSt}(g:SB kd b z) {a:Nat}(hn:n<=b.size) (h2:a+1<=n) (d:Dn κ z (a+1)) {Q:Option Nat->SortSt->Prop}(q:Ends prog w A E s κ kd b n Q) :
 wpS (model prog w) A E s (descPart a n) Q z:=by
 unfold descPart;refine bj (zS (pk ⟨rfl,bj (desc C g hn (Nat.succ_pos a) h2 d λm e y gy m1 m2 dy al=>?_)⟩));dsimp only;by_cases he:e>0
 ·rw[if_pos he];have hm:m<=(arrOf y).size:=by rw[gy.len];omega
  refine bj (wY (turned C (gy.put (wX _ _ _ _)) hn (by omega) m2 (λi j c1 c2=>?_) q));rw[j0 hm al.2,j0 hm al.2];exact dy i j c1 c2
 ·rw[if_neg he];exact turned C gy hn (by omega) m2 dy q
theorem count (C:pX prog w A E s κ kd b) {z:SortSt}(g:SB kd b z) (hn:n<=b.size) (h1:1<=n) {Q:Option Nat->SortSt->Prop}(q:Ends prog w A E s κ kd b n Q) :
 wpS (model prog w) A E s (countRun' 0 n) Q z:=by
 rw[countRun0_eq];refine bj (asc C g hn (ag 1) h1 (.one (ag 1)) λm m1 m2 um last=>?_);dsimp only;by_cases hm:m=n
 ·rw[if_pos (by simp[hm])];exact cz (q m z g m1 m2 um)
 rw[if_neg (by simp[hm])];have lt:=last (by omega);by_cases h3:m>1
 ·rw[if_pos h3];refine bj (ask C g (show 0<b.size by omega) (show m-1<b.size by omega) ?_);cases t:κ.blt (kx κ z 0) (kx κ z (m-1)) with
  |true=>exact cz (q m z g m1 m2 um)
  | false =>
    dsimp only;rw[if_neg (by simp)];have al:∀ k,0<=k->k<m->kx κ z k=kx κ z (m-1):=λk _ hk =>
     QL (um k (m-1) (by omega) (by omega)) (xa t (um 0 k (k8 k) hk))
    have hz:m<=(arrOf z).size:=by rw[g.len];omega
    refine bj (wY (fall C (g.put (wX _ _ _ _)) hn (by omega) (λi j c1 c2=>?_) q));rw[j0 hz al,j0 hz al];have d0:Dn κ z m:=λi j c1 c2=>by rw[al i (k8 _) (by omega),al j (k8 _) c2];exact tP _
    exact d0.more m1 (xb lt) i j c1 c2
 ·rw[if_neg h3];obtain rfl:m=1:=by omega
  have d0:Dn κ z 1:=λi j c1 c2=>by
   obtain rfl:i=j:=by omega
   exact tP _
  exact fall C g hn (by omega) (d0.more (ag 1) (xb lt)) q
end
section
variable {κ : KeyKind} {kd : SortKind} {b : Array Keyed}
def Fits (κ:KeyKind) (z:SortSt) (k l r:Nat):Prop:=(∀ i,i<l->κ.kle (kx κ z i) (kx κ z k)) /\ ∀ i,r<=i->i<k->κ.klt (kx κ z k) (kx κ z i)
theorem Dk {z:SortSt}{l:Nat}(hk:k<(arrOf z).size) (hl:l<=k):kx κ (setArr z (bubble (arrOf z) k (k-l))) i=if i=l then kx κ z k else if l<i /\ i<=k then kx κ z (i-1) else kx κ z i:=by
 have e:=KK_bubble (κ:=κ) hk (Nat.sub_le k l) i;rw[show k-(k-l)=l by omega]at e;exact e
theorem Up.insert {z:SortSt}{l:Nat}(u:Up κ z k) (hk:k<(arrOf z).size) (hl:l<=k) (f:Fits κ z k l l):Up κ (setArr z (bubble (arrOf z) k (k-l))) (k+1):=by
 intro i j c1 c2;rw[Dk hk hl,Dk hk hl];by_cases i1:i=l
 ·rw[if_pos i1];by_cases j1:j=l
  ·rw[if_pos j1];exact tP _
  ·rw[if_neg j1,if_pos ⟨by omega,by omega⟩];exact xb (f.2 _ (by omega) (by omega))
 ·rw[if_neg i1];by_cases i2:l<i /\ i<=k
  ·rw[if_pos i2,if_neg (by omega),if_pos ⟨by omega,by omega⟩];exact u _ _ (by omega) (by omega)
  ·rw[if_neg i2];by_cases j1:j=l
   ·rw[if_pos j1];exact f.1 i (by omega)
   ·rw[if_neg j1];by_cases j2:l<j /\ j<=k
    ·rw[if_pos j2];exact u _ _ (by omega) (by omega)
    ·rw[if_neg j2];exact u _ _ c1 (by omega)
theorem XZ (C:pX prog w A E s κ kd b) {z:SortSt}(g:SB kd b z) {m:Nat}(hn:n<=b.size) (hm:m<=n) (u:Up κ z m) {Q:Bool->SortSt->Prop}(q:∀ y,SB kd b y->Up κ y n->Q true y) :
 wpS (model prog w) A E s (binarySort' 0 n m) Q z:=by
 rw[binarySort'_eq];simp only[wC];refine bj (wZ (Q:=λc y=>c=(none,()) /\ SB kd b y /\ Up κ y n) (tM (I:=λk c y=>c=(none,()) /\ SB kd b y /\ Up κ y (min k n)) ?_ ?_ ?_) ?_)
 ·intro k c y k1 k2 ⟨ec,gy,uy⟩;subst ec;rw[zw (eu k2)]at uy;have kb:k<b.size:=by omega
  have ks:k<(arrOf y).size:=by rw[gy.len];exact kb
  refine bj (wZ (Q:=λc y'=>y'=y /\ ∃ l r,c=(none,l,r) /\ l<=k /\ Fits κ y k l l) (tM (I:=λx c y'=>y'=y /\ ∃ l r,c=(none,l,r) /\ l<=r /\ r<=k /\ r-l<=k-x /\ Fits κ y k l r) ?_ ?_ ?_) ?_)
  ·intro x c y' _ x2 ⟨ey,l,r,ec,p1,p2,p3,f⟩;subst ey;subst ec;dsimp only;by_cases lr:l>=r
   ·rw[if_pos lr];obtain rfl:l=r:=by omega
    exact cz ⟨rfl,l,l,rfl,p2,f⟩
   rw[if_neg lr];refine bj (ask C gy kb (show (l+r) / 2<b.size by omega) ?_);cases t:κ.blt (kx κ y' k) (kx κ y' ((l+r) / 2)) with
   |true=>exact cz ⟨rfl,l,(l+r) / 2,rfl,by omega,by omega,by omega,f.1,λi i1 i2=>KeyOrd.klt_of_klt_of_kle t (uy _ _ i1 i2)⟩
   |false=>exact cz ⟨rfl,(l+r) / 2+1,r,rfl,by omega,by omega,by omega,λi i1=>xa (uy i ((l+r) / 2) (by omega) (by omega)) t,f.2⟩
  ·intro c y' ⟨ey,l,r,ec,p1,p2,p3,f⟩;obtain rfl:l=r:=by omega
   exact⟨ey,l,l,ec,p2,f⟩
  ·exact⟨rfl,0,k,rfl,k8 k,ag k,ag _,λi hi=>absurd hi (Nat.not_lt_zero i),λi i1 i2=>absurd i2 (by omega)⟩
  ·intro c y' ⟨ey,l,r,ec,p,f⟩;subst ey;subst ec;show wpS _ _ _ _ (moveDown' k l >>= λ_=>pure (ForInStep.yield (none,()))) _ _;rw[moveDown'_eq];refine bj (zT (cz ⟨rfl,gy.put (bubble_perm _ _ _),?_⟩));rw[zw k2];exact uy.insert ks p f
 ·intro c y ⟨ec,gy,uy⟩;rw[show min (max (max m 1) n) n=n by omega]at uy;exact⟨ec,gy,uy⟩
 ·refine⟨rfl,g,?_⟩;rcases uW m 1 with m0|m0
  ·exact .one (by omega)
  ·rw[show min (max m 1) n=m by omega];exact u
 ·intro c y ⟨ec,gy,uy⟩;subst ec;exact cz (q y gy uy)
def yi (κ:KeyKind) (b:Array Keyed) (y:SortSt):Prop:=(arrOf y).Perm b /\ failedOf y=none /\ pendingOf y=#[(0,b.size,0)] /\ Up κ y b.size
theorem SB.fin {y:SortSt}(g:SB kd b y) (u:Up κ y b.size):yi κ b (setPending y ((pendingOf y).push (0,b.size,0))):=⟨g.pm,g.fl,by show (pendingOf y).push _=_;rw[g.pn];rfl,u⟩
theorem runs (C:pX prog w A E s κ kd b) {z:SortSt}(g:SB kd b z) (h2:2<=b.size) (cj:b.size<64) {Q:Unit->SortSt->Prop}(q:∀ y,(arrOf y).Perm b->failedOf y=none->Up κ y b.size->Q () y) :
 wpS (model prog w) A E s sortRuns' Q z:=by
 have mr:minRun' b.size b.size 0=b.size:=by
  obtain⟨f,e⟩:=Nat.exists_eq_add_of_lt (show 0<b.size by omega);have:minRun' (0+f+1) b.size 0=b.size:=by rw[minRun'_succ,if_pos cj];rfl
  rw[<-e]at this;exact this
 rw[sortRuns'_eq];refine bj (tL ?_);dsimp only;simp only[g.len,mr];refine bj (wZ (Q:=λc y=>c=(none,b.size) /\ yi κ b y)
  (tM (I:=λx c y=>if x=0 then c=(none,0) /\ SB kd b y else c=(none,b.size) /\ yi κ b y) ?_ ?_ (by rw[if_pos rfl];exact⟨rfl,g⟩)) ?_)
 ·intro x c y _ x2 I;by_cases x0:x=0
  ·rw[if_pos x0]at I;obtain⟨ec,gy⟩:=I;subst ec;subst x0;dsimp only;rw[if_neg (by omega)];simp only[zu,Nat.min_self,wC];have fin:∀ y',SB kd b y'->Up κ y' b.size->(if (1:Nat)=0 then ((none:Option PUnit),b.size)=(none,0) /\ SB kd b (setPending y' ((pendingOf y').push (0,b.size,0))) else ((none:Option PUnit),b.size)=(none,b.size) /\ yi κ b (setPending y' ((pendingOf y').push (0,b.size,0)))):=
    λy' g' u'=>by rw[if_neg (by omega)];exact⟨rfl,g'.fin u'⟩
   refine bj (count C gy (ag _) (by omega) λm y1 g1 m1 m2 u1=>?_);dsimp only;by_cases lt:m<b.size
   ·rw[if_pos lt];refine bj (zS (pk ⟨rfl,bj (XZ C g1 (ag _) m2 u1 λy3 g3 u3=>?_)⟩));rw[if_neg (by simp)];refine bj (tL ?_);rw[show (pendingOf y3).back?=none by rw[g3.pn];rfl];exact bj (zT (cz (fin y3 g3 u3)))
   ·rw[if_neg lt];obtain rfl:m=b.size:=by omega
    refine bj (tL ?_);rw[show (pendingOf y1).back?=none by rw[g1.pn];rfl];exact bj (zT (cz (fin y1 g1 u1)))
  ·rw[if_neg x0]at I;obtain⟨ec,fy⟩:=I;subst ec;dsimp only;rw[if_pos (ag _)];exact cz ⟨rfl,fy⟩
 ·intro c y I;rw[if_neg (by omega)]at I;exact I
 ·intro c y ⟨ec,fy⟩;subst ec;dsimp only;refine bj (wZ (Q:=λc y'=>y'=y /\ c=(none,())) (tM (I:=λ_ c y'=>y'=y /\ c=(none,())) ?_ (λ_ _ h=>h) ⟨rfl,rfl⟩) ?_)
  ·intro x c y' _ _ ⟨e1,e2⟩;subst e1;subst e2;refine bj (tL ?_);rw[if_pos (by rw[fy.2.2.1];exact ag 1)];exact cz ⟨rfl,rfl⟩
  ·intro c y' ⟨e1,e2⟩;subst e1;subst e2;exact cz (q _ fy.1 fy.2.1 fy.2.2.2)
end
def bG (h:Heap) (v:Value) (ns:List Int):Prop:=∃ a vs,v=.ref a /\ IsTup h a vs.toArray /\ IntsAre vs ns /\ ns≠[]
theorem jS:∀ {vs:List Value}{ns ms:List Int},IntsAre vs ns->IntsAre vs ms->ns=ms
 |_,_,_,.nil,.nil=>rfl
 |_,_,_,.cons n t h,g=>by cases g with|cons _ _ g=>rw[jS h g]
theorem bG.inj {h:Heap}{ms:List Int}(p:bG h v ns) (q:bG h v ms):ns=ms:=by
 obtain⟨a,vs,rfl,⟨o,e1,_,n,e2⟩,i1,_⟩:=p;obtain⟨a',qE,e,⟨o',f1,_,n',f2⟩,i2,_⟩:=q;cases e;rw[e1]at f1;cases f1;rw[e2]at f2;injection f2 with g _;have:vs=qE:=by simpa using g
 subst this;exact jS i1 i2
theorem im:∀ a,lexLt a a=false
 |[]=>rfl
 |x::a=>by rw[fK,if_pos rfl];exact im a
theorem ji:∀ a b c,lexLt a b=true->lexLt b c=true->lexLt a c=true
 |[],[],_,h,_=>by cases h
 |[],_::_,[],_,h=>by cases h
 |[],_::_,_::_,_,_=>rfl
 |_::_,[],_,h,_=>by cases h
 |_::_,_::_,[],_,h=>by cases h
 | x::a,y::b,z::c,h,g=>by
   rw[fK]at *;by_cases e1:x=y
   ·subst e1;rw[if_pos rfl]at h;by_cases e2:x=z
    ·subst e2;rw[if_pos rfl]at g ⊢;exact ji a b c h g
    ·rw[if_neg e2]at g ⊢;exact g
   ·rw[if_neg e1]at h;by_cases e2:y=z
    ·subst e2;rw[if_neg e1];exact h
    ·rw[if_neg e2]at g;have h':=of_decide_eq_true h;have g':=of_decide_eq_true g;rw[if_neg (by omega)];exact decide_eq_true (by omega)
theorem gQ:∀ a b,lexLt a b=false->lexLt b a=false->a=b
 |[],[],_,_=>rfl
 |[],_::_,h,_=>by cases h
 |_::_,[],_,h=>by cases h
 | x::a,y::b,h,g=>by
   rw[fK]at *;by_cases e:x=y
   ·subst e;rw[if_pos rfl]at h g;rw[gQ a b h g]
   ·rw[if_neg e]at h;rw[if_neg (Ne.symm e)]at g;have h':=of_decide_eq_false h;have g':=of_decide_eq_false g;omega
theorem j5 (a b c:List Int) (h:lexLt a c=true):lexLt a b=true \/ lexLt b c=true:=by
 cases e:lexLt a b with
 |true=>exact .inl rfl
 | false =>
   refine .inr ?_;cases f:lexLt b a with
   |true=>exact ji b a c f h
   |false=>rw[<-gQ a b e f];exact h
open Classical in
def yj (h:Heap):KeyKind where
 α:=List Int
 blt:=lexLt
 irrefl:=im
 trans:=ji
 negTrans:=j5
 total:=gQ
 keyOf v:=if p:∃ ns,bG h v ns then some p.choose else none
 dflt:=[]
open Classical in
theorem AC {h:Heap}(p:bG h v ns):((yj h).keyOf v).getD []=ns:=by
 have e:∃ ns,bG h v ns:=⟨ns,p⟩;show (if p:∃ ns,bG h v ns then some p.choose else none).getD []=ns;rw[dif_pos e];exact bG.inj e.choose_spec p
theorem oJ {x y:Int}{t u:Tok}(k:Bool) {Q:Bool->Shared->Prop}(h:Q (decide (x<y)) s):wpAny (model prog w) A (oneLt' k (.int x t) (.int y u)) Q E s:=by
 cases k with
 |true=>exact oneLt_int h
 | false =>
   rw[oneLt'_eq];rw[if_neg (by simp)];exact aa (show wpAny (model prog w) A (richCompare .Lt (.int x t) (.int y u)) _ E s from(zO (qe h):wpAny (model prog w) A (compareOp .Lt (.int x t) (.int y u)) _ E s))
theorem lO (f:Bool) (x y:Value):keyLt' (tuples' f) x y=(do
 let xs <-Builtin.List.listItems x
 let ys <-Builtin.List.listItems y
 for ((p,q),i) in (xs.toList.zip ys.toList).zipIdx do
  if !(<-eqBool p q) then return <-oneLt' (f&&i==0) p q
 return decide (xs.size<ys.size)):=rfl
theorem CB {f:Bool}{x y:Value}{ms:List Int}(hx:bG s.heap x ns) (hy:bG s.heap y ms) {Q:Bool->Shared->Prop}(h:Q (lexLt ns ms) s):wpAny (model prog w) A (keyLt' (tuples' f) x y) Q E s:=by
 obtain⟨a,vs,rfl,⟨o,e1,_,n,e2⟩,i1,_⟩:=hx;obtain⟨a',us,rfl,⟨o',f1,_,n',f2⟩,i2,_⟩:=hy;rw[lO];refine aa (ql e1 e2 (aa (ql f1 f2 ?_)))
 have L:∀ (vs us:List Value) (ns ms:List Int) (i:Nat),IntsAre vs ns->IntsAre us ms->∀ (R:(Option Bool×PUnit)->Shared->Prop),
  (∀ r,(r=(some (lexLt ns ms),PUnit.unit) \/ (r=(none,PUnit.unit) /\ lexLt ns ms=decide (vs.length<us.length)))->R r s) ->
  wpAny (model prog w) A (forIn ((vs.zip us).zipIdx i) ((none,PUnit.unit):Option Bool×PUnit) λ(z:(Value×Value)×Nat) _=>(do
   let z1 <-eqBool z.1.1 z.1.2
   if (!z1)=true then do
    let r <-oneLt' (f&&z.2==0) z.1.1 z.1.2
    pure (ForInStep.done (some r,PUnit.unit))
   else pure (ForInStep.yield (none,PUnit.unit)))) R E s:=by
  intro vs;induction vs with
  | nil =>
    intro us ns ms i p q R k;cases p;rw[uZ,tF,qj];refine ah (k _ (.inr ⟨rfl,?_⟩));cases q with
    |nil=>rfl
    |cons m t q=>simp[jN]
  | cons v vs ih =>
    intro us ns ms i p q R k;cases p with
    | cons n t p =>
      cases q with
      | nil =>
        rw[wI,tF,qj];exact ah (k _ (.inr ⟨rfl,by simp[jO]⟩))
      | cons m u q =>
        rw[qi,wO,rX];refine aa (aa (yZ ?_));by_cases e:n=m
        ·subst e;rw[if_neg (by simp)];refine ah ?_;refine ih _ _ _ (i+1) p q R λr hr=>k r ?_;rw[fK,if_pos rfl];rcases hr with hr|⟨hr,Hy⟩
         ·exact .inl hr
         ·exact .inr ⟨hr,by rw[Hy];simp⟩
        ·rw[if_pos (by simp[e])];refine aa (oJ _ (ah (ah (k _ (.inl ?_)))));rw[fK,if_neg e]
 refine aa (L vs us ns ms 0 i1 i2 _ λr hr=>?_);rcases hr with rfl|⟨rfl,e⟩
 ·exact ah h
 ·refine ah ?_;rw[aR,aR,<-e];exact h
theorem LM (H:∀ v∈vs,∃ ns,bG s.heap v ns) (f:Bool):pX prog w A E s (yj s.heap) (tuples' f) (pairsOf vs):=by
 intro x y mx my Q E' q;rw[zU]at mx my;obtain⟨ns,hx⟩:=H _ (vd mx).2;obtain⟨ms,hy⟩:=H _ (vd my).2;refine CB hx hy ?_;have e1:=AC hx;have e2:=AC hy
 change Q (lexLt (((yj s.heap).keyOf x.1).getD []) (((yj s.heap).keyOf y.1).getD [])) s at q
 rw[e1,e2]at q;exact q
theorem Fv (p:bG s.heap v ns) {Q:Option Value->Shared->Prop}(h:∀ i t,Q (some (.int i t)) s):wpAny (model prog w) A (firstOfTuple' v) Q E s:=by
 obtain⟨a,vs,rfl,⟨o,e1,e3,n,e2⟩,i1,ne⟩:=p;show wpAny (model prog w) A (do
  if (<-typeOf (.ref a)) != .type "tuple" then return none
  return (<-Builtin.List.listItems (.ref a))[0]?) Q E s
 refine aa (sY (T:="tuple") ⟨o,e1,e3⟩ ?_);rw[if_neg (by decide)];refine aa (ql e1 e2 (ah ?_));cases i1 with
 |nil=>exact absurd rfl ne
 |cons i t _=>exact h i t
theorem oK:∀ {vs:List Value},(∀ v∈vs,∃ ns,bG s.heap v ns)->∀ {Q:List (Option Value)->Shared->Prop},(∀ (us:List Value) (is:List Int),us.length=vs.length->IntsAre us is->Q (us.map some) s)->wpAny (model prog w) A (vs.mapM firstOfTuple') Q E s
 |[],_,Q,h=>by rw[Qd];exact ah (h [] [] rfl .nil)
 | v::vs,H,Q,h=>by
   obtain⟨ns,p⟩:=H v (a8 ..);rw[Qe];refine aa (Fv p λi t=>aa (oK (λu hu=>H u (aV _ hu)) λus is e k=>ah (h (.int i t::us) (i::is) (by simp[e]) (.cons i t k))))
theorem GQ (ne:vs≠[]) (H:∀ v∈vs,∃ ns,bG s.heap v ns) {Q:SortKind->Shared->Prop}(h:Q (tuples' true) s):wpAny (model prog w) A (keyKind' vs.toArray) Q E s:=by
 rw[Qy,wQ];refine aa (show wpAny (model prog w) A (List.toArray <$> vs.mapM firstOfTuple') _ E s from ?_);rw[<-bind_pure_comp];refine aa (oK H λus is e k=>ah ?_);rw[if_pos (by simp)];refine aa (pk ?_);have e1:((us.map some).toArray.filterMap id)=us.toArray:=by simp[u7]
 rw[e1,Qz,wQ,QA k];cases us with
 |nil=>exact absurd (wR e.symm) ne
 | cons u us =>
   simp only[map_pure,pure_bind];rw[show ((u::us).map λ_=>Value.type "int").toArray[0]?=some (Value.type "int") by simp];dsimp only;rw[if_pos (by simp)];exact aa (ah (ah h))
structure KP (P:Heap->Value->List Int->Prop):Prop where
 inj:∀ {h:Heap}{v:Value}{ns ms:List Int},P h v ns->P h v ms->ns=ms
 push:∀ {h:Heap}{v:Value}{ns:List Int},P h v ns->∀ o:Obj,P (h.push o) v ns
 upd:∀ {h:Heap}{v:Value}{ns:List Int},P h v ns->∀ {l:Addr}{xs:Array Value}{n:Nat},h.get? l=some (seqObj "list" xs n)->∀ f:Obj->Obj,P (h.update l f) v ns
theorem bG.push {h:Heap}{v:Value}{ns:List Int}(p:bG h v ns) (o:Obj):bG (h.push o) v ns:=by
 obtain⟨a,vs,e,⟨u,e1,e2⟩,k⟩:=p;exact⟨a,vs,e,⟨u,aG _ e1,e2⟩,k⟩
theorem bG.upd {h:Heap}(p:bG h v ns) {l:Addr}{xs:Array Value}(hl:h.get? l=some (seqObj "list" xs n)) (f:Obj->Obj):bG (h.update l f) v ns:=by
 obtain⟨a,vs,e,⟨u,e1,e2,e3⟩,k⟩:=p;refine⟨a,vs,e,⟨u,?_,e2,e3⟩,k⟩;by_cases q:l=a
 ·subst q;rw[hl]at e1;cases e1;injection (show Value.type "list"=Value.type "tuple" from e2) with e4;exact absurd e4 (by decide)
 ·rw[K4 _ _ _ _ (Ne.symm q)];exact e1
section
variable {P : Heap -> Value -> List Int -> Prop} (KQ : KP P)
open Classical in
noncomputable def qK (P:Heap->Value->List Int->Prop) (h:Heap):KeyKind where
 α:=List Int
 blt:=lexLt
 irrefl:=im
 trans:=ji
 negTrans:=j5
 total:=gQ
 keyOf v:=if p:∃ ns,P h v ns then some p.choose else none
 dflt:=[]
include KQ in
open Classical in
theorem m7 {h:Heap}(p:P h v ns):((qK P h).keyOf v).getD []=ns:=by
 have e:∃ ns,P h v ns:=⟨ns,p⟩;show (if p:∃ ns,P h v ns then some p.choose else none).getD []=ns;rw[dif_pos e];exact KQ.inj e.choose_spec p
def rL (P:Heap->Value->List Int->Prop) (h:Heap) (vs:List Value):Prop:=vs.Pairwise λx y=>∀ ns ms,P h x ns->P h y ms->lexLt ms ns=false
def yk (P:Heap->Value->List Int->Prop) (prog:Program) (w:World) (U:Nat) (s:Shared) (vs:List Value):Prop:=∀ (A:Around) (h':Heap),A.units<=U->(∀ v ns,P s.heap v ns->P h' v ns) ->
 (∀ {Q:SortKind->Shared->Prop}{E:Value->Shared->Prop},Q (tuples' true) { s with heap:=h' }->wpAny (model prog w) A (keyKind' vs.toArray) Q E { s with heap:=h' }) /\ ∀ E,pX prog w A E { s with heap:=h' } (qK P h') (tuples' true) (pairsOf vs)
include KQ
theorem GR {h:Heap}(H:∀ v∈vs,∃ ns,P h v ns) (up:∀ v ns,P h v ns->P h' v ns) {z:SortSt}(pm:(arrOf z).Perm (pairsOf vs)) (u:Up (qK P h') z (pairsOf vs).size) :
 ((arrOf z).map (·.2)).toList.Perm vs /\ rL P h ((arrOf z).map (·.2)).toList:=by
 have hl:(arrOf z).toList.Perm (vs.zip vs):=by rw[<-zU];exact Array.perm_iff_toList_perm.mp pm
 have me:∀ p∈(arrOf z).toList,p.1=p.2 /\ p.1∈vs:=λp hp=>vd (hl.mem_iff.mp hp);rw[Array.toList_map];constructor
 ·have:=hl.map (·.2);rw[Qf (ag _)]at this;exact this
 ·unfold rL;rw[qk,List.pairwise_iff_getElem];intro i j hi hj vj ns ms p q;have X0:i<(arrOf z).size:=by simpa using hi
  have ud:j<(arrOf z).size:=by simpa using hj
  have g:=u i j (eu vj) (by rw[<-pm.size_eq];exact ud);have ki:kx (qK P h') z i=ns:=by
   simp only[kx,KK,getElem?_pos (arrOf z) i X0];rw[QY,<-(me _ (by simp)).1]at p;exact m7 KQ (up _ _ p)
  have kj:kx (qK P h') z j=ms:=by
   simp only[kx,KK,getElem?_pos (arrOf z) j ud];rw[QY,<-(me _ (by simp)).1]at q;exact m7 KQ (up _ _ q)
  rw[ki,kj]at g;exact g
theorem LN {R:Fin->Shared->Prop}(ho:s.heap.get? a=some (seqObj "list" vs.toArray n)) (H:∀ v∈vs,∃ ns,P s.heap v ns) {U:Nat}(hU:A.units<=U) (S:vs≠[]->yk P prog w U s vs) (cj:vs.length<64)
 (h:∀ out:Array Value,out.toList.Perm vs->rL P s.heap out.toList->R (.done (.ret .none)) { s with heap:=sortedHeap s.heap a vs out }):wpAny (model prog w) A (Builtin.«list.sort» ⟨[.ref a],[]⟩) R E s:=by
 rw[list_sort_plain];have la:a<s.heap.objs.size:=aP ho;refine aa (ql ho rfl (aa (wW ho rfl ?_)));obtain⟨k,Td⟩:∃ k,(s.heap.update a (Obj.mapSeq λ_=>#[])).get? a=some (seqObj "list" #[] k):=⟨_,Qq ho (λ_=>#[])⟩;refine aa (zV Td rfl (aa (zq (aa (wz (kA ?_))))));generalize eh:((s.heap.update a (Obj.mapSeq λ_=>#[])).push (seqObj "tuple" vs.toArray 0)).push (seqObj "list" #[] 0)=h6;have up:∀ v ns,P s.heap v ns->P h6 v ns:=λv ns p=>eh▸KQ.push (KQ.push (KQ.upd p ho _) _) _;have ym:h6.get? a=some (seqObj "list" #[] k):=by
  rw[<-eh];exact aG _ (aG _ Td)
 have fin:∀ out:Array Value,out.toList.Perm vs->rL P s.heap out.toList->R (.done (.ret .none)) { s with heap:=h6.update a (Obj.mapSeq λ_=>out) }:=λout p q=>by
  rw[<-eh];exact h out p q
 show wpAny (model prog w) A _ R E { s with heap:=h6 };dsimp only;have big:vs.length<=sizeLine+1:=by rw[a7];omega
 by_cases h2:vs.toArray.size<2
 ·rw[if_pos h2,if_pos h2];refine aa (ah ?_);rw[StateT.run_pure];refine aa (ah ?_);dsimp only;have em:(Array.map (λx=>x.2) (vs.toArray.zip vs.toArray))=vs.toArray:=by
   apply Array.toList_inj.mp;simp[Qf]
  rw[em];refine aa (zV ym rfl (aa (wW ym rfl ?_ (hsz2:=by rw[aR];exact big))));rw[bne_self_eq_false];refine ah (fin vs.toArray (List.Perm.refl _) ?_);rw[aR]at h2;unfold rL;match vs,h2 with
  |[],_=>exact List.Pairwise.nil
  |[x],_=>exact List.pairwise_singleton _ _
 ·rw[if_neg h2,if_neg h2];rw[aR]at h2;have ne:vs≠[]:=λe=>by rw[e]at h2;simp at h2
  have H6:∀ v∈vs,∃ ns,P h6 v ns:=λv m=>let ⟨ns,p⟩:=H v m;⟨ns,up v ns p⟩
  refine aa ((S ne A h6 hU up).1 ?_);refine aa (eW (runs (s:={ s with heap:=h6 }) (κ:=qK P h6) (kd:=tuples' true) (b:=pairsOf vs) (z:=SortSt.mk' (tuples' true) (vs.toArray.zip vs.toArray) #[] 7 none)
   (Q:=λ_ y=>(arrOf y).Perm (pairsOf vs) /\ failedOf y=none /\ Up (qK P h6) y (pairsOf vs).size) ((S ne A h6 hU up).2 _) ⟨Array.Perm.refl _,rfl,rfl,rfl⟩ (by rw[zW];omega) (by rw[zW];exact cj) λy a1 a2 a3=>⟨a1,a2,a3⟩) ?_ λ_ _ e=>e)
  rintro⟨⟨⟩,y⟩ s' ⟨es,pm,fl,u⟩;subst es;dsimp only;obtain⟨o1,o2⟩:=GR KQ H up pm u;refine aa (zV ym rfl (aa (wW ym rfl ?_ (hsz2:=by rw[Array.size_map,pm.size_eq,zW];exact big))));rw[fl,bne_self_eq_false];exact ah (fin _ o1 o2)
theorem AD {l:Addr}(hl:∀ (A:Around) {Q:List Value->Shared->Prop},Q vs { s with heap:=(s.heap.push (seqObj "list" #[] 0)).update s.heap.objs.size (Obj.mapSeq (·++vs.toArray)) }->wpAny (model prog w) A (collect (.ref l)) Q E s) (H:∀ v∈vs,∃ ns,P s.heap v ns) {U:Nat}(hU:A.units+8<=U) (S:vs≠[]->yk P prog w U s vs) (cj:vs.length<64)
 (h:∀ out:Array Value,out.toList.Perm vs->rL P s.heap out.toList->Q (.ref (s.heap.objs.size+1)) { s with heap:=sortedAll s.heap vs out }):wpAny (model prog w) A (call (.builtin "sorted") [.ref l]) Q E s:=by
 refine Q3 Qr Qs Qt (Qu _) ?_;unfold Builtin.«sorted»;refine aa (m:=checkCount "sorted" 1 1 _) (ah (aa (hl _ (aa (wz ?_)))));generalize eg:(s.heap.push (seqObj "list" #[] 0)).update s.heap.objs.size (Obj.mapSeq (·++vs.toArray))=g;have sg:g.objs.size=s.heap.objs.size+1:=by rw[<-eg,K3,size_push']
 have up:∀ v ns,P s.heap v ns->P (g.push (seqObj "list" vs.toArray 0)) v ns:=λv ns p=>by
  rw[<-eg];exact KQ.push (KQ.upd (KQ.push p _) (bP _ rfl) _) _
 have dn:∀ v ns,v∈vs->P (g.push (seqObj "list" vs.toArray 0)) v ns->P s.heap v ns:=λv ns m p=>by
  obtain⟨ms,q⟩:=H v m;rw[KQ.inj p (up v ms q)];exact q
 have gl:(g.push (seqObj "list" vs.toArray 0)).get? (s.heap.objs.size+1)=some (seqObj "list" vs.toArray 0):=by rw[<-sg];exact bP _ rfl
 show wpAny _ _ _ _ _ { s with heap:=g.push (seqObj "list" vs.toArray 0) };rw[sg];refine aa (kA (qf Qv ⟨_,gl,rfl⟩ Qw (LN KQ (s:={ s with heap:=g.push (seqObj "list" vs.toArray 0) }) gl (λv m=>let ⟨ns,p⟩:=H v m;⟨ns,up v ns p⟩) (U:=U) (show A.units+1+1<=U by omega) (λne A h2 hu k=>S ne A h2 hu λv ns p=>k v ns (up v ns p)) cj λout o1 o2=>⟨_,rfl,ah ⟨_,rfl,?_⟩⟩) (Qx _)));have:=h out o1 (List.Pairwise.imp (λ{x y} r ns ms p q=>r ns ms (up _ _ p) (up _ _ q)) o2);unfold sortedAll at this;rw[eg]at this;exact this
omit KQ
theorem tupP:KP bG:=⟨bG.inj,bG.push,λp _ _ _ hl f=>bG.upd p hl f⟩
theorem Fw {U:Nat}(H:∀ v∈vs,∃ ns,bG s.heap v ns) (ne:vs≠[]):yk bG prog w U s vs:=λA h' _ up=>⟨λh=>GQ (s:={ s with heap:=h' }) ne (λv m=>let ⟨ns,p⟩:=H v m;⟨ns,up v ns p⟩) h,λE=>LM (s:={ s with heap:=h' }) (λv m=>let ⟨ns,p⟩:=H v m;⟨ns,up v ns p⟩) true⟩
end
end HT
namespace L2.DL
def vZ (K:PySem.W.Frag) (vs:List V) (H:Hp) (Q:VK):Prop:=∃ (p:Addr) (rs:List Addr) (key:Addr->List Int),vs=[.ref p] /\ aQ K H p (rs.map V.ref) /\ (∀ r∈rs,H r=some (.tup ((key r).map V.int)) /\ key r≠[]) /\ rs.length<64 /\
 ∀ (l:Addr) (eU:List Addr),H l=none->eU.Perm rs->eU.Pairwise (λa b=>HT.lexLt (key b) (key a)=false)->Q (.ref l) (upd H l (.lst (eU.map V.ref)))
theorem oM:∀ {rs:List Addr}{us:List Value},Vals (rs.map V.ref) us->us=rs.map Value.ref
 |[],_,.nil=>rfl
 | r::rs,_,.cons q t=>by
   cases q;rw[oM t];rfl
noncomputable def Hz:Value->Addr
 |.ref a=>a
 |_=>0
theorem Fx {rs:List Addr}(p:us.Perm (rs.map Value.ref)):∃ eU:List Addr,us=eU.map Value.ref /\ eU.Perm rs:=by
 refine⟨us.map Hz,?_,?_⟩
 ·rw[eJ];refine(vb us).symm.trans (u9 λu hu=>?_);obtain⟨r,_,rfl⟩:=List.mem_map.mp (p.mem_iff.mp hu);rfl
 ·have:=p.map Hz;rw[eJ]at this;exact this.trans (by rw[show (Hz∘Value.ref)=id from rfl,vb])
theorem AE:∀ (rs:List Addr),Vals (rs.map V.ref) (rs.map Value.ref)
 |[]=>.nil
 |r::rs=>.cons rfl (AE rs)
theorem CC:cK X (.builtin "sorted") (vZ X.K):=by
 intro pins s σ H xs us Q I rv h;obtain⟨p,rs,key,rfl,hp,hk,cj,q⟩:=h;obtain⟨u,rfl,ru⟩:=Vals.one rv;cases ru;obtain⟨its,r1,p1,z1⟩:=I.list hp;have ei:=oM r1;subst ei;have tup:∀ r∈rs,HT.bG s.heap (.ref r) (key r):=λr m=>by
  obtain⟨ys,v1,v2,_⟩:=I.tuple (.of (hk r m).1);exact⟨r,ys,rfl,v2,ik v1,(hk r m).2⟩
 have HH:∀ v∈rs.map Value.ref,∃ ns,HT.bG s.heap v ns:=λv m=>by
  obtain⟨r,mr,rfl⟩:=List.mem_map.mp m;exact⟨_,tup r mr⟩
 refine HT.AD HT.tupP (λA Q=>QB p1.isList) HH (U:=X.A.units+8) (ag _) (λne=>HT.Fw HH ne) (by rw[aL];exact cj) λout o1 o2=>?_;obtain⟨eU,e1,e2⟩:=Fx o1;obtain⟨k,he⟩:=zQ s.heap (rs.map Value.ref) out;have hf:H (s.heap.objs.size+1)=none:=I.ai.fresh (pw _);have ll:(eU.map V.ref).length<=sizeLine:=by
  rw[aL,e2.length_eq];exact bu (eu cj) (by decide)
 have ord:eU.Pairwise (λa b=>HT.lexLt (key b) (key a)=false):=by
  unfold HT.rL at o2;rw[e1,qk]at o2;refine Q7 (λ{a b} ma mb r=>?_) o2;exact r _ _ (tup a (e2.mem_iff.mp ma)) (tup b (e2.mem_iff.mp mb))
 refine⟨.ref (s.heap.objs.size+1),_,I.laid (t':=s.toks) (o:=.lst (eU.map V.ref)) (λb ob q=>zR q) (pw _) ?_,rfl,q _ eU hf e2 ord⟩;exact⟨ll,out.toList,k,e1▸AE eU,he⟩
def rM:List D->Option (List (List Int))
 |[]=>some []
 |.tup t::l=>(intsOf t).bind λns=>if ns.isEmpty then none else (rM l).map λr=>ns::r
 |_=>none
def pY (ns:List (List Int)):List (List Int):=ns.mergeSort λa b=>!HT.lexLt b a
theorem CD (ns:List (List Int)):(pY ns).Perm ns:=wN ns _
theorem lQ (ns:List (List Int)):(pY ns).Pairwise (λa b=>HT.lexLt b a=false):=by
 have h:=zJ (le:=λa b:List Int=>!HT.lexLt b a) (λa b c h1 h2=>by
  simp only[eA]at *;cases e:HT.lexLt c a with
  |false=>rfl
  |true=>rcases HT.j5 c b a e with q|q<;>simp_all) (λa b=>by
  cases e:HT.lexLt b a with
  |false=>simp
  | true =>
    cases f:HT.lexLt a b with
    |false=>simp
    |true=>have:=HT.ji a b a f e;rw[HT.im]at this;cases this) ns
 exact h.imp λq=>by simpa using q
theorem CF {a b:List (List Int)}(p:a.Perm b) (ha:a.Pairwise (λa b=>HT.lexLt b a=false)) (hb:b.Pairwise (λa b=>HT.lexLt b a=false)):a=b :=
 p.eq_of_pairwise (λx y _ _ h1 h2=>HT.gQ x y h2 h1) ha hb
noncomputable def yn (ns:List (List Int)):List D:=ns.map λt=>D.tup (t.map D.int)
def pZ:List D->Option Res:=λxs=>match qI xs with
 |some r=>some r
 | none=>match xs with
   |[.lst l]=>(rM l).bind λns=>if ns.length<64 then some (.lst (yn (pY ns))) else none
   |_=>none
noncomputable def p8 (F:Hp) (a:Addr):List Int:=match F a with
 |some (.tup vs)=>vs.filterMap λv=>match v with|.int i=>some i|_=>none
 |_=>[]
theorem LO (h:F a=some (.tup (ns.map V.int))):p8 F a=ns:=by
 simp only[p8,h,u7];exact(Qb (f:=id)▸vb ns:List.filterMap (some∘id) ns=ns)
theorem BH {F:Hp}:∀ {l:List D}{vs:List V}{ns:List (List Int)},aj F l vs->rM l=some ns->∃ rs:List Addr,vs=rs.map V.ref /\ ns=rs.map (p8 F) /\ ∀ r∈rs,F r=some (.tup ((p8 F r).map V.int)) /\ p8 F r≠[]
 | [],vs,ns,h,e=>by
   cases e;exact⟨[],h,rfl,λr m=>by cases m⟩
 | .tup t::l,vs,ns,h,e=>by
   obtain⟨v,us,rfl,⟨a,ws,rfl,f1,f2⟩,h2⟩:=h;simp only[rM]at e;cases e1:intsOf t with
   |none=>rw[e1]at e;cases e
   | some ms =>
     rw[e1]at e;simp only[a9]at e;split at e
     ·cases e
     rename_i ne;cases e2:rM l with
     |none=>rw[e2]at e;cases e
     | some ks =>
       rw[e2]at e;cases e;obtain⟨rs,q1,q2,q3⟩:=BH h2 e2;have fa:=f2.ints e1;subst fa;have ka:=LO f1;refine⟨a::rs,by rw[q1];rfl,by rw[q2,aN,ka],λr m=>?_⟩;rcases aY.mp m with rfl|m
       ·rw[ka];exact⟨f1,λz=>ne (by rw[z];rfl)⟩
       ·exact q3 r m
 |.ae::_,_,_,_,e=>by cases e
 |.bl _::_,_,_,_,e=>by cases e
 |.int _::_,_,_,_,e=>by cases e
 |.str _::_,_,_,_,e=>by cases e
 |.lst _::_,_,_,_,e=>by cases e
 |.aH _::_,_,_,_,e=>by cases e
theorem BI {F:Hp}:∀ (rs:List Addr),(∀ r∈rs,F r=some (.tup ((p8 F r).map V.int)))->aj F (yn (rs.map (p8 F))) (rs.map V.ref)
 |[],_=>rfl
 |r::rs,h=>.cons ⟨r,_,rfl,h r (a8 ..),lN _⟩ (BI rs λq m=>h q (aV _ m))
theorem BJ:cK X (.builtin "sorted") (λvs H Q=>uh X.K vs H Q \/ vZ X.K vs H Q):=by
 intro pins s σ H xs us Q I rv h;rcases h with h|h
 ·exact Fl pins s σ H xs us Q I rv h
 ·exact CC pins s σ H xs us Q I rv h
theorem X1:eE (λvs H Q=>uh K vs H Q \/ vZ K vs H Q) pZ:=by
 intro F H xs vs Q s sub rx e k;unfold pZ at e;cases er:qI xs with
 | some r =>
   rw[er]at e;cases e;exact .inl (Xr F H xs vs Q s sub rx er k)
 | none =>
   rw[er]at e;dsimp only at e;clear er;split at e
   ·rename_i l;obtain⟨v,t,rfl,⟨a,us,rfl,h1,h2⟩,rt⟩:=rx;cases (show t=[] from rt);cases e1:rM l with
    |none=>rw[e1]at e;cases e
    | some ns =>
      rw[e1]at e;simp only[a9]at e;split at e
      ·rename_i cj;cases e;obtain⟨rs,q1,q2,q3⟩:=BH h2 e1;subst q1;refine .inr ⟨a,rs,p8 F,rfl,.of h1,λr m=>⟨sub _ _ (q3 r m).1,(q3 r m).2⟩,by rw[q2,aL]at cj;exact cj,λl eU hl pm ord=>k _ _ ⟨l,_,rfl,hl,rfl,?_⟩⟩;have:eU.map (p8 F)=pY ns:=CF ((pm.map (p8 F)).trans (by rw[<-q2];exact(CD ns).symm)) (qk.mpr ord) (lQ ns);rw[<-this];exact BI eU λr m=>(q3 r (pm.mem_iff.mp m)).1
      ·cases e
   ·cases e
end L2.DL
namespace HT
inductive ak where
 |i (n:Int)|s (x:Str)|t (ns:List Int)
 deriving DecidableEq
noncomputable def ak.code:ak->List Int
 |.i n=>[n]
 |.s x=>x.cps.toList.map (λ(c:Nat)=>(c:Int)+1)++[0]
 |.t ns=>ns.flatMap (λn=>[1,n])++[0]
noncomputable def ak.kY:ak->ak->Bool
 |.i _,.i _=>true
 |.s _,.s _=>true
 |.t _,.t _=>true
 |_,_=>false
def aB (l:List ak):List Int:=l.flatMap (λd=>1::d.code)++[0]
def cR (l m:List ak):Bool:=(l.zip m).all λp=>p.1.kY p.2
theorem BK (r q:List Int):∀ (a b:List Nat),a≠b->lexLt ((a.map λ(c:Nat)=>(c:Int)+1)++[0]++r) ((b.map λ(c:Nat)=>(c:Int)+1)++[0]++q)=decide (a<b)
 |[],[],h=>absurd rfl h
 | [],y::b,_=>by
   show lexLt (0::_) (((y:Int)+1)::_)=_;rw[fK,if_neg (by omega),decide_eq_true (by omega),decide_eq_true (by simp)]
 | x::a,[],_=>by
   show lexLt (((x:Int)+1)::_) (0::_)=_;rw[fK,if_neg (by omega),decide_eq_false (by omega),decide_eq_false (by simp)]
 | x::a,y::b,h=>by
   show lexLt (((x:Int)+1)::_) (((y:Int)+1)::_)=_;rw[fK];by_cases e:x=y
   ·subst e;rw[if_pos rfl];have ih:=BK r q a b (λz=>h (by rw[z]));refine ih.trans ?_;by_cases c:a<b
    ·rw[decide_eq_true c,decide_eq_true (by simpa using c)]
    ·rw[decide_eq_false c,decide_eq_false (by simpa using c)]
   ·rw[if_neg (by omega)];by_cases c:x<y
    ·rw[decide_eq_true (by omega),decide_eq_true (List.cons_lt_cons_iff.mpr (.inl c))]
    ·rw[decide_eq_false (by omega),decide_eq_false ?_];intro z;rcases List.cons_lt_cons_iff.mp z with z|z
     ·omega
     ·omega
theorem BL (r q:List Int):∀ (a b:List Int),a≠b->lexLt (a.flatMap (λn=>[1,n])++[0]++r) (b.flatMap (λn=>[1,n])++[0]++q)=lexLt a b
 |[],[],h=>absurd rfl h
 | [],y::b,_=>by
   show lexLt (0::_) (1::_)=_;rw[fK,if_neg (by omega)];rfl
 | x::a,[],_=>by
   show lexLt (1::_) (0::_)=_;rw[fK,if_neg (by omega)];rfl
 | x::a,y::b,h=>by
   show lexLt (1::x::(a.flatMap (λn=>[1,n])++[0]++r)) (1::y::(b.flatMap (λn=>[1,n])++[0]++q))=_;rw[fK,if_pos rfl,fK,fK];by_cases e:x=y
   ·subst e;rw[if_pos rfl,if_pos rfl];exact BL r q a b λz=>h (by rw[z])
   ·rw[if_neg e,if_neg e]
def ak.lt:ak->ak->Bool
 |.i n,.i m=>decide (n<m)
 |.s x,.s y=>decide (x.cps.toList<y.cps.toList)
 |.t n,.t m=>lexLt n m
 |_,_=>false
theorem ak.app (r q:List Int):∀ {a b:ak},a.kY b=true->a≠b->lexLt (a.code++r) (b.code++q)=a.lt b
 | .i n,.i m,_,h=>by
   show lexLt (n::r) (m::q)=_;rw[fK,if_neg (λz=>h (by rw[z]))];rfl
 |.s x,.s y,_,h=>BK r q _ _ λz=>h (by
  obtain⟨⟨a⟩⟩:=x;obtain⟨⟨b⟩⟩:=y;have z':a=b:=z;rw[z'])
 |.t n,.t m,_,h=>BL r q n m λz=>h (by rw[z])
theorem GS (a r q:List Int):lexLt (a++r) (a++q)=lexLt r q:=by
 induction a with
 |nil=>rfl
 |cons x a ih=>rw[zH,zH,fK,if_pos rfl,ih]
def a5:List ak->List ak->Bool
 |[],m=>!m.isEmpty
 |_::_,[]=>false
 |a::l,b::m=>if a=b then a5 l m else a.lt b
theorem A5:∀ (l m:List ak),cR l m=true->lexLt (aB l) (aB m)=a5 l m
 |[],[],_=>rfl
 | [],b::m,_=>by
   show lexLt (0::[]) (1::_)=_;rw[fK,if_neg (by omega)];rfl
 | a::l,[],_=>by
   show lexLt (1::_) (0::[])=_;rw[fK,if_neg (by omega)];rfl
 | a::l,b::m,h=>by
   have h':(a.kY b&&cR l m)=true:=h;rw[aw]at h';have e1:aB (a::l)=1::(a.code++aB l):=by simp[aB]
   have e2:aB (b::m)=1::(b.code++aB m):=by simp[aB]
   rw[e1,e2,fK,if_pos rfl];unfold a5;by_cases c:a=b
   ·rw[if_pos c,c,GS];exact A5 l m h'.2
   ·rw[if_neg c];exact ak.app _ _ h'.1 c
noncomputable def eF (h:Heap) (v:Value):ak->Prop
 |.i n=>∃ t,v=.int n t
 |.s x=>∃ t,v=.str x t
 |.t ns=>∃ a vs,v=.ref a /\ IsTup h a vs.toArray /\ IntsAre vs ns
inductive cS (h:Heap):List Value->List ak->Prop
 |nil:cS h [] []
 |cons {v:Value}{d:ak}{vs:List Value}{l:List ak}:eF h v d->cS h vs l->cS h (v::vs) (d::l)
def qL (L:List (List ak)) (h:Heap) (v:Value) (ns:List Int):Prop:=∃ a vs n l,v=.ref a /\ IsTup h a vs.toArray /\ cS h vs (.i n::l) /\ .i n::l∈L /\ ns=aB (.i n::l)
theorem eF.inj {h:Heap}:∀ {a b:ak},eF h v a->eF h v b->a=b
 |.i n,.i m,⟨t,e⟩,⟨u,f⟩=>by rw[e]at f;cases f;rfl
 |.s n,.s m,⟨t,e⟩,⟨u,f⟩=>by rw[e]at f;cases f;rfl
 | .t n,.t m,⟨a,vs,e,⟨o,e1,_,k,e2⟩,i1⟩,⟨a',qE,f,⟨o',f1,_,k',f2⟩,i2⟩=>by
   rw[e]at f;cases f;rw[e1]at f1;cases f1;rw[e2]at f2;injection f2 with g _;have:vs=qE:=by simpa using g
   subst this;rw[jS i1 i2]
 |.i n,.s m,⟨t,e⟩,⟨u,f⟩=>by rw[e]at f;cases f
 |.s n,.i m,⟨t,e⟩,⟨u,f⟩=>by rw[e]at f;cases f
 |.i n,.t m,⟨t,e⟩,⟨_,_,f,_⟩=>by rw[e]at f;cases f
 |.s n,.t m,⟨t,e⟩,⟨_,_,f,_⟩=>by rw[e]at f;cases f
 |.t n,.i m,⟨_,_,e,_⟩,⟨u,f⟩=>by rw[e]at f;cases f
 |.t n,.s m,⟨_,_,e,_⟩,⟨u,f⟩=>by rw[e]at f;cases f
theorem cS.inj {h:Heap}{vs:List Value}{l m:List ak}(p:cS h vs l) (q:cS h vs m):l=m:=by
 induction p generalizing m with
 |nil=>cases q;rfl
 |cons a _ ih=>cases q with|cons b q=>rw[a.inj b,ih q]
theorem eF.keep {h:Heap}{d:ak}(p:eF h v d) (k:∀ a vs,IsTup h a vs->IsTup h' a vs):eF h' v d:=by
 cases d with
 |i n=>exact p
 |s x=>exact p
 |t ns=>obtain⟨a,vs,e,t,i⟩:=p;exact⟨a,vs,e,k _ _ t,i⟩
theorem cS.keep {h h':Heap}{vs:List Value}{l:List ak}(p:cS h vs l) (k:∀ a vs,IsTup h a vs->IsTup h' a vs):cS h' vs l:=by
 induction p with
 |nil=>exact .nil
 |cons a _ ih=>exact .cons (a.keep k) ih
theorem BM {h:Heap}(o:Obj):∀ a vs,IsTup h a vs->IsTup (h.push o) a vs:=λa vs ⟨u,e1,e2⟩=>⟨u,aG _ e1,e2⟩
theorem Dl {h:Heap}{l:Addr}{xs:Array Value}(hl:h.get? l=some (seqObj "list" xs n)) (f:Obj->Obj):∀ a vs,IsTup h a vs->IsTup (h.update l f) a vs:=λa vs ⟨u,e1,e2,e3⟩=>by
 refine⟨u,?_,e2,e3⟩;by_cases q:l=a
 ·subst q;rw[hl]at e1;cases e1;injection (show Value.type "list"=Value.type "tuple" from e2) with e4;exact absurd e4 (by decide)
 ·rw[K4 _ _ _ _ (Ne.symm q)];exact e1
theorem HC (L:List (List ak)):KP (qL L) where
 inj:=by
  rintro h v ns ms ⟨a,vs,n,l,rfl,⟨o,e1,_,k,e2⟩,i1,_,rfl⟩ ⟨a',qE,n',l',e,⟨o',f1,_,k',f2⟩,i2,_,rfl⟩;cases e;rw[e1]at f1;cases f1;rw[e2]at f2;injection f2 with g _;have:vs=qE:=by simpa using g
  subst this;rw[i1.inj i2]
 push:=λ⟨a,vs,n,l,e,t,i,m,c⟩ o=>⟨a,vs,n,l,e,BM o _ _ t,i.keep (BM o),m,c⟩
 upd:=λ⟨a,vs,n,l,e,t,i,m,c⟩ _ _ _ hl f=>⟨a,vs,n,l,e,Dl hl f _ _ t,i.keep (Dl hl f),m,c⟩
theorem ls:∀ {vs:List Value}{ns:List Int},IntsAre vs ns->ItemsAre (intKind prog w) ns vs
 |_,_,.nil=>.nil
 |_,_,.cons n t h=>.cons (intKind_is _ _ _ _) (ls h)
theorem Ph {a b:ak}(hu:A.units<cLine) (p:eF s.heap v a) (q:eF s.heap u b) (hl:a.kY b=true) {Q:Bool->Shared->Prop}(h:Q (decide (a=b)) s):wpAny (model prog w) A (eqBool v u) Q E s:=by
 cases a with
 | i n =>
   cases b with
   | i m =>
     obtain⟨t,rfl⟩:=p;obtain⟨t',rfl⟩:=q;refine yZ ?_;rw[show (n==m)=decide (ak.i n=ak.i m) by by_cases e:n=m<;>simp[e]];exact h
   |_=>cases hl
 | s x =>
   cases b with
   | s y =>
     obtain⟨t,rfl⟩:=p;obtain⟨t',rfl⟩:=q;refine Eb x t y t' prog w E Q ?_;rw[show (x==y)=decide (ak.s x=ak.s y) by by_cases e:x=y<;>simp[e]];exact h
   |_=>cases hl
 | t ns =>
   cases b with
   | t ms =>
     obtain⟨a,vs,rfl,t1,i1⟩:=p;obtain⟨a',us,rfl,t2,i2⟩:=q;obtain⟨o1,x1,x2,k1,x3⟩:=t1;obtain⟨o2,y1,y2,k2,y3⟩:=t2;refine wpAny_eqBool_tuple (knd:=intKind prog w) (x:=ns) (y:=ms) hu ⟨o1,_,k1,x1,x2,x3,ls i1⟩ ⟨o2,_,k2,y1,y2,y3,ls i2⟩ ?_;rw[show decide (ns=ms)=decide (ak.t ns=ak.t ms) by by_cases e:ns=ms<;>simp[e]];exact h
   |_=>cases hl
theorem Pi {a b:ak}(hu:A.units<cLine) (k:Bool) (hk:k=true->∃ n,a=.i n) (p:eF s.heap v a) (q:eF s.heap u b) (hl:a.kY b=true) {Q:Bool->Shared->Prop}(h:Q (a.lt b) s):wpAny (model prog w) A (oneLt' k v u) Q E s:=by
 have gen:∀ {v u:Value}{c:Bool},k=false->(∀ {R:Value->Shared->Prop},R (.bool c) s->wpAny (model prog w) A (compareOp .Lt v u) R E s)->Q c s->wpAny (model prog w) A (oneLt' k v u) Q E s:=λ{v u c} z f h=>by
  rw[oneLt'_eq,z,if_neg (by simp)];exact aa (show wpAny (model prog w) A (richCompare .Lt v u) _ E s from f (qe h))
 cases a with
 | i n =>
   cases b with
   |i m=>obtain⟨t,rfl⟩:=p;obtain⟨t',rfl⟩:=q;exact oJ k h
   |_=>cases hl
 | s x =>
   have z:k=false:=by cases k with|true=>obtain⟨n,e⟩:=hk rfl;cases e|false=>rfl
   cases b with
   |s y=>obtain⟨t,rfl⟩:=p;obtain⟨t',rfl⟩:=q;exact gen z (λr=>lt_str r) h
   |_=>cases hl
 | t ns =>
   have z:k=false:=by cases k with|true=>obtain⟨n,e⟩:=hk rfl;cases e|false=>rfl
   cases b with
   | t ms =>
     obtain⟨a,vs,rfl,t1,i1⟩:=p;obtain⟨a',us,rfl,t2,i2⟩:=q;exact gen z (λr=>oz t1 t2 (by simpa using i1) (by simpa using i2) hu r) h
   |_=>cases hl
theorem cS.length {h:Heap}{vs:List Value}{l:List ak}(p:cS h vs l):vs.length=l.length:=by
 induction p with
 |nil=>rfl
 |cons _ _ ih=>rw[aX,aX,ih]
theorem LP (hu:A.units<cLine) {l m:List ak}(p:cS s.heap vs l) (q:cS s.heap us m) (hl:cR l m=true) (i:Nat) (h0:i=0->∀ d r,l=d::r->∃ n,d=.i n) {R:(Option Bool×PUnit)->Shared->Prop}
 (k:∀ r,(r=(some (a5 l m),PUnit.unit) \/ (r=(none,PUnit.unit) /\ a5 l m=decide (vs.length<us.length)))->R r s) :
 wpAny (model prog w) A (forIn ((vs.zip us).zipIdx i) ((none,PUnit.unit):Option Bool×PUnit) λ(z:(Value×Value)×Nat) _=>(do
  let z1 <-eqBool z.1.1 z.1.2
  if (!z1)=true then do
   let r <-oneLt' (true&&z.2==0) z.1.1 z.1.2
   pure (ForInStep.done (some r,PUnit.unit))
  else pure (ForInStep.yield (none,PUnit.unit)))) R E s:=by
 induction p generalizing us m i with
 | nil =>
   rw[uZ,tF,qj];refine ah (k _ (.inr ⟨rfl,?_⟩));cases q with
   |nil=>rfl
   |cons _ q=>unfold a5;simp
 | @cons v d vs l pa p ih =>
   cases q with
   | nil =>
     rw[wI,tF,qj];exact ah (k _ (.inr ⟨rfl,by unfold a5;simp⟩))
   | @cons u e us m qa q =>
     have eD:(d.kY e&&cR l m)=true:=hl;rw[aw]at eD;rw[qi,wO,rX];refine aa (aa (Ph hu pa qa eD.1 ?_));by_cases c:d=e
     ·subst c;rw[if_neg (by simp)];refine ah (ih q eD.2 (i+1) (λz=>by omega) λr hr=>k r ?_);have:a5 (d::l) (d::m)=a5 l m:=by conv=>lhs;unfold a5;rw[if_pos rfl]
      rw[this];rcases hr with hr|⟨hr,Hy⟩
      ·exact .inl hr
      ·exact .inr ⟨hr,by rw[Hy];simp⟩
     ·rw[if_pos (by simp[c])];refine aa (Pi hu _ (λz=>?_) pa qa eD.1 (ah (ah (k _ (.inl ?_)))))
      ·have:i=0:=by simpa using z
       exact h0 this d l rfl
      ·have:a5 (d::l) (e::m)=d.lt e:=by conv=>lhs;unfold a5;rw[if_neg c]
       rw[this]
theorem Fy {L:List (List ak)}(C:∀ l∈L,∀ m∈L,cR l m=true) {U:Nat}(hU:U<cLine) (H:∀ v∈vs,∃ ns,qL L s.heap v ns) (ne:vs≠[]):yk (qL L) prog w U s vs:=λA h' hu up=>by
 have H':∀ v∈vs,∃ ns,qL L h' v ns:=λv m=>let ⟨ns,p⟩:=H v m;⟨ns,up v ns p⟩
 refine⟨λ{Q E} h=>?_,λE=>?_⟩
 ·have X2:∀ (us:List Value),(∀ v∈us,∃ ns,qL L h' v ns)->∀ {Q:List (Option Value)->Shared->Prop}{E:Value->Shared->Prop},(∀ (ws:List Value) (is:List Int),ws.length=us.length->IntsAre ws is->Q (ws.map some) { s with heap:=h' })->wpAny (model prog w) A (us.mapM firstOfTuple') Q E { s with heap:=h' }:=by
   intro us;induction us with
   |nil=>intro _ Q E k;rw[Qd];exact ah (k [] [] rfl .nil)
   | cons u us ih =>
     intro G Q E k;obtain⟨ns,a,xs,n,l,rfl,⟨o,e1,e3,c,e2⟩,it,_,_⟩:=G u (a8 ..);rw[Qe];refine aa (show wpAny (model prog w) A (do
      if (<-typeOf (.ref a)) != .type "tuple" then return none
      return (<-Builtin.List.listItems (.ref a))[0]?) _ E _ from ?_)
     refine aa (sY (T:="tuple") ⟨o,e1,e3⟩ ?_);rw[if_neg (by decide)];refine aa (ql e1 e2 (ah ?_));cases it with
     | cons hv _ =>
       obtain⟨t,rfl⟩:=hv;exact aa (ih (λv m=>G v (aV _ m)) λws is e q=>ah (k (.int n t::ws) (n::is) (by simp[e]) (.cons n t q)))
  rw[Qy,wQ];refine aa (show wpAny (model prog w) A (List.toArray <$> vs.mapM firstOfTuple') _ E _ from ?_);rw[<-bind_pure_comp];refine aa (X2 vs H' λus is e k=>ah ?_);rw[if_pos (by simp)];refine aa (pk ?_);have e1:((us.map some).toArray.filterMap id)=us.toArray:=by simp[u7]
  rw[e1,Qz,wQ,QA k];cases us with
  |nil=>exact absurd (wR e.symm) ne
  | cons u us =>
    simp only[map_pure,pure_bind];rw[show ((u::us).map λ_=>Value.type "int").toArray[0]?=some (Value.type "int") by simp];dsimp only;rw[if_pos (by simp)];exact aa (ah (ah h))
 ·intro x y mx my Q E' q;rw[zU]at mx my;obtain⟨ns,hx⟩:=H' _ (vd mx).2;obtain⟨ms,hy⟩:=H' _ (vd my).2;have k1:=m7 (HC L) hx;have k2:=m7 (HC L) hy
  change Q (lexLt (((qK (qL L) h').keyOf x.1).getD []) (((qK (qL L) h').keyOf y.1).getD [])) _ at q
  rw[k1,k2]at q;obtain⟨a,aaT,n1,l1,e1,⟨o1,x1,x2,c1,x3⟩,i1,m1,rfl⟩:=hx;obtain⟨b,vL,n2,l2,e2,⟨o2,y1,y2,c2,y3⟩,i2,m2,rfl⟩:=hy;have lk:=C _ m1 _ m2;rw[A5 _ _ lk]at q;rw[e1,e2,lO];refine aa (ql x1 x3 (aa (ql y1 y3 ?_)));refine aa (LP (s:={ s with heap:=h' }) (rW hu hU) i1 i2 lk 0 (λ_ d r z=>by cases z;exact⟨n1,rfl⟩) λr hr=>?_);rcases hr with rfl|⟨rfl,e⟩
  ·exact ah q
  ·refine ah ?_;rw[aR,aR,<-e];exact q
end HT
namespace L2.DL
open HT (ak aB cR lexLt)
def HD:D->Option ak
 |.int i=>some (.i i)
 |.str x=>some (.s x)
 |.tup l=>(intsOf l).map .t
 |_=>none
noncomputable def sJ:ak->D
 |.i n=>.int n
 |.s x=>.str x
 |.t ns=>.tup (ns.map D.int)
def rN:List D->Option (List ak)
 |[]=>some []
 |d::l=>(HD d).bind λa=>(rN l).map λr=>a::r
def rowOf:D->Option (List ak)
 |.tup (.int i::l)=>(rN l).map λr=>.i i::r
 |_=>none
def rowsOf:List D->Option (List (List ak))
 |[]=>some []
 |d::l=>(rowOf d).bind λa=>(rowsOf l).map λr=>a::r
def ph (l:List ak):D:=.tup (l.map sJ)
theorem AF:∀ {l:List D}{ns:List Int},intsOf l=some ns->l=ns.map D.int
 |[],_,e=>by cases e;rfl
 | .int i::l,ns,e=>by
   unfold intsOf at e;cases q:intsOf l with
   |none=>rw[q]at e;cases e
   |some ms=>rw[q]at e;cases e;rw[AF q];rfl
 |.ae::_,_,e=>by cases e
 |.bl _::_,_,e=>by cases e
 |.str _::_,_,e=>by cases e
 |.tup _::_,_,e=>by cases e
 |.lst _::_,_,e=>by cases e
 |.aH _::_,_,e=>by cases e
theorem LQ {d:D}{a:ak}(e:HD d=some a):d=sJ a:=by
 cases d with
 |int i=>cases e;rfl
 |str x=>cases e;rfl
 | tup l =>
   have e:(intsOf l).map ak.t=some a:=e;cases q:intsOf l with
   |none=>rw[q]at e;cases e
   |some ms=>rw[q]at e;cases e;rw[AF q];rfl
 |_=>cases e
theorem lR:∀ {l:List D}{r:List ak},rN l=some r->l=r.map sJ
 |[],_,e=>by cases e;rfl
 | d::l,r,e=>by
   unfold rN at e;cases q:HD d with
   |none=>rw[q]at e;cases e
   | some a =>
     cases q2:rN l with
     |none=>rw[q,q2]at e;cases e
     |some t=>rw[q,q2]at e;cases e;rw[LQ q,lR q2];rfl
theorem GT {d:D}{r:List ak}(e:rowOf d=some r):d=ph r /\ ∃ n l,r=.i n::l:=by
 unfold rowOf at e;split at e
 ·rename_i i l;cases q:rN l with
  |none=>rw[q]at e;cases e
  |some t=>rw[q]at e;cases e;rw[lR q];exact⟨rfl,i,t,rfl⟩
 ·cases e
theorem mn:∀ {l:List D}{rs:List (List ak)},rowsOf l=some rs->l=rs.map ph /\ ∀ r∈rs,∃ n l,r=.i n::l
 |[],_,e=>by cases e;exact⟨rfl,λr m=>nomatch m⟩
 | d::l,rs,e=>by
   unfold rowsOf at e;cases q:rowOf d with
   |none=>rw[q]at e;cases e
   | some a =>
     cases q2:rowsOf l with
     |none=>rw[q,q2]at e;cases e
     | some t =>
       rw[q,q2]at e;cases e;obtain⟨h1,h2⟩:=GT q;obtain⟨h3,h4⟩:=mn q2;refine⟨by rw[h1,h3];rfl,λr m=>?_⟩;rcases aY.mp m with rfl|m
       ·exact h2
       ·exact h4 r m
def rO (rs:List (List ak)):List (List ak):=rs.mergeSort λa b=>!lexLt (aB b) (aB a)
theorem mO (rs:List (List ak)):(rO rs).Perm rs:=wN rs _
theorem An (rs:List (List ak)):(rO rs).Pairwise (λa b=>lexLt (aB b) (aB a)=false):=by
 have h:=zJ (le:=λa b:List ak=>!lexLt (aB b) (aB a)) (λa b c h1 h2=>by
  rw[eA]at *;cases e:lexLt (aB c) (aB a) with
  |false=>rfl
  | true =>
    rcases HT.j5 _ (aB b) _ e with z|z
    ·rw[z]at h2;cases h2
    ·rw[z]at h1;cases h1) (λa b=>by
  rw[uX,eA,eA];cases e:lexLt (aB b) (aB a) with
  |false=>exact .inl rfl
  | true =>
    cases f:lexLt (aB a) (aB b) with
    |false=>exact .inr rfl
    |true=>have:=HT.ji _ _ _ e f;rw[HT.im]at this;cases this) rs
 exact h.imp λ{a b} z=>by simpa using z
theorem Fz {a b:ak}(h:a.kY b=true):b.kY a=true:=by cases a<;>cases b<;>first|rfl|cases h
theorem oN:∀ {a b:List Nat},¬ a<b->¬ b<a->a=b
 |[],[],_,_=>rfl
 |[],y::b,h,_=>absurd (by simp) h
 |x::a,[],_,h=>absurd (by simp) h
 | x::a,y::b,h,g=>by
   rw[List.cons_lt_cons_iff]at h g;have e:x=y:=by
    rcases Nat.lt_trichotomy x y with z|z|z
    ·exact absurd (.inl z) h
    ·exact z
    ·exact absurd (.inl z) g
   subst e;rw[oN (λz=>h (.inr ⟨rfl,z⟩)) (λz=>g (.inr ⟨rfl,z⟩))]
theorem N4:∀ {a b:ak},a.kY b=true->a.lt b=false->b.lt a=false->a=b
 | .i n,.i m,_,h,g=>by
   have h':=of_decide_eq_false h;have g':=of_decide_eq_false g;rw[show n=m by omega]
 | .s x,.s y,_,h,g=>by
   have:=oN (of_decide_eq_false h) (of_decide_eq_false g);obtain⟨⟨a⟩⟩:=x;obtain⟨⟨b⟩⟩:=y;have z':a=b:=this;rw[z']
 |.t n,.t m,_,h,g=>by rw[HT.gQ n m h g]
theorem BN:∀ {l m:List ak},cR l m=true->aB l=aB m->l=m
 |[],[],_,_=>rfl
 | [],b::m,_,e=>by
   have e':([0]:List Int)=1::(b.code++aB m):=by rw[show (1::(b.code++aB m))=aB (b::m) by simp[aB]];exact e
   simp at e'
 | a::l,[],_,e=>by
   have e':1::(a.code++aB l)=([0]:List Int):=by rw[show (1::(a.code++aB l))=aB (a::l) by simp[aB]];exact e
   simp at e'
 | a::l,b::m,h,e=>by
   have h':(a.kY b&&cR l m)=true:=h;rw[aw]at h';have e':a.code++aB l=b.code++aB m:=by
    have:1::(a.code++aB l)=1::(b.code++aB m):=by rw[show (1::(a.code++aB l))=aB (a::l) by simp[aB],show (1::(b.code++aB m))=aB (b::m) by simp[aB]];exact e
    exact(List.cons.inj this).2
   have ab:a=b:=by
    by_cases c:a=b
    ·exact c
    ·have x1:=HT.ak.app (aB l) (aB m) h'.1 c;have x2:=HT.ak.app (aB m) (aB l) (Fz h'.1) (λz=>c z.symm);rw[e',HT.im]at x1;rw[<-e',HT.im]at x2;exact N4 h'.1 x1.symm x2.symm
   subst ab;rw[BN h'.2 (List.append_cancel_left e')]
theorem GU {β:Type}{f:α->β}{l n:List β}(h:l.Perm n):∀ {m:List α},n=m.map f->∃ m':List α,l=m'.map f /\ m'.Perm m:=by
 induction h with
 |nil=>intro m e;cases m with|nil=>exact⟨[],rfl,.nil⟩|cons _ _=>cases e
 | cons x _ ih =>
   intro m e;cases m with
   |nil=>cases e
   | cons a m =>
     rw[aN]at e;obtain⟨e1,e2⟩:=List.cons.inj e;obtain⟨m',q1,q2⟩:=ih e2;exact⟨a::m',by rw[aN,<-q1,e1],q2.cons a⟩
 | swap x y l =>
   intro m e;match m,e with
   | a::b::m,e =>
     rw[aN,aN]at e;obtain⟨e1,e2⟩:=List.cons.inj e;obtain⟨e2,e3⟩:=List.cons.inj e2;exact⟨b::a::m,by rw[aN,aN,<-e1,<-e2,<-e3],.swap ..⟩
 | trans _ _ X3 X4 =>
   intro m e;obtain⟨m2,q1,q2⟩:=X4 e;obtain⟨m1,q3,q4⟩:=X3 q1;exact⟨m1,q3,q4.trans q2⟩
def uA (rs:List (List ak)):Bool:=rs.all λa=>rs.all λb=>cR a b
theorem mP {rs a:List (List ak)}(hl:uA rs=true) (p:a.Perm rs) (ha:a.Pairwise (λa b=>lexLt (aB b) (aB a)=false)):a=rO rs:=by
 have lk:∀ x∈rs,∀ y∈rs,cR x y=true:=λx mx y my=>bX.mp (bX.mp hl x mx) y my;refine(p.trans (mO rs).symm).eq_of_pairwise (λx y mx my h1 h2=>BN (lk x (p.mem_iff.mp mx) y ((mO rs).mem_iff.mp my)) (HT.gQ _ _ h2 h1)) ha (An rs)
theorem Pj (I:Inv X pins σ H s) (sub:Sub F H) {a:ak}{v:V}(h:Den F (sJ a) v) (r:RelV v u):HT.eF s.heap u a:=by
 cases a with
 |i n=>cases (show v=.int n from h);exact r
 |s x=>cases (show v=.str x from h);exact r
 | t ns =>
   obtain⟨b,vs,rfl,h1,h2⟩:=h;cases r;obtain⟨its,r',pl,_⟩:=I.tuple (.of (sub _ _ h1));have e:=h2.ints (ns:=ns) (by clear h2 h1 pl r';induction ns with|nil=>rfl|cons n ns ih=>simp[intsOf,ih]);subst e;exact⟨b,its,rfl,pl,ik r'⟩
theorem A6 (I:Inv X pins σ H s) (sub:Sub F H):∀ {l:List ak}{vs:List V}{us:List Value},aj F (l.map sJ) vs->Vals vs us->HT.cS s.heap us l
 |[],_,_,h,r=>by cases (show _=[] from h);cases r;exact .nil
 | a::l,_,_,h,r=>by
   obtain⟨v,t,rfl,h1,h2⟩:=h;cases r with
   |cons r1 r2=>exact .cons (Pj I sub h1 r1) (A6 I sub h2 r2)
theorem Dm:∀ {rs:List (List ak)}{vs:List V},aj F (rs.map ph) vs->∃ ps:List (Addr×List ak),vs=ps.map (λp=>V.ref p.1) /\ rs=ps.map (·.2) /\ ∀ p∈ps,Den F (ph p.2) (.ref p.1)
 |[],_,h=>⟨[],h,rfl,λp m=>nomatch m⟩
 | r::rs,_,h=>by
   obtain⟨v,t,rfl,h1,h2⟩:=h;obtain⟨ps,e1,e2,e3⟩:=Dm h2;obtain⟨a,ws,rfl,h3,h4⟩:=id h1;refine⟨(a,r)::ps,by rw[e1];rfl,by rw[e2];rfl,λp m=>?_⟩;rcases aY.mp m with rfl|m
   ·exact h1
   ·exact e3 p m
theorem BO:∀ {ps:List (Addr×List ak)},(∀ p∈ps,Den F (ph p.2) (.ref p.1))->aj F ((ps.map (·.2)).map ph) (ps.map λp=>V.ref p.1)
 |[],_=>rfl
 |p::ps,h=>.cons (h p (a8 ..)) (BO λq m=>h q (aV _ m))
def HE (K:PySem.W.Frag) (vs:List V) (H:Hp) (Q:VK):Prop:=∃ (F:Hp) (p:Addr) (xs:List V) (rs:List (List ak)),vs=[.ref p] /\ Sub F H /\ (aQ K H p xs \/ bc K H p xs) /\ aj F (rs.map ph) xs /\ (∀ r∈rs,∃ n l,r=.i n::l) /\ rs.length<64 /\ uA rs=true /\
 ∀ (q:Addr) (ys:List V),H q=none->aj F ((rO rs).map ph) ys->Q (.ref q) (upd H q (.lst ys))
theorem CG (hu:X.A.units+100<cLine):cK X (.builtin "sorted") (HE X.K):=by
 intro pins s σ H xs us Q I rv h;obtain⟨F,p,vs,rs,rfl,sub,hp,hd,hf,cj,Te,q⟩:=h;obtain⟨u,rfl,ru⟩:=Vals.one rv;cases ru;have gt:∃ its,Vals vs its /\ ∀ (A:Around) (E:Value->Shared->Prop) {Q:List Value->Shared->Prop},vs.length<=sizeLine->Q its { s with heap:=(s.heap.push (seqObj "list" #[] 0)).update s.heap.objs.size (Obj.mapSeq (·++its.toArray)) }->wpAny (model X.prog X.w) A (collect (.ref p)) Q E s:=by
  rcases hp with hp|hp
  ·obtain⟨its,r1,p1,z1⟩:=I.list hp;exact⟨its,r1,λA E Q z h=>QB (hsz:=by have:=r1.length;simp;omega) p1.isList h⟩
  ·obtain⟨its,r1,p1,z1⟩:=I.tuple hp;exact⟨its,r1,λA E Q z=>HT.mM p1 (by rw[<-r1.length];exact z)⟩
 obtain⟨its,r1,p1⟩:=gt;obtain⟨ps,e1,e2,e3⟩:=Dm hd;subst e1;have ei:its=ps.map λp=>Value.ref p.1:=by
  have:=oM (rs:=ps.map (·.1)) (us:=its) (by rw[eJ];exact r1);rw[this,eJ];rfl
 subst ei;have row:∀ p∈ps,HT.qL rs s.heap (.ref p.1) (aB p.2):=λp m=>by
  have d:=e3 p m;have mr:p.2∈rs:=by rw[e2];exact List.mem_map.mpr ⟨p,m,rfl⟩
  obtain⟨n,l,el⟩:=hf _ mr;obtain⟨b,ws,eb,h3,h4⟩:=d;cases eb;obtain⟨us,r',pl,_⟩:=I.tuple (.of (sub _ _ h3));rw[el]at h4 mr;exact⟨p.1,us,n,l,rfl,pl,A6 I sub h4 r',mr,by rw[el]⟩
 have HH:∀ v∈ps.map (λp=>Value.ref p.1),∃ ns,HT.qL rs s.heap v ns:=λv m=>by
  obtain⟨r,mr,rfl⟩:=List.mem_map.mp m;exact⟨_,row r mr⟩
 have lk:∀ x∈rs,∀ y∈rs,cR x y=true:=λx mx y my=>bX.mp (bX.mp Te x mx) y my;have ln:ps.length=rs.length:=by rw[e2,aL]
 refine HT.AD (HT.HC rs) (λA Q=>p1 A _ (by rw[aL,ln];exact bu (eu cj) (by decide))) HH (U:=X.A.units+8) (ag _) (λne=>HT.Fy lk (by omega) HH ne) (by rw[aL,ln];exact cj) λout o1 o2=>?_;obtain⟨p9,q1,q2⟩:=GU o1 rfl;obtain⟨k,he⟩:=zQ s.heap (ps.map λp=>Value.ref p.1) out;have di:H (s.heap.objs.size+1)=none:=I.ai.fresh (pw _);have ord:(p9.map (·.2)).Pairwise (λa b=>lexLt (aB b) (aB a)=false):=by
  unfold HT.rL at o2;rw[q1,qk]at o2;rw[qk];exact Q7 (λ{a b} ma mb r=>r _ _ (row a (q2.mem_iff.mp ma)) (row b (q2.mem_iff.mp mb))) o2
 have so:p9.map (·.2)=rO rs:=mP Te (by rw[e2];exact q2.map _) ord;have ll:(p9.map λp=>V.ref p.1).length<=sizeLine:=by
  rw[aL,q2.length_eq,ln];exact bu (eu cj) (by decide)
 refine⟨.ref (s.heap.objs.size+1),_,I.laid (t':=s.toks) (o:=.lst (p9.map λp=>V.ref p.1)) (λb ob q=>zR q) (pw _) ?_,rfl,q _ _ di (by rw[<-so];exact BO λp m=>e3 p (q2.mem_iff.mp m))⟩;refine⟨ll,out.toList,k,?_,he⟩;rw[q1];have:∀ l:List (Addr×List ak),Vals (l.map λp=>V.ref p.1) (l.map λp=>Value.ref p.1):=λl=>by
  induction l with
  |nil=>exact .nil
  |cons a l ih=>exact .cons rfl ih
 exact this p9
def dF:List D->Option Res:=λxs=>match pZ xs with
 |some r=>some r
 | none=>match xs with
   |[.lst l]=>(rowsOf l).bind λrs=>if rs.length<64 /\ uA rs=true then some (.lst ((rO rs).map ph)) else none
   |[.tup l]=>(rowsOf l).bind λrs=>if rs.length<64 /\ uA rs=true then some (.lst ((rO rs).map ph)) else none
   |_=>none
theorem CH (hu:X.A.units+100<cLine):cK X (.builtin "sorted") (λvs H Q=>(uh X.K vs H Q \/ vZ X.K vs H Q) \/ HE X.K vs H Q):=λpins s σ H xs us Q I rv h=>h.elim (BJ pins s σ H xs us Q I rv) (CG hu pins s σ H xs us Q I rv)
theorem X5:eE (λvs H Q=>(uh K vs H Q \/ vZ K vs H Q) \/ HE K vs H Q) dF:=by
 intro F H xs vs Q s sub rx e k;unfold dF at e;cases er:pZ xs with
 | some r =>
   rw[er]at e;cases e;exact .inl (X1 F H xs vs Q s sub rx er k)
 | none =>
   rw[er]at e;dsimp only at e;clear er;split at e
   ·rename_i l;cases e1:rowsOf l with
    |none=>rw[e1]at e;cases e
    | some rs =>
      rw[e1]at e;simp only[a9]at e;split at e
      ·rename_i hc;cases e;obtain⟨v,t,rfl,⟨a,us,rfl,h1,h2⟩,rt⟩:=rx;cases (show t=[] from rt);obtain⟨b1,b2⟩:=mn e1;subst b1;exact .inr ⟨F,a,us,rs,rfl,sub,.inl (.of h1),h2,b2,hc.1,hc.2,λq ys hq hy=>k _ _ ⟨q,ys,rfl,hq,rfl,hy⟩⟩
      ·cases e
   ·rename_i l;cases e1:rowsOf l with
    |none=>rw[e1]at e;cases e
    | some rs =>
      rw[e1]at e;simp only[a9]at e;split at e
      ·rename_i hc;cases e;obtain⟨v,t,rfl,⟨a,us,rfl,h1,h2⟩,rt⟩:=rx;cases (show t=[] from rt);obtain⟨b1,b2⟩:=mn e1;subst b1;exact .inr ⟨F,a,us,rs,rfl,sub,.inr (.of (sub _ _ h1)),h2,b2,hc.1,hc.2,λq ys hq hy=>k _ _ ⟨q,ys,rfl,hq,rfl,hy⟩⟩
      ·cases e
   ·cases e
end L2.DL
namespace L2
end L2
namespace L2.DL
section
variable {src : List (Option Nat)} {elt : Expr} {scope : Scope} {pos' aaU : Pos} {g : DG} 
end
noncomputable def bN:Expr->Bool
 |.Starred _ _=>false
 |_=>true
def cT:List Expr->Bool
 |[]=>true
 |e::es=>bN e&&cT es
theorem fL (h:bN e=true) (es:List Expr) (env:Env):starEach (e::es) env=(false,eval e env)::starEach es env:=by
 cases e<;>first|rfl|cases h
theorem iC {env:Env}{pos:Pos}:∀ {es:List Expr},cT es=true->(backTo pos (starEach es env)).any (·.1)=false
 |[],_=>rfl
 | e::es,h=>by
   have h':(bN e&&cT es)=true:=h;rw[aw]at h';rw[fL h'.1];show (false||(backTo pos (starEach es env)).any (·.1))=false;rw[iC h'.2];rfl
theorem gi (h:cT (e::es)=true):bN e=true /\ cT es=true:=by
 have h':(bN e&&cT es)=true:=h
 rwa [aw]at h'
theorem jT (h:bN e=true) (es:List Expr) (env:Env):assignEach (e::es) env=(false,assign e env)::assignEach es env:=by
 cases e<;>first|rfl|cases h
theorem lu {env:Env}:∀ {es:List Expr},cT es=true->(assignEach es env).length=es.length /\ (assignEach es env).findIdx? (·.1)=none
 |[],_=>⟨rfl,rfl⟩
 | e::es,h=>by
   obtain⟨h1,h2⟩:=gi h;obtain⟨a,b⟩:=lu (env:=env) h2;rw[jT h1];exact⟨by rw[aX,aX,a],by rw[List.findIdx?_cons,b];rfl⟩
section
variable {a b c : Expr} {mc : DE W} {p p1 : Pos} {k' nn : Nat} {ps : List Str} 
theorem mQ (ha:PD X T Z e ma) (hr:cD X T Z es m) (hn:bN e=true:=by rfl):cD X T Z (e::es) (fc ma m):=Gx ha hr (fL hn es X.env)
theorem Pk {id:String}{q:List V->Hp->VK->Prop}{g:List D->Option Res}(bo:Bool) (hc:cK X (.builtin id) q) (hk:eE q g) (hg:Gl X x) (hm:X.mg x=none) (hv:bootBuiltins x=some (.builtin id)) (ha:cD X T Z (e::es) m)
 (bC:cT (e::es)=true:=by rfl) (hn:x ≠ "__name__":=by decide) (bB:(x==("__debug__":Str))=false:=by decide):PD X T Z (.Call (.Name x p) (e::es) [] pos) (dN bo g m):=
 GB bo hc hk hg hm hv ha hn bB (fL (gi bC).1 es X.env) (iC (gi bC).2)
theorem N5 {id:String}{q:List V->Hp->VK->Prop}{g:List D->Option Res}(bo:Bool) (hc:cK X (.type id) q) (hk:eE q g) (hg:Gl X x) (hm:X.mg x=none) (hv:bootBuiltins x=some (.type id)) (ha:cD X T Z (e::es) m)
 (bC:cT (e::es)=true:=by rfl) (hn:x ≠ "__name__":=by decide) (bB:(x==("__debug__":Str))=false:=by decide):PD X T Z (.Call (.Name x p) (e::es) [] pos) (dN bo g m):=
 Fh bo hc hk hg hm hv ha hn bB (fL (gi bC).1 es X.env) (iC (gi bC).2)
theorem Pl (h:kX X.prog X.w X.K X.mg X.base Z.cl k x ps fn) (hr:aO k' X.A) (hk:k<=k') (hg:Gl X x) (hx:Passes (bK X.prog X.w) X Z.E) (ha:cD X T Z (e::es) m)
 (bC:cT (e::es)=true:=by rfl) (hn:ps.length=nn:=by rfl) (bB:(x==("__debug__":Str))=false:=by decide):PD X T Z (.Call (.Name x p) (e::es) [] pos) (fk fn nn m):=
 N3 h hr hk hg hx ha bB (fL (gi bC).1 es X.env) (iC (gi bC).2) hn
theorem Pm {n:String}(hT:kU X.K n) (hg:Gl X "isinstance") (hm:X.mg "isinstance"=none) (Hk:Gl X x) (Hl:X.mg x=none) (hv:bootBuiltins x=some (.type n)) (ha:PD X T Z a ma) (hs:bN a=true:=by rfl)
 (hn:x ≠ "__name__":=by decide) (bB:(x==("__debug__":Str))=false:=by decide):PD X T Z (.Call (.Name "isinstance" p) [a,.Name x p1] [] pos) (lf n ma):=
 Lz hT hg hm Hk Hl hv ha hn bB (fL hs _ X.env) (fL rfl _ X.env) (iC rfl)
theorem N6 {g:DG}{q:kh}(h1:kR X T e g) (h2:qF X T es q) (hn:bN e=true:=by rfl):qF X T (e::es) (f8 g q):=Fi h1 h2 (by rw[jT hn];rfl)
theorem Pn {q:kh}(hc:X.calm=true) (h:qF X T es q) (bC:cT es=true:=by rfl) (hn:es.length=nn:=by rfl):kR X T (.Tuple es i pos) (iP nn q):=
 Lq hc h ((lu bC).1.trans hn) (lu bC).2
end
open PySem.W
noncomputable def v5:List Str:=["NoHouse", "NoOuts", "NoRoom", "NoHour", "NoPages", "NoLot", "NoAsks", "NoNumber", "NoMoves", "NoEach", "NoOrder", "NoPage", "NoOut", "Twice", "Missing", "TooMany", "NoDeed"]
noncomputable def pj:List Str:=["house", "outs", "room", "hour", "pages", "lot", "asks", "number", "moves", "each", "order", "page", "out", "twice", "missing", "many", "deed"]
def wordOf (i:Nat):Str:=pj.getD i ""
structure en (K:Frag) (mg:Str->Option Value) (R:Addr) (c:Nat->Addr):Prop where
 m:∀ i x,v5[i]?=some x->mg x=some (.ref (c i))
 mR:mg "RimeError"=some (.ref R)
 inst:mg "isinstance"=none
 X6:mg "ValueError"=none
 ex:∀ i,i<17->excIn K (c i) E2 "ValueError.__new__"=true
 ek:∀ i,i<17->si K (c i)
 kt:∀ i j,i<17->j<17->kitOne K (.ref (c i)) (.ref (c j))=some (decide (i=j))
 kv:∀ i,i<17->kitOne K (.ref (c i)) (.type "ValueError")=some true
 kr:∀ i,i<17->kitCls K (.ref (c i)) (.ref R)=some true
 rb:mroIn K R (.type "BaseException")=some true
def Tf (c:Nat->Addr):Sp:=λvs H Q _=>∃ (a:Addr) (i:Nat),vs=[.ref a] /\ i<17 /\ H a=some (.ext (dj a (c i))) /\ ∀ H',cZ H H'->Q (.str (wordOf i)) H'
def v9 (P:Program) (w:World) (K:Frag) (mg:Str->Option Value) (base:Heap) (cl:Nat->Addr):Prop :=
 ∃ (f:Addr) (fd:FuncData),vF P w K mg base nS 1 f fd ["_law_e"] (Tf cl) /\ mg "_law_word"=some (.ref f) /\ keepIn K (.ref f)=true /\ Binds K fd ["_law_e"] []
section
variable {a b : Expr} {mc : DE W} {p np cY rp sj : Pos} {st : Stmt} {body : List Stmt} {m k : af} {n : Str} {c : Nat} {R : Addr}
def kZ (c:Nat) (m:DE W):af:=λenv bx=>bF (m env bx) λ_ bx1=>.exc c bx1
theorem FA (c:Nat) (E:en X.K X.mg R Z.cl) (hc:X.calm=true) (l:rB X Z.E) (hg:Gl X x) (hx:v5[c]?=some x) (he:PD X T Z e ma) (hi:c<17:=by decide) (bC:cT [e]=true:=by rfl) (hd:(x==("__debug__":Str))=false:=by decide) :
 cM X T Z (.Raise (some (.Call (.Name x np) [e] [] cY)) none pos) (kZ c ma):=
 PS.imp (Gt hc l hg (E.m c x hx) (E.ex c hi) he (fL (gi bC).1 [] X.env) hd) λD σ H ⟨F,r,env,bx,Rr,h⟩ =>
  ⟨F,r,env,bx,Rr,End.bF h λw bx1 F1 r1 v H1 g1 R1 d1 h1=>⟨rfl,h1 F1 r1 H1 (.refl F1 r1) R1.drop⟩⟩
noncomputable def dS:af:=λ_ _=>.bad
theorem gj:cM X T Z st dS:=λ_ _ _ _ _ _ h=>by
 obtain⟨_,_,_,_,_,h⟩:=h;exact h.elim
theorem Rel.same {H2:Hp}(Rr:Rel T F r [] H [] bx) (s:cZ H H2):Rel T F r [] H2 [] bx :=
 ⟨λa u h=>s _ _ (Rr.fh a u h),λi w e=>by simp at e,Rr.len,Rr.nd,λn c a e1 e2=>by
  have:=Rr.box n c a e1 e2;cases c with
  |lst l=>obtain⟨h1,vs,h2,h3⟩:=this;exact⟨h1,vs,s _ _ h2,h3⟩
  |aH l=>obtain⟨h1,vs,h2,h3⟩:=this;exact⟨h1,vs,s _ _ h2,h3⟩
  |dT l=>obtain⟨h1,vs,h2,h3⟩:=this;exact⟨h1,vs,s _ _ h2,h3⟩
  |fD l=>obtain⟨o,vs,h1,h2,h3⟩:=this;exact⟨o,vs,h1,s _ _ h2,h3⟩
  |ins C l=>obtain⟨h1,dx,vs,h2,h3⟩:=this;exact⟨h1,dx,vs,s _ _ h2,h3⟩
  |dead=>obtain⟨u,h2⟩:=this;exact⟨u,s _ _ h2⟩,λa u h hn=>s _ _ (Rr.keep a u h hn),Rr.new,Rr.n0,ag _,Rr.fs⟩
def qM (m:af):af:=λenv bx=>match m env bx with
 |.exc c bx1=>if c<17 then .rt (.d (.str (wordOf c))) bx1 else .bad
 |o=>o
theorem LR (i:Nat) {L:Addr}{k':Nat}{X7:Pos}(E:en X.K X.mg R Z.cl) (W:v9 X.prog X.w X.K X.mg X.base Z.cl) (hr:aO k' X.A) (nC:1<=k') (nu:X.stack=X.env::X.outer) (di:X.env.frame=some L) (xH:L=X.env.locals) (hg:Gl X "RimeError") (X8:Gl X "_law_word")
 (hN:X.N.Nodup) (hi:X.N[i]?=some n) (hn:X.env.kindOf n=some .local) (hb:∀ pn E,nX (X.nU pn E) T ⟨E,Z.cl⟩ body m)
 (hv:qt X.env.scope n:=by first|exact Or.inl rfl|exact Or.inr (Or.inl rfl)|exact Or.inr (Or.inr rfl)) (hd:(n==("__debug__":Str))=false:=by decide) (cw:(n==("__classdict__":Str))=false:=by decide) :
 cM X T Z (.Try body [.ExceptHandler (some (.Name "RimeError" rp)) (some n) [.Return (some (.Call (.Name "_law_word" np) [.Name n cY] [] X7)) p] sj] [] [] pos) (qM m):=by
 intro pins s σ H D I ⟨F,r,env,bx,Rr,h⟩;obtain⟨fW,aaV,gW,mW,kW,bW⟩:=W;refine Nq (i:=i) (E:=λCv _ H'=>∃ c bx' F' r',m env bx=.exc c bx' /\ Cv=.ref (Z.cl c) /\ aJ F r F' r' /\ Rel T F' r' [] H' [] bx') nu di xH hg E.mR E.rb hN hi hn (λpn=>hb pn _)
  (λpn ea=>lF (AQ (Gu (X:=X.hand pn ea) gW ((hr.mono nC).h.mark) X8 mW kW bW .nil Wg (fj (AO (i:=i) hi hv hd cw) fO rfl)))) (by decide) pins s σ H D I ⟨?_,?_⟩
 ·refine⟨F,r,env,bx,Rr,?_⟩;unfold qM at h;cases e:m env bx with
  |exc c bx1=>exact λF' r' H' g R'=>⟨c,bx1,F',r',rfl,rfl,g,R'⟩
  |nx env1 bx1=>rw[e]at h;exact h
  |rt w bx1=>rw[e]at h;exact h
  |bk env1 bx1=>rw[e]at h;exact h
  |ct env1 bx1=>rw[e]at h;exact h
  |bad=>rw[e]at h;exact h
 ·rintro σ' ea C H' hl ⟨c,bx1,F',r',e,eC,g,R'⟩ xI;have X9:C=Z.cl c:=Value.ref.inj eC;subst X9;unfold qM at h;rw[e]at h;simp only at h;split at h
  ·rename_i hc;refine⟨E.kr c hc,_,pC (by rw[hl];exact(List.getElem?_eq_some_iff.mp hi).1),ea,c,rfl,hc,fw,λH2 s2=>?_⟩;exact h F' r' (.str (wordOf c)) H2 g (R'.same λb o z=>s2 b o (by rw[fq (fE z xI)];exact z)) rfl
  ·exact h.elim
end
section
variable {st : Stmt} {ps : List Str} {m : af} {nn kk : Nat}
end
section
variable {a : Expr} {p p2 yo : Pos} {ta : TA} {ks : DE (List W)}
theorem LS {b:Expr}{y:Str}{px py pt:Pos}{kt k2 nO}(i j:Nat) (hc:X.calm=true) (hN:X.N.Nodup) (ha:cD X T Z [a,b] ks) (hi:X.N[i]?=some x:=by rfl) (hj:X.N[j]?=some y:=by rfl) (vj:i≠j:=by decide)
 (hx:X.env.scope.names.lookup x=some .local:=by rfl) (hy:X.env.scope.names.lookup y=some .local:=by rfl)
 (hw:swappedStores [.Tuple [.Name x px,.Name y py] kt pt] (.Tuple [a,b] k2 nO) X.env=pure (some [x,y]):=by rfl)
 (hs:swapsWithSole [.Tuple [.Name x px,.Name y py] kt pt] (.Tuple [a,b] k2 nO) pos.line X.env=pure false:=by rfl) :
 cM X T Z (.Assign [.Tuple [.Name x px,.Name y py] kt pt] (.Tuple [a,b] k2 nO) pos) (vK i j ks):=
 PS.imp (M6 hc hN hi hj vj hx hy ha hw hs) λD σ H h=>Pa h
end
noncomputable def uB:D->V
 |.ae=>.ae
 |.bl b=>.bl b
 |.int i=>.int i
 |.str x=>.str x
 |_=>.ty ""
noncomputable def kn:D->Bool
 |.ae=>true
 |.bl _=>true
 |.int _=>true
 |.str _=>true
 |_=>false
def Ya (a b:D):Bool:=cL (uB a) (uB b)
theorem oO {d:D}{v:V}(f:kn d=true) (h:Den F d v):v=uB d /\ cX v=true:=by
 cases d with
 |ae=>cases (show v=.ae from h);exact⟨rfl,rfl⟩
 |bl b=>cases (show v=.bl b from h);exact⟨rfl,rfl⟩
 |int i=>cases (show v=.int i from h);exact⟨rfl,rfl⟩
 |str x=>cases (show v=.str x from h);exact⟨rfl,rfl⟩
 |_=>cases f
theorem mv {F:Hp}:∀ {l:List D}{vs:List V},l.all kn=true->aj F l vs->vs=l.map uB /\ vs.all cX=true
 |[],_,_,h=>by cases (show _=[] from h);exact⟨rfl,rfl⟩
 | d::l,_,f,h=>by
   obtain⟨v,r,e,h1,h2⟩:=h;subst e;rw[k9,aw]at f;obtain⟨e1,f1⟩:=oO f.1 h1;obtain⟨e2,f2⟩:=mv f.2 h2;subst e1;subst e2;exact⟨rfl,by rw[k9,f1,f2];rfl⟩
def nH (x:D) (l:List D):Bool:=l.any λy=>Ya y x
theorem Do (x:D) (l:List D):xA (uB x) (l.map uB)=nH x l:=by
 unfold xA nH;rw[List.any_map];rfl
def yq (neg:Bool):D->D->Option Res:=λx y=>match y with
 |.lst l=>if kn x=true /\ l.all kn=true then some (.old (.bl (if neg then !nH x l else nH x l))) else none
 |.tup l=>if kn x=true /\ l.all kn=true then some (.old (.bl (if neg then !nH x l else nH x l))) else none
 |_=>none
theorem Tg (neg:Bool):bp (xC K neg) (yq neg):=by
 intro F H x y v w Q s sub hx hy e k;unfold yq at e;have fx:∀ {d:D},kn d=true->ke F H d v->Den F d v:=λ{d} f h=>by
  cases d with
  |ae=>exact h
  |bl b=>exact h
  |int i=>exact h
  |str z=>exact h
  |_=>cases f
 cases y with
 | lst l =>
   simp only at e;split at e
   ·rename_i f;cases e;obtain⟨a,vs,rfl,h1,h2⟩:=hy;obtain⟨e1,f1⟩:=oO f.1 (fx f.1 hx);obtain⟨e2,f2⟩:=mv f.2 h2;subst e1;subst e2;refine⟨a,_,rfl,.inl (aQ.of h1),f1,f2,?_⟩;rw[Do];exact k _ _ ⟨rfl,rfl⟩
   ·cases e
 | tup l =>
   simp only at e;split at e
   ·rename_i f;cases e;obtain⟨a,vs,rfl,h1,h2⟩:=hy;obtain⟨e1,f1⟩:=oO f.1 (fx f.1 hx);obtain⟨e2,f2⟩:=mv f.2 h2;subst e1;subst e2;refine⟨a,_,rfl,.inr (bc.of (sub _ _ h1)),f1,f2,?_⟩;rw[Do];exact k _ _ ⟨rfl,rfl⟩
   ·cases e
 |_=>cases e
def yr (neg:Bool):R2:=λx y H Q=>∃ F dx dy,Sub F H /\ ke F H dx x /\ ke F H dy y /\ km dx=true /\ km dy=true /\ ∃ l,(dy=.lst l \/ dy=.tup l) /\ Q (.bl (if neg then !(l.any λz=>eqv z dx) else l.any λz=>eqv z dx)) H
theorem jj (dx:D):∀ l:List D,((aI l).any λy=>PyData.eqv y (toPy dx))=l.any λz=>eqv z dx
 |[]=>rfl
 | z::l=>by
   show (PyData.eqv (toPy z) (toPy dx)||_)=_;rw[jj dx l];rfl
theorem N7 (hu:X.A.units+100<cLine):aA X (compareOp .In) (yr false):=by
 intro pins s σ H x y v u Q I rx ry h;obtain⟨F,dx,dy,sub,hx,hy,ox,oy,l,hl,q⟩:=h;obtain⟨as,ra⟩:=gP I sub hx rx;obtain⟨bs,rb⟩:=gP I sub hy ry;obtain⟨x1,x2⟩:=jR ox;obtain⟨y1,y2⟩:=jR oy;rcases hl with rfl|rfl
 ·exact SeqAt.in_list_reads rb ra y1 x1 (by omega) (by rw[jj];exact⟨.bl _,H,I,rfl,q⟩)
 ·exact SeqAt.in_tuple_reads rb ra y1 x1 (by omega) (by rw[jj];exact⟨.bl _,H,I,rfl,q⟩)
theorem FB (hu:X.A.units+100<cLine):aA X (compareOp .NotIn) (yr true):=by
 intro pins s σ H x y v u Q I rx ry h;obtain⟨F,dx,dy,sub,hx,hy,ox,oy,l,hl,q⟩:=h;obtain⟨as,ra⟩:=gP I sub hx rx;obtain⟨bs,rb⟩:=gP I sub hy ry;obtain⟨x1,x2⟩:=jR ox;obtain⟨y1,y2⟩:=jR oy;rcases hl with rfl|rfl
 ·exact SeqAt.notIn_list_reads rb ra y1 x1 (by omega) (by rw[jj];exact⟨.bl _,H,I,rfl,q⟩)
 ·exact SeqAt.notIn_tuple_reads rb ra y1 x1 (by omega) (by rw[jj];exact⟨.bl _,H,I,rfl,q⟩)
def uC (neg:Bool) (x y:D) (l:List D):Option Res:=if km x&&km y then some (.old (.bl (if neg then !(l.any λz=>eqv z x) else l.any λz=>eqv z x))) else none
def inD (neg:Bool):D->D->Option Res:=λx y=>match y with
 |.lst l=>if kn x=true /\ l.all kn=true then some (.old (.bl (if neg then !nH x l else nH x l))) else uC neg x y l
 |.tup l=>if kn x=true /\ l.all kn=true then some (.old (.bl (if neg then !nH x l else nH x l))) else uC neg x y l
 |_=>none
theorem okIn (neg:Bool):bp (λx y H Q=>xC K neg x y H Q \/ yr neg x y H Q) (inD neg):=by
 intro F H x y v w Q s sub hx hy e k;have g:∀ l,(y=.lst l \/ y=.tup l)->uC neg x y l=some s->yr neg v w H Q:=λl hl e=>by
  unfold uC at e;split at e
  ·rename_i c;rw[aw]at c;cases e;exact⟨F,x,y,sub,hx,hy,c.1,c.2,l,hl,k _ _ ⟨rfl,rfl⟩⟩
  ·cases e
 unfold inD at e;split at e
 ·rename_i l;split at e
  ·rename_i f;exact .inl (Tg neg F H x (.lst l) v w Q s sub hx hy (by unfold yq;simp only;rw[if_pos f];exact e) k)
  ·exact .inr (g l (.inl rfl) e)
 ·rename_i l;split at e
  ·rename_i f;exact .inl (Tg neg F H x (.tup l) v w Q s sub hx hy (by unfold yq;simp only;rw[if_pos f];exact e) k)
  ·exact .inr (g l (.inr rfl) e)
 ·cases e
section
variable {a b o : Expr} {mc : DE W} {p : Pos}
end
end L2.DL
namespace L2
end L2
namespace L2.DL
section
variable {a : Expr} {p tp : Pos} {elts : List Expr} {kt : Nat} {k : DE (List W)}
end
section
variable {a : Expr} 
end
open PySem.W
noncomputable def rP (f:Str) (v:D ⊕ Nat):List (Str×(D ⊕ Nat))->List (Str×(D ⊕ Nat))
 |[]=>[(f,v)]
 |(g,x)::r=>if g=f then (g,v)::r else (g,x)::rP f v r
theorem cg.look {F:Hp}{r:List Addr}{n:Nat}(f:Str):∀ {l:List (Str×(D ⊕ Nat))}{vs:List (Str×V)},cg F r n l vs->(l.lookup f=none /\ vs.lookup f=none) \/ ∃ w v,l.lookup f=some w /\ vs.lookup f=some v /\ vH F r n w v
 |[],_,h=>by cases (show _=[] from h);exact .inl ⟨rfl,rfl⟩
 | (k,w)::l,_,⟨v,t,e,h1,h2⟩=>by
   subst e;rw[cV,cV];cases f==k with
   |true=>exact .inr ⟨w,v,rfl,rfl,h1⟩
   |false=>exact cg.look f h2
theorem cg.put {F:Hp}{r:List Addr}{n:Nat}{f:Str}{w:D ⊕ Nat}{v:V}(hw:vH F r n w v):∀ {l:List (Str×(D ⊕ Nat))}{vs:List (Str×V)},cg F r n l vs->cg F r n (rP f w l) (dz f v vs)
 |[],_,h=>by cases (show _=[] from h);exact⟨v,[],rfl,hw,rfl⟩
 | (k,u)::l,_,⟨z,t,e,h1,h2⟩=>by
   subst e;unfold rP dz;by_cases c:k=f
   ·rw[if_pos c,if_pos c];exact⟨v,t,rfl,hw,h2⟩
   ·rw[if_neg c,if_neg c];exact⟨z,_,rfl,h1,cg.put hw h2⟩
theorem cg.len {F:Hp}{r:List Addr}{n:Nat}:∀ {l:List (Str×(D ⊕ Nat))}{vs:List (Str×V)},cg F r n l vs->vs.length=l.length
 |[],_,h=>by cases (show _=[] from h);rfl
 |(k,u)::l,_,⟨z,t,e,h1,h2⟩=>by subst e;rw[aX,aX,h2.len]
def bf (C:Addr) (m:DE W) (f:Str):DE W:=λenv bx=>fB (m env bx) λx bx1=>match x with
 | .b n=>(match bx1[n]? with
   | some (.ins C' fs)=>if C'=C then (match fs.lookup f with
     |some (.inl d)=>.val (.d d) bx1
     |some (.inr j)=>.val (.b j) bx1
     |none=>.bad) else .bad
   |_=>.bad)
 |_=>.bad
def k6 (C:Addr) (m:DE W) (f:Str) (v:DE W):af:=λenv bx=>bF (v env bx) λy bx1=>bF (m env bx1) λx bx2=>match x,y with
 | .b n,.d d=>(match bx2[n]? with
   |some (.ins C' fs)=>if C'=C /\ fs.length<1000 then .nx env (bx2.set n (.ins C (rP f (.inl d) fs))) else .bad
   |_=>.bad)
 |_,_=>.bad
def bH (C:Addr) (fn:List W->List Bx->O W) (nm:Str) (n:Nat) (m:DE W) (k:DE (List W)):DE W:=λenv bx=>fB (m env bx) λx bx1=>match x with
 | .b j=>(match bx1[j]? with
   |some (.ins C' fs)=>if C'=C /\ (fs.lookup nm).isNone=true then fB (k env bx1) λws bx2=>if ws.length+1=n then fn (.b j::ws) bx2 else .bad else .bad
   |_=>.bad)
 |_=>.bad
section
variable {o value : Expr} {pos' p : Pos} {f : Str} 
theorem N8 (c:dI X.K C) (na:nQ X.K C f) (h:PD X T Z e ma) (hb:attributeBase e f X.env (eval e X.env)=eval e X.env):PD X T Z (.Attribute e f pos) (bf C ma f):=by
 refine PE.imp (Nd h hb) λσ H Q ⟨F,r,env,bx,R,h⟩=>⟨F,r,env,bx,R,End.bind h λx bx1 F1 r1 v H1 g1 R1 d1 h1=>?_⟩;split at h1
 case h_2=>exact h1.elim
 rename_i n;obtain⟨a,rfl,ha⟩:=d1;obtain⟨b,hc,kc⟩:=R1.rD ha;rw[hc]at h1;split at h1
 case h_2=>exact h1.elim
 rename_i C' fs e0;cases e0;obtain⟨k0,dx,vs,k1,k2⟩:=kc;split at h1
 case isFalse=>exact h1.elim
 rename_i hC;subst hC;rcases cg.look f k2 with⟨l1,l2⟩|⟨w,u,l1,l2,l3⟩
 ·rw[l1]at h1;exact h1.elim
 ·rw[l1]at h1;refine⟨a,C',dx,vs,u,rfl,k1,c,na,l2,?_⟩;cases w with
  |inl d=>exact h1 F1 r1 u H1 (.refl F1 r1) R1 l3
  |inr j=>obtain⟨_,b,rfl,hj⟩:=l3;exact h1 F1 r1 _ H1 (.refl F1 r1) R1 ⟨b,rfl,hj⟩
theorem LT (c:dI X.K C) (na:nQ X.K C f) (ho:PD X T Z o ma) (hv:PD X T Z value mb) (hs:swapsWith value (some (.Attribute o f pos')) pos.line X.env=pure false):cM X T Z (.Assign [.Attribute o f pos'] value pos) (k6 C ma f mb):=by
 refine PS.imp (F9 ho hv hs) λD σ H ⟨F,r,env,bx,R,h⟩=>⟨F,r,env,bx,R,End.bF h λy bx1 F1 r1 v H1 g1 R1 d1 h1=>⟨F1,r1,env,bx1,R1,End.bF h1 λx bx2 F2 r2 u H2 g2 R2 d2 h2=>?_⟩⟩;split at h2
 case h_2=>exact h2.elim
 rename_i n d;obtain⟨a,rfl,ha⟩:=d2;obtain⟨b,hc,kc⟩:=R2.rD ha;rw[hc]at h2;split at h2
 case h_2=>exact h2.elim
 rename_i C' fs e0;cases e0;obtain⟨k0,dx,vs,k1,k2⟩:=kc;split at h2
 case isFalse=>exact h2.elim
 rename_i hC;obtain⟨hC,hl⟩:=hC;subst hC;refine⟨a,C',dx,vs,rfl,k1,c,na,by rw[k2.len];exact hl,?_⟩;have Hb:vH F2 r2 n (.inl d) v:=Den.mono g2.s d d1;exact h2 F2 r2 σ _ (.refl F2 r2) (R2.write ha k0 ⟨k0,dx,_,fw,k2.put Hb⟩)
theorem AG {args:List Expr}(vB:attributeBase o f X.env (eval o X.env)=eval o X.env) (bC:cT args=true) (hl:args.length<30) (qC:(apos.endLine==pos.line)=true):∃ pl,eval (.Call (.Attribute o f apos) args [] pos) X.env=(do
 let ov <-eval o X.env
 standAt apos.atName
 let (f,first) <-holding [ov] (getMethod ov f pl)
 callWith pos f first (backTo pos (starEach args X.env)) (backToKw pos (keywordEach [] X.env))):=by
 have EO:(backTo pos (starEach args X.env)).all (λx=>!x.1)=true:=by
  have:=iC (env:=X.env) (pos:=pos) bC;rw[bX];rw[K5]at this;intro x hx;have:=this x hx;simpa using this
 have Yb:methodCallForm (args.length+([]:List Keyword).length) (backTo pos (starEach args X.env)) (backToKw pos (keywordEach [] X.env))=true:=by
  unfold methodCallForm;rw[EO];simp[backToKw,keywordEach];omega
 have sj:∀ b,methodCallPos b o X.env apos pos=pure pos:=λb=>by unfold methodCallPos;simp[qC]
 refine⟨(do return (<-importBound o X.env).getD true),?_⟩;rw[arm_eval_Call,vB];unfold methodCall;rw[Yb];simp only[sj,pure_bind];rfl
end
section
variable (P : Program) (w : World) (K : PySem.W.Frag) (mg : Str -> Option Value) (base : Heap) (cl : Nat -> Addr)
def wa (C:Addr) (k:Nat) (x:Str) (ps:List Str) (fn:List W->List Bx->O W):Prop :=
 ∃ (f:Addr) (fd:FuncData),bA P w K mg base (bK P w) k f fd ps (kQ cl ps.length fn) /\ Meth K C x f /\ Binds K fd ps []
end
section
variable {o : Expr} {mk : DE (List W)} {ps : List Str} {k' nn : Nat}
theorem GV {Q:VK}(h:tD T Z (bH C fn x nn ma mk) σ H Q):EA C x (kQ Z.cl nn fn) [] Z.E (tD T Z ma) (vI T Z mk) σ H Q:=by
 obtain⟨F,r,env,bx,R,h⟩:=h;refine⟨F,r,env,bx,R,End.bind h λw bx1 F1 r1 v H1 g1 R1 d1 h1=>?_⟩;split at h1
 case h_2=>exact h1.elim
 rename_i j;obtain⟨a,rfl,ha⟩:=d1;obtain⟨b,hc,kc⟩:=R1.rD ha;rw[hc]at h1;split at h1
 case h_2=>exact h1.elim
 rename_i C' fs e0;cases e0;obtain⟨k0,dx,vs,k1,k2⟩:=kc;split at h1
 case isFalse=>exact h1.elim
 rename_i hC;obtain⟨hC,hl⟩:=hC;subst hC;refine⟨a,dx,vs,rfl,k1,?_,F1,r1,env,bx1,R1,End.bind h1 λws bx2 F2 r2 us H2 g2 R2 d2 h2=>?_⟩
 ·rcases cg.look x k2 with⟨l1,l2⟩|⟨w,u,l1,l2,l3⟩
  ·exact l2
  ·rw[l1]at hl;cases hl
 ·split at h2
  ·rename_i hn;refine⟨F2,r2,.b j::ws,bx2,R2.enter,⟨_,_,rfl,⟨a,rfl,Cs g2.p j a ha⟩,by rw[pE];exact d2⟩,by rw[aX];exact hn,?_⟩;cases e:fn (.b j::ws) bx2 with
   |val w bx'=>rw[e]at h2;exact λF' r' v H' g R' d=>h2 F' r' v H' g (R2.after g R') d
   |exc c bx'=>rw[e]at h2;exact λF' r' H' g R'=>h2 F' r' H' g (R2.after g R').drop
   |bad=>rw[e]at h2;exact h2
  ·exact h2.elim
theorem LU (c:dI X.K C) (h:wa X.prog X.w X.K X.mg X.base Z.cl C k x ps fn) (hr:aO k' X.A) (hk:k<=k') (hx:Passes (bK X.prog X.w) X Z.E) (ho:PD X T Z o ma) (ha:cD X T Z (e::es) mk) (hb:attributeBase o x X.env (eval o X.env)=eval o X.env)
 (qC:(apos.endLine==pos.line)=true) (bC:cT (e::es)=true) (hl:(e::es).length<30) (hn:ps.length=nn):PD X T Z (.Call (.Attribute o x apos) (e::es) [] pos) (bH C fn x nn ma mk):=by
 subst hn;obtain⟨f,fd,G,hm,sL⟩:=h;obtain⟨pl,ht⟩:=AG (X:=X) (o:=o) (f:=x) (apos:=apos) (pos:=pos) (args:=e::es) hb bC hl qC;exact PE.imp (J1 (pl:=pl) ho c hm G (hr.mono hk) sL .nil hx ha (fL (gi bC).1 es X.env) (iC (gi bC).2) ht) λσ H Q h=>GV h
theorem GW (c:dI X.K C) (h:wa X.prog X.w X.K X.mg X.base Z.cl C k x ps fn) (hr:aO k' X.A) (hk:k<=k') (hx:Passes (bK X.prog X.w) X Z.E) (ho:PD X T Z o ma) (hb:attributeBase o x X.env (eval o X.env)=eval o X.env)
 (qC:(apos.endLine==pos.line)=true) (hn:ps.length=nn):PD X T Z (.Call (.Attribute o x apos) [] [] pos) (bH C fn x nn ma fe):=by
 subst hn;obtain⟨f,fd,G,hm,sL⟩:=h;obtain⟨pl,ht⟩:=AG (X:=X) (o:=o) (f:=x) (apos:=apos) (pos:=pos) (args:=[]) hb rfl (by decide) qC;refine PE.imp (Ga (pl:=pl) ho c hm G (hr.mono hk) sL .nil hx ht) λσ H Q h=>?_;obtain⟨F,r,env,bx,R,h⟩:=GV h;refine⟨F,r,env,bx,R,?_⟩;revert h;generalize ma env bx=O1;intro h;cases O1 with
 |bad=>exact h
 |exc c b=>exact h
 | val w b =>
   intro F' r' v H' g R' d';obtain⟨a,dx,fs,e1,e2,e3,F2,r2,bT,bx2,R2,h⟩:=h F' r' v H' g R' d';exact⟨a,dx,fs,e1,e2,e3,h F2 r2 [] H' (.refl F2 r2) R2 rfl⟩
end
def wb (f:Stmt->af):List Stmt->af
 |[]=>aT
 |s::r=>fI (f s) (wb f r)
theorem BP {X:Cx}{T:Fr}{Z:Xs}{f:Stmt->af}{st:Stmt}{t:TS}(h:∀ s,cM X T Z s (f s)) (hl:PS X st t):∀ b,bQ X (b++[st]) (λD σ H=>tS T Z (wb f b) { D with nx:=λσ' H'=>t D σ' H' } σ H)
 |[]=>bQ.imp (lF hl) λD σ H ⟨F,r,env,bx,R,h⟩=>h F r σ H (.refl F r) R
 | s::b=>by
   refine bQ.imp (gT (h s) (BP h hl b)) λD σ H ⟨F,r,env,bx,R,h⟩=>⟨F,r,env,bx,R,?_⟩;have h':dO T Z F r _ (fI (f s) (wb f b) env bx):=h;unfold fI at h';cases e:f s env bx with
   |nx env1 bx1=>rw[e]at h';exact λF1 r1 σ1 H1 g R1=>⟨F1,r1,env1,bx1,R1,dO.weak g h'⟩
   |rt w bx1=>rw[e]at h';exact h'
   |bk env1 bx1=>rw[e]at h';exact h'
   |ct env1 bx1=>rw[e]at h';exact h'
   |exc c bx1=>rw[e]at h';exact h'
   |bad=>rw[e]at h';exact h'
noncomputable def uD (n:Nat) (h:D):aF:=[some (.b n),some (.d h)]
def yt (C:Addr) (fl:Str) (m:af):Sp:=λvs H Q _=>∃ T F r bx x h hv au fs,vs=[.ref x,hv] /\ Rel T F (r++[x]) [] H [] (bx++[.ins C []]) /\ T.H₀ x=none /\ T.n₀<=r.length /\ Den F h hv /\
 m (uD r.length h) (bx++[.ins C []])=.nx au (bx++[.ins C fs]) /\ au[0]?=some (some (.b r.length)) /\ fs.length<1000 /\
 ∀ F' H' l,Sub F F'->Rel T F' (r++[l,x]) [] H' [] (bx++[.lst [],.ins C (rP fl (.inr r.length) fs)])->Q .ae H'
theorem Rel.Yc {x:Addr}{c:Bx}(R:Rel T F (r++[x]) σ H env (bx++[c])) (hx:T.H₀ x=none) (hn:T.n₀<=r.length):Rel T F r [] H [] bx:=by
 have hl:r.length=bx.length:=by have:=R.len;simp at this;exact this
 have nd:=tJ.mp R.nd;have up:∀ {n:Nat}{a:Addr},r[n]?=some a->(r++[x])[n]?=some a:=λe=>Cs (ng r [x]) _ _ e;refine⟨R.fh,λi w e=>by simp at e,hl,nd.1,λn c' a e1 e2=>?_,λa u e hn=>?_,λn a h e=>R.new n a h (up e),hn,ag _,λa u e=>?_⟩
 ·have k:=R.box n c' a (by rw[cu (List.getElem?_eq_some_iff.mp e1).1];exact e1) (up e2);have eQ:=(List.getElem?_eq_some_iff.mp e2).1;cases c' with
  |ins _ _=>obtain⟨q1,dx,vs,q2,q3⟩:=k;exact⟨q1,dx,vs,q2,cg.cy (Sub.refl F).d (λm hm b e=>by rw[cu (tm hm eQ)]at e;exact e) _ q3⟩
  |_=>exact k
 ·refine R.keep a u e λz=>?_;rcases List.mem_append.mp z with z|z
  ·exact hn z
  ·cases ni.mp z;rw[hx]at e;cases e
 ·rcases R.fs a u e with z|z|z|z
  ·exact .inl z
  ·exact .inr (.inl z)
  ·exact .inr (.inr (.inl z))
  ·rcases List.mem_append.mp z with z|z
   ·exact .inr (.inr (.inr z))
   ·cases ni.mp z;exact .inr (.inr (.inl hx))
theorem Rel.Yd (R:Rel T F r σ H env bx) (hf:F p=none) (hb:p∉r) (hT:T.H₀ p=none):Rel T F r σ (upd H p o) env bx:=by
 refine⟨λa u e=>?_,R.slot,R.len,R.nd,λn c a e1 e2=>?_,λa u e hn=>?_,R.new,R.n0,R.sl,R.fs⟩
 ·rw[fq (λz=>by rw[z,hf]at e;cases e)];exact R.fh a u e
 ·have ha:a≠p:=λz=>hb (List.mem_iff_getElem?.mpr ⟨n,z▸e2⟩);exact(R.box n c a e1 e2).grow (Sub.refl F) (kG r) id λu z=>by rw[fq ha];exact z
 ·rw[fq (λz=>by rw[z,hT]at e;cases e)];exact R.keep a u e hn
theorem Rel.Ye (R:Rel T F r σ H env bx) {c:Bx}(hb:p∉r) (hT:T.H₀ p=none) (hc:pQ F r r.length H p c):Rel T F (r++[p]) σ H env (bx++[c]):=by
 refine⟨R.fh,λi w e=>?_,by rw[bV,bV,R.len];rfl,?_,λn c' a e1 e2=>?_,λa u e hn=>R.keep a u e λz=>hn (kD _ z),λn a hn e=>?_,by rw[bV];exact bu R.n0 (tq _ _),R.sl,λa u e=>(R.fs a u e).imp id (Or.imp id (Or.imp id λz=>kD _ z))⟩
 ·obtain⟨v,e1,e2⟩:=R.slot i w e;exact⟨v,e1,e2.mono (Sub.refl F) (ng r [p])⟩
 ·rw[tJ];refine⟨R.nd,by simp,λa ha b pM=>?_⟩;rw[ni]at pM;subst pM;exact λz=>hb (z▸ha)
 ·by_cases hn:n<r.length
  ·rw[cu hn]at e2;rw[cu (by rw[<-R.len];exact hn)]at e1;exact(R.box n c' a e1 e2).grow (Sub.refl F) (ng r [p]) id λ_ z=>z
  ·have eQ:=(List.getElem?_eq_some_iff.mp e2).1;rw[bV,zF]at eQ;have qv:n=r.length:=by omega
   subst qv;rw[cq (ag _),eI]at e2;rw[cq (by rw[R.len];exact ag _),R.len,eI]at e1;simp at e1 e2;subst e1 e2;exact hc.grow (Sub.refl F) (ng r _) id λ_ z=>z
 ·by_cases hl:n<r.length
  ·rw[cu hl]at e;exact R.new n a hn e
  ·have eQ:=(List.getElem?_eq_some_iff.mp e).1;rw[bV,zF]at eQ;have qv:n=r.length:=by omega
   subst qv;rw[cq (ag _),eI]at e;simp at e;subst e;exact hT
section
variable {st : Stmt} {ps : List Str} {fl s0 : Str} {sm : Stmt -> af} {b4 : List Stmt} {p1 p2 p3 p4 : Pos}
theorem LV (F:cC K x qual st f fd) (S:nR N ps (fA st)) (Yf:ps.length=2) (hN:N.length=2) (c:dI K C) (na:nQ K C fl) (sL:fV st=b4++[.Assign [.Attribute (.Name s0 p1) fl p2] (.List [] p3) p4])
 (Yg:N[0]?=some s0) (hv:qt (fA st) s0) (hd:(s0==("__debug__":Str))=false) (cw:(s0==("__classdict__":Str))=false)
 (eL:∀ (cdv:Value) (A:Around) (outer:List Env) (s:Shared) (H:Hp) (E:XK) (T:Fr),aO k (A.deeper (envOfC qual (fA st) s.heap.objs.size f cdv)) ->
  ∀ s1,cM (kJ nS P w K mg base N qual (fA st) f cdv A outer s H E).qw T ⟨E0,cl⟩ s1 (sm s1)):bA P w K mg base (bK P w) (k+1) f fd ps (yt C fl (wb sm b4)):=by
 refine MJ (F.ok S (λvs H Q E h=>?_) (λcdv A outer s H vs Q E hr h=>?_))
 ·obtain⟨_,_,_,_,_,_,_,_,_,rfl,_⟩:=h;rw[Yf];rfl
 ·obtain ⟨T,F1,r,bx,x,h,vt,au,fs,rfl,R,hx,Yh,dh,hm,he,xH,hQ⟩:=h;have e2:r.length=bx.length:=by have:=R.len;simp at this;exact this
  refine⟨_,by rw[sL];exact BP (eL cdv A outer s H E T hr) (F9 (AO (i:=0) Yg hv hd cw) (jM fO) rfl) b4,?_⟩;have Yi:dJ F1 (r++[x]) [.b r.length,.d h] [.ref x,vt]:=⟨_,_,rfl,⟨x,rfl,by rw[cq (ag _),eI];rfl⟩,_,_,rfl,dh,rfl⟩;have R0:=R.start (N:=N) Yi;have ee:envOf N.length [.b r.length,.d h]=uD r.length h:=by rw[hN];rfl
  rw[ee]at R0;refine⟨F1,r++[x],_,_,R0,?_⟩;rw[hm];intro F2 r2 σ2 H2 g2 R2;have er:r2=r++[x]:=by
   obtain⟨t,rfl⟩:=g2.p;have:=R2.len;simp at this;have:t=[]:=List.length_eq_zero_iff.mp (by omega);rw[this,pE]
  subst er;have Th:(r++[x])[r.length]?=some x:=by rw[cq (ag _),eI];rfl
  obtain⟨v,e5,a,rfl,ha⟩:=R2.slot 0 _ he;rw[Th]at ha;cases ha;obtain⟨q1,dx,vs,q2,q3⟩:=R2.box r.length (.ins C fs) x (by rw[cq (by omega),e2,eI];rfl) Th;have Rc:=R2.Yc hx Yh;have Yj:x∉r:=λz=>(tJ.mp R2.nd).2.2 x z x (by simp) rfl;refine⟨k8 _,λl hl=>?_⟩;have Ti:x≠l:=fE q2 hl;refine⟨_,e5,x,C,dx,vs,rfl,by rw[fq Ti];exact q2,c,na,by rw[q3.len];exact xH,?_⟩;have Rl:=Rc.xO (p:=l) (o:=.lst []) (c:=.lst []) hl ⟨Rc.sq hl,[],fw,rfl⟩;have Tj:x∉r++[l]:=by simp[Yj,Ti]
  have Yk:cg F2 (r++[l]) (r++[l]).length fs vs:=by
   have q4:∀ (fs:List (Str×(D ⊕ Nat))) (vs:List (Str×V)),cg F2 (r++[x]) r.length fs vs->cg F2 (r++[l]) (r++[l]).length fs vs:=λfs=>by
    induction fs with
    |nil=>intro vs z;exact z
    | cons y fs ih =>
      obtain⟨ky,wy⟩:=y;intro vs ⟨v,t,z1,z2,z3⟩;refine⟨v,t,z1,?_,ih t z3⟩;cases wy with
      |inl d=>exact z2
      | inr m =>
        obtain⟨z4,a,z5,z6⟩:=z2;rw[cu z4]at z6;exact⟨by rw[bV];exact Nat.lt_add_right _ z4,a,z5,by rw[cu z4];exact z6⟩
   exact q4 fs vs q3
  have Rw:=Rl.Yd (p:=x) (o:=.ins C dx (dz fl (.ref l) vs)) q1 Tj hx;have zz:vH F2 (r++[l]) (r++[l]).length (.inr r.length) (.ref l):=⟨by simp,l,rfl,by rw[cq (ag _),eI];rfl⟩;have Ri:=Rw.Ye (p:=x) (c:=.ins C (rP fl (.inr r.length) fs)) Tj hx ⟨q1,dx,_,fw,Yk.put zz⟩;exact hQ F2 _ l g2.s (by simpa using Ri)
end
open Classical in
def uE (C:Addr) (fl:Str) (m:af) (k:DE (List W)):DE W:=λenv bx=>fB (k env bx) λws bx1=>match ws with
 | [.d h]=>(match m (uD bx1.length h) (bx1++[.ins C []]) with
   | .nx au bx2=>(match bx2.getLast? with
     |some (.ins _ fs)=>if bx2=bx1++[.ins C fs] /\ au[0]?=some (some (.b bx1.length)) /\ fs.length<1000 then .val (.b (bx1.length+1)) (bx1++[.lst [],.ins C (rP fl (.inr bx1.length) fs)]) else .bad
     |_=>.bad)
   |_=>.bad)
 |_=>.bad
section
variable {mk : DE (List W)} {p : Pos} {fl : Str} {ps : List Str} {m : af} {k' : Nat}
theorem LW (M:Mk X.K C f) (G:bA X.prog X.w X.K X.mg X.base (bK X.prog X.w) k f fd ps (yt C fl m)) (hr:aO k' X.A) (hk:k+1<=k') (hg:Gl X x) (hm:X.mg x=some (.ref C)) (hb:Binds X.K fd ps []) (hx:Passes (bK X.prog X.w) X Z.E) (ha:cD X T Z (e::es) mk)
 (bC:cT (e::es)=true) (bB:(x==("__debug__":Str))=false):PD X T Z (.Call (.Name x p) (e::es) [] pos) (uE C fl m mk):=by
 refine PE.imp (J2 M G (hr.mono hk) hg hm hb .nil hx ha bB (fL (gi bC).1 es X.env) (iC (gi bC).2)) λσ H Q ⟨F,r,env,bx,R,h⟩=>?_;refine⟨F,r,env,bx,R,End.bind h λws bx1 F1 r1 vs H1 g1 R1 d1 h1=>?_⟩;split at h1
 case h_2=>exact h1.elim
 rename_i hh;obtain⟨v,t,rfl,dh,rt⟩:=d1;cases (show t=[] from rt);split at h1
 case h_2=>exact h1.elim
 rename_i au bx2 em;split at h1
 case h_2=>exact h1.elim
 rename_i C' fs el;split at h1
 case isFalse=>exact h1.elim
 rename_i hc;obtain⟨eb,e0,hl⟩:=hc;subst eb;intro y dx ny Yl ne;have R2:=(R1.enter.SF (p:=dx) (o:=.own y) Yl);have Tn:upd H1 dx (.own y) y=none:=by rw[fq (Ne.symm ne)];exact ny
 have R3:=R2.xO (p:=y) (o:=.ins C dx []) (c:=.ins C []) Tn ⟨R2.sq Tn,dx,[],fw,rfl⟩;refine⟨_,F1,r1,bx1,y,hh,v,au,fs,rfl,R3,ny,ag _,dh,by rw[R1.len];exact em,by rw[R1.len];exact e0,hl,λF' H' l s R'=>⟨rfl,?_⟩⟩;have g:aJ F1 r1 F' (r1++[l,y]):=⟨s,ng _ _⟩;rw[R1.len]at R';refine h1 F' _ _ H' g (R1.after g (by rw[<-R1.len]at R' ⊢;exact R')) ⟨y,rfl,?_⟩;rw[<-R1.len,cq (by omega)];have:r1.length+1-r1.length=1:=by omega
 rw[this];rfl
end
end L2.DL
namespace HT
open PySem.W
section
variable {l I S : Addr} {nm : String} 
section
variable {kf : Nat -> Int} (hh : A.handled = none) (hl : s.heap.IsList l vs.toArray) (Ym : l ≠ I) (Yn : S ≠ I) (Yo : s.heap.get? S = none) (Yp : s.heap.get? I = none)
include hh hl Ym Yn Yo Yp
end
end
end HT
namespace L2
open PySem.W
section
variable {a : Expr} {p q kp : Pos} {t : TA}
end
end L2
namespace L2.DL
open PySem.W
section
variable {a : Expr} {p q kp : Pos} 
end
end L2.DL
namespace HT
open PySem.W
section
variable {t : Addr} 
end
end HT
namespace L2
open PySem.W
section
variable {a : Expr} {p p2 yo : Pos} {t : TA}
end
end L2
namespace L2.DL
open PySem.W
section
variable {a : Expr} {p p2 yo : Pos} 
end
end L2.DL
namespace HT
open PySem.W
section
variable {I : Addr} {wr : List Addr} {G : Array GenState -> Array GenState -> Prop} {P : Nat -> Value -> Prop} {St : Nat -> Shared -> Prop} {b : Bool}
end
section
variable {t : Addr} 
end
end HT
namespace L2
open PySem.W
section
variable {a : Expr} {p p2 yo : Pos} {t : TA}
end
end L2
namespace L2.DL
open PySem.W
section
variable {a : Expr} {p p2 yo : Pos} 
end
end L2.DL
namespace HT
open PySem.W
section
variable {v d it : Addr} {ep : Nat}
end
section
variable {K : Type} [DecidableEq K] {knd : HeapKind prog w K} {d : Addr} {k : K} {xs : List (K × Addr × Value)} 
end
end HT
namespace L2
open PySem.W
section
variable {o f : Expr} {cY p : Pos} {td ty tx : TE}
end
section
variable {elt it Yq Yr : Expr} {Ys : List Expr} {scope : Scope} {i acc : Value} {env : Env}
end
abbrev TK:=St->Hp->List Int->(St->Hp->List Int->Prop)->Prop
section
variable {D : Addr} 
end
section
variable {src : List (Option Nat)} {elt : Expr} {rest : List Comprehension} {scope : Scope} {cY p : Pos} {wi : TI} {g : TG} {tf : TT} {k : TK} {body : Value -> Env -> Sem Unit}
end
end L2
namespace L2.DL
section
variable {a : Expr} {p p1 : Pos}
end
section
variable {src : List (Option Nat)} {elt : Expr} {scope : Scope} {m : DE W} {g : DG} 
end
open PySem.W
abbrev DK:=aF->List Bx->List Int->Option (aF×List Bx×List Int)
section
variable {g : DG} {k : DK}
end
section
variable {src : List (Option Nat)} {elt Yq Yr : Expr} {Ys : List Expr} {scope : Scope} {cY p : Pos} {aaW : DE (List W)} {g g2 : DG} {aaX : DE Bool} 
end
section
variable {o f : Expr} {p cY : Pos} {mc : DE W}
end
section
variable {o f : Expr} {mc : DE W} {RK : Pos}
end
section
variable {vs : List V}
end
end L2.DL
namespace L2
end L2
namespace L2.DL
section
variable {a b c f o : Expr} {mc : DE W} {p : Pos} {k' nn : Nat} {ps : List Str} 
end
end L2.DL
namespace L2
open PySem.W
section
variable {o : Obj} 
end
end L2
namespace L2.DL
open PySem.W
section
variable {o : Obj} {l : List (Key × D)} 
end
end L2.DL
namespace HT
open PySem.W
section
variable {v d it : Addr} {ep : Nat}
end
end HT
namespace L2
open PySem.W
section
variable {o : Expr} {p : Pos} {td : TE}
end
end L2
namespace L2.DL
open PySem.W
section
variable {o : Expr} {p : Pos} {mc : DE W}
end
end L2.DL
namespace HT
open PySem.W
noncomputable def ak.flat:ak->Bool
 |.t _=>false
 |_=>true
theorem LX (A:Around) (s:Shared) {h:Heap}{a b:ak}(f:a.flat=true) (p:eF h v a) (q:eF h u b) (hl:a.kY b=true):∃ e,SeqAt.EqAt A s v u e /\ (e=true ↔ a=b):=by
 cases a with
 | i n =>
   cases b with
   |i m=>obtain⟨t,rfl⟩:=p;obtain⟨t',rfl⟩:=q;exact⟨_,xc n t m t',by simp⟩
   |_=>cases hl
 | s x =>
   cases b with
   |s y=>obtain⟨t,rfl⟩:=p;obtain⟨t',rfl⟩:=q;exact⟨_,Eb x t y t',by simp⟩
   |_=>cases hl
 |t _=>cases f
theorem LY (A:Around) (s:Shared) {h:Heap}{a b:ak}(f:a.flat=true) (p:eF h v a) (q:eF h u b) (hl:a.kY b=true) (prog:Program) (w:World) (E:Value->Shared->Prop) (Q:Value->Shared->Prop) (k:Q (.bool (a.lt b)) s) :
 wpAny (model prog w) A (richCompare .Lt v u) Q E s:=by
 cases a with
 | i n =>
   cases b with
   |i m=>obtain⟨t,rfl⟩:=p;obtain⟨t',rfl⟩:=q;exact(zO k:wpAny (model prog w) A (compareOp .Lt _ _) Q E s)
   |_=>cases hl
 | s x =>
   cases b with
   |s y=>obtain⟨t,rfl⟩:=p;obtain⟨t',rfl⟩:=q;exact(lt_str k:wpAny (model prog w) A (compareOp .Lt _ _) Q E s)
   |_=>cases hl
 |t _=>cases f
section
open PySem.SeqAt
open PySem.AutoSeq1 (wpAny_loadPart')
open PySem.MeetsSeq PySem.MeetsSeq2 PySem.MeetsSeq3
theorem Ao (l b:Addr) (items items2:Array Value) (n n2:Nat) (dd nv:Option Addr) (sl nz:Array (Option Value)) (h0:Heap) (x y:List ak) (hi:cS h0 items.toList x) (hj:cS h0 items2.toList y) (fx:x.all ak.flat=true) (hl:cR x y=true) :
 Meets (Builtin.«tuple.__lt__» ⟨[.ref l,.ref b],[]⟩)
  (λ_ R s=>s.heap.get? l=some { cls:=.type "tuple",dict:=dd,data:=.seq items n,slots:=sl } /\ s.heap.get? b=some { cls:=.type "tuple",dict:=nv,data:=.seq items2 n2,slots:=nz } /\
   R (.ok (.ret (.bool (a5 x y)))) s):=
 .of_wp λprog w A R s h=>by
  obtain⟨hp,g,d,tk,os⟩:=s;obtain⟨eD,hb,h⟩:=h;have f2:=Q0;have z1:items.size=x.length:=by rw[<-hi.length];simp
  have z2:items2.size=y.length:=by rw[<-hj.length];simp
  wp_walk using wpAny_loadPart' eD,wpAny_loadPart' hb,Ku _ (λrest b s'=>b.1=none /\ s'=⟨hp,g,d,tk,os⟩ /\ ∃ (vs ws:List Value) (p q:List ak),rest=vs.zip ws /\
   cS h0 vs p /\ cS h0 ws q /\ p.all ak.flat=true /\ cR p q=true /\ p.length+items2.size=q.length+items.size /\ R (.ok (.ret (.bool (a5 p q)))) ⟨hp,g,d,tk,os⟩) _
  case turn =>
   rintro⟨v,u⟩ rest b s' ⟨pM,rfl,vs,ws,p,q,hz,hv,hw,hf,hk,hlen,hR⟩;cases hv with
   |nil=>rw[uZ]at hz;cases hz
   | @cons v' a vs p ha vt =>
     cases hw with
     |nil=>rw[wI]at hz;cases hz
     | @cons u' c ws q hc Yt =>
       rw[qi]at hz;injection hz with EF EG;injection EF with hy hx;subst hy hx;simp only[aX]at hlen;have nC:(a.kY c&&cR p q)=true:=hk;rw[k9]at hf;rw[aw]at hf nC;unfold a5 at hR;obtain⟨e,he,vz⟩:=LX A.in1 ⟨hp,g,d,tk,os⟩ hf.1 ha hc nC.1;refine aa (he prog w _ _ ?_);cases e with
       | true =>
         rw[if_pos (vz.mp rfl)]at hR
         wp_walk
         exact⟨rfl,rfl,_,_,_,_,EG,vt,Yt,hf.2,nC.2,by omega,hR⟩
       | false =>
         rw[if_neg (λq=>absurd (vz.mpr q) b9)]at hR;have EH:=LY A.in1 ⟨hp,g,d,tk,os⟩ hf.1 ha hc nC.1 prog w
         wp_walk using EH
         exact⟨_,rfl,by simpa using hR⟩
  case fin =>
   rintro⟨b1,b2⟩ s' ⟨pM,rfl,vs,ws,p,q,hz,hv,hw,hf,hk,hlen,hR⟩;simp only at pM;subst pM;have hx:a5 p q=decide (items.size<items2.size):=by
    cases hv with
    | nil =>
      cases hw with
      |nil=>simp only[kF]at hlen;unfold a5;exact(decide_eq_false (by omega)).symm
      |cons c hw=>simp only[kF,aX]at hlen;unfold a5;exact(decide_eq_true (by omega)).symm
    | cons a hv =>
      cases hw with
      |nil=>simp only[kF,aX]at hlen;unfold a5;exact(decide_eq_false (by omega)).symm
      |cons c hw=>rw[qi]at hz;cases hz
   rw[hx]at hR
   wp_walk
   exact⟨_,rfl,by simpa[Builtin.Tuple.tupleCompareSizes] using hR⟩
  case h=>exact⟨rfl,rfl,items.toList,items2.toList,x,y,rfl,hi,hj,fx,hl,by omega,h⟩
end
theorem LZ {l b:Addr}{items2:Array Value}{x y:List ak}(hl:IsTup s.heap l items) (hb:IsTup s.heap b items2) (hi:cS s.heap items.toList x) (hj:cS s.heap items2.toList y)
 (fx:x.all ak.flat=true) (hk:cR x y=true) (hu:A.units<cLine) (h:Q (.bool (a5 x y)) s):wpAny (model prog w) A (compareOp .Lt (.ref l) (.ref b)) Q E s:=by
 obtain⟨⟨cls,dd,data,sl⟩,ho,hc,n,hd⟩:=id hl;obtain⟨⟨EI,nv,data2,nz⟩,kL,eO,n2,hd2⟩:=id hb;simp only at hc hd eO hd2;subst hc hd eO hd2;exact Kv (op:=.Lt) ⟨_,ho,rfl⟩ ⟨_,kL,rfl⟩ QO QP (QQ _ _) (Ao l b items items2 n n2 dd nv sl nz s.heap x y hi hj fx hk)
  ⟨ho,kL,show Value.bool (a5 x y)≠Value.notImplemented /\ Q (.bool (a5 x y)) s from⟨(λx=>nomatch x),h⟩⟩ hu
end HT
namespace L2.DL
open PySem.W
open HT (ak cR a5)
def HF:R2:=λx y H Q=>∃ F a b vs us l m,x=.ref a /\ y=.ref b /\ Sub F H /\ F a=some (.tup vs) /\ F b=some (.tup us) /\ aj F (l.map sJ) vs /\ aj F (m.map sJ) us /\ l.all ak.flat=true /\ cR l m=true /\ Q (.bl (a5 l m)) H
theorem N9 (hu:X.A.units<cLine):aA X (compareOp .Lt) HF:=by
 intro pins s σ H x y v u Q I rx ry h;obtain⟨F,a,b,vs,us,l,m,rfl,rfl,sub,fa,fb,da,db,f,k,q⟩:=h;cases rx;cases ry;obtain⟨_,its,r1,p1⟩:=(show aZ X.prog X.w H s.heap a (.tup vs) from I.ai a _ (sub _ _ fa));obtain⟨_,rm,r2,p2⟩:=(show aZ X.prog X.w H s.heap b (.tup us) from I.ai b _ (sub _ _ fb));exact HT.LZ p1 p2 (by simpa using A6 I sub da r1) (by simpa using A6 I sub db r2) f k hu ⟨.bl (a5 l m),H,I,rfl,q⟩
def dG:D->D->Option Res
 |.int i,.int j=>some (.old (.bl (decide (i<j))))
 | .tup a,.tup b=>(match intsOf a,intsOf b with
   |some ns,some ms=>some (.old (.bl (HT.lexLt ns ms)))
   | _,_=>match rN a,rN b with
     |some l,some m=>if l.all ak.flat=true /\ cR l m=true then some (.old (.bl (a5 l m))) else none
     |_,_=>none)
 |_,_=>none
theorem Oa (hu:X.A.units<cLine):aA X (compareOp .Lt) (λx y H Q=>(dZ (λi j=>.bl (decide (i<j))) x y H Q \/ vA X.K x y H Q) \/ HF x y H Q):=(Ly hu).or (N9 hu)
theorem Yu:bp (λx y H Q=>(dZ (λi j=>.bl (decide (i<j))) x y H Q \/ vA K x y H Q) \/ HF x y H Q) dG:=by
 intro F H x y v w Q s sub rx ry e k;unfold dG at e;split at e
 ·exact .inl (SQ F H _ _ v w Q s sub rx ry e k)
 ·rename_i a b;split at e
  ·rename_i ns ms e1 e2;exact .inl (SQ F H _ _ v w Q s sub rx ry (by show ((intsOf a).bind λns=>(intsOf b).map λms=>Res.old (.bl (HT.lexLt ns ms)))=some s;rw[e1,e2];exact e) k)
  ·split at e
   ·rename_i l m e1 e2;split at e
    ·rename_i c;cases e;rw[lR e1]at rx;rw[lR e2]at ry;obtain⟨p,vs,rfl,h1,h2⟩:=rx;obtain⟨q,us,rfl,h3,h4⟩:=ry;exact .inr ⟨F,p,q,vs,us,l,m,rfl,rfl,sub,h1,h3,h2,h4,c.1,c.2,k _ _ ⟨rfl,rfl⟩⟩
    ·cases e
   ·cases e
 ·cases e
end L2.DL
namespace HT
open PySem.W
end HT
namespace L2
open PySem.W
section
variable {o : Expr} {p cY : Pos} {td : TE}
end
end L2
namespace L2.DL
open PySem.W
section
variable {o : Expr} {p cY : Pos} {mc : DE W}
end
section
variable {body : List Stmt} {mi : DE W} {g : DG} {m : af}
end
section
variable {pos' : Pos} 
end
end L2.DL
namespace K1
open L2 L2.DL
def oP:af:=(fY (gx (lf "int" (dV 0)) (xR (lf "bool" (dV 0)))))
def iQ:List W->List Bx->O W:=aD 1 (aK oP)
def mS:af:=(fY (gx (fk K1.iQ 1 (fc (dV 0) fe)) (d3 pU pU (dV 1) (dV 0) (dV 2))))
def fZ:List W->List Bx->O W:=aD 3 (aK mS)
def oQ:af:=(fY (gx (lf "tuple" (dV 0)) (d3 pU pU (dV 1) (dN false bU (fc (dV 0) fe)) (dV 2))))
def fX:List W->List Bx->O W:=aD 3 (aK oQ)
def mT:af:=(fY (dN false dA (fc (gu false [none,some 0] (ug (fc (dC (.int 1)) (fc (dN false bU (fc (dV 0) fe)) fe))) (fg 0) gz (d2 false dG (d2 false ax (dV 1) (d2 false dk (dV 0) (dC (.int 1)))) (d2 false ax (dV 1) (dV 0)))) fe)))
def jy:List W->List Bx->O W:=aD 1 (aK mT)
def iR:af:=(fY (gx (fk K1.fX 3 (fc (dV 0) (fc (dC (.int 1)) (fc (dC (.int 5)) fe)))) (dN false dA (fc (gu false [none] (bY (dV 0)) (fg 0) gz (fk K1.fZ 3 (fc (dV 0) (fc (dC (.int 0)) (fc (dC (.int 3)) fe))))) fe))))
def iG:List W->List Bx->O W:=aD 1 (aK iR)
def iS:af:=(fI (aM (dM (aS (dB (fk K1.fX 3 (fc (dV 0) (fc (d2 false fN (dC (.int 3)) (dC (.int 1))) (fc (d2 false fN (dC (.int 3)) (dC (.int 1))) fe)))))) (aS (dB (dN false dA (fc (gu false [none] (bY (dV 0)) (fg 0) gz (fk K1.fZ 3 (fc (dV 0) (fc (dC (.int 0)) (fc (dC (.int 9)) fe))))) fe))))) (fY (dC (.bl false))) aT) (fY (dN false dA (fc (gu false [none,none] (pf (fc (dV 0) (fc (rJ false (dV 0) (rH (dC (.int 1))) sy) fe))) (iP 2 (f8 (fg 0) (f8 (fg 1) jH))) gz (d2 false pU (dV 1) (dV 0))) fe))))
def jz:List W->List Bx->O W:=aD 1 (aK iS)
def j6:af:=(fY (gx (fk K1.fX 3 (fc (dV 0) (fc (dC (.int 2)) (fc (dC (.int 2)) fe)))) (gx (fk K1.fZ 3 (fc (d2 false ax (dV 0) (dC (.int 0))) (fc (dC (.int 1)) (fc (dC (.int 999)) fe)))) (fk K1.jz 1 (fc (d2 false ax (dV 0) (dC (.int 1))) fe)))))
def lw:List W->List Bx->O W:=aD 1 (aK j6)
def iT:af:=(fY (gx (fk K1.fX 3 (fc (dV 0) (fc (dC (.int 1)) (fc (dC (.int 4)) fe)))) (dN false dA (fc (gu false [none] (bY (dV 0)) (fg 0) gz (fk K1.lw 1 (fc (dV 0) fe))) fe))))
def iH:List W->List Bx->O W:=aD 1 (aK iT)
def gK:af:=(fI (aM (aS (dB (fk K1.fX 3 (fc (dV 0) (fc (dC (.int 2)) (fc (dC (.int 2)) fe)))))) (fY (dC (.bl false))) aT) (fY (gx (dN false dA (fc (gu false [none,some 1] (bY (dV 0)) (fg 0) gz (fk K1.fZ 3 (fc (dV 0) (fc (dC (.int 0)) (fc (d2 false dk (dV 1) (dC (.int 1))) fe))))) fe)) (d2 false dG (d2 false ax (dV 0) (dC (.int 0))) (d2 false ax (dV 0) (dC (.int 1)))))))
def gG:List W->List Bx->O W:=aD 2 (aK gK)
def iU:af:=(fI (aM (aS (dB (lf "tuple" (dV 0)))) (fY (dC (.bl false))) aT) (fY (gx (dN false dA (fc (gu false [none,some 1] (bY (dV 0)) (fg 0) gz (fk K1.gG 2 (fc (dV 0) (fc (dV 1) fe)))) fe)) (fk K1.jy 1 (fc (dV 0) fe)))))
def gk:List W->List Bx->O W:=aD 2 (aK iU)
def jA:af:=(fI (aM (aS (dB (fk K1.fX 3 (fc (dV 0) (fc (dC (.int 4)) (fc (dC (.int 4)) fe)))))) (fY (dC (.bl false))) aT) (fI (gc (dV 0) (iP 4 (f8 (fg 1) (f8 (fg 2) (f8 (fg 3) (f8 (fg 4) jH)))))) (fY (gx (fk K1.iG 1 (fc (dV 1) fe)) (gx (fk K1.iH 1 (fc (dV 2) fe)) (gx (fk K1.gk 2 (fc (dV 3) (fc (dN false bU (fc (dV 2) fe)) fe))) (fk K1.fZ 3 (fc (dV 4) (fc (dC (.int 1)) (fc (dC (.int 9)) fe))))))))))
def jU:List W->List Bx->O W:=aD 5 (aK jA)
def iZ:af:=(fI (aM (dB (d2 false dG (dV 1) (pV (dV 0)))) (fY (yb (dV 0) (dV 1))) aT) (fY (dC (.int 0))))
def gX:List W->List Bx->O W:=aD 2 (aK iZ)
def jk:af:=(fI (aM (dB (d2 false qH (dV 0) (d2 false dR (dC (.int 10)) (dC (.int 18))))) (fY (iE true (fc (d2 false dk (dV 0) (d2 false dR (dC (.int 10)) (dC (.int 18)))) fe))) aT) (fI (gc (dC (.int 0)) (fg 1)) (fI (jg (cQ (fc (dC (.int 64)) fe)) (fg 2) (fI (gc (d2 false dQ (d2 false dD (d2 false fN (d2 false fN (d2 false dQ (dV 0) (dC (.int 2147483629))) (d2 false dD (dC (.int 7919)) (dV 2))) (dC (.int 1))) (dC (.int 48271))) (dC (.int 2147483647))) (fg 3)) (fI (gc (d2 false dQ (d2 false fN (d2 false fN (d2 false dD (dV 3) (dV 3)) (d2 false dD (dC (.int 69621)) (dV 2))) (dC (.int 7))) (dC (.int 2147483587))) (fg 3)) (gc (d2 false fN (d2 false dD (dV 1) (dC (.int 2147483587))) (dV 3)) (fg 1))))) (fY (iE true (fc (dV 1) fe))))))
def jB:List W->List Bx->O W:=aD 4 (aK jk)
def oR:af:=(fI (gc (d2 false dQ (d2 false ax (dV 0) (dC (.int 0))) (dV 1)) (fg 2)) (fI (gc (d2 false rF (d2 false ax (dV 0) (dC (.int 0))) (dV 1)) (vQ (dV 0) (dC (.int 0)))) (fY (dV 2))))
def fm:List W->List Bx->O W:=aD 3 (aK oR)
def lg:af:=(fI (gc (d2 false ax (iE false (fc (dC (.int 9)) (fc (dC (.int 3)) (fc (dC (.int 1)) (fc (dC (.int 9)) fe))))) (fk K1.fm 2 (fc (dV 0) (fc (dC (.int 4)) fe)))) (fg 1)) (fI (gc (xY false (dN false dF (fc (gu false [none,some 0,some 1] (cQ (fc (dC (.int 4)) fe)) (fg 0) gz (fk K1.fm 2 (fc (dV 1) (fc (d2 false fN (dV 2) (dC (.int 1))) fe)))) fe))) (fg 2)) (fY (fG (fc (d2 false ax (iE false (fc (dC (.int 30)) (fc (d2 false fN (dC (.int 1)) (fk K1.fm 2 (fc (dV 0) (fc (dC (.int 20)) fe)))) (fc (dC (.int 999)) (fc (dC (.int 8)) fe))))) (fk K1.fm 2 (fc (dV 0) (fc (dC (.int 4)) fe)))) (fc (dN false eS (fc (dV 2) fe)) fe))))))
def gC:List W->List Bx->O W:=aD 3 (aK lg)
end K1
namespace K2
open L2 L2.DL
def iI:af:=(aM (aS (dB (fk K1.jU 1 (fc (dV 0) fe)))) (kZ 0 (dC (.str "a house is a tuple (rooms, kinds, apart, hold)"))) aT)
def ja:List W->List Bx->O W:=aD 1 iI
def iV:af:=(fY (dN false dA (fc (gu false [none,none] (pf (fc (dV 0) (fc (rJ false (dV 0) (rH (dC (.int 1))) sy) fe))) (iP 2 (f8 (fg 0) (f8 (fg 1) jH))) gz (d2 false dG (d2 false ax (dV 0) (dC (.int 1))) (d2 false ax (dV 1) (dC (.int 0))))) fe)))
def iJ:List W->List Bx->O W:=aD 1 (aK iV)
def mB:af:=(fY (gx (fk K1.iQ 1 (fc (dV 0) fe)) (d2 false qH (dV 0) (dC (.int 0)))))
def gL:List W->List Bx->O W:=aD 1 (aK mB)
def lS:af:=(fY (gx (fk K1.fX 3 (fc (dV 0) (fc (dC (.int 2)) (fc (dC (.int 2)) fe)))) (gx (fk K2.gL 1 (fc (d2 false ax (dV 0) (dC (.int 0))) fe)) (gx (fk K2.gL 1 (fc (d2 false ax (dV 0) (dC (.int 1))) fe)) (d2 false dG (d2 false ax (dV 0) (dC (.int 0))) (d2 false ax (dV 0) (dC (.int 1))))))))
def jl:List W->List Bx->O W:=aD 1 (aK lS)
end K2
namespace eG
open L2 L2.DL
end eG
namespace aE
open L2 L2.DL
def jV:af:=(fI (gc (dN false eS (fc (gu false [none,some 0] (cQ (fc (d2 false fN (dC (.int 1)) (fk K1.fm 2 (fc (dV 0) (fc (dC (.int 5)) fe)))) fe)) (fg 0) gz (fk K1.fm 2 (fc (dV 1) (fc (dC (.int 4)) fe)))) fe)) (fg 1)) (fI (gc (dN false eS (fc (gu false [none,some 0] (cQ (fc (d2 false fN (dC (.int 1)) (fk K1.fm 2 (fc (dV 0) (fc (dC (.int 4)) fe)))) fe)) (fg 0) gz (fk K1.gC 1 (fc (dV 1) fe))) fe)) (fg 2)) (fI (gc (iE false fe) (fg 3)) (fI (jg (cQ (fc (dN false bU (fc (dV 2) fe)) fe)) (fg 4) (gc (d2 false fN (dV 3) (gu false [none,some 0,some 4] (cQ (fc (dV 4) fe)) (fg 0) (dB (d2 false bw (fk K1.fm 2 (fc (dV 1) (fc (dC (.int 3)) fe))) (dC (.int 0)))) (fG (fc (dV 0) (fc (dV 2) fe))))) (fg 3))) (fY (fG (fc (dV 1) (fc (dV 2) (fc (dN false eS (fc (dN false dF (fc (dV 3) fe)) fe)) (fc (d2 false ax (iE false (fc (dC (.int 1)) (fc (dC (.int 2)) (fc (dC (.int 9)) (fc (d2 false fN (dC (.int 1)) (fk K1.fm 2 (fc (dV 0) (fc (dC (.int 9)) fe)))) fe))))) (fk K1.fm 2 (fc (dV 0) (fc (dC (.int 4)) fe)))) fe))))))))))
def gY:List W->List Bx->O W:=aD 5 (aK jV)
def jm:af:=(fI (vK 2 3 (fc (d2 false dk (dN false bU (fc (d2 false ax (dV 0) (dC (.int 1))) fe)) (dC (.int 1))) (fc (d2 false dk (dN false bU (fc (d2 false ax (dV 0) (dC (.int 0))) fe)) (dC (.int 1))) fe))) (fI (aM (dB (d2 false bw (dV 1) (dC (.str "in")))) (fY (fG (fc (dC (.int 9)) (fc (dV 2) (fc (dV 3) (fc (dC (.int 999)) (fc (dC (.int 99)) fe))))))) aT) (fI (aM (dB (d2 false bw (dV 1) (dC (.str "out")))) (fY (fG (fc (dC (.int 9)) fe))) aT) (fI (aM (dB (d2 false bw (dV 1) (dC (.str "to")))) (fY (fG (fc (dC (.int 9)) (fc (dV 3) fe)))) aT) (fY (fG fe))))))
def gZ:List W->List Bx->O W:=aD 4 (aK jm)
def jn:af:=(fI (aM (dM (aS (dB (lf "tuple" (dV 1)))) (dM (dB (d2 false dG (dN false bU (fc (dV 1) fe)) (dC (.int 3)))) (aS (dB (fk K2.gL 1 (fc (d2 false ax (dV 1) (dC (.int 0))) fe)))))) (fY (dC (.bl false))) aT) (fI (gc (fk aE.gZ 2 (fc (dV 0) (fc (d2 false ax (dV 1) (dC (.int 1))) fe))) (fg 2)) (fI (aM (dB (d2 false pT (dN false bU (fc (dV 2) fe)) (d2 false dk (dN false bU (fc (dV 1) fe)) (dC (.int 2))))) (fY (dC (.bl false))) aT) (fY (dN false dA (fc (gu false [none,none] (pf (fc (rJ false (dV 1) (rH (dC (.int 2))) sy) (fc (dV 2) fe))) (iP 2 (f8 (fg 0) (f8 (fg 1) jH))) gz (fk K1.fZ 3 (fc (dV 0) (fc (dC (.int 0)) (fc (dV 1) fe))))) fe))))))
def gm:List W->List Bx->O W:=aD 3 (aK jn)
end aE
namespace K83
open L2 L2.DL
noncomputable section
def jW (C:Addr):af:=(fI (ij (fk K2.ja 1 (fc (dV 1) fe))) (fI (k6 C (dV 0) "home" (dV 1)) (fI (k6 C (dV 0) "kept" (fG fe)) (fI (k6 C (dV 0) "dark_hours" (fG fe)) aT))))
noncomputable def FC (C:Addr):List W->List Bx->O W:=λ_ _=>.bad
def AH (C:Addr):af:=(fY (dN false xX (fc (bf C (dV 0) "kept") fe)))
def io (C:Addr):List W->List Bx->O W:=aD 1 (aK (AH C))
def BQ (C:Addr):af:=(fY (bf C (dV 0) "dark_hours"))
def ip (C:Addr):List W->List Bx->O W:=aD 1 (aK (BQ C))
def gJ (C:Addr):af:=(aM (aS (dB (fk aE.gm 2 (fc (bf C (dV 0) "home") (fc (dV 1) fe))))) (kZ 11 (dC (.str "a page is a tuple of the house's own numbers"))) aT)
def gD (C:Addr):List W->List Bx->O W:=aD 2 (gJ C)
def lT (C:Addr):af:=(fI (ij (ui (bf C (dV 0) "earlier") (fG (fc (bf C (dV 0) "kept") (fc (bf C (dV 0) "dark_hours") fe))))) (fI (k6 C (dV 0) "kept" (dN false eS (fc (dN false dF (fc (dV 1) fe)) fe))) (k6 C (dV 0) "dark_hours" (dN false eS (fc (dN false dF (fc (dV 2) fe)) fe)))))
def iL (C:Addr):List W->List Bx->O W:=aD 3 (aK (lT C))
def g6 (C:Addr):af:=(fI (ij (bH C (K83.gD C) "need_page" 2 (dV 0) (fc (dV 1) fe))) (fI (aM (dB (d2 false (inD false) (dV 1) (bf C (dV 0) "kept"))) (kZ 13 (dC (.str "this page is there already"))) aT) (fI (aM (dB (d2 false qH (dN false bU (fc (bf C (dV 0) "kept") fe)) (dC (.int 16)))) (kZ 15 (dC (.str "sixteen pages are there already"))) aT) (ij (bH C (K83.iL C) "keep" 3 (dV 0) (fc (d2 false fN (bf C (dV 0) "kept") (fG (fc (dV 1) fe))) (fc (bf C (dV 0) "dark_hours") fe)))))))
def gR (C:Addr):List W->List Bx->O W:=aD 2 (g6 C)
def mC:af:=(fY (dN false eS (fc (gu false [none,some 1] (bY (dV 0)) (fg 0) (dB (d2 false pT (dV 0) (dV 1))) (dV 0)) fe)))
def jC:List W->List Bx->O W:=aD 2 (aK mC)
def gM (C:Addr):af:=(fI (ij (bH C (K83.gD C) "need_page" 2 (dV 0) (fc (dV 1) fe))) (fI (aM (dB (d2 false (inD true) (dV 1) (bf C (dV 0) "kept"))) (kZ 14 (dC (.str "this page isn't there"))) aT) (ij (bH C (K83.iL C) "keep" 3 (dV 0) (fc (fk K83.jC 2 (fc (bf C (dV 0) "kept") (fc (dV 1) fe))) (fc (bf C (dV 0) "dark_hours") fe))))))
def gE (C:Addr):List W->List Bx->O W:=aD 2 (gM C)
def g9 (C:Addr):af:=(fI (gc (fG (fc (dV 1) (fc (dV 2) fe))) (fg 3)) (fI (aM (dM (aS (dB (fk K2.jl 1 (fc (dV 3) fe)))) (aS (dB (fk K2.iJ 1 (fc (dN false dF (fc (d2 false fN (bf C (dV 0) "dark_hours") (fG (fc (dV 3) fe))) fe)) fe))))) (kZ 12 (dC (.str "an out has a begin less than its end, and meets or touches none that is there"))) aT) (fI (aM (dB (d2 false qH (dN false bU (fc (bf C (dV 0) "dark_hours") fe)) (dC (.int 4)))) (kZ 15 (dC (.str "four outs are there already"))) aT) (ij (bH C (K83.iL C) "keep" 3 (dV 0) (fc (bf C (dV 0) "kept") (fc (d2 false fN (bf C (dV 0) "dark_hours") (fG (fc (dV 3) fe))) fe)))))))
def gS (C:Addr):List W->List Bx->O W:=aD 4 (g9 C)
def iq (C:Addr):af:=(fI (gc (fG (fc (dV 1) (fc (dV 2) fe))) (fg 3)) (fI (aM (aS (dB (fk K2.jl 1 (fc (dV 3) fe)))) (kZ 12 (dC (.str "an out has a begin less than its end"))) aT) (fI (aM (dB (d2 false (inD true) (dV 3) (bf C (dV 0) "dark_hours"))) (kZ 14 (dC (.str "this out isn't there"))) aT) (ij (bH C (K83.iL C) "keep" 3 (dV 0) (fc (bf C (dV 0) "kept") (fc (fk K83.jC 2 (fc (bf C (dV 0) "dark_hours") (fc (dV 3) fe))) fe)))))))
def gN (C:Addr):List W->List Bx->O W:=aD 4 (iq C)
def fv (C:Addr):af:=(fI (qM (aM (dB (d2 false bw (d2 false ax (dV 1) (dC (.int 0))) (dC (.str "tell")))) (ij (bH C (K83.gR C) "tell" 2 (dV 0) (fc (d2 false ax (dV 1) (dC (.int 1))) fe))) (aM (dB (d2 false bw (d2 false ax (dV 1) (dC (.int 0))) (dC (.str "strike")))) (ij (bH C (K83.gE C) "strike" 2 (dV 0) (fc (d2 false ax (dV 1) (dC (.int 1))) fe))) (aM (dB (d2 false bw (d2 false ax (dV 1) (dC (.int 0))) (dC (.str "dark")))) (ij (bH C (K83.gS C) "dark" 3 (dV 0) (fc (d2 false ax (dV 1) (dC (.int 1))) (fc (d2 false ax (dV 1) (dC (.int 2))) fe)))) (aM (dB (d2 false bw (d2 false ax (dV 1) (dC (.int 0))) (dC (.str "light")))) (ij (bH C (K83.gN C) "light" 3 (dV 0) (fc (d2 false ax (dV 1) (dC (.int 1))) (fc (d2 false ax (dV 1) (dC (.int 2))) fe)))) (ij (λ_ _=>.bad))))))) (fY (dC (.str ""))))
def fC (C:Addr):List W->List Bx->O W:=aD 3 (aK (fv C))
def jo (C:Addr):af:=(fI (gc (sC (fG (fc (bH C (K83.io C) "pages" 1 (dV 0) fe) (fc (bH C (K83.ip C) "outs" 1 (dV 0) fe) fe)))) (fg 3)) (fY (gx (d2 false bw (fk (K83.fC C) 2 (fc (dV 0) (fc (dV 1) fe))) (dV 2)) (xQ (d2 false bw (dV 2) (dC (.str ""))) (d2 false bw (sC (fG (fc (bH C (K83.io C) "pages" 1 (dV 0) fe) (fc (bH C (K83.ip C) "outs" 1 (dV 0) fe) fe)))) (dV 3))))))
def fF (C:Addr):List W->List Bx->O W:=aD 4 (aK (jo C))
def ia (C:Addr):af:=(fI (gc (fk K1.fm 2 (fc (dV 0) (fc (d2 false dR (dC (.int 10)) (dC (.int 30))) fe))) (fg 2)) (fI (jg (cQ (fc (dC (.int 16)) fe)) (fg 3) (fI (gc (fG (fc (d2 false fN (dV 2) (d2 false rF (dV 3) (dC (.int 3)))) (fc (dC (.str "out")) (fc (d2 false dQ (dV 3) (dC (.int 3))) fe)))) (fg 4)) (aM (dM (aS (dB (fk (K83.fF C) 3 (fc (dV 1) (fc (fG (fc (dC (.str "tell")) (fc (dV 4) fe))) (fc (dC (.str "")) fe)))))) (aS (dB (fk (K83.fF C) 3 (fc (dV 1) (fc (fG (fc (dC (.str "tell")) (fc (dV 4) fe))) (fc (dC (.str "twice")) fe))))))) (fY (dC (.bl false))) aT))) (fI (gc (fG (fc (d2 false fN (dV 2) (dC (.int 9))) (fc (dC (.str "out")) (fc (dC (.int 9)) fe)))) (fg 5)) (fI (gc (iE false (fc (fG (fc (fG (fc (dC (.str "tell")) (fc (dV 5) fe))) (fc (dC (.str "many")) fe))) (fc (fG (fc (fG (fc (dC (.str "tell")) (fc (fG (fc (dV 2) (fc (dC (.str "out")) (fc (dC (.int 0)) fe)))) fe))) (fc (dC (.str "twice")) fe))) (fc (fG (fc (fG (fc (dC (.str "tell")) (fc (fG (fc (dV 2) (fc (dC (.str "out")) fe))) fe))) (fc (dC (.str "page")) fe))) fe)))) (fg 6)) (fI (gc (d2 false fN (dV 6) (iE false (fc (fG (fc (fG (fc (dC (.str "strike")) (fc (dV 5) fe))) (fc (dC (.str "missing")) fe))) (fc (fG (fc (fG (fc (dC (.str "strike")) (fc (fG (fc (dV 2) (fc (dC (.str "out")) (fc (dC (.int 10)) fe)))) fe))) (fc (dC (.str "page")) fe))) (fc (fG (fc (fG (fc (dC (.str "strike")) (fc (dC .ae) fe))) (fc (dC (.str "page")) fe))) fe))))) (fg 6)) (fI (jg (bY (dV 6)) (iP 2 (f8 (fg 7) (f8 (fg 8) jH))) (aM (aS (dB (fk (K83.fF C) 3 (fc (dV 1) (fc (dV 7) (fc (dV 8) fe)))))) (fY (dC (.bl false))) aT)) (fI (aM (dM (aS (dB (fk (K83.fF C) 3 (fc (dV 1) (fc (fG (fc (dC (.str "strike")) (fc (fG (fc (dV 2) (fc (dC (.str "out")) (fc (dC (.int 0)) fe)))) fe))) (fc (dC (.str "")) fe)))))) (aS (dB (fk (K83.fF C) 3 (fc (dV 1) (fc (fG (fc (dC (.str "tell")) (fc (dV 5) fe))) (fc (dC (.str "")) fe))))))) (fY (dC (.bl false))) aT) (fY (d2 false bw (dN false bU (fc (bH C (K83.io C) "pages" 1 (dV 1) fe) fe)) (dC (.int 16)))))))))))
def gn (C:Addr):List W->List Bx->O W:=aD 9 (aK (ia C))
def ir (C:Addr):af:=(fI (gc (iE false (fc (dC .ae) (fc (dC (.bl true)) (fc (dC (.str "3")) (fc (iE false (fc (dC (.int 3)) fe)) (fc (vN (dC (.int 1))) (fc (d2 false dk (dC (.int 0)) (d2 false dR (dC (.int 10)) (dC (.int 30)))) fe))))))) (fg 2)) (fI (jg (bY (dV 2)) (fg 3) (jg (bY (iE false (fc (dC (.str "dark")) (fc (dC (.str "light")) fe)))) (fg 4) (aM (dM (aS (dB (fk (K83.fF C) 3 (fc (dV 1) (fc (fG (fc (dV 4) (fc (dV 3) (fc (d2 false dR (dC (.int 10)) (dC (.int 39))) fe)))) (fc (dC (.str "out")) fe)))))) (aS (dB (fk (K83.fF C) 3 (fc (dV 1) (fc (fG (fc (dV 4) (fc (dC (.int 0)) (fc (dV 3) fe)))) (fc (dC (.str "out")) fe))))))) (fY (dC (.bl false))) aT))) (fI (gc (d2 false fN (dC (.int 10)) (fk K1.fm 2 (fc (dV 0) (fc (d2 false dR (dC (.int 10)) (dC (.int 30))) fe)))) (fg 5)) (fI (jg (bY (iE false (fc (dC (.str "dark")) (fc (dC (.str "light")) fe)))) (fg 4) (aM (dM (aS (dB (fk (K83.fF C) 3 (fc (dV 1) (fc (fG (fc (dV 4) (fc (dV 5) (fc (dV 5) fe)))) (fc (dC (.str "out")) fe)))))) (aS (dB (fk (K83.fF C) 3 (fc (dV 1) (fc (fG (fc (dV 4) (fc (dV 5) (fc (d2 false dk (dV 5) (dC (.int 1))) fe)))) (fc (dC (.str "out")) fe))))))) (fY (dC (.bl false))) aT)) (fI (gc (iE false (fc (fG (fc (dC (.int 0)) (fc (dC (.int 1)) fe))) (fc (fG (fc (d2 false dR (dC (.int 10)) (dC (.int 39))) (fc (d2 false dk (d2 false dR (dC (.int 10)) (dC (.int 40))) (dC (.int 1))) fe))) (fc (fG (fc (dV 5) (fc (d2 false fN (dV 5) (dC (.int 4))) fe))) (fc (fG (fc (d2 false fN (dV 5) (dC (.int 6))) (fc (d2 false fN (dV 5) (dC (.int 7))) fe))) fe))))) (fg 6)) (fI (jg (bY (dV 6)) (fg 7) (jg (bY (iE false (fc (fG (fc (dC (.str "light")) (fc (dC (.str "missing")) fe))) (fc (fG (fc (dC (.str "dark")) (fc (dC (.str "")) fe))) (fc (fG (fc (dC (.str "dark")) (fc (dC (.str "out")) fe))) fe))))) (iP 2 (f8 (fg 4) (f8 (fg 8) jH))) (aM (aS (dB (fk (K83.fF C) 3 (fc (dV 1) (fc (fG (fc (dV 4) (fc (d2 false ax (dV 7) (dC (.int 0))) (fc (d2 false ax (dV 7) (dC (.int 1))) fe)))) (fc (dV 8) fe)))))) (fY (dC (.bl false))) aT))) (fI (gc (iE false (fc (fG (fc (d2 false fN (dV 5) (dC (.int 4))) (fc (d2 false fN (dV 5) (dC (.int 5))) fe))) (fc (fG (fc (d2 false dk (dV 5) (dC (.int 1))) (fc (dV 5) fe))) (fc (fG (fc (d2 false fN (dV 5) (dC (.int 1))) (fc (d2 false fN (dV 5) (dC (.int 2))) fe))) (fc (fG (fc (d2 false dk (dV 5) (dC (.int 2))) (fc (d2 false fN (dV 5) (dC (.int 9))) fe))) fe))))) (fg 9)) (fI (jg (bY (d2 false fN (dV 9) (iE false (fc (fG (fc (d2 false fN (dV 5) (dC (.int 5))) (fc (d2 false fN (dV 5) (dC (.int 6))) fe))) fe)))) (fg 7) (aM (aS (dB (fk (K83.fF C) 3 (fc (dV 1) (fc (fG (fc (dC (.str "dark")) (fc (d2 false ax (dV 7) (dC (.int 0))) (fc (d2 false ax (dV 7) (dC (.int 1))) fe)))) (fc (dC (.str "out")) fe)))))) (fY (dC (.bl false))) aT)) (fI (aM (aS (dB (fk (K83.fF C) 3 (fc (dV 1) (fc (fG (fc (dC (.str "dark")) (fc (d2 false fN (dV 5) (dC (.int 9))) (fc (d2 false fN (dV 5) (dC (.int 10))) fe)))) (fc (dC (.str "many")) fe)))))) (fY (dC (.bl false))) aT) (fI (aM (aS (dB (fk (K83.fF C) 3 (fc (dV 1) (fc (fG (fc (dC (.str "light")) (fc (dV 5) (fc (d2 false fN (dV 5) (dC (.int 3))) fe)))) (fc (dC (.str "missing")) fe)))))) (fY (dC (.bl false))) aT) (fI (aM (aS (dB (fk (K83.fF C) 3 (fc (dV 1) (fc (fG (fc (dC (.str "light")) (fc (dV 5) (fc (d2 false fN (dV 5) (dC (.int 4))) fe)))) (fc (dC (.str "")) fe)))))) (fY (dC (.bl false))) aT) (fY (gx (fk (K83.fF C) 3 (fc (dV 1) (fc (fG (fc (dC (.str "dark")) (fc (d2 false fN (dV 5) (dC (.int 1))) (fc (d2 false fN (dV 5) (dC (.int 5))) fe)))) (fc (dC (.str "")) fe)))) (d2 false bw (bH C (K83.ip C) "outs" 1 (dV 1) fe) (dN false eS (fc (dN false dF (fc (bH C (K83.ip C) "outs" 1 (dV 1) fe) fe)) fe))))))))))))))))
def gw (C:Addr):List W->List Bx->O W:=aD 10 (aK (ir C))
def GX (C:Addr):af:=(fI (jg (cQ (fc (dN false maxD (fc (dC (.int 1)) (fc (dN false minD (fc (pV (dV 0)) (fc (dC (.int 3)) fe))) fe))) fe)) (fg 1) (fI (gc (fk K1.jB 1 (fc (fk K1.gX 2 (fc (dV 0) (fc (dV 1) fe))) fe)) (fg 2)) (fI (gc (uE C "earlier" (K83.jW C) (fc (fk aE.gY 1 (fc (dV 2) fe)) fe)) (fg 3)) (aM (dM (aS (dB (fk (K83.gn C) 2 (fc (dV 2) (fc (dV 3) fe))))) (aS (dB (fk (K83.gw C) 2 (fc (dV 2) (fc (dV 3) fe)))))) (fY (dC (.bl false))) aT)))) (fY (dC (.bl true))))
def A7 (C:Addr):List W->List Bx->O W:=aD 4 (aK (GX C))
end
end K83
namespace L2.DL
section
variable {β : Type}
@[simp] theorem fS {a:α}{k:α->List Bx->O β}:fB (.val a bx) k=k a bx:=rfl
@[simp] theorem Re {k:α->List Bx->O β}:fB .bad k=.bad:=rfl
@[simp] theorem jJ {a:α}{k:α->List Bx->OS}:bF (.val a bx) k=k a bx:=rfl
@[simp] theorem Rf {k:α->List Bx->OS}:bF (.bad:O α) k=.bad:=rfl
@[simp] theorem CI {a:α}{k:α->List Bx->O β}:bindB (.val a bx) k=k a bx:=rfl
end
@[simp] theorem ly:dV i env bx=match env[i]? with|some (some w)=>.val w bx|_=>.bad:=rfl
@[simp] theorem P3 {d:D}:dC d env bx=.val (.d d) bx:=rfl
@[simp] theorem oS:fe env bx=.val [] bx:=rfl
@[simp] theorem j7 {m:DE W}{k:DE (List W)}:fc m k env bx=fB (m env bx) λw bx1=>fB (k env bx1) λl bx2=>.val (w::l) bx2:=rfl
@[simp] theorem Dp {k:DE (List W)}:fk fn n k env bx=fB (k env bx) λws bx1=>if ws.length=n then fn ws bx1 else .bad:=rfl
@[simp] theorem P4 {m:DE W}:dB m env bx=fB (m env bx) λw bx1=>match w with|.d (.bl k)=>.val k bx1|_=>.bad:=rfl
@[simp] theorem P5 {m k:DE Bool}:Hd m k env bx=fB (m env bx) λb bx1=>match b with|true=>k env bx1|false=>.val false bx1:=rfl
@[simp] theorem MK {m k:DE Bool}:dM m k env bx=fB (m env bx) λb bx1=>match b with|true=>.val true bx1|false=>k env bx1:=rfl
@[simp] theorem Ob {m:DE Bool}:aS m env bx=fB (m env bx) λb bx1=>.val (!b) bx1:=rfl
@[simp] theorem Dq {m k:DE W}:gx m k env bx=fB (m env bx) λw bx1=>match w with|.d (.bl true)=>k env bx1|.d (.bl false)=>.val (.d (.bl false)) bx1|_=>.bad:=rfl
@[simp] theorem GY {m k:DE W}:xQ m k env bx=fB (m env bx) λw bx1=>match w with|.d (.bl true)=>.val (.d (.bl true)) bx1|.d (.bl false)=>k env bx1|_=>.bad:=rfl
@[simp] theorem PQ {m:DE W}:xR m env bx=fB (m env bx) λw bx1=>match w with|.d (.bl k)=>.val (.d (.bl (!k))) bx1|_=>.bad:=rfl
@[simp] theorem L3:gz env bx=.val true bx:=rfl
@[simp] theorem PR {n:String}{m:DE W}:lf n m env bx=fB (m env bx) λw bx1=>match ba bx1 w with|some d=>.val (.d (.bl (rG (nY d) n))) bx1|none=>.bad:=rfl
@[simp] theorem Oc {b:Bool}:d2 b g ma mb env bx=fB (ma env bx) λx bx1=>fB (mb env bx1) λy bx2=>bS b ((ba bx2 x).bind λp=>(ba bx2 y).bind λq=>g p q) bx2:=rfl
@[simp] theorem GZ {b:Bool}{g:List D->Option Res}{k:DE (List W)}:dN b g k env bx=fB (k env bx) λws bx1=>bS b ((kP bx1 ws).bind g) bx1:=rfl
@[simp] theorem Rg {g':D->D->Option Res}{mc:DE W}:d3 g g' ma mb mc env bx=fB (ma env bx) λx bx1=>fB (mb env bx1) λy bx2 =>
 fB (bS false ((ba bx2 x).bind λp=>(ba bx2 y).bind λq=>g p q) bx2) λz bL=>match z with
  |.d (.bl true)=>fB (mc env bL) λw cE=>bS false ((ba cE y).bind λp=>(ba cE w).bind λq=>g' p q) cE
  |.d (.bl false)=>.val (.d (.bl false)) bL
  |_=>.bad:=rfl
@[simp] theorem oT {d:D}:ba bx (.d d)=some d:=rfl
@[simp] theorem lU:kP bx []=some []:=rfl
@[simp] theorem oU {d:D}{l:List W}:kP bx (.d d::l)=(kP bx l).map λt=>d::t:=by
 simp only[kP,oT];cases kP bx l<;>rfl
@[simp] theorem OZ {b:Bool}:bS b none bx=.bad:=rfl
@[simp] theorem gF {q:Res}:bS false (some q) bx=.val (.d q.toD) bx:=by cases q<;>rfl
@[simp] theorem P6:bS true (some (.lst l)) bx=.val (.b bx.length) (bx++[.lst l]):=rfl
@[simp] theorem A8 {d:D}:(Res.old d).toD=d:=rfl
@[simp] theorem A9:(Res.tup l).toD=.tup l:=rfl
@[simp] theorem iW:(Res.lst l).toD=.lst l:=rfl
@[simp] theorem PU {l:List (Key×D)}:(Res.aH l).toD=.aH l:=rfl
@[simp] theorem P7:aT env bx=.nx env bx:=rfl
@[simp] theorem Ba {m k:af}:fI m k env bx=match m env bx with|.nx env1 bx1=>k env1 bx1|o=>o:=rfl
@[simp] theorem Ds {m:DE W}:ij m env bx=bF (m env bx) λ_ bx1=>.nx env bx1:=rfl
@[simp] theorem CJ {m:DE W}:fY m env bx=bF (m env bx) λw bx1=>.rt w bx1:=rfl
@[simp] theorem G0 {m k:af}:aM t m k env bx=bF (t env bx) λb bx1=>match b with|true=>m env bx1|false=>k env bx1:=rfl
@[simp] theorem Bb {m:DE W}{g:DG}:gc m g env bx=bF (m env bx) λw bx1=>match g w env bx1 with|some (env1,bx2)=>.nx env1 bx2|none=>.bad:=rfl
@[simp] theorem G1 {g:DG}{body:af}:jg m g body env bx=bF (m env bx) λds bx1=>cP g body ds env bx1:=rfl
@[simp] theorem jp {w:W}:fg i w env bx=some (env.set i (some w),bx):=rfl
@[simp] theorem PV:jH [] env bx=some (env,bx):=rfl
@[simp] theorem Po {g:DG}{k:kh}{w:W}{l:List W}:f8 g k (w::l) env bx=(g w env bx).bind λ(env1,bx1)=>k l env1 bx1:=rfl
@[simp] theorem PY {k:kh}:iP n k (.d (.tup l)) env bx=if l.length=n then k (l.map W.d) env bx else none:=rfl
@[simp] theorem j8 {bo:Bool}{src:List (Option Nat)}{g:DG}:gu bo src mi g tf te env bx=fB (mi env bx) λds bx1=>fB (bq g tf te ds (ed src env) bx1 []) λl bx2=>bS bo (some (.lst l)) bx2:=rfl
@[simp] theorem CK:ed [] env=[]:=rfl
@[simp] theorem BR {l:List (Option Nat)}:ed (none::l) env=none::ed l env:=rfl
@[simp] theorem BS {l:List (Option Nat)}:ed (some i::l) env=((env[i]?).bind id)::ed l env:=rfl
@[simp] theorem Dt {m:DE W}:bY m env bx=fB (m env bx) λw bx1=>match w with|.d (.lst l)=>.val (l.map W.d) bx1|.d (.tup l)=>.val (l.map W.d) bx1|_=>.bad:=rfl
@[simp] theorem Od {k:DE (List W)}:fG k env bx=fB (k env bx) λws bx1=>bS false ((kg ws).bind λl=>if l.length<=sizeLine then some (.tup l) else none) bx1:=rfl
@[simp] theorem G2 {bo:Bool}{k:DE (List W)}:iE bo k env bx=fB (k env bx) λws bx1=>bS bo ((kg ws).bind λl=>if l.length<=sizeLine then some (.lst l) else none) bx1:=rfl
@[simp] theorem Pp:kg []=some []:=rfl
@[simp] theorem Oe {d:D}{l:List W}:kg (.d d::l)=(kg l).map λt=>d::t:=rfl
@[simp] theorem Of {m:DE W}:vN m env bx=fB (m env bx) λw bx1=>match w with|.d (.int i)=>.val (.d (.int (-i))) bx1|_=>.bad:=rfl
@[simp] theorem Pq {bo:Bool}{m:DE W}{l u:DE (Option Int)}:rJ bo m l u env bx=fB (m env bx) λx bx1=>fB (l env bx1) λi bx2=>fB (u env bx2) λj bL=>bS bo ((ba bL x).bind λd=>pS d i j) bL:=rfl
@[simp] theorem Rb:sy env bx=.val none bx:=rfl
@[simp] theorem L4 {m:DE W}:rH m env bx=fB (m env bx) λw bx1=>match w with|.d (.int i)=>.val (some i) bx1|_=>.bad:=rfl
@[simp] theorem P8 {bo:Bool}{m:DE W}:xY bo m env bx=fB (m env bx) λx bx1=>bS bo ((ba bx1 x).bind λd=>match d with|.lst l=>some (.lst l.reverse)|_=>none) bx1:=rfl
theorem gf {m:af}{ws:List W}{d:D}(h:m (ws.map some++List.replicate (n-ws.length) none) bx=.rt (.d d) bx):aD n (aK m) ws bx=.val (.d d) bx:=by
 simp only[aD,aK,DL.envOf,h,kS,kT,rY]
end L2.DL
namespace K1
open L2 L2.DL
noncomputable def wh:D->Bool
 |.int _=>true
 |_=>false
noncomputable def wi (d:D) (lo hi:Int):Bool:=match d with
 |.int i=>decide (lo<=i)&&decide (i<=hi)
 |_=>false
noncomputable def tl (d:D) (lo hi:Int):Bool:=match d with
 |.tup l=>decide (lo<=(l.length:Int))&&decide ((l.length:Int)<=hi)
 |_=>false
theorem Og (d:D):rG (nY d) "int"=(match d with|.int _=>true|.bl _=>true|_=>false):=by cases d<;>rfl
theorem L5 (d:D):rG (nY d) "bool"=(match d with|.bl _=>true|_=>false):=by cases d<;>rfl
theorem mD (d:D):rG (nY d) "tuple"=(match d with|.tup _=>true|_=>false):=by cases d<;>rfl
theorem oV (d:D) (bx:List Bx):iQ [.d d] bx=.val (.d (.bl (wh d))) bx :=
 gf (by cases d<;>simp[oP,Og,L5,wh])
theorem iu (d:D) (lo hi:Int) (bx:List Bx):fZ [.d d,.d (.int lo),.d (.int hi)] bx=.val (.d (.bl (wi d lo hi))) bx :=
 gf (by
  cases d<;>simp[mS,oV,wh,wi,pU];rename_i i;by_cases h:lo<=i<;>simp[h])
theorem fT (d:D) (lo hi:Int) (bx:List Bx):fX [.d d,.d (.int lo),.d (.int hi)] bx=.val (.d (.bl (tl d lo hi))) bx :=
 gf (by
  cases d<;>simp[oQ,mD,tl,pU,bU];rename_i l;by_cases h:lo<=(l.length:Int)<;>simp[h])
theorem Bc {g:DG}{tf:DE Bool}{te:DE W}(J:aF->Prop) (p:D->Bool) (f:D->D) {bx:List Bx}:∀ (l:List D) (env:aF) (acc:List D),J env ->
 (∀ d∈l,∀ env,J env->∃ au,g (.d d) env bx=some (au,bx) /\ J au /\ tf au bx=.val (p d) bx /\ (p d=true->te au bx=.val (.d (f d)) bx))->acc.length+l.length<=sizeLine ->
 bq g tf te (l.map W.d) env bx acc=.val (acc++(l.filter p).map f) bx
 |[],env,acc,_,_,_=>by simp[bq]
 | d::l,env,acc,j,h,n=>by
   obtain⟨au,e1,j',e2,e3⟩:=h d (a8 ..) env j;have n':acc.length<sizeLine:=by simp only[aX]at n;omega
   simp only[aN,bq,e1,e2,CI];have h':=λx (m:x∈l)=>h x (aV _ m);cases q:p d with
   | false =>
     simp only[zK,q];exact Bc J p f l au acc j' h' (by simp only[aX]at n;omega)
   | true =>
     simp only[zK,q,e3 q,CI,if_pos n'];rw[Bc J p f l au (acc++[f d]) j' h' (by simp only[bV,aX,kF]at n ⊢;omega)];simp
theorem iM {g:DG}(J:aF->Prop) (f:D->D) (j:J env) (h:∀ d∈l,∀ env,J env->∃ au,g (.d d) env bx=some (au,bx) /\ J au /\ te au bx=.val (.d (f d)) bx) (n:l.length<=sizeLine) :
 bq g gz te (l.map W.d) env bx []=.val (l.map f) bx:=by
 rw[Bc (tf:=gz) J (λ_=>true) f l env [] j (λd m e je=>let ⟨e',a,b,c⟩:=h d m e je;⟨e',a,b,rfl,λ_=>c⟩) (by simpa using n)];rw[List.filter_eq_self.mpr (λ_ _=>rfl)];rfl
theorem G3 (l:List D) (p:D->Bool):nD (l.map λd=>D.bl (p d))=some (l.map p):=by
 induction l with
 |nil=>rfl
 |cons d l ih=>simp[nD,ih]
@[simp] theorem all_map (l:List D) (p:D->Bool):dA [.lst (l.map λd=>D.bl (p d))]=some (.old (.bl (l.all p))):=by
 simp[dA,G3,tH]
def rooms (d:D):Bool:=match d with
 |.tup l=>tl (.tup l) 1 5&&l.all λx=>wi x 0 3
 |_=>false
theorem HG:(5:Nat)<=sizeLine:=by decide
theorem lz {lo hi:Int}(h:tl (.tup l) lo hi=true):lo<=(l.length:Int) /\ (l.length:Int)<=hi:=by simpa[tl] using h
theorem G4 (d:D) (bx:List Bx):iG [.d d] bx=.val (.d (.bl (rooms d))) bx :=
 gf (by
  cases d with
  | tup l =>
    cases h:tl (.tup l) 1 5 with
    |false=>simp[iR,fT,h,rooms]
    | true =>
      have n:=lz h;simp[iR,fT,h,rooms];rw[iM (λe=>∃ w,e=[w]) (λx=>.bl (wi x 0 3)) ⟨none,rfl⟩ (λx _ e ⟨w,je⟩=>⟨[some (.d x)],by simp[je],⟨_,rfl⟩,by simp[iu]⟩) (by have:=HG;omega)];simp
  |_=>simp[iR,fT,tl,rooms])
noncomputable def rQ:List D->Bool
 |x::y::l=>(match x,y with|.int i,.int j=>decide (j<=i)|_,_=>false)&&rQ (y::l)
 |_=>true
def sM (d:D):Bool:=match d with
 |.tup l=>tl (.tup l) 4 4&&(l.all (λx=>wi x 0 9)&&rQ l)
 |_=>false
theorem G5 (d:D) (bx:List Bx):jz [.d d] bx=.val (.d (.bl (sM d))) bx :=
 gf (by
  cases d with
  | tup l =>
    cases h:tl (.tup l) 4 4 with
    |false=>simp[iS,fT,h,sM,fN]
    | true =>
      have n:=lz h;simp[iS,fT,h,sM,fN];rw[iM (λe=>∃ w,e=[w]) (λx=>.bl (wi x 0 9)) ⟨none,rfl⟩ (λx _ e ⟨w,je⟩=>⟨[some (.d x)],by simp[je],⟨_,rfl⟩,by simp[iu]⟩) (by have:=HG;omega)];simp;cases q:l.all λx=>wi x 0 9 with
      |false=>simp
      | true =>
        have l4:l.length=4:=by omega
        obtain⟨a,l,rfl⟩:∃ a t,l=a::t:=pG (by omega);obtain⟨b,l,rfl⟩:∃ a t,l=a::t:=pG (by simp at l4;omega);obtain⟨c,l,rfl⟩:∃ a t,l=a::t:=pG (by simp at l4;omega);obtain⟨e,l,rfl⟩:∃ a t,l=a::t:=pG (by simp at l4;omega);obtain rfl:l=[]:=by simpa using l4
        have yu:∀ x,wi x 0 9=true->∃ i,x=.int i:=λx hx=>by
         cases x<;>simp[wi]at hx;exact⟨_,rfl⟩
        simp at q;obtain⟨a,rfl⟩:=yu a q.1;obtain⟨b,rfl⟩:=yu b q.2.1;obtain⟨c,rfl⟩:=yu c q.2.2.1;obtain⟨e,rfl⟩:=yu e q.2.2.2;simp[pf,pS,DL.cutD,HT.aq,dq,bq,pU,rQ,dA,nD,sizeLine]
  |_=>simp[iS,fT,tl,sM,fN])
theorem yx (h:tl (.tup l) 2 2=true):∃ a b,l=[a,b]:=by
 have n:=lz h;obtain⟨a,l,rfl⟩:∃ a t,l=a::t:=pG (by omega);obtain⟨b,l,rfl⟩:∃ a t,l=a::t:=pG (by simp at n;omega);have:l.length=0:=by simp at n;omega
 exact⟨a,b,by rw[wR this]⟩
theorem Yv (h:tl (.tup l) 4 4=true):∃ a b c e,l=[a,b,c,e]:=by
 have n:=lz h;obtain⟨a,l,rfl⟩:∃ a t,l=a::t:=pG (by omega);obtain⟨b,l,rfl⟩:∃ a t,l=a::t:=pG (by simp at n;omega);obtain⟨c,l,rfl⟩:∃ a t,l=a::t:=pG (by simp at n;omega);obtain⟨e,l,rfl⟩:∃ a t,l=a::t:=pG (by simp at n;omega);have:l.length=0:=by simp at n;omega
 exact⟨a,b,c,e,by rw[wR this]⟩
theorem CL {x:D}{lo hi:Int}(h:wi x lo hi=true):∃ i,x=.int i /\ lo<=i /\ i<=hi:=by
 cases x<;>simp[wi]at h;exact⟨_,rfl,h⟩
def kind (d:D):Bool:=match d with
 |.tup l=>tl (.tup l) 2 2&&(match l with|[a,b]=>wi a 1 999&&sM b|_=>false)
 |_=>false
theorem L6 (d:D) (bx:List Bx):lw [.d d] bx=.val (.d (.bl (kind d))) bx :=
 gf (by
  cases d with
  | tup l =>
    cases h:tl (.tup l) 2 2 with
    |false=>simp[j6,fT,h,kind]
    | true =>
      obtain⟨a,b,rfl⟩:=yx h;simp[j6,fT,h,kind,ax,a6,cb,iu];cases q:wi a 1 999<;>simp[G5]
  |_=>simp[j6,fT,tl,kind])
def kinds (d:D):Bool:=match d with
 |.tup l=>tl (.tup l) 1 4&&l.all kind
 |_=>false
theorem G6 (d:D) (bx:List Bx):iH [.d d] bx=.val (.d (.bl (kinds d))) bx :=
 gf (by
  cases d with
  | tup l =>
    cases h:tl (.tup l) 1 4 with
    |false=>simp[iT,fT,h,kinds]
    | true =>
      have n:=lz h;simp[iT,fT,h,kinds];rw[iM (λe=>∃ w,e=[w]) (λx=>.bl (kind x)) ⟨none,rfl⟩ (λx _ e ⟨w,je⟩=>⟨[some (.d x)],by simp[je],⟨_,rfl⟩,by simp[L6]⟩) (by have:=HG;omega)];simp
  |_=>simp[iT,fT,tl,kinds])
def dU (n:Int) (d:D):Bool:=match d with
 |.tup l=>tl (.tup l) 2 2&&(match l with|[.int a,.int b]=>decide (0<=a)&&decide (a<b)&&decide (b<=n-1)|_=>false)
 |_=>false
theorem G7 (d:D) (n:Int) (bx:List Bx):gG [.d d,.d (.int n)] bx=.val (.d (.bl (dU n d))) bx :=
 gf (by
  cases d with
  | tup l =>
    cases h:tl (.tup l) 2 2 with
    |false=>simp[gK,fT,h,dU]
    | true =>
      obtain⟨a,b,rfl⟩:=yx h;simp[gK,fT,h,dU,ax,a6,cb];have c:=iM (g:=fg 0) (te:=fk fZ 3 (fc (dV 0) (fc (dC (.int 0)) (fc (d2 false dk (dV 1) (dC (.int 1))) fe)))) (bx:=bx) (l:=[a,b]) (λe=>∃ w,e=[w,xN n]) (λx=>.bl (wi x 0 (n-1))) ⟨none,rfl⟩ (λx _ e ⟨w,je⟩=>⟨[some (.d x),xN n],by simp[je],⟨_,rfl⟩,by simp[iu,dk]⟩) (show (2:Nat)<=sizeLine by decide);simp only[aN,tu]at c;rw[c];have e:=all_map [a,b] λx=>wi x 0 (n-1);simp only[aN,tu]at e;simp[e];cases q1:wi a 0 (n-1) with
      | false =>
        cases a<;>cases b<;>simp[wi]at q1 ⊢;omega
      | true =>
        cases q2:wi b 0 (n-1) with
        | false =>
          obtain⟨i,rfl,i1,i2⟩:=CL q1;cases b<;>simp[wi]at q2 ⊢;omega
        | true =>
          obtain⟨i,rfl,i1,i2⟩:=CL q1;obtain⟨j,rfl,j1,j2⟩:=CL q2;simp[dG,i1,j2]
  |_=>simp[gK,fT,tl,dU])
noncomputable abbrev dP (p:Int×Int):D:=.tup [.int p.1,.int p.2]
abbrev xP (l:List (Int×Int)):Option W:=some (.d (.lst (l.map dP)))
def nI (p q:Int×Int):Bool:=HT.lexLt [p.1,p.2] [q.1,q.2]
theorem G8 {n:Int}{d:D}(h:dU n d=true):∃ p:Int×Int,d=dP p /\ 0<=p.1 /\ p.1<p.2 /\ p.2<=n-1:=by
 cases d with
 | tup l =>
   simp only[dU,aw]at h;obtain⟨a,b,rfl⟩:=yx h.1;have h2:=h.2;cases a<;>cases b<;>simp at h2;exact⟨(_,_),rfl,h2.1.1,h2.1.2,h2.2⟩
 |_=>simp[dU]at h
theorem BT {n:Int}:∀ {l:List D},l.all (dU n)=true->∃ ps:List (Int×Int),l=ps.map dP /\ ∀ p∈ps,0<=p.1 /\ p.1<p.2 /\ p.2<=n-1
 |[],_=>⟨[],rfl,λp m=>by cases m⟩
 | d::l,h=>by
   simp only[k9,aw]at h;obtain⟨p,rfl,hp⟩:=G8 h.1;obtain⟨ps,rfl,hs⟩:=BT h.2;exact⟨p::ps,rfl,λq m=>by
    rcases aY.mp m with rfl|m
    ·exact hp
    ·exact hs q m⟩
def qb:List (Int×Int)->Bool
 |p::q::r=>nI p q&&qb (q::r)
 |_=>true
theorem oW:∀ ps:List (Int×Int),qb ps=(List.range (ps.length-1)).all λi=>nI (ps.getD i (0,0)) (ps.getD (i+1) (0,0))
 |[]=>rfl
 |[p]=>rfl
 | p::q::r=>by
   rw[qb,oW (q::r)];simp only[aX,KR];rw[List.range_succ_eq_map,k9,tH];rfl
theorem Du (h:i<ps.length):a6 (ps.map dP) (i:Int)=some (dP (ps.getD i (0,0))):=by
 unfold a6 cb;simp[h,List.getD]
theorem Oh {k:DE (List W)}{i j:Int}(e:k env bx=.val [.d (.int i),.d (.int j)] bx1) (h:(-(2 ^ 62)<=i /\ i<2 ^ 62) /\ -(2 ^ 62)<=j /\ j<2 ^ 62):ug k env bx=.val (fM i (j-i).toNat) bx1:=by
 unfold ug;rw[e,fS];exact if_pos h
theorem mE {k:DE (List W)}{j:Int}(e:k env bx=.val [.d (.int j)] bx1) (h:-(2 ^ 62)<=j /\ j<2 ^ 62):cQ k env bx=.val (fM 0 j.toNat) bx1:=by
 unfold cQ;rw[e,fS];exact if_pos h
theorem L7 (lo:Int) (n:Nat):fM lo n=((List.range n).map λ(i:Nat)=>D.int (lo+(i:Int))).map W.d:=by
 unfold fM;rw[eJ];rfl
theorem FD (ps:List (Int×Int)) (n:ps.length<=sizeLine) (bx:List Bx):jy [.d (.tup (ps.map dP))] bx=.val (.d (.bl (qb ps))) bx :=
 gf (by
  have s2:sizeLine=16777216:=a7;have r:ug (fc (dC (.int 1)) (fc (dN false bU (fc (dV 0) fe)) fe)) [some (.d (.tup (ps.map dP)))] bx=.val (fM 1 (((ps.length:Nat):Int)-1).toNat) bx:=Oh (by simp[bU]) (by omega);simp only[mT,CJ,GZ,j7,j8,aN,tu,aX,kF,eI,List.replicate_zero,pE,r,fS,L7,BR,BS,CK,Qg,a9,id];rw[iM (λe=>∃ w,e=[w,some (.d (.tup (ps.map dP)))]) (λx=>.bl (match x with|.int i=>nI (ps.getD (i.toNat-1) (0,0)) (ps.getD i.toNat (0,0))|_=>false)) ⟨none,rfl⟩ ?_ (by rw[aL,zI];omega)]
  ·simp only[fS,oS,gF,iW,oU,lU,tK,a9];rw[all_map,gF,A8,jJ,tH,show ((ps.length:Int)-1).toNat=ps.length-1 by omega];have z:((λx:D=>match x with|.int i=>nI (ps.getD (i.toNat-1) (0,0)) (ps.getD i.toNat (0,0))|_=>false)∘λ(i:Nat)=>D.int (1+(i:Int)))=λi=>nI (ps.getD i (0,0)) (ps.getD (i+1) (0,0)):=by
    funext i;show nI (ps.getD ((1+(i:Int)).toNat-1) (0,0)) (ps.getD (1+(i:Int)).toNat (0,0))=_;rw[show (1+(i:Int)).toNat=i+1 by omega,KR]
   rw[z,<-oW]
  ·intro x m e ⟨w,je⟩;obtain⟨i,mi,rfl⟩:=List.mem_map.mp m;have hi:i<((ps.length:Int)-1).toNat:=List.mem_range.mp mi;refine⟨[xN (1+(i:Int)),some (.d (.tup (ps.map dP)))],by simp[je],⟨_,rfl⟩,?_⟩;have a1:=Du (ps:=ps) (i:=i) (by omega);have a2:=Du (ps:=ps) (i:=i+1) (by omega);rw[show ((i+1:Nat):Int)=1+(i:Int) by omega]at a2;simp only[Oc,ly,P3,Qg,List.getElem?_cons_succ,fS,oT,a9,ax,dk,gF,A8,show 1+(i:Int)-1=(i:Int) by omega,a1,a2,tK,dG,dP,intsOf];rw[show (1+(i:Int)).toNat=i+1 by omega];rfl)
noncomputable def yy:D->Option (Int×Int)
 |.tup [.int a,.int b]=>some (a,b)
 |_=>none
theorem Dv (ps:List (Int×Int)):(ps.map dP).filterMap yy=ps:=by
 induction ps with
 |nil=>rfl
 |cons p ps ih=>rw[aN,pB,ih];rfl
def apart (n:Int) (d:D):Bool:=match d with
 |.tup l=>l.all (dU n)&&qb (l.filterMap yy)
 |_=>false
def short (d:D):Prop:=match d with
 |.tup l=>l.length<=sizeLine
 |_=>True
theorem CM (l:List D) (n:Int) (h':l.length<=sizeLine) (bx:List Bx):bq (fg 0) gz (fk gG 2 (fc (dV 0) (fc (dV 1) fe))) (l.map W.d) [none,xN n] bx []=.val (l.map λx=>.bl (dU n x)) bx :=
 iM (λe=>∃ w,e=[w,xN n]) (λx=>.bl (dU n x)) ⟨none,rfl⟩ (λx _ e ⟨w,je⟩=>⟨[some (.d x),xN n],by simp[je],⟨_,rfl⟩,by simp[G7]⟩) h'
theorem FE (d:D) (n:Int) (bx:List Bx) (h:∀ l,d≠.tup l):gk [.d d,.d (.int n)] bx=.val (.d (.bl (apart n d))) bx :=
 gf (by
  cases d with
  |tup l=>exact absurd rfl (h l)
  |_=>simp[iU,mD,apart])
theorem FF {fp:List W->List Bx->O W}{n:Int}(c:bq (fg 0) gz (fk fp 2 (fc (dV 0) (fc (dV 1) fe))) (l.map W.d) [none,xN n] bx []=.val (l.map λx=>.bl (dU n x)) bx) :
 dN false dA (fc (gu false [none,some 1] (bY (dV 0)) (fg 0) gz (fk fp 2 (fc (dV 0) (fc (dV 1) fe)))) fe) [some (.d (.tup l)),xN n] bx=.val (.d (.bl (l.all (dU n)))) bx:=by
 have i:bY (dV 0) [some (.d (.tup l)),xN n] bx=.val (l.map W.d) bx:=rfl;rw[GZ,j7,j8,i,fS,show ed [none,some 1] [some (W.d (.tup l)),some (W.d (.int n))]=[none,some (W.d (.int n))] from rfl,c,fS,gF,fS,oS,fS,fS,oU,lU,tK,a9,iW,all_map,gF,A8]
theorem L8 {m k:DE W}{b:Bool}(h:m env bx=.val (.d (.bl b)) bx1):gx m k env bx=if b then k env bx1 else .val (.d (.bl false)) bx1:=by
 rw[Dq,h];cases b<;>rfl
theorem Oi {m k:af}(h:t env bx=.val false bx):fI (aM t m aT) k env bx=k env bx:=by
 rw[Ba,G0,h];rfl
theorem Oj {w:Option W}:aS (dB (lf "tuple" (dV 0))) [some (.d (.tup l)),w] bx=.val false bx:=by
 simp[mD]
theorem FG (l:List D) (n:Int) (bx:List Bx) (h':l.length<=sizeLine):gk [.d (.tup l),.d (.int n)] bx=.val (.d (.bl (apart n (.tup l)))) bx:=by
 have e1:=FF (CM l n h' bx);refine gf ?_;show iU [some (.d (.tup l)),xN n] bx=OS.rt (.d (.bl (l.all (dU n)&&qb (l.filterMap yy)))) bx;unfold iU;rw[Oi Oj,CJ,L8 e1];cases q:l.all (dU n) with
 |false=>rfl
 | true =>
   obtain⟨ps,e,_⟩:=BT q;subst e;have r:=FD ps (by rw[aL]at h';exact h') bx;rw[if_pos rfl,Dp,j7,show dV 0 [some (W.d (.tup (ps.map dP))),some (W.d (.int n))] bx=.val (.d (.tup (ps.map dP))) bx from rfl,fS,oS,fS,fS,if_pos (show [W.d (D.tup (ps.map dP))].length=1 from rfl),r,jJ,Dv,zA]
theorem G9 (d:D) (n:Int) (h:short d) (bx:List Bx):gk [.d d,.d (.int n)] bx=.val (.d (.bl (apart n d))) bx:=by
 cases d with
 |tup l=>exact FG l n bx (by simpa only[short] using h)
 |_=>exact FE _ n bx (λl e=>by cases e)
noncomputable def lenOf:D->Int
 |.tup l=>l.length
 |_=>0
def house (d:D):Bool:=match d with
 |.tup [r,k,p,h]=>rooms r&&(kinds k&&(apart (lenOf k) p&&wi h 1 9))
 |_=>false
def uc (d:D):Prop:=match d with
 |.tup [_,_,p,_]=>short p
 |_=>True
theorem FH {k:D}(h:kinds k=true):∃ l,k=.tup l:=by
 cases k with
 |tup l=>exact⟨l,rfl⟩
 |_=>simp[kinds]at h
theorem Ja (d:D) (ok:uc d) (bx:List Bx):jU [.d d] bx=.val (.d (.bl (house d))) bx :=
 gf (by
  cases d with
  | tup l =>
    cases t:tl (.tup l) 4 4 with
    | false =>
      have e:house (.tup l)=false:=by
       unfold house;split
       ·rename_i q;cases q;simp[tl]at t
       ·rfl
      simp[jA,fT,t,e]
    | true =>
      obtain⟨r,k,p,h,rfl⟩:=Yv t;have e1:=fT (.tup [r,k,p,h]) 4 4 bx;have e2:=G4 r bx;have e3:=G6 k bx;have e4:∀ n:Int,gk [.d p,.d (.int n)] bx=.val (.d (.bl (apart n p))) bx:=λn=>G9 p n (by simpa only[uc] using ok) bx;have e5:=iu h 1 9 bx;rw[t]at e1;unfold jA;generalize fX=f1 at e1 ⊢;generalize iG=f2 at e2 ⊢;generalize iH=f3 at e3 ⊢;generalize gk=f4 at e4 ⊢;generalize fZ=f5 at e5 ⊢;simp[e1,e2,house];cases q1:rooms r with
      |false=>simp
      | true =>
        simp[e3];cases q2:kinds k with
        |false=>simp
        | true =>
          obtain⟨l,rfl⟩:=FH q2;simp[bU,e4,lenOf];cases q3:apart (l.length:Int) p<;>simp[e5]
  |_=>simp[jA,fT,tl,house])
end K1
namespace L2.DL
noncomputable def To:Key->Nat
 |.inl _=>1921
 |.inr x=>(reprText x).length
mutual
noncomputable def wt:D->Nat
 |.ae=>4
 |.bl _=>5
 |.int _=>1921
 |.str x=>(reprText x).length
 |.tup l=>3+rR l
 |.lst l=>3+rR l
 |.aH l=>3+wc l
noncomputable def rR:List D->Nat
 |[]=>0
 |d::l=>wt d+2+rR l
noncomputable def wc:List (Key×D)->Nat
 |[]=>0
 |(k,d)::l=>To k+wt d+4+wc l
end
theorem Dw (ts:List Str):(Str.join ", " ts).length<=piled ts:=by
 by_cases h:ts=[]
 ·subst h;exact ag _
 ·have:=join_length_add ts h;omega
theorem Be (ts:List Str):(tupleText ts).length<=3+piled ts:=by
 unfold tupleText;have h:=Dw ts;have e1:(("(":String):Str).length=1:=rfl;have e2:((",)":String):Str).length=2:=rfl;have e3:((")":String):Str).length=1:=rfl;rw[kB,kB];split<;>omega
theorem mU:∀ (ts:List Str) (k:Nat) (acc:Str),(textFrom k acc ts).length<=acc.length+piled ts
 |[],k,acc=>by show acc.length<=_;omega
 | t::r,k,acc=>by
   have h:=mU r (k+1) (acc++(if k>0 then ", " else "":String)++t);have e1:((", ":String):Str).length=2:=rfl;have e2:(("":String):Str).length=0:=rfl;rw[kB,kB]at h;rw[zt];show (textFrom (k+1) (acc++(if k>0 then ", " else "":String)++t) r).length<=_;split at h<;>rename_i hk<;>simp only[hk,if_true,if_false]at h ⊢<;>omega
theorem BU (ts:List Str):(listText ts).length<=3+piled ts:=by
 unfold listText;have h:=mU ts 0 "[";have e1:(("[":String):Str).length=1:=rfl;have e2:(("]":String):Str).length=1:=rfl;rw[kB];omega
theorem BV (ts:List Str):(dictText ts).length<=3+piled ts:=by
 unfold dictText;have h:=Dw ts;have e1:(("{":String):Str).length=1:=rfl;have e2:(("}":String):Str).length=1:=rfl;rw[kB,kB];omega
theorem BW {i:Int}(h:i.natAbs.log2<1920):(Str.ofString (toString i)).length<=1921:=by
 have:=int_text_length_le (a:=i) (k:=1920) (by decide) h;rw[PySem.ofString_length];exact this
mutual
theorem oX:∀ (d:D),(toPy d).showable=true->(toPy d).shown.length<=wt d
 |.ae,_=>by simp only[toPy,PyData.shown,wt];decide
 |.bl b,_=>by cases b<;>simp only[toPy,PyData.shown,wt]<;>decide
 | .int i,h=>by
   simp only[toPy,PyData.shown,wt];exact BW (by simpa[toPy,PyData.showable] using h)
 |.str x,_=>by simp only[toPy,PyData.shown,wt];exact ag _
 | .tup l,h=>by
   simp only[toPy,PyData.shown,wt];have:=mF l (by simpa[toPy,PyData.showable] using h);have:=Be (PyData.shownAll (aI l));omega
 | .lst l,h=>by
   simp only[toPy,PyData.shown,wt];have:=mF l (by simpa[toPy,PyData.showable] using h);have:=BU (PyData.shownAll (aI l));omega
 | .aH l,h=>by
   simp only[toPy,PyData.shown,wt];have:=BX l (by simpa[toPy,PyData.showable] using h);have:=BV (PyData.shownKv (aU l));omega
theorem mF:∀ (l:List D),PyData.showableAll (aI l)=true->piled (PyData.shownAll (aI l))<=rR l
 |[],_=>by simp only[aI,PyData.shownAll,rR];exact ag _
 | d::l,h=>by
   simp only[aI,PyData.showableAll,aw]at h;have h1:=oX d h.1;have h2:=mF l h.2;simp only[aI,PyData.shownAll,rR,zt];omega
theorem BX:∀ (l:List (Key×D)),PyData.showableKv (aU l)=true->piled (PyData.shownKv (aU l))<=wc l
 |[],_=>by simp only[aU,PyData.shownKv,wc];exact ag _
 | (k,d)::l,h=>by
   simp only[aU,PyData.showableKv,aw]at h;have h1:=oX d h.1.2;have h2:=BX l h.2;have e1:((": ":String):Str).length=2:=rfl;have hk:(PyData.shown (kl k)).length<=To k:=by
    cases k with
    |inl i=>exact BW (by simpa[kl,PyData.showable] using h.1.1)
    |inr x=>exact ag _
   simp only[aU,PyData.shownKv,wc,zt];rw[kB,kB];omega
end
mutual
noncomputable def ib (B:Nat):D->Bool
 |.int i=>decide (i.natAbs<=B)
 |.tup l=>sN B l
 |.lst l=>sN B l
 |.aH l=>yz B l
 |_=>true
noncomputable def sN (B:Nat):List D->Bool
 |[]=>true
 |d::l=>ib B d&&sN B l
noncomputable def yz (B:Nat):List (Key×D)->Bool
 |[]=>true
 |(k,d)::l=>(match k with|.inl i=>decide (i.natAbs<=B)|_=>true)&&ib B d&&yz B l
end
theorem Jb {B:Nat}(hB:B<2 ^ 1900) {i:Int}(h:i.natAbs<=B):i.natAbs.log2<1920:=by
 by_cases h0:i.natAbs=0
 ·rw[h0];decide
 ·exact(KN h0).mpr (cG (rW h hB) (KS (by decide) (by decide)))
mutual
theorem Bf {B:Nat}(hB:B<2 ^ 1900):∀ (d:D),ib B d=true->(toPy d).showable=true
 |.ae,_=>by simp[toPy,PyData.showable]
 |.bl b,_=>by simp[toPy,PyData.showable]
 | .int i,h=>by
   simp only[toPy,PyData.showable,decide_eq_true_eq];exact Jb hB (by simpa[ib] using h)
 |.str x,_=>by simp[toPy,PyData.showable]
 | .tup l,h=>by
   simp only[toPy,PyData.showable];exact oY hB l (by simpa[ib] using h)
 | .lst l,h=>by
   simp only[toPy,PyData.showable];exact oY hB l (by simpa[ib] using h)
 | .aH l,h=>by
   simp only[toPy,PyData.showable];exact BY hB l (by simpa[ib] using h)
theorem oY {B:Nat}(hB:B<2 ^ 1900):∀ (l:List D),sN B l=true->PyData.showableAll (aI l)=true
 |[],_=>by simp[aI,PyData.showableAll]
 | d::l,h=>by
   simp only[sN,aw]at h;simp only[aI,PyData.showableAll,Bf hB d h.1,oY hB l h.2,uY]
theorem BY {B:Nat}(hB:B<2 ^ 1900):∀ (l:List (Key×D)),yz B l=true->PyData.showableKv (aU l)=true
 |[],_=>by simp[aU,PyData.showableKv]
 | (k,d)::l,h=>by
   simp only[yz,aw]at h;have hk:(kl k).showable=true:=by
    cases k with
    | inl i =>
      simp only[kl,PyData.showable,decide_eq_true_eq];exact Jb hB (by simpa using h.1.1)
    |inr x=>simp[kl,PyData.showable]
   simp only[aU,PyData.showableKv,hk,Bf hB d h.1.2,BY hB l h.2,uY]
end
structure Sm (B a b:Nat) (d:D):Prop where
 s:ib B d=true
 e:(toPy d).depth<=a
 w:wt d<=b
structure bO (B a b:Nat) (l:List D):Prop where
 s:sN B l=true
 e:PyData.depthAll (aI l)<=a
 w:rR l<=b
theorem CN {B a b:Nat}{d:D}(h:Sm B a b d) (hB:B<2 ^ 1900) (ha:a<=60) (hb:b<=sizeLine):nE d=true:=by
 have hs:=Bf hB d h.s;have:=oX d hs;have h1:=h.e;have h2:=h.w;unfold nE;rw[hs,decide_eq_true (by omega:(toPy d).depth<=60),decide_eq_true (by omega:(toPy d).shown.length<=sizeLine)];rfl
theorem Sm.mono {B a b a' b':Nat}{d:D}(h:Sm B a b d) (ha:a<=a') (hb:b<=b'):Sm B a' b' d:=⟨h.s,bu h.e ha,bu h.w hb⟩
theorem bO.mono {B a b a' b':Nat}(h:bO B a b l) (ha:a<=a') (hb:b<=b'):bO B a' b' l:=⟨h.s,bu h.e ha,bu h.w hb⟩
theorem bO.nil {B a:Nat}:bO B a 0 []:=⟨rfl,by simp[aI,PyData.depthAll],ag _⟩
theorem bO.cons {B a b c:Nat}{d:D}{l:List D}(h:Sm B a b d) (t:bO B a c l):bO B a (b+2+c) (d::l):=
 ⟨by simp[sN,h.s,t.s],by simp only[aI,PyData.depthAll];exact Nat.max_le.mpr ⟨h.e,t.e⟩,by simp only[rR];have:=h.w;have:=t.w;omega⟩
theorem Sm.tup {B a b:Nat}{l:List D}(h:bO B a b l):Sm B (a+1) (3+b) (.tup l):=
 ⟨by simp[ib,h.s],by simp only[toPy,PyData.depth];have:=h.e;omega,by simp only[wt];have:=h.w;omega⟩
theorem Sm.lst {B a b:Nat}{l:List D}(h:bO B a b l):Sm B (a+1) (3+b) (.lst l):=
 ⟨by simp[ib,h.s],by simp only[toPy,PyData.depth];have:=h.e;omega,by simp only[wt];have:=h.w;omega⟩
theorem Sm.int {B a:Nat}{i:Int}(h:i.natAbs<=B):Sm B a 1921 (.int i):=
 ⟨by simp[ib,h],by simp[toPy,PyData.depth],ag _⟩
theorem Sm.str {B a:Nat}{x:Str}:Sm B a (reprText x).length (.str x):=
 ⟨by simp[ib],by simp[toPy,PyData.depth],ag _⟩
theorem bO.of {B a b:Nat}:∀ {l:List D},(∀ d∈l,Sm B a b d)->bO B a (l.length*(b+2)) l
 |[],_=>by simpa using bO.nil
 | d::l,h=>by
   have h1:=h d (a8 ..);have h2:=bO.of λx m=>h x (aV _ m);exact(bO.cons h1 h2).mono (ag _) (by rw[aX,Nat.succ_mul];omega)
section
variable {env1 bT : aF} {bx2 bL : List Bx} {m k : DE W} {ks : DE (List W)} {w u : W} {l : List W}
theorem ff (h1:m env bx=.val w bx1) (h2:ks env bx1=.val l bx2):fc m ks env bx=.val (w::l) bx2:=by rw[j7,h1,fS,h2,fS]
theorem Dx:∀ {ds:List D},kP bx (ds.map W.d)=some ds
 |[]=>rfl
 |d::ds=>by rw[aN,oU,Dx];rfl
theorem m8:∀ {ds:List D},kg (ds.map W.d)=some ds
 |[]=>rfl
 |d::ds=>by rw[aN,Oe,m8];rfl
theorem jD {g:List D->Option Res}{r:Res}(ds:List D) (h:ks env bx=.val (ds.map W.d) bx1) (hg:g ds=some r):dN false g ks env bx=.val (.d r.toD) bx1:=by rw[GZ,h,fS,Dx,a9,hg,gF]
theorem gH (ds:List D) (h:ks env bx=.val (ds.map W.d) bx1) (hl:ds.length<=sizeLine):fG ks env bx=.val (.d (.tup ds)) bx1:=by rw[Od,h,fS,m8,a9,if_pos hl,gF,A9]
theorem jb (ds:List D) (h:ks env bx=.val (ds.map W.d) bx1) (hl:ds.length<=sizeLine):iE false ks env bx=.val (.d (.lst ds)) bx1:=by rw[G2,h,fS,m8,a9,if_pos hl,gF,iW]
theorem Jc (ds:List D) (h:ks env bx=.val (ds.map W.d) bx1) (hl:ds.length<=sizeLine):iE true ks env bx=.val (.b bx1.length) (bx1++[.lst ds]):=by rw[G2,h,fS,m8,a9,if_pos hl];rfl
theorem fH {r:Res}{x y:D}(h1:m env bx=.val (.d x) bx1) (h2:k env bx1=.val (.d y) bx2) (hg:g x y=some r):d2 false g m k env bx=.val (.d r.toD) bx2:=by rw[Oc,h1,fS,h2,fS,oT,oT,a9,a9,hg,gF]
theorem gh (h:ks env bx=.val l bx1) (hn:l.length=n) (hf:fn l bx1=.val w bx2):fk fn n ks env bx=.val w bx2:=by rw[Dp,h,fS,if_pos hn,hf]
theorem iO {b:Bool}(h:m env bx=.val (.d (.bl b)) bx1):dB m env bx=.val b bx1:=by rw[P4,h,fS]
theorem jX {b:Bool}(h:t env bx=.val b bx1):aS t env bx=.val (!b) bx1:=by rw[Ob,h,fS]
theorem Pr {s:DE Bool}(h:t env bx=.val true bx1):dM t s env bx=.val true bx1:=by rw[MK,h,fS]
theorem mV {s:DE Bool}{b:Bool}(h:t env bx=.val false bx1) (h2:s env bx1=.val b bx2):dM t s env bx=.val b bx2:=by rw[MK,h,fS,h2]
theorem Bg {b:Bool}(h:m env bx=.val (.d (.bl b)) bx1):gx m k env bx=if b then k env bx1 else .val (.d (.bl false)) bx1:=by rw[Dq,h];cases b<;>rfl
theorem Dy {src:List (Option Nat)}{g:DG}{ds:List D}{e2:aF}(h1:mi env bx=.val l bx1) (he:ed src env=e2) (h2:bq g tf te l e2 bx1 []=.val ds bx2):gu false src mi g tf te env bx=.val (.d (.lst ds)) bx2:=by
 subst he;rw[j8,h1,fS,h2,fS,gF,iW]
theorem Ps {x:D}{r:Res}{lo hi:DE (Option Int)}{i j:Option Int}(h1:m env bx=.val (.d x) bx1) (h2:lo env bx1=.val i bx2) (h3:hi env bx2=.val j bL) (hs:pS x i j=some r):rJ false m lo hi env bx=.val (.d r.toD) bL:=by
 rw[Pq,h1,fS,h2,fS,h3,fS,oT,a9,hs,gF]
theorem L9 {i:Int}(h:m env bx=.val (.d (.int i)) bx1):rH m env bx=.val (some i) bx1:=by rw[L4,h,fS]
theorem j9 {ds:List D}(h:m env bx=.val (.d (.lst ds)) bx1):bY m env bx=.val (ds.map W.d) bx1:=by rw[Dt,h,fS]
theorem Ma {ds:List D}(h:m env bx=.val (.d (.tup ds)) bx1):bY m env bx=.val (ds.map W.d) bx1:=by rw[Dt,h,fS]
theorem Ol {i:Int}(h:m env bx=.val (.d (.int i)) bx1):vN m env bx=.val (.d (.int (-i))) bx1:=by rw[Of,h,fS]
theorem Mb {d:D}(h:m env bx=.val (.d d) bx1) (c:nE d=true):sC m env bx=.val (.d (.str (toPy d).shown)) bx1:=by
 unfold sC;rw[h,fS];exact if_pos c
theorem fu {a b:af}(h:a env bx=.nx env1 bx1):fI a b env bx=b env1 bx1:=by rw[Ba,h]
theorem oZ {a b:af}(h:a env bx=.rt w bx1):fI a b env bx=.rt w bx1:=by rw[Ba,h]
theorem gp (h:m env bx=.val w bx1):gc m (fg i) env bx=.nx (env.set i (some w)) bx1:=by rw[Bb,h,jJ,jp]
theorem iF (h:m env bx=.val w bx1):fY m env bx=.rt w bx1:=by rw[CJ,h,jJ]
theorem gO (h:m env bx=.val w bx1):ij m env bx=.nx env bx1:=by rw[Ds,h,jJ]
theorem jK {a b:af}(h:t env bx=.val true bx1):aM t a b env bx=a env bx1:=by rw[G0,h,jJ]
theorem iD {a b:af}(h:t env bx=.val false bx1):aM t a b env bx=b env bx1:=by rw[G0,h,jJ]
theorem lV {g:DG}{body:af}(h:mi env bx=.val l bx1):jg mi g body env bx=cP g body l env bx1:=by rw[G1,h,jJ]
theorem ic {g:DG}{body:af}(h1:g w env bx=some (env1,bx1)) (h2:body env1 bx1=.nx bT bx2):cP g body (w::l) env bx=cP g body l bT bx2:=by
 rw[cP,h1];simp only[h2]
theorem Bh {g:DG}{body:af}(I:Nat->aF->List Bx->Prop):∀ (l:List W) (k:Nat) (env:aF) (bx:List Bx),I k env bx ->
 (∀ i w env bx,l[i]?=some w->I (k+i) env bx->∃ env1 bx1 bT bx2,g w env bx=some (env1,bx1) /\ body env1 bx1=.nx bT bx2 /\ I (k+i+1) bT bx2) ->
 ∃ au bx',cP g body l env bx=.nx au bx' /\ I (k+l.length) au bx':=by
 intro l;induction l with
 |nil=>intro k env bx h _;exact⟨env,bx,rfl,h⟩
 | cons w l ih =>
   intro k env bx h st;obtain⟨env1,bx1,bT,bx2,e1,e2,h2⟩:=st 0 w env bx rfl h;obtain⟨au,bx',e3,h3⟩:=ih (k+1) bT bx2 h2 λi x env bx e hi=>by
    have:=st (i+1) x env bx (by simpa using e) (by rw[show k+(i+1)=k+1+i by omega];exact hi);rw[show k+(i+1)+1=k+1+i+1 by omega]at this;exact this
   exact⟨au,bx',by rw[ic e1 e2,e3],by rw[aX,show k+(l.length+1)=k+1+l.length by omega];exact h3⟩
end
end L2.DL
namespace aE
open L2 L2.DL K1
open HT (ak aB cR a5 lexLt)
inductive Pg where
 |aaY (h l k r p w:Int)|to (h l r:Int)|out (h l:Int)
end aE
namespace K1
open L2 L2.DL
theorem BZ:∀ ns:List Int,intsOf (ns.map D.int)=some ns
 |[]=>rfl
 |n::ns=>by rw[aN,intsOf,BZ ns];rfl
theorem Dz:∀ ns:List Int,rQ (ns.map D.int)=true ↔ ns.Pairwise (λa b=>b<=a)
 |[]=>by simp[rQ]
 |[x]=>by simp[rQ]
 | x::y::l=>by
   have ih:=Dz (y::l);simp only[aN]at ih ⊢;simp only[rQ,aw,decide_eq_true_eq,ih];constructor
   ·intro ⟨h,p⟩;refine List.pairwise_cons.mpr ⟨λz m=>?_,p⟩;rcases aY.mp m with rfl|m
    ·exact h
    ·exact Int.le_trans ((List.pairwise_cons.mp p).1 z m) h
   ·intro p;have q:=List.pairwise_cons.mp p;exact⟨q.1 y (a8 ..),q.2⟩
noncomputable def pt (bx:List Bx) (n:Nat) (p:Int):List Bx:=bx.set n (.lst [.int p])
theorem gI {p:Int}:(pt bx n p).length=bx.length:=nK ..
theorem Om {p:Int}(h:n<bx.length):(pt bx n p)[n]?=some (.lst [.int p]):=by simp[pt,h]
theorem iX {m:af}{ws:List W}{d:D}(h:m (ws.map some++List.replicate (n-ws.length) none) bx=.rt (.d d) bx') (l:bx'.length<=bx.length):aD n (aK m) ws bx=.val (.d d) bx':=by
 simp only[aD,aK,DL.envOf,h,kS,kT,Qh l]
theorem o7 (h:n<bx.length) (p k:Int) (hk:0<k) (uq:k<10 ^ 40):fm [.b n,.d (.int k)] (pt bx n p)=.val (.d (.int (p % k))) (pt bx n (p / k)):=by
 refine iX ?_ (by rw[gI,gI];exact ag _);have g:=Om (p:=p) h;have c:sx p k:=⟨hk,uq⟩;simp[oR,ba,g,ax,a6,cb,dQ,rF,hk,c,vQ];rw[pt,pt,zL]
theorem iA (h:n<bx.length) (p k:Int) (hk:0<k) (uq:k<1073741824):fm [.b n,.d (.int k)] (pt bx n p)=.val (.d (.int (p % k))) (pt bx n (p / k)):=o7 h p k hk (by omega)
theorem Bi {l:List α}{i:Int}(h0:0<=i) (h1:i<l.length):∃ d,a6 l i=some d /\ d∈l:=by
 have h2:i.toNat<l.length:=by omega
 refine⟨l[i.toNat],?_,wM h2⟩;simp[a6,cb,h0,h1,h2]
def Dr (o:O W) (bx:List Bx) (n:Nat) (P:D->Prop):Prop:=∃ d p,o=.val (.d d) (pt bx n p) /\ P d
theorem jc (p:Int) {k:Int}(h:0<k):0<=p % k:=QI _ (by omega)
theorem jd (p:Int) {k:Int}(h:0<k):p % k<k:=QJ _ h
theorem Jd (l:List D) (i:Nat) (h:i<=l.length):DL.cutD l (some (i:Int)) none=l.drop i:=by
 unfold DL.cutD;rw[HT.J4,HT.Ge,zw h];exact Qh (by rw[zD];exact ag _)
theorem On (l:List α) (i:Nat) (h:i<l.length):a6 l (i:Int)=some l[i]:=by
 simp[a6,cb,h]
theorem m9 {g:DG}{te:DE W}(J:aF->Prop) (P:D->Prop) {bx:List Bx}{n:Nat}:∀ (l:List W) (env:aF) (p:Int) (acc:List D),J env ->
 (∀ w∈l,∀ env p,J env->∃ au,g w env (pt bx n p)=some (au,pt bx n p) /\ J au /\ Dr (te au (pt bx n p)) bx n P)->acc.length+l.length<=sizeLine ->
 ∃ ds p',bq g gz te l env (pt bx n p) acc=.val (acc++ds) (pt bx n p') /\ ds.length=l.length /\ ∀ d∈ds,P d
 |[],env,p,acc,_,_,_=>⟨[],p,by simp[bq],rfl,λd m=>by cases m⟩
 | w::l,env,p,acc,j,h,z=>by
   obtain⟨au,e1,j',d,q,e2,hd⟩:=h w (a8 ..) env p j;have z':acc.length<sizeLine:=by simp only[aX]at z;omega
   obtain⟨ds,p',e3,e4,e5⟩:=m9 J P l au q (acc++[d]) j' (λx m=>h x (aV _ m)) (by simp only[bV,aX,kF]at z ⊢;omega);refine⟨d::ds,p',?_,by simp[e4],λx m=>?_⟩
   ·simp only[bq,e1,L3,CI,e2,if_pos z',e3];simp
   ·rcases aY.mp m with rfl|m
    ·exact hd
    ·exact e5 x m
theorem o8 {g:DG}{tf:DE Bool}{te:DE W}(J:aF->Prop) (f:W->D) {bx:List Bx}{n:Nat}:∀ (l:List W) (env:aF) (p:Int) (acc:List D),J env ->
 (∀ w∈l,∀ env p,J env->∃ au b q,g w env (pt bx n p)=some (au,pt bx n p) /\ J au /\ tf au (pt bx n p)=.val b (pt bx n q) /\ te au (pt bx n q)=.val (.d (f w)) (pt bx n q))->acc.length+l.length<=sizeLine ->
 ∃ l' p',bq g tf te l env (pt bx n p) acc=.val (acc++l'.map f) (pt bx n p') /\ List.Sublist l' l
 |[],env,p,acc,_,_,_=>⟨[],p,by simp[bq],.slnil⟩
 | w::l,env,p,acc,j,h,z=>by
   obtain⟨au,b,q,e1,j',e2,e3⟩:=h w (a8 ..) env p j;have z':acc.length<sizeLine:=by simp only[aX]at z;omega
   cases b with
   | false =>
     obtain⟨ds,p',e4,e5⟩:=o8 J f l au q acc j' (λx m=>h x (aV _ m)) (by simp only[aX]at z;omega);exact⟨ds,p',by simp only[bq,e1,e2,CI,e4],.cons _ e5⟩
   | true =>
     obtain⟨ds,p',e4,e5⟩:=o8 J f l au q (acc++[f w]) j' (λx m=>h x (aV _ m)) (by simp only[bV,aX,kF]at z ⊢;omega);refine⟨w::ds,p',?_,.cons_cons _ e5⟩;simp only[bq,e1,e2,CI,e3,if_pos z',e4];simp
def digit (d:D):Prop:=∃ i:Int,d=.int i /\ 0<=i /\ i<=9
theorem AI:∀ {l:List D},(∀ d∈l,digit d)->∃ ns:List Int,l=ns.map D.int /\ ∀ i∈ns,0<=i /\ i<=9
 |[],_=>⟨[],rfl,λ_ m=>by cases m⟩
 | d::l,h=>by
   obtain⟨i,rfl,h1⟩:=h d (a8 ..);obtain⟨ns,rfl,h2⟩:=AI λx m=>h x (aV _ m);exact⟨i::ns,rfl,λx m=>by
    rcases aY.mp m with rfl|m
    ·exact h1
    ·exact h2 x m⟩
theorem Je (h4:ns.length=4) (h:∀ i∈ns,0<=i /\ i<=9):sM (.tup ((sortI ns).map D.int).reverse)=true:=by
 have l4:(sortI ns).length=4:=by rw[(jw ns).length_eq,h4]
 rw[<-List.map_reverse];have a1:tl (.tup ((sortI ns).reverse.map D.int)) 4 4=true:=by simp[tl,l4]
 have a2:(((sortI ns).reverse.map D.int).all λx=>wi x 0 9)=true:=by
  rw[tH,bX];intro i m;have:=h i ((jw ns).mem_iff.mp (List.mem_reverse.mp m));simp[wi,this.1,this.2]
 have a3:rQ ((sortI ns).reverse.map D.int)=true:=(Dz _).mpr (List.pairwise_reverse.mpr (lM ns));simp only[sM,a1,a2,a3,uY]
theorem Md (h:n<bx.length) (p:Int):Dr (gC [.b n] (pt bx n p)) bx n (λd=>kind d=true):=by
 have t4:=iA h p 4 (by decide) (by decide);obtain⟨y,e,m⟩:=Bi (l:=[D.int 9,.int 3,.int 1,.int 9]) (jc p (k:=4) (by decide)) (by show _<(4:Int);exact jd p (by decide));obtain⟨top,rfl,h0,h9⟩:∃ i:Int,y=.int i /\ 0<=i /\ i<=9:=by
  simp at m;rcases m with rfl|rfl|rfl|rfl<;>exact⟨_,rfl,by decide,by decide⟩
 have z4:(4:Nat)<=sizeLine:=by decide
 obtain⟨ds,q,e1,e2,e3⟩:=m9 (g:=fg 0) (te:=fk fm 2 (fc (dV 1) (fc (d2 false fN (dV 2) (dC (.int 1))) fe))) (λe=>∃ w,e=[w,xB n,xN top]) digit (bx:=bx) (n:=n) (fM 0 4) [none,xB n,xN top] (p / 4) [] ⟨none,rfl⟩ (by
  intro w _ env p ⟨w0,je⟩;refine⟨[some w,xB n,xN top],by simp[je],⟨_,rfl⟩,?_⟩;have t:=iA h p (top+1) (by omega) (by omega);exact⟨.int (p % (top+1)),p / (top+1),by simp[fN,t],_,rfl,jc _ (by omega),by have:=jd p (k:=top+1) (by omega);omega⟩) (by
  simp[fM];exact z4)
 obtain⟨ns,rfl,bC⟩:=AI e3;have n4:ns.length=4:=by
  rw[aL]at e2;rw[e2];simp[fM]
 have so:dF [.lst (ns.map D.int)]=some (.lst ((sortI ns).map D.int)):=by simp[dF,pZ,qI,BZ,n4]
 have Tp:=iA h q 20 (by decide) (by decide);have tx:=iA h (q / 20) 4 (by decide) (by decide);have b0:=jc q (k:=20) (by decide);have b1:=jd q (k:=20) (by decide);obtain⟨y,ey,my⟩:=Bi (l:=[D.int 30,.int (1+q % 20),.int 999,.int 8]) (jc (q / 20) (k:=4) (by decide)) (by show _<(4:Int);exact jd _ (by decide));have hy:wi y 1 999=true:=by
  simp at my;rcases my with rfl|rfl|rfl|rfl
  ·rfl
  ·simp[wi];omega
  ·rfl
  ·rfl
 have r:=Je n4 bC;refine⟨.tup [y,.tup ((sortI ns).map D.int).reverse],q / 20 / 4,iX ?_ (by rw[gI,gI];exact ag _),by simp[kind,tl,hy,r]⟩;have rg:∀ env bx,cQ (fc (dC (.int 4)) fe) env bx=.val (fM 0 4) bx:=λenv bx=>mE (j:=4) (bx1:=bx) (by simp) (by decide);have z2:(2:Nat)<=sizeLine:=by decide
 unfold lg;generalize fm=ft at t4 Tp tx e1 ⊢;simp only[vc]at e1;simp[z4,z2,t4,ax,e,rg,e1,so,Tp,tx,fN,ey,eS]
noncomputable def lP (p:Int×Int):List Int:=[p.1,p.2]
noncomputable def yB:List Int->Int×Int
 |[a,b]=>(a,b)
 |_=>(0,0)
theorem o9:∀ ps:List (Int×Int),rM (ps.map dP)=some (ps.map lP)
 |[]=>rfl
 |p::ps=>by simp[rM,intsOf,o9 ps,lP]
theorem CO (ps:List (Int×Int)):∃ qs:List (Int×Int),qs.Perm ps /\ pY (ps.map lP)=qs.map lP /\ qs.Pairwise (λa b=>nI b a=false):=by
 have pe:(pY (ps.map lP)).Perm (ps.map lP):=wN _ _;have e:(pY (ps.map lP)).map (lP∘yB)=pY (ps.map lP):=by
  conv=>rhs;rw[<-vb (pY (ps.map lP))]
  refine u9 λx m=>?_;obtain⟨p,_,rfl⟩:=List.mem_map.mp (pe.mem_iff.mp m);rfl
 refine⟨(pY (ps.map lP)).map yB,?_,?_,?_⟩
 ·have:=pe.map yB;rw[eJ]at this;have z:(yB∘lP)=id:=by funext p;rfl
  rwa [z,vb]at this
 ·rw[eJ];exact e.symm
 ·have so:=lQ (ps.map lP);rw[<-e,<-eJ]at so;exact(qk.mp so).imp λh=>h
theorem Jf (qs:List (Int×Int)):yn (qs.map lP)=qs.map dP:=by
 unfold yn;rw[eJ];rfl
theorem Me (ps:List (Int×Int)) (h:ps.length<64):∃ qs:List (Int×Int),qs.Perm ps /\ qs.Pairwise (λa b=>nI b a=false) /\ dF [.lst (ps.map dP)]=some (.lst (qs.map dP)):=by
 cases ps with
 |nil=>exact⟨[],.refl _,.nil,by simp[dF,pZ,qI,intsOf,sortI]⟩
 | cons p ps =>
   obtain⟨qs,h1,h2,h3⟩:=CO (p::ps);refine⟨qs,h1,h3,?_⟩;have e1:qI [.lst ((p::ps).map dP)]=none:=rfl;have e2:=o9 (p::ps);have l:((p::ps).map lP).length<64:=by rw[aL];exact h
   simp only[dF,pZ,e1,e2,a9,if_pos l,h2,Jf]
theorem Pt {p q:Int×Int}(h:nI q p=false) (n:p≠q):nI p q=true:=by
 cases e:nI p q with
 |true=>rfl
 | false =>
   have:=HT.gQ _ _ e h;simp only[List.cons.injEq,and_true]at this;exact absurd (Prod.ext this.1 this.2) n
theorem DA:∀ {qs:List (Int×Int)},qs.Pairwise (λa b=>nI b a=false)->qs.Nodup->qb qs=true
 |[],_,_=>rfl
 |[p],_,_=>rfl
 | p::q::r,h,n=>by
   have h1:=List.pairwise_cons.mp h;have n1:=List.nodup_cons.mp n;simp only[qb,aw];exact⟨Pt (h1.1 q (a8 ..)) (λe=>n1.1 (by rw[e];exact a8 ..)),DA h1.2 n1.2⟩
structure we (k:Nat) (ps:List (Int×Int)):Prop where
 nd:ps.Nodup
 b:∀ p∈ps,0<=p.1 /\ p.1<p.2 /\ p.2<(k:Int)
 l:ps.length<=4*k
theorem we.more {is:List Nat}(s:we k ps) (s1:is.Sublist (List.range k)) (hk:k<=4):we (k+1) (ps++is.map λ(i:Nat)=>((i:Int),(k:Int))):=by
 have li:is.length<=k:=by have:=s1.length_le;simpa using this
 refine⟨tJ.mpr ⟨s.nd,?_,?_⟩,?_,?_⟩
 ·have nr:is.Nodup:=s1.nodup List.nodup_range;exact qk.mpr (nr.imp λ{a b} h e=>h (by have z:(a:Int)=(b:Int):=congrArg Prod.fst e;omega))
 ·intro a ma b mb e;subst e;obtain⟨i,_,rfl⟩:=List.mem_map.mp mb;have:=(s.b _ ma).2.2;simp at this
 ·intro a ma;rcases List.mem_append.mp ma with m|m
  ·have:=s.b a m;omega
  ·obtain⟨i,mi,rfl⟩:=List.mem_map.mp m;have:=List.mem_range.mp (s1.subset mi);simp;omega
 ·have:=s.l;simp;omega
theorem oa (e:m env bx=.val [.d (.int (k:Int))] bx) (hk:k<=1000000):cQ m env bx=.val (fM 0 k) bx:=by
 rw[mE e (by omega),tO]
theorem Jg (h:n<bx.length) (p:Int) (x1 x2 x3 x4:Option W):∃ (ds:List D) (q:Int),rooms (.tup ds)=true /\
 gc (dN false eS (fc (gu false [none,some 0] (cQ (fc (d2 false fN (dC (.int 1)) (fk fm 2 (fc (dV 0) (fc (dC (.int 5)) fe)))) fe)) (fg 0) gz (fk fm 2 (fc (dV 1) (fc (dC (.int 4)) fe)))) fe)) (fg 1) [xB n,x1,x2,x3,x4] (pt bx n p)=.nx [xB n,some (.d (.tup ds)),x2,x3,x4] (pt bx n q):=by
 have t5:=iA h p 5 (by decide) (by decide);have lo:=jc p (k:=5) (by decide);have hi:=jd p (k:=5) (by decide);obtain⟨j,ej⟩:=QK lo;have sz:=a7
 obtain⟨ds,q,e1,e2,e3⟩:=m9 (g:=fg 0) (te:=fk fm 2 (fc (dV 1) (fc (dC (.int 4)) fe))) (λe=>∃ w,e=[w,xB n]) (λd=>wi d 0 3=true) (bx:=bx) (n:=n) (fM 0 (1+j)) [none,xB n] (p / 5) [] ⟨none,rfl⟩ (by
  intro w _ env p ⟨w0,je⟩;have t:=iA h p 4 (by decide) (by decide);have b1:=jc p (k:=4) (by decide);have b2:=jd p (k:=4) (by decide);exact⟨[some w,xB n],by simp[je],⟨_,rfl⟩,.int (p % 4),p / 4,by simp[t],by simp[wi];omega⟩) (by simp[fM];omega)
 have n5:ds.length=1+j:=by rw[e2];simp[fM]
 refine⟨ds,q,?_,?_⟩
 ·have a1:tl (.tup ds) 1 5=true:=by simp[tl];omega
  have a2:(ds.all λx=>wi x 0 3)=true:=bX.mpr e3;simp[rooms,a1,a2]
 ·have rg:=oa (env:=[xB n,x1,x2,x3,x4]) (bx:=pt bx n (p / 5)) (k:=1+j) (m:=λ_ bx=>.val [.d (.int ((1+j:Nat):Int))] bx) rfl (by omega);have r2:cQ (fc (d2 false fN (dC (.int 1)) (fk fm 2 (fc (dV 0) (fc (dC (.int 5)) fe)))) fe) [xB n,x1,x2,x3,x4] (pt bx n p)=.val (fM 0 (1+j)) (pt bx n (p / 5)):=by
   have a:(fc (d2 false fN (dC (.int 1)) (fk fm 2 (fc (dV 0) (fc (dC (.int 5)) fe)))) fe) [xB n,x1,x2,x3,x4] (pt bx n p)=.val [.d (.int ((1+j:Nat):Int))] (pt bx n (p / 5)):=by
    simp[t5,fN,ej]
   rw[mE a (by omega),tO]
  simp only[vc]at e1;rw[Bb,GZ,j7,j8,r2,fS,show ed [none,some 0] [some (W.b n),x1,x2,x3,x4]=[none,some (W.b n)] from rfl,e1,fS,gF,fS,oS,fS,fS,iW,oU,lU,tK,a9,show eS [.lst ds]=some (.tup ds) from rfl,gF,A9,jJ,jp];rfl
theorem Jh (h:n<bx.length) (p:Int) (x1 x2 x3 x4:Option W):∃ (ds:List D) (q:Int),kinds (.tup ds)=true /\ ds.length<=4 /\
 gc (dN false eS (fc (gu false [none,some 0] (cQ (fc (d2 false fN (dC (.int 1)) (fk fm 2 (fc (dV 0) (fc (dC (.int 4)) fe)))) fe)) (fg 0) gz (fk gC 1 (fc (dV 1) fe))) fe)) (fg 2) [xB n,x1,x2,x3,x4] (pt bx n p)=.nx [xB n,x1,some (.d (.tup ds)),x3,x4] (pt bx n q):=by
 have t5:=iA h p 4 (by decide) (by decide);have lo:=jc p (k:=4) (by decide);have hi:=jd p (k:=4) (by decide);obtain⟨j,ej⟩:=QK lo;have sz:=a7
 obtain⟨ds,q,e1,e2,e3⟩:=m9 (g:=fg 0) (te:=fk gC 1 (fc (dV 1) fe)) (λe=>∃ w,e=[w,xB n]) (λd=>kind d=true) (bx:=bx) (n:=n) (fM 0 (1+j)) [none,xB n] (p / 4) [] ⟨none,rfl⟩ (by
  intro w _ env p ⟨w0,je⟩;obtain⟨d,q,e,m⟩:=Md h p;exact⟨[some w,xB n],by simp[je],⟨_,rfl⟩,d,q,by simp[e],m⟩) (by simp[fM];omega)
 have n5:ds.length=1+j:=by rw[e2];simp[fM]
 refine⟨ds,q,?_,by omega,?_⟩
 ·have a1:tl (.tup ds) 1 4=true:=by simp[tl];omega
  have a2:(ds.all kind)=true:=bX.mpr e3;simp[kinds,a1,a2]
 ·have r2:cQ (fc (d2 false fN (dC (.int 1)) (fk fm 2 (fc (dV 0) (fc (dC (.int 4)) fe)))) fe) [xB n,x1,x2,x3,x4] (pt bx n p)=.val (fM 0 (1+j)) (pt bx n (p / 4)):=by
   have a:(fc (d2 false fN (dC (.int 1)) (fk fm 2 (fc (dV 0) (fc (dC (.int 4)) fe)))) fe) [xB n,x1,x2,x3,x4] (pt bx n p)=.val [.d (.int ((1+j:Nat):Int))] (pt bx n (p / 4)):=by
    simp[t5,fN,ej]
   rw[mE a (by omega),tO]
  simp only[vc]at e1;rw[Bb,GZ,j7,j8,r2,fS,show ed [none,some 0] [some (W.b n),x1,x2,x3,x4]=[none,some (W.b n)] from rfl,e1,fS,gF,fS,oS,fS,fS,iW,oU,lU,tK,a9,show eS [.lst ds]=some (.tup ds) from rfl,gF,A9,jJ,jp];rfl
theorem Mf (h:n<bx.length) (p:Int) (x1 x2 x3 x4:Option W):∃ (d:D) (q:Int),wi d 1 9=true /\
 d2 false ax (iE false (fc (dC (.int 1)) (fc (dC (.int 2)) (fc (dC (.int 9)) (fc (d2 false fN (dC (.int 1)) (fk fm 2 (fc (dV 0) (fc (dC (.int 9)) fe)))) fe))))) (fk fm 2 (fc (dV 0) (fc (dC (.int 4)) fe))) [xB n,x1,x2,x3,x4] (pt bx n p)=.val (.d d) (pt bx n q):=by
 have t9:=iA h p 9 (by decide) (by decide);have t4:=iA h (p / 9) 4 (by decide) (by decide);have lo:=jc p (k:=9) (by decide);have hi:=jd p (k:=9) (by decide);obtain⟨y,ey,my⟩:=Bi (l:=[D.int 1,.int 2,.int 9,.int (1+p % 9)]) (jc (p / 9) (k:=4) (by decide)) (by show _<(4:Int);exact jd _ (by decide));have z4:(4:Nat)<=sizeLine:=by decide
 refine⟨y,p / 9 / 4,?_,?_⟩
 ·simp at my;rcases my with rfl|rfl|rfl|rfl
  ·rfl
  ·rfl
  ·rfl
  ·simp[wi];omega
 ·generalize fm=ft at t4 t9 ⊢;simp[t9,fN,z4,t4,ax,ey]
theorem Pu {m k:DE W}{bx2:List Bx}{l0:List D}{d:D}(h1:m env bx=.val (.b i) bx1) (Yw:bx1[i]?=some (.lst l0)) (h2:k env bx1=.val (.d d) bx2) (hb:bx2[i]?=some (.lst l)) (hl:l.length<sizeLine):ui m k env bx=.val (.d .ae) (bx2.set i (.lst (l++[d]))):=by
 unfold ui;rw[h1,fS];simp only[Yw,h2,fS,hb,if_pos hl]
section
variable {d lim rt : D} {rs ks ps : List D} {fo so fi tw th : Option W} 
end
section
variable {d lim rt : D} {rs ks ps : List D} {fo so fi tw th : Option W} 
end
theorem Oo {m:af}{ws:List W}{d:D}(h:m (ws.map some++List.replicate (n-ws.length) none) bx=.rt (.d d) bx'):aD n (aK m) ws bx=.val (.d d) (bx'.take bx.length):=by
 simp only[aD,aK,DL.envOf,h,kS,kT]
theorem Op (l:List Int) (k:Nat) (bx:List Bx):∃ c:Int,gX [.s l,.d (.int (k:Int))] bx=.val (.d (.int c)) bx:=by
 by_cases h:k<l.length
 ·have a:a6 l (k:Int)=some l[k]:=On l k h;refine⟨l[k],gf ?_⟩;have h':(k:Int)<(l.length:Int):=by omega
  simp[iZ,pV,dG,h',yb,a]
 ·refine⟨0,gf ?_⟩;have h':¬ (k:Int)<(l.length:Int):=by omega
  simp[iZ,pV,dG,h']
abbrev HI:af:=(fI (gc (d2 false dQ (d2 false dD (d2 false fN (d2 false fN (d2 false dQ (dV 0) (dC (.int 2147483629))) (d2 false dD (dC (.int 7919)) (dV 2))) (dC (.int 1))) (dC (.int 48271))) (dC (.int 2147483647))) (fg 3)) (fI (gc (d2 false dQ (d2 false fN (d2 false fN (d2 false dD (dV 3) (dV 3)) (d2 false dD (dC (.int 69621)) (dV 2))) (dC (.int 7))) (dC (.int 2147483587))) (fg 3)) (gc (d2 false fN (d2 false dD (dV 1) (dC (.int 2147483587))) (dV 3)) (fg 1))))
theorem Ji {i j:Int}(h1:-(2 ^ 64)<i) (h2:i<2 ^ 64):dD (.int i) (.int j)=some (.old (.int (i*j))):=if_pos (.inl ⟨h1,h2⟩)
theorem ML {i j:Int}(h1:-(2 ^ 64)<j) (h2:j<2 ^ 64):dD (.int i) (.int j)=some (.old (.int (i*j))):=if_pos (.inr ⟨h1,h2⟩)
theorem Jj {i j:Int}(h1:0<j):dQ (.int i) (.int j)=some (.old (.int (i % j))):=if_pos h1
theorem DB {i j:Int}(h1:tZ i j):dR (.int i) (.int j)=some (.old (.int (i ^ j.toNat))):=if_pos h1
theorem FJ (c x j:Int) (w:Option W) (bx:List Bx):∃ x' y,HI [xN c,xN x,xN j,w] bx=.nx [xN c,xN x',xN j,xN y] bx:=by
 let a:=(c % 2147483629+7919*j+1)*48271 % 2147483647
 let b:=(a*a+69621*j+7) % 2147483587
 have a0:0<=a:=jc _ (by decide);have a1:a<2147483647:=jd _ (by decide);have e1:gc (d2 false dQ (d2 false dD (d2 false fN (d2 false fN (d2 false dQ (dV 0) (dC (.int 2147483629))) (d2 false dD (dC (.int 7919)) (dV 2))) (dC (.int 1))) (dC (.int 48271))) (dC (.int 2147483647))) (fg 3) [xN c,xN x,xN j,w] bx=.nx [xN c,xN x,xN j,xN a] bx :=
  gp (fH (r:=.old _) (fH (r:=.old _) (fH (r:=.old _) (fH (r:=.old _) (fH (r:=.old _) rfl rfl (Jj (by decide))) (fH (r:=.old _) rfl rfl (Ji (by decide) (by decide))) rfl) rfl rfl) rfl (ML (by decide) (by decide))) rfl (Jj (by decide)))
 have e2:gc (d2 false dQ (d2 false fN (d2 false fN (d2 false dD (dV 3) (dV 3)) (d2 false dD (dC (.int 69621)) (dV 2))) (dC (.int 7))) (dC (.int 2147483587))) (fg 3) [xN c,xN x,xN j,xN a] bx=.nx [xN c,xN x,xN j,xN b] bx :=
  gp (fH (r:=.old _) (fH (r:=.old _) (fH (r:=.old _) (fH (r:=.old _) rfl rfl (Ji (by omega) (by omega))) (fH (r:=.old _) rfl rfl (Ji (by decide) (by decide))) rfl) rfl rfl) rfl (Jj (by decide)))
 have e3:gc (d2 false fN (d2 false dD (dV 1) (dC (.int 2147483587))) (dV 3)) (fg 1) [xN c,xN x,xN j,xN b] bx=.nx [xN c,xN (x*2147483587+b),xN j,xN b] bx :=
  gp (fH (r:=.old _) (fH (r:=.old _) rfl rfl (ML (by decide) (by decide))) rfl rfl)
 exact⟨_,_,by unfold HI;rw[fu e1,fu e2,e3]⟩
theorem Jk {m:af}{ws:List W}(h:m (ws.map some++List.replicate (n-ws.length) none) bx=.rt (.b i) bx'):aD n (aK m) ws bx=.val (.b i) bx':=by
 simp only[aD,aK,DL.envOf,h,kS,kT]
theorem Pv (c:Int) (bx:List Bx):∃ p:Int,jB [.d (.int c)] bx=.val (.b bx.length) (bx++[.lst [.int p]]):=by
 have sz:=a7;have Tq:∀ e b,d2 false dR (dC (.int 10)) (dC (.int 18)) e b=.val (.d (.int (10 ^ 18))) b:=λe b=>fH (r:=.old _) rfl rfl (DB (by decide));have t:dB (d2 false qH (dV 0) (d2 false dR (dC (.int 10)) (dC (.int 18)))) [xN c,none,none,none] bx=.val (decide (10 ^ 18<=c)) bx:=iO (fH (r:=.old _) rfl (Tq _ _) rfl);by_cases h:10 ^ 18<=c
 ·rw[decide_eq_true h]at t;refine⟨c-10 ^ 18,Jk ?_⟩;show jk [xN c,none,none,none] bx=_;unfold jk;refine(oZ ((jK t).trans (iF (Jc [.int (c-10 ^ 18)] (ff (fH (r:=.old _) rfl (Tq _ _) rfl) rfl) (show (1:Nat)<=sizeLine by omega))))).trans rfl
 ·rw[decide_eq_false h]at t;have rg:=oa (env:=[xN c,xN 0,none,none]) (bx:=bx) (k:=64) (m:=fc (dC (.int 64)) fe) rfl (by decide);obtain⟨au,bx',e,x,w2,w3,rfl,rfl⟩:=Bh (g:=fg 2) (body:=HI) (λ_ env b=>∃ (x:Int) (w2 w3:Option W),env=[xN c,xN x,w2,w3] /\ b=bx) (fM 0 64) 0 [xN c,xN 0,none,none] bx ⟨0,none,none,rfl,rfl⟩ (by
   rintro i w env b hw ⟨x,w2,w3,rfl,rfl⟩;obtain⟨j,_,rfl⟩:=List.mem_map.mp (zB hw);obtain⟨x',y,e⟩:=FJ c x (0+(j:Int)) w3 b;exact⟨_,_,_,_,rfl,e,x',_,_,rfl,rfl⟩)
  refine⟨x,Jk ?_⟩;show jk [xN c,none,none,none] bx'=_;unfold jk;refine(fu (iD t)).trans ?_;refine(fu (gp rfl)).trans ?_;refine(fu ((lV rg).trans e)).trans ?_;exact iF (Jc [.int x] rfl (show (1:Nat)<=sizeLine by omega))
end K1
namespace K2
open L2 L2.DL K1
noncomputable def hr (d:D):Bool:=match d with
 |.int i=>decide (0<=i)
 |_=>false
theorem DC (d:D) (bx:List Bx):gL [.d d] bx=.val (.d (.bl (hr d))) bx :=
 gf (by cases d<;>simp[mB,oV,wh,qH,hr])
theorem Jl {d:D}(h:hr d=true):∃ i:Int,d=.int i /\ 0<=i:=by
 cases d<;>simp[hr]at h;exact⟨_,rfl,h⟩
noncomputable def bI (d:D):Bool:=match d with
 |.tup [.int a,.int b]=>decide (0<=a)&&decide (a<b)
 |_=>false
theorem Aa (a b:D):bI (.tup [a,b])=(hr a&&(hr b&&(match a,b with|.int i,.int j=>decide (i<j)|_,_=>false))):=by
 cases a<;>cases b<;>simp[bI,hr];rename_i i j;rw[qg];simp;omega
theorem Oq (d:D) (bx:List Bx):jl [.d d] bx=.val (.d (.bl (bI d))) bx :=
 gf (by
  cases d with
  | tup l =>
    have e1:=fT (.tup l) 2 2 bx;cases h:tl (.tup l) 2 2 with
    | false =>
      rw[h]at e1;have e:bI (.tup l)=false:=by
       unfold bI;split
       ·rename_i q;cases q;simp[tl]at h
       ·rfl
      unfold lS;generalize K1.fX=ft at e1 ⊢;simp[e1,e]
    | true =>
      obtain⟨a,b,rfl⟩:=yx h;rw[h]at e1;have h1:=DC a bx;have h2:=DC b bx;rw[Aa];unfold lS;generalize K1.fX=ft at e1 ⊢;generalize gL=fh at h1 h2 ⊢;cases q1:hr a with
      |false=>simp[e1,ax,a6,cb,h1,q1]
      | true =>
        cases q2:hr b with
        |false=>simp[e1,ax,a6,cb,h1,q1,h2,q2]
        | true =>
          obtain⟨i,rfl,_⟩:=Jl q1;obtain⟨j,rfl,_⟩:=Jl q2;simp[e1,ax,a6,cb,h1,q1,h2,q2,dG]
  |_=>simp[lS,fT,tl,bI])
noncomputable def bg:List (Int×Int)->Bool
 |p::q::r=>decide (p.2<q.1)&&bg (q::r)
 |_=>true
theorem AJ:∀ (p:Int×Int) (ps:List (Int×Int)),dq ((p::ps).map dP) (ps.map dP)=((p::ps).zip ps).map λx=>W.d (.tup [dP x.1,dP x.2])
 |p,[]=>rfl
 | p,q::ps=>by
   have:=AJ q ps;simp only[aN]at this ⊢;simp only[dq,qi,aN,this]
theorem AK:∀ (p:Int×Int) (ps:List (Int×Int)),bg (p::ps)=((p::ps).zip ps).all λx=>decide (x.1.2<x.2.1)
 |p,[]=>rfl
 | p,q::ps=>by
   rw[bg,AK q ps];simp
theorem Bj {h:D}(hh:house h=true) (ok:uc h) (bx:List Bx):ja [.d h] bx=.val (.d .ae) bx:=by
 have e:=Ja h ok bx;rw[hh]at e;have m:iI [some (.d h)] bx=.nx [some (.d h)] bx:=by
  unfold iI;exact iD (jX (iO (gh (ff rfl rfl) rfl e)))
 show kT bx.length (kS (iI [some (.d h)] bx))=_;rw[m];simp[kS,kT]
section
variable {hs : List D} {c hold hour : Int} {x1 x2 : Option W} 
end
section
variable {d : D} {rs : List Int} {hold hour : Int} 
end
end K2
namespace L2.DL
section
variable {env1 : aF} {bx2 : List Bx} {m : DE W} {ks : DE (List W)} {l : List W} {c : Nat}
theorem mG (h:m env bx=.exc c bx1):ij m env bx=.exc c bx1:=by rw[Ds,h];rfl
theorem lh {a b:af}(h:a env bx=.exc c bx1):fI a b env bx=.exc c bx1:=by rw[Ba,h]
theorem iK {w:W}(h:m env bx=.val w bx1):kZ c m env bx=.exc c bx1:=by unfold kZ;rw[h];rfl
theorem jY {m:af}{ws:List W}(h:m (ws.map some++List.replicate (n-ws.length) none) bx=.exc c bx):aD n m ws bx=.exc c bx:=by
 simp only[aD,DL.envOf,h,kS,kT,rY]
theorem Pw {m:af}{ws:List W}{e:aF}(h:m (ws.map some++List.replicate (n-ws.length) none) bx=.nx e bx):aD n m ws bx=.val (.d .ae) bx:=by
 simp only[aD,DL.envOf,h,kS,kT,rY]
theorem DD {m:af}(h:m env bx=.exc c bx1) (hc:c<17):qM m env bx=.rt (.d (.str (wordOf c))) bx1:=by unfold qM;rw[h];exact if_pos hc
end
end L2.DL
namespace K2
open L2 L2.DL K1
section
variable {h : D} {rs : List Int} {hold : Int} 
end
end K2
namespace K1
open L2 L2.DL
section
variable {p : Int} {x y : Bx} {E : List Bx}
theorem Os (h:n<bx.length):pt bx n p++E=pt (bx++E) n p:=by
 unfold pt;rw[List.set_append_left _ _ h]
end
end K1
namespace K2
open L2 L2.DL K1
end K2
namespace eG
open L2 L2.DL K1
theorem CP {lo:Int}{m:Nat}{w:W}(h:(fM lo m)[j]?=some w):w=.d (.int (lo+j)) /\ j<m:=by
 have hj:=(List.getElem?_eq_some_iff.mp h).1;have hm:j<m:=by simpa[fM] using hj
 simp[fM,hm]at h;exact⟨h.symm,hm⟩
section
variable {bx2 : List Bx}
end
end eG
namespace K2
open L2 L2.DL K1
end K2
namespace eG
open L2 L2.DL K1
section
variable {bx2 : List Bx}
end
open K2
section
variable {h : D} 
end
end eG
namespace eH
open L2 L2.DL
open K1 eG
section
variable {enc : α -> D} {r : aF}
theorem HJ (p:α->Bool) (f:α->D):∀ (l:List α) (w:Option W) (acc:List D),acc.length+l.length<=sizeLine->(∀ a∈l,tf (some (.d (enc a))::r) bx=.val (p a) bx /\ (p a=true->te (some (.d (enc a))::r) bx=.val (.d (f a)) bx)) ->
 bq (fg 0) tf te ((l.map enc).map W.d) (w::r) bx acc=.val (acc++(l.filter p).map f) bx
 |[],w,acc,_,_=>by simp[bq]
 | a::l,w,acc,n,h=>by
   obtain⟨h1,h2⟩:=h a (a8 ..);rw[aX]at n;have n':acc.length<sizeLine:=by omega
   have e0:fg 0 (W.d (enc a)) (w::r) bx=some (some (W.d (enc a))::r,bx):=rfl;cases c:p a with
   | false =>
     rw[List.filter_cons_of_neg (by simp[c]),<-HJ p f l (some (W.d (enc a))) acc (by omega) λx m=>h x (aV _ m)];rw[c]at h1;simp only[aN,bq,e0,h1,CI]
   | true =>
     rw[List.filter_cons_of_pos c];have ih:=HJ p f l (some (W.d (enc a))) (acc++[f a]) (by simp;omega) λx m=>h x (aV _ m);rw[c]at h1;simp only[aN,bq,e0,h1,h2 c,CI,if_pos n',ih];simp
theorem Yx {src:List (Option Nat)}{Tr:List Bx}{l:List α}(p:α->Bool) (f:α->D) (h1:mi env Tr=.val ((l.map enc).map W.d) bx) (he:ed src env=none::r) (n:l.length<=sizeLine)
 (h:∀ a∈l,tf (some (.d (enc a))::r) bx=.val (p a) bx /\ (p a=true->te (some (.d (enc a))::r) bx=.val (.d (f a)) bx)):gu false src mi (fg 0) tf te env Tr=.val (.d (.lst ((l.filter p).map f))) bx :=
 Dy h1 he (by rw[HJ p f l none [] (by simpa using n) h];rfl)
end
theorem Jm (a b:Int×Int):eqv (dP a) (dP b)=decide (a=b):=by
 rw[qg];obtain⟨a1,a2⟩:=a;obtain⟨b1,b2⟩:=b;simp[eqv,toPy,aI,PyData.eqv,PyData.eqvAll]
end eH
namespace aE
open L2 L2.DL K1 eH
open HT (a5)
abbrev hs (rs ks:List D) (ps:List (Int×Int)) (hd:D):D:=.tup [.tup rs,.tup ks,.tup (ps.map dP),hd]
structure Hs (rs ks:List D) (ps:List (Int×Int)) (hd:D):Prop where
 r1:1<=rs.length
 r5:rs.length<=5
 k1:1<=ks.length
 k4:ks.length<=4
 b:∀ p∈ps,p.1<p.2
 l:ps.length<=1000
 hh:house (hs rs ks ps hd)=true
theorem eq_str (a b:Str):bw (.str a) (.str b)=some (.old (.bl (decide (a=b)))):=by
 simp[bw]
section
variable {rs ks : List D} 
theorem Jn {i:Int}(h:0<=i):K2.gL [.d (.int i)] bx=.val (.d (.bl true)) bx :=
 gf (by simp[K2.mB,oV,wh,qH,h])
theorem Mg (h:Hs rs ks ps hd):uc (hs rs ks ps hd):=by
 show short (.tup (ps.map dP));show (ps.map dP).length<=sizeLine;rw[aL,a7];have:=h.l;omega
end
end aE
namespace K83
open L2 L2.DL
open K1 (dP)
open K2 (bI hr bg)
open HT (ak aB cR a5 lexLt)
noncomputable abbrev pg (q:Int×Int):D:=.tup [.int q.1,.str "out",.int q.2]
theorem so:PyData.strOk (Str.ofString "out")=true:=by decide +kernel
theorem DH {f:Int×Int->D}(hf:∀ q,(toPy (f q)).canLay0=true /\ (toPy (f q)).depth<=1):∀ l:List (Int×Int),PyData.canLayAll0 (aI (l.map f))=true /\ PyData.depthAll (aI (l.map f))<=1
 |[]=>⟨rfl,k8 _⟩
 | q::l=>by
   obtain⟨a,b⟩:=hf q;obtain⟨c,d⟩:=DH hf l;simp only[aN,aI,PyData.canLayAll0,PyData.depthAll,a,c];exact⟨rfl,by omega⟩
theorem Yy (q:Int×Int):(toPy (pg q)).canLay0=true /\ (toPy (pg q)).depth<=1:=by simp[so,toPy,aI,PyData.canLay0,PyData.canLayAll0,PyData.depth,PyData.depthAll]
theorem Ts (q:Int×Int):(toPy (dP q)).canLay0=true /\ (toPy (dP q)).depth<=1:=by simp[toPy,aI,PyData.canLay0,PyData.canLayAll0,PyData.depth,PyData.depthAll]
theorem MM {f:Int×Int->D}(hf:∀ q,(toPy (f q)).canLay0=true /\ (toPy (f q)).depth<=1) (l:List (Int×Int)):km (.tup (l.map f))=true:=by
 obtain⟨c,d⟩:=DH hf l;unfold km;simp only[toPy,PyData.canLay0,PyData.depth,c,zA,decide_eq_true_eq];omega
theorem Ot (a b:Int×Int):eqv (pg a) (pg b)=decide (a=b):=by
 rw[qg];obtain⟨a1,a2⟩:=a;obtain⟨b1,b2⟩:=b;simp[eqv,toPy,aI,PyData.eqv,PyData.eqvAll]
structure Kd (f:Int×Int->D):Prop where
 d:∀ q,(toPy (f q)).canLay0=true /\ (toPy (f q)).depth<=1
 e:∀ a b,eqv (f a) (f b)=decide (a=b)
 t:∀ q,∃ x l,f q=.tup (x::l)
theorem uF:Kd pg:=⟨Yy,Ot,λq=>⟨_,_,rfl⟩⟩
theorem HK:Kd dP:=⟨Ts,eH.Jm,λq=>⟨_,_,rfl⟩⟩
theorem Kd.q {f:Int×Int->D}(k:Kd f) (q:Int×Int):km (f q)=true:=by
 obtain⟨a,b⟩:=k.d q;unfold km;rw[a,zA,decide_eq_true_eq];omega
theorem CQ {f:Int×Int->D}(k:Kd f) (neg:Bool) (q:Int×Int) (ps:List (Int×Int)):inD neg (f q) (.tup (ps.map f))=some (.old (.bl (if neg then !decide (q∈ps) else decide (q∈ps)))):=by
 have fl:kn (f q)=false:=by obtain⟨x,l,e⟩:=k.t q;rw[e];rfl
 show (if kn (f q)=true /\ (ps.map f).all kn=true then some (Res.old (.bl (if neg then !nH (f q) (ps.map f) else nH (f q) (ps.map f)))) else uC neg (f q) (.tup (ps.map f)) (ps.map f))=_;rw[if_neg (λz=>by rw[fl]at z;cases z.1)];unfold uC;have any:((ps.map f).any λz=>eqv z (f q))=decide (q∈ps):=by
  rw[qg,List.any_eq_true,decide_eq_true_eq];constructor
  ·rintro⟨z,m,e⟩;obtain⟨x,mx,rfl⟩:=List.mem_map.mp m;rw[k.e,decide_eq_true_eq]at e;exact e▸mx
  ·intro m;exact⟨f q,List.mem_map.mpr ⟨q,m,rfl⟩,by rw[k.e,decide_eq_true_eq]⟩
 rw[k.q q,MM k.d ps,any];rfl
theorem P9 {f:Int×Int->D}(k:Kd f) (a b:Int×Int):pT (f a) (f b)=some (.old (.bl (!decide (a=b)))):=by
 have:pT (f a) (f b)=n9 true (f a) (f b):=by
  obtain⟨x,l,e⟩:=k.t a;rw[e];obtain⟨y,m,e'⟩:=k.t b;rw[e'];rfl
 rw[this];unfold n9;rw[k.q a,k.q b,k.e];rfl
theorem AL {f:Int×Int->D}(k:Kd f) (ps:List (Int×Int)) (n:ps.length<=1000) (q:Int×Int) (bx:List Bx):jC [.d (.tup (ps.map f)),.d (f q)] bx=.val (.d (.tup ((ps.filter λx=>!decide (x=q)).map f))) bx:=by
 refine gf ?_;show mC [some (.d (.tup (ps.map f))),some (.d (f q))] bx=_;unfold mC;refine iF (jD (r:=.tup _) [.lst _] (ff ?_ rfl) rfl);have sz:=a7;exact eH.Yx (enc:=f) (l:=ps) (r:=[some (.d (f q))]) (λx=>!decide (x=q)) f (Ma rfl) rfl (by omega) λa _=>⟨iO (fH (r:=.old _) rfl rfl (P9 k a q)),λ_=>rfl⟩
section
variable {rs kk : List D} 
theorem DI:aE.gZ [.d (aE.hs rs kk pp hd),.d (.str "out")] bx=.val (.d (.tup [.int 9])) bx :=
 gf (by
  have s1:(1:Nat)<=sizeLine:=by decide
  have a:¬ ("out":Str)="in":=by decide
  simp[aE.jm,vK,bU,ax,a6,cb,dk,aE.eq_str,a,s1])
theorem Ou {h l:Int}(h0:0<=h) (h1:0<=l) (h2:l<=9):aE.gm [.d (aE.hs rs kk pp hd),.d (pg (h,l))] bx=.val (.d (.bl true)) bx:=by
 refine gf ?_;have z:sizeLine=16777216:=a7;simp[aE.jn,K1.mD,bU,dG,aE.Jn h0,ax,a6,cb,pT,dk,DI,pS,DL.cutD,HT.aq,pf,dq,bq,K1.iu,K1.wi,z,dA,nD,h1,h2]
end
abbrev lx (a b:Int×Int):Prop:=a.1<b.1 \/ (a.1=b.1 /\ a.2<=b.2)
abbrev Up (l:List (Int×Int)):Prop:=l.Pairwise lx
structure Rw (f:Int×Int->D) (g:Int×Int->List ak):Prop where
 r:∀ q,rowOf (f q)=some (g q)
 d:∀ q,f q=ph (g q)
 l:∀ a b,cR (g a) (g b)=true
 o:∀ a b,lx a b->a5 (g b) (g a)=false
 i:∀ q,intsOf [f q]=none
theorem Yz:Rw pg λq=>[.i q.1,.s "out",.i q.2]:=⟨λ_=>rfl,λ_=>rfl,λ_ _=>rfl,λa b h=>by
 unfold a5;by_cases e:b.1=a.1
 ·have l2:¬ b.2<a.2:=by rcases h with h|h<;>omega
  by_cases n2:b.2=a.2
  ·simp[a5,e,n2]
  ·simp[a5,e,n2,ak.lt,l2]
 ·have h2:¬ b.1<a.1:=by rcases h with h|h<;>omega
  simp[e,ak.lt,h2],λ_=>rfl⟩
theorem HL:Rw dP λq=>[.i q.1,.i q.2]:=⟨λ_=>rfl,λ_=>rfl,λ_ _=>rfl,λa b h=>by
 unfold a5;by_cases e:b.1=a.1
 ·have l2:¬ b.2<a.2:=by rcases h with h|h<;>omega
  by_cases n2:b.2=a.2
  ·simp[a5,e,n2]
  ·simp[a5,e,n2,ak.lt,l2]
 ·have h2:¬ b.1<a.1:=by rcases h with h|h<;>omega
  simp[e,ak.lt,h2],λ_=>rfl⟩
theorem Bk {f:Int×Int->D}{g:Int×Int->List ak}(w:Rw f g) (p:qs.Perm ps) (n:ps.length<64) (u:Up qs):dF [.tup (ps.map f)]=some (.lst (qs.map f)):=by
 cases ps with
 | nil =>
   have:qs=[]:=by have:=p.length_eq;cases qs with|nil=>rfl|cons=>simp at this
   subst this;simp[dF,pZ,qI,intsOf,sortI]
 | cons x ps =>
   have ii:intsOf ((x::ps).map f)=none:=by
    have:=w.i x;simp only[intsOf,aN]at this ⊢;cases e:f x with
    |int i=>rw[e]at this;cases this
    |_=>rfl
   have e0:pZ [.tup ((x::ps).map f)]=none:=by
    unfold pZ qI;simp only[ii];rfl
   have rows:∀ l:List (Int×Int),rowsOf (l.map f)=some (l.map g):=λl=>by
    induction l with
    |nil=>rfl
    |cons y l ih=>simp[rowsOf,w.r,ih]
   have lk:∀ l:List (Int×Int),uA (l.map g)=true:=λl=>by
    simp only[uA,bX,List.mem_map];rintro _ ⟨a,_,rfl⟩ _ ⟨b,_,rfl⟩;exact w.l a b
   have so:qs.map g=rO ((x::ps).map g):=mP (lk _) (p.map g) (by
    rw[qk];exact u.imp λ{a b} h=>by rw[HT.A5 _ _ (w.l b a)];exact w.o a b h)
   unfold dF;rw[e0];simp only[rows,a9,lk,aL,and_true,if_pos n];rw[<-so,eJ];congr 2;exact u9 λq _=>(w.d q).symm
theorem Px (ps:List (Int×Int)) (n:ps.length<=1000) (bx:List Bx):K2.iJ [.d (.lst (ps.map dP))] bx=.val (.d (.bl (bg ps))) bx :=
 gf (by
  have sz:=a7;have cut:DL.cutD (ps.map dP) (some 1) none=ps.tail.map dP:=by
   cases ps with
   |nil=>rfl
   | cons p ps =>
     have:=K1.Jd ((p::ps).map dP) 1 (by simp);simpa using this
  cases ps with
  |nil=>simp[K2.iV,pS,cut,pf,dq,bq,dA,nD,bg]
  | cons p ps =>
    have ez:=K2.AJ p ps;have c:=K1.iM (g:=iP 2 (f8 (fg 0) (f8 (fg 1) jH))) (te:=d2 false dG (d2 false ax (dV 0) (dC (.int 1))) (d2 false ax (dV 1) (dC (.int 0)))) (bx:=bx) (env:=[none,none]) (l:=((p::ps).zip ps).map λx=>D.tup [dP x.1,dP x.2]) (λe=>∃ a b,e=[a,b]) (λd=>.bl (match d with|.tup [.tup [_,.int i],.tup [.int j,_]]=>decide (i<j)|_=>false)) ⟨none,none,rfl⟩ (by
     intro d m e ⟨a,b,je⟩;obtain⟨x,_,rfl⟩:=List.mem_map.mp m;exact⟨[some (.d (dP x.1)),some (.d (dP x.2))],by simp[je],⟨_,_,rfl⟩,by simp[ax,a6,cb,dG]⟩) (by
     rw[aL,List.length_zip];simp at n ⊢;omega)
    rw[eJ]at c;have r:(pf (fc (dV 0) (fc (rJ false (dV 0) (rH (dC (.int 1))) sy) fe))) [some (W.d (.lst ((p::ps).map dP)))] bx=.val (((p::ps).zip ps).map λx=>W.d (.tup [dP x.1,dP x.2])) bx:=by
     unfold pf;rw[ff (w:=.d (.lst ((p::ps).map dP))) (l:=[.d (.lst (ps.map dP))]) rfl (ff (Ps (r:=.lst (ps.map dP)) rfl (L9 rfl) rfl (by rw[pS,cut];rfl)) rfl),fS,<-ez]
    show K2.iV [some (W.d (.lst ((p::ps).map dP)))] bx=_;unfold K2.iV;refine iF ?_;refine(jD (r:=.old (.bl (bg (p::ps)))) [.lst _] (ff (Dy r rfl c) rfl) ?_);rw[eJ];have:=K1.all_map (((p::ps).zip ps).map λx=>D.tup [dP x.1,dP x.2]) (λd=>match d with|.tup [.tup [_,.int i],.tup [.int j,_]]=>decide (i<j)|_=>false);rw[eJ,tH]at this;rw[K2.AK];exact this)
abbrev Bd (l:List (Int×Int)):Prop:=∀ q∈l,q.1.natAbs<=10 ^ 41 /\ q.2.natAbs<=10 ^ 41
theorem jE {os:List (Int×Int)}(hk:Bd ks) (ho:Bd os) (nk:ks.length<=100) (no:os.length<=100):nE (.tup [.lst (ks.map pg),.tup (os.map dP)])=true:=by
 have sz:=a7;have s1:∀ d∈ks.map pg,Sm (10 ^ 41) 1 4000 d:=λd m=>by
  obtain⟨q,mq,rfl⟩:=List.mem_map.mp m;obtain⟨a,b⟩:=hk q mq;have s3:(reprText "out").length=5:=by decide +kernel
  have:=Sm.tup (bO.cons (Sm.int (a:=0) a) (bO.cons (Sm.str (x:="out")) (bO.cons (Sm.int b) bO.nil)));exact this.mono (ag _) (by rw[s3];decide)
 have s2:∀ d∈os.map dP,Sm (10 ^ 41) 1 4000 d:=λd m=>by
  obtain⟨q,mq,rfl⟩:=List.mem_map.mp m;obtain⟨a,b⟩:=ho q mq;exact(Sm.tup (bO.cons (Sm.int (a:=0) a) (bO.cons (Sm.int b) bO.nil))).mono (ag _) (by decide)
 have l1:=Sm.lst (bO.of s1);have l2:=Sm.tup (bO.of s2);rw[aL]at l1 l2;refine CN (Sm.tup (bO.cons l1 (bO.cons l2 bO.nil))) ?_ (by decide) (by rw[sz];omega)
 calc 10 ^ 41<2 ^ 200:=by decide
  _<=2 ^ 1900:=KS (by decide) (by decide)
open K1 (dP)
open K2 (bI hr bg)
open aE (hs Hs)
abbrev fld (h:D) (ks os:List (Int×Int)) (e:Nat):List (Str×(D ⊕ Nat)):=[("home",.inl h),("kept",.inl (.tup (ks.map pg))),("dark_hours",.inl (.tup (os.map dP))),("earlier",.inr e)]
structure Lc (B:List Bx) (j e:Nat):Prop where
 hj:j<B.length
 he:e<B.length
 ne:e≠j
def st (B:List Bx) (C:Addr) (j e:Nat) (h:D) (ks os:List (Int×Int)) (er:List D):List Bx:=(B.set e (.lst er)).set j (.ins C (fld h ks os e))
section
variable {e : Nat} {h : D} {os : List (Int × Int)} (L : Lc B j e) 
include L
theorem B0:(st B C j e h ks os er)[j]?=some (.ins C (fld h ks os e)):=by
 unfold st;rw[pC (by rw[nK];exact L.hj)]
theorem Py:(st B C j e h ks os er)[e]?=some (.lst er):=by
 unfold st;rw[pD (Ne.symm L.ne),pC L.he]
omit L in
theorem fR:(st B C j e h ks os er).length=B.length:=by unfold st;rw[nK,nK]
theorem Pz (qN:List D):(st B C j e h ks os er).set e (.lst qN)=st B C j e h ks os qN:=by
 unfold st;rw[wF _ _ (Ne.symm L.ne),zL]
omit L in
theorem MN (ks' os':List (Int×Int)):(st B C j e h ks os er).set j (.ins C (fld h ks' os' e))=st B C j e h ks' os' er:=by
 unfold st;rw[zL]
theorem Jo (he:env[i]?=some (xB j)):bf C (dV i) "home" env (st B C j e h ks os er)=.val (.d h) (st B C j e h ks os er):=by
 unfold bf;rw[ly,he,fS];simp only[B0 L,if_pos];rfl
theorem iy (he:env[i]?=some (xB j)):bf C (dV i) "kept" env (st B C j e h ks os er)=.val (.d (.tup (ks.map pg))) (st B C j e h ks os er):=by
 unfold bf;rw[ly,he,fS];simp only[B0 L,if_pos];rfl
theorem iN (he:env[i]?=some (xB j)):bf C (dV i) "dark_hours" env (st B C j e h ks os er)=.val (.d (.tup (os.map dP))) (st B C j e h ks os er):=by
 unfold bf;rw[ly,he,fS];simp only[B0 L,if_pos];rfl
theorem Ov (he:env[i]?=some (xB j)):bf C (dV i) "earlier" env (st B C j e h ks os er)=.val (.b e) (st B C j e h ks os er):=by
 unfold bf;rw[ly,he,fS];simp only[B0 L,if_pos];rfl
theorem Ow (he:env[i]?=some (xB j)) {v:DE W}{ks':List (Int×Int)}(hv:v env (st B C j e h ks os er)=.val (.d (.tup (ks'.map pg))) (st B C j e h ks os er)):k6 C (dV i) "kept" v env (st B C j e h ks os er)=.nx env (st B C j e h ks' os er):=by
 unfold k6;rw[hv,jJ,ly,he,jJ];simp only[B0 L];rw[if_pos ⟨trivial,by simp[fld]⟩];exact congrArg (OS.nx env) (MN ks' os)
theorem Ox (he:env[i]?=some (xB j)) {v:DE W}{os':List (Int×Int)}(hv:v env (st B C j e h ks os er)=.val (.d (.tup (os'.map dP))) (st B C j e h ks os er)):k6 C (dV i) "dark_hours" v env (st B C j e h ks os er)=.nx env (st B C j e h ks os' er):=by
 unfold k6;rw[hv,jJ,ly,he,jJ];simp only[B0 L];rw[if_pos ⟨trivial,by simp[fld]⟩];exact congrArg (OS.nx env) (MN ks os')
theorem gq {nm:Str}{k:DE (List W)}{ws:List W}{w:W}(he:env[i]?=some (xB j)) (hn:((fld h ks os e).lookup nm).isNone=true) (hk:k env (st B C j e h ks os er)=.val ws (st B C j e h ks os er)) (hl:ws.length+1=n)
 (hf:fn (.b j::ws) (st B C j e h ks os er)=.val w bx):bH C fn nm n (dV i) k env (st B C j e h ks os er)=.val w bx:=by
 unfold bH;rw[ly,he,fS];simp only[B0 L];rw[if_pos ⟨trivial,hn⟩,hk,fS,if_pos hl,hf]
theorem mH {nm:Str}{c:Nat}{k:DE (List W)}{ws:List W}(he:env[i]?=some (xB j)) (hn:((fld h ks os e).lookup nm).isNone=true) (hk:k env (st B C j e h ks os er)=.val ws (st B C j e h ks os er)) (hl:ws.length+1=n)
 (hf:fn (.b j::ws) (st B C j e h ks os er)=.exc c bx):bH C fn nm n (dV i) k env (st B C j e h ks os er)=.exc c bx:=by
 unfold bH;rw[ly,he,fS];simp only[B0 L];rw[if_pos ⟨trivial,hn⟩,hk,fS,if_pos hl,hf]
theorem DJ:io C [.b j] (st B C j e h ks os er)=.val (.d (.lst (ks.map pg))) (st B C j e h ks os er):=by
 refine gf ?_;show AH C [xB j] _=_;exact iF (jD (r:=.lst _) [.tup _] (ff (iy L rfl) rfl) rfl)
theorem CS:ip C [.b j] (st B C j e h ks os er)=.val (.d (.tup (os.map dP))) (st B C j e h ks os er):=by
 refine gf ?_;show BQ C [xB j] _=_;exact iF (iN L rfl)
theorem Bl {kp ok ks' os':List (Int×Int)}(hl:er.length<1000) (p1:ks'.Perm kp) (n1:kp.length<64) (u1:Up ks') (p2:os'.Perm ok) (n2:ok.length<64) (u2:Up os') :
 iL C [.b j,.d (.tup (kp.map pg)),.d (.tup (ok.map dP))] (st B C j e h ks os er)=.val (.d .ae) (st B C j e h ks' os' (er++[.tup [.tup (ks.map pg),.tup (os.map dP)]])):=by
 have sz:=a7;have b:lT C [xB j,some (.d (.tup (kp.map pg))),some (.d (.tup (ok.map dP)))] (st B C j e h ks os er)=.nx [xB j,some (.d (.tup (kp.map pg))),some (.d (.tup (ok.map dP)))] (st B C j e h ks' os' (er++[.tup [.tup (ks.map pg),.tup (os.map dP)]])):=by
  unfold lT;have a:=K1.Pu (k:=fG (fc (bf C (dV 0) "kept") (fc (bf C (dV 0) "dark_hours") fe))) (d:=.tup [.tup (ks.map pg),.tup (os.map dP)]) (Ov L (C:=C) (h:=h) (ks:=ks) (os:=os) (er:=er) (env:=[xB j,some (.d (.tup (kp.map pg))),some (.d (.tup (ok.map dP)))]) (i:=0) rfl) (Py L) (gH [.tup (ks.map pg),.tup (os.map dP)] (ff (iy L rfl) (ff (iN L rfl) rfl)) (by rw[sz];simp)) (Py L) (by rw[sz];omega);rw[Pz L]at a;refine(fu (gO a)).trans ?_;refine(fu (Ow L rfl (ks':=ks') (jD (r:=.tup _) [.lst _] (ff (jD (r:=.lst _) [.tup _] rfl (Bk Yz p1 n1 u1)) rfl) rfl))).trans ?_;exact Ox L rfl (os':=os') (jD (r:=.tup _) [.lst _] (ff (jD (r:=.lst _) [.tup _] rfl (Bk HL p2 n2 u2)) rfl) rfl)
 show kT _ (kS (aK (lT C) [xB j,some (.d (.tup (kp.map pg))),some (.d (.tup (ok.map dP)))] (st B C j e h ks os er)))=_;unfold aK;rw[b];simp only[kS,kT];rw[fR,<-fR (B:=B) (C:=C) (j:=j) (e:=e) (h:=h) (ks:=ks') (os:=os') (er:=er++[.tup [.tup (ks.map pg),.tup (os.map dP)]]),rY]
end
open K1 (dP iX)
open K2 (bI hr bg)
open aE (hs Hs eq_str)
theorem DM {m:af}{ws:List W}{e:aF}(h:m (ws.map some++List.replicate (n-ws.length) none) bx=.nx e bx') (l:bx'.length=bx.length):aD n m ws bx=.val (.d .ae) bx':=by
 simp only[aD,DL.envOf,h,kS,kT];rw[<-l,rY]
theorem iso {d:D}{b:Bool}(h3:env[3]?=some (some (.d d))) (ho:bI d=b):aS (dB (fk K2.jl 1 (fc (dV 3) fe))) env bx=.val (!b) bx:=by
 have v3:dV 3 env bx=.val (.d d) bx:=by rw[ly,h3]
 exact jX (iO (gh (ff v3 rfl) rfl (by rw[K2.Oq,ho])))
theorem Bm {m:af}{e:aF}{b:List Bx}(h:m env bx=.nx e b):qM m env bx=.nx e b:=by unfold qM;rw[h]
section
variable {e : Nat} {rs kk : List D} {os : List (Int × Int)} (L : Lc B j e)
abbrev S (B:List Bx) (C:Addr) (j e:Nat) (rs kk:List D) (pp:List (Int×Int)) (hd:D) (ks os:List (Int×Int)) (er:List D):List Bx:=st B C j e (hs rs kk pp hd) ks os er
abbrev now (ks os:List (Int×Int)):D:=.tup [.tup (ks.map pg),.tup (os.map dP)]
include L
theorem Ab {q:Int×Int}(h0:0<=q.1) (h1:0<=q.2) (h2:q.2<=9):gD C [.b j,.d (pg q)] (S B C j e rs kk pp hd ks os er)=.val (.d .ae) (S B C j e rs kk pp hd ks os er):=by
 refine Pw (e:=[xB j,some (.d (pg q))]) ?_;show gJ C [xB j,some (.d (pg q))] _=_;unfold gJ;refine(iD (jX (b:=true) (iO (gh (ff (Jo L rfl) (ff rfl rfl)) rfl (Ou h0 h1 h2))))).trans ?_;rfl
theorem Jp {d:D}(hp:∀ bx,aE.gm [.d (hs rs kk pp hd),.d d] bx=.val (.d (.bl false)) bx):gD C [.b j,.d d] (S B C j e rs kk pp hd ks os er)=.exc 11 (S B C j e rs kk pp hd ks os er):=by
 refine jY ?_;show gJ C [xB j,some (.d d)] _=_;unfold gJ;refine(jK (jX (b:=false) (iO (gh (ff (Jo L rfl) (ff rfl rfl)) rfl (hp _))))).trans ?_;exact iK rfl
theorem Oy {d:D}(hp:∀ bx,aE.gm [.d (hs rs kk pp hd),.d d] bx=.val (.d (.bl false)) bx):gR C [.b j,.d d] (S B C j e rs kk pp hd ks os er)=.exc 11 (S B C j e rs kk pp hd ks os er):=by
 refine jY ?_;show g6 C [xB j,some (.d d)] _=_;unfold g6;exact lh (mG (mH L rfl rfl (ff rfl rfl) rfl (Jp L hp)))
theorem B1 {d:D}(hp:∀ bx,aE.gm [.d (hs rs kk pp hd),.d d] bx=.val (.d (.bl false)) bx):gE C [.b j,.d d] (S B C j e rs kk pp hd ks os er)=.exc 11 (S B C j e rs kk pp hd ks os er):=by
 refine jY ?_;show gM C [xB j,some (.d d)] _=_;unfold gM;exact lh (mG (mH L rfl rfl (ff rfl rfl) rfl (Jp L hp)))
theorem Jq {q:Int×Int}(h0:0<=q.1) (h1:0<=q.2) (h2:q.2<=9) (m:q∈ks):gR C [.b j,.d (pg q)] (S B C j e rs kk pp hd ks os er)=.exc 13 (S B C j e rs kk pp hd ks os er):=by
 refine jY ?_;show g6 C [xB j,some (.d (pg q))] _=_;unfold g6;refine(fu (gO (gq L rfl rfl (ff rfl rfl) rfl (Ab L h0 h1 h2)))).trans ?_;refine lh ((jK (iO (b:=true) (fH (r:=.old _) rfl (iy L rfl) (by rw[CQ uF,decide_eq_true m];rfl)))).trans ?_);exact iK rfl
theorem Oz {q:Int×Int}(h0:0<=q.1) (h1:0<=q.2) (h2:q.2<=9) (m:q∉ks) (hl:16<=ks.length):gR C [.b j,.d (pg q)] (S B C j e rs kk pp hd ks os er)=.exc 15 (S B C j e rs kk pp hd ks os er):=by
 refine jY ?_;show g6 C [xB j,some (.d (pg q))] _=_;unfold g6;refine(fu (gO (gq L rfl rfl (ff rfl rfl) rfl (Ab L h0 h1 h2)))).trans ?_;refine(fu ((iD (iO (b:=false) (fH (r:=.old _) rfl (iy L rfl) (by rw[CQ uF,decide_eq_false m];rfl)))).trans rfl)).trans ?_;refine lh ((jK (iO (b:=true) (fH (r:=.old _) (jD (r:=.old _) [.tup _] (ff (iy L rfl) rfl) rfl) rfl ?_))).trans ?_)
 ·show some (Res.old (D.bl (decide ((16:Int)<=((ks.map pg).length:Int)))))=_;rw[aL,decide_eq_true (by omega)]
 ·exact iK rfl
theorem Jr {q:Int×Int}(h0:0<=q.1) (h1:0<=q.2) (h2:q.2<=9) (m:q∉ks) (hl:ks.length<16) (u:Up (ks++[q])) (no:os.length<64) (uo:Up os) (he:er.length<1000) :
 gR C [.b j,.d (pg q)] (S B C j e rs kk pp hd ks os er)=.val (.d .ae) (S B C j e rs kk pp hd (ks++[q]) os (er++[now ks os])):=by
 have sz:=a7;refine DM (e:=[xB j,some (.d (pg q))]) ?_ (by rw[fR,fR]);show g6 C [xB j,some (.d (pg q))] _=_;unfold g6;refine(fu (gO (gq L rfl rfl (ff rfl rfl) rfl (Ab L h0 h1 h2)))).trans ?_;refine(fu ((iD (iO (b:=false) (fH (r:=.old _) rfl (iy L rfl) (by rw[CQ uF,decide_eq_false m];rfl)))).trans rfl)).trans ?_;refine(fu ((iD (iO (b:=false) (fH (r:=.old _) (jD (r:=.old _) [.tup _] (ff (iy L rfl) rfl) rfl) rfl ?_))).trans rfl)).trans ?_
 ·show some (Res.old (D.bl (decide ((16:Int)<=((ks.map pg).length:Int)))))=_;rw[aL,decide_eq_false (by omega)]
 ·refine gO (gq L rfl rfl (ff (fH (r:=.tup ((ks++[q]).map pg)) (iy L rfl) (gH [pg q] rfl (by rw[sz];simp)) ?_) (ff (iN L rfl) rfl)) rfl (Bl L he (List.Perm.refl _) (by simp;omega) u (List.Perm.refl _) no uo));show (if (ks.map pg).length+1<=sizeLine then some (Res.tup (ks.map pg++[pg q])) else none)=_;rw[if_pos (by rw[aL,sz];omega),wU];rfl
theorem Js {q:Int×Int}(h0:0<=q.1) (h1:0<=q.2) (h2:q.2<=9) (m:q∉ks):gE C [.b j,.d (pg q)] (S B C j e rs kk pp hd ks os er)=.exc 14 (S B C j e rs kk pp hd ks os er):=by
 refine jY ?_;show gM C [xB j,some (.d (pg q))] _=_;unfold gM;refine(fu (gO (gq L rfl rfl (ff rfl rfl) rfl (Ab L h0 h1 h2)))).trans ?_;refine lh ((jK (iO (b:=true) (fH (r:=.old _) rfl (iy L rfl) (by rw[CQ uF,decide_eq_false m];rfl)))).trans ?_);exact iK rfl
theorem Jt {q:Int×Int}(h0:0<=q.1) (h1:0<=q.2) (h2:q.2<=9) (m:q∈ks) (hl:ks.length<64) (u:Up ks) (no:os.length<64) (uo:Up os) (he:er.length<1000) :
 gE C [.b j,.d (pg q)] (S B C j e rs kk pp hd ks os er)=.val (.d .ae) (S B C j e rs kk pp hd (ks.filter λx=>!decide (x=q)) os (er++[now ks os])):=by
 refine DM (e:=[xB j,some (.d (pg q))]) ?_ (by rw[fR,fR]);show gM C [xB j,some (.d (pg q))] _=_;unfold gM;refine(fu (gO (gq L rfl rfl (ff rfl rfl) rfl (Ab L h0 h1 h2)))).trans ?_;refine(fu ((iD (iO (b:=false) (fH (r:=.old _) rfl (iy L rfl) (by rw[CQ uF,decide_eq_true m];rfl)))).trans rfl)).trans ?_;exact gO (gq L rfl rfl (ff (gh (ff (iy L rfl) (ff rfl rfl)) rfl (AL uF ks (by omega) q _)) (ff (iN L rfl) rfl)) rfl (Bl L he (List.Perm.refl _) (rW (Qi _ _) hl) (u.filter _) (List.Perm.refl _) no uo))
theorem OA {a b:D}(ho:bI (.tup [a,b])=false):gS C [.b j,.d a,.d b] (S B C j e rs kk pp hd ks os er)=.exc 12 (S B C j e rs kk pp hd ks os er):=by
 have sz:=a7;refine jY ?_;show g9 C [xB j,some (.d a),some (.d b),none] _=_;unfold g9;refine(fu (gp (gH [a,b] rfl (by rw[sz];simp)))).trans ?_;refine lh ((jK (Pr (iso rfl ho))).trans ?_);exact iK rfl
theorem HM {x y:Int}(p:qs.Perm (os++[(x,y)])) (n:os.length<60) (u:Up qs) (he:env[0]?=some (xB j)) (h3:env[3]?=some (some (.d (dP (x,y))))) :
 aS (dB (fk K2.iJ 1 (fc (dN false dF (fc (d2 false fN (bf C (dV 0) "dark_hours") (fG (fc (dV 3) fe))) fe)) fe))) env (S B C j e rs kk pp hd ks os er)=.val (!bg qs) (S B C j e rs kk pp hd ks os er):=by
 have sz:=a7;have v3:dV 3 env (S B C j e rs kk pp hd ks os er)=.val (.d (dP (x,y))) (S B C j e rs kk pp hd ks os er):=by rw[ly,h3]
 refine jX (iO (gh (ff (jD (r:=.lst (qs.map dP)) [.tup ((os++[(x,y)]).map dP)] (ff (fH (r:=.tup ((os++[(x,y)]).map dP)) (iN L he) (gH [dP (x,y)] (ff v3 rfl) (by rw[sz];simp)) ?_) rfl) (Bk HL p (by simp;omega) u)) rfl) rfl (Px qs (by rw[p.length_eq];simp;omega) _)));show (if (os.map dP).length+1<=sizeLine then some (Res.tup (os.map dP++[dP (x,y)])) else none)=_;rw[if_pos (by rw[aL,sz];omega),wU];rfl
theorem Ju {x y:Int}(ho:bI (dP (x,y))=true) (p:qs.Perm (os++[(x,y)])) (n:os.length<60) (u:Up qs) (ha:bg qs=false):gS C [.b j,.d (.int x),.d (.int y)] (S B C j e rs kk pp hd ks os er)=.exc 12 (S B C j e rs kk pp hd ks os er):=by
 have sz:=a7;refine jY ?_;show g9 C [xB j,xN x,xN y,none] _=_;unfold g9;refine(fu (gp (gH [.int x,.int y] rfl (by rw[sz];simp)))).trans ?_;have s:=HM L (C:=C) (rs:=rs) (kk:=kk) (pp:=pp) (hd:=hd) (ks:=ks) (er:=er) p n u (env:=[xB j,xN x,xN y,some (.d (dP (x,y)))]) rfl rfl;rw[ha]at s;refine lh ((jK (mV (iso (d:=dP (x,y)) rfl ho) s)).trans ?_);exact iK rfl
theorem OB {x y:Int}(ho:bI (dP (x,y))=true) (p:qs.Perm (os++[(x,y)])) (n:os.length<60) (u:Up qs) (ha:bg qs=true) (hl:4<=os.length):gS C [.b j,.d (.int x),.d (.int y)] (S B C j e rs kk pp hd ks os er)=.exc 15 (S B C j e rs kk pp hd ks os er):=by
 have sz:=a7;refine jY ?_;show g9 C [xB j,xN x,xN y,none] _=_;unfold g9;refine(fu (gp (gH [.int x,.int y] rfl (by rw[sz];simp)))).trans ?_;have s:=HM L (C:=C) (rs:=rs) (kk:=kk) (pp:=pp) (hd:=hd) (ks:=ks) (er:=er) p n u (env:=[xB j,xN x,xN y,some (.d (dP (x,y)))]) rfl rfl;rw[ha]at s;refine(fu ((iD (mV (iso (d:=dP (x,y)) rfl ho) s)).trans rfl)).trans ?_;refine lh ((jK (iO (b:=true) (fH (r:=.old _) (jD (r:=.old _) [.tup _] (ff (iN L rfl) rfl) rfl) rfl ?_))).trans ?_)
 ·show some (Res.old (D.bl (decide ((4:Int)<=((os.map dP).length:Int)))))=_;rw[aL,decide_eq_true (by omega)]
 ·exact iK rfl
theorem Jv {x y:Int}(ho:bI (dP (x,y))=true) (p:qs.Perm (os++[(x,y)])) (u:Up qs) (ha:bg qs=true) (hl:os.length<4) (nk:ks.length<64) (uk:Up ks) (he:er.length<1000) :
 gS C [.b j,.d (.int x),.d (.int y)] (S B C j e rs kk pp hd ks os er)=.val (.d .ae) (S B C j e rs kk pp hd ks qs (er++[now ks os])):=by
 have sz:=a7;refine DM (e:=[xB j,xN x,xN y,some (.d (dP (x,y)))]) ?_ (by rw[fR,fR]);show g9 C [xB j,xN x,xN y,none] _=_;unfold g9;refine(fu (gp (gH [.int x,.int y] rfl (by rw[sz];simp)))).trans ?_;have s:=HM L (C:=C) (rs:=rs) (kk:=kk) (pp:=pp) (hd:=hd) (ks:=ks) (er:=er) p (by omega) u (env:=[xB j,xN x,xN y,some (.d (dP (x,y)))]) rfl rfl;rw[ha]at s;refine(fu ((iD (mV (iso (d:=dP (x,y)) rfl ho) s)).trans rfl)).trans ?_;refine(fu ((iD (iO (b:=false) (fH (r:=.old _) (jD (r:=.old _) [.tup _] (ff (iN L rfl) rfl) rfl) rfl ?_))).trans rfl)).trans ?_
 ·show some (Res.old (D.bl (decide ((4:Int)<=((os.map dP).length:Int)))))=_;rw[aL,decide_eq_false (by omega)]
 ·refine gO (gq L rfl rfl (ff (iy L rfl) (ff (fH (r:=.tup ((os++[(x,y)]).map dP)) (iN L rfl) (gH [dP (x,y)] rfl (by rw[sz];simp)) ?_) rfl)) rfl (Bl L he (List.Perm.refl _) nk uk p (by simp;omega) u));show (if (os.map dP).length+1<=sizeLine then some (Res.tup (os.map dP++[dP (x,y)])) else none)=_;rw[if_pos (by rw[aL,sz];omega),wU];rfl
theorem Mh {a b:D}(ho:bI (.tup [a,b])=false):gN C [.b j,.d a,.d b] (S B C j e rs kk pp hd ks os er)=.exc 12 (S B C j e rs kk pp hd ks os er):=by
 have sz:=a7;refine jY ?_;show iq C [xB j,some (.d a),some (.d b),none] _=_;unfold iq;refine(fu (gp (gH [a,b] rfl (by rw[sz];simp)))).trans ?_;refine lh ((jK (iso rfl ho)).trans ?_);exact iK rfl
theorem DN {x y:Int}(ho:bI (dP (x,y))=true) (m:(x,y)∉os):gN C [.b j,.d (.int x),.d (.int y)] (S B C j e rs kk pp hd ks os er)=.exc 14 (S B C j e rs kk pp hd ks os er):=by
 have sz:=a7;refine jY ?_;show iq C [xB j,xN x,xN y,none] _=_;unfold iq;refine(fu (gp (gH [.int x,.int y] rfl (by rw[sz];simp)))).trans ?_;refine(fu ((iD (iso (d:=dP (x,y)) rfl ho)).trans rfl)).trans ?_;refine lh ((jK (iO (b:=true) (fH (x:=dP (x,y)) (r:=.old _) rfl (iN L rfl) (by rw[CQ HK,decide_eq_false m];rfl)))).trans ?_);exact iK rfl
theorem Mi {x y:Int}(ho:bI (dP (x,y))=true) (m:(x,y)∈os) (nk:ks.length<64) (uk:Up ks) (no:os.length<64) (uo:Up os) (he:er.length<1000) :
 gN C [.b j,.d (.int x),.d (.int y)] (S B C j e rs kk pp hd ks os er)=.val (.d .ae) (S B C j e rs kk pp hd ks (os.filter λz=>!decide (z=(x,y))) (er++[now ks os])):=by
 have sz:=a7;refine DM (e:=[xB j,xN x,xN y,some (.d (dP (x,y)))]) ?_ (by rw[fR,fR]);show iq C [xB j,xN x,xN y,none] _=_;unfold iq;refine(fu (gp (gH [.int x,.int y] rfl (by rw[sz];simp)))).trans ?_;refine(fu ((iD (iso (d:=dP (x,y)) rfl ho)).trans rfl)).trans ?_;refine(fu ((iD (iO (b:=false) (fH (x:=dP (x,y)) (r:=.old _) rfl (iN L rfl) (by rw[CQ HK,decide_eq_true m];rfl)))).trans rfl)).trans ?_;exact gO (gq L rfl rfl (ff (iy L rfl) (ff (gh (ff (iN L rfl) (ff rfl rfl)) rfl (AL HK os (by omega) (x,y) _)) rfl)) rfl (Bl L he (List.Perm.refl _) nk uk (List.Perm.refl _) (rW (Qi _ _) no) (uo.filter _)))
end
open K1 (dP iX)
open K2 (bI hr bg)
open aE (hs Hs)
theorem OC {x:D}(h:l[k]?=some x):ax (.tup l) (.int (k:Int))=some (.old x):=by
 show (a6 l (k:Int)).map Res.old=_;rw[C7 h];rfl
theorem OD {x:D}:ax (.tup (x::l)) (.int 0)=some (.old x):=OC (k:=0) rfl
theorem Ap {x y:D}:ax (.tup (x::y::l)) (.int 1)=some (.old y):=OC (k:=1) rfl
theorem Mj {x y z:D}:ax (.tup (x::y::z::l)) (.int 2)=some (.old z):=OC (k:=2) rfl
theorem Tt {w t:Str}(h:env[1]?=some (some (.d (.tup (.str w::l))))):dB (d2 false bw (d2 false ax (dV 1) (dC (.int 0))) (dC (.str t))) env bx=.val (decide (w=t)) bx:=by
 have v1:dV 1 env bx=.val (.d (.tup (.str w::l))) bx:=by rw[ly,h]
 exact iO (fH (r:=.old _) (fH (r:=.old _) v1 rfl OD) rfl (aE.eq_str w t))
theorem mX {w:Str}(h:env[1]?=some (some (.d (.tup (.str w::l))))):dB (d2 false bw (d2 false ax (dV 1) (dC (.int 0))) (dC (.str w))) env bx=.val true bx:=by
 rw[Tt h,decide_eq_true rfl]
theorem jI {w t:Str}(h:env[1]?=some (some (.d (.tup (.str w::l))))) (n:¬ w=t):dB (d2 false bw (d2 false ax (dV 1) (dC (.int 0))) (dC (.str t))) env bx=.val false bx:=by
 rw[Tt h,decide_eq_false n]
section
variable {e : Nat} {h : D} {os ks' os' : List (Int × Int)} {qN : List D} (L : Lc B j e)
include L
theorem DO {d:D}(hf:gR C [.b j,.d d] (st B C j e h ks os er)=.val (.d .ae) bx) (hl:bx.length<=B.length):fC C [.b j,.d (.tup [.str "tell",d])] (st B C j e h ks os er)=.val (.d (.str "")) bx:=by
 refine iX ?_ (by rw[fR];exact hl);show fv C [xB j,some (.d (.tup [.str "tell",d])),none] _=_;unfold fv;exact(fu (Bm ((jK (mX rfl)).trans (gO (gq L rfl rfl (ff (fH (r:=.old _) rfl rfl Ap) rfl) rfl hf))))).trans (iF rfl)
theorem og {d:D}{c:Nat}(hf:gR C [.b j,.d d] (st B C j e h ks os er)=.exc c (st B C j e h ks os er)) (hc:c<17):fC C [.b j,.d (.tup [.str "tell",d])] (st B C j e h ks os er)=.val (.d (.str (wordOf c))) (st B C j e h ks os er):=by
 refine gf ?_;show fv C [xB j,some (.d (.tup [.str "tell",d])),none] _=_;unfold fv;exact oZ (DD ((jK (mX rfl)).trans (mG (mH L rfl rfl (ff (fH (r:=.old _) rfl rfl Ap) rfl) rfl hf))) hc)
theorem FK {d:D}(hf:gE C [.b j,.d d] (st B C j e h ks os er)=.val (.d .ae) bx) (hl:bx.length<=B.length):fC C [.b j,.d (.tup [.str "strike",d])] (st B C j e h ks os er)=.val (.d (.str "")) bx:=by
 refine iX ?_ (by rw[fR];exact hl);show fv C [xB j,some (.d (.tup [.str "strike",d])),none] _=_;unfold fv;exact(fu (Bm ((iD (jI rfl (by decide))).trans ((jK (mX rfl)).trans (gO (gq L rfl rfl (ff (fH (r:=.old _) rfl rfl Ap) rfl) rfl hf)))))).trans (iF rfl)
theorem mI {d:D}{c:Nat}(hf:gE C [.b j,.d d] (st B C j e h ks os er)=.exc c (st B C j e h ks os er)) (hc:c<17):fC C [.b j,.d (.tup [.str "strike",d])] (st B C j e h ks os er)=.val (.d (.str (wordOf c))) (st B C j e h ks os er):=by
 refine gf ?_;show fv C [xB j,some (.d (.tup [.str "strike",d])),none] _=_;unfold fv;exact oZ (DD ((iD (jI rfl (by decide))).trans ((jK (mX rfl)).trans (mG (mH L rfl rfl (ff (fH (r:=.old _) rfl rfl Ap) rfl) rfl hf)))) hc)
theorem DP {a b:D}(hf:gS C [.b j,.d a,.d b] (st B C j e h ks os er)=.val (.d .ae) bx) (hl:bx.length<=B.length):fC C [.b j,.d (.tup [.str "dark",a,b])] (st B C j e h ks os er)=.val (.d (.str "")) bx:=by
 refine iX ?_ (by rw[fR];exact hl);show fv C [xB j,some (.d (.tup [.str "dark",a,b])),none] _=_;unfold fv;exact(fu (Bm ((iD (jI rfl (by decide))).trans ((iD (jI rfl (by decide))).trans ((jK (mX rfl)).trans (gO (gq L rfl rfl (ff (fH (r:=.old _) rfl rfl Ap) (ff (fH (r:=.old _) rfl rfl Mj) rfl)) rfl hf))))))).trans (iF rfl)
theorem oh {a b:D}{c:Nat}(hf:gS C [.b j,.d a,.d b] (st B C j e h ks os er)=.exc c (st B C j e h ks os er)) (hc:c<17):fC C [.b j,.d (.tup [.str "dark",a,b])] (st B C j e h ks os er)=.val (.d (.str (wordOf c))) (st B C j e h ks os er):=by
 refine gf ?_;show fv C [xB j,some (.d (.tup [.str "dark",a,b])),none] _=_;unfold fv;exact oZ (DD ((iD (jI rfl (by decide))).trans ((iD (jI rfl (by decide))).trans ((jK (mX rfl)).trans (mG (mH L rfl rfl (ff (fH (r:=.old _) rfl rfl Ap) (ff (fH (r:=.old _) rfl rfl Mj) rfl)) rfl hf))))) hc)
theorem Jw {a b:D}(hf:gN C [.b j,.d a,.d b] (st B C j e h ks os er)=.val (.d .ae) bx) (hl:bx.length<=B.length):fC C [.b j,.d (.tup [.str "light",a,b])] (st B C j e h ks os er)=.val (.d (.str "")) bx:=by
 refine iX ?_ (by rw[fR];exact hl);show fv C [xB j,some (.d (.tup [.str "light",a,b])),none] _=_;unfold fv;exact(fu (Bm ((iD (jI rfl (by decide))).trans ((iD (jI rfl (by decide))).trans ((iD (jI rfl (by decide))).trans ((jK (mX rfl)).trans (gO (gq L rfl rfl (ff (fH (r:=.old _) rfl rfl Ap) (ff (fH (r:=.old _) rfl rfl Mj) rfl)) rfl hf)))))))).trans (iF rfl)
theorem Ac {a b:D}{c:Nat}(hf:gN C [.b j,.d a,.d b] (st B C j e h ks os er)=.exc c (st B C j e h ks os er)) (hc:c<17):fC C [.b j,.d (.tup [.str "light",a,b])] (st B C j e h ks os er)=.val (.d (.str (wordOf c))) (st B C j e h ks os er):=by
 refine gf ?_;show fv C [xB j,some (.d (.tup [.str "light",a,b])),none] _=_;unfold fv;exact oZ (DD ((iD (jI rfl (by decide))).trans ((iD (jI rfl (by decide))).trans ((iD (jI rfl (by decide))).trans ((jK (mX rfl)).trans (mG (mH L rfl rfl (ff (fH (r:=.old _) rfl rfl Ap) (ff (fH (r:=.old _) rfl rfl Mj) rfl)) rfl hf)))))) hc)
theorem told (he:env[0]?=some (xB j)) (sh:nE (.tup [.lst (ks.map pg),.tup (os.map dP)])=true):sC (fG (fc (bH C (io C) "pages" 1 (dV 0) fe) (fc (bH C (ip C) "outs" 1 (dV 0) fe) fe))) env (st B C j e h ks os er)=.val (.d (.str (toPy (.tup [.lst (ks.map pg),.tup (os.map dP)])).shown)) (st B C j e h ks os er):=by
 have sz:=a7;exact Mb (gH [.lst (ks.map pg),.tup (os.map dP)] (ff (gq L he rfl rfl rfl (DJ L)) (ff (gq L he rfl rfl rfl (CS L)) rfl)) (by rw[sz];simp)) sh
theorem AM {d:D}(sh:nE (.tup [.lst (ks.map pg),.tup (os.map dP)])=true) (hm:fC C [.b j,.d d] (st B C j e h ks os er)=.val (.d (.str "")) bx) (hl:bx.length<=B.length):fF C [.b j,.d d,.d (.str "")] (st B C j e h ks os er)=.val (.d (.bl true)) bx:=by
 refine iX ?_ (by rw[fR];exact hl);show jo C [xB j,some (.d d),some (.d (.str "")),none] _=_;unfold jo;refine(fu (gp (told L rfl sh))).trans (iF ?_);refine(Bg (b:=true) (fH (r:=.old (.bl true)) (gh (ff rfl (ff rfl rfl)) rfl hm) rfl (by rw[aE.eq_str,decide_eq_true rfl]))).trans ?_;rw[if_pos rfl,GY,fH (r:=.old (.bl true)) (x:=.str "") (y:=.str "") (bx1:=bx) (bx2:=bx) rfl rfl (by rw[aE.eq_str,decide_eq_true rfl]),fS];rfl
theorem iY {d:D}{w:Str}(sh:nE (.tup [.lst (ks.map pg),.tup (os.map dP)])=true) (hw:¬ w="") (hm:fC C [.b j,.d d] (st B C j e h ks os er)=.val (.d (.str w)) (st B C j e h ks os er)):fF C [.b j,.d d,.d (.str w)] (st B C j e h ks os er)=.val (.d (.bl true)) (st B C j e h ks os er):=by
 refine gf ?_;show jo C [xB j,some (.d d),some (.d (.str w)),none] _=_;unfold jo;refine(fu (gp (told L rfl sh))).trans (iF ?_);refine(Bg (b:=true) (fH (r:=.old (.bl true)) (gh (ff rfl (ff rfl rfl)) rfl hm) rfl (by rw[aE.eq_str,decide_eq_true rfl]))).trans ?_;rw[if_pos rfl,GY,fH (r:=.old (.bl false)) (x:=.str w) (y:=.str "") (bx1:=st B C j e h ks os er) (bx2:=st B C j e h ks os er) rfl rfl (by rw[aE.eq_str,decide_eq_false hw]),fS];exact fH (r:=.old (.bl true)) (told L rfl sh) rfl (by rw[aE.eq_str,decide_eq_true rfl])
end
open K1 (dP iX pt gI o7)
open K2 (bI hr bg)
open aE (hs Hs)
variable {rs kk : List D} 
theorem Jx (f:Int) (h0:0<=f) (bx:List Bx):aE.gm [.d (hs rs kk pp hd),.d (.tup [.int f,.str "out"])] bx=.val (.d (.bl false)) bx :=
 gf (by simp[aE.jn,K1.mD,bU,dG])
theorem Ml (bx:List Bx):aE.gm [.d (hs rs kk pp hd),.d .ae] bx=.val (.d (.bl false)) bx :=
 gf (by simp[aE.jn,rG,nY])
theorem OE (f:Int) (h0:0<=f) (bx:List Bx):aE.gm [.d (hs rs kk pp hd),.d (pg (f,10))] bx=.val (.d (.bl false)) bx:=by
 refine gf ?_;have z:sizeLine=16777216:=a7;simp[aE.jn,K1.mD,bU,dG,aE.Jn h0,ax,a6,cb,pT,dk,DI,pS,DL.cutD,HT.aq,pf,dq,bq,K1.iu,K1.wi,z,dA,nD]
abbrev Mt (C:Addr) (X Y:DE W):DE Bool:=aS (dB (fk (fF C) 3 (fc (dV 1) (fc X (fc Y fe)))))
abbrev qO (t:DE Bool):af:=aM t (fY (dC (.bl false))) aT
theorem k7 (h:t env bx=.val false bx'):qO t env bx=.nx env bx':=(iD h).trans rfl
theorem mt {X Y:DE W}{d:D}{w:Str}(h1:env[1]?=some (xB j)) (hX:X env bx=.val (.d d) bx) (hY:Y env bx=.val (.d (.str w)) bx) (hm:fF C [.b j,.d d,.d (.str w)] bx=.val (.d (.bl true)) bx'):Mt C X Y env bx=.val false bx':=by
 have v1:dV 1 env bx=.val (.b j) bx:=by rw[ly,h1]
 exact jX (b:=true) (iO (gh (ff v1 (ff hX (ff hY rfl))) rfl hm))
theorem bE {m k:DE W}{x y:D}(h1:m env bx=.val (.d x) bx) (h2:k env bx=.val (.d y) bx):fG (fc m (fc k fe)) env bx=.val (.d (.tup [x,y])) bx:=by
 have sz:=a7;exact gH [x,y] (ff h1 (ff h2 rfl)) (by rw[sz];simp)
theorem eV {m k l:DE W}{x y z:D}(h1:m env bx=.val (.d x) bx) (h2:k env bx=.val (.d y) bx) (h3:l env bx=.val (.d z) bx):fG (fc m (fc k (fc l fe))) env bx=.val (.d (.tup [x,y,z])) bx:=by
 have sz:=a7;exact gH [x,y,z] (ff h1 (ff h2 (ff h3 rfl))) (by rw[sz];simp)
theorem DQ {C:Addr}{j:Nat}{bx:List Bx}{a0 x2 x3 x4 x5 x6:Option W}:∀ (l:List (D×Str)) (x7 x8:Option W),(∀ q∈l,fF C [.b j,.d q.1,.d (.str q.2)] bx=.val (.d (.bl true)) bx) ->
 ∃ y7 y8,cP (iP 2 (f8 (fg 7) (f8 (fg 8) jH))) (qO (Mt C (dV 7) (dV 8))) (l.map λq=>W.d (.tup [q.1,.str q.2])) [a0,xB j,x2,x3,x4,x5,x6,x7,x8] bx=.nx [a0,xB j,x2,x3,x4,x5,x6,y7,y8] bx
 |[],x7,x8,_=>⟨x7,x8,rfl⟩
 | q::l,x7,x8,h=>by
   obtain⟨y7,y8,e⟩:=DQ (C:=C) (j:=j) (bx:=bx) (a0:=a0) (x2:=x2) (x3:=x3) (x4:=x4) (x5:=x5) (x6:=x6) l (some (.d q.1)) (some (.d (.str q.2))) λr m=>h r (aV _ m);refine⟨y7,y8,?_⟩;rw[aN,ic (env1:=[a0,xB j,x2,x3,x4,x5,x6,some (.d q.1),some (.d (.str q.2))]) (bx1:=bx) rfl (k7 (mt (X:=dV 7) (Y:=dV 8) (d:=q.1) (w:=q.2) rfl rfl rfl (h q (a8 ..))))];exact e
noncomputable abbrev qp (f:Int) (k:Nat):Int×Int:=(f+(k:Int) / 3,(k:Int) % 3)
abbrev kf (f:Int) (n:Nat):List (Int×Int):=(List.range n).map (qp f)
theorem DR (f:Int) (n:Nat):kf f (n+1)=kf f n++[qp f n]:=by simp[kf,List.range_succ]
theorem Jy (f:Int) (n:Nat):Up (kf f n):=by
 unfold Up kf;rw[qk];refine List.pairwise_lt_range.imp λ{a b} h=>?_;show f+(a:Int) / 3<f+(b:Int) / 3 \/ (f+(a:Int) / 3=f+(b:Int) / 3 /\ (a:Int) % 3<=(b:Int) % 3);omega
theorem OF (f:Int) (n:Nat):qp f n∉kf f n:=λm=>by
 obtain⟨k,mk,e⟩:=List.mem_map.mp m;have:=List.mem_range.mp mk;have e1:=congrArg Prod.fst e;have e2:=congrArg Prod.snd e;simp only[qp]at e1 e2;omega
theorem DS {f:Int}(h0:0<=f) (h1:f<10 ^ 30) (n:Nat) (hn:n<=16):Bd (kf f n):=λq m=>by
 obtain⟨k,mk,rfl⟩:=List.mem_map.mp m;have:=List.mem_range.mp mk;simp only[qp];omega
theorem MO {f:Int}(h:k<n):qp f k∈kf f n:=List.mem_map.mpr ⟨k,List.mem_range.mpr h,rfl⟩
theorem YA (i:Int):rF (.int i) (.int 3)=some (.old (.int (i / 3))):=by
 show (if sx i 3 then some (Res.old (.int (i / 3))) else none)=_;exact if_pos ⟨by decide,by decide⟩
theorem YB (i:Int):dQ (.int i) (.int 3)=some (.old (.int (i % 3))):=by
 show (if (0:Int)<3 then some (Res.old (.int (i % 3))) else none)=_;exact if_pos (by decide)
abbrev Tu (C:Addr):af:=fI (gc (fG (fc (d2 false fN (dV 2) (d2 false rF (dV 3) (dC (.int 3)))) (fc (dC (.str "out")) (fc (d2 false dQ (dV 3) (dC (.int 3))) fe)))) (fg 4))
 (qO (dM (Mt C (fG (fc (dC (.str "tell")) (fc (dV 4) fe))) (dC (.str ""))) (Mt C (fG (fc (dC (.str "tell")) (fc (dV 4) fe))) (dC (.str "twice")))))
section
variable {e : Nat} (L : Lc B j e)
include L
theorem Mm {f:Int}(h0:0<=f) (h1:f<10 ^ 30) (a0:Option W):∃ y3 y4 er,er.length<=16 /\ cP (fg 3) (Tu C) (fM 0 16) [a0,xB j,xN f,none,none,none,none,none,none] (S B C j e rs kk pp hd [] [] [])=.nx [a0,xB j,xN f,y3,y4,none,none,none,none] (S B C j e rs kk pp hd (kf f 16) [] er):=by
 obtain⟨au,bx',e1,y3,y4,er,rfl,rfl,hl⟩:=Bh (g:=fg 3) (body:=Tu C) (λi env b=>∃ y3 y4 er,env=[a0,xB j,xN f,y3,y4,none,none,none,none] /\ b=S B C j e rs kk pp hd (kf f i) [] er /\ er.length<=i) (fM 0 16) 0 [a0,xB j,xN f,none,none,none,none,none,none] (S B C j e rs kk pp hd [] [] []) ⟨none,none,[],rfl,rfl,ag _⟩ (by
  rintro i w env b hw ⟨y3,y4,er,rfl,rfl,hl⟩;obtain⟨rfl,hi⟩:=eG.CP hw;rw[wC]at hl ⊢;have eq:fG (fc (d2 false fN (dV 2) (d2 false rF (dV 3) (dC (.int 3)))) (fc (dC (.str "out")) (fc (d2 false dQ (dV 3) (dC (.int 3))) fe))) [a0,xB j,xN f,xN (0+(i:Int)),y4,none,none,none,none] (S B C j e rs kk pp hd (kf f i) [] er)=.val (.d (pg (qp f i))) (S B C j e rs kk pp hd (kf f i) [] er):=by
   rw[Ea];exact eV (fH (r:=.old (.int (f+(i:Int) / 3))) rfl (fH (r:=.old (.int ((i:Int) / 3))) rfl rfl (YA _)) rfl) rfl (fH (r:=.old (.int ((i:Int) % 3))) rfl rfl (YB _))
  have n0:0<=(qp f i).1:=by show 0<=f+(i:Int) / 3;omega
  have n1:0<=(qp f i).2:=by show 0<=(i:Int) % 3;omega
  have n2:(qp f i).2<=9:=by show (i:Int) % 3<=9;omega
  have lk:∀ m,(kf f m).length=m:=λm=>by simp[kf]
  have t1:=AM L (C:=C) (jE (DS h0 h1 i (by omega)) (os:=[]) (λq m=>nomatch m) (by rw[lk];omega) (by simp)) (DO L (Jr L (C:=C) (rs:=rs) (kk:=kk) (pp:=pp) (hd:=hd) (os:=[]) (er:=er) n0 n1 n2 (OF f i) (by rw[lk];omega) (by rw[<-DR];exact Jy f (i+1)) (by simp) .nil (by omega)) (by rw[fR];exact ag _)) (by rw[fR];exact ag _);rw[<-DR]at t1;have t2:=iY L (C:=C) (w:=wordOf 13) (jE (DS h0 h1 (i+1) (by omega)) (os:=[]) (λq m=>nomatch m) (by rw[lk];omega) (by simp)) (by decide) (og L (Jq L (C:=C) (rs:=rs) (kk:=kk) (pp:=pp) (hd:=hd) (os:=[]) (er:=er++[now (kf f i) []]) n0 n1 n2 (MO (nJ i))) (by decide));refine⟨[a0,xB j,xN f,xN (0+(i:Int)),y4,none,none,none,none],_,[a0,xB j,xN f,xN (0+(i:Int)),some (.d (pg (qp f i))),none,none,none,none],S B C j e rs kk pp hd (kf f (i+1)) [] (er++[now (kf f i) []]),rfl,?_,_,_,_,rfl,rfl,by rw[bV];simp;omega⟩;refine(fu (gp eq)).trans ?_;exact k7 (mV (mt rfl (bE rfl rfl) rfl t1) (mt rfl (bE rfl rfl) rfl t2)))
 exact⟨y3,y4,er,by simpa[fM] using hl,e1⟩
end
variable {rs kk : List D} 
theorem MP {e:Nat}{h:D}{os:List (Int×Int)}{p:Int}(ne:n≠e) (nj:n≠j):st (pt B n p) C j e h ks os er=pt (st B C j e h ks os er) n p:=by
 unfold st pt;rw[wF _ _ ne,wF _ _ nj]
theorem Jz {e:Nat}{p:Int}(L:Lc B j e):Lc (pt B n p) j e:=⟨by rw[gI];exact L.hj,by rw[gI];exact L.he,L.ne⟩
theorem Tv:d2 false dR (dC (.int 10)) (dC (.int 30)) env bx=.val (.d (.int (10 ^ 30))) bx:=fH (r:=.old _) rfl rfl (K1.DB (by decide))
theorem Tw:d2 false dR (dC (.int 10)) (dC (.int 39)) env bx=.val (.d (.int (10 ^ 39))) bx:=fH (r:=.old _) rfl rfl (K1.DB (by decide))
theorem YC:d2 false dR (dC (.int 10)) (dC (.int 40)) env bx=.val (.d (.int (10 ^ 40))) bx:=fH (r:=.old _) rfl rfl (K1.DB (by decide))
theorem Tz {e:Nat}{h:D}{os:List (Int×Int)}(p:Int) (hn:n<B.length) (ne:n≠e) (nj:n≠j) (h0:env[0]?=some (xB n)) :
 ∃ f q,0<=f /\ f<10 ^ 30 /\ fk K1.fm 2 (fc (dV 0) (fc (d2 false dR (dC (.int 10)) (dC (.int 30))) fe)) env (st (pt B n p) C j e h ks os er)=.val (.d (.int f)) (st (pt B n q) C j e h ks os er):=by
 have v0:dV 0 env (st (pt B n p) C j e h ks os er)=.val (.b n) (st (pt B n p) C j e h ks os er):=by rw[ly,h0]
 refine⟨p % 10 ^ 30,p / 10 ^ 30,QI _ (by decide),QJ _ (by decide),gh (ff v0 (ff Tv rfl)) rfl ?_⟩;rw[MP ne nj,MP ne nj];exact o7 (by rw[fR];exact hn) p (10 ^ 30) (by decide) (by decide)
theorem Bn (f:Int):(kf f 16).filter (λx=>!decide (x=(f,0)))=(List.range' 1 15).map (qp f):=by
 unfold kf;rw[List.filter_map,List.filter_congr (q:=λk=>!decide (k=0)) (λk m=>?_)]
 ·rfl
 ·have:=List.mem_range.mp m;show (!decide (qp f k=(f,0)))=!decide (k=0);congr 1;rw[decide_eq_decide,Prod.mk.injEq];omega
theorem TB {a b:List D}(h:a.length+b.length<=sizeLine):fN (.lst a) (.lst b)=some (.lst (a++b)):=if_pos h
theorem YD {a b:Int}:bw (.int a) (.int b)=some (.old (.bl (decide (a=b)))):=by simp[bw]
section
variable {e : Nat} (L : Lc B j e) (hn : n < B.length) (ne : n ≠ e) (nj : n ≠ j)
include L hn ne nj
theorem B3 (p:Int):∃ q ks er,Up ks /\ Bd ks /\ ks.length<=16 /\ er.length<=20 /\ gn C [.b n,.b j] (S (pt B n p) C j e rs kk pp hd [] [] [])=.val (.d (.bl true)) (S (pt B n q) C j e rs kk pp hd ks [] er):=by
 have sz:=a7;obtain⟨f,q,h0,h1,tk⟩:=Tz (B:=B) (C:=C) (j:=j) (e:=e) (h:=hs rs kk pp hd) (ks:=[]) (os:=[]) (er:=[]) p hn ne nj (env:=[xB n,xB j,none,none,none,none,none,none,none]) rfl;have L':Lc (pt B n q) j e:=Jz L;obtain⟨y3,y4,er,le,lp⟩:=Mm L' (C:=C) (rs:=rs) (kk:=kk) (pp:=pp) (hd:=hd) h0 h1 (xB n);have lk:∀ m,(kf f m).length=m:=λm=>by simp[kf]
 have no:Bd []:=λq m=>nomatch m;have sh:=jE (DS h0 h1 16 (ag _)) no (by rw[lk];decide) (by simp);have l9:(f+9,9)∉kf f 16:=λm=>by
  obtain⟨k,mk,e⟩:=List.mem_map.mp m;have:=List.mem_range.mp mk;have e2:=congrArg Prod.snd e;simp only[qp]at e2;omega
 have q0:qp f 0=(f,0):=by simp[qp]
 have m0:(f,0)∈kf f 16:=q0▸MO (by decide);obtain⟨y7,y8,am⟩:=DQ (C:=C) (j:=j) (bx:=S (pt B n q) C j e rs kk pp hd (kf f 16) [] er) (a0:=xB n) (x2:=xN f) (x3:=y3) (x4:=y4) (x5:=some (.d (pg (f+9,9))))
  (x6:=some (.d (.lst [.tup [.tup [.str "tell",pg (f+9,9)],.str "many"],.tup [.tup [.str "tell",pg (f,0)],.str "twice"],.tup [.tup [.str "tell",.tup [.int f,.str "out"]],.str "page"],.tup [.tup [.str "strike",pg (f+9,9)],.str "missing"],.tup [.tup [.str "strike",pg (f,10)],.str "page"],.tup [.tup [.str "strike",.ae],.str "page"]])))
  [(.tup [.str "tell",pg (f+9,9)], "many"),(.tup [.str "tell",pg (f,0)], "twice"),(.tup [.str "tell",.tup [.int f,.str "out"]], "page"),(.tup [.str "strike",pg (f+9,9)], "missing"),(.tup [.str "strike",pg (f,10)], "page"),(.tup [.str "strike",.ae], "page")] none none (by
    intro x m;simp only[aY,pF,or_false]at m;rcases m with rfl|rfl|rfl|rfl|rfl|rfl
    ·exact iY L' (w:=wordOf 15) sh (by decide) (og L' (Oz L' (q:=(f+9,9)) (by show 0<=f+9;omega) (by simp) (by simp) l9 (by rw[lk];decide)) (by decide))
    ·exact iY L' (w:=wordOf 13) sh (by decide) (og L' (Jq L' (q:=(f,0)) h0 (by simp) (by simp) m0) (by decide))
    ·exact iY L' (w:=wordOf 11) sh (by decide) (og L' (Oy L' (Jx f h0)) (by decide))
    ·exact iY L' (w:=wordOf 14) sh (by decide) (mI L' (Js L' (q:=(f+9,9)) (by show 0<=f+9;omega) (by simp) (by simp) l9) (by decide))
    ·exact iY L' (w:=wordOf 11) sh (by decide) (mI L' (B1 L' (OE f h0)) (by decide))
    ·exact iY L' (w:=wordOf 11) sh (by decide) (mI L' (B1 L' Ml) (by decide)))
 have k1:=Jt L' (C:=C) (rs:=rs) (kk:=kk) (pp:=pp) (hd:=hd) (os:=[]) (er:=er) (q:=(f,0)) h0 (by simp) (by simp) m0 (by rw[lk];decide) (Jy f 16) (by simp) .nil (by omega);rw[Bn]at k1;have t1:=AM L' sh (FK L' k1 (by rw[fR];exact ag _)) (by rw[fR];exact ag _);have lr:((List.range' 1 15).map (qp f)).length=15:=by simp
 have ur:Up ((List.range' 1 15).map (qp f)++[(f+9,9)]):=by
  unfold Up;rw[List.pairwise_append];refine⟨by rw[<-Bn];exact(Jy f 16).filter _,by simp,λa ha b hb=>?_⟩;cases ni.mp hb;obtain⟨k,mk,rfl⟩:=List.mem_map.mp ha;have:=List.mem_range'_1.mp mk;left;show f+(k:Int) / 3<f+9;omega
 have br:Bd ((List.range' 1 15).map (qp f)):=λx m=>by rw[<-Bn]at m;exact DS h0 h1 16 (ag _) x (List.mem_filter.mp m).1
 have YE:(f+9,9)∉(List.range' 1 15).map (qp f):=λm=>by rw[<-Bn]at m;exact l9 (List.mem_filter.mp m).1
 have t2:=AM L' (jE br no (by rw[lr];decide) (by simp)) (DO L' (Jr L' (C:=C) (rs:=rs) (kk:=kk) (pp:=pp) (hd:=hd) (os:=[]) (er:=er++[now (kf f 16) []]) (q:=(f+9,9)) (by show 0<=f+9;omega) (by simp) (by simp) YE (by rw[lr];decide) ur (by simp) .nil (by rw[bV];simp;omega)) (by rw[fR];exact ag _)) (by rw[fR];exact ag _);refine⟨q,(List.range' 1 15).map (qp f)++[(f+9,9)],er++[now (kf f 16) []]++[now ((List.range' 1 15).map (qp f)) []],ur,λx m=>?_,by simp,by simp;omega,iX ?_ (by rw[fR,fR,gI,gI];exact ag _)⟩
 ·rcases List.mem_append.mp m with m|m
  ·exact br x m
  ·cases ni.mp m;show (f+9).natAbs<=10 ^ 41 /\ (9:Int).natAbs<=10 ^ 41;omega
 show ia C [xB n,xB j,none,none,none,none,none,none,none] _=_;unfold ia;refine(fu (gp tk)).trans ?_;refine(fu ((lV (K1.mE rfl (by decide))).trans lp)).trans ?_;refine(fu (gp (eV (x:=.int (f+9)) (y:=.str "out") (z:=.int 9) (fH (r:=.old _) rfl rfl rfl) rfl rfl))).trans ?_;refine(fu (gp (jb [.tup [.tup [.str "tell",pg (f+9,9)],.str "many"],.tup [.tup [.str "tell",pg (f,0)],.str "twice"],.tup [.tup [.str "tell",.tup [.int f,.str "out"]],.str "page"]] (ff (bE (bE rfl rfl) rfl) (ff (bE (bE rfl (eV rfl rfl rfl)) rfl) (ff (bE (bE rfl (bE rfl rfl)) rfl) rfl))) (by rw[sz];simp)))).trans ?_;refine(fu (gp (fH (r:=.lst _) rfl (jb [.tup [.tup [.str "strike",pg (f+9,9)],.str "missing"],.tup [.tup [.str "strike",pg (f,10)],.str "page"],.tup [.tup [.str "strike",.ae],.str "page"]] (ff (bE (bE rfl rfl) rfl) (ff (bE (bE rfl (eV rfl rfl rfl)) rfl) (ff (bE (bE rfl rfl) rfl) rfl))) (by rw[sz];simp)) (TB (by rw[sz];simp))))).trans ?_;refine(fu ((lV (j9 rfl)).trans am)).trans ?_;refine(fu (k7 (mV (mt rfl (bE rfl (eV rfl rfl rfl)) rfl t1) (mt rfl (bE rfl rfl) rfl t2)))).trans ?_;refine iF (fH (r:=.old (.bl true)) (jD (r:=.old (.int 16)) [.lst _] (ff (gq L' rfl rfl rfl rfl (DJ L')) rfl) ?_) rfl (by show bw (.int 16) (.int 16)=_;rw[YD];rfl));show some (Res.old (.int (((((List.range' 1 15).map (qp f))++[(f+9,9)]).map pg).length:Int)))=_;simp
end
variable {rs kk : List D} 
theorem ie (l1 l2:List (Int×Int)) (q:Int×Int):(l1++q::l2).Perm (l1++l2++[q]):=List.perm_middle.trans (List.perm_append_singleton q (l1++l2)).symm
theorem B4:∀ l:List (Int×Int),PyData.eqvAll (aI (l.map dP)) (aI (l.map dP))=true
 |[]=>rfl
 | q::l=>by
   have h:=eH.Jm q q;rw[decide_eq_true rfl]at h;unfold eqv at h;simp only[aN,aI,PyData.eqvAll,B4 l,Bool.and_true];exact h
theorem Mn (l:List (Int×Int)):bw (.tup (l.map dP)) (.tup (l.map dP))=some (.old (.bl true)):=by
 cases l with
 |nil=>rfl
 | cons q l =>
   show n9 false (.tup ((q::l).map dP)) (.tup ((q::l).map dP))=_;unfold n9;rw[MM Ts (q::l)];have:=B4 (q::l);unfold eqv;simp only[toPy,PyData.eqv,this];rfl
section
variable {e : Nat} {os : List (Int × Int)} (L : Lc B j e)
include L
theorem oi (sh:nE (.tup [.lst (ks.map pg),.tup (os.map dP)])=true) {w:Str}(hw:w="dark" \/ w="light") {a b:D}(ho:bI (.tup [a,b])=false) :
 fF C [.b j,.d (.tup [.str w,a,b]),.d (.str "out")] (S B C j e rs kk pp hd ks os er)=.val (.d (.bl true)) (S B C j e rs kk pp hd ks os er):=by
 rcases hw with rfl|rfl
 ·exact iY L (w:=wordOf 12) sh (by decide) (oh L (OA L ho) (by decide))
 ·exact iY L (w:=wordOf 12) sh (by decide) (Ac L (Mh L ho) (by decide))
abbrev TC:DE W:=iE false (fc (dC (.str "dark")) (fc (dC (.str "light")) fe))
theorem both {g:DE Bool}{env:Str->aF}{env0:aF}(h0:∀ w:Str,env0.set 4 (some (.d (.str w)))=env w) (h1:∀ w w':Str,(env w).set 4 (some (.d (.str w')))=env w') (hg:∀ w:Str,(w="dark" \/ w="light")->g (env w) (S B C j e rs kk pp hd ks os er)=.val false (S B C j e rs kk pp hd ks os er)) :
 jg (bY TC) (fg 4) (qO g) env0 (S B C j e rs kk pp hd ks os er)=.nx (env "light") (S B C j e rs kk pp hd ks os er):=by
 have sz:=a7;refine(lV (j9 (jb [.str "dark",.str "light"] (ff rfl (ff rfl rfl)) (by rw[sz];simp)))).trans ?_;show cP (fg 4) (qO g) [.d (.str "dark"),.d (.str "light")] env0 _=_;rw[ic (env1:=env "dark") (bx1:=S B C j e rs kk pp hd ks os er) (by rw[jp,h0]) (k7 (hg _ (.inl rfl))),ic (env1:=env "light") (bx1:=S B C j e rs kk pp hd ks os er) (by rw[jp,h1]) (k7 (hg _ (.inr rfl)))];rfl
abbrev YF (C:Addr):af:=jg (bY TC) (fg 4) (qO (dM (Mt C (fG (fc (dV 4) (fc (dV 3) (fc (d2 false dR (dC (.int 10)) (dC (.int 39))) fe)))) (dC (.str "out"))) (Mt C (fG (fc (dV 4) (fc (dC (.int 0)) (fc (dV 3) fe)))) (dC (.str "out")))))
theorem B5 (sh:nE (.tup [.lst (ks.map pg),.tup (os.map dP)])=true) {a0 x2:Option W}:∀ (l:List D) (x3 x4:Option W),(∀ d∈l,bI (.tup [d,.int (10 ^ 39)])=false /\ bI (.tup [.int 0,d])=false) ->
 ∃ y3 y4,cP (fg 3) (YF C) (l.map W.d) [a0,xB j,x2,x3,x4,none,none,none,none,none] (S B C j e rs kk pp hd ks os er)=.nx [a0,xB j,x2,y3,y4,none,none,none,none,none] (S B C j e rs kk pp hd ks os er)
 |[],x3,x4,_=>⟨x3,x4,rfl⟩
 | d::l,x3,x4,h=>by
   obtain⟨y3,y4,e1⟩:=B5 sh (a0:=a0) (x2:=x2) l (some (.d d)) (some (.d (.str "light"))) λr m=>h r (aV _ m);obtain⟨o1,o2⟩:=h d (a8 ..);refine⟨y3,y4,?_⟩;rw[aN,ic (env1:=[a0,xB j,x2,some (.d d),x4,none,none,none,none,none]) (bx1:=S B C j e rs kk pp hd ks os er) rfl (both L (env:=λw=>[a0,xB j,x2,some (.d d),some (.d (.str w)),none,none,none,none,none]) (λ_=>rfl) (λ_ _=>rfl) λw hw=>mV (mt rfl (eV rfl rfl Tw) rfl (oi L sh hw o1)) (mt rfl (eV rfl rfl rfl) rfl (oi L sh hw o2)))];exact e1
abbrev TF (C:Addr):af:=jg (bY (iE false (fc (fG (fc (dC (.str "light")) (fc (dC (.str "missing")) fe))) (fc (fG (fc (dC (.str "dark")) (fc (dC (.str "")) fe))) (fc (fG (fc (dC (.str "dark")) (fc (dC (.str "out")) fe))) fe))))) (iP 2 (f8 (fg 4) (f8 (fg 8) jH)))
 (qO (Mt C (fG (fc (dV 4) (fc (d2 false ax (dV 7) (dC (.int 0))) (fc (d2 false ax (dV 7) (dC (.int 1))) fe)))) (dV 8)))
theorem DT {q:Int×Int}{l1 l2:List (Int×Int)}(bk:Bd ks) (nk:ks.length<=16) (uk:Up ks) (bo:Bd (l1++q::l2)) (ho:bI (dP q)=true) (m:q∉l1++l2) (u:Up (l1++q::l2)) (u2:Up (l1++q::q::l2)) (ha:bg (l1++q::l2)=true) (xZ:bg (l1++q::q::l2)=false) (hl:(l1++l2).length<4) (he:er.length<900) {a0 x2 x3 x4 x5 x6 x8:Option W} :
 ∃ qN y4 y8,qN.length<=er.length+1 /\ TF C [a0,xB j,x2,x3,x4,x5,x6,some (.d (dP q)),x8,none] (S B C j e rs kk pp hd ks (l1++l2) er)=.nx [a0,xB j,x2,x3,y4,x5,x6,some (.d (dP q)),y8,none] (S B C j e rs kk pp hd ks (l1++q::l2) qN):=by
 have sz:=a7;obtain⟨x,y⟩:=q;have YG:Bd (l1++l2):=λz mz=>bo z (by
  rcases List.mem_append.mp mz with mz|mz
  ·exact kD _ mz
  ·exact kE _ (aV _ mz))
 have lq:(l1++(x,y)::l2).length=(l1++l2).length+1:=by simp;omega
 have uG:=jE bk YG (by omega) (by omega);have YH:=jE bk bo (by omega) (by omega);have t1:=iY L (C:=C) (w:=wordOf 14) uG (by decide) (Ac L (DN L (C:=C) (rs:=rs) (kk:=kk) (pp:=pp) (hd:=hd) (ks:=ks) (er:=er) ho m) (by decide));have t2:=AM L (C:=C) uG (DP L (Jv L (C:=C) (rs:=rs) (kk:=kk) (pp:=pp) (hd:=hd) (ks:=ks) (er:=er) ho (ie l1 l2 (x,y)) u ha hl (by omega) uk (by omega)) (by rw[fR];exact ag _)) (by rw[fR];exact ag _);have p3:=ie l1 ((x,y)::l2) (x,y);have t3:=iY L (C:=C) (w:=wordOf 12) YH (by decide) (oh L (Ju L (C:=C) (rs:=rs) (kk:=kk) (pp:=pp) (hd:=hd) (ks:=ks) (er:=er++[now ks (l1++l2)]) ho p3 (by omega) u2 xZ) (by decide));refine⟨er++[now ks (l1++l2)],some (.d (.str "dark")),some (.d (.str "out")),by simp,?_⟩;refine(lV (j9 (jb [.tup [.str "light",.str "missing"],.tup [.str "dark",.str ""],.tup [.str "dark",.str "out"]] (ff (bE rfl rfl) (ff (bE rfl rfl) (ff (bE rfl rfl) rfl))) (by rw[sz];simp)))).trans ?_;have tp:∀ (w:Str) (x8:Option W) (bx:List Bx),fG (fc (dV 4) (fc (d2 false ax (dV 7) (dC (.int 0))) (fc (d2 false ax (dV 7) (dC (.int 1))) fe))) [a0,xB j,x2,x3,some (.d (.str w)),x5,x6,some (.d (dP (x,y))),x8,none] bx=.val (.d (.tup [.str w,.int x,.int y])) bx:=λw x8 bx=>eV rfl (fH (r:=.old _) rfl rfl OD) (fH (r:=.old _) rfl rfl Ap);show cP _ _ [.d (.tup [.str "light",.str "missing"]),.d (.tup [.str "dark",.str ""]),.d (.tup [.str "dark",.str "out"])] _ _=_;rw[ic (env1:=[a0,xB j,x2,x3,some (.d (.str "light")),x5,x6,some (.d (dP (x,y))),some (.d (.str "missing")),none]) (bx1:=S B C j e rs kk pp hd ks (l1++l2) er) rfl (k7 (mt rfl (tp _ _ _) rfl t1)),
  ic (env1:=[a0,xB j,x2,x3,some (.d (.str "dark")),x5,x6,some (.d (dP (x,y))),some (.d (.str "")),none]) (bx1:=S B C j e rs kk pp hd ks (l1++l2) er) rfl (k7 (mt rfl (tp _ _ _) rfl t2)),
  ic (env1:=[a0,xB j,x2,x3,some (.d (.str "dark")),x5,x6,some (.d (dP (x,y))),some (.d (.str "out")),none]) (bx1:=S B C j e rs kk pp hd ks (l1++(x,y)::l2) (er++[now ks (l1++l2)])) rfl (k7 (mt rfl (tp _ _ _) rfl t3))]
 rfl
abbrev YI (C:Addr):af:=qO (Mt C (fG (fc (dC (.str "dark")) (fc (d2 false ax (dV 7) (dC (.int 0))) (fc (d2 false ax (dV 7) (dC (.int 1))) fe)))) (dC (.str "out")))
theorem AN (sh:nE (.tup [.lst (ks.map pg),.tup (os.map dP)])=true) (n:os.length<60) {a0 x2 x3 x4 x5 x6 x8 x9:Option W}:∀ (l:List (Int×Int)) (x7:Option W),(∀ q∈l,bI (dP q)=true /\ ∃ qs,qs.Perm (os++[q]) /\ Up qs /\ bg qs=false) ->
 ∃ y7,cP (fg 7) (YI C) (l.map λq=>W.d (dP q)) [a0,xB j,x2,x3,x4,x5,x6,x7,x8,x9] (S B C j e rs kk pp hd ks os er)=.nx [a0,xB j,x2,x3,x4,x5,x6,y7,x8,x9] (S B C j e rs kk pp hd ks os er)
 |[],x7,_=>⟨x7,rfl⟩
 | q::l,x7,h=>by
   obtain⟨y7,e1⟩:=AN sh n (a0:=a0) (x2:=x2) (x3:=x3) (x4:=x4) (x5:=x5) (x6:=x6) (x8:=x8) (x9:=x9) l (some (.d (dP q))) λr m=>h r (aV _ m);obtain⟨ho,qs,p,u,ha⟩:=h q (a8 ..);obtain⟨x,y⟩:=q;refine⟨y7,?_⟩;rw[aN,ic (env1:=[a0,xB j,x2,x3,x4,x5,x6,some (.d (dP (x,y))),x8,x9]) (bx1:=S B C j e rs kk pp hd ks os er) rfl (k7 (mt (d:=.tup [.str "dark",.int x,.int y]) (w:=wordOf 12) rfl (eV rfl (fH (r:=.old _) rfl rfl OD) (fH (r:=.old _) rfl rfl Ap)) rfl (iY L sh (by decide) (oh L (Ju L ho p n u ha) (by decide)))))];exact e1
end
variable {rs kk : List D} 
theorem jq {x y:Int}(h0:0<=x) (h1:x<y):bI (dP (x,y))=true:=by
 rw[K2.Aa];have:0<=y:=by omega
 simp[hr,h0,h1,this]
theorem MQ {x y:Int}(h1:¬ x<y):bI (.tup [.int x,.int y])=false:=by
 rw[K2.Aa];simp[h1]
theorem PB {a b:D}(h:hr a=false):bI (.tup [a,b])=false:=by rw[K2.Aa,h];rfl
theorem PC {a b:D}(h:hr b=false):bI (.tup [a,b])=false:=by rw[K2.Aa,h,zx,Bool.and_false]
section
variable {e : Nat} (L : Lc B j e)
include L
theorem FL (bk:Bd ks) (nk:ks.length<=16) (uk:Up ks) {b M N:Int}(b0:10<=b) (bM:b+20<M) (mN:M<N) (nB:N<=10 ^ 40) (he:er.length<=20) {a0 x2 x3 x4 x5 x6 x8:Option W} :
 ∃ qN y4 y7 y8,qN.length<=24 /\ cP (fg 7) (TF C) ([(0,1),(M,N),(b,b+4),(b+6,b+7)].map λq=>W.d (dP q)) [a0,xB j,x2,x3,x4,x5,x6,none,x8,none] (S B C j e rs kk pp hd ks [] er) =
  .nx [a0,xB j,x2,x3,y4,x5,x6,y7,y8,none] (S B C j e rs kk pp hd ks [(0,1),(b,b+4),(b+6,b+7),(M,N)] qN):=by
 obtain⟨e1,y4,y8,l1,r1⟩:=DT L (C:=C) (rs:=rs) (kk:=kk) (pp:=pp) (hd:=hd) (er:=er) (q:=(0,1)) (l1:=[]) (l2:=[]) bk nk uk (by intro q m;simp at m;subst m;decide) (jq (by decide) (by decide)) (by simp) (by simp) (by simp[lx]) (by simp[bg]) (by simp[bg]) (by simp) (by omega) (a0:=a0) (x2:=x2) (x3:=x3) (x4:=x4) (x5:=x5) (x6:=x6) (x8:=x8);obtain⟨e2,z4,z8,l2,r2⟩:=DT L (C:=C) (rs:=rs) (kk:=kk) (pp:=pp) (hd:=hd) (er:=e1) (q:=(M,N)) (l1:=[(0,1)]) (l2:=[]) bk nk uk (by intro q m;simp at m;rcases m with rfl|rfl<;>(simp only[];omega)) (jq (by omega) mN) (by simp<;>omega) (by simp<;>omega) (by simp<;>omega) (by simp[bg]<;>omega) (by simp[bg]<;>omega) (by simp) (by omega) (a0:=a0) (x2:=x2) (x3:=x3) (x4:=y4) (x5:=x5) (x6:=x6) (x8:=y8);obtain⟨e3,u4,u8,l3,r3⟩:=DT L (C:=C) (rs:=rs) (kk:=kk) (pp:=pp) (hd:=hd) (er:=e2) (q:=(b,b+4)) (l1:=[(0,1)]) (l2:=[(M,N)]) bk nk uk (by intro q m;simp at m;rcases m with rfl|rfl|rfl<;>(simp only[];omega)) (jq (by omega) (by omega)) (by simp<;>omega) (by simp<;>omega) (by simp<;>omega) (by simp[bg]<;>omega) (by simp[bg]<;>omega) (by simp) (by omega) (a0:=a0) (x2:=x2) (x3:=x3) (x4:=z4) (x5:=x5) (x6:=x6) (x8:=z8);obtain⟨e4,v4,v8,l4,r4⟩:=DT L (C:=C) (rs:=rs) (kk:=kk) (pp:=pp) (hd:=hd) (er:=e3) (q:=(b+6,b+7)) (l1:=[(0,1),(b,b+4)]) (l2:=[(M,N)]) bk nk uk (by intro q m;simp at m;rcases m with rfl|rfl|rfl|rfl<;>(simp only[];omega)) (jq (by omega) (by omega)) (by simp<;>omega) (by simp<;>omega) (by simp<;>omega) (by simp[bg]<;>omega) (by simp[bg]<;>omega) (by simp) (by omega) (a0:=a0) (x2:=x2) (x3:=x3) (x4:=u4) (x5:=x5) (x6:=x6) (x8:=u8);refine⟨e4,v4,some (.d (dP (b+6,b+7))),v8,by omega,?_⟩;rw[aN,ic rfl r1,aN,ic rfl r2,aN,ic rfl r3,aN,ic rfl r4];rfl
end
section
variable {e : Nat} (L : Lc B j e) (hn : n < B.length) (ne : n ≠ e) (nj : n ≠ j)
include L hn ne nj
theorem CT (bk:Bd ks) (nk:ks.length<=16) (uk:Up ks) (he:er.length<=20) (p:Int):∃ bx,bx.length=B.length /\ gw C [.b n,.b j] (S (pt B n p) C j e rs kk pp hd ks [] er)=.val (.d (.bl true)) bx:=by
 have sz:=a7;have L0:Lc (pt B n p) j e:=Jz L;have no:Bd []:=λq m=>nomatch m;have uG:=jE bk no (by omega) (by simp);obtain⟨y3,y4,ol⟩:=B5 L0 (C:=C) (rs:=rs) (kk:=kk) (pp:=pp) (hd:=hd) (er:=er) uG (a0:=xB n) (x2:=some (.d (.lst [.ae,.bl true,.str "3",.lst [.int 3],.int (-1),.int (0-10 ^ 30)]))) [.ae,.bl true,.str "3",.lst [.int 3],.int (-1),.int (0-10 ^ 30)] none none (by
  intro d m;have hd:hr d=false:=by
   simp only[aY,pF,or_false]at m;rcases m with rfl|rfl|rfl|rfl|rfl|rfl<;>first|rfl|(simp[hr])
  exact⟨PB hd,PC hd⟩)
 obtain⟨f,q,f0,f1,tk⟩:=Tz (B:=B) (C:=C) (j:=j) (e:=e) (h:=hs rs kk pp hd) (ks:=ks) (os:=[]) (er:=er) p hn ne nj (env:=[xB n,xB j,some (.d (.lst [.ae,.bl true,.str "3",.lst [.int 3],.int (-1),.int (0-10 ^ 30)])),y3,y4,none,none,none,none,none]) rfl;have L':Lc (pt B n q) j e:=Jz L;have yC:fN (.int 10) (.int f)=some (.old (.int (10+f))):=rfl;obtain⟨b,eb⟩:∃ b:Int,b=10+f:=⟨_,rfl⟩;rw[<-eb]at yC;obtain⟨M,eM⟩:∃ M:Int,M=10 ^ 39:=⟨_,rfl⟩;obtain⟨N,eN⟩:∃ N:Int,N=10 ^ 40-1:=⟨_,rfl⟩;have b0:10<=b:=by omega
 have bM:b+20<M:=by omega
 have mN:M<N:=by omega
 have nB:N<=10 ^ 40:=by omega
 have bt:=both L' (C:=C) (rs:=rs) (kk:=kk) (pp:=pp) (hd:=hd) (ks:=ks) (os:=[]) (er:=er) (g:=dM (Mt C (fG (fc (dV 4) (fc (dV 5) (fc (dV 5) fe)))) (dC (.str "out"))) (Mt C (fG (fc (dV 4) (fc (dV 5) (fc (d2 false dk (dV 5) (dC (.int 1))) fe)))) (dC (.str "out"))))
  (env:=λw=>[xB n,xB j,some (.d (.lst [.ae,.bl true,.str "3",.lst [.int 3],.int (-1),.int (0-10 ^ 30)])),y3,some (.d (.str w)),xN b,none,none,none,none]) (env0:=[xB n,xB j,some (.d (.lst [.ae,.bl true,.str "3",.lst [.int 3],.int (-1),.int (0-10 ^ 30)])),y3,y4,xN b,none,none,none,none]) (λ_=>rfl) (λ_ _=>rfl)
  λw hw=>mV (mt rfl (eV rfl rfl rfl) rfl (oi L' uG hw (MQ (x:=b) (y:=b) (by omega)))) (mt rfl (eV rfl rfl (fH (r:=.old (.int (b-1))) rfl rfl rfl)) rfl (oi L' uG hw (MQ (x:=b) (y:=b-1) (by omega))))
 obtain⟨uH,w4,w7,w8,l1,rl⟩:=FL L' (C:=C) (rs:=rs) (kk:=kk) (pp:=pp) (hd:=hd) bk nk uk b0 bM mN nB he (a0:=xB n) (x2:=some (.d (.lst [.ae,.bl true,.str "3",.lst [.int 3],.int (-1),.int (0-10 ^ 30)]))) (x3:=y3) (x4:=some (.d (.str "light"))) (x5:=xN b) (x6:=some (.d (.lst [dP (0,1),dP (M,N),dP (b,b+4),dP (b+6,b+7)]))) (x8:=none);have b4:Bd [(0,1),(b,b+4),(b+6,b+7),(M,N)]:=by
  intro q m;simp at m;rcases m with rfl|rfl|rfl|rfl<;>(simp only[];omega)
 have yD:=jE bk b4 (by omega) (by simp);have u4:Up [(0,1),(b,b+4),(b+6,b+7),(M,N)]:=by simp<;>omega
 obtain⟨v7,ml⟩:=AN L' (C:=C) (rs:=rs) (kk:=kk) (pp:=pp) (hd:=hd) (er:=uH) yD (by simp) (a0:=xB n) (x2:=some (.d (.lst [.ae,.bl true,.str "3",.lst [.int 3],.int (-1),.int (0-10 ^ 30)]))) (x3:=y3) (x4:=w4) (x5:=xN b) (x6:=some (.d (.lst [dP (0,1),dP (M,N),dP (b,b+4),dP (b+6,b+7)]))) (x8:=w8) (x9:=some (.d (.lst [dP (b+4,b+5),dP (b-1,b),dP (b+1,b+2),dP (b-2,b+9)])))
  [(b+4,b+5),(b-1,b),(b+1,b+2),(b-2,b+9),(b+5,b+6)] w7 (by
    intro q m;simp only[aY,pF,or_false]at m;rcases m with rfl|rfl|rfl|rfl|rfl
    ·exact⟨jq (by omega) (by omega),_,ie [(0,1),(b,b+4)] [(b+6,b+7),(M,N)] _,by simp<;>omega,by simp[bg]⟩
    ·exact⟨jq (by omega) (by omega),_,ie [(0,1)] [(b,b+4),(b+6,b+7),(M,N)] _,by simp<;>omega,by simp[bg]⟩
    ·exact⟨jq (by omega) (by omega),_,ie [(0,1),(b,b+4)] [(b+6,b+7),(M,N)] _,by simp<;>omega,by simp[bg]<;>omega⟩
    ·exact⟨jq (by omega) (by omega),_,ie [(0,1)] [(b,b+4),(b+6,b+7),(M,N)] _,by simp<;>omega,by simp[bg]<;>omega⟩
    ·exact⟨jq (by omega) (by omega),_,ie [(0,1),(b,b+4)] [(b+6,b+7),(M,N)] _,by simp<;>omega,by simp[bg]⟩)
 have t1:=iY L' (C:=C) (w:=wordOf 15) yD (by decide) (oh L' (OB L' (C:=C) (rs:=rs) (kk:=kk) (pp:=pp) (hd:=hd) (er:=uH) (x:=b+9) (y:=b+10) (jq (by omega) (by omega)) (ie [(0,1),(b,b+4),(b+6,b+7)] [(M,N)] _) (by simp) (by simp<;>omega) (by simp[bg]<;>omega) (by simp)) (by decide));have t2:=iY L' (C:=C) (w:=wordOf 14) yD (by decide) (Ac L' (DN L' (C:=C) (rs:=rs) (kk:=kk) (pp:=pp) (hd:=hd) (er:=uH) (x:=b) (y:=b+3) (jq (by omega) (by omega)) (by simp<;>omega)) (by decide));have k3:=Mi L' (C:=C) (rs:=rs) (kk:=kk) (pp:=pp) (hd:=hd) (er:=uH) (x:=b) (y:=b+4) (jq (by omega) (by omega)) (show (b,b+4)∈[(0,1),(b,b+4),(b+6,b+7),(M,N)] by simp) (by omega) uk (by simp) u4 (by omega);have YJ:([(0,1),(b,b+4),(b+6,b+7),(M,N)].filter λz=>!decide (z=(b,b+4)))=[(0,1),(b+6,b+7),(M,N)]:=by
  have a1:¬ (0:Int)=b:=by omega
  have a2:¬ b+6=b:=by omega
  have a3:¬ M=b:=by omega
  simp[zK,a1,a2,a3]
 rw[YJ]at k3;have t3:=AM L' yD (Jw L' k3 (by rw[fR];exact ag _)) (by rw[fR];exact ag _);have YK:=jE bk (os:=[(0,1),(b+6,b+7),(M,N)]) (by intro q m;simp at m;rcases m with rfl|rfl|rfl<;>(simp only[];omega)) (by omega) (by simp);have u6:Up [(0,1),(b+1,b+5),(b+6,b+7),(M,N)]:=by simp<;>omega
 have k4:=Jv L' (C:=C) (rs:=rs) (kk:=kk) (pp:=pp) (hd:=hd) (ks:=ks) (er:=uH++[now ks [(0,1),(b,b+4),(b+6,b+7),(M,N)]]) (x:=b+1) (y:=b+5) (jq (by omega) (by omega)) (ie [(0,1)] [(b+6,b+7),(M,N)] _) u6 (by simp[bg]<;>omega) (by simp) (by omega) uk (by simp<;>omega);have t4:=AM L' YK (DP L' k4 (by rw[fR];exact ag _)) (by rw[fR];exact ag _);refine⟨S (pt B n q) C j e rs kk pp hd ks [(0,1),(b+1,b+5),(b+6,b+7),(M,N)] (uH++[now ks [(0,1),(b,b+4),(b+6,b+7),(M,N)]]++[now ks [(0,1),(b+6,b+7),(M,N)]]),by rw[fR,gI],iX ?_ (by rw[fR,fR,gI,gI];exact ag _)⟩;show ir C [xB n,xB j,none,none,none,none,none,none,none,none] _=_;unfold ir;refine(fu (gp (jb [.ae,.bl true,.str "3",.lst [.int 3],.int (-1),.int (0-10 ^ 30)] (ff rfl (ff rfl (ff rfl (ff (jb [.int 3] rfl (by rw[sz];simp)) (ff (Ol rfl) (ff (fH (r:=.old _) rfl Tv rfl) rfl)))))) (by rw[sz];simp)))).trans ?_;refine(fu ((lV (j9 rfl)).trans ol)).trans ?_;refine(fu (gp (fH (r:=.old (.int b)) rfl tk yC))).trans ?_;refine(fu bt).trans ?_;refine(fu (gp (jb [dP (0,1),dP (M,N),dP (b,b+4),dP (b+6,b+7)] (ff (bE rfl rfl) (ff (bE (x:=.int M) (y:=.int N) (by rw[eM];exact Tw) (by rw[eN];exact fH (r:=.old _) YC rfl rfl)) (ff (bE (y:=.int (b+4)) rfl (fH (r:=.old _) rfl rfl rfl)) (ff (bE (x:=.int (b+6)) (y:=.int (b+7)) (fH (r:=.old _) rfl rfl rfl) (fH (r:=.old _) rfl rfl rfl)) rfl)))) (by rw[sz];simp)))).trans ?_;refine(fu ((lV (j9 rfl)).trans rl)).trans ?_;refine(fu (gp (jb [dP (b+4,b+5),dP (b-1,b),dP (b+1,b+2),dP (b-2,b+9)] (ff (bE (x:=.int (b+4)) (y:=.int (b+5)) (fH (r:=.old _) rfl rfl rfl) (fH (r:=.old _) rfl rfl rfl)) (ff (bE (x:=.int (b-1)) (fH (r:=.old _) rfl rfl rfl) rfl) (ff (bE (x:=.int (b+1)) (y:=.int (b+2)) (fH (r:=.old _) rfl rfl rfl) (fH (r:=.old _) rfl rfl rfl)) (ff (bE (x:=.int (b-2)) (y:=.int (b+9)) (fH (r:=.old _) rfl rfl rfl) (fH (r:=.old _) rfl rfl rfl)) rfl)))) (by rw[sz];simp)))).trans ?_;refine(fu ((lV (j9 (fH (r:=.lst [dP (b+4,b+5),dP (b-1,b),dP (b+1,b+2),dP (b-2,b+9),dP (b+5,b+6)]) rfl (jb [dP (b+5,b+6)] (ff (bE (x:=.int (b+5)) (y:=.int (b+6)) (fH (r:=.old _) rfl rfl rfl) (fH (r:=.old _) rfl rfl rfl)) rfl) (by rw[sz];simp)) (TB (by rw[sz];simp))))).trans ml)).trans ?_;refine(fu (k7 (mt rfl (eV (y:=.int (b+9)) (z:=.int (b+10)) rfl (fH (r:=.old _) rfl rfl rfl) (fH (r:=.old _) rfl rfl rfl)) rfl t1))).trans ?_;refine(fu (k7 (mt rfl (eV (z:=.int (b+3)) rfl rfl (fH (r:=.old _) rfl rfl rfl)) rfl t2))).trans ?_;refine(fu (k7 (mt rfl (eV (z:=.int (b+4)) rfl rfl (fH (r:=.old _) rfl rfl rfl)) rfl t3))).trans ?_;refine iF ((Bg (b:=true) (gh (ff rfl (ff (eV (y:=.int (b+1)) (z:=.int (b+5)) rfl (fH (r:=.old _) rfl rfl rfl) (fH (r:=.old _) rfl rfl rfl)) (ff rfl rfl))) rfl t4)).trans ?_);rw[if_pos rfl];exact fH (r:=.old (.bl true)) (gq L' rfl rfl rfl rfl (CS L')) (jD (r:=.tup _) [.lst _] (ff (jD (r:=.lst _) [.tup _] (ff (gq L' rfl rfl rfl rfl (CS L')) rfl) (Bk HL (List.Perm.refl _) (by simp) u6)) rfl) rfl) (Mn _)
end
end K83
namespace aE
open L2 L2.DL K1 eH
noncomputable abbrev Al:=List (Int×Int)
section
variable {e : α -> D}
end
section
variable {rs ks : List D} 
end
section
variable {e : α -> D} {L : List (Int × α)} {m k : DE W} {l : Int}
end
section
variable {rs ks : List D} {K R : List (Int × Int)} 
end
open eG
section
variable {rs ks : List D} 
variable {T T' : List (Pg × Str × D × D)} {K R K' R' : Al}
variable {P : D}
end
noncomputable abbrev At:=List (Int×(Int×Int))
section
variable {rs ks : List D} {K R : List (Int × Int)} {b : Nat} {k : Int}
end
noncomputable abbrev ml (n:Nat):List (Str×Nat):=[("there",n),("came",n+1),("gone",n+2),("doors",n+3),("at",n+4),("words",n+5)]
section
variable {th aaZ : At} {ca aa0 : List (Int × Pg)} {go go' : Al} {dr aa1 : List (List Key × D)} {av aa2 wd aa3 : List D}
end
section
variable {e : α -> D} {L : List (Int × α)} {m k v : DE W} {l : Int}
end
end aE
namespace eH
open L2 L2.DL K1 eG
end eH
namespace K2
open L2 L2.DL K1
section
variable {h : D} {rs : List Int} {hold : Int} {x0 x1 x2 x4 x5 x6 x7 x8 x9 YL YM TH TJ YN : Option W}
end
section
variable {h : D} {rs : List Int} {hold : Int} {x0 x1 x4 x5 x6 x7 x8 TH TJ YN : Option W}
end
end K2
namespace K1
open L2 L2.DL
end K1
namespace K2
open L2 L2.DL K1
end K2
namespace eH
open L2 L2.DL K1 eG
section
variable {h : D} 
end
end eH
namespace eG
open L2 L2.DL K1 K2
section
variable {bx2 bL : List Bx}
end
section
variable {x0 x1 x2 x5 x7 x8 x9 YL : Option W}
end
section
variable {bx2 : List Bx}
end
section
variable {x0 x1 x3 x5 x6 x7 YM TH TJ : Option W}
end
section
variable {x0 x1 x5 : Option W}
end
end eG
namespace eH
open L2 L2.DL K1 eG
section
variable {r : aF}
end
section
variable {bx2 : List Bx}
end
end eH
namespace aE
open L2 L2.DL K1 eH eG
section
variable {rs ks : List D} {K R : List (Int × Int)} 
variable {ca : List (Int × Pg)} {go : Al} {dr : List (List Key × D)} {av wd : List D}
end
section
variable {rs ks : List D} {P : D} 
end
abbrev yE (ft:List W->List Bx->O W):af:=(gc (d2 false fN (dV 3) (gu false [none,some 0,some 4] (cQ (fc (dV 4) fe)) (fg 0) (dB (d2 false bw (fk ft 2 (fc (dV 1) (fc (dC (.int 3)) fe))) (dC (.int 0)))) (fG (fc (dV 0) (fc (dV 2) fe))))) (fg 3))
theorem FM (h:n<bx.length) (k:Nat) (hk:k<=4) (p:Int):∃ is:List Nat,∃ q,is.Sublist (List.range k) /\
 bq (fg 0) (dB (d2 false bw (fk K1.fm 2 (fc (dV 1) (fc (dC (.int 3)) fe))) (dC (.int 0)))) (fG (fc (dV 0) (fc (dV 2) fe))) (fM 0 k) [none,xB n,xN k] (pt bx n p) []=.val (is.map λ(i:Nat)=>dP ((i:Int),(k:Int))) (pt bx n q):=by
 have z2:(2:Nat)<=sizeLine:=by decide
 have sz:=a7
 obtain⟨l',q,e,s⟩:=o8 (g:=fg 0) (tf:=dB (d2 false bw (fk K1.fm 2 (fc (dV 1) (fc (dC (.int 3)) fe))) (dC (.int 0)))) (te:=fG (fc (dV 0) (fc (dV 2) fe))) (λe=>∃ w,e=[w,xB n,xN k]) (λw=>.tup [match w with|.d x=>x|_=>.ae,.int k]) (bx:=bx) (n:=n) (fM 0 k) [none,xB n,xN k] p [] ⟨none,rfl⟩ (by
  intro w mw env p ⟨w0,je⟩;obtain⟨i,_,rfl⟩:=List.mem_map.mp mw;have t:=iA h p 3 (by decide) (by decide);exact⟨[xN (0+(i:Int)),xB n,xN k],decide (p % 3=0),p / 3,by simp[je],⟨_,rfl⟩,by simp[t,bw],by simp[z2]⟩) (by simp[fM];omega)
 unfold fM at s;obtain⟨is,s1,rfl⟩:=List.sublist_map_iff.mp s;refine⟨is,q,s1,?_⟩;rw[e,vc,eJ];congr 1;refine u9 λi _=>?_;simp[dP]
theorem JA {ft:List W->List Bx->O W}{p q:Int}(x1 x2:Option W) {is:List Nat}(hk:k<=4) (y:ps.length+is.length<=sizeLine)
 (e:bq (fg 0) (dB (d2 false bw (fk ft 2 (fc (dV 1) (fc (dC (.int 3)) fe))) (dC (.int 0)))) (fG (fc (dV 0) (fc (dV 2) fe))) (fM 0 k) [none,xB n,xN k] (pt bx n p) []=.val (is.map λ(i:Nat)=>dP ((i:Int),(k:Int))) (pt bx n q)) :
 yE ft [xB n,x1,x2,xP ps,xN (k:Int)] (pt bx n p)=.nx [xB n,x1,x2,xP (ps++is.map λ(i:Nat)=>((i:Int),(k:Int))),xN (k:Int)] (pt bx n q):=by
 have rg:=oa (env:=[xB n,x1,x2,xP ps,xN (k:Int)]) (bx:=pt bx n p) (k:=k) (m:=fc (dV 4) fe) (by simp) (by omega);have ad:fN (.lst (ps.map dP)) (.lst (is.map λ(i:Nat)=>dP ((i:Int),(k:Int))))=some (.lst ((ps++is.map λ(i:Nat)=>((i:Int),(k:Int))).map dP)):=by
  refine(if_pos (by rw[aL,aL];exact y)).trans ?_;rw[wU,eJ];rfl
 unfold yE;rw[Bb,Oc,show dV 3 [xB n,x1,x2,xP ps,xN (k:Int)] (pt bx n p)=.val (.d (.lst (ps.map dP))) (pt bx n p) from rfl,fS,j8,rg,fS,
  show ed [none,some 0,some 4] [some (W.b n),x1,x2,some (W.d (.lst (ps.map dP))),some (W.d (.int (k:Int)))]=[none,xB n,xN k] from rfl,e,fS,gF,fS,iW,oT,oT,a9,a9,ad,gF,iW,jJ,jp]
 rfl
theorem JB (h:n<bx.length) (x1 x2:Option W):∀ (c k:Nat) (p:Int) (ps:List (Int×Int)) (w:Option W),k+c<=4->we k ps ->
 ∃ p9 w' q,cP (fg 4) (yE K1.fm) ((List.range' k c).map λ(i:Nat)=>W.d (.int (0+(i:Int)))) [xB n,x1,x2,xP ps,w] (pt bx n p)=.nx [xB n,x1,x2,xP p9,w'] (pt bx n q) /\ we (k+c) p9:=by
 intro c;induction c with
 |zero=>intro k p ps w _ s;exact⟨ps,w,p,rfl,s⟩
 | succ c ih =>
   intro k p ps w hk s;obtain⟨is,q,s1,e⟩:=FM h k (by omega) p;have li:is.length<=k:=by have:=s1.length_le;simpa using this
   have s':=s.more s1 (by omega);obtain⟨p9,w',q',e2,s2⟩:=ih (k+1) q _ (xN (k:Int)) (by omega) s';refine⟨p9,w',q',?_,by rw[show k+(c+1)=k+1+c by omega];exact s2⟩;have sz:=a7;have pl:=s.l;have st:=JA x1 x2 (ps:=ps) (is:=is) (by omega) (by omega) e;have g1:fg 4 (W.d (.int (0+(k:Int)))) [xB n,x1,x2,xP ps,w] (pt bx n p)=some ([xB n,x1,x2,xP ps,xN (k:Int)],pt bx n p):=by
    rw[Ea];rfl
   rw[List.range'_succ,aN,ic g1 st];exact e2
theorem JC (h:n<bx.length) (p:Int):∃ rs ks ps hd q,gY [.b n] (pt bx n p)=.val (.d (hs rs ks ps hd)) (pt bx n q) /\ Hs rs ks ps hd:=by
 obtain⟨rs,q1,hr,e1⟩:=Jg h p none none none none;obtain⟨ks,q2,hk,lk,e2⟩:=Jh h q1 (some (.d (.tup rs))) none none none;obtain⟨ps,w',q3,e3,s3⟩:=JB h (some (.d (.tup rs))) (some (.d (.tup ks))) ks.length 0 q2 [] none (by omega) ⟨.nil,(λp m=>nomatch m),ag _⟩;rw[wC]at s3;have pl:=s3.l;obtain⟨qs,pq,so,e4⟩:=Me ps (by omega);obtain⟨hd,q4,hh,e5⟩:=Mf h q3 (some (.d (.tup rs))) (some (.d (.tup ks))) (xP ps) w';have hb:∀ p∈qs,0<=p.1 /\ p.1<p.2 /\ p.2<(ks.length:Int):=λp m=>s3.b p (pq.mem_iff.mp m);have lq:qs.length<=16:=by rw[pq.length_eq];omega
 simp only[rooms,aw]at hr;have n1:=lz hr.1;have nC:=hk;simp only[kinds,aw]at nC;have n2:=lz nC.1;refine⟨rs,ks,qs,hd,q4,iX ?_ (by rw[gI,gI];exact ag _),⟨by omega,by omega,by omega,by omega,λp m=>(hb p m).2.1,by omega,?_⟩⟩
 ·have sz:=a7;have z4:(4:Nat)<=sizeLine:=by omega
  have z0:(0:Nat)<=sizeLine:=by omega
  show jV [xB n,none,none,none,none] (pt bx n p)=_;have e0:gc (iE false fe) (fg 3) [xB n,some (.d (.tup rs)),some (.d (.tup ks)),none,none] (pt bx n q2)=.nx [xB n,some (.d (.tup rs)),some (.d (.tup ks)),xP ([]:List (Int×Int)),none] (pt bx n q2):=by
   exact gp (jb [] rfl z0)
  have rg:=oa (env:=[xB n,some (.d (.tup rs)),some (.d (.tup ks)),xP ([]:List (Int×Int)),none]) (bx:=pt bx n q2) (k:=ks.length) (m:=fc (dN false bU (fc (dV 2) fe)) fe) (by simp[bU]) (by omega);have e6:jg (cQ (fc (dN false bU (fc (dV 2) fe)) fe)) (fg 4) (yE K1.fm) [xB n,some (.d (.tup rs)),some (.d (.tup ks)),xP ([]:List (Int×Int)),none] (pt bx n q2)=.nx [xB n,some (.d (.tup rs)),some (.d (.tup ks)),xP ps,w'] (pt bx n q3):=by
   rw[G1,rg,jJ];unfold fM;rw[List.range_eq_range'];exact e3
  unfold jV;have e7:dN false eS (fc (dN false dF (fc (dV 3) fe)) fe) [xB n,some (.d (.tup rs)),some (.d (.tup ks)),xP ps,w'] (pt bx n q3)=.val (.d (.tup (qs.map dP))) (pt bx n q3):=
   jD (r:=.tup (qs.map dP)) [.lst (qs.map dP)] (ff (jD (r:=.lst (qs.map dP)) [.lst (ps.map dP)] (ff rfl rfl) e4) rfl) rfl
  rw[fu e1,fu e2,fu e0,fu e6];exact iF (gH [.tup rs,.tup ks,.tup (qs.map dP),hd] (ff rfl (ff rfl (ff e7 (ff e5 rfl)))) z4)
 ·have a:apart (ks.length:Int) (.tup (qs.map dP))=true:=by
   have b1:(qs.map dP).all (dU (ks.length:Int))=true:=by
    rw[tH,bX];intro p m;have:=hb p m;simp[dU,tl];omega
   have b2:qb qs=true:=DA so (pq.nodup_iff.mpr s3.nd);show (((qs.map dP).all (dU (ks.length:Int)))&&qb ((qs.map dP).filterMap yy))=true;rw[Dv,b1,b2];rfl
  have YO:rooms (.tup rs)=true:=by simp only[rooms,hr,uY]
  simp only[house,lenOf,YO,hk,a,hh,uY]
end aE
namespace K83
open L2 L2.DL
open K1 (dP iX pt gI)
open aE (hs Hs)
variable {rs kk : List D} 
theorem JD {l:List α}{x:α}(h:l[i]?=some x):l.set i x=l:=by
 apply Qa;intro k;by_cases c:i=k
 ·subst c;rw[pC (List.getElem?_eq_some_iff.mp h).1,h]
 ·rw[pD c]
theorem HN {fs:List (Str×(D ⊕ Nat))}{v:DE W}{f:Str}{d:D}(he:env[0]?=some (xB bx.length)) (hv:v env (bx++[.ins C fs])=.val (.d d) (bx++[.ins C fs])) (hl:fs.length<1000) :
 k6 C (dV 0) f v env (bx++[.ins C fs])=.nx env (bx++[.ins C (rP f (.inl d) fs)]):=by
 unfold k6;rw[hv,jJ,ly,he,jJ];simp only[List.getElem?_concat_length];rw[if_pos ⟨trivial,hl⟩,List.set_append_right _ _ (ag _),eI];rfl
theorem OG (H:Hs rs kk pp hd) {k:DE (List W)}(hk:k env bx=.val [.d (hs rs kk pp hd)] bx1):uE C "earlier" (jW C) k env bx=.val (.b (bx1.length+1)) (bx1++[.lst [],.ins C (fld (hs rs kk pp hd) [] [] bx1.length)]):=by
 have sz:=a7;have et:∀ b,fG fe (uD bx1.length (hs rs kk pp hd)) b=.val (.d (.tup [])) b:=λb=>gH [] rfl (by rw[sz];simp);have m:jW C (uD bx1.length (hs rs kk pp hd)) (bx1++[.ins C []])=.nx (uD bx1.length (hs rs kk pp hd)) (bx1++[.ins C [("home",.inl (hs rs kk pp hd)),("kept",.inl (.tup [])),("dark_hours",.inl (.tup []))]]):=by
  unfold jW;refine(fu (gO (gh (ff rfl rfl) rfl (K2.Bj H.hh (aE.Mg H) _)))).trans ?_;refine(fu (HN rfl rfl (by simp))).trans ?_;refine(fu (HN (fs:=[("home",.inl (hs rs kk pp hd))]) rfl (et _) (by simp))).trans ?_;refine(fu (HN (fs:=[("home",.inl (hs rs kk pp hd)),("kept",.inl (.tup []))]) rfl (et _) (by simp))).trans ?_;rfl
 unfold uE;rw[hk,fS];simp only[m,List.getLast?_concat];rw[if_pos ⟨rfl,rfl,by simp⟩];rfl
theorem YQ (l:List Int) (hl:l.length<=1000) (bx:List Bx) (xs:aF):∃ c:Nat,cQ (fc (dN false maxD (fc (dC (.int 1)) (fc (dN false minD (fc (pV (dV 0)) (fc (dC (.int 3)) fe))) fe))) fe) (some (.s l)::xs) bx=.val (fM 0 c) bx:=by
 have e1:pV (dV 0) (some (.s l)::xs) bx=.val (.d (.int l.length)) bx:=rfl;have e2:dN false minD (fc (pV (dV 0)) (fc (dC (.int 3)) fe)) (some (.s l)::xs) bx=.val (.d (.int (if (3:Int)<l.length then 3 else l.length))) bx:=jD (r:=.old _) [.int l.length,.int 3] (ff e1 (ff rfl rfl)) rfl;have e3:dN false maxD (fc (dC (.int 1)) (fc (dN false minD (fc (pV (dV 0)) (fc (dC (.int 3)) fe))) fe)) (some (.s l)::xs) bx=.val (.d (.int (if (if (3:Int)<l.length then (3:Int) else l.length)>1 then (if (3:Int)<l.length then 3 else l.length) else 1))) bx:=jD (r:=.old _) [.int 1,.int _] (ff rfl (ff e2 rfl)) rfl;generalize hz:(if (if (3:Int)<l.length then (3:Int) else l.length)>1 then (if (3:Int)<l.length then (3:Int) else l.length) else 1)=z at e3;have zb:0<=z /\ z<=3:=by
  rw[<-hz];split<;>split<;>omega
 exact⟨z.toNat,K1.mE (ff e3 rfl) (by omega)⟩
abbrev TL (C:Addr):af:=fI (gc (fk K1.jB 1 (fc (fk K1.gX 2 (fc (dV 0) (fc (dV 1) fe))) fe)) (fg 2)) (fI (gc (uE C "earlier" (K83.jW C) (fc (fk aE.gY 1 (fc (dV 2) fe)) fe)) (fg 3)) (qO (dM (aS (dB (fk (K83.gn C) 2 (fc (dV 2) (fc (dV 3) fe))))) (aS (dB (fk (K83.gw C) 2 (fc (dV 2) (fc (dV 3) fe))))))))
theorem PH (C:Addr) (l:List Int) (k:Nat) (bx:List Bx) (x2 x3:Option W):∃ y2 y3 bx',TL C [some (.s l),xN (k:Int),x2,x3] bx=.nx [some (.s l),xN (k:Int),y2,y3] bx':=by
 obtain⟨c,ec⟩:=K1.Op l k bx;obtain⟨p,ep⟩:=K1.Pv c bx;obtain⟨A,lA,hn,pA⟩:∃ A:List Bx,A.length=bx.length+1 /\ bx.length<A.length /\ bx++[Bx.lst [D.int p]]=pt A bx.length p :=
  ⟨bx++[.lst [.int p]],by simp,by simp,by unfold pt;simp⟩
 rw[pA]at ep;obtain⟨rs,kk,pp,hd,q,eh,H⟩:=aE.JC hn p;have mk:=OG H (C:=C) (k:=fc (fk aE.gY 1 (fc (dV 2) fe)) fe) (env:=[some (.s l),xN (k:Int),xB bx.length,x3]) (ff (gh (ff rfl rfl) rfl eh) rfl);rw[gI,K1.Os hn]at mk;have lB:(A++[Bx.lst [],.ins C (fld (hs rs kk pp hd) [] [] A.length)]).length=A.length+2:=by simp
 have L:Lc (A++[Bx.lst [],.ins C (fld (hs rs kk pp hd) [] [] A.length)]) (A.length+1) A.length:=⟨by omega,by omega,by omega⟩;have es:pt (A++[Bx.lst [],.ins C (fld (hs rs kk pp hd) [] [] A.length)]) bx.length q=S (pt (A++[Bx.lst [],.ins C (fld (hs rs kk pp hd) [] [] A.length)]) bx.length q) C (A.length+1) A.length rs kk pp hd [] [] []:=by
  have g1:(pt (A++[Bx.lst [],.ins C (fld (hs rs kk pp hd) [] [] A.length)]) bx.length q)[A.length]?=some (.lst []):=by
   unfold pt;rw[pD (by omega),cq (ag _),eI];rfl
  have g2:(pt (A++[Bx.lst [],.ins C (fld (hs rs kk pp hd) [] [] A.length)]) bx.length q)[A.length+1]?=some (.ins C (fld (hs rs kk pp hd) [] [] A.length)):=by
   unfold pt;rw[pD (by omega),cq (by omega),show A.length+1-A.length=1 by omega];rfl
  show _=(List.set _ A.length (Bx.lst [])).set (A.length+1) (Bx.ins C (fld (hs rs kk pp hd) [] [] A.length));rw[JD g1,JD g2]
 rw[es]at mk;obtain⟨q2,ks,er,u,bk,nk,ne,e1⟩:=B3 L (C:=C) (rs:=rs) (kk:=kk) (pp:=pp) (hd:=hd) (n:=bx.length) (by omega) (by omega) (by omega) q;obtain⟨bx',aa4,e2⟩:=CT L (C:=C) (rs:=rs) (kk:=kk) (pp:=pp) (hd:=hd) (n:=bx.length) (by omega) (by omega) (by omega) bk nk u ne q2;refine⟨xB bx.length,xB (A.length+1),bx',?_⟩;refine(fu (gp (gh (ff (gh (ff rfl (ff rfl rfl)) rfl ec) rfl) rfl ep))).trans ?_;refine(fu (gp mk)).trans ?_;exact k7 (mV (jX (b:=true) (iO (gh (ff rfl (ff rfl rfl)) rfl e1))) (jX (b:=true) (iO (gh (ff rfl (ff rfl rfl)) rfl e2))))
theorem law_true (C:Addr) (l:List Int) (hl:l.length<=1000):∃ bx',A7 C [.s l] []=.val (.d (.bl true)) bx':=by
 obtain⟨c,ec⟩:=YQ l hl [] [none,none,none];obtain⟨au,bx',e,x1,x2,x3,rfl⟩:=Bh (g:=fg 1) (body:=TL C) (λ_ env b=>∃ x1 x2 x3,env=[some (.s l),x1,x2,x3]) (fM 0 c) 0 [some (.s l),none,none,none] [] ⟨_,_,_,rfl⟩ (by
  rintro i w env b hw ⟨x1,x2,x3,rfl⟩;obtain⟨k,_,rfl⟩:=List.mem_map.mp (zB hw);obtain⟨y2,y3,bx',e⟩:=PH C l k b x2 x3;exact⟨[some (.s l),xN (k:Int),x2,x3],b,_,_,by rw[Ea];rfl,e,_,_,_,rfl⟩)
 refine⟨_,K1.Oo (bx':=bx') ?_⟩;show GX C [some (.s l),none,none,none] []=_;unfold GX;refine(fu ((lV ec).trans e)).trans ?_;exact iF rfl
end K83
namespace L2.DL
open PySem.W
structure Cf where
 N:List Str
 nm:List (Str×NameKind)
 f:Bool
 bx:List Str
 dc:List Str
 wk:List (Str×Nat)   -- 1: a tuple of aa5,2: a box that is walked,3: a dict with tuple keys
 yF:Str
 fs:List (Str×(Nat×(List W->List Bx->O W)))
 gl:List (Str×Int)
 bl:List Str
 rb:Bool
 rx:Bool
 tr:Bool
 ow:List Str
 C:Addr:=0          -- the class of Vd own,its attributes,its methods,how it is made
 fl:List Str:=[]
 ms:List (Str×(Nat×(List W->List Bx->O W))):=[]
 mc:Option (Str×(Str×af)):=none
structure yG (P:Program) (w:World) (K:PySem.W.Frag) (mg:Str->Option Value) (base:Heap) (cl:Nat->Addr) (C:Addr) (fl:List Str) (ms:List (Str×(Nat×(List W->List Bx->O W)))) (mk:Option (Str×(Str×af))) (k:Nat):Prop where
 cls:fl≠[]->dI K C
 na:∀ f,f∈fl->nQ K C f
 ms:∀ x n fn,ms.lookup x=some (n,fn)->∃ kk ps,wa P w K mg base cl C kk x ps fn /\ ps.length=n /\ kk<=k
 mc:∀ x f m,mk=some (x,(f,m))->mg x=some (.ref C) /\ ∃ g fd ps kk,Mk K C g /\ bA P w K mg base (bK P w) kk g fd ps (yt C f m) /\ Binds K fd ps [] /\ kk+1<=k
structure bb (c:Cf) (k:Nat) (X:Cx) (Z:Xs):Prop where
 N:X.N=c.N
 nm:X.env.scope.names=c.nm
 kd:X.env.scope.kind=.function
 calm:X.calm=true
 fn:c.f=true->∀ x,X.fn x=true
 ow:∀ x,x∈c.ow->X.fn x=true
 nd:c.N.Nodup
 room:aO k X.A
 fs:∀ x n fn,c.fs.lookup x=some (n,fn)->∃ kk ps,kX X.prog X.w X.K X.mg X.base Z.cl kk x ps fn /\ ps.length=n /\ kk<=k
 gl:∀ x v,c.gl.lookup x=some v->∃ t,X.mg x=some (.int v t)
 bl:∀ x,x∈c.bl->X.mg x=none
 yH:Passes (bK X.prog X.w) X Z.E
 ti:kU X.K "int"
 tb:kU X.K "bool"
 tt:kU X.K "tuple"
 tl:kU X.K "list"
 own:c.rx=false->PassesOwn (model X.prog X.w) X.A X.env X.xe
 YR:c.rx=true->rB X Z.E /\ ∃ R,en X.K X.mg R Z.cl
 TM:c.tr=true->(∃ R,en X.K X.mg R Z.cl) /\ v9 X.prog X.w X.K X.mg X.base Z.cl /\ 1<=k /\ X.stack=X.env::X.outer /\ X.env.frame=some X.env.locals
 ob:yG X.prog X.w X.K X.mg X.base Z.cl c.C c.fl c.ms c.mc k
noncomputable def az:DE α:=λ_ _=>.bad
section
variable {o : Option Expr}
theorem fJ:PD X T Z e az:=λ_ _ _ _ _ _ h=>by
 obtain⟨_,_,_,_,_,h⟩:=h;exact h.elim
theorem oj:eB X T Z e az:=λ_ _ _ _ _ _ h=>by
 obtain⟨_,_,_,_,_,h⟩:=h;exact h.elim
theorem DU:pR X T Z e az:=λ_ _ _ _ _ _ _ h=>by
 obtain⟨_,_,_,_,_,h⟩:=h;exact h.elim
theorem Mo:cD X T Z es az:=λ_ _ _ _ _ _ _ h=>by
 obtain⟨_,_,_,_,_,h⟩:=h;exact h.elim
theorem Bo:rE X T Z tg e az:=λ_ _ _ _ _ _ h=>by
 obtain⟨_,_,_,_,_,h⟩:=h;exact h.elim
noncomputable def sO:DG:=λ_ _ _=>none
noncomputable def TN:kh:=λ_ _ _=>none
theorem lc:kR X T e sO:=λ_ _ _ _ _ _ _ _ _ h=>by
 obtain⟨_,_,_,_,_,_,_,h⟩:=h;exact h.elim
theorem JE:qF X T es TN:=λ_ _ _ _ _ _ _ _ _ h=>by
 obtain⟨_,_,_,_,_,_,_,h⟩:=h;exact h.elim
end
noncomputable def Cf.kd (c:Cf) (x:Str) (n:Nat):Bool:=match c.wk.lookup x with|some k=>k==n|none=>false
noncomputable def Cf.ix (c:Cf) (x:Str):Option Nat:=c.N.findIdx? λy=>decide (y=x)
theorem Cf.HP {c:Cf}(h:c.ix x=some i):c.N[i]?=some x:=by
 obtain⟨h1,h2,_⟩:=List.findIdx?_eq_some_iff_getElem.mp h;rw[eY h1,of_decide_eq_true h2]
noncomputable def Cf.yI (c:Cf) (x:Str):Bool:=(decide (c.nm.lookup x=some .local)||decide (c.nm.lookup x=some .cell)||decide (c.nm.lookup x=some .free))&&!(x==("__debug__":Str))&&!(x==("__classdict__":Str))
noncomputable def Cf.qP (c:Cf) (x:Str):Bool:=decide (c.nm.lookup x=some .globalImplicit)&&!(x==("__debug__":Str))&&decide (x≠("__name__":Str))
noncomputable def Cf.yJ (c:Cf) (x:Str):Bool:=(decide (c.nm.lookup x=some .local)||decide (c.nm.lookup x=some .cell))&&(c.f||decide (x∈c.ow)||decide (c.nm.lookup x=some .local))
def Cf.qc (c:Cf) (x:Str):Bool:=c.qP x&&decide (x∈c.bl)
section
variable {c : Cf} 
theorem bb.TQ (O:bb c k X Z) (h:c.yI x=true):qt X.env.scope x /\ (x==("__debug__":Str))=false /\ (x==("__classdict__":Str))=false:=by
 simp only[Cf.yI,aw,uX,decide_eq_true_eq,eA]at h;unfold qt;rw[O.nm];exact⟨or_assoc.mp h.1.1,h.1.2,h.2⟩
theorem bb.gb (O:bb c k X Z) (h:c.qP x=true):Gl X x /\ (x==("__debug__":Str))=false /\ x≠("__name__":Str):=by
 simp only[Cf.qP,aw,decide_eq_true_eq,eA]at h;unfold Gl Env.kindOf;rw[O.nm];exact⟨h.1.1,h.1.2,h.2⟩
theorem bb.lo (O:bb c k X Z) (h:c.yJ x=true):Loc X.env.scope x /\ (X.fn x=true \/ X.env.scope.names.lookup x=some .local):=by
 simp only[Cf.yJ,aw,uX,decide_eq_true_eq]at h;unfold Loc;rw[O.nm];exact⟨h.1,h.2.imp (λz=>z.elim (λz=>O.fn z x) (O.ow x)) id⟩
theorem bb.blt (O:bb c k X Z) (h:c.qc x=true):Gl X x /\ (x==("__debug__":Str))=false /\ x≠("__name__":Str) /\ X.mg x=none:=by
 simp only[Cf.qc,aw,decide_eq_true_eq]at h;obtain⟨a,b,d⟩:=O.gb h.1;exact⟨a,b,d,O.bl x h.2⟩
theorem bb.at (O:bb c k X Z) (h:c.ix x=some i):X.N[i]?=some x:=by rw[O.N];exact c.HP h
theorem bb.yL (O:bb c k X Z):X.N.Nodup:=by rw[O.N];exact O.nd
theorem bb.u0 (O:bb c k X Z):X.A.units+100<cLine:=by have:=O.room.un;omega
def HQ (c:Cf) (fz:Bool) (x:Str):DE W:=match c.ix x with
 |some i=>if c.yI x then dV i else az
 | none=>match c.gl.lookup x with
   |some v=>if c.qP x then dC (.int v) else az
   |none=>az
theorem JF (O:bb c k X Z) (fz:Bool):PD X T Z (.Name x pos) (HQ c fz x):=by
 unfold HQ;split
 ·rename_i i e;split
  ·rename_i h;obtain⟨a,b,d⟩:=O.TQ h;exact Nu i (O.at e) a b d
  ·exact fJ
 ·split
  ·rename_i v e;split
   ·rename_i h;obtain⟨a,b,_⟩:=O.gb h;exact LK a (O.gl x v e) b
   ·exact fJ
  ·exact fJ
end
section
variable {c : Cf} {f : Expr -> DE W} {t : Expr -> DE Bool} {g : Expr -> DG}
def qQ (f:Expr->DE W):List Expr->DE (List W)
 |[]=>fe
 |e::es=>if bN e then fc (f e) (qQ f es) else az
theorem jZ (h:∀ e,PD X T Z e (f e)):∀ es,cD X T Z es (qQ f es)
 |[]=>lJ
 | e::es=>by
   unfold qQ;split
   ·rename_i n;exact mQ (h e) (jZ h es) n
   ·exact Mo
def HR (f:Expr->DE W):List Expr->DE W
 |[]=>az
 |[a]=>f a
 |a::r=>gx (f a) (HR f r)
theorem DV (h:∀ e,PD X T Z e (f e)):∀ es,PD X T Z (.BoolOp .And es pos) (HR f es)
 |[]=>fJ
 |[a]=>GA (h a)
 |a::b::r=>NB (h a) (DV h (b::r))
def HS (f:Expr->DE W):List Expr->DE W
 |[]=>az
 |[a]=>f a
 |a::r=>xQ (f a) (HS f r)
theorem JG (h:∀ e,PD X T Z e (f e)):∀ es,PD X T Z (.BoolOp .Or es pos) (HS f es)
 |[]=>fJ
 |[a]=>GA (h a)
 |a::b::r=>O8 (h a) (JG h (b::r))
def HU (f:Expr->DE Bool):List Expr->DE Bool
 |[]=>az
 |[a]=>f a
 |a::r=>Hd (f a) (HU f r)
theorem B6 (h:∀ e,eB X T Z e (t e)):∀ es,pR X T Z (.BoolOp .And es pos) (HU t es)
 |[]=>DU
 |[a]=>Gz (h a)
 |a::b::r=>Lk (h a) (B6 h (b::r))
def HV (f:Expr->DE Bool):List Expr->DE Bool
 |[]=>az
 |[a]=>f a
 |a::r=>dM (f a) (HV f r)
theorem DW (h:∀ e,eB X T Z e (t e)):∀ es,pR X T Z (.BoolOp .Or es pos) (HV t es)
 |[]=>DU
 |[a]=>Lj (h a)
 |a::b::r=>NA (h a) (DW h (b::r))
def yM (g:Expr->DG):List Expr->kh
 |[]=>jH
 |e::es=>if bN e then f8 (g e) (yM g es) else TN
theorem JH (h:∀ e,kR X T e (g e)):∀ es,qF X T es (yM g es)
 |[]=>GF
 | e::es=>by
   unfold yM;split
   ·rename_i n;exact N6 (h e) (JH h es) n
   ·exact JE
end
def TR:Operator->Option (D->D->Option Res)
 |.Add=>some fN|.Sub=>some dk|.Mult=>some dD|.FloorDiv=>some rF|.Mod=>some dQ|.Pow=>some dR
 |_=>none
def wg:CmpOp->Option (D->D->Option Res)
 |.Eq=>some bw|.NotEq=>some pT|.Lt=>some dG|.LtE=>some pU|.GtE=>some qH|.In=>some (inD false)|.NotIn=>some (inD true)
 |_=>none
theorem Mp {op:Operator}(h:TR op=some g):∃ q,aA X (binaryOp op) q /\ bp q g:=by
 cases op<;>cases h
 ·exact⟨_,Lx,W7⟩
 ·exact⟨_,M9,W8⟩
 ·exact⟨_,LF,Xx⟩
 ·exact⟨_,Nb,Xa⟩
 ·exact⟨_,Nc,Xb⟩
 ·exact⟨_,GI,W9⟩
theorem om (hu:X.A.units+100<cLine) (h:wg op=some g):∃ q,aA X (compareOp op) q /\ bp q g:=by
 cases op<;>cases h
 ·exact⟨_,NW hu,Xv⟩
 ·exact⟨_,NX hu,Xw⟩
 ·exact⟨_,Oa (by omega),Yu⟩
 ·exact⟨_,NY (by omega),Xy⟩
 ·exact⟨_,O5,Xc⟩
 ·exact⟨_,Fd.or (N7 hu),okIn false⟩
 ·exact⟨_,AU.or (FB hu),okIn true⟩
def HW:List (Str×(Bool×(String×(List D->Option Res)))):=
 [("len",false, "len",bU),("all",false, "all",dA),("sorted",false, "sorted",dF),("max",false, "max",maxD),("min",false, "min",minD),
  ("tuple",true, "tuple",eS),("list",true, "list",xX)]
def TU (X:Cx) (x:Str) (p:Bool×(String×(List D->Option Res))):Prop :=
 match p with
 |(false,id,g)=>bootBuiltins x=some (.builtin id) /\ ∃ q,cK X (.builtin id) q /\ eE q g
 |(true,id,g)=>bootBuiltins x=some (.type id) /\ ∃ q,cK X (.type id) q /\ eE q g
theorem iz {α:Type}{P:Str->α->Prop}:∀ {l:List (Str×α)}{x:Str}{a:α},(∀ p∈l,P p.1 p.2)->l.lookup x=some a->P x a
 |[],_,_,_,e=>by cases e
 | (y,b)::r,x,a,h,e=>by
   rw[cV]at e;cases hx:x==y with
   | true =>
     rw[hx]at e;cases e;have:x=y:=by simpa using hx
     subst this;exact h _ (a8 ..)
   | false =>
     rw[hx]at e;exact iz (λp m=>h p (aV _ m)) e
theorem Mq (hc:X.calm=true) (hu:X.A.units+100<cLine) {p:Bool×(String×(List D->Option Res))}(h:HW.lookup x=some p):TU X x p:=by
 refine iz (P:=TU X) (λp m=>?_) h;simp only[HW,aY,pF,or_false]at m;rcases m with rfl|rfl|rfl|rfl|rfl|rfl|rfl
 ·exact⟨by decide +kernel,_,lI,Xe⟩
 ·exact⟨by decide +kernel,_,Fk hc,Xi⟩
 ·exact⟨by decide +kernel,_,CH hu,X5⟩
 ·exact⟨by decide +kernel,_,D7 hc,Xl⟩
 ·exact⟨by decide +kernel,_,D8 hc,Xm⟩
 ·exact⟨by decide +kernel,_,Ai,Xj⟩
 ·exact⟨by decide +kernel,_,AV,Xk⟩
noncomputable def HX:List (Str×String):=[("int", "int"),("bool", "bool"),("tuple", "tuple"),("list", "list")]
theorem JI {c:Cf}(O:bb c k X Z) {n:String}(h:HX.lookup x=some n):kU X.K n /\ bootBuiltins x=some (.type n):=by
 refine iz (P:=λx n=>kU X.K n /\ bootBuiltins x=some (.type n)) (λp m=>?_) h;simp only[HX,aY,pF,or_false]at m;rcases m with rfl|rfl|rfl|rfl
 ·exact⟨O.ti,by decide +kernel⟩
 ·exact⟨O.tb,by decide +kernel⟩
 ·exact⟨O.tt,by decide +kernel⟩
 ·exact⟨O.tl,by decide +kernel⟩
end L2.DL
variable {c : L2.DL.Cf}
namespace L2.DL
open PySem.W
noncomputable def wj:Expr->Bool
 |.Call ..=>false
 |_=>true
theorem jF {o:Expr}{a:Str}{env:Env}{whole:Sem Value}(h:wj o=true):attributeBase o a env whole=whole:=by
 cases o<;>first|rfl|cases h
noncomputable def plainT:Expr->Bool
 |.BoolOp ..|.UnaryOp ..|.IfExp ..|.Compare ..=>false
 |_=>true
theorem FN {env:Env}(h:plainT e=true) (whole:Sem Value):PySem.isTrue e env whole=(do let v <-whole;standAt e.pos;holding [v] (truthy v)):=by
 cases e<;>first|rfl|cases h
noncomputable def HY:Expr->Bool
 |.Set ..=>false
 |_=>true
theorem B7 {env:Env}(h:HY e=true) (x:Value):foldedSetIterable e env x=pure x:=by
 cases e<;>first|rfl|cases h
noncomputable def sP:Expr->Bool
 |.ListComp ..|.SetComp ..|.DictComp ..=>true
 |_=>false
theorem lX {t:Option Expr}{l:Nat}{env:Env}(h:sP e=false):swapsWith e t l env=pure false:=by
 cases e<;>first|rfl|cases h
noncomputable def HZ:Expr->Bool
 |.Slice ..=>false
 |_=>true
section
variable {a b o : Expr} {mc : DE W} {p : Pos}
theorem Ad (h:HZ b=true):xy b:=λ_ _=>by
 cases b<;>first|rfl|cases h
theorem YS {env:Env}(h:bN e=true):((backTo pos (starEach [e] env)).all (λx=>!x.1)&&(backToKw pos (keywordEach [] env)).all (λx=>x.1.isSome)&&decide ([e].length+([]:List Keyword).length+(if ([]:List Keyword).isEmpty then 0 else 1)<30))=true:=by
 rw[fL h];rfl
end
section
variable {p : Pos} {f : Expr -> DE W} {o : Expr}
def Ia (c:Cf) (f:Expr->DE W) (x:Str) (es:List Expr):DE W:=match c.mc with
 | some (y,(fl,m))=>(match es with
   |[]=>az
   |e::es=>if x=y /\ (c.qP x&&cT (e::es))=true then uE c.C fl m (qQ f (e::es)) else az)
 |none=>az
theorem OH (O:bb c k X Z) (h:∀ e,PD X T Z e (f e)) (es:List Expr):PD X T Z (.Call (.Name x p) es [] pos) (Ia c f x es):=by
 unfold Ia;split
 ·rename_i y fl m e;split
  ·exact fJ
  ·split
   ·rename_i q;obtain⟨rfl,q⟩:=q;rw[aw]at q;obtain⟨g1,g2,_⟩:=O.gb q.1;obtain⟨hm,g,fd,ps,kk,M,G,hb,hk⟩:=O.ob.mc _ _ _ e;exact LW M G O.room hk g1 hm hb O.yH (jZ h _) q.2 g2
   ·exact fJ
 ·exact fJ
def yO (c:Cf) (f:Expr->DE W) (bo:Bool) (x:Str) (es:List Expr):DE W :=
 match c.fs.lookup x with
 | some (n,fn)=>(match es with
   |[]=>az
   |e::es=>if c.qP x&&cT (e::es) then fk fn n (qQ f (e::es)) else az)
 | none=>match HW.lookup x with
   | some (_,_,g)=>(match es with
     |[]=>az
     |e::es=>if c.qc x&&cT (e::es) then dN bo g (qQ f (e::es)) else az)
   |none=>Ia c f x es
theorem DX (O:bb c k X Z) (h:∀ e,PD X T Z e (f e)) (bo:Bool) (es:List Expr):PD X T Z (.Call (.Name x p) es [] pos) (yO c f bo x es):=by
 unfold yO;split
 ·rename_i n fn e;split
  ·exact fJ
  ·split
   ·rename_i a as q;rw[aw]at q;obtain⟨g1,g2,_⟩:=O.gb q.1;obtain⟨kk,ps,hh,hn,hk⟩:=O.fs x n fn e;exact Pl hh O.room hk g1 O.yH (jZ h _) q.2 hn g2
   ·exact fJ
 ·split
  ·rename_i ty id g e;split
   ·exact fJ
   ·split
    ·rename_i a as q;rw[aw]at q;obtain⟨g1,g2,g3,g4⟩:=O.blt q.1;have b:=Mq O.calm O.u0 e;cases ty with
     | false =>
       obtain⟨b1,qq,b2,b3⟩:=b;exact Pk bo b2 b3 g1 g4 b1 (jZ h _) q.2 g3 g2
     | true =>
       obtain⟨b1,qq,b2,b3⟩:=b;exact N5 bo b2 b3 g1 g4 b1 (jZ h _) q.2 g3 g2
    ·exact fJ
  ·exact OH O h _
noncomputable def TV (c:Cf):Expr->Bool
 |.Name x _=>decide (x=c.yF)
 |_=>false
def Ib (c:Cf) (f:Expr->DE W) (bo:Bool) (x:Str) (es:List Expr):DE W :=
 if x="isinstance" then (match es with
  | [a,.Name t _]=>(match HX.lookup t with
    |some n=>if c.qc "isinstance"&&c.qc t&&bN a then lf n (f a) else az
    |none=>az)
  |_=>az)
 else if x="repr" then (match es with
  |[a]=>if c.qc "repr"&&bN a then sC (f a) else az
  |_=>az)
 else match es with
  |[a]=>if x="len" /\ TV c a=true then (if c.qc "len"&&bN a then pV (f a) else az) else yO c f bo x es
  |_=>yO c f bo x es
theorem JJ (O:bb c k X Z) (h:∀ e,PD X T Z e (f e)) (bo:Bool) (es:List Expr):PD X T Z (.Call (.Name x p) es [] pos) (Ib c f bo x es):=by
 unfold Ib;split
 ·rename_i hx;subst hx;split
  ·rename_i a t tp;split
   ·rename_i n e;split
    ·rename_i q;simp only[aw]at q;obtain⟨g1,g2,g3,g4⟩:=O.blt q.1.1;obtain⟨j1,j2,j3,j4⟩:=O.blt q.1.2;obtain⟨y1,y2⟩:=JI O e;exact Pm y1 g1 g4 j1 j4 y2 (h a) q.2 j3 j2
    ·exact fJ
   ·exact fJ
  ·exact fJ
 ·split
  ·rename_i hx;subst hx;split
   ·rename_i a;split
    ·rename_i q;rw[aw]at q;obtain⟨g1,g2,g3,g4⟩:=O.blt q.1;exact LE O.room g1 g4 (h a) (fL q.2 _ _)
    ·exact fJ
   ·exact fJ
  ·split
   ·rename_i a;split
    ·rename_i hx;obtain⟨rfl,_⟩:=hx;split
     ·rename_i q;rw[aw]at q;obtain⟨g1,g2,g3,g4⟩:=O.blt q.1;exact LH g1 g4 (h a) (fL q.2 _ _)
     ·exact fJ
    ·exact DX O h bo _
   ·exact DX O h bo _
def Ic (c:Cf) (f:Expr->DE W) (o:Expr) (x:Str) (n:Nat) (fn:List W->List Bx->O W) (es:List Expr):DE W:=if c.fl≠[] then (match es with
 |[]=>bH c.C fn x n (f o) fe
 |e::es=>if cT (e::es)=true /\ (e::es).length<30 then bH c.C fn x n (f o) (qQ f (e::es)) else az) else az
theorem OI {m:Str}(O:bb c k X Z) (h:∀ e,PD X T Z e (f e)) (e:c.ms.lookup m=some (n,fn)) (es:List Expr) (hb:wj o=true) (hl:(apos.endLine==pos.line)=true):PD X T Z (.Call (.Attribute o m apos) es [] pos) (Ic c f o m n fn es):=by
 unfold Ic;split
 ·rename_i hf;obtain⟨kk,ps,H,hn,hk⟩:=O.ob.ms _ _ _ e;split
  ·exact GW (O.ob.cls hf) H O.room hk O.yH (h o) (jF hb) hl hn
  ·split
   ·rename_i q;exact LU (O.ob.cls hf) H O.room hk O.yH (h o) (jZ h _) (jF hb) hl q.1 q.2 hn
   ·exact fJ
 ·exact fJ
def Ie (f:Expr->DE W) (o:Expr) (m:Str) (es:List Expr):DE W:=match es with
 |[e]=>if bN e=true /\ m="append" then ui (f o) (f e) else az
 |_=>az
theorem Mr (h:∀ e,PD X T Z e (f e)) {m:Str}(es:List Expr) (hb:wj o=true) (hl:(apos.endLine==pos.line)=true):PD X T Z (.Call (.Attribute o m apos) es [] pos) (Ie f o m es):=by
 unfold Ie;split
 ·split
  ·rename_i q;obtain⟨n,rfl⟩:=q;exact Fn (h o) (h _) (jF hb) (YS n) hl (fL n _ _)
  ·exact fJ
 ·exact fJ
end
noncomputable def Ig (on names:List (Str×NameKind)):List (Str×NameKind):=names.map λ(n,k)=>if k==NameKind.free&&on.lookup n==some .cell then (n,NameKind.cell) else (n,k)
noncomputable def yP:Nat->Expr->List Str
 |_,.Name x _=>[x]
 |n+1,.Tuple es _ _=>es.flatMap (yP n)
 |_,_=>[]
def Cf.cN (c:Cf) (tg:Expr) (sc:Scope):List Str:=yP 4 tg++c.N.filter λx=>decide (sc.names.lookup x=some .free)
def Cf.src (c:Cf) (tg:Expr) (sc:Scope):List (Option Nat):=(yP 4 tg).map (λ_=>none)++(c.N.filter λx=>decide (sc.names.lookup x=some .free)).map c.ix
def Cf.inner (c:Cf) (tg:Expr) (sc:Scope):Cf:={ c with N:=c.cN tg sc,nm:=Ig c.nm sc.names,f:=false,bx:=[],rx:=false,tr:=false,ow:=(yP 4 tg).filter λx=>decide (sc.names.lookup x=some .cell) }
def Cf.Ih (c:Cf) (tg:Expr) (sc:Scope):Bool:=Hw c.N { kind:=.function,names:=c.nm,isGenerator:=false,isCoroutine:=false } sc (c.cN tg sc) (c.src tg sc)&&decide (c.cN tg sc).Nodup
section
variable {sc : Scope}
theorem bb.inner (O:bb c k X Z) (h:c.Ih tg sc=true):rn X (c.cN tg sc) (c.src tg sc) sc /\ ∀ cl s H C fp,bb (c.inner tg sc) k (X.comp (c.cN tg sc) sc cl s H C fp) ⟨E0,Z.cl⟩:=by
 unfold Cf.Ih at h;rw[aw,decide_eq_true_eq]at h;have S:rn X (c.cN tg sc) (c.src tg sc) sc:=CA (XN:=c.N) (sc:={ kind:=.function,names:=c.nm,isGenerator:=false,isCoroutine:=false }) (λx=>by unfold Env.kindOf;rw[O.nm]) O.N h.1;refine⟨S,λcl s H C fp=>⟨rfl,?_,S.kind,O.calm,λz=>(by cases z),λx m=>(List.mem_filter.mp m).2,h.2,O.room,O.fs,O.gl,O.bl,A3,O.ti,O.tb,O.tt,O.tl,λ_=>PassesOwn.never,λz=>(by cases z),λz=>(by cases z),O.ob⟩⟩;show (relabel sc X.env).names=Ig c.nm sc.names;unfold relabel Ig Env.kindOf;rw[O.kd,O.nm];simp
end
structure Cm where
 e:Cf->Bool->Bool->Expr->DE W
 t:Cf->Expr->DE Bool
 g:Cf->Expr->DG
 s:Cf->Stmt->af
structure Good (m:Cm):Prop where
 e:∀ {c:Cf}{k:Nat}{X:Cx}{Z:Xs},bb c k X Z->∀ {T:Fr}(bo fz:Bool) (e:Expr),PD X T Z e (m.e c bo fz e)
 t:∀ {c:Cf}{k:Nat}{X:Cx}{Z:Xs},bb c k X Z->∀ {T:Fr}(e:Expr),eB X T Z e (m.t c e)
 g:∀ {c:Cf}{k:Nat}{X:Cx}{Z:Xs},bb c k X Z->∀ {T:Fr}(e:Expr),kR X T e (m.g c e)
 s:∀ {c:Cf}{k:Nat}{X:Cx}{Z:Xs},bb c k X Z->∀ {T:Fr}(st:Stmt),cM X T Z st (m.s c st)
section
variable (m : Cm) (c : Cf)
def cI (tg it:Expr):DE (List W):=match it with
 | .Call (.Name x _) [a] [] _ =>
   if x="range" then (if c.qc "range"&&bN a then cQ (fc (m.e c false false a) fe) else az)
   else bY (m.e c false true it)
 | .Call (.Name x _) [a,b] [] _ =>
   if x="range" then (if c.qc "range"&&bN a&&bN b then ug (fc (m.e c false false a) (fc (m.e c false false b) fe)) else az)
   else if x="zip" then (if c.qc "zip"&&bN a&&bN b then pf (fc (m.e c false false a) (fc (m.e c false false b) fe)) else az)
   else bY (m.e c false true it)
 |_=>bY (m.e c false true it)
def cF (ifs:List Expr):DE Bool:=match ifs with
 |[]=>gz
 |[t]=>m.t c t
 |_=>az
def Ii (bo:Bool) (elt tg it:Expr) (ifs:List Expr) (sc:Scope):DE W :=
 if c.Ih tg sc&&HY it then gu bo (c.src tg sc) (cI m c tg it) (m.g (c.inner tg sc) tg) (cF m (c.inner tg sc) ifs) (m.e (c.inner tg sc) false false elt) else az
def cO (o:Option Expr):DE (Option Int):=match o with
 |none=>sy
 |some e=>rH (m.e c false false e)
def Ij (a:Expr) (op:CmpOp) (b:Expr):DE W:=match wg op with
 |some g=>if behindInMarks op b=false then d2 false g (m.e c false false a) (m.e c false false b) else az
 |none=>az
def Ik (a:Expr) (op eK:CmpOp) (b d:Expr):DE W:=match wg op,wg eK with
 |some g,some g'=>if lastMarks [op,eK] [b,d]=false then d3 g g' (m.e c false false a) (m.e c false false b) (m.e c false false d) else az
 |_,_=>az
def Il (bo:Bool) (a b:Expr):DE W:=match b with
 |.Slice lo hi none _=>rJ bo (m.e c false false a) (cO m c lo) (cO m c hi)
 |.Slice none none (some (.UnaryOp .USub (.Constant (.int i) _ _) _)) _=>if i=1 then xY bo (m.e c false false a) else az
 |b=>if HZ b then (if TV c a then yb (m.e c false false a) (m.e c false false b) else d2 false ax (m.e c false false a) (m.e c false false b)) else az
def Im (v:Const):DE W:=match v with
 |.int i=>dC (.int i)
 |.bool b=>dC (.bl b)
 |.none=>dC .ae
 |.str x=>dC (.str x)
 |_=>az
def Io (op:UnaryOp) (a:Expr):DE W:=match op with
 |.USub=>vN (m.e c false false a)
 |.Not=>xR (m.e c false false a)
 |_=>az
def Ip (op:BoolOp) (es:List Expr):DE W:=match op with
 |.And=>HR (m.e c false false) es
 |.Or=>HS (m.e c false false) es
def Iq (a:Expr) (ops:List CmpOp) (bs:List Expr):DE W:=match ops,bs with
 |[op],[b]=>Ij m c a op b
 |[op,eK],[b,d]=>Ik m c a op eK b d
 |_,_=>az
def Ir (bo:Bool) (f:Expr) (es:List Expr) (ks:List Keyword) (pos:Pos):DE W:=match ks with
 | []=>(match f with
   |.Name x _=>Ib c (m.e c false false) bo x es
   | .Attribute o n apos=>if wj o&&(apos.endLine==pos.line) then (match c.ms.lookup n with
     |some (k,fn)=>Ic c (m.e c false false) o n k fn es
     |none=>Ie (m.e c false false) o n es) else az
   |_=>az)
 |_::_=>az
def Iu (bo:Bool) (elt:Expr) (gs:List Comprehension) (sc:Scope):DE W:=match gs with
 |[⟨tg,it,ifs,0⟩]=>Ii m c bo elt tg it ifs sc
 |_=>az
def TX (o:Expr) (n:Str):DE W:=if wj o=true /\ n∈c.fl then bf c.C (m.e c false false o) n else az
def sE (bo fz:Bool) (e:Expr):DE W:=match e with
 |.Constant v _ _=>Im v
 |.Name x _=>HQ c fz x
 |.Tuple es _ _=>fG (qQ (m.e c false false) es)
 |.List es _=>iE bo (qQ (m.e c false false) es)
 | .BinOp a op b _=>(match TR op with
   |some g=>d2 bo g (m.e c false false a) (m.e c false false b)
   |none=>az)
 |.UnaryOp op a _=>Io m c op a
 |.BoolOp op es _=>Ip m c op es
 |.Compare a ops bs _=>Iq m c a ops bs
 |.Subscript a b _=>Il m c bo a b
 |.Call f es ks pos=>Ir m c bo f es ks pos
 |.ListComp elt gs sc _=>Iu m c bo elt gs sc
 |.Attribute o n _=>TX m c o n
 |_=>az
def sT (e:Expr):DE Bool:=match e with
 |.BoolOp .And es _=>HU (m.t c) es
 |.BoolOp .Or es _=>HV (m.t c) es
 |.UnaryOp .Not a _=>aS (m.t c a)
 | .Compare a [op] [b] _=>(match wg op with
   |some g=>if behindInMarks op b=false then dB (d2 false g (m.e c false false a) (m.e c false false b)) else az
   |none=>az)
 |e=>if plainT e then dB (m.e c false false e) else az
def sG (tg:Expr):DG:=match tg with
 | .Name x _=>(match c.ix x with
   |some i=>if c.yJ x then fg i else sO
   |none=>sO)
 |.Tuple es _ _=>if cT es then iP es.length (yM (m.g c) es) else sO
 |.Subscript o i _=>if HZ i then vQ (m.e c false false o) (m.e c false false i) else sO
 |_=>sO
end
section
variable {m : Cm} (G : Good m) (O : bb c k X Z)
include G O
theorem MR (tg it:Expr):rE X T Z tg it (cI m c tg it):=by
 unfold cI;split
 ·rename_i x p a pos;split
  ·rename_i z;subst z;split
   ·rename_i q;rw[aw]at q;obtain⟨g1,g2,g3,g4⟩:=O.blt q.1;exact Ct g1 g4 (mQ (G.e O _ _ a) lJ q.2) (fL q.2 _ _)
   ·exact Bo
  ·exact A4 (G.e O _ _ _)
 ·rename_i x p a b pos;split
  ·rename_i z;subst z;split
   ·rename_i q;simp only[aw]at q;obtain⟨⟨q,n1⟩,n2⟩:=q;obtain⟨g1,g2,g3,g4⟩:=O.blt q;exact Cu g1 g4 (mQ (G.e O _ _ a) (mQ (G.e O _ _ b) lJ n2) n1) (by rw[fL n1,fL n2];rfl) (fL n2 _ _)
   ·exact Bo
  ·split
   ·rename_i z;subst z;split
    ·rename_i q;simp only[aw]at q;obtain⟨⟨q,n1⟩,n2⟩:=q;obtain⟨g1,g2,g3,g4⟩:=O.blt q;exact LJ g1 g4 (mQ (G.e O _ _ a) (mQ (G.e O _ _ b) lJ n2) n1) (by rw[fL n1,fL n2];rfl) (fL n2 _ _)
    ·exact Bo
   ·exact A4 (G.e O _ _ _)
 ·exact A4 (G.e O _ _ _)
theorem PJ (ifs:List Expr):PF X ifs (rC T Z (cF m c ifs)):=by
 unfold cF;split
 ·exact Lv
 ·exact Lw (G.t O _)
 ·exact λ_ _ _ _ _ _ h=>by obtain⟨_,_,_,_,_,h⟩:=h;exact h.elim
theorem JK (bo:Bool) (elt tg it:Expr) (ifs:List Expr) (sc:Scope) (pos:Pos):PD X T Z (.ListComp elt [⟨tg,it,ifs,0⟩] sc pos) (Ii m c bo elt tg it ifs sc):=by
 unfold Ii;split
 ·rename_i q;rw[aw]at q;obtain⟨S,OO⟩:=O.inner q.1;exact Lu bo O.calm S (MR G O tg it) (λ_ _ _ _ _ _=>G.g (OO _ _ _ _ _) tg) (λ_ _ _ _ _ _=>PJ G (OO _ _ _ _ _) ifs) (λ_ _ _ _ _ _=>G.e (OO _ _ _ _ _) _ _ elt) (λx=>B7 q.2 x)
 ·exact fJ
theorem JL (a:Expr) (op:CmpOp) (b:Expr) (pos:Pos):PD X T Z (.Compare a [op] [b] pos) (Ij m c a op b):=by
 unfold Ij;split
 ·rename_i g e;obtain⟨q,h1,h2⟩:=om O.u0 e;split
  ·rename_i z;exact Nz h1 h2 (G.e O _ _ a) (G.e O _ _ b) z
  ·exact fJ
 ·exact fJ
theorem JM (a:Expr) (op eK:CmpOp) (b d:Expr) (pos:Pos):PD X T Z (.Compare a [op,eK] [b,d] pos) (Ik m c a op eK b d):=by
 unfold Ik;split
 ·rename_i g g' e e';obtain⟨q,h1,h2⟩:=om O.u0 e;obtain⟨q',YT,YU⟩:=om O.u0 e';split
  ·rename_i z;exact Gy h1 YT h2 YU (G.e O _ _ a) (G.e O _ _ b) (G.e O _ _ d) z
  ·exact fJ
 ·exact fJ
theorem MS (o:Option Expr):vM X T Z o (cO m c o):=by
 unfold cO;split
 ·exact NO
 ·exact GJ (G.e O _ _ _)
theorem Ms (bo:Bool) (a b:Expr) (pos:Pos):PD X T Z (.Subscript a b pos) (Il m c bo a b):=by
 unfold Il;split
 ·exact GK bo (G.e O _ _ a) (MS G O _) (MS G O _)
 ·split
  ·rename_i z;subst z;exact NQ bo (G.e O _ _ a)
  ·exact fJ
 ·split
  ·rename_i n;split
   ·exact NZ (G.e O _ _ a) (G.e O _ _ _) (Ad n)
   ·exact O7 Nl Xd (G.e O _ _ a) (G.e O _ _ _) (Ad n)
  ·exact fJ
omit G O in
theorem Mu (v:Const) (k:Nat) (pos:Pos):PD X T Z (.Constant v k pos) (Im v):=by
 unfold Im;split
 ·exact Nv
 ·exact O6
 ·exact Nw
 ·exact Nx
 ·exact fJ
theorem OJ (op:UnaryOp) (a:Expr) (pos:Pos):PD X T Z (.UnaryOp op a pos) (Io m c op a):=by
 unfold Io;split
 ·exact NR (G.e O _ _ _)
 ·exact NC (G.e O _ _ _)
 ·exact fJ
theorem OK (op:BoolOp) (es:List Expr) (pos:Pos):PD X T Z (.BoolOp op es pos) (Ip m c op es):=by
 unfold Ip;split
 ·exact DV (G.e O _ _) _
 ·exact JG (G.e O _ _) _
theorem OL (a:Expr) (ops:List CmpOp) (bs:List Expr) (pos:Pos):PD X T Z (.Compare a ops bs pos) (Iq m c a ops bs):=by
 unfold Iq;split
 ·exact JL G O _ _ _ _
 ·exact JM G O _ _ _ _ _ _
 ·exact fJ
theorem OM (bo:Bool) (f:Expr) (es:List Expr) (ks:List Keyword) (pos:Pos):PD X T Z (.Call f es ks pos) (Ir m c bo f es ks pos):=by
 unfold Ir;split
 ·split
  ·exact JJ O (G.e O _ _) bo _
  ·split
   ·rename_i q;rw[aw]at q;split
    ·rename_i e;exact OI O (G.e O _ _) e _ q.1 q.2
    ·exact Mr (G.e O _ _) _ q.1 q.2
   ·exact fJ
  ·exact fJ
 ·exact fJ
theorem ON (bo:Bool) (elt:Expr) (gs:List Comprehension) (sc:Scope) (pos:Pos):PD X T Z (.ListComp elt gs sc pos) (Iu m c bo elt gs sc):=by
 unfold Iu;split
 ·exact JK G O bo _ _ _ _ _ _
 ·exact fJ
theorem PK (bo fz:Bool) (e:Expr):PD X T Z e (sE m c bo fz e):=by
 unfold sE;split
 ·exact Mu _ _ _
 ·exact JF O fz
 ·exact ND (jZ (G.e O _ _) _)
 ·exact NE bo (jZ (G.e O _ _) _)
 ·split
  ·rename_i g e;obtain⟨q,h1,h2⟩:=Mp (X:=X) e;exact Ny bo h1 h2 (G.e O _ _ _) (G.e O _ _ _)
  ·exact fJ
 ·exact OJ G O _ _ _
 ·exact OK G O _ _ _
 ·exact OL G O _ _ _ _
 ·exact Ms G O bo _ _ _
 ·exact OM G O bo _ _ _ _
 ·exact ON G O bo _ _ _ _
 ·unfold TX;split
  ·rename_i q;exact N8 (O.ob.cls λz=>by rw[z]at q;cases q.2) (O.ob.na _ q.2) (G.e O _ _ _) (jF q.1)
  ·exact fJ
 ·exact fJ
theorem PL (e:Expr):eB X T Z e (sT m c e):=by
 unfold sT;split
 ·exact MI (B6 (G.t O) _)
 ·exact MI (DW (G.t O) _)
 ·exact Ll (G.t O _)
 ·split
  ·rename_i g e;obtain⟨q,h1,h2⟩:=om O.u0 e;split
   ·rename_i z;exact Lh h1 h2 (G.e O _ _ _) (G.e O _ _ _) z
   ·exact oj
  ·exact oj
 ·split
  ·rename_i h;exact Lg (G.e O _ _ _) (λw=>FN h w)
  ·exact oj
theorem PM (tg:Expr):kR X T tg (sG m c tg):=by
 unfold sG;split
 ·split
  ·rename_i i e;split
   ·rename_i h;obtain⟨a,b⟩:=O.lo h;exact GE i O.yL (O.at e) a b
   ·exact lc
  ·exact lc
 ·split
  ·rename_i h;exact Pn O.calm (JH (G.g O) _) h rfl
  ·exact lc
 ·split
  ·rename_i o i pos h;exact LG (Z:=Z) (G.e O _ _ o) (G.e O _ _ i) (λv=>by cases i<;>first|rfl|cases h)
  ·exact lc
 ·exact lc
end
end L2.DL
namespace L2
end L2
namespace L2.DL
open PySem.W
section
variable {st : Stmt} {m : af}
end
section
variable {env : Env} {y : Str} {px py pt nO : Pos} {kt k2 : Nat} {a b : Expr}
theorem Mv (hk:env.blockKind=.function) (hx:env.kindOf x=some .local) (hy:env.kindOf y=some .local) (hl:(px.line==py.line)=true) (qJ:x≠y) (na:bN a=true) (nb:bN b=true)
 (nf:([a,b].all (foldedForSure 8))=false) (nc:([a,b].all (constantsAlone 8))=false) :
 swappedStores [.Tuple [.Name x px,.Name y py] kt pt] (.Tuple [a,b] k2 nO) env=pure (some [x,y]):=by
 have eD:px.line=py.line:=by simpa using hl
 have hd:([x,y]:List Str).eraseDups.length=2:=by
  have:(y==x)=false:=by simpa using Ne.symm qJ
  simp[List.eraseDups_cons,this]
 unfold swappedStores;simp only[hk,hx,hy,eD,zE,List.any_nil,pB,List.filterMap_nil,aX,kF,List.head?_cons,tK,Qj,Expr.pos,nf,nc];simp[eD,hd,pB,hx,hy,nf,nc];rintro(h|h)
 ·cases a<;>first|(cases h;done)|cases na
 ·cases b<;>first|(cases h;done)|cases nb
end
def sQ (f:Stmt->af):List Stmt->af
 |[]=>aT
 |[s]=>f s
 |s::r=>fI (f s) (sQ f r)
theorem lC {X:Cx}{Z:Xs}{T:Fr}{f:Stmt->af}(h:∀ s,cM X T Z s (f s)):∀ b,nX X T Z b (sQ f b)
 |[]=>Ln
 |[s]=>Lo (h s)
 |s::a::r=>GC (h s) (lC h (a::r))
noncomputable def TY:Expr->Expr->Bool
 |.Tuple ..,.Tuple ..|.List ..,.Tuple ..=>false
 |_,_=>true
theorem MT {env:Env}(h:TY tg e=true):swappedStores [tg] e env=pure none:=by
 cases tg with
 |Tuple es n p=>cases e<;>first|rfl|cases h
 |List es p=>cases e<;>first|rfl|cases h
 |_=>rfl
theorem bb.block (O:bb c k X Z):X.env.blockKind=.function:=by unfold Env.blockKind;rw[O.kd];rfl
noncomputable def Cf.nU (c:Cf):Cf:={ c with rx:=true,tr:=false }
theorem bb.nU (O:bb c k X Z) (h:c.tr=true) (pn:List (Addr×Obj)) (E:XK):bb c.nU k (X.nU pn E) ⟨E,Z.cl⟩ :=
 ⟨O.N,O.nm,O.kd,O.calm,O.fn,O.ow,O.nd,O.room,O.fs,O.gl,O.bl,Ax.passes,O.ti,O.tb,O.tt,O.tl,λz=>(by cases z),λ_=>⟨Ax,(O.TM h).1⟩,λz=>(by cases z),O.ob⟩
theorem lD {t:Expr}{l:Nat}{env:Env}(h:sP e=false):swapsWithSole [t] e l env=pure false:=lX (t:=some t) h
section
variable (m : Cm) (c : Cf)
def Iv (x:Str) (e:Expr):af:=match c.ix x with
 |some i=>if c.yJ x&&!sP e then gc (m.e c (c.bx.contains x) false e) (fg i) else dS
 |none=>dS
def TZ (c:Cf) (x y:Str) (px py:Pos) (a b:Expr):Bool:=bN a&&bN b&&decide (x≠y)&&(c.nm.lookup x==some .local&&c.nm.lookup y==some .local)&&(px.line==py.line&&!([a,b].all (foldedForSure 8))&&!([a,b].all (constantsAlone 8)))
def Iw (x y:Str) (px py:Pos) (a b:Expr):af:=match c.ix x,c.ix y with
 |some i,some j=>if TZ c x y px py a b then vK i j (fc (m.e c (c.bx.contains x) false a) (fc (m.e c (c.bx.contains y) false b) fe)) else dS
 |_,_=>dS
def Iy (tg e:Expr):af:=match tg,e with
 |.Name x _,e=>Iv m c x e
 |.Tuple [.Name x px,.Name y py] _ _,.Tuple [a,b] _ _=>Iw m c x y px py a b
 |.Subscript o i p,e=>if sP e then dS else gc (m.e c false false e) (m.g c (.Subscript o i p))
 |.Attribute o n _,e=>if sP e=false /\ n∈c.fl then k6 c.C (m.e c false false o) n (m.e c false false e) else dS
 |tg,e=>if !sP e&&bN tg&&TY tg e then gc (m.e c false false e) (m.g c tg) else dS
def T1 (e:Option Expr):af:=match e with
 | some (.Call (.Name x _) [a] [] _)=>(match v5.findIdx? λy=>decide (y=x) with
   |some i=>if c.rx&&decide (i<17)&&bN a&&c.qP x then kZ i (m.e c false false a) else dS
   |none=>dS)
 |_=>dS
def T2 (body:List Stmt) (hs:List ExceptHandler):af:=match hs with
 | [.ExceptHandler (some (.Name r _)) (some n) [.Return (some (.Call (.Name w _) [.Name n' _] [] _)) _] _]=>(match c.ix n with
   |some i=>if c.tr&&decide (r="RimeError")&&decide (w="_law_word")&&decide (n=n')&&c.qP "RimeError"&&c.qP "_law_word"&&c.yI n&&decide (c.nm.lookup n=some .local) then qM (sQ (m.s c.nU) body) else dS
   |none=>dS)
 |_=>dS
def sS (st:Stmt):af:=match st with
 |.Assign [tg] e _=>Iy m c tg e
 |.Return (some e) _=>fY (m.e c c.rb (!c.rb) e)
 |.Expr e _=>if sP e then dS else ij (m.e c false false e)
 |.If t a b _=>aM (m.t c t) (sQ (m.s c) a) (sQ (m.s c) b)
 |.For tg it body [] _=>if HY it&&!c.rx then jg (cI m c tg it) (m.g c tg) (sQ (m.s c) body) else dS
 |.Raise e none _=>T1 m c e
 |.Try body hs [] [] _=>T2 m c body hs
 |_=>dS
end
section
variable {m : Cm} (G : Good m) (O : bb c k X Z)
include G O
theorem Mw (x:Str) (e:Expr) (tp pos:Pos):cM X T Z (.Assign [.Name x tp] e pos) (Iv m c x e):=by
 unfold Iv;split
 ·rename_i i hi;split
  ·rename_i q;rw[aw,eA]at q;obtain⟨l1,l2⟩:=O.lo q.1;exact Lr i (G.e O _ _ _) O.yL (O.at hi) l1 (lX q.2) l2
  ·exact gj
 ·exact gj
theorem Mx (x y:Str) (a b:Expr) (px py pt nO pos:Pos) (kt k2:Nat):cM X T Z (.Assign [.Tuple [.Name x px,.Name y py] kt pt] (.Tuple [a,b] k2 nO) pos) (Iw m c x y px py a b):=by
 unfold Iw;split
 ·rename_i i j hi hj;split
  ·rename_i q;unfold TZ at q;simp only[aw,decide_eq_true_eq,eA,beq_iff_eq]at q;obtain⟨⟨⟨⟨na,nb⟩,qJ⟩,h1,h2⟩,⟨q1,q2⟩,q3⟩:=q;have kx:X.env.kindOf x=c.nm.lookup x:=by unfold Env.kindOf;rw[O.nm]
   have ky:X.env.kindOf y=c.nm.lookup y:=by unfold Env.kindOf;rw[O.nm]
   refine LS i j O.calm O.yL (mQ (G.e O _ _ a) (mQ (G.e O _ _ b) lJ nb) na) (O.at hi) (O.at hj) (λz=>?_) (by rw[O.nm];exact h1) (by rw[O.nm];exact h2) (Mv O.block (kx.trans h1) (ky.trans h2) (by simpa using q1) qJ na nb q2 q3) (lD rfl);subst z;exact qJ (Option.some.inj ((c.HP hi).symm.trans (c.HP hj)))
  ·exact gj
 ·exact gj
theorem Mz (tg e:Expr) (pos:Pos):cM X T Z (.Assign [tg] e pos) (Iy m c tg e):=by
 unfold Iy;split
 ·exact Mw G O _ _ _ _
 ·exact Mx G O _ _ _ _ _ _ _ _ _ _ _
 ·split
  ·exact gj
  ·rename_i h;exact Dd (G.e O _ _ _) (G.g O _) (lD (by simpa using h)) (MT rfl) rfl
 ·split
  ·rename_i q;exact LT (O.ob.cls λz=>by rw[z]at q;cases q.2) (O.ob.na _ q.2) (G.e O _ _ _) (G.e O _ _ _) (lX q.1)
  ·exact gj
 ·split
  ·rename_i q;simp only[aw,eA]at q;exact Dd (G.e O _ _ _) (G.g O _) (lD q.1.1) (MT q.2) (by rw[jT q.1.2];rfl)
  ·exact gj
theorem PN (st:Stmt):cM X T Z st (sS m c st):=by
 unfold sS;split
 ·exact Mz G O _ _ _
 ·exact Lp (G.e O _ _ _)
 ·split
  ·exact gj
  ·rename_i h;exact GD (G.e O _ _ _) (lX (by simpa using h))
 ·exact NG (G.t O _) (lC (G.s O) _) (lC (G.s O) _)
 ·split
  ·rename_i h;rw[aw,eA]at h;exact Ls (O.own h.2) O.calm (MR G O _ _) (G.g O _) (lC (G.s O) _) (λx=>B7 h.1 x)
  ·exact gj
 ·unfold T1;split
  ·split
   ·rename_i i hi;split
    ·rename_i q;simp only[aw,decide_eq_true_eq]at q;obtain⟨⟨⟨q1,q2⟩,q3⟩,q4⟩:=q;obtain⟨l,R,E⟩:=O.YR q1;obtain⟨g1,g2,_⟩:=O.gb q4;obtain⟨h1,h2,_⟩:=List.findIdx?_eq_some_iff_getElem.mp hi;refine FA i E O.calm l g1 (by rw[eY h1,of_decide_eq_true h2]) (G.e O _ _ _) q2 ?_ g2;simp[cT,q3]
    ·exact gj
   ·exact gj
  ·exact gj
 ·unfold T2;split
  ·split
   ·rename_i i hi;split
    ·rename_i q;simp only[aw,decide_eq_true_eq]at q;obtain⟨⟨⟨⟨⟨⟨⟨q1,rfl⟩,rfl⟩,rfl⟩,q5⟩,q6⟩,q7⟩,q8⟩:=q;obtain⟨⟨R,E⟩,W,hk,nu,di⟩:=O.TM q1;obtain⟨v1,v2,v3⟩:=O.TQ q7;exact LR i E W O.room hk nu di rfl (O.gb q5).1 (O.gb q6).1 O.yL (O.at hi) (by unfold Env.kindOf;rw[O.nm];exact q8) (λpn E=>lC (G.s (O.nU q1 pn E)) _) v1 v2 v3
    ·exact gj
   ·exact gj
  ·exact gj
 ·exact gj
end
def YV (m:Cm):Cm:=⟨λc bo fz e=>sE m c bo fz e,λc e=>sT m c e,λc e=>sG m c e,λc st=>sS m c st⟩
def cm:Nat->Cm
 |0=>⟨λ_ _ _ _=>az,λ_ _=>az,λ_ _=>sO,λ_ _=>dS⟩
 |n+1=>YV (cm n)
theorem jG:∀ n,Good (cm n)
 |0=>⟨λ_ _ _ _ _=>fJ,λ_ _ _=>oj,λ_ _ _=>lc,λ_ _ _=>gj⟩
 |n+1=>⟨λO _ bo fz e=>PK (jG n) O bo fz e,λO _ e=>PL (jG n) O e,λO _ e=>PM (jG n) O e,λO _ st=>PN (jG n) O st⟩
structure FI where
 x:Str
 ps:List Str
 N:List Str
 bx:List Str
 dc:List Str
 wk:List (Str×Nat)
 fl:Nat   -- 1: its list is a box as it is returned,2: may raise,4: has a try,8: calls itself,16: a method,32: __init__
 st:Stmt
 fn:List W->List Bx->O W
structure Tx where
 yF:Str
 gl:List (Str×Int)
 bl:List Str
 C:Addr
 fl:List Str
 cn:Str
 cf:Str
noncomputable abbrev Fs:=List (Str×(Nat×(List W->List Bx->O W)))
abbrev Mc:=Option (Str×(Str×af))
noncomputable def FI.b (f:FI) (i:Nat):Bool:=f.fl / i % 2==1
def uI (r:List FI):Fs:=(r.filter λg=>!(g.b 16||g.b 32)).map λg=>(g.x,(g.ps.length,g.fn))
def uJ (r:List FI):Fs:=(r.filter λg=>g.b 16&&!g.b 32).map λg=>(g.x,(g.ps.length,g.fn))
def FI.cf (t:Tx) (fs ms:Fs) (mc:Mc) (f:FI):Cf :=
 { N:=f.N,nm:=(fA f.st).names,f:=true,bx:=f.bx,dc:=f.dc,wk:=f.wk,yF:=t.yF,fs:=fs,gl:=t.gl,bl:=t.bl,rb:=f.b 1,rx:=f.b 2,tr:=f.b 4,ow:=[],C:=t.C,fl:=t.fl,ms:=ms,mc:=mc }
def FI.body (t:Tx) (fs ms:Fs) (mc:Mc) (f:FI):List W->List Bx->O W :=
 let m:=sQ ((cm 40).s (f.cf t fs ms mc)) (fV f.st)
 aD f.N.length (if f.b 2 then m else aK m)
def Iz (t:Tx) (r:List FI) (f:FI):af:=wb ((cm 40).s (f.cf t (uI r) (uJ r) none)) (fV f.st).dropLast
def wm (t:Tx):List FI->Mc
 |[]=>none
 |f::r=>if f.b 32 then some (t.cn,(t.cf,Iz t r f)) else wm t r
def FI.ok (f:FI):Bool:=decide ((fA f.st).kind=.function)&&!(fA f.st).isCoroutine&&!(fA f.st).isGenerator&&decide f.N.Nodup&&decide (f.N.take f.ps.length=f.ps) &&
 f.ps.all (λx=>decide ((fA f.st).names.lookup x=some .local)||decide ((fA f.st).names.lookup x=some .cell))&&(fA f.st).names.all λy=>decide (y.2≠.free)
theorem FI.scope {f:FI}(h:f.ok=true):nR f.N f.ps (fA f.st):=by
 simp only[FI.ok,aw,decide_eq_true_eq,bX,uX,eA]at h;obtain⟨⟨⟨⟨⟨⟨h1,h2⟩,h3⟩,h4⟩,h5⟩,h6⟩,h7⟩:=h;exact⟨h1,h2,h3,h4,h5,h6,λy m=>h7 y m⟩
def FI.Is (t:Tx) (r:List FI) (f:FI):Prop :=
 (f.b 8=false /\ f.fn=f.body t (uI r) (uJ r) (wm t r)) \/
 (f.b 8=true /\ (f.b 16||f.b 32)=false /\ ∃ g:Nat->List W->List Bx->O W,(g 0=λ_ _=>.bad) /\ (∀ i,g (i+1)=f.body t ((f.x,(f.ps.length,g i))::uI r) (uJ r) (wm t r)) /\ f.fn=g 12) \/ f.b 32=true
noncomputable def IC (t:Tx):List FI->Prop
 |[]=>True
 |f::r=>f.Is t r /\ IC t r
def dt:List FI->Nat
 |[]=>0
 |f::r=>dt r+(if f.b 8 then 13 else 2)
def yQ (t:Tx) (f:FI):Bool:=match (fV f.st).getLast? with
 |some (.Assign [.Attribute (.Name s _) n _] (.List [] _) _)=>decide (n=t.cf)&&decide (n∈t.fl)&&decide (f.N[0]?=some s)&&(decide ((fA f.st).names.lookup s=some .local))&&!(s==("__debug__":Str))&&!(s==("__classdict__":Str))&&decide (f.ps.length=2)&&decide (f.N.length=2)&&decide (f.x="__init__")
 |_=>false
structure yR (P:Program) (w:World) (K:PySem.W.Frag) (mg:Str->Option Value) (base:Heap) (cl:Nat->Addr) (t:Tx) (ex tr:Bool):Prop where
 gl:∀ x v,t.gl.lookup x=some v->∃ u,mg x=some (.int v u)
 bl:∀ x,x∈t.bl->mg x=none
 ti:kU K "int"
 tb:kU K "bool"
 tt:kU K "tuple"
 tl:kU K "list"
 ext:ex=true->∃ R,en K mg R cl
 hw:tr=true->v9 P w K mg base cl
 na:∀ f,f∈t.fl->nQ K t.C f
 cls:t.fl≠[]->dI K t.C /\ mg t.cn=some (.ref t.C) /\ makesIn K t.C=true /\ keepIn K (.ref t.C)=true
def YW (K:PySem.W.Frag) (C:Addr) (x:Str) (st:Stmt) (ps:List Str):Prop:=∃ (f:Addr) (fd:FuncData) (q:Str),cC K x q st f fd /\ Meth K C x f /\ Binds K fd ps []
def rS (K:PySem.W.Frag) (mg:Str->Option Value) (C:Addr) (f:FI):Prop:=if (f.b 16||f.b 32)=true then YW K C f.x f.st f.ps else Def K mg f.x f.st f.ps
theorem Bp {t:Tx}{ex tr:Bool}(B:yR P w K mg base cl t ex tr) {f:FI}{q:Str}{fa:Addr}(d:cC K f.x q f.st fa fd) (ho:f.ok=true) (hex:f.b 2=true \/ f.b 4=true->ex=true) (wo:f.b 4=true->tr=true) (qA:f.b 2=true->f.b 4=false) (hk:f.b 4=true->1<=k)
 {fs ms:Fs}{mc:Mc}(F:∀ x n fn,fs.lookup x=some (n,fn)->∃ kk ps,kX P w K mg base cl kk x ps fn /\ ps.length=n /\ kk<=k) (B2:yG P w K mg base cl t.C t.fl ms mc k):bA P w K mg base (bK P w) (k+1) fa fd f.ps (kQ cl f.ps.length (f.body t fs ms mc)):=by
 have S:=FI.scope ho;unfold FI.body;cases h2:f.b 2 with
 | false =>
   refine Pd (k:=k) d S (λcdv A outer s H E n F0 hr=>lC ((jG 40).s (k:=k) ?_) _);exact⟨rfl,rfl,S.kind,rfl,λ_ _=>rfl,(λx m=>nomatch m),S.nd,hr,F,B.gl,B.bl,A3,B.ti,B.tb,B.tt,B.tl,λ_=>PassesOwn.never,λz=>absurd (h2.symm.trans z) (by decide),λz=>⟨B.ext (hex (.inr z)),B.hw (wo z),hk z,rfl,rfl⟩,B2⟩
 | true =>
   refine P0 (k:=k) d S (λcdv A outer s H E n F0 hr=>lC ((jG 40).s (k:=k) ?_) _);exact⟨rfl,rfl,S.kind,rfl,λ_ _=>rfl,(λx m=>nomatch m),S.nd,hr,F,B.gl,B.bl,By.passes,B.ti,B.tb,B.tt,B.tl,λz=>absurd (h2.symm.trans z) (by decide),λ_=>⟨By,B.ext (hex (.inl h2))⟩,λz=>absurd ((qA h2).symm.trans z) (by decide),B2⟩
theorem JN {t:Tx}{ex tr:Bool}(B:yR P w K mg base cl t ex tr) {f:FI}{q:Str}{fa:Addr}(d:cC K f.x q f.st fa fd) (ho:f.ok=true) (hi:yQ t f=true) (h2:f.b 2=false) (h4:f.b 4=false) {r:List FI}
 (F:∀ x n fn,(uI r).lookup x=some (n,fn)->∃ kk ps,kX P w K mg base cl kk x ps fn /\ ps.length=n /\ kk<=k) (B2:yG P w K mg base cl t.C t.fl (uJ r) none k):bA P w K mg base (bK P w) (k+1) fa fd f.ps (yt t.C t.cf (Iz t r f)):=by
 have S:=FI.scope ho;unfold yQ at hi;split at hi
 case h_2=>cases hi
 rename_i s p1 n p2 p3 p4 el;simp only[aw,decide_eq_true_eq,eA]at hi;obtain⟨⟨⟨⟨⟨⟨⟨⟨rfl,i1⟩,i2⟩,i3⟩,i4⟩,i5⟩,i6⟩,i7⟩,_⟩:=hi;have sL:fV f.st=(fV f.st).dropLast++[.Assign [.Attribute (.Name s p1) t.cf p2] (.List [] p3) p4]:=by
  obtain⟨b,e⟩:=List.getLast?_eq_some_iff.mp el;rw[e];simp
 unfold Iz;refine LV (cl:=cl) (k:=k) d S i6 i7 (B2.cls λz=>by rw[z]at i1;cases i1) (B2.na _ i1) sL i2 (Or.inl i3) i4 i5 (λcdv A outer s H E T hr=>(jG 40).s (k:=k) ?_);exact⟨rfl,rfl,S.kind,rfl,λ_ _=>rfl,(λx m=>nomatch m),S.nd,hr,F,B.gl,B.bl,A3,B.ti,B.tb,B.tt,B.tl,λ_=>PassesOwn.never,λz=>absurd (h2.symm.trans z) (by decide),λz=>absurd (h4.symm.trans z) (by decide),B2⟩
def ID (t:Tx) (ex tr:Bool) (r:List FI) (f:FI):Bool:=f.ok&&(!(f.b 2||f.b 4)||ex)&&(!f.b 4||tr)&&!(f.b 2&&f.b 4)&&(!f.b 4||decide (1<=dt r))&&(!f.b 32||(yQ t f&&!f.b 2&&!f.b 4))
def yS (t:Tx) (ex tr:Bool):List FI->Bool
 |[]=>true
 |f::r=>ID t ex tr r f&&yS t ex tr r
def rT (P:Program) (w:World) (K:PySem.W.Frag) (mg:Str->Option Value) (base:Heap) (cl:Nat->Addr) (C:Addr) (k:Nat) (f:FI):Prop :=
 if f.b 32=true then True else if f.b 16=true then wa P w K mg base cl C k f.x f.ps f.fn else kX P w K mg base cl k f.x f.ps f.fn
theorem DY {t:Tx}{ex tr:Bool}(B:yR P w K mg base cl t ex tr):∀ (l:List FI),IC t l->yS t ex tr l=true->(∀ f∈l,rS K mg t.C f)->(∀ f∈l,∃ kk,rT P w K mg base cl t.C kk f /\ kk<=dt l) /\ yG P w K mg base cl t.C t.fl (uJ l) (wm t l) (dt l)
 |[],_,_,_=>⟨(λf m=>nomatch m),λz=>(B.cls z).1,B.na,(λx n fn e=>nomatch e),(λx f m e=>nomatch e)⟩
 | f::r,A,C,D=>by
   obtain⟨A1,A2⟩:=A;have C':(ID t ex tr r f&&yS t ex tr r)=true:=C;rw[aw]at C';obtain⟨ih,B2⟩:=DY B r A2 C'.2 λg m=>D g (aV _ m);have F:∀ x n fn,(uI r).lookup x=some (n,fn)->∃ kk ps,kX P w K mg base cl kk x ps fn /\ ps.length=n /\ kk<=dt r:=λx n fn e=>by
    refine iz (P:=λx (p:Nat×(List W->List Bx->O W))=>∃ kk ps,kX P w K mg base cl kk x ps p.2 /\ ps.length=p.1 /\ kk<=dt r) (l:=uI r) (λp m=>?_) e;obtain⟨g,sR,rfl⟩:=List.mem_map.mp m;obtain⟨sR,nb⟩:=List.mem_filter.mp sR;obtain⟨kk,h1,h2⟩:=ih g sR;simp only[eA,wD]at nb;unfold rT at h1;rw[if_neg (by rw[nb.2];decide),if_neg (by rw[nb.1];decide)]at h1;exact⟨kk,g.ps,h1,rfl,h2⟩
   have c1:=C'.1;simp only[ID,aw,uX,eA,wD,Bool.and_eq_false_iff,decide_eq_true_eq]at c1;obtain⟨⟨⟨⟨⟨o1,o2⟩,o3⟩,o4⟩,o5⟩,o6⟩:=c1;have hex:f.b 2=true \/ f.b 4=true->ex=true:=λz=>by
    rcases o2 with⟨a,b⟩|a
    ·rcases z with z|z
     ·rw[a]at z;cases z
     ·rw[b]at z;cases z
    ·exact a
   have wo:f.b 4=true->tr=true:=λz=>by
    rcases o3 with a|a
    ·rw[a]at z;cases z
    ·exact a
   have qA:f.b 2=true->f.b 4=false:=λz=>by
    rcases o4 with a|a
    ·rw[a]at z;cases z
    ·exact a
   have hk:f.b 4=true->1<=dt r:=λz=>by
    rcases o5 with a|a
    ·rw[a]at z;cases z
    ·exact a
   have df:=D f (a8 ..);have aa6:dt r+2<=dt (f::r):=by
    show _<=dt r+(if f.b 8 then 13 else 2);split<;>omega
   have main:∃ kk,rT P w K mg base cl t.C kk f /\ kk<=dt (f::r):=by
    unfold rT;by_cases qd:f.b 32=true
    ·exact⟨0,by rw[if_pos qd];trivial,k8 _⟩
    simp only[if_neg qd];rw[Bool.not_eq_true]at qd;rcases A1 with⟨a1,a2⟩|⟨a1,a0,q,a2,a3,a4⟩|a1
    ·refine⟨dt r+1,?_,by omega⟩;unfold rS at df;rw[qd,KU]at df;by_cases yT:f.b 16=true
     ·rw[if_pos yT]at df ⊢;obtain⟨fa,fd,q,Fu,hm,hb⟩:=df;exact⟨fa,fd,a2▸Bp B Fu o1 hex wo qA hk F B2,hm,hb⟩
     ·rw[if_neg yT]at df ⊢;obtain⟨fa,fd,Fu,hm,hb⟩:=df;exact⟨fa,fd,a2▸Bp B Fu o1 hex wo qA hk F B2,hm,Fu.kp,hb,Fu.obj⟩
    ·have yT:f.b 16=false:=by
      rw[wD]at a0;exact a0.1
     unfold rS at df;rw[a0,if_neg (by decide)]at df;simp only[if_neg (show ¬ f.b 16=true by rw[yT];decide)];have hg:∀ i,kX P w K mg base cl (dt r+i+1) f.x f.ps (q i):=λi=>by
      induction i with
      |zero=>rw[a2];exact LL df
      | succ i hi =>
        rw[a3];obtain⟨fa,fd,Fu,hm,hb⟩:=df;refine⟨fa,fd,Bp (k:=dt r+(i+1)) B Fu o1 hex wo qA (λz=>by omega) (λx n fn e=>?_) ⟨B2.cls,B2.na,λx n fn e=>?_,λx f m e=>?_⟩,hm,Fu.kp,hb,Fu.obj⟩
        ·rw[cV]at e;cases hx:x==f.x with
         | true =>
           rw[hx]at e;cases e;have:x=f.x:=by simpa using hx
           subst this;exact⟨_,_,hi,rfl,by omega⟩
         | false =>
           rw[hx]at e;obtain⟨kk,ps,h1,h2,h3⟩:=F x n fn e;exact⟨kk,ps,h1,h2,by omega⟩
        ·obtain⟨kk,ps,h1,h2,h3⟩:=B2.ms x n fn e;exact⟨kk,ps,h1,h2,by omega⟩
        ·obtain⟨y,g,fd,ps,kk,M,G,b,h3⟩:=B2.mc x f m e;exact⟨y,g,fd,ps,kk,M,G,b,by omega⟩
     refine⟨dt r+12+1,a4▸hg 12,?_⟩;show _<=dt r+(if f.b 8 then 13 else 2);rw[a1,if_pos rfl];omega
    ·rw[a1]at qd;cases qd
   refine⟨λg m=>?_,B2.cls,B2.na,λx n fn e=>?_,λx fl m e=>?_⟩
   ·rcases aY.mp m with rfl|m
    ·exact main
    ·obtain⟨kk,h1,h2⟩:=ih g m;exact⟨kk,h1,by omega⟩
   ·refine iz (P:=λx (p:Nat×(List W->List Bx->O W))=>∃ kk ps,wa P w K mg base cl t.C kk x ps p.2 /\ ps.length=p.1 /\ kk<=dt (f::r)) (l:=uJ (f::r)) (λp m=>?_) e;obtain⟨g,sR,rfl⟩:=List.mem_map.mp m;obtain⟨sR,nb⟩:=List.mem_filter.mp sR;rw[aw,eA]at nb;have key:∃ kk,rT P w K mg base cl t.C kk g /\ kk<=dt (f::r):=by
     rcases aY.mp sR with rfl|mm
     ·exact main
     ·obtain⟨kk,h1,h2⟩:=ih g mm;exact⟨kk,h1,by omega⟩
    obtain⟨kk,h1,h2⟩:=key;unfold rT at h1;rw[nb.2,if_neg (by decide),if_pos nb.1]at h1;exact⟨kk,g.ps,h1,rfl,h2⟩
   ·unfold wm at e;split at e
    ·rename_i qd;cases e;rcases o6 with a|⟨⟨i1,i2⟩,i3⟩
     ·rw[a]at qd;cases qd
     have uK:=i1;unfold yQ at uK;split at uK
     case h_2=>cases uK
     rename_i s p1 n p2 p3 p4 el;simp only[aw,decide_eq_true_eq]at uK;have YX:t.fl≠[]:=λz=>by have:=uK.1.1.1.1.1.1.1.2;rw[z]at this;cases this
     obtain⟨cc,mm,YY,YZ⟩:=B.cls YX;unfold rS at df;rw[qd,KW,if_pos rfl]at df;obtain⟨fa,fd,q,Fu,hm,hb⟩:=df;refine⟨mm,fa,fd,f.ps,dt r+1,⟨YY,uK.2▸hm.at_,hm.fn,YZ⟩,JN B Fu o1 i1 i2 i3 F ⟨B2.cls,B2.na,B2.ms,λx f m e=>nomatch e⟩,hb,by omega⟩
    ·obtain⟨y,g,fd,ps,kk,M,G,b,h3⟩:=B2.mc x fl m e;exact⟨y,g,fd,ps,kk,M,G,b,by omega⟩
noncomputable def T3 (o:Obj):Bool:=match o.cls with|.type n=>n == "list"|_=>false
def yU (K:PySem.W.Frag):Bool:=K.all λp=>!T3 p.2
theorem FO (h:yU K=true) {o:Obj}(e:K.lookup a=some o):o.cls≠.type "list":=by
 intro c;unfold yU at h;rw[bX]at h;have m:(a,o)∈K:=by
  clear h;induction K with
  |nil=>cases e
  | cons p K ih =>
    rw[cV]at e;cases q:a==p.1 with
    | true =>
      rw[q]at e;cases e;have:a=p.1:=by simpa using q
      subst this;exact a8 ..
    | false =>
      rw[q]at e;exact aV _ (ih e)
 have:=h _ m;simp[T3,c]at this
theorem R9 (nl:yU K=true) (hO:ET H) (hS:aQ K H a (ns.map V.int)) (hf:∃ bx',fn [.s ns] []=.val (.d (.bl true)) bx') :
 kQ cl 1 fn [.ref a] H (λv _=>v=.bl true) λ_ _ _=>False:=by
 rcases hS with hS|⟨o,its,n,e1,e2,_⟩
 ·rcases hS with hS|⟨o,hS⟩
  ·rcases hO a with z|⟨o,xs,z⟩
   ·rw[hS]at z;cases z
   ·rw[hS]at z;cases z
  ·obtain⟨bx',hf⟩:=hf;refine⟨H,[],[.s ns],[],⟨Sub.refl H,λi w e=>by simp at e,rfl,.nil,λn c a e=>by simp at e,λa u e _=>e,λn a _ e=>by simp at e,ag _,ag _,λa u e=>.inr (.inl e)⟩,⟨.ref a,[],rfl,⟨a,o,rfl,hS⟩,rfl⟩,rfl,?_⟩;rw[hf];intro F' r' v H' _ _ d;exact d
 ·exact absurd e2 (FO nl e1)
noncomputable def tys:List String:=["NoneType", "bool", "int", "str", "tuple", "list", "dict"]
def yV (K:PySem.W.Frag):Bool:=tys.all λS=>["int", "bool", "tuple", "list"].all λT=>PySem.W.kitOne K (.type S) (.type T)==some (rG S T)
theorem Bq (h:yV K=true) {T:String}(m:T∈["int", "bool", "tuple", "list"]):kU K T:=by
 intro d;unfold yV at h;rw[bX]at h;have m1:nY d∈tys:=by cases d<;>simp[nY,tys]
 have z:=h _ m1;rw[bX]at z;exact beq_iff_eq.mp (z _ m)
theorem OP {h:Heap}{st:Stmt}{ps:List Str}{oc:Value}{od an:Option Addr}{kV doc pm cdv ct:Value}(X:K.In h) (G:h.Ns mainGlobals mg)
 (a:PySem.W.nsIn K mainGlobals x=some (some (.ref f))) (l:K.lookup f=some ⟨oc,od,.func (PySem.W.fnOf x x (gU st) (fV st) (fA st) .none kV doc pm an cdv ct),kz⟩)
 (c:PySem.W.codeIn K cdv x=true) (k:PySem.W.keepIn K (.ref f)=true) (hb:∀ fd,cC K x x st f fd->Binds K fd ps []):Def K mg x st ps :=
 ⟨f,_,AW l c k,QG X G a,hb _ (AW l c k)⟩
theorem OQ {l:PySem.W.OpenLaw}{fa:Addr}{st:Stmt}(cl:Nat->Addr) (uL:mg "law"=some (.ref fa)) (D:Def K mg "law" st ["_law_script"])
 (hB:∀ (fd:FuncData) (f:Addr),cC K "law" "law" st f fd->∀ (s:Shared) (u:Value),BindsTo s fd ⟨[u],[]⟩ [("_law_script",u)])
 (H:∀ base:Heap,K.In base->base.Ns mainGlobals mg->kX l.prog w K mg base cl k "law" ["_law_script"] fn) :
 ∃ (cl:Nat->Addr) (fd:FuncData),(∀ (s:Shared) (u:Value),BindsTo s fd ⟨[u],[]⟩ [("_law_script",u)]) /\ ∀ base:Heap,K.In base->base.Ns mainGlobals mg->bA l.prog w K mg base (bK l.prog w) k fa fd ["_law_script"] (kQ cl 1 fn):=by
 obtain⟨f,fd,F,hm,_⟩:=D;rw[uL]at hm;cases hm;refine⟨cl,fd,hB fd fa F,λbase hK hN=>?_⟩;obtain⟨f',aa7,ok,xK,_,_,o,hl,hd⟩:=H base hK hN;rw[uL]at xK;cases xK;obtain⟨o2,pO,hd2⟩:=F.obj;rw[hl]at pO;cases pO;rw[hd]at hd2;cases hd2;exact ok
open PySem.W in
def yW (K:Frag) (R C:Addr):Bool:=excIn K C E2 "ValueError.__new__"&&(findIn K (.ref C) "__getattribute__"==some (some (.builtin "BaseException.__getattribute__")))&&(findIn K (.ref C) "__getattr__"==some none) &&
 (findIn K (.ref C) "__class__"==some (some (.builtin "object.__class__")))&&(mroIn K C (.type "object")==some true)&&(mroIn K C (.type "BaseException")==some true)&&(clsIn K C).isSome&&(kitOne K (.ref C) (.type "ValueError")==some true)&&(kitCls K (.ref C) (.ref R)==some true)
open PySem.W in
noncomputable def IE (K:Frag) (cs:List Addr):Bool:=(List.range 17).all λi=>(List.range 17).all λj=>kitOne K (.ref (cs.getD i 0)) (.ref (cs.getD j 0))==some (decide (i=j))
open PySem.W in
noncomputable def IF (K:Frag) (R:Addr):Bool:=(mroIn K R (.type "BaseException")==some true)&&(specialIn K (.builtin "object.__class__") "__get__"==some (some (.builtin "getset_descriptor.__get__")))&&(takesIn K (.builtin "object.__class__")==some true)
theorem JO {l:List Addr}(h:i<l.length):l.getD i 0∈l:=by
 rw[List.getD,eY h];exact wM h
open PySem.W in
theorem OR {h:Heap}{R:Addr}{cs:List Addr}(X:K.In h) (G:h.Ns mainGlobals mg) (hl:cs.length=17) (eR:nsIn K mainGlobals "RimeError"=some (some (.ref R)))
 (e:∀ i x,v5[i]?=some x->nsIn K mainGlobals x=some (some (.ref (cs.getD i 0)))) (zi:nsIn K mainGlobals "isinstance"=some none) (zv:nsIn K mainGlobals "ValueError"=some none)
 (h1:cs.all (yW K R)=true) (h2:IE K cs=true) (h3:IF K R=true):en K mg R (λi=>cs.getD i 0):=by
 unfold IF at h3;simp only[aw,beq_iff_eq]at h3;obtain⟨⟨q1,q3⟩,q4⟩:=h3;have hc:∀ i,i<17->yW K R (cs.getD i 0)=true:=λi hi=>by
  rw[bX]at h1;exact h1 _ (JO (by rw[hl];exact hi))
 simp only[yW,aw,beq_iff_eq]at hc;refine⟨λi x hx=>mg_of X G (e i x hx),mg_of X G eR,z9 X G zi,z9 X G zv,λi hi=>(hc i hi).1.1.1.1.1.1.1.1,λi hi=>?_,λi j hi hj=>?_,λi hi=>(hc i hi).1.2,λi hi=>(hc i hi).2,q1⟩
 ·obtain⟨⟨⟨⟨⟨⟨⟨⟨_,y2⟩,y3⟩,y4⟩,y5⟩,y6⟩,y7⟩,_⟩,_⟩:=hc i hi;exact⟨y2,y3,y4,q3,q4,y5,y6,y7⟩
 ·unfold IE at h2;rw[bX]at h2;have z:=h2 i (List.mem_range.mpr hi);rw[bX]at z;exact beq_iff_eq.mp (z j (List.mem_range.mpr hj))
noncomputable def yX (K:Frag) (bl:List Str):Bool:=bl.all λx=>match nsIn K mainGlobals x with|some none=>true|_=>false
noncomputable def yY (K:Frag) (gl:List (Str×Int)):Bool:=gl.all λp=>match nsIn K mainGlobals p.1 with|some (some (.int v _))=>v==p.2|_=>false
theorem CU {h:Heap}{bl:List Str}(X:K.In h) (G:h.Ns mainGlobals mg) (c:yX K bl=true):∀ x,x∈bl->mg x=none:=λx m=>by
 unfold yX at c;rw[bX]at c;have z:=c x m;split at z
 ·next e=>exact z9 X G e
 ·cases z
theorem JP {h:Heap}{gl:List (Str×Int)}(X:K.In h) (G:h.Ns mainGlobals mg) (c:yY K gl=true):∀ x v,gl.lookup x=some v->∃ u,mg x=some (.int v u):=λx v e=>by
 unfold yY at c;rw[bX]at c;refine iz (P:=λx (v:Int)=>∃ u,mg x=some (.int v u)) (l:=gl) (λp m=>?_) e;have z:=c p m;split at z
 ·next v u e =>
  have:v=p.2:=by simpa using z
  subst this;exact⟨u,mg_of X G e⟩
 ·cases z
theorem PP {h:Heap}{t:Tx}{ex tr:Bool}(X:K.In h) (G:h.Ns mainGlobals mg) (z:yX K t.bl=true) (g:yY K t.gl=true) (y:yV K=true)
 (e:ex=true->∃ R,en K mg R cl) (hw:tr=true->v9 P w K mg base cl) (na:(t.fl.all λf=>findIn K (.ref t.C) f==some none)=true) (c:t.fl≠[]->dI K t.C /\ nsIn K mainGlobals t.cn=some (some (.ref t.C)) /\ makesIn K t.C=true /\ keepIn K (.ref t.C)=true):yR P w K mg base cl t ex tr :=
 ⟨JP X G g,CU X G z,Bq y (by simp),Bq y (by simp),Bq y (by simp),Bq y (by simp),e,hw,λf m=>beq_iff_eq.mp (bX.mp na f m),λz=>⟨(c z).1,mg_of X G (c z).2.1,(c z).2.2⟩⟩
theorem MA {l:PySem.W.OpenLaw}{fa:Addr}{st:Stmt}(cl:Nat->Addr) (uL:mg "law"=some (.ref fa)) (D:Def K mg "law" st ["_law_script"])
 (hB:∀ (fd:FuncData) (f:Addr),cC K "law" "law" st f fd->∀ (s:Shared) (u:Value),BindsTo s fd ⟨[u],[]⟩ [("_law_script",u)])
 (H:∀ base:Heap,K.In base->base.Ns mainGlobals mg->∃ kk,kX l.prog w K mg base cl kk "law" ["_law_script"] fn /\ kk<=k) :
 ∃ (cl:Nat->Addr) (fd:FuncData),(∀ (s:Shared) (u:Value),BindsTo s fd ⟨[u],[]⟩ [("_law_script",u)]) /\ ∀ base:Heap,K.In base->base.Ns mainGlobals mg->bA l.prog w K mg base (bK l.prog w) k fa fd ["_law_script"] (kQ cl 1 fn):=
 OQ cl uL D hB λbase a b=>by
  obtain⟨kk,⟨f,fd,ok,r⟩,le⟩:=H base a b;exact⟨f,fd,ok.mono le,r⟩
def bh (K:Frag) (x:Str) (st:Stmt):Prop:=∃ (f:Addr) (oc:Value) (od:Option Addr) (kV dc pm:Value) (an:Option Addr) (cd ct:Value) (sl:Array (Option Value)),nsIn K mainGlobals x=some (some (.ref f)) /\
 K.lookup f=some ⟨oc,od,.func (fnOf x x (gU st) (fV st) (fA st) .none kV dc pm an cd ct),sl⟩ /\ codeIn K cd x=true /\ keepIn K (.ref f)=true
theorem dIn_mk {K:Frag}{x:Str}{st:Stmt}{f:Addr}{oc:Value}{od:Option Addr}{kV dc pm:Value}{an:Option Addr}{cd ct:Value}{sl:Array (Option Value)}(a:nsIn K mainGlobals x=some (some (.ref f)))
 (l:K.lookup f=some ⟨oc,od,.func (fnOf x x (gU st) (fV st) (fA st) .none kV dc pm an cd ct),sl⟩) (c:codeIn K cd x=true) (k:keepIn K (.ref f)=true):bh K x st:=⟨f,oc,od,kV,dc,pm,an,cd,ct,sl,a,l,c,k⟩
noncomputable def IG (a:Arguments) (ps:List Str):Bool:=a.posonlyargs.isEmpty&&a.vararg.isNone&&a.kwonlyargs.isEmpty&&a.kwarg.isNone&&decide (a.args.map (·.arg)=ps)&&decide ps.Nodup
theorem jQ {β:Type}{f g:Str->Option β}:∀ {l:List Str},(∀ n∈l,f n=g n)->l.filterMap f=l.filterMap g
 |[],_=>rfl
 |n::l,h=>by rw[pB,pB,h n (a8 ..),jQ λm q=>h m (aV _ q)]
theorem B8:∀ {ps:List Str}{us:List Value},us.length=ps.length->ps.Nodup->(∀ n∈ps,((ps.zip us).lookup n).isNone=false) /\ ps.filterMap (λn=>((ps.zip us).lookup n).map (n,·))=ps.zip us
 |[],_,_,_=>⟨(λ_ h=>nomatch h),rfl⟩
 |p::ps,[],h,_=>by cases h
 | p::ps,u::us,h,nd=>by
   obtain⟨n1,n2⟩:=List.nodup_cons.mp nd;obtain⟨a,b⟩:=B8 (ps:=ps) (us:=us) (by simpa using h) n2;have ne:∀ n∈ps,(n==p)=false:=λn m=>beq_eq_false_iff_ne.mpr λz=>n1 (z▸m);refine⟨λn m=>?_,?_⟩
   ·rw[qi,cV];cases q:n==p with
    |true=>rfl
    | false =>
      rcases aY.mp m with z|z
      ·rw[z]at q;simp at q
      ·exact a n z
   ·rw[qi,List.filterMap_cons_some (b:=(p,u)) (by simp[cV])];congr 1;refine Eq.trans ?_ b;exact jQ λn m=>by rw[cV,ne n m]
theorem Ae {y:Str}{a:Arguments}{b:List Stmt}{sc:Scope}{ps:List Str}(h:IG a ps=true) (kV doc pm:Value) (an:Option Addr) (cdv ct:Value) (us:List Value) (hl:us.length=ps.length) :
 bindArgs (fnOf x y a b sc .none kV doc pm an cdv ct) ⟨us,[]⟩=pure (ps.zip us):=by
 obtain⟨po,ar,va,ko,kd,kw,df⟩:=a;simp only[IG,aw,decide_eq_true_eq,List.isEmpty_iff,Option.isNone_iff_eq_none]at h;obtain⟨⟨⟨⟨⟨rfl,rfl⟩,rfl⟩,rfl⟩,rfl⟩,nd⟩:=h;obtain⟨z1,z2⟩:=B8 hl nd;simp only[bindArgs,fnOf];have m0:∀ l:List Str,(∀ n∈l,n∈ar.map (·.arg))->l.filter (λn=>(((ar.map (·.arg)).zip us).lookup n).isNone)=[]:=λl h=>List.filter_eq_nil_iff.mpr λn m=>by rw[z1 n (h n m)];decide
 have n0:(do notAStandIn Value.none;pure (none:Option (Array Value)))=pure none:=rfl;simp only[tu,vc,pE,qj,pure_bind,seqItems?,n0,hl,gt_iff_lt,kC,decide_false,zx,zy,if_false,zM,List.drop_nil,kF,zu,rY,List.drop_length,uZ,m0 _ λ_ h=>h,List.isEmpty_nil,Bool.not_true,z2]
def kq (K:Frag) (C:Addr) (x:Str) (st:Stmt):Prop:=∃ (q:Str) (f:Addr) (oc:Value) (od:Option Addr) (kV dc pm:Value) (an:Option Addr) (cd ct:Value) (sl:Array (Option Value)),findIn K (.ref C) x=some (some (.ref f)) /\ isFn K (.ref f)=true /\
 K.lookup f=some ⟨oc,od,.func (fnOf x q (gU st) (fV st) (fA st) .none kV dc pm an cd ct),sl⟩ /\ codeIn K cd q=true /\ keepIn K (.ref f)=true
theorem dInM_mk {K:Frag}{C:Addr}{x q:Str}{st:Stmt}{f:Addr}{oc:Value}{od:Option Addr}{kV dc pm:Value}{an:Option Addr}{cd ct:Value}{sl:Array (Option Value)}(a:findIn K (.ref C) x=some (some (.ref f))) (i:isFn K (.ref f)=true)
 (l:K.lookup f=some ⟨oc,od,.func (fnOf x q (gU st) (fV st) (fA st) .none kV dc pm an cd ct),sl⟩) (c:codeIn K cd q=true) (k:keepIn K (.ref f)=true):kq K C x st:=⟨q,f,oc,od,kV,dc,pm,an,cd,ct,sl,a,i,l,c,k⟩
def AllIn (K:Frag) (C:Addr):List FI->Prop
 |[]=>True
 |f::r=>(if (f.b 16||f.b 32)=true then kq K C f.x f.st else bh K f.x f.st) /\ AllIn K C r
theorem T4 {K:Frag}{h:Heap}{mg:Str->Option Value}{C:Addr}(X:K.In h) (G:h.Ns mainGlobals mg):∀ {l:List FI},AllIn K C l->(l.all λf=>IG (gU f.st) f.ps)=true->∀ f∈l,rS K mg C f
 |[],_,_=>λ_ m=>nomatch m
 | g::r,d,q=>λf m=>by
   rw[k9,aw]at q;rcases aY.mp m with rfl|m
   ·have d1:=d.1;unfold rS;split at d1
    ·rename_i b;rw[if_pos b];obtain⟨qn,fa,oc,od,kV,dc,pm,an,cd,ct,sl,a,i,l,c,k⟩:=d1;have F:=AW (st:=f.st) l c k;exact⟨fa,_,qn,F,⟨a,i,k⟩,F.binds (Ae q.1)⟩
    ·rename_i b;rw[if_neg b];obtain⟨f,oc,od,kV,dc,pm,an,cd,ct,sl,a,l,c,k⟩:=d1;exact OP X G a l c k λfd F=>F.binds (Ae q.1)
   ·exact T4 X G d.2 q.2 f m
section
variable {f : FI}
theorem ig (h:(f.b 16||f.b 32)=false) (d:bh K f.x f.st):if (f.b 16||f.b 32)=true then kq K C f.x f.st else bh K f.x f.st:=by rw[if_neg (by rw[h];decide)];exact d
theorem Br (h:(f.b 16||f.b 32)=true) (d:kq K C f.x f.st):if (f.b 16||f.b 32)=true then kq K C f.x f.st else bh K f.x f.st:=by rw[if_pos h];exact d
theorem OT (h:(f.b 16||f.b 32)=false) (d:rS K mg C f):Def K mg f.x f.st f.ps:=by
 unfold rS at d;rw[if_neg (by rw[h];decide)]at d;exact d
theorem JQ (h:(f.b 16||f.b 32)=false) (d:rT P w K mg base cl C k f):kX P w K mg base cl k f.x f.ps f.fn:=by
 rw[wD]at h;unfold rT at d;rw[if_neg (by rw[h.2];decide),if_neg (by rw[h.1];decide)]at d;exact d
end
theorem walk_o {l:PySem.W.OpenLaw}{q:Program}{loose:List Str}{XP:(Str->Option Value)->Heap->Prop}{YP:World->Heap->Prop}{d:DefRec}{K:Params->PySem.W.Frag}{k:Nat}{fn:Addr->List W->List Bx->O W}(hk:aO k callerA) (hn:l.most=some 63) (ER:d.params.defaults=[])
 (hY:∀ (w:World) (h:Heap),YP w h->(K w.params).In h) (nl:∀ w:World,yU (K w.params)=true) (hf:∀ (C:Addr) (ns:List Int),ns.length<=63->∃ bx',fn C [.s ns] []=.val (.d (.bl true)) bx')
 (F:∀ (w:World) (mg:Str->Option Value) (fa:Addr) (h:Heap),(K w.params).In h->h.Ns mainGlobals mg->mg d.name=some (.ref fa) ->
  ∃ (C:Addr) (cl:Nat->Addr) (fd:FuncData),(∀ (s:Shared) (u:Value),BindsTo s fd ⟨[u],[]⟩ [("_law_script",u)]) /\ ∀ base:Heap,(K w.params).In base->base.Ns mainGlobals mg->bA l.prog w (K w.params) mg base (bK l.prog w) k fa fd ["_law_script"] (kQ cl 1 (fn C))) :
 PySem.W.WalkO q loose XP YP l.row.toRowW d [] (λf vs=>PySem.call f vs):=by
 refine R6.V5 hn ER λw s0 s1 mg mb fa o pm cd doc a vs ns G Y ho hd cw hmg ES hints hlen hg=>?_;have KX:=hY w _ Y;obtain⟨C,cl,fd,hb,hF⟩:=F w mg fa _ KX G.T.g hmg;exact Gm KX G.T.g G.T.b G.T.builtins G.T.nolimit hg ES hints (bu hlen (by decide)) hk hF hb (λH hO hS=>R9 (nl w) hO hS (hf C ns hlen)) λH e s' z=>by
  obtain⟨_,_,_,_,_,_,_,_,_,_,_,_,_,z⟩:=z;exact z
end L2.DL
namespace K83
open L2 L2.DL
noncomputable section
def top (i:Nat):Stmt:=PySem.Challenge.pw_rimehold_k83_bounds_of_ledgers.main.body.getD i (.Pass ⟨0,0,0,0⟩)
noncomputable def tx (C:Addr):Tx:=⟨"_law_script",[("COLDEST",3),("MOST_OUTS",4),("MOST_PAGES",16),("LAST_LOT",9)],["all", "bool", "int", "isinstance", "len", "list", "max", "min", "range", "repr", "sorted", "tuple", "zip"],C,["dark_hours", "earlier", "home", "kept"], "Ledger", "earlier"⟩
def i0 (C:Addr):FI:=⟨"_law_pot",["_law_cell"],["_law_cell", "_law_number", "_law_j", "_law_more"],[],[],[],1,top 49,K1.jB⟩
def i1 (C:Addr):FI:=⟨"is_tuple",["thing", "fewest", "most"],["thing", "fewest", "most"],[],[],[],0,top 24,K1.fX⟩
def i2 (C:Addr):FI:=⟨"is_whole",["thing"],["thing"],[],[],[],0,top 21,K1.iQ⟩
def i3 (C:Addr):FI:=⟨"is_within",["thing", "least", "greatest"],["thing", "least", "greatest"],[],[],[],0,top 22,K1.fZ⟩
def i4 (C:Addr):FI:=⟨"are_rooms",["thing"],["thing"],[],[],[],0,top 30,K1.iG⟩
def i5 (C:Addr):FI:=⟨"are_rates",["thing"],["thing"],[],[],[],0,top 33,K1.jz⟩
def i6 (C:Addr):FI:=⟨"is_kind",["thing"],["thing"],[],[],[],0,top 32,K1.lw⟩
def i7 (C:Addr):FI:=⟨"are_kinds",["thing"],["thing"],[],[],[],0,top 31,K1.iH⟩
def i8 (C:Addr):FI:=⟨"is_rising",["things"],["things"],[],[],[],0,top 25,K1.jy⟩
def i9 (C:Addr):FI:=⟨"is_pair_apart",["thing", "many"],["thing", "many"],[],[],[],0,top 35,K1.gG⟩
def IH (C:Addr):FI:=⟨"are_apart",["thing", "many"],["thing", "many"],[],[],[],0,top 34,K1.gk⟩
def II (C:Addr):FI:=⟨"is_house",["thing"],["thing", "rooms", "kinds", "apart", "hold"],[],[],[],0,top 29,K1.jU⟩
def i12 (C:Addr):FI:=⟨"need_house",["thing"],["thing"],[],[],[],2,top 36,K2.ja⟩
def IJ (C:Addr):FI:=⟨"__init__",["self", "house"],["self", "house"],[],[],[],32,inClass (top 45) 0,K83.FC C⟩
def IK (C:Addr):FI:=⟨"_law_cell_at",["_law_script", "_law_k"],["_law_script", "_law_k"],[],[],[],0,top 48,K1.gX⟩
def IL (C:Addr):FI:=⟨"_law_take",["_law_pot_here", "_law_far"],["_law_pot_here", "_law_far", "_law_found"],[],[],[],0,top 50,K1.fm⟩
def IM (C:Addr):FI:=⟨"_law_kind_of",["_law_pot_here"],["_law_pot_here", "_law_top", "_law_rates"],[],[],[],0,top 51,K1.gC⟩
def IP (C:Addr):FI:=⟨"_law_house",["_law_pot_here"],["_law_pot_here", "_law_rooms", "_law_kinds", "_law_pairs", "_law_other"],[],[],[],0,top 52,aE.gY⟩
def IQ (C:Addr):FI:=⟨"pages",["self"],["self"],[],[],[],16,inClass (top 45) 8,K83.io C⟩
def IS (C:Addr):FI:=⟨"outs",["self"],["self"],[],[],[],16,inClass (top 45) 7,K83.ip C⟩
def IT (C:Addr):FI:=⟨"greatest_parts",["house", "word"],["house", "word", "last_kind", "last_room"],[],[],[],0,top 42,aE.gZ⟩
def IU (C:Addr):FI:=⟨"is_hour",["thing"],["thing"],[],[],[],0,top 23,K2.gL⟩
def IV (C:Addr):FI:=⟨"is_page",["house", "thing"],["house", "thing", "greatest"],[],[],[],0,top 43,aE.gm⟩
def IW (C:Addr):FI:=⟨"need_page",["self", "page"],["self", "page"],[],[],[],18,inClass (top 45) 15,K83.gD C⟩
def IX (C:Addr):FI:=⟨"keep",["self", "pages", "outs"],["self", "pages", "outs"],[],[],[],16,inClass (top 45) 16,K83.iL C⟩
def IZ (C:Addr):FI:=⟨"tell",["self", "page"],["self", "page"],[],[],[],18,inClass (top 45) 1,K83.gR C⟩
def Ka (C:Addr):FI:=⟨"without",["things", "thing"],["things", "thing"],[],[],[],0,top 46,K83.jC⟩
def Kb (C:Addr):FI:=⟨"strike",["self", "page"],["self", "page"],[],[],[],18,inClass (top 45) 2,K83.gE C⟩
def Kc (C:Addr):FI:=⟨"is_out",["thing"],["thing"],[],[],[],0,top 37,K2.jl⟩
def Ke (C:Addr):FI:=⟨"lie_apart",["outs"],["outs"],[],[],[],0,top 38,K2.iJ⟩
def Kf (C:Addr):FI:=⟨"dark",["self", "begin", "end"],["self", "begin", "end", "out"],[],[],[],18,inClass (top 45) 3,K83.gS C⟩
def Kg (C:Addr):FI:=⟨"light",["self", "begin", "end"],["self", "begin", "end", "out"],[],[],[],18,inClass (top 45) 4,K83.gN C⟩
def Kh (C:Addr):FI:=⟨"_law_ledger_met",["_law_book", "_law_deed"],["_law_book", "_law_deed", "_law_e"],[],[],[],4,top 54,K83.fC C⟩
def Ki (C:Addr):FI:=⟨"_law_met",["_law_book", "_law_deed", "_law_word_here"],["_law_book", "_law_deed", "_law_word_here", "_law_before"],[],[],[],0,top 55,K83.fF C⟩
def Kj (C:Addr):FI:=⟨"_law_pages_right",["_law_pot_here", "_law_book"],["_law_pot_here", "_law_book", "_law_first", "_law_number", "_law_page", "_law_last", "_law_some", "_law_deed", "_law_word_here"],[],[],[],0,top 56,K83.gn C⟩
def Kk (C:Addr):FI:=⟨"_law_outs_right",["_law_pot_here", "_law_book"],["_law_pot_here", "_law_book", "_law_odd", "_law_thing", "_law_word_here", "_law_begin", "_law_rows", "_law_one", "_law_due", "_law_some"],[],[],[],0,top 57,K83.gw C⟩
def sU (C:Addr):FI:=⟨"law",["_law_script"],["_law_script", "_law_k", "_law_pot_here", "_law_book"],[],[],[],0,top 58,K83.A7 C⟩
noncomputable def r0 (C:Addr):List FI:=[]
def r1 (C:Addr):List FI:=i0 C::r0 C
def r2 (C:Addr):List FI:=i1 C::r1 C
def r3 (C:Addr):List FI:=i2 C::r2 C
def r4 (C:Addr):List FI:=i3 C::r3 C
def r5 (C:Addr):List FI:=i4 C::r4 C
def r6 (C:Addr):List FI:=i5 C::r5 C
def r7 (C:Addr):List FI:=i6 C::r6 C
def r8 (C:Addr):List FI:=i7 C::r7 C
def r9 (C:Addr):List FI:=i8 C::r8 C
def yc (C:Addr):List FI:=i9 C::r9 C
def T5 (C:Addr):List FI:=IH C::yc C
def T6 (C:Addr):List FI:=II C::T5 C
def T7 (C:Addr):List FI:=i12 C::T6 C
def T8 (C:Addr):List FI:=IJ C::T7 C
def T9 (C:Addr):List FI:=IK C::T8 C
def Ua (C:Addr):List FI:=IL C::T9 C
def Ub (C:Addr):List FI:=IM C::Ua C
def Uc (C:Addr):List FI:=IP C::Ub C
def Ud (C:Addr):List FI:=IQ C::Uc C
def Ue (C:Addr):List FI:=IS C::Ud C
def Ug (C:Addr):List FI:=IT C::Ue C
def Uh (C:Addr):List FI:=IU C::Ug C
def Ui (C:Addr):List FI:=IV C::Uh C
def Uj (C:Addr):List FI:=IW C::Ui C
def Uk (C:Addr):List FI:=IX C::Uj C
def Ul (C:Addr):List FI:=IZ C::Uk C
def Um (C:Addr):List FI:=Ka C::Ul C
def Uo (C:Addr):List FI:=Kb C::Um C
def Uq (C:Addr):List FI:=Kc C::Uo C
def Ur (C:Addr):List FI:=Ke C::Uq C
def Us (C:Addr):List FI:=Kf C::Ur C
def Ut (C:Addr):List FI:=Kg C::Us C
def Uu (C:Addr):List FI:=Kh C::Ut C
def Uv (C:Addr):List FI:=Ki C::Uu C
def Uw (C:Addr):List FI:=Kj C::Uv C
def Ux (C:Addr):List FI:=Kk C::Uw C
def wq (C:Addr):List FI:=sU C::Ux C
theorem q0 (C:Addr):(i0 C).Is (tx C) (r0 C):=.inl ⟨by kernel_rfl,by kernel_rfl⟩
theorem q1 (C:Addr):(i1 C).Is (tx C) (r1 C):=.inl ⟨by kernel_rfl,by kernel_rfl⟩
theorem q2 (C:Addr):(i2 C).Is (tx C) (r2 C):=.inl ⟨by kernel_rfl,by kernel_rfl⟩
theorem q3 (C:Addr):(i3 C).Is (tx C) (r3 C):=.inl ⟨by kernel_rfl,by kernel_rfl⟩
theorem q4 (C:Addr):(i4 C).Is (tx C) (r4 C):=.inl ⟨by kernel_rfl,by kernel_rfl⟩
theorem q5 (C:Addr):(i5 C).Is (tx C) (r5 C):=.inl ⟨by kernel_rfl,by kernel_rfl⟩
theorem q6 (C:Addr):(i6 C).Is (tx C) (r6 C):=.inl ⟨by kernel_rfl,by kernel_rfl⟩
theorem q7 (C:Addr):(i7 C).Is (tx C) (r7 C):=.inl ⟨by kernel_rfl,by kernel_rfl⟩
theorem q8 (C:Addr):(i8 C).Is (tx C) (r8 C):=.inl ⟨by kernel_rfl,by kernel_rfl⟩
theorem q9 (C:Addr):(i9 C).Is (tx C) (r9 C):=.inl ⟨by kernel_rfl,by kernel_rfl⟩
theorem Y0 (C:Addr):(IH C).Is (tx C) (yc C):=.inl ⟨by kernel_rfl,by kernel_rfl⟩
theorem Y1 (C:Addr):(II C).Is (tx C) (T5 C):=.inl ⟨by kernel_rfl,by kernel_rfl⟩
theorem Y2 (C:Addr):(i12 C).Is (tx C) (T6 C):=.inl ⟨by kernel_rfl,by kernel_rfl⟩
theorem Y3 (C:Addr):(IJ C).Is (tx C) (T7 C):=.inr (.inr (by kernel_rfl))
theorem Y4 (C:Addr):(IK C).Is (tx C) (T8 C):=.inl ⟨by kernel_rfl,by kernel_rfl⟩
theorem Y5 (C:Addr):(IL C).Is (tx C) (T9 C):=.inl ⟨by kernel_rfl,by kernel_rfl⟩
theorem Y6 (C:Addr):(IM C).Is (tx C) (Ua C):=.inl ⟨by kernel_rfl,by kernel_rfl⟩
theorem Y7 (C:Addr):(IP C).Is (tx C) (Ub C):=.inl ⟨by kernel_rfl,by kernel_rfl⟩
theorem Y8 (C:Addr):(IQ C).Is (tx C) (Uc C):=.inl ⟨by kernel_rfl,by kernel_rfl⟩
theorem Y9 (C:Addr):(IS C).Is (tx C) (Ud C):=.inl ⟨by kernel_rfl,by kernel_rfl⟩
theorem Za (C:Addr):(IT C).Is (tx C) (Ue C):=.inl ⟨by kernel_rfl,by kernel_rfl⟩
theorem Zb (C:Addr):(IU C).Is (tx C) (Ug C):=.inl ⟨by kernel_rfl,by kernel_rfl⟩
theorem Zc (C:Addr):(IV C).Is (tx C) (Uh C):=.inl ⟨by kernel_rfl,by kernel_rfl⟩
theorem Zd (C:Addr):(IW C).Is (tx C) (Ui C):=.inl ⟨by kernel_rfl,by kernel_rfl⟩
theorem Ze (C:Addr):(IX C).Is (tx C) (Uj C):=.inl ⟨by kernel_rfl,by kernel_rfl⟩
theorem Zf (C:Addr):(IZ C).Is (tx C) (Uk C):=.inl ⟨by kernel_rfl,by kernel_rfl⟩
theorem Zg (C:Addr):(Ka C).Is (tx C) (Ul C):=.inl ⟨by kernel_rfl,by kernel_rfl⟩
theorem Zh (C:Addr):(Kb C).Is (tx C) (Um C):=.inl ⟨by kernel_rfl,by kernel_rfl⟩
theorem Zi (C:Addr):(Kc C).Is (tx C) (Uo C):=.inl ⟨by kernel_rfl,by kernel_rfl⟩
theorem Zj (C:Addr):(Ke C).Is (tx C) (Uq C):=.inl ⟨by kernel_rfl,by kernel_rfl⟩
theorem Zk (C:Addr):(Kf C).Is (tx C) (Ur C):=.inl ⟨by kernel_rfl,by kernel_rfl⟩
theorem Zl (C:Addr):(Kg C).Is (tx C) (Us C):=.inl ⟨by kernel_rfl,by kernel_rfl⟩
theorem Zm (C:Addr):(Kh C).Is (tx C) (Ut C):=.inl ⟨by kernel_rfl,by kernel_rfl⟩
theorem Zn (C:Addr):(Ki C).Is (tx C) (Uu C):=.inl ⟨by kernel_rfl,by kernel_rfl⟩
theorem Zo (C:Addr):(Kj C).Is (tx C) (Uv C):=.inl ⟨by kernel_rfl,by kernel_rfl⟩
theorem Zp (C:Addr):(Kk C).Is (tx C) (Uw C):=.inl ⟨by kernel_rfl,by kernel_rfl⟩
theorem Zq (C:Addr):(sU C).Is (tx C) (Ux C):=.inl ⟨by kernel_rfl,by kernel_rfl⟩
theorem OU (C:Addr):IC (tx C) (wq C):=⟨Zq C,⟨Zp C,⟨Zo C,⟨Zn C,⟨Zm C,⟨Zl C,⟨Zk C,⟨Zj C,⟨Zi C,⟨Zh C,⟨Zg C,⟨Zf C,⟨Ze C,⟨Zd C,⟨Zc C,⟨Zb C,⟨Za C,⟨Y9 C,⟨Y8 C,⟨Y7 C,⟨Y6 C,⟨Y5 C,⟨Y4 C,⟨Y3 C,⟨Y2 C,⟨Y1 C,⟨Y0 C,⟨q9 C,⟨q8 C,⟨q7 C,⟨q6 C,⟨q5 C,⟨q4 C,⟨q3 C,⟨q2 C,⟨q1 C,⟨q0 C,trivial⟩⟩⟩⟩⟩⟩⟩⟩⟩⟩⟩⟩⟩⟩⟩⟩⟩⟩⟩⟩⟩⟩⟩⟩⟩⟩⟩⟩⟩⟩⟩⟩⟩⟩⟩⟩⟩
theorem OV (C:Addr):yS (tx C) true true (wq C)=true:=by kernel_rfl
end
end K83
namespace K83.Wd
open L2 L2.DL PySem.W
abbrev qR:Stmt:=PySem.Challenge.pw_rimehold_k83_bounds_of_ledgers.main.body.getD 53 (.Pass ⟨0,0,0,0⟩)
theorem JR {l:Addr}(h:H l=none):cZ H (upd H l o):=λb u e=>by rw[fq (fE e h)];exact e
noncomputable def qS (i n:Nat):List V:=(List.range n).map λj=>V.bl (decide (i=j))
theorem B9 (i n:Nat):(qS i n).all cX=true:=by
 rw[bX];intro x hx;obtain⟨j,_,rfl⟩:=List.mem_map.mp hx;rfl
theorem FP:∀ i,i<17->(qS i 17).countP (λz=>cL z (.bl true))=1:=by decide
theorem OW:∀ i,i<17->(qS i 17)[i]?=some (.bl true):=by decide
theorem OX:∀ i,i<17->∀ m,m<i->(qS i 17)[m]?=some (.bl false):=by decide
theorem uM:nR ["_law_e", "_law_some", "_law_words"] ["_law_e"] (fA qR):=⟨rfl,rfl,rfl,by decide +kernel,rfl,by decide +kernel,by decide +kernel⟩
theorem FQ:bootBuiltins "ValueError"=some (.type "ValueError"):=by decide +kernel
def bZ (i:Nat):Stmt:=(fV qR).getD i (.Pass ⟨0,0,0,0⟩)
theorem CV {env:Env}(es:List Expr) (p pos':Pos) (line:Nat):swapsWith (.List es p) (some (.Name x pos')) line env=pure false:=by rfl
section
variable {R : Addr} {c : Nat -> Addr} {cdv : Value} {Hx : Hp} {E : XK}
abbrev XW (P:Program) (w:World) (K:Frag) (mg:Str->Option Value) (base:Heap) (f:Addr) (cdv:Value) (A:Around) (outer:List Env) (s:Shared) (H:Hp) (E:XK):Cx:=(vG nS P w K mg base ["_law_e", "_law_some", "_law_words"] "_law_word" (fA qR) f cdv A outer s H E).qw
theorem iB {l:Addr}(s:cZ H0 H) (h:H0 l=none):cZ H0 (upd H l o):=λb u e=>by rw[fq (fE e h)];exact s b u e
theorem w0 (T:en K mg R c) (hi:i<17) (ha:H0 a=some (.ext (dj a (c i)))):∃ t,PS (XW P w K mg base f cdv A outer s Hx E) (bZ 0) t /\ ∀ D,
 (∀ l H',H0 l=none->cZ H0 H'->H' l=some (.lst [.bl (decide (i=0)),.bl (decide (i=1)),.bl (decide (i=2)),.bl (decide (i=3))])->D.nx [some (.ref a),some (.ref l),none] H')->t D [some (.ref a),none,none] H0:=by
 refine⟨_,lZ (i:=1) uM.nd rfl (Or.inl rfl) (jM (fj (fQ fP (by rfl) T.inst dH (fj (pv 0) (fj (f9 (v:=.ref (c 0)) rfl (T.m 0 _ rfl) rfl) fO))) (fj (fQ fP (by rfl) T.inst dH (fj (pv 0) (fj (f9 (v:=.ref (c 1)) rfl (T.m 1 _ rfl) rfl) fO))) (fj (fQ fP (by rfl) T.inst dH (fj (pv 0) (fj (f9 (v:=.ref (c 2)) rfl (T.m 2 _ rfl) rfl) fO))) (fj (fQ fP (by rfl) T.inst dH (fj (pv 0) (fj (f9 (v:=.ref (c 3)) rfl (T.m 3 _ rfl) rfl) fO))) fO))))),λD k=>?_⟩;exact⟨_,rfl,_,_,_,_,_,rfl,.exc ha (T.ek i hi),rfl,T.kt i 0 hi (by decide),_,rfl,_,_,_,_,_,rfl,.exc ha (T.ek i hi),rfl,T.kt i 1 hi (by decide),_,rfl,_,_,_,_,_,rfl,.exc ha (T.ek i hi),rfl,T.kt i 2 hi (by decide),_,rfl,_,_,_,_,_,rfl,.exc ha (T.ek i hi),rfl,T.kt i 3 hi (by decide),by show 4<=sizeLine;decide,λl n=>k l _ n (JR n) fw⟩
theorem w1 (T:en K mg R c) (hi:i<17) (ha:H0 a=some (.ext (dj a (c i)))):∃ t,PS (XW P w K mg base f cdv A outer s Hx E) (bZ 1) t /\ ∀ D H l xs,cZ H0 H->H0 l=none->H l=some (.lst xs)->xs.length<=100 ->
 (∀ p H',H0 p=none->cZ H0 H'->H' p=some (.lst (xs++[.bl (decide (i=4)),.bl (decide (i=5)),.bl (decide (i=6)),.bl (decide (i=7))]))->D.nx [some (.ref a),some (.ref p),none] H')->t D [some (.ref a),some (.ref l),none] H:=by
 refine⟨_,lZ (i:=1) uM.nd rfl (Or.inl rfl) (Bt oB (pv 1) (jM (fj (fQ fP (by rfl) T.inst dH (fj (pv 0) (fj (f9 (v:=.ref (c 4)) rfl (T.m 4 _ rfl) rfl) fO))) (fj (fQ fP (by rfl) T.inst dH (fj (pv 0) (fj (f9 (v:=.ref (c 5)) rfl (T.m 5 _ rfl) rfl) fO))) (fj (fQ fP (by rfl) T.inst dH (fj (pv 0) (fj (f9 (v:=.ref (c 6)) rfl (T.m 6 _ rfl) rfl) fO))) (fj (fQ fP (by rfl) T.inst dH (fj (pv 0) (fj (f9 (v:=.ref (c 7)) rfl (T.m 7 _ rfl) rfl) fO))) fO)))))),λD H l xs sm hn hl hx k=>?_⟩;have ku:=sm _ _ ha;refine⟨_,rfl,_,rfl,_,_,_,_,_,rfl,.exc ku (T.ek i hi),rfl,T.kt i 4 hi (by decide),_,rfl,_,_,_,_,_,rfl,.exc ku (T.ek i hi),rfl,T.kt i 5 hi (by decide),_,rfl,_,_,_,_,_,rfl,.exc ku (T.ek i hi),rfl,T.kt i 6 hi (by decide),_,rfl,_,_,_,_,_,rfl,.exc ku (T.ek i hi),rfl,T.kt i 7 hi (by decide),by show 4<=sizeLine;decide,λl2 n2=>?_⟩;refine⟨l,l2,xs,_,rfl,rfl,by rw[fq (fE hl n2)];exact hl,fw,xF (by simp;omega) |> eu,λp np=>?_⟩;have m2:H0 l2=none:=sm.free n2;have s2:=iB (o:=.lst [.bl (decide (i=4)),.bl (decide (i=5)),.bl (decide (i=6)),.bl (decide (i=7))]) sm m2;have mp:H0 p=none:=s2.free np;exact k p _ mp (iB s2 mp) fw
theorem w2 (T:en K mg R c) (hi:i<17) (ha:H0 a=some (.ext (dj a (c i)))):∃ t,PS (XW P w K mg base f cdv A outer s Hx E) (bZ 2) t /\ ∀ D H l xs,cZ H0 H->H0 l=none->H l=some (.lst xs)->xs.length<=100 ->
 (∀ p H',H0 p=none->cZ H0 H'->H' p=some (.lst (xs++[.bl (decide (i=8)),.bl (decide (i=9)),.bl (decide (i=10)),.bl (decide (i=11))]))->D.nx [some (.ref a),some (.ref p),none] H')->t D [some (.ref a),some (.ref l),none] H:=by
 refine⟨_,lZ (i:=1) uM.nd rfl (Or.inl rfl) (Bt oB (pv 1) (jM (fj (fQ fP (by rfl) T.inst dH (fj (pv 0) (fj (f9 (v:=.ref (c 8)) rfl (T.m 8 _ rfl) rfl) fO))) (fj (fQ fP (by rfl) T.inst dH (fj (pv 0) (fj (f9 (v:=.ref (c 9)) rfl (T.m 9 _ rfl) rfl) fO))) (fj (fQ fP (by rfl) T.inst dH (fj (pv 0) (fj (f9 (v:=.ref (c 10)) rfl (T.m 10 _ rfl) rfl) fO))) (fj (fQ fP (by rfl) T.inst dH (fj (pv 0) (fj (f9 (v:=.ref (c 11)) rfl (T.m 11 _ rfl) rfl) fO))) fO)))))),λD H l xs sm hn hl hx k=>?_⟩;have ku:=sm _ _ ha;refine⟨_,rfl,_,rfl,_,_,_,_,_,rfl,.exc ku (T.ek i hi),rfl,T.kt i 8 hi (by decide),_,rfl,_,_,_,_,_,rfl,.exc ku (T.ek i hi),rfl,T.kt i 9 hi (by decide),_,rfl,_,_,_,_,_,rfl,.exc ku (T.ek i hi),rfl,T.kt i 10 hi (by decide),_,rfl,_,_,_,_,_,rfl,.exc ku (T.ek i hi),rfl,T.kt i 11 hi (by decide),by show 4<=sizeLine;decide,λl2 n2=>?_⟩;refine⟨l,l2,xs,_,rfl,rfl,by rw[fq (fE hl n2)];exact hl,fw,xF (by simp;omega) |> eu,λp np=>?_⟩;have m2:H0 l2=none:=sm.free n2;have s2:=iB (o:=.lst [.bl (decide (i=8)),.bl (decide (i=9)),.bl (decide (i=10)),.bl (decide (i=11))]) sm m2;have mp:H0 p=none:=s2.free np;exact k p _ mp (iB s2 mp) fw
theorem w3 (T:en K mg R c) (hi:i<17) (ha:H0 a=some (.ext (dj a (c i)))):∃ t,PS (XW P w K mg base f cdv A outer s Hx E) (bZ 3) t /\ ∀ D H l xs,cZ H0 H->H0 l=none->H l=some (.lst xs)->xs.length<=100 ->
 (∀ p H',H0 p=none->cZ H0 H'->H' p=some (.lst (xs++[.bl (decide (i=12)),.bl (decide (i=13)),.bl (decide (i=14)),.bl (decide (i=15))]))->D.nx [some (.ref a),some (.ref p),none] H')->t D [some (.ref a),some (.ref l),none] H:=by
 refine⟨_,lZ (i:=1) uM.nd rfl (Or.inl rfl) (Bt oB (pv 1) (jM (fj (fQ fP (by rfl) T.inst dH (fj (pv 0) (fj (f9 (v:=.ref (c 12)) rfl (T.m 12 _ rfl) rfl) fO))) (fj (fQ fP (by rfl) T.inst dH (fj (pv 0) (fj (f9 (v:=.ref (c 13)) rfl (T.m 13 _ rfl) rfl) fO))) (fj (fQ fP (by rfl) T.inst dH (fj (pv 0) (fj (f9 (v:=.ref (c 14)) rfl (T.m 14 _ rfl) rfl) fO))) (fj (fQ fP (by rfl) T.inst dH (fj (pv 0) (fj (f9 (v:=.ref (c 15)) rfl (T.m 15 _ rfl) rfl) fO))) fO)))))),λD H l xs sm hn hl hx k=>?_⟩;have ku:=sm _ _ ha;refine⟨_,rfl,_,rfl,_,_,_,_,_,rfl,.exc ku (T.ek i hi),rfl,T.kt i 12 hi (by decide),_,rfl,_,_,_,_,_,rfl,.exc ku (T.ek i hi),rfl,T.kt i 13 hi (by decide),_,rfl,_,_,_,_,_,rfl,.exc ku (T.ek i hi),rfl,T.kt i 14 hi (by decide),_,rfl,_,_,_,_,_,rfl,.exc ku (T.ek i hi),rfl,T.kt i 15 hi (by decide),by show 4<=sizeLine;decide,λl2 n2=>?_⟩;refine⟨l,l2,xs,_,rfl,rfl,by rw[fq (fE hl n2)];exact hl,fw,xF (by simp;omega) |> eu,λp np=>?_⟩;have m2:H0 l2=none:=sm.free n2;have s2:=iB (o:=.lst [.bl (decide (i=12)),.bl (decide (i=13)),.bl (decide (i=14)),.bl (decide (i=15))]) sm m2;have mp:H0 p=none:=s2.free np;exact k p _ mp (iB s2 mp) fw
theorem w4 (T:en K mg R c) (hi:i<17) (ha:H0 a=some (.ext (dj a (c i)))):∃ t,PS (XW P w K mg base f cdv A outer s Hx E) (bZ 4) t /\ ∀ D H l xs,cZ H0 H->H0 l=none->H l=some (.lst xs)->xs.length<=100 ->
 (∀ H',cZ H0 H'->H' l=some (.lst (xs++[.bl (decide (i=16))]))->D.nx [some (.ref a),some (.ref l),none] H')->t D [some (.ref a),some (.ref l),none] H:=by
 refine⟨_,CZ (C8 xf QR QS l8 (pv 1) (fj (fQ fP (by rfl) T.inst dH (fj (pv 0) (fj (f9 (v:=.ref (c 16)) rfl (T.m 16 _ rfl) rfl) fO))) fO)),λD H l xs sm hn hl hx k=>?_⟩;exact⟨_,rfl,.inl ⟨rfl,_,aQ.of hl⟩,_,rfl,_,_,_,_,_,rfl,.exc (sm _ _ ha) (T.ek i hi),rfl,T.kt i 16 hi (by decide),l,xs,_,rfl,rfl,hl,xF (by omega),k _ (iB sm hn) fw⟩
theorem w5 (T:en K mg R c) (hi:i<17) (ha:H0 a=some (.ext (dj a (c i)))):∃ t,PS (XW P w K mg base f cdv A outer s Hx E) (bZ 5) t /\ ∀ D H l,cZ H0 H->H l=some (.lst (qS i 17)) ->
 D.nx [some (.ref a),some (.ref l),none] H->t D [some (.ref a),some (.ref l),none] H:=by
 refine⟨_,(MD (PW.pt (MC (C4 MF (C8 xf PySem.F.slot_list_count PySem.F.type_list_count Gv (pv 1) (fj FS fO)) Ca (VG _)) (FU (FV (FT (fQ fP (by rfl) T.inst dH (fj (pv 0) (fj (CW (v:=.ty "ValueError") rfl T.X6 FQ rfl) fO)))))))) (lF (AQ Cb)) CY),λD H l sm hl k=>?_⟩;refine⟨_,rfl,.inl ⟨rfl,_,aQ.of hl⟩,l,_,_,rfl,rfl,hl,B9 i 17,rfl,rfl,_,rfl,?_⟩;rw[FP i hi];refine Sa ?_;exact⟨_,rfl,_,_,_,_,_,rfl,.exc (sm _ _ ha) (T.ek i hi),rfl,T.kv i hi,_,rfl,Sa k⟩
theorem w6 (T:en K mg R c):∃ t,PS (XW P w K mg base f cdv A outer s Hx E) (bZ 6) t /\ ∀ D H l,cZ H0 H ->
 (∀ l2 H',H l2=none->H'=upd H l2 (.lst ((pj.take 12).map V.str))->D.nx [some (.ref a),some (.ref l),some (.ref l2)] H')->t D [some (.ref a),some (.ref l),none] H:=by
 have e:∃ p es q r,bZ 6=.Assign [.Name "_law_words" p] (.List es q) r /\ es.map Sx=(pj.take 12).map some:=⟨_,_,_,_,rfl,rfl⟩;obtain⟨p,es,q,r,h,he⟩:=e;rw[h];refine⟨_,lZ (i:=2) (x:="_law_words") uM.nd rfl (Or.inl rfl) (jM (AZ he)) (CV _ _ _ _),λD H l sm k=>?_⟩;exact⟨by decide,λl2 n2=>k l2 _ n2 rfl⟩
theorem w7 (T:en K mg R c) (hi:i<17):∃ t,PS (XW P w K mg base f cdv A outer s Hx E) (bZ 7) t /\ ∀ D H l l2,cZ H0 H->H l=some (.lst (qS i 17))->H l2=some (.lst ((pj.take 12).map V.str)) ->
 (∀ H',cZ H0 H'->D.rt (.str (wordOf i)) H')->t D [some (.ref a),some (.ref l),some (.ref l2)] H:=by
 refine⟨_,(AQ (Gh AS (Bt oB (pv 2) (jM (AZ (xs:=pj.drop 12) rfl))) (C8 xf PySem.F.slot_list_index PySem.F.type_list_index Gw (pv 1) (fj FS fO)) (λ_ _=>rfl))),λD H l l2 sm hl h2 k=>?_⟩;refine⟨_,rfl,by decide,λl3 n3=>?_⟩;refine⟨l2,l3,_,_,rfl,rfl,by rw[fq (fE h2 n3)];exact h2,fw,by decide,λp np=>?_⟩;have m3:H0 l3=none:=sm.free n3;have s3:=iB (o:=.lst ((pj.drop 12).map V.str)) sm m3;have mp:H0 p=none:=s3.free np;have lp:l≠p:=by
  intro z;rw[<-z,fq (fE hl n3),hl]at np;cases np
 have eD:(upd (upd H l3 (.lst ((pj.drop 12).map V.str))) p (.lst ((pj.take 12).map V.str++(pj.drop 12).map V.str))) l=some (.lst (qS i 17)):=by rw[fq lp,fq (fE hl n3)];exact hl
 refine⟨_,rfl,.inl ⟨rfl,_,aQ.of eD⟩,l,_,_,i,rfl,rfl,eD,B9 i 17,rfl,?_,?_,?_,p,_,_,_,rfl,rfl,aQ.of fw,C7 (j:=i) (v:=.str (wordOf i)) ?_,k _ (iB s3 mp)⟩
 ·exact hi
 ·intro z e;rw[OW i hi]at e;cases e;rfl
 ·intro m z hm e;rw[OX i hi m hm]at e;cases e;rfl
 ·have:∀ i,i<17->((pj.take 12).map V.str++(pj.drop 12).map V.str)[i]?=some (.str (wordOf i)):=by decide
  exact this i hi
theorem Zr:fV qR=[bZ 0,bZ 1,bZ 2,bZ 3,bZ 4,bZ 5,bZ 6,bZ 7]:=rfl
end
section
variable {R : Addr} {c : Nat -> Addr} 
theorem Zs (i:Nat):(([.bl (decide (i=0)),.bl (decide (i=1)),.bl (decide (i=2)),.bl (decide (i=3))]++[.bl (decide (i=4)),.bl (decide (i=5)),.bl (decide (i=6)),.bl (decide (i=7))]++[.bl (decide (i=8)),.bl (decide (i=9)),.bl (decide (i=10)),.bl (decide (i=11))]++[.bl (decide (i=12)),.bl (decide (i=13)),.bl (decide (i=14)),.bl (decide (i=15))]++[.bl (decide (i=16))]:List V))=qS i 17:=rfl
theorem MB (F:cC K "_law_word" "_law_word" qR f fd) (T:en K mg R c):vF P w K mg base nS 1 f fd ["_law_e"] (Tf c):=by
 refine F.uc uM (λvs H Q E h=>?_) (λcdv A outer s H vs Q E hr h=>?_)
 ·obtain⟨a,i,rfl,_⟩:=h;rfl
 ·obtain⟨a,i,rfl,hi,ha,q⟩:=h;rw[Zr];obtain⟨t0,p0,r0⟩:=w0 (P:=P) (w:=w) (K:=K) (mg:=mg) (base:=base) (f:=f) (cdv:=cdv) (A:=A) (outer:=outer) (s:=s) (Hx:=H) (E:=E) T hi ha;obtain⟨t1,p1,r1⟩:=w1 (P:=P) (w:=w) (K:=K) (mg:=mg) (base:=base) (f:=f) (cdv:=cdv) (A:=A) (outer:=outer) (s:=s) (Hx:=H) (E:=E) T hi ha;obtain⟨t2,p2,r2⟩:=w2 (P:=P) (w:=w) (K:=K) (mg:=mg) (base:=base) (f:=f) (cdv:=cdv) (A:=A) (outer:=outer) (s:=s) (Hx:=H) (E:=E) T hi ha;obtain⟨t3,p3,r3⟩:=w3 (P:=P) (w:=w) (K:=K) (mg:=mg) (base:=base) (f:=f) (cdv:=cdv) (A:=A) (outer:=outer) (s:=s) (Hx:=H) (E:=E) T hi ha;obtain⟨t4,p4,r4⟩:=w4 (P:=P) (w:=w) (K:=K) (mg:=mg) (base:=base) (f:=f) (cdv:=cdv) (A:=A) (outer:=outer) (s:=s) (Hx:=H) (E:=E) T hi ha;obtain⟨t5,p5,r5⟩:=w5 (P:=P) (w:=w) (K:=K) (mg:=mg) (base:=base) (f:=f) (cdv:=cdv) (A:=A) (outer:=outer) (s:=s) (Hx:=H) (E:=E) T hi ha;obtain⟨t6,p6,r6⟩:=w6 (P:=P) (w:=w) (K:=K) (mg:=mg) (base:=base) (f:=f) (cdv:=cdv) (A:=A) (outer:=outer) (s:=s) (Hx:=H) (E:=E) (a:=a) (H0:=H) T;obtain⟨t7,p7,r7⟩:=w7 (P:=P) (w:=w) (K:=K) (mg:=mg) (base:=base) (f:=f) (cdv:=cdv) (A:=A) (outer:=outer) (s:=s) (Hx:=H) (E:=E) (a:=a) (H0:=H) T hi;generalize bZ 0=x0 at p0 ⊢;generalize bZ 1=x1 at p1 ⊢;generalize bZ 2=x2 at p2 ⊢;generalize bZ 3=x3 at p3 ⊢;generalize bZ 4=x4 at p4 ⊢;generalize bZ 5=x5 at p5 ⊢;generalize bZ 6=x6 at p6 ⊢;generalize bZ 7=x7 at p7 ⊢;refine⟨_,gT p0 (gT p1 (gT p2 (gT p3 (gT p4 (gT p5 (gT p6 (lF p7))))))),?_⟩;refine r0 _ λl1 H1 n1 s1 e1=>?_;refine r1 _ _ _ _ s1 n1 e1 (by simp) λl2 H2 n2 s2 e2=>?_;refine r2 _ _ _ _ s2 n2 e2 (by simp) λl3 H3 n3 s3 e3=>?_;refine r3 _ _ _ _ s3 n3 e3 (by simp) λl4 H4 n4 s4 e4=>?_;refine r4 _ _ _ _ s4 n4 e4 (by simp) λH5 s5 e5=>?_;have Kl:H5 l4=some (.lst (qS i 17)):=by rw[<-Zs i];exact e5
  refine r5 _ _ _ s5 Kl ?_;refine r6 _ _ _ s5 λl6 H6 n6 e6=>?_;subst e6;have m6:H l6=none:=s5.free n6;refine r7 _ _ _ _ (iB s5 m6) (by rw[fq (fE Kl n6)];exact Kl) fw λH7 s7=>q H7 s7
end
end K83.Wd
namespace K83
open L2 L2.DL PySem.W
theorem OY {l:PySem.W.OpenLaw}{w:World}{K:Frag}{h:Heap}{mg:Str->Option Value}{fa:Addr}(X:K.In h) (G:h.Ns mainGlobals mg) (uL:mg "law"=some (.ref fa))
 {C:Addr}(aC:nsIn K mainGlobals "Ledger"=some (some (.ref C))) (z0:yX K (tx C).bl=true) (g0:yY K (tx C).gl=true) (y1:yV K=true) (cp:plainGet K C Str.empty=true) (cd:hasDictIn K C=true) (co:plainOver K C=true) (cs:findIn K (.ref C) "__setattr__"=some (some (.builtin "object.__setattr__"))) (cm:makesIn K C=true) (ck:keepIn K (.ref C)=true) (cn:((tx C).fl.all λf=>findIn K (.ref C) f==some none)=true)
 (d0:bh K "_law_pot" (top 49))
 (d1:bh K "is_tuple" (top 24))
 (d2:bh K "is_whole" (top 21))
 (d3:bh K "is_within" (top 22))
 (d4:bh K "are_rooms" (top 30))
 (d5:bh K "are_rates" (top 33))
 (d6:bh K "is_kind" (top 32))
 (d7:bh K "are_kinds" (top 31))
 (d8:bh K "is_rising" (top 25))
 (d9:bh K "is_pair_apart" (top 35))
 (Zt:bh K "are_apart" (top 34))
 (Zu:bh K "is_house" (top 29))
 (Zv:bh K "need_house" (top 36))
 (Zw:kq K C "__init__" (inClass (top 45) 0))
 (Zx:bh K "_law_cell_at" (top 48))
 (Zy:bh K "_law_take" (top 50))
 (Zz:bh K "_law_kind_of" (top 51))
 (ZA:bh K "_law_house" (top 52))
 (ZC:kq K C "pages" (inClass (top 45) 8))
 (ZD:kq K C "outs" (inClass (top 45) 7))
 (ZE:bh K "greatest_parts" (top 42))
 (ZF:bh K "is_hour" (top 23))
 (ZG:bh K "is_page" (top 43))
 (ZH:kq K C "need_page" (inClass (top 45) 15))
 (ZI:kq K C "keep" (inClass (top 45) 16))
 (ZJ:kq K C "tell" (inClass (top 45) 1))
 (ZK:bh K "without" (top 46))
 (ZL:kq K C "strike" (inClass (top 45) 2))
 (ZM:bh K "is_out" (top 37))
 (ZN:bh K "lie_apart" (top 38))
 (ZO:kq K C "dark" (inClass (top 45) 3))
 (ZP:kq K C "light" (inClass (top 45) 4))
 (ZQ:bh K "_law_ledger_met" (top 54))
 (ZR:bh K "_law_met" (top 55))
 (ZS:bh K "_law_pages_right" (top 56))
 (ZT:bh K "_law_outs_right" (top 57))
 (ZU:bh K "law" (top 58))
 {R c0 c1 c2 c3 c4 c5 c6 c7 c8 c9 uN uO uP uQ uR uS uT:Addr}
 (eR:nsIn K mainGlobals "RimeError"=some (some (.ref R)))
 (e0:nsIn K mainGlobals "NoHouse"=some (some (.ref c0)))
 (e1:nsIn K mainGlobals "NoOuts"=some (some (.ref c1)))
 (e2:nsIn K mainGlobals "NoRoom"=some (some (.ref c2)))
 (e3:nsIn K mainGlobals "NoHour"=some (some (.ref c3)))
 (e4:nsIn K mainGlobals "NoPages"=some (some (.ref c4)))
 (e5:nsIn K mainGlobals "NoLot"=some (some (.ref c5)))
 (e6:nsIn K mainGlobals "NoAsks"=some (some (.ref c6)))
 (e7:nsIn K mainGlobals "NoNumber"=some (some (.ref c7)))
 (e8:nsIn K mainGlobals "NoMoves"=some (some (.ref c8)))
 (e9:nsIn K mainGlobals "NoEach"=some (some (.ref c9)))
 (yC:nsIn K mainGlobals "NoOrder"=some (some (.ref uN)))
 (ZV:nsIn K mainGlobals "NoPage"=some (some (.ref uO)))
 (ZW:nsIn K mainGlobals "NoOut"=some (some (.ref uP)))
 (ZX:nsIn K mainGlobals "Twice"=some (some (.ref uQ)))
 (ZY:nsIn K mainGlobals "Missing"=some (some (.ref uR)))
 (ZZ:nsIn K mainGlobals "TooMany"=some (some (.ref uS)))
 (Z0:nsIn K mainGlobals "NoDeed"=some (some (.ref uT)))
 (zi:nsIn K mainGlobals "isinstance"=some none) (zv:nsIn K mainGlobals "ValueError"=some none)
 (h1:([c0,c1,c2,c3,c4,c5,c6,c7,c8,c9,uN,uO,uP,uQ,uR,uS,uT]:List Addr).all (yW K R)=true) (h2:IE K ([c0,c1,c2,c3,c4,c5,c6,c7,c8,c9,uN,uO,uP,uQ,uR,uS,uT]:List Addr)=true) (h3:IF K R=true)
 {fW:Addr}{Z1 Z2:Option Addr}{Z3:Array (Option Value)}{Z4 Z5 Z6 Z7 Uy Z8:Value}(aW:nsIn K mainGlobals "_law_word"=some (some (.ref fW))) (lW:K.lookup fW=some ⟨Z4,Z1,.func (fnOf "_law_word" "_law_word" (gU Wd.qR) (fV Wd.qR) (fA Wd.qR) .none Z5 Z6 Z7 Z2 Uy Z8),Z3⟩) (gW:codeIn K Uy "_law_word"=true) (kW:keepIn K (.ref fW)=true) :
 ∃ (C:Addr) (cl:Nat->Addr) (fd:FuncData),(∀ (s:Shared) (u:Value),BindsTo s fd ⟨[u],[]⟩ [("_law_script",u)]) /\ ∀ base:Heap,K.In base->base.Ns mainGlobals mg->bA l.prog w K mg base (bK l.prog w) 74 fa fd ["_law_script"] (kQ cl 1 (K83.A7 C)):=by
 have DF:=T4 (C:=C) X G (l:=wq C) ⟨ig (f:=sU C) (by kernel_rfl) ZU,ig (f:=Kk C) (by kernel_rfl) ZT,ig (f:=Kj C) (by kernel_rfl) ZS,ig (f:=Ki C) (by kernel_rfl) ZR,ig (f:=Kh C) (by kernel_rfl) ZQ,Br (f:=Kg C) (by kernel_rfl) ZP,Br (f:=Kf C) (by kernel_rfl) ZO,ig (f:=Ke C) (by kernel_rfl) ZN,ig (f:=Kc C) (by kernel_rfl) ZM,Br (f:=Kb C) (by kernel_rfl) ZL,ig (f:=Ka C) (by kernel_rfl) ZK,Br (f:=IZ C) (by kernel_rfl) ZJ,Br (f:=IX C) (by kernel_rfl) ZI,Br (f:=IW C) (by kernel_rfl) ZH,ig (f:=IV C) (by kernel_rfl) ZG,ig (f:=IU C) (by kernel_rfl) ZF,ig (f:=IT C) (by kernel_rfl) ZE,Br (f:=IS C) (by kernel_rfl) ZD,Br (f:=IQ C) (by kernel_rfl) ZC,ig (f:=IP C) (by kernel_rfl) ZA,ig (f:=IM C) (by kernel_rfl) Zz,ig (f:=IL C) (by kernel_rfl) Zy,ig (f:=IK C) (by kernel_rfl) Zx,Br (f:=IJ C) (by kernel_rfl) Zw,ig (f:=i12 C) (by kernel_rfl) Zv,ig (f:=II C) (by kernel_rfl) Zu,ig (f:=IH C) (by kernel_rfl) Zt,ig (f:=i9 C) (by kernel_rfl) d9,ig (f:=i8 C) (by kernel_rfl) d8,ig (f:=i7 C) (by kernel_rfl) d7,ig (f:=i6 C) (by kernel_rfl) d6,ig (f:=i5 C) (by kernel_rfl) d5,ig (f:=i4 C) (by kernel_rfl) d4,ig (f:=i3 C) (by kernel_rfl) d3,ig (f:=i2 C) (by kernel_rfl) d2,ig (f:=i1 C) (by kernel_rfl) d1,ig (f:=i0 C) (by kernel_rfl) d0,trivial⟩ (by kernel_rfl);have nm:((sU C).b 16||(sU C).b 32)=false:=by kernel_rfl
 refine⟨C,MA (λi=>([c0,c1,c2,c3,c4,c5,c6,c7,c8,c9,uN,uO,uP,uQ,uR,uS,uT]:List Addr).getD i 0) uL (OT nm (DF (sU C) (a8 ..))) (λfd f F s u=>?_) λbase _ _=>?_⟩
 ·obtain⟨⟨oc,od,kV,doc,pm,an,cdv,ct,kz,rfl,_,_⟩,_⟩:=F;exact .of_eq rfl
 ·have ext:en K mg R (λi=>([c0,c1,c2,c3,c4,c5,c6,c7,c8,c9,uN,uO,uP,uQ,uR,uS,uT]:List Addr).getD i 0):=OR X G rfl eR (λi x hx=>by
   match i,hx with
   |0,hx=>cases hx;exact e0
   |1,hx=>cases hx;exact e1
   |2,hx=>cases hx;exact e2
   |3,hx=>cases hx;exact e3
   |4,hx=>cases hx;exact e4
   |5,hx=>cases hx;exact e5
   |6,hx=>cases hx;exact e6
   |7,hx=>cases hx;exact e7
   |8,hx=>cases hx;exact e8
   |9,hx=>cases hx;exact e9
   |10,hx=>cases hx;exact yC
   |11,hx=>cases hx;exact ZV
   |12,hx=>cases hx;exact ZW
   |13,hx=>cases hx;exact ZX
   |14,hx=>cases hx;exact ZY
   |15,hx=>cases hx;exact ZZ
   |16,hx=>cases hx;exact Z0
   |n+17,hx=>simp[v5]at hx) zi zv h1 h2 h3
  have hw:v9 l.prog w K mg base (λi=>([c0,c1,c2,c3,c4,c5,c6,c7,c8,c9,uN,uO,uP,uQ,uR,uS,uT]:List Addr).getD i 0):=by
   have F:=AW (st:=Wd.qR) lW gW kW;exact⟨fW,_,Wd.MB F ext,mg_of X G aW,kW,F.binds (ps:=["_law_e"]) λ_ _ _ _ _ _ us hl=>match us,hl with|[_],_=>rfl⟩
  obtain⟨kk,h1,h2⟩:=(DY (PP X G z0 g0 y1 (λ_=>⟨R,ext⟩) (λ_=>hw) cn λ_=>⟨⟨cp,cd,co,cs⟩,aC,cm,ck⟩) (wq C) (OU C) (OV C) DF).1 (sU C) (a8 ..);have lv:dt (wq C)=74:=by kernel_rfl
  exact⟨kk,JQ nm h1,lv▸h2⟩
end K83
end
inductive PySem.W.Fast:Prop|tw11610713869031584213|tw3627602935460326828|tw13570527210674002185|tw16377701815996765993|tw9096324968436910000|tw9724731736662589521|tw12208049083825503158|tw2565330084220743152|tw8658082358176357770|tw13955282400948869232|tw2486784866448903807|tw2920501199549984873|tw17964865802259142983|tw13552249552332702079|tw363809397364169855|tw7243012583429078077|tw148435901345373164|tw1691832126823579336|tw6773721618706737679|tw6212769897036681693|tw12444167516763821664|tw1594421644283985274|tw7691565456855243361|tw11387529377261641629|tw9409106887885472885|tw2675783160641469301|tw12243895010848402420|tw9970444976764231681|tw13561913387616608330|tw11218315580445831750|tw12833896041170796899|tw5510060062876913692|tw1799452171772747721|tw3347947465466035896|tw737095181215611099|tw18127625743639079131|tw2245111496883732789|tw4628516921028550593|tw6052633552067664735|tw3114375358912015359|tw40901240002451535|tw16909447543431199135|tw771800422009798108|tw12938178894071254086|tw11661186585293214764|tw3375554686231509914|tw12038851057446097471|tw8768175935621511607|tw14945133528742215908|tw18251103910678835264|tw8616378188373820174|tw16947749547385780354|tw8236669312570474342|tw4471221617072329169|tw10118673861268293880|tw5985242540804035592|tw973168912734737178|tw8303020235075312977|tw16345768333602246853|tw10976782650614038709|tw18396256797890451202|tw4790005936433454791|tw11588755980969161192|tw17741850123801349186|tw15316144754981066225|tw8486778903426676838|tw4304465843324582749|tw12630175936902266581|tw15250638608494166162|tw6532885434222040564|tw8440927623146518695|tw5287571006397363249|tw6306244175350205349|tw2764385630642939982|tw8882121999398390684|tw11686584615479480816|tw11562734436320549037|tw2452505683147818174|tw6211882703587895082|tw8897784196520479332|tw6046887717988705528|tw4257476782989349694|tw8073818034944779257|tw15184604117895913187|tw11489729148526610856|tw5276972983749687077|tw1174915089640629294|tw11816969024623268320|tw7346241349334653221|tw14276279245400030995|tw10482084929411795963|tw11565128100377448090|tw17594326222534341063|tw16795518343279550769|tw18278077787574825752|tw8417657844602777920|tw6015192501732910006|tw6327192436312189336|tw4244094013222987701|tw2061570974891179041|tw6422677021115383244|tw16188461256151562226|tw1402435884383139071|tw3511586543726581313|tw313231086605321491|tw242160169534407115|tw7790779569548989775|tw15706323741900882344|tw16272731514676582999|tw1052524761210675841|tw15725478466625831505|tw2553928379720610440|tw7348064748122834488|tw9609608938770570235|tw11630186756589527174|tw15718900447853802374|tw15436985498839442439|tw16028982583644091154|tw16350786981988092856|tw12461709553219479146|tw6028026107628986364|tw5428545862384411769|tw14125184379687493990|tw884461118415231956|tw965712035565749511|tw13049628496895194702|tw13412086222227683116|tw1081668911363623250|tw210988702323465485|tw5479513693920080067|tw1206849580097286026|tw6127494508978244831|tw7523387946113309566|tw16752471336165896064|tw4255840634687876098|tw11679716621219337929|tw4088178253535925077|tw12158828249019529756|tw16958005642682074270|tw10946647449132019863|tw13289219391694411631|tw112810834370635415|tw16399883570984337301|tw2159550988548348368|tw2704259986663313996|tw10406803739759383794|tw4585739925949379611|tw2801967904308045000|tw9277313677474556935|tw5672240640990708984|tw6143811793923458739|tw17476430129998982730|tw14466627903310650814|tw231371396832403241|tw18056613199641008109|tw212785049450647025|tw17947037315910710231|tw12723728473384932667|tw7113993159104015424|tw12731474704277394295|tw5709692928460814433|tw1845191985572699040|tw1880340533856120700|tw11671853868553778371|tw7624299679406925997|tw12498199140501396637|tw11666735546458076049|tw14275472192485926543|tw5300141584444188892|tw8978698541330680730|tw12466086118727950092|tw17901149227299355297|tw3219018726910081164|tw11354427031471769840|tw12648068523240708711|tw4528518543110093905|tw14855120447101557817|tw18440748295087588046|tw18106034249723690223|tw4301153065869323532|tw10786813357010778872|tw3910912535809012127|tw7442436378443079062|tw4225741080643427271|tw15262173618507887366|tw12802450599358284994|tw3093746382913599681|tw16563580850204344710|tw17178988615229855247|tw3758473249858165807|tw10677204091313394185|tw3035693176729495693|tw7180076650003819127|tw11030333456061449119|tw15037559976916612269|tw9192114696431004074|tw5835272006247255457|tw4037880819314916441|tw13440713744900780158|tw520539839355483015|tw16199753901739273352|tw6837468915427348655|tw8286781959054221828|tw12181404159395287616|tw8432842155320452463|tw15023943619255240517|tw7573485333047350490|tw7474809251566441215|tw10983081392061987442|tw831801267895736160|tw7062586352757816775|tw5179466027603139290|tw12847522982180449476|tw5959606884806362143|tw3487822671954294500|tw16696803781356279497|tw1866690936397021953|tw10014257261620527052|tw18268113377153456268|tw13127935482121189904|tw2902751740491495099|tw7577863169057653230|tw12332632871822455627|tw14926507736756259211|tw11188880446801178578|tw17838094631512161881|tw5190518371308197979|tw8533027524574850625|tw7464763699476878456|tw1718861288616964753|tw8310941041864396397|tw15193633707834605560|tw1773457237270457520|tw15393598903543816424|tw932282148484905806|tw4315616894284471691|tw11372510009191225014|tw185421979060083231|tw4763435346373122392|tw7864450706320242610|tw17241245372563290924|tw18366822861161123599|tw3731535343545153929|tw14028109135925354302|tw12016166428995665362|tw17466602836720135027|tw16621344610233679251|tw1219144092084252200|tw7210430132945895582|tw11990669883056853411|tw1658666160983719410|tw16632136498054647800|tw9172658151774414096|tw5138247879505414854|tw5628844945624261357|tw5337562032219799017|tw27263570274277814|tw12451098424018850356|tw12438197723061775077|tw13976317255071557918|tw2463566660942892488|tw11653464844192712751|tw5644030397260118236|tw9053931558621794252|tw6245211041663919352|tw10391665468721307573|tw1191442142330848980|tw6189289206384024530|tw3534390011717022307|tw12229645468681586689|tw15392714862114019945|tw9213387217073891386|tw17903734005881048594|tw4777054274945176329|tw12772595610611227595|tw12267956825564560395|tw11116376515003144914|tw1925131026886500411|tw14998601587013538353|tw15496540836273305047|tw15443989288640305857|tw13962940229020438493|tw1952034604194607277|tw18038027212375174012|tw10106282687919058410|tw14826814134286395415|tw17963737320245534537|tw7272914573391661901|tw17032894272120505815|tw5596778453329940548|tw15451668052932697008|tw5669062956278502548|tw13368744604788142444|tw14700507993084437701|tw13752361427637999616|tw4527611079231683909|tw14962289337052327024|tw721565184293751931|tw6910554750837843735|tw14762523054037409978|tw7115367320068920574|tw1221377615645401033|tw6939007383027481894|tw7198399690210645635|tw11318832299279849434|tw16916395138780137299|tw4210003137712077761|tw15122312524720451577|tw15790183613882718667|tw5503667773968008796|tw6964959279841550897|tw14403041053645906204|tw4033271210501350948|tw11282744972853227974|tw15803538943487630414|tw18376468281655427923|tw13553695067265987693|tw6568656897685439367|tw4514104615956522432|tw1338526042158305848|tw2625711301591318533|tw1810255023919233386|tw10162085798715458547|tw5027281535877076812|tw14086177329544046361|tw7863741193879825594|tw16845562648632262217|tw9780829885466175031|tw14649774682712586611|tw14330908863879938483|tw14594973759793774798|tw7727924107968255261|tw8597618427967820782|tw16112089135863453702|tw2077225136950734146|tw6295816266503990288|tw2742134453999038148|tw16319989110916277933|tw3073492842935293512|tw2196786137117494700|tw9199651738478236260|tw370947279181472092|tw14705883577960801508|tw1697126411150294696|tw13046766359211041103|tw4947318743993300084|tw10397231026832955926|tw17380420445789895623|tw3850133446249592545|tw14492911066355469991|tw10533177693393357557|tw9797343742600216001|tw18341576189739031825|tw7745849077427129386|tw1708393676903678413|tw13177743754406958144|tw8801912007086857855|tw469688230612108713
open_top hdk83 for PySem.Challenge.rw_rimehold_k83_bounds_of_ledgers

set_option maxRecDepth 100000 in
set_option maxHeartbeats 0 in
theorem PySem.Challenge.cw_rimehold_k83_bounds_of_ledgers_holds : PySem.Challenge.rw_rimehold_k83_bounds_of_ledgers.Holds :=
 hdk83 (by
 k_fill
 refine L2.DL.walk_o (l:=PySem.Challenge.rw_rimehold_k83_bounds_of_ledgers) (k:=74) (fn:=K83.A7) ⟨rfl,by decide,by decide,rfl⟩ rfl rfl (λw h Y=>PySem.W.kIn_of Y) ?kq_nl (λC ns h=>K83.law_true C ns (by omega)) ?kq_F
 case kq_nl =>
  intro w;kernel_rfl
 case kq_F =>
  intro w mg fa h KX G hmg
  refine' K83.OY KX G hmg ?kq_aC ?kq_z0 ?kq_g0 ?kq_y1 ?kq_cp ?kq_cd ?kq_co ?kq_cs ?kq_cm ?kq_ck ?kq_cn ?_ ?_ ?_ ?_ ?_ ?_ ?_ ?_ ?_ ?_ ?_ ?_ ?_ ?_ ?_ ?_ ?_ ?_ ?_ ?_ ?_ ?_ ?_ ?_ ?_ ?_ ?_ ?_ ?_ ?_ ?_ ?_ ?_ ?_ ?_ ?_ ?_ ?kq_eR ?kq_e0 ?kq_e1 ?kq_e2 ?kq_e3 ?kq_e4 ?kq_e5 ?kq_e6 ?kq_e7 ?kq_e8 ?kq_e9 ?kq_e10 ?kq_e11 ?kq_e12 ?kq_e13 ?kq_e14 ?kq_e15 ?kq_e16 ?kq_zi ?kq_zv ?kq_h1 ?kq_h2 ?kq_h3 ?kq_aW ?kq_lW ?kq_gW ?kq_kW
  (case kq_aC=>k_is)
  (case kq_z0=>kernel_rfl)
  (case kq_g0=>kernel_rfl)
  (case kq_y1=>kernel_rfl)
  (case kq_cp=>k_is)
  (case kq_cd=>k_is)
  (case kq_co=>k_is)
  (case kq_cs=>k_is)
  (case kq_cm=>k_is)
  (case kq_ck=>k_is)
  (case kq_cn=>kernel_rfl)
  (case kq_eR=>k_is)
  (case kq_e0=>k_is)
  (case kq_e1=>k_is)
  (case kq_e2=>k_is)
  (case kq_e3=>k_is)
  (case kq_e4=>k_is)
  (case kq_e5=>k_is)
  (case kq_e6=>k_is)
  (case kq_e7=>k_is)
  (case kq_e8=>k_is)
  (case kq_e9=>k_is)
  (case kq_e10=>k_is)
  (case kq_e11=>k_is)
  (case kq_e12=>k_is)
  (case kq_e13=>k_is)
  (case kq_e14=>k_is)
  (case kq_e15=>k_is)
  (case kq_e16=>k_is)
  (case kq_zi=>k_is)
  (case kq_zv=>k_is)
  (case kq_h1=>kernel_rfl)
  (case kq_h2=>kernel_rfl)
  (case kq_h3=>kernel_rfl)
  (case kq_aW=>k_is)
  (case kq_lW=>k_is)
  (case kq_gW=>k_is)
  (case kq_kW=>k_is)
  any_goals exact L2.DL.dIn_mk (by k_is) (by k_is) (by k_is) (by k_is)
  any_goals exact L2.DL.dInM_mk (by k_is) (by k_is) (by k_is) (by k_is) (by k_is)
 )
