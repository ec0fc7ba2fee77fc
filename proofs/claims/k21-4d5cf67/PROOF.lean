import PyProof.Rows.All
import Wide.All
import OpenK.AllK
import Wide.FinOn
import Lean
import PyProof.EqAt
import PyProof.EqKinds
import PyProof.TupleCall
import PyProof.LongRange
import PyProof.Walks
import PyProof.ListMulRoad
import PyProof.ReprRoads
import PyProof.NeData
import PyProof.P3In
import PyProof.ZipIter
import PyProof.Draws
import PyProof.TupleIter
import PyProof.Rows.StrRules
import PyProof.CompUse
import PyProof.ListRange
import KE.KDictLaws
import PyProof.EnumFor
import PyProof.EnumMake
import PyProof.EnumStmt
import PyProof.ConsumeWalk
import KE.KMinKey
import PyProof.ListNew
import PyProof.Rows.SetFrom
import PyProof.WalksMore
import KE.KDictList
import PyProof.DictWalks
import KE.KDictOf
import PySem.Challenge.RW_rimehold_k21_ripeness_hour_by_hour
set_option Elab.async false
set_option linter.all false
set_option maxRecDepth 100000
set_option maxHeartbeats 4000000
set_option exponentiation.threshold 3000
set_option hygiene false
set_option compiler.extract_closed false
local macro_rules|`(za4)=>`((.d (oI (dR q.1))))
local macro_rules|`(za3)=>`((fC (d2 af fK (dV 10) (gq af (fc (d2 af ax (dV 11) zj) (fc (d2 af fK (d2 af fK (d2 af ax (dV 11) zj) zf) (fq K1.fm 2 (fc (dV 2) (fc (dC (.int 20)) fg)))) fg)))) (fe 10)))
local macro_rules|`(za2)=>`((PyData.shownAll (bJ l)))
local macro_rules|`(za1)=>`((SetTable.grown cW.size))
local macro_rules|`(za0)=>`((fU I q zi))
local macro_rules|`(zaZ)=>`((.lst l))
local macro_rules|`(zaY)=>`((fC (fq aH.iQ 4 (fc (dV 2) (fc (dV 3) (fc (dC (.int 16)) (fc (d2 af ax (gq af (fc (dC (.int 8)) (fc (dC (.int 40)) fg))) (fq K1.fm 2 (fc (dV 2) (fc zr fg)))) fg))))) (fe 4)))
local macro_rules|`(zaX)=>`([x0,x1,x2,x3,xN h,xN x,xN q.1,ae (.d (oI q.2.1)),xN q.2.2,w9])
local macro_rules|`(zaW)=>`((fc (dV 0) fg))
local macro_rules|`(zaV)=>`((pt bx n q))
local macro_rules|`(zaU)=>`((.to h' l r))
local macro_rules|`(zaT)=>`((G.e O _ _ a))
local macro_rules|`(zaS)=>`((af,eval e X.env))
local macro_rules|`(zaR)=>`((fr (fe 3) (fr (fe 4) fR)))
local macro_rules|`(zaQ)=>`((.ref it))
local macro_rules|`(zaP)=>`((fv (gf (rN (dV 2) (gq af (fc (dV 3) zZ)))) (gf (rN (dV 2) (fQ af [ag,ae 0,ae 3] (rj (fc zf (fc (d2 af fK zp zf) fg))) (fe 0) fS (d2 af fK (dV 2) (d2 af c6 (dV 0) (d2 af ax (dV 1) zp))))))))
local macro_rules|`(zaO)=>`((∀ (s:aq) (u:ai),BindsTo s fd ⟨[u],[]⟩ [("_law_script",u)]))
local macro_rules|`(zaN)=>`([x0,xN h,xB bx.length,ae (.d (enc q1)),ae (.d x),ae (.d (dG q1))])
local macro_rules|`(zaM)=>`((.b bx.length))
local macro_rules|`(zaL)=>`((d2 af ax (dV 0) zf))
local macro_rules|`(zaK)=>`((fc (dV 3) fg))
local macro_rules|`(zaJ)=>`((List Key×D))
local macro_rules|`(zaI)=>`((Option Nat))
local macro_rules|`(zaH)=>`((kG (dB (d2 af aT (d2 af ax (dV 2) zf) (dC (.str "in")))) (dB (d2 af aT (d2 af ax (dV 2) zr) (dV 1)))))
local macro_rules|`(zaG)=>`((Builtin.SmallTypes.nextOf (.ref i1) >>= _))
local macro_rules|`(zaF)=>`((seqObj "list" vs.toArray 0))
local macro_rules|`(zaE)=>`((fv (gf (kU (bV (dV 2) "words") (fN (fc (dV 3) (fc (fq aH.gF 3 (fc (dV 0) (fc (dV 2) (fc (dV 3) fg)))) fg))))) (gf (kU (bV (dV 2) "at") (fN (fc (d2 af ax (dV 3) zj) (fc (wz af (bV (dV 2) "there")) fg)))))))
local macro_rules|`(zaD)=>`((.d (.aA (bh (pre h ps [] [] qs).2))))
local macro_rules|`(zaC)=>`((d2 af ax (dV 0) zj))
local macro_rules|`(zaB)=>`((m.e c af af b))
local macro_rules|`(zaA)=>`((ws.map ae++List.replicate (n-ws.length) ag))
local macro_rules|`(zaz)=>`((EP X pins σ Q))
local macro_rules|`(zay)=>`((by decide +kernel))
local macro_rules|`(zax)=>`((fv (gf (kU (dV 2) (fN (fc (dV 3) (fc (d2 af fK (d2 af fK (dV 3) zf) (fq K1.fm 2 (fc (dV 0) zF))) fg))))) (fC (d2 af fK (d2 af fK (d2 af ax (d2 af ax (dV 2) (xW zf)) zf) zf) (fq K1.fm 2 (fc (dV 0) zF))) (fe 3))))
local macro_rules|`(zaw)=>`((ha pins s σ H _ I h))
local macro_rules|`(zav)=>`((.Assign [.Tuple [.Name x px,.Name y py] kt pt] (.Tuple [a,b] k2 nj) pos))
local macro_rules|`(zau)=>`((.lst (S.map cL)))
local macro_rules|`(zat)=>`((fC (fq K2.jT 3 (fc (dV 2) (fc (fq K2.jk 2 (fc (dV 2) (fc (d2 af ax (gq af (fc (dC (.int 9)) (fc (dC (.int 25)) fg))) (fq K1.fm 2 (fc (dV 2) (fc zr fg)))) fg))) zZ))) (fP 3 (fr (fe 5) (fr (fe 6) (fr (fe 7) fR))))))
local macro_rules|`(zas)=>`((kk K q.1))
local macro_rules|`(zar)=>`((d2 af cX (dV 4) (d2 af pR (d2 af cX (dV 3) (dV 5)) (d2 af ax (dV 0) zp))))
local macro_rules|`(zaq)=>`((∀ c o,c≠z->c≠TO->c≠i1->c≠i2->s.heap.get? c=ae o->h'.get? c=ae o))
local macro_rules|`(zap)=>`((.d (.bl ah)))
local macro_rules|`(zao)=>`((.d (.lst (S.map cL))))
local macro_rules|`(zan)=>`((g,word ps K R g,((look R (aZ g)).map D.int).getD .non,dG g))
local macro_rules|`(zam)=>`((List W))
local macro_rules|`(zal)=>`((fr (fe 0) (fr (fe 1) fR)))
local macro_rules|`(zak)=>`((.lst ((dS ps [] [] qs).map cL)))
local macro_rules|`(zaj)=>`((cP rl hold op q.2 ps qs l))
local macro_rules|`(zai)=>`((s.heap.push { cls:=.type "dict",data:=.dict #[] }))
local macro_rules|`(zah)=>`((!t.plain&&decide (es.size>1)))
local macro_rules|`(zag)=>`((.dK ao))
local macro_rules|`(zaf)=>`(([e].length+([]:List Keyword).length+(if ([]:List Keyword).isEmpty then 0 else 1)<30))
local macro_rules|`(zae)=>`((.d (.str (word ps K R g))))
local macro_rules|`(zad)=>`((fv (fC (fq cT.gG 2 (fc (dV 2) (fc (dV 6) fg))) (fe 7)) (aM (dB (c8 af (dV 3) (dV 7))) (fv (fC (cg (dV 7) (dV 3)) (fP 2 (fr (fe 8) (fr (fe 9) fR)))) (fC (d2 af fK (dV 5) (fq a9.jp 6 (fc (dV 0) (fc (dV 1) (fc (dV 2) (fc (dV 8) (fc (dV 9) (fc (dV 6) fg)))))))) (fe 5))) aV)))
local macro_rules|`(zac)=>`((.m (ml bx.length)))
local macro_rules|`(zab)=>`((fv (fC (d2 af ax (cg (dV 1) (dV 4)) zj) (fe 5)) (aM (nL (dB (d2 af (inD af) (fN (fc (dV 2) (fc (dV 5) fg))) (d2 af ax (dV 0) zr))) (dB (d2 af (inD af) (fN (fc (dV 5) zL)) (d2 af ax (dV 0) zr)))) (gf (kU (dV 3) (fN (fc (dV 4) (fc (d2 af ax (cg (dV 1) (dV 4)) zf) fg))))) aV)))
local macro_rules|`(zaa)=>`((.tup [.tup (rs.map D.int),k,p,.int hold]))
local macro_rules|`(zZ)=>`((fc (dV 4) fg))
local macro_rules|`(zY)=>`((.Call (.Name x p) (e::es) [] pos))
local macro_rules|`(zX)=>`((bx++[.dT (gs.map ke)]))
local macro_rules|`(zW)=>`((cE ps K R g))
local macro_rules|`(zV)=>`((.aF h' l k r p w))
local macro_rules|`(zU)=>`((dB (d2 af aT (dV 4) (dC (.str "in")))))
local macro_rules|`(zT)=>`((X.comp N scope cl s3 H3 C fp))
local macro_rules|`(zS)=>`((.refl F1 r1))
local macro_rules|`(zR)=>`((ck ps K R g))
local macro_rules|`(zQ)=>`((((aU items.size 0 lo:Nat):Int)==0&&(1:Int)==1&&(aU items.size items.size hi-aU items.size 0 lo)==items.size))
local macro_rules|`(zP)=>`((aK (ck ps K R g) (cE ps K R g)))
local macro_rules|`(zO)=>`((fv (fC (fq aH.gW 3 (fc (dV 0) (fc (dV 1) (fc (dV 3) fg)))) (fe 6)) (fv (aM (kG (dB (d2 af aT (d2 af ax (dV 6) zf) (dC (.str "in")))) (dB (d2 af eK (fq K1.fm 2 (fc (dV 0) (fc zp fg))) zj))) (fC (d2 af fK (fN (fc (d2 af pR (d2 af ax (dV 6) zj) zp) fg)) (kJ af (dV 6) (kI zf) kT)) (fe 6)) aV) (rR (dV 4) (dV 6) (dC (.bl ah))))))
local macro_rules|`(zN)=>`((m.e c af af a))
local macro_rules|`(zM)=>`((fv (fC (rF (fq K21.jt 5 (fc (dV 3) (fc (dV 5) (fc (dV 8) (fc (dV 12) (fc (dV 13) fg))))))) (fe 14)) (aM (dB (d2 af dO (fQ af [ag,ae 3,ae 5,ae 6,ae 12,ae 13] (cS (fc zr fg)) (fe 0) fS (rF (fq a9.jq 5 (fc (dV 1) (fc (dV 2) (fc (dV 3) (fc (dV 4) (fc (dV 5) fg)))))))) (gq af (fc (dV 14) (fc (dV 14) fg))))) (fG (dC (.bl af))) aV)))
local macro_rules|`(zL)=>`((fc (dV 2) fg))
local macro_rules|`(zK)=>`((.ref s.heap.objs.size))
local macro_rules|`(zI)=>`((ps.map dP))
local macro_rules|`(zH)=>`((X.comp N scope cl s H C fp))
local macro_rules|`(zG)=>`((pt bx n p))
local macro_rules|`(zF)=>`((fc (dV 1) fg))
local macro_rules|`(zE)=>`((G.e O _ _ _))
local macro_rules|`(zD)=>`((fv (aM (dB (d2 af dO (dV 7) (dC (.str "takes")))) (fv (gf (kU (dV 2) (fN (fc (dV 5) (fc (dV 7) (fc (dC .non) (fc (dC .non) fg))))))) ID) aV) (fv (gf (kU (dV 2) (fN (fc (dV 5) (fc (dV 7) (fc (vc (dV 4) (dV 6)) (fc (fq aH.fL 1 (fc (dV 5) fg)) fg))))))) (fv (aM (dB (d2 af aT (d2 af ax (dV 5) zf) (dC (.str "in")))) (k5 (dV 3) (dV 6) (d2 af ax (dV 5) zp)) aV) (aM (dB (d2 af aT (d2 af ax (dV 5) zf) (dC (.str "out")))) (uz (dV 4) (dV 6)) (k5 (dV 4) (dV 6) (fq aH.fL 1 (fc (dV 5) fg))))))))
local macro_rules|`(zC)=>`((m env bx))
local macro_rules|`(zB)=>`((fv (fC (d2 af ph (d2 af c6 (d2 af fK (d2 af fK (d2 af ph (dV 0) (dC (.int 2147483629))) (d2 af c6 (dC (.int 7919)) (dV 2))) zf) (dC (.int 48271))) (dC (.int 2147483647))) (fe 3)) (fv (fC (d2 af ph (d2 af fK (d2 af fK (d2 af c6 (dV 3) (dV 3)) (d2 af c6 (dC (.int 69621)) (dV 2))) (dC (.int 7))) (dC (.int 2147483587))) (fe 3)) (fC (d2 af fK (d2 af c6 (dV 1) (dC (.int 2147483587))) (dV 3)) (fe 1)))))
local macro_rules|`(zA)=>`((.aF h0 l k r p w))
local macro_rules|`(zz)=>`((fc (dC (.int 4)) fg))
local macro_rules|`(zx)=>`((s.heap.objs.size+1))
local macro_rules|`(zw)=>`((.ListComp elt [⟨tg,iter,ifs,0⟩] scope pos))
local macro_rules|`(zt)=>`((.d (enc g)))
local macro_rules|`(zr)=>`((dC (.int 2)))
local macro_rules|`(zq)=>`((k==NameKind.free&&env.scope.kind==.function&&env.kindOf n==ae .cell))
local macro_rules|`(zp)=>`((dC (.int 3)))
local macro_rules|`(zo)=>`((.lst (gs.map enc)))
local macro_rules|`(zm)=>`((.tup (op.map dP)))
local macro_rules|`(zk)=>`((by simp;lia))
local macro_rules|`(zj)=>`((dC (.int 0)))
local macro_rules|`(zi)=>`((by simp))
local macro_rules|`(zh)=>`((model prog w))
local macro_rules|`(zg)=>`((model X.prog X.w))
local macro_rules|`(zf)=>`((dC (.int 1)))
local macro_rules|`(ze)=>`((by decide))
local macro_rules|`(zd)=>`((by lia))
local macro_rules|`(za)=>`((hs rs ks ps hd))
local macro_rules|`(zc)=>`(rfl)
local macro_rules|`(zu)=>`(Prop)
open Lean Parser.Tactic in
def gp0:Nat->Syntax->MacroM (TSyntax `rcasesPat)
|0,_=>Macro.throwUnsupported
|n+1,s=>match s with
|`(#[$xs,*])=>do
  let ys<-xs.getElems.mapM fun x=>do`(rcasesPatLo|$(<-gp0 n x):rcasesPat)
  `(rcasesPat|⟨$ys,*⟩)
|`(_)=>`(rcasesPat|_)
|`($i:ident)=>if i.getId==`rfl then`(rcasesPat|rfl)else`(rcasesPat|$i:ident)
|_=>Macro.throwUnsupported
local macro_rules|`(tactic|let#[$xs,*]:=$e)=>do let p<-gp0 9 (<-`(#[$xs,*]));`(tactic|obtain $p:rcasesPat:=$e)
local macro_rules|`(#[$x,$xs,*])=>`(⟨$x,$xs,*⟩)
local macro_rules|`(tactic|erw[$[$r:term],*]$[$l:location]?)=>`(tactic|simp only[$[$r:term],*]$[$l]?)
local macro_rules|`(tactic|ext $[$r:ident]*)=>`(tactic|rename_i $[$r:ident]*)
set_option hygiene true
noncomputable section
local macro_rules|`(tactic|show $a:term)=>`(tactic|exact $a)
variable {a it p:PySem.Addr}{o:PySem.Obj}{u:PySem.Value}{P prog:PySem.Program}{w:PySem.World}{h h' base:PySem.Heap}{x:PySem.Str}{e tg iter:PySem.Expr}{pins:List (PySem.Addr × PySem.Obj)}{t' j n ep:Nat}{ch fp r:List PySem.Addr}{N:List PySem.Str}{M:PySem.Model}{A:PySem.Around}{E Q:PySem.Value -> PySem.Shared -> zu}{t:PySem.SetTable}{α:Type}{R:PySem.Result -> PySem.Shared -> zu}{pos pos' apos:PySem.Pos}{op:PySem.CmpOp}{K:PySem.W.Frag}{st:PySem.Stmt}{es ifs:List PySem.Expr}{vs us:List PySem.Value}{f:PySem.Value -> PySem.Value -> PySem.Sem PySem.Value}{mA mg:PySem.Str -> Option PySem.Value}{fd:PySem.FuncData}{ps:List (Int × Int)}{qJ:Array (Option PySem.Value)}{items:Array PySem.Value}{ns rl:List Int}{q:Int × List Int}{cl:Nat -> PySem.Addr}{bo:Bool}{hold:Int}{kl:List (Int × List Int)}
open PySem renaming wpAny_bind->ak,wpAny_pure->ay,sizeLine_eq->br,wpAny_newObj_type->eR,wpAny_holding->hG,wpAny_call_entry->hV,wpAny_mono->k7,wpAny_field->k8,mem_of_lookup->nQ,strLen_append->pG,wpAny_truthy_bool->p7,wpAny_rule->p8,wpAny_callSpecial?_slot->qK,wpAny_setField->rY,wpAny_Call_Name_kw->uD,codeAny_builtin->uE,wpAny_seqItems->uF,wpAny_setField_rec->uG,wpAny_attempt->uH,wpAny_askSetting->uI,wpAny_typeOf->vw,wpAny_setState_of->vz,wpAny_load->wQ,codeAny_mono->wR,not_mem_of_deeper->wU,wpAny_fieldsOf->wV,wpAny_pyIter_list->yx,wpAny_passesOwn->yy,wpAny_newList->yz,tupleKind_room_in1->yA,wpAny_of_eq->yB,wpAny_onRaise->yC,wpAny_pyIter_slot->yD,wpAny_isInstance->yE,intKind_is->yF,wpAny_setEntries_of->yG,wpAny_standAt->E6,pushCells_keeps->E7,call_meetsIn->E8,wpAny_handled->E9,wpAny_throw->Ha,isSubtype_stop->Hb,plainId_quiet->Hc,wpAny_Name->QC,wpAny_execs_nil->QD,concat_meets->QE,noFill_tuple_add->QF,seq_tuple_add->QG,evalPart_none->QH,seqIndex_of->QI,call_meets->QJ,wpAny_runValue->QK,call_repr_slot->QL,wpAny_updateSeq_pair->QM,wpAny_letGo->QN,wpAny_newTuple->QO,wpAny_pyIter_tuple->QP,fits_of_scanBound->QR,wpAny_typeNameOfWhole_keyiter->QS,wpAny_typeNameOf_keyiter->QT,wpAny_isOneOf_keyiter->QU,piled_cons->QV,wpAny_eqBool_int->aam,wpAny_loadName_local->aan,wpAny_loadName_cell->aao,wpAny_Compare1->aap,wpAny_isTrue_Compare1->aaq,wpAny_execs_cons->aar,wpAny_assign_Name->aas,wpAny_bindName->aat,wpAny_pyIter_range->aau,rangeSize_one->aav,intBits_le_64->aaw,name_of_addr->aax,wpAny_sequenceKey->aay,evalPart_some->aaz,wpAny_Slice->aaA,wpAny_getItem_list_slice->aaB,call_list_seq->aaC,wpAny_alloc->aaD,wpAny_comprehension_free->aaE,codeAny_compStart_list->aaF,wpAny_specialOf->aaG,wpAny_Dict_empty->aaH,wpAny_Call_method->aaI,tupleText_mem_le->aaJ,listText_mem_le->aaK,listText_nil->aaL,dictText_mem_le->aaM,wpAny_storeSet_of->aaN,codeAny_of_tree->aaO,sub_set_self->aaP,typeLookup_type->aaQ,builtinLookup_eq_fast->aaR,isSubtype_type->aaS,entryFor_alias->aaT,wpAny_setEpoch_of->aaU,wpAny_updateSeq->aaV,wpAny_pyIter_keyiter->aaW,wpAny_dictEntries->aaX,wpAny_dictEpoch->aaY
open Nat renaming le_refl->aD,ne_of_lt->cB,le_trans->cC,zero_le->eS,lt_of_lt_of_le->hZ,lt_irrefl->kC,lt_succ_self->nF,le_of_lt->nR,le_succ->qb,lt_succ_of_lt->qL,sub_self->tH,ne_of_gt->vA,le_of_not_lt->vB,le_of_eq->wW,le_add_right->wX,lt_or_ge->wY,lt_of_le_of_lt->yH,lt_trans->Hd,sub_zero->He,zero_add->Hf,le_succ_of_le->Hg,min_eq_left->QW,not_lt_zero->QX,succ_le_succ->aaZ,max_eq_right->aa0,lt_of_succ_lt_succ->aa1,mod_lt->aa2,add_sub_cancel->aa3
open Bool renaming and_eq_true->aG,false_ne_true->c9,eq_iff_iff->k9,not_eq_true'->rZ,or_eq_true->wZ,false_eq_true->yI,and_self->yJ,false_and->Hh,false_or->QY,true_and->QZ,true_or->aa4
open List renaming map_cons->aO,length_map->a6,length_cons->bw,mem_cons_of_mem->bB,mem_cons_self->bE,size_toArray->bL,map_map->bO,length_append->cZ,getElem?_eq_getElem->dq,getElem?_append_right->dU,getElem?_append_left->eD,mem_append_right->kg,lookup_cons->kD,getElem?_map->kK,mem_cons->bz,nil_append->kL,find?_cons->ng,all_eq_true->c5,length_nil->nS,filterMap_cons->pH,prefix_refl->pI,not_mem_nil->pJ,getElem?_set_self->qf,length_set->qh,any_cons->qi,mem_append_left->qM,mem_of_getElem?->qN,map_congr_left->qO,append_assoc->se,getElem?_eq_none->sf,getElem_mem->sj,getElem?_set_ne->tJ,all_cons->tK,all_map->tL,append_nil->uJ,filter_cons_of_neg->uK,filter_cons_of_pos->uL,mem_map_of_mem->uM,forIn_nil->vC,zip_cons_cons->vD,map_append->vE,set_append->vF,length_take->xa,map_nil->xb,forIn_cons->xc,prefix_append->xf,nodup_append->vG,length_range->xg,ext_getElem?->xh,length_filter_le->xi,eq_nil_of_length_eq_zero->xj,any_eq_true->kM,exists_cons_of_length_pos->xk,pairwise_map->tM,any_map->yK,mem_map->bA,getD_eq_getElem?_getD->yL,any_eq_false->Hi,length_drop->Hj,reverse_cons->Hl,replicate_succ->Hm,flatten_cons->Hn,cons_append->Hq,mem_singleton->kN,take_length->Hr,filter_cons->Ht,zipIdx_nil->Hu,take_of_length_le->Hv,set_append_left->Hw,mem_filter->sk,mem_of_find?_eq_some->Hx,find?_isSome->Hy,find?_append->Hz,foldl_cons->HC,of_mem_zip->Q0,length_replicate->Q3,filterMap_map->Q4,nodup_cons->tO,zipIdx_cons->Q5,zip_nil_left->Q6,length_eraseIdx_of_lt->Q7,find?_some->Q8,take_append->Q9,filterMap_nil->WZ,getElem?_replicate->aa5,getElem?_take_of_lt->aa6,take_sublist->aa7,length_singleton->aa8,take_zero->aa9,drop_zero->aba,mergeSort_perm->abb,pairwise_mergeSort->abd,nodup_nil->abe,forIn_toArray->abf,map_snd_zip->abg,zip_nil_right->abh,mapM_toArray->abi,getElem_of_mem->abj,pairwise_lt_range->abk,range_succ_eq_map->abl,getElem?_cons_zero->abm,set_set->abn,map_id->abo,length_zip->abp,find?_map->abq,filter_map->abr,mem_append->nT,find?_eq_none->abt,length_flatten->abu,sum_cons->abv,any_nil->abw,head?_cons->abx
open PySem.Heap renaming get?_push_of_some->aX,lt_size->bj,get?_push_size->bF,get?_update_self->sq,size_push->tQ,get?_update_other->HD,get?_none_of_le->W0,size_update->aby
open Option renaming bind_some->cb,map_some->nG,isSome_map->pK,getD_some->vH,getD_none->W2
open PyProof.Rows renaming wpS_bind->cG,wpS_pure->dW,step_dedup->nh,size_push'->uN,listItems_at->xl,wpS_get->xm,wpS_forRange->xn,callWith_type1->HE,slot_tuple_getitem->xo,listUpdate_at->HF,mirror_perm->HG,wpS_reverse->HI,wpS_mono->HJ,assignInOrder_cons->W3,tail_any->W4,kind_sorted->W5,plain_sorted->W6,entry_sorted->W7,args_sorted1->W8,slot_list_sort->W9,entry_list_sort->Xa,args_list_sort->Xb,wpS_lift->Xc,wpS_modify->Xd,mem_zip_self->Xe,seqEpoch_at->Xf,pairsOf_size->Xg,assignInOrder_nil->abz,slicePart_none->abA,entry_tuple_getitem->abB,args_tuple_getitem->abC,tupleItemsOf_->abD,subscriptTail_builtinR->abE,get?_update_seq->abF,list_sort_tree->abG,sortedAll_at->abH,sortedAll_old->abI,lt_int->abJ,pairsOf_toList->abK,callWith_builtin1->aeF
open Int renaming toNat_natCast->kh,eq_ofNat_of_zero_le->yM,le_refl->yN,mul_one->HK,emod_nonneg->Xh,emod_lt_of_pos->Xi,ediv_one->abL,ediv_nonneg->abM,zero_add->abN,mul_add->abO,mul_ediv_add_emod->abP
open Array renaming length_toList->nH,getElem?_toList->qP,toList_push->Xj,getElem?_eq_none->Xk,getElem_toList->abQ,toList_extract->abR
open PySem.Obj renaming data_mapFields->qj,isFreed_of_fields->xp,cls_mapFields->yO
open PySem.W renaming kia_one->qQ,kitx_list->abS,kitx_dict->abT,cellsFrom_some->abU
open PySem.Calls renaming spliced_nil->xq,spliced_cons->xr,callWith_builtin->Xl,evalArgs_plain->Xm,call_function_entry->Xn
open PyProof.Rows.KeyOrd renaming kle_refl->xt,kle_trans->HL,kle_of_klt->HM,kle_antisymm->abV
open PySem.Around renaming under_plainId->yP
open PySem.F renaming slot_tuple_iterator_next->HN,slot_zip_next->yQ,slot_tuple_add->Xo,entry_tuple_add->Xp,args_tuple_add_2->Xq,slot_dict_get->Xr,plainAttrs_list->Xt,slot_dict_delitem->abW,slot_dict_pop->abX,entry_dict_get->abY,args_dict_get_2->abZ,plainAttrs_dict->ab0,entry_tuple_iterator_next->ab1,args_tuple_iterator_next_1->ab2,slot_zip_iter->ab3,entry_zip_next->ab4,args_zip_next_1->ab5,plain_set_new->ab6,slot_set_iter->ab7,plain_list_iadd->ab8,slot_dict_iter->ab9,slot_dict_keyiterator_next->Xu
open PySem.SeqAt.EqAt renaming str_str->Xv,int_str->aca,str_int->acb,int_int->acd,none_bool->aeG,none_int->aeH,none_str->aeI,bool_none->aeJ,bool_bool->aeK,bool_int->aeL,bool_str->aeM,int_none->aeN,int_bool->aeO,str_none->aeP,str_bool->aeQ
open PySem.PyData renaming shownKv_eq->Xw
open PyProof.Rows.F renaming plain_set_update_loop->Xx,entry_set_update_loop->ace
open PyProof.Rows.LSm renaming kept_iter->acf
open PySem.Code renaming quiet_builtin->acg
open PySem.ReprEntriesK renaming of_two->ach
open Function renaming comp_def->aci
open PySem.EqNone renaming eq_none_none->aeR,eq_none_bool->aeS,eq_none_int->aeT,eq_none_str->aeU,eq_bool_none->aeV,eq_int_none->aeW,eq_str_none->aeX,ne_none_none->aeY,ne_none_bool->aeZ,ne_none_int->ae0,ne_none_str->ae1,ne_bool_none->ae2,ne_int_none->ae3,ne_str_none->ae4
open PySem.EqMixed renaming eq_bool_str->ae5,eq_int_str->ae6,eq_str_bool->ae7,eq_str_int->ae8,ne_bool_str->ae9,ne_int_str->afa,ne_str_bool->afb,ne_str_int->afc
open PySem.AutoSeq1 renaming list_extend_list_list_0->afd,sub_tuple_tuple->afe
open PySem.MeetsSeq renaming list_pop_at->aff
open PySem.SeqAt.RcNeAt renaming lists_lengths->afg
open List.Pairwise renaming imp_of_mem->afh
open PySem.SetTable renaming fits_plain_off->afi
open List.Perm renaming append_left->afj,of_eq->afk
open PySem.SeqAt renaming eqv_refl->afl
open Option renaming some->ae,none->ag
open Bool renaming true->ah,false->af
open PySem renaming Value->ai,Shared->aq,Heap->aI,Addr->aj,Expr->au,Around->eE,Stmt->cj,Program->dg,World->cn,Scope->bW,Pos->aL,Obj->aY
open PySem PySem.Spec PyProof.Rows
namespace L2
noncomputable abbrev Key:=Sum Int Str
noncomputable def tR:Key->ai->Bool
 |.inl k,v=>Value.isInt k v
 |.inr x,v=>Value.isStrOf x v
noncomputable def afm (w:cn):Key->Int
 |.inl k=>hashInt k
 |.inr x=>hashStr w x
theorem fY:∀ {k:Key}{v:ai},tR k v=ah->(∃ i t,k=Sum.inl i /\ v=Value.int i t) \/ (∃ x t,k=Sum.inr x /\ v=Value.str x t)
 | .inl i,v,h=>by
   let#[t,e]:=Value.isInt_shape (k:=i) (v:=v) h;show .inl #[i,t,rfl,e]
 | .inr x,v,h=>by
   let#[t,e]:=Value.isStrOf_shape (x:=x) (v:=v) h;show .inr #[x,t,rfl,e]
theorem GS (i:Int) (t:Tok):tR (.inl i) (.int i t)=ah:=by simp[tR,Value.isInt]
theorem GT (x:Str) (t:Tok):tR (.inr x) (.str x t)=ah:=by simp[tR,Value.isStrOf]
theorem SE (a b:Int):decide ((Sum.inl a:Key)=Sum.inl b)=(a==b):=by
 by_cases e:a=b
 .subst e;simp
 .have h:¬ (Sum.inl a:Key)=Sum.inl b:=λq=>e (Sum.inl.inj q);rw[decide_eq_false h];show(beq_eq_false_iff_ne.mpr e).symm
theorem SF (a b:Str):decide ((Sum.inr a:Key)=Sum.inr b)=decide (a=b):=by
 by_cases e:a=b
 .subst e;simp
 .have h:¬ (Sum.inr a:Key)=Sum.inr b:=λq=>e (Sum.inr.inj q);rw[decide_eq_false h,decide_eq_false e]
theorem SG (a:Int) (b:Str):decide ((Sum.inl a:Key)=Sum.inr b)=af:=decide_eq_false (λq=>nomatch q)
theorem SH (a:Str) (b:Int):decide ((Sum.inr a:Key)=Sum.inl b)=af:=decide_eq_false (λq=>nomatch q)
def dh (prog:dg) (w:cn):PySem.KeyKind prog w Key where
 is:=tR
 hash:=afm w
 inj:=λv a b ha hb=>by
  rcases fY ha with⟨i,t,rfl,rfl⟩|⟨x,t,rfl,rfl⟩
  .rcases fY hb with⟨j,u,rfl,e⟩|⟨y,u,rfl,e⟩
   .injection e with e1 _;rw[e1]
   .show nomatch e
  .rcases fY hb with⟨j,u,rfl,e⟩|⟨y,u,rfl,e⟩
   .show nomatch e
   .injection e with e1 _;rw[e1]
 byValue:=λk v h=>by
  rcases fY h with⟨i,t,rfl,rfl⟩|⟨x,t,rfl,rfl⟩<;>rfl
 pyHash:=λhv h=>by
  rcases fY hv with⟨i,t,rfl,rfl⟩|⟨x,t,rfl,rfl⟩
  .show wpAny_pyHash_int h
  .show wpAny_pyHash_str h
 eqBool:=λhu hv h=>by
  rcases fY hu with⟨i,t,rfl,rfl⟩|⟨x,t,rfl,rfl⟩
  .rcases fY hv with⟨j,u,rfl,rfl⟩|⟨y,u,rfl,rfl⟩
   .rw[SE]at h;show aam h
   .rw[SG]at h;show aca i t y u _ _ _ _ h
  .rcases fY hv with⟨j,u,rfl,rfl⟩|⟨y,u,rfl,rfl⟩
   .rw[SH]at h;show acb x t j u _ _ _ _ h
   .rw[SF]at h;show wpAny_eqBool_str h
 «strs»:=λk x t v h=>by
  rcases fY h with⟨i,u,rfl,e⟩|⟨y,u,rfl,e⟩
  .show nomatch e
  .injection e with e1 _;subst e1;cases v<;>rfl
theorem CI (prog:dg) (w:cn) (i:Int) (t:Tok):(dh prog w).is (.inl i) (.int i t)=ah:=GS i t
theorem CJ (prog:dg) (w:cn) (x:Str) (t:Tok):(dh prog w).is (.inr x) (.str x t)=ah:=GT x t
end L2
variable {xs:List (List L2.Key × PySem.Addr × PySem.Value)}
namespace L2
inductive V where
 |non|bl (b:Bool)|int (i:Int)|str (x:Str)|pL (b:Array UInt8)|uO (b:UInt64)|ref (a:aj)|ty (n:String)
 deriving DecidableEq
noncomputable def RelV:V->ai->zu
 |.non,u=>u=Value.none
 |.bl b,u=>u=Value.bool b
 |.int i,u=>∃ t,u=Value.int i t
 |.str x,u=>∃ t,u=Value.str x t
 |.pL b,u=>∃ t,u=Value.bytes b t
 |.uO b,u=>∃ t,u=Value.float b t
 |.ref a,u=>u=Value.ref a
 |.ty n,u=>u=Value.type n
abbrev Vals:List V->List ai->zu:=Paired RelV
theorem Vals.length {xs:List V}{us:List ai}(r:Vals xs us):xs.length=us.length:=Paired.length r
theorem Vals.get:∀ {xs:List V}{us:List ai}{i:Nat}{x:V},Vals xs us->xs[i]?=ae x->∃ u,us[i]?=ae u /\ RelV x u
 |_,_,_,_,.nil,e=>by simp at e
 |_,_,0,_,.cons r _,e=>by simp at e;subst e;show#[_,rfl,r]
 | _,_,i+1,x,.cons _ t,e=>by
   let#[u,h1,h2]:=Vals.get (i:=i) (x:=x) t (by simpa using e);show#[u,by simpa using h1,h2]
theorem Vals.set {x:V}{u:ai}(r:RelV x u):∀ {xs:List V}{us:List ai}(i:Nat),Vals xs us->Vals (xs.set i x) (us.set i u)
 |_,_,_,.nil=>.nil
 |_,_,0,.cons _ t=>.cons r t
 |_,_,i+1,.cons q t=>.cons q (Vals.set r i t)
theorem Vals.append:∀ {xs ys:List V}{us ws:List ai},Vals xs us->Vals ys ws->Vals (xs++ys) (us++ws)
 |_,_,_,_,.nil,s=>s
 |_,_,_,_,.cons r t,s=>.cons r (Vals.append t s)
theorem Vals.take:∀ {xs:List V}{us:List ai}(n:Nat),Vals xs us->Vals (xs.take n) (us.take n)
 |_,_,0,_=>.nil
 |_,_,_+1,.nil=>.nil
 |_,_,n+1,.cons r t=>.cons r (Vals.take n t)
theorem Vals.drop:∀ {xs:List V}{us:List ai}(n:Nat),Vals xs us->Vals (xs.drop n) (us.drop n)
 |_,_,0,r=>r
 |_,_,_+1,.nil=>.nil
 |_,_,n+1,.cons _ t=>Vals.drop n t
def nU:Option V->Option ai->zu
 |some v,ae u=>RelV v u
 |none,ag=>True
 |_,_=>False
def KV {κ:Type}:List (κ×V)->List (κ×ai)->zu:=Paired λ(p:κ×V) (q:κ×ai)=>p.1=q.1 /\ RelV p.2 q.2
noncomputable def kV:Key->V
 |.inl i=>.int i
 |.inr x=>.str x
inductive HO where
 /-- a list -/
 |lst (xs:List V)
 /-- a tuple (never changes) -/
 |tup (xs:List V)
 /-- a dict afn keys are ints and texts;one afn keys are tuples of ints and texts (the empty one is both) -/
 |dK (ao:List (Key×V))|dT (ao:List (List Key×V))
 /-- a set of ints: its members,its size -/
 |set (S:Int->Bool) (n:Nat)
 /-- an instance of the class at C,its dict at dx,its attributes -/
 |ins (C dx:aj) (fs:List (Str×V))
 /-- the dict of the instance at x -/
 |own (x:aj)
 /-- the dict of an exception -/
 |xd (fs:List (Str×V))
 /-- a bound method,f of x -/
 |met (f x:aj)
 /-- a range object lo,lo+1,.. below hi -/
 |Xy (lo hi:Int)
 /-- a thing that is known to the object (the script;a dict while a loop walks it): read,never written while it is so -/
 |bI (o:aY) (u:HO)
 /-- a code ajW table -/
 |uP (ps:Array ai)
 /-- any other thing,by ajX is ah of its one object (a def of ajY own: ajZ a S n:=HO.ext λh=>..) -/
 |ext (φ:aI->zu)
noncomputable abbrev Hp:=aj->Option HO
noncomputable def upd (H:Hp) (a:aj) (o:HO):Hp:=λb=>if b=a then ae o else H b
theorem fw {H:Hp}{o:HO}:upd H a o a=ae o:=by unfold upd;rw[if_pos rfl]
theorem fB {H:Hp}{b:aj}{o:HO}(h:b≠a):upd H a o b=H b:=by unfold upd;rw[if_neg h]
theorem Vn {H:Hp}{b:aj}{o u:HO}(h:H a=ae o) (h':H b=ae u) (d:o≠u):a≠b:=by
 intro e;subst e;rw[h]at h';show d (Option.some.inj h')
theorem f7 {H:Hp}{b:aj}{o:HO}(h:H a=ae o) (h':H b=ag):a≠b:=by
 intro e;subst e;rw[h]at h';cases h'
section
variable (P:dg) (w:cn)
noncomputable def bG (H:Hp) (h:aI) (a:aj):HO->zu
 |.lst xs=>xs.length<=sizeLine /\ ∃ (its:List ai) (n:Nat),Vals xs its /\ h.get? a=ae { cls:=.type "list",data:=.seq its.toArray n }
 |.tup xs=>xs.length<=sizeLine /\ ∃ its:List ai,Vals xs its /\ IsTup h a its.toArray
 |.dK ao=>ao.length<=sizeLine /\ (a==sysModules)=af /\ ∃ vs,KV ao vs /\ h.DictOf (dh P w) a vs
 |.dT ao=>ao.length<=sizeLine /\ (a==sysModules)=af /\ ∃ xs:List (List Key×aj×ai),
  Paired (λ(p:List Key×V) (q:List Key×aj×ai)=>p.1=q.1 /\ H q.2.1=ae (.tup (p.1.map kV)) /\ RelV p.2 q.2.2) ao xs /\
  ∃ o es ep,h.get? a=ae o /\ o.ExactDict /\ o.data=.dict es ep /\ es.toList=xs.map (entryOfKey (tupleKind (dh P w))) /\ (xs.map (·.1)).Nodup
 |.set S n=>h.SetOf (intKind P w) a S n
 |.ins C dx fs=>H dx=ae (.own a) /\ fs.length<=1000 /\ dx≠a /\ h.get? a=ae (PySem.W.instObj C dx) /\
  ∃ mA,h.Ns1 dx mA /\ (∀ f,nU (fs.lookup f) (mA f)) /\ PySem.Within mA (fs.map (·.1))
 |.own _=>∃ o,h.get? a=ae o
 |.xd fs=>∃ mA,h.Ns1 a mA /\ ∀ f,nU (fs.lookup f) (mA f)
 |.Xy lo hi=>∃ t u v,h.get? a=ae { cls:=.type "range",data:=.fields (List.toArray [.int lo t,.int hi u,.int 1 v]) }
 |.bI o u=>h.get? a=ae o /\ bG H h a u
 |.uP ps=>h.get? a=ae { cls:=.none,data:=.fields ps }
 |.met f x=>h.get? a=ae (PySem.W.methodObj (.ref f) (.ref x))
 |.ext φ=>φ h /\ (∃ o,h.get? a=ae o) /\ ∀ h1 h2:aI,φ h1->(∀ o,h1.get? a=ae o->h2.get? a=ae o)->φ h2
def cJ (H:Hp) (h:aI):zu:=∀ a o,H a=ae o->bG P w H h a o
end
section
variable {H H':Hp} {o:HO}
theorem bG.lt (x:bG P w H h a o):a<h.objs.size:=by
 cases o with
 |lst xs=>let#[_,_,_,_,e]:=x;show bj e
 |tup xs=>let#[_,_,_,p]:=x;show p.lt
 |dK ao=>let#[_,_,_,_,o,_,_,e,_]:=x;show bj e
 |dT ao=>let#[_,_,_,_,o,_,_,e,_]:=x;show bj e
 |set S n=>let#[o,_,_,_,e,_]:=x;show bj e
 |ins C dx fs=>let#[_,_,_,e,_]:=x;show bj e
 |own y=>let#[_,e]:=x;show bj e
 |xd fs=>let#[_,#[_,_,_,e,_],_]:=x;show bj e
 |Xy lo hi=>let#[_,_,_,e]:=x;show bj e
 |bI ob u=>let#[e,_]:=x;show bj e
 |uP ps=>show bj (show h.get? a=ae _ from x)
 |met f y=>show bj (show h.get? a=ae _ from x)
 |ext φ=>let#[_,#[_,e],_]:=x;show bj e
theorem Paired.Xz {α β:Type}{F G:α->β->zu}:∀ {l₁:List α}{l₂:List β},Paired F l₁ l₂->(∀ a b,F a b->G a b)->Paired G l₁ l₂
 |_,_,.nil,_=>.nil
 |_,_,.cons r t,f=>.cons (f _ _ r) (Paired.Xz t f)
theorem bG.stay (x:bG P w H h a o) (k:∀ b u,(b=a \/ H b=ae (.own a))->h.get? b=ae u->h'.get? b=ae u)
 (ho:∀ b,H b=ae (.own a)->H' b=ae (.own a)) (ht:∀ b xs,H b=ae (.tup xs)->H' b=ae (.tup xs)):bG P w H' h' a o:=by
 induction o with
 |lst xs=>let#[z,its,n,r,e]:=x;show#[z,its,n,r,k _ _ (.inl zc) e]
 |tup xs=>let#[z,its,r,ob,e,c]:=x;show#[z,its,r,ob,k _ _ (.inl zc) e,c]
 |dK ao=>let#[z,y,vs,r,ob,es,ep,e,c]:=x;show#[z,y,vs,r,ob,es,ep,k _ _ (.inl zc) e,c]
 |dT ao=>
   let#[z,y,xs,r,ob,es,ep,e,c]:=x;show#[z,y,xs,Paired.Xz r λp q z=>#[z.1,ht _ _ z.2.1,z.2.2],ob,es,ep,k _ _ (.inl zc) e,c]
 |set S n=>let#[ob,es,ep,t,e,c]:=x;show#[ob,es,ep,t,k _ _ (.inl zc) e,c]
 |ins C dx fs=>
   let#[d,z,ne,e,mA,#[od,es,ep,e2,c],r]:=x;show#[ho _ d,z,ne,k _ _ (.inl zc) e,mA,#[od,es,ep,k _ _ (.inr d) e2,c],r]
 |own y=>let#[ob,e]:=x;show#[ob,k _ _ (.inl zc) e]
 |xd fs=>let#[mA,#[od,es,ep,e,c],r]:=x;show#[mA,#[od,es,ep,k _ _ (.inl zc) e,c],r]
 |Xy lo hi=>let#[t,u,v,e]:=x;show#[t,u,v,k _ _ (.inl zc) e]
 |bI ob u ih=>let#[e,q]:=x;show#[k _ _ (.inl zc) e,ih q]
 |uP ps=>
   have e:h.get? a=ae { cls:=.none,data:=.fields ps }:=x;change h'.get? a=ae { cls:=.none,data:=.fields ps };show k a _ (.inl zc) e
 |met f y=>
   have e:h.get? a=ae (PySem.W.methodObj (.ref f) (.ref y)):=x;change h'.get? a=ae (PySem.W.methodObj (.ref f) (.ref y));show k a _ (.inl zc) e
 |ext φ=>let#[p,#[o,e],st]:=x;show#[st _ _ p λo q=>k _ _ (.inl zc) q,#[o,k _ _ (.inl zc) e],st]
theorem cJ.lt (x:cJ P w H h) (e:H a=ae o):a<h.objs.size:=(x a o e).lt
theorem cJ.fresh (x:cJ P w H h) (e:h.objs.size<=a):H a=ag:=by
 cases q:H a with
 |none=>rfl
 |some u=>show absurd (hZ (x.lt q) e) (kC _)
theorem cJ.kept (x:cJ P w H h) (k:∀ b u,h.get? b=ae u->h'.get? b=ae u):cJ P w H h':=λa o e=>
 (x a o e).stay (λb u _ q=>k b u q) (λ_ q=>q) λ_ _ q=>q
theorem cJ.laid (x:cJ P w H h) (k:∀ b u,h.get? b=ae u->h'.get? b=ae u) (hp:h.objs.size<=a) (new:bG P w (upd H a o) h' a o):cJ P w (upd H a o) h':=λb u e=>by
 have hn:=x.fresh hp;by_cases hb:b=a
 .subst hb;rw[fw]at e;cases e;show new
 .rw[fB hb]at e;show(x b u e).stay (λc v _ q=>k c v q) (λc q=>by rw[fB (f7 q hn)];show q) λc xs q=>by rw[fB (f7 q hn)];show q
end
def Rd (H:Hp) (a:aj) (u:HO):zu:=H a=ae u \/ ∃ o,H a=ae (.bI o u)
theorem Rd.ok {H:Hp}{u:HO}(r:Rd H a u) (x:cJ P w H h):bG P w H h a u:=by
 rcases r with r|⟨o,r⟩
 .show x a u r
 .let#[_,q]:=x a _ r;show q
noncomputable def yR:Option HO->zu
 |some (.lst _)=>True
 |some (.dK _)=>True
 |some (.dT _)=>True
 |some (.set _ _)=>True
 |some (.ins _ _ _)=>True
 |some (.ext _)=>True
 |_=>False
section
variable {H:Hp} {x e:aj} {o':HO}
theorem cJ.write (ok:cJ P w H h) (mu:yR (H x)) (he:e=x \/ H e=ae (.own x)) (k:∀ b u,b≠e->h.get? b=ae u->h'.get? b=ae u) (xu:∃ u,h'.get? e=ae u)
 (new:bG P w (upd H x o') h' x o'):cJ P w (upd H x o') h':=λb u q=>by
 have acj:∀ c y,H c=ae (.own y)->c≠x:=λc y r z=>by subst z;rw[r]at mu;show mu
 have afo:∀ c xs,H c=ae (.tup xs)->c≠x:=λc xs r z=>by subst z;rw[r]at mu;show mu
 by_cases hb:b=x
 .subst hb;rw[fw]at q;cases q;show new
 .rw[fB hb]at q;by_cases vI:b=e
  .have q':H b=ae (.own x):=by
    rcases he with z|z
    .show absurd (vI.trans z) hb
    .rw[vI];show z
   rw[q]at q';cases q';let#[v,hv]:=xu;show#[v,by rw[vI];show hv]
  .refine(ok b u q).stay (λc v hc r=>k c v ?_ r) (λc r=>by rw[fB (acj c b r)];show r) λc xs r=>by rw[fB (afo c xs r)];show r
   rcases hc with rfl|hc
   .show vI
   .rintro rfl;rcases he with z|z
    .show acj c b hc z
    .rw[hc]at z;cases z;show hb zc
end
structure Un (fs ex:List aj) (H H':Hp) (h h':aI):zu where
 keep:∀ b o,h.get? b=ae o->H b=ag->b∉fs->b∉ex->h'.get? b=ae o
 slot:∀ b o,h.get? b=ae o->H b=ag->b∈fs->b∉ex->∃ sl,h'.get? b=ae { o with slots:=sl }
 free:∀ b o,h.get? b=ae o->H b=ag->b∉ex->H' b=ag
 there:∀ b o,h.get? b=ae o->b∉ex->∃ o',h'.get? b=ae o'
 nV:∀ b xs,H b=ae (.tup xs)->H' b=ae (.tup xs)
 pM:∀ b o u,H b=ae (.bI o u)->H' b=ae (.bI o u)
 qT:∀ b ps,H b=ae (.uP ps)->∃ more,H' b=ae (.uP (ps++more))
section
variable {fs afp ex aj0:List aj} {H H1 H2:Hp} {h1 h2:aI} {x e:aj} {o:HO}
theorem Un.any (u:Un fs ex H H1 h h1) {b:aj}{ob:aY}(q:h.get? b=ae ob) (n:H b=ag) (hx:b∉ex):∃ sl,h1.get? b=ae { ob with slots:=sl }:=by
 by_cases hb:b∈fs
 .show u.slot b ob q n hb hx
 .show#[ob.slots,u.keep b ob q n hb hx]
theorem Un.kept (k:∀ b u,h.get? b=ae u->h'.get? b=ae u):Un fs ex H H h h' :=
 #[λb ob q _ _ _=>k b ob q,λb ob q _ _ _=>#[ob.slots,k b ob q],λ_ _ _ n _=>n,λb ob q _=>#[ob,k b ob q],λ_ _ q=>q,λ_ _ _ q=>q,λ_ ps q=>#[#[],by rw[q];simp]]
theorem Un.refl:Un fs ex H H h h:=Un.kept λ_ _ q=>q
theorem Un.laid (k:∀ b u,h.get? b=ae u->h'.get? b=ae u) (hp:h.objs.size<=a) (hn:H a=ag):Un fs ex H (upd H a o) h h' where
 keep:=λb u q _ _ _=>k b u q
 slot:=λb u q _ _ _=>#[u.slots,k b u q]
 free:=λb u q n _=>by rw[fB (cB (hZ (bj q) hp))];show n
 there:=λb u q _=>#[u,k b u q]
 nV:=λb xs q=>by rw[fB (f7 q hn)];show q
 pM:=λb u xs q=>by rw[fB (f7 q hn)];show q
 qT:=λb ps q=>#[#[],by rw[fB (f7 q hn),q];simp]
theorem Un.write (mu:yR (H x)) (he:e=x \/ H e=ae (.own x)) (k:∀ b u,b≠e->h.get? b=ae u->h'.get? b=ae u) (xu:∃ u,h'.get? e=ae u):Un fs ex H (upd H x o) h h':=by
 have hx:∀ b,H b=ag->b≠x:=λb n z=>by subst z;rw[n]at mu;show mu
 have hb:∀ b,H b=ag->b≠e:=λb n z=>by
  subst z;rcases he with r|r
  .show hx b n r
  .rw[n]at r;cases r
 have hm:∀ b u,H b=ae u->¬ yR (ae u)->b≠x:=λb u q nm z=>by subst z;rw[q]at mu;show nm mu
 refine#[λb u q n _ _=>k b u (hb b n) q,λb u q n _ _=>#[u.slots,k b u (hb b n) q],λb u q n _=>by rw[fB (hx b n)];show n,λb u q _=>?_,
  λb xs q=>by rw[fB (hm b _ q λz=>z)];show q,λb u xs q=>by rw[fB (hm b _ q λz=>z)];show q,λb ps q=>#[#[],by rw[fB (hm b _ q λz=>z),q];simp]]
 by_cases vI:b=e
 .subst vI;show xu
 .show#[u,k b u vI q]
end
noncomputable def HP (h:aI) (H:Hp):List aj:=(List.range h.objs.size).filter λa=>(H a).isSome
def tU (h:aI) (H:Hp):aI:=PySem.W.hideAll h (HP h H)
theorem GU (h:aI) (H:Hp):(tU h H).objs.size=h.objs.size:=PySem.W.hideAll_size _ _
theorem J0 {H:Hp}{b:aj}(e:h.get? b=ae o) (n:H b=ag):(tU h H).get? b=ae o:=
 PySem.W.hideAll_get _ e λhm=>by
  have q:(H b).isSome=ah:=(sk.mp hm).2;rw[n]at q;simp at q
theorem NT {H:Hp}{b:aj}(e:(tU h H).get? b=ae o):h.get? b=ae o /\ H b=ag:=by
 have e':h.get? b=ae o:=PySem.W.of_hideAll (HP h H) e;refine#[e',?_];cases q:H b with
 |none=>rfl
 |some x=>
   have hm:b∈HP h H:=sk.mpr #[List.mem_range.mpr (bj e'),by simp[q]];have z:(tU h H).get? b=ag:=PySem.W.hideAll_none (HP h H) hm;rw[z]at e;cases e
end L2
variable {H H' F F':L2.Hp}{v:L2.V}{ao:List (List L2.Key × L2.V)}
namespace L2
structure Mod (K:PySem.W.Frag) (mg:Str->Option ai) (base:aI):zu where
 XA:K.In base
 glob:base.Ns mainGlobals mg
 blt:∃ mb,base.Ns builtinsNs mb /\ ∀ x:Str,x ≠ "__name__"->mb x=bootBuiltins x
 nolimit:base.NoLimit
structure Cx where
 prog:dg
 w:cn
 K:PySem.W.Frag
 mg:Str->Option ai
 base:aI
 A:eE
 N:List Str
 s₀:aq
 H₀:Hp
 env:Env
 outer:List Env
 stack:List Env
 ex:List aj
 fn:Str->Bool
 calm:Bool
 pn:List (aj×aY)
 xe:ai->aq->zu
noncomputable def pN (l:List Env):List aj:=l.filterMap (·.frame)
abbrev Cx.fs (X:Cx):List aj:=pN X.outer
def vJ (sc:bW) (x:Str):zu:=sc.names.lookup x=ae .local \/ sc.names.lookup x=ae .cell \/ sc.names.lookup x=ae .free
def Loc (sc:bW) (x:Str):zu:=sc.names.lookup x=ae .local \/ sc.names.lookup x=ae .cell
def Look (env:Env) (h:aI) (m:Str->Option ai) (x:Str) (u:ai):zu:=
 (env.kindOf x=ae .local /\ m x=ae u) \/ ((env.kindOf x=ae .cell \/ env.kindOf x=ae .free) /\ ∃ c,env.cells.lookup x=ae c /\ h.IsCell c (ae u))
structure Cx.Ok (X:Cx):zu where
 mod:Mod X.K X.mg X.base
 kind:X.env.scope.kind=.function
 glob:X.env.globals=mainGlobals
 blt:X.env.builtins=builtinsNs
 above:X.s₀.heap.objs.size<=X.env.locals
 inj:∀ x y c,X.env.cells.lookup x=ae c->X.env.cells.lookup y=ae c->x=y
 has:∀ x,(X.env.kindOf x=ae .cell \/ X.env.kindOf x=ae .free)->∃ c,X.env.cells.lookup x=ae c
 yS:∀ x c,X.fn x=ah->X.env.cells.lookup x=ae c->X.s₀.heap.objs.size<=c
 hd:X.calm=ah->X.A.handled=ag
 frames:X.A.frames=ae X.stack
 HQ:X.stack=X.outer \/ (X.stack=X.env::X.outer /\ X.env.frame=ae X.env.locals)
 xw:∀ b∈X.ex,b≠X.env.locals /\ ∀ x c,X.env.cells.lookup x=ae c->c≠b
 bs:∀ b o,X.base.get? b=ae o->X.s₀.heap.get? b=ae o /\ X.H₀ b=ag
 vK:X.base.objs.size<=X.s₀.heap.objs.size
 yT:∀ b o,X.base.get? b=ae o->b∉X.ex
 xx:∀ b∈X.ex,b∉X.fs
 qU:X.s₀.heap.FunFrames X.base X.outer
 xy:∀ b∈X.fs,X.H₀ b=ag
structure Inv (X:Cx) (pins:List (aj×aY)) (σ:List (Option V)) (H:Hp) (s:aq):zu where
 ok:X.Ok
 os:s.os=X.s₀.os
 bare:AllBare s.gens
 base:Un X.fs X.ex X.H₀ H X.s₀.heap s.heap
 loc:∃ m,s.heap.Ns X.env.locals m /\ ∀ (i:Nat) (x:Str) (v:V),X.N[i]?=ae x->σ[i]?=ae (ae v)->vJ X.env.scope x->∃ u,RelV v u /\ Look X.env s.heap m x u
 cell:∀ x c,X.env.cells.lookup x=ae c->∃ v,s.heap.IsCell c v
 free:H X.env.locals=ag
 qk:∀ x c,X.env.cells.lookup x=ae c->H c=ag
 pin:∀ p∈X.pn++pins,s.heap.get? p.1=ae p.2 /\ H p.1=ag /\ p.1≠X.env.locals /\ p.1∉X.fs /\ ∀ v,p.2.data≠.cell v
 aC:cJ X.prog X.w H s.heap
 len:σ.length=X.N.length
section
variable {X:Cx} {σ:List (Option V)} {s:aq} 
theorem Cx.Ok.afq (ok:X.Ok) {b:aj}(e:X.base.get? b=ae o):b∉X.fs:=λhb=>by
 have:=(ok.qU.mem hb).1;rw[e]at this;cases this
theorem Inv.bs (I:Inv X pins σ H s):∀ b o,X.base.get? b=ae o->s.heap.get? b=ae o /\ H b=ag:=λb o e=>
 #[I.base.keep b o (I.ok.bs b o e).1 (I.ok.bs b o e).2 (I.ok.afq e) (I.ok.yT b o e),I.base.free b o (I.ok.bs b o e).1 (I.ok.bs b o e).2 (I.ok.yT b o e)]
theorem Inv.bk (I:Inv X pins σ H s):∀ b o,X.base.get? b=ae o->s.heap.get? b=ae o:=λb o e=>(I.bs b o e).1
theorem Inv.mod (I:Inv X pins σ H s):Mod X.K X.mg X.base:=I.ok.mod
theorem Inv.kO (I:Inv X pins σ H s):X.K.In s.heap:=I.ok.mod.XA.keeps I.bk
theorem Inv.lt (I:Inv X pins σ H s):X.env.locals<s.heap.objs.size:=let ⟨_,hn,_⟩:=I.loc;hn.lt
theorem Inv.sz (I:Inv X pins σ H s):X.s₀.heap.objs.size<=s.heap.objs.size:=cC I.ok.above (nR I.lt)
theorem Inv.afr (I:Inv X pins σ H s) (h:s.heap.objs.size<=a):a∉X.fs:=λhb=>by
 let#[_,o,ho,_]:=I.ok.qU.mem hb;show absurd (hZ (bj ho) (cC I.sz h)) (kC _)
theorem Inv.vL (I:Inv X pins σ H s):∀ x c,X.env.cells.lookup x=ae c->c≠X.env.locals:=λx c e z=>by
 let#[v,o,ho,hd]:=I.cell x c e;let#[m,#[o',es,ep,nI,afs,_],_]:=I.loc;rw[z,nI]at ho;cases ho;rw[afs]at hd;cases hd
theorem Inv.qU (I:Inv X pins σ H s):s.heap.FunFrames X.base X.outer:=by
 have all:∀ (l:List Env),(∀ b∈pN l,b∈X.fs)->X.s₀.heap.FunFrames X.base l->s.heap.FunFrames X.base l:=by
  intro l;induction l with
  |nil=>intro _ _;trivial
  |cons env r ih=>
    intro hs hl;let#[hk,#[L,o,hf,hn,ho,hd],hr]:=hl;have hL:L∈X.fs:=hs L (by unfold pN;rw[pH,hf];show bE);let#[sl,e]:=I.base.slot L o ho (I.ok.xy L hL) hL λz=>I.ok.xx L z hL;show#[hk,#[L,_,hf,hn,e,hd],ih (λb hb=>hs b (by unfold pN;rw[pH,hf];show bB _ hb)) hr]
 show all X.outer (λ_ hb=>hb) I.ok.qU
theorem Inv.stack (I:Inv X pins σ H s):s.heap.FunFrames X.base X.stack:=by
 rcases I.ok.HQ with e|⟨e,hf⟩
 .rw[e];show I.qU
 .rw[e];let#[m,hn,_]:=I.loc;refine .cons (by rw[I.ok.kind];decide) hf hn ?_ I.qU;show W0 (cC I.ok.vK I.ok.above)
theorem Inv.XB (I:Inv X pins σ H s):∀ b∈pN X.stack,b∈X.env.locals::X.fs:=λb hb=>by
 rcases I.ok.HQ with e|⟨e,hf⟩
 .rw[e]at hb;show bB _ hb
 .rw[e]at hb;unfold pN at hb;rw[pH,hf]at hb;show hb
theorem Inv.ack (I:Inv X pins σ H s):∀ b∈pN X.stack,H b=ag:=λb hb=>by
 rcases bz.mp (I.XB b hb) with e|hb
 .rw[e];show I.free
 .let#[_,o,ho,_]:=I.ok.qU.mem hb;show I.base.free b o ho (I.ok.xy b hb) λz=>I.ok.xx b z hb
theorem Inv.step {g':Array GenState}{d':Drawn}(I:Inv X pins σ H s)
 (sr:∀ b∈ch,(b∈X.ex \/ X.s₀.heap.objs.size<=b) /\ b≠X.env.locals /\ (∀ x c,X.env.cells.lookup x=ae c->c≠b) /\ ∀ p∈X.pn++pins,p.1≠b)
 (keep:∀ b o,b≠X.env.locals->b∉X.fs->b∉ch->s.heap.get? b=ae o->H b=ag->h'.get? b=ae o)
 (slot:∀ b o,b≠X.env.locals->b∈X.fs->b∉ch->s.heap.get? b=ae o->H b=ag->∃ sl,h'.get? b=ae { o with slots:=sl }) (free:∀ b o,b∉ch->s.heap.get? b=ae o->H b=ag->H' b=ag)
 (there:∀ b o,b∉ch->s.heap.get? b=ae o->∃ o',h'.get? b=ae o')
 (nV:∀ b xs,H b=ae (.tup xs)->H' b=ae (.tup xs)) (pM:∀ b o u,H b=ae (.bI o u)->H' b=ae (.bI o u)) (qT:∀ b ps,H b=ae (.uP ps)->∃ more,H' b=ae (.uP (ps++more)))
 (ns:∀ m,s.heap.Ns X.env.locals m->h'.Ns X.env.locals m) (aC:cJ X.prog X.w H' h') (hg:AllBare g') :
 Inv X pins σ H' { s with heap:=h',gens:=g',drawn:=d',toks:=t' }:=by
 have acm:∀ b o,X.s₀.heap.get? b=ae o->b≠X.env.locals:=λb o e=>cB (hZ (bj e) I.ok.above);have qm:∀ b o,X.s₀.heap.get? b=ae o->b∉X.ex->b∉ch:=λb o e hx hb=>by
  rcases(sr b hb).1 with z|z
  .show hx z
  .show absurd (hZ (bj e) z) (kC _)
 have cellK:∀ x c,X.env.cells.lookup x=ae c->∀ v,s.heap.IsCell c v->h'.IsCell c v:=λx c e v ⟨o,ho,hd⟩=>by
  have qV:c∉ch:=λz=>(sr c z).2.2.1 x c e zc;by_cases hc:c∈X.fs
  .let#[sl,q]:=slot c o (I.vL x c e) hc qV ho (I.qk x c e);show#[_,q,hd]
  .show#[o,keep c o (I.vL x c e) hc qV ho (I.qk x c e),hd]
 refine#[I.ok,I.os,hg,#[λb o e n hb hx=>?_,λb o e n hb hx=>?_,λb o e n hx=>?_,λb o e hx=>?_,λb xs e=>nV b xs (I.base.nV b xs e),λb o xs e=>pM b o xs (I.base.pM b o xs e),λb ps e=>?_],?_,λx c e=>?_,?_,λx c e=>?_,λp hp=>?_,aC,I.len]
 .show keep b o (acm b o e) hb (qm b o e hx) (I.base.keep b o e n hb hx) (I.base.free b o e n hx)
 .let#[sl,e1]:=I.base.slot b o e n hb hx;let#[aft,e2]:=slot b _ (acm b o e) hb (qm b o e hx) e1 (I.base.free b o e n hx);show#[aft,e2]
 .let#[o',e1]:=I.base.there b o e hx;show free b o' (qm b o e hx) e1 (I.base.free b o e n hx)
 .let#[o',e1]:=I.base.there b o e hx;show there b o' (qm b o e hx) e1
 .let#[m1,e1]:=I.base.qT b ps e;let#[m2,e2]:=qT b _ e1;show#[m1++m2,by rw[e2,Array.append_assoc]]
 .let#[m,hn,hl]:=I.loc;refine#[m,ns m hn,λi x v e1 e2 e3=>?_];let#[u,r,l]:=hl i x v e1 e2 e3;refine#[u,r,?_];rcases l with l|⟨k,c,e,z⟩
  .show .inl l
  .show .inr #[k,c,e,cellK x c e _ z]
 .let#[v,z]:=I.cell x c e;show#[v,cellK x c e v z]
 .let#[m,#[o,_,_,ho,_],_]:=I.loc;show free _ o (λz=>(sr _ z).2.1 zc) ho I.free
 .let#[v,o,ho,hd]:=I.cell x c e;show free c o (λz=>(sr c z).2.2.1 x c e zc) ho (I.qk x c e)
 .let#[e,n,ne,nf,d]:=I.pin p hp;have qV:p.1∉ch:=λz=>(sr p.1 z).2.2.2 p hp zc;show#[keep p.1 p.2 ne nf qV e n,free p.1 p.2 qV e n,ne,nf,d]
theorem Inv.un (I:Inv X pins σ H s) (u:Un X.fs [] H H' s.heap h') (aC:cJ X.prog X.w H' h'):Inv X pins σ H' { s with heap:=h',toks:=t' }:=by
 let#[m,#[o,es,ep,ho,r],_]:=id I.loc;let#[sl,hL]:=u.any ho I.free zi;show I.step (g':=s.gens) (d':=s.drawn) (ch:=[]) (λ_ z=>nomatch z) (λb o _ hb _ e n=>u.keep b o e n hb zi) (λb o _ hb _ e n=>u.slot b o e n hb zi) (λb o _ e n=>u.free b o e n zi) (λb o _ e=>u.there b o e zi) u.nV u.pM u.qT (λm' hm=>by
  let#[o',es',sx,nI,r']:=hm;rw[ho]at nI;cases nI;show#[_,es',sx,hL,r']) aC I.bare
theorem Inv.call {g':Array GenState}{d':Drawn}(I:Inv X pins σ H s) (u:Un (pN X.stack) ch H H' s.heap h') (aC:cJ X.prog X.w H' h') (hg:AllBare g')
 (sr:∀ b∈ch,(b∈X.ex \/ X.s₀.heap.objs.size<=b) /\ b≠X.env.locals /\ (∀ x c,X.env.cells.lookup x=ae c->c≠b) /\ ∀ p∈X.pn++pins,p.1≠b) :
 Inv X pins σ H' { s with heap:=h',gens:=g',drawn:=d',toks:=t' }:=by
 let#[m,#[o,es,ep,ho,r],_]:=id I.loc;let#[sl,hL]:=u.any ho I.free λz=>(sr _ z).2.1 zc;show I.step (ch:=ch) sr (λb o hL hb hc e n=>u.keep b o e n (λz=>(bz.mp (I.XB b z)).elim hL hb) hc) (λb o _ _ hc e n=>u.any e n hc) (λb o hc e n=>u.free b o e n hc) (λb o hc e=>u.there b o e hc) u.nV u.pM u.qT (λm' hm=>by
  let#[o',es',sx,nI,r']:=hm;rw[ho]at nI;cases nI;show#[_,es',sx,hL,r']) aC hg
theorem Inv.turned (I:Inv X pins σ H s) (k:∀ b o,b≠it->s.heap.get? b=ae o->h'.get? b=ae o) (hn:H it=ag) (hL:it≠X.env.locals)
 (h1:it∈X.ex \/ X.s₀.heap.objs.size<=it) (h2:∀ x c,X.env.cells.lookup x=ae c->c≠it) (h3:∀ p∈X.pn++pins,p.1≠it):Inv X pins σ H { s with heap:=h',toks:=t' }:=by
 have acn:∀ b u,H b=ae u->b≠it:=λb u e z=>by rw[z,hn]at e;cases e
 refine I.step (g':=s.gens) (d':=s.drawn) (ch:=[it]) (λb hb=>?_) (λb o _ _ hc e _=>k b o (λz=>hc (by simp[z])) e) (λb o _ _ hc e _=>#[o.slots,k b o (λz=>hc (by simp[z])) e]) (λ_ _ _ _ n=>n)
  (λb o hc e=>#[o,k b o (λz=>hc (by simp[z])) e]) (λ_ _ e=>e) (λ_ _ _ e=>e) (λb ps e=>#[#[],by rw[e];simp]) (λm hm=>?_) (λb u e=>?_) I.bare
 .have e:b=it:=by simpa using hb
  subst e;show#[h1,hL,h2,h3]
 .let#[o,es,ep,ho,r]:=hm;show#[o,es,ep,k _ o (Ne.symm hL) ho,r]
 .refine(I.aC b u e).stay (λc v hc q=>k c v ?_ q) (λ_ q=>q) λ_ _ q=>q;rcases hc with z|z
  .rw[z];show acn b u e
  .show acn c _ z
theorem Inv.tok (I:Inv X pins σ H s) (t:Nat):Inv X pins σ H { s with toks:=t }:=I.un (h':=s.heap) (t':=t) Un.refl I.aC
theorem Inv.kept {t':Nat}(I:Inv X pins σ H s) (k:∀ b u,s.heap.get? b=ae u->h'.get? b=ae u):Inv X pins σ H { s with heap:=h',toks:=t' }:=I.un (Un.kept k) (I.aC.kept k)
theorem Inv.laid {a:aj}{o:HO}{t':Nat}(I:Inv X pins σ H s) (k:∀ b u,s.heap.get? b=ae u->h'.get? b=ae u) (hp:s.heap.objs.size<=a) (new:bG X.prog X.w (upd H a o) h' a o) :
 Inv X pins σ (upd H a o) { s with heap:=h',toks:=t' }:=I.un (Un.laid k hp (I.aC.fresh hp)) (I.aC.laid k hp new)
theorem Inv.write {x e:aj}{o:HO}{t':Nat}(I:Inv X pins σ H s) (mu:yR (H x)) (he:e=x \/ H e=ae (.own x)) (k:∀ b u,b≠e->s.heap.get? b=ae u->h'.get? b=ae u) (xu:∃ u,h'.get? e=ae u)
 (new:bG X.prog X.w (upd H x o) h' x o):Inv X pins σ (upd H x o) { s with heap:=h',toks:=t' }:=I.un (Un.write mu he k xu) (I.aC.write mu he k xu new)
theorem Inv.aco {acp:List (aj×aY)}(I:Inv X pins σ H s) (h:∀ p∈acp,s.heap.get? p.1=ae p.2 /\ H p.1=ag /\ p.1≠X.env.locals /\ p.1∉X.fs /\ ∀ v,p.2.data≠.cell v):Inv X acp σ H s:=
 #[I.ok,I.os,I.bare,I.base,I.loc,I.cell,I.free,I.qk,λp hp=>(nT.mp hp).elim (λz=>I.pin p (qM _ z)) (h p),I.aC,I.len]
theorem CK (hN:N.Nodup) {i:Nat}(a:N[i]?=ae x) (b:N[j]?=ae x):i=j:=by
 let#[h1,e1]:=List.getElem?_eq_some_iff.mp a;let#[h2,e2]:=List.getElem?_eq_some_iff.mp b;show(List.getElem_inj hN).mp (e1.trans e2.symm)
theorem Bv {i:Nat}{Q:Unit->aq->zu}(I:Inv X pins σ H s) (hN:X.N.Nodup) (hi:X.N[i]?=ae x) (hx:Loc X.env.scope x) (r:RelV v u)
 (h:∀ s',Inv X pins (σ.set i (ae v)) H s'->(∃ a,Heap.SameBut a s.heap s'.heap /\ (a=X.env.locals \/ X.env.cells.lookup x=ae a))->Q () s') (hf:X.fn x=ah \/ X.env.scope.names.lookup x=ae .local:=by first|show .inl zc|show .inr zc|assumption):wpAny M A (storeName X.env x u) Q E s:=by
 let#[m,hn,hl]:=id I.loc;have afu:(X.env.scope.kind==.class||(X.env.scope.kind==.module&&X.env.locals != X.env.globals))=af:=by rw[I.ok.kind];rfl
 have acq:i<σ.length:=by rw[I.len];show(List.getElem?_eq_some_iff.mp hi).1
 have vL:=I.vL;have tracked:∀ {a:aj}{h':aI},(∃ o,s.heap.get? a=ae o /\ H a=ag)->Heap.SameBut a s.heap h'->cJ X.prog X.w H h':=λ{a h'} ha hs b ob e=>by
  let#[_,_,acr]:=ha;refine(I.aC b ob e).stay (λc w' hc q=>(hs.2 c ?_).trans q) (λ_ q=>q) λ_ _ q=>q;rintro rfl;rcases hc with rfl|hc
  .rw[acr]at e;cases e
  .rw[acr]at hc;cases hc
 rcases hx with hk|hk
 .refine wpAny_storeName_local hk hn (λh' afv hs=>?_) afu;let#[oL,_,_,HR,_]:=id hn;refine h _ #[I.ok,I.os,I.bare,#[λb o e n hb hx=>?_,λb o e n hb hx=>?_,I.base.free,λb o e hx=>?_,I.base.nV,I.base.pM,I.base.qT],#[_,afv,λj y v' e1 e2 e3=>?_],λy c e=>?_,I.free,I.qk,λp hp=>?_,tracked #[oL,HR,I.free] hs,by simpa using I.len] #[_,hs,.inl zc]
  .show(hs.2 b (cB (hZ (bj e) I.ok.above))).trans (I.base.keep b o e n hb hx)
  .let#[sl,e1]:=I.base.slot b o e n hb hx;show#[sl,(hs.2 b (cB (hZ (bj e) I.ok.above))).trans e1]
  .let#[o',e1]:=I.base.there b o e hx;show#[o',(hs.2 b (cB (hZ (bj e) I.ok.above))).trans e1]
  .by_cases hj:j=i
   .subst hj;rw[hi]at e1;cases e1;rw[qf acq]at e2;cases e2;show#[u,r,.inl #[hk,by simp]]
   .rw[tJ (Ne.symm hj)]at e2;let#[u',r',q]:=hl j y v' e1 e2 e3;refine#[u',r',?_];rcases q with⟨k,e⟩|⟨k,c,e,z⟩
    .refine .inl #[k,?_];have:y≠x:=λe=>hj (CK hN e1 (e▸hi));simp[this,e]
    .show .inr #[k,c,e,z.sameBut hs (vL y c e)]
  .let#[w',z]:=I.cell y c e;show#[w',z.sameBut hs (vL y c e)]
  .let#[e,n,ne,nf,d]:=I.pin p hp;show#[(hs.2 p.1 ne).trans e,n,ne,nf,d]
 .have XC:X.fn x=ah:=by
   rcases hf with z|z
   .show z
   .rw[z]at hk;cases hk
  let#[c,hc]:=I.ok.has x (.inl hk);let#[w',z]:=I.cell x c hc;refine wpAny_storeName_cell I.ok.kind hk hc z (λh' acs hs=>?_);let#[oc,acu,afw]:=id z;refine h { s with heap:=h' } #[I.ok,I.os,I.bare,#[λb o e n hb hx=>?_,λb o e n hb hx=>?_,I.base.free,λb o e hx=>?_,I.base.nV,I.base.pM,I.base.qT],#[m,hn.sameBut hs (Ne.symm (vL x c hc)),λj y v' e1 e2 e3=>?_],λy c' e=>?_,I.free,I.qk,λp hp=>?_,tracked #[oc,acu,I.qk x c hc] hs,by simpa using I.len] #[c,hs,.inr hc]
  .show(hs.2 b (cB (hZ (bj e) (I.ok.yS x c XC hc)))).trans (I.base.keep b o e n hb hx)
  .let#[sl,e1]:=I.base.slot b o e n hb hx;show#[sl,(hs.2 b (cB (hZ (bj e) (I.ok.yS x c XC hc)))).trans e1]
  .let#[o',e1]:=I.base.there b o e hx;show#[o',(hs.2 b (cB (hZ (bj e) (I.ok.yS x c XC hc)))).trans e1]
  .by_cases hj:j=i
   .subst hj;rw[hi]at e1;cases e1;rw[qf acq]at e2;cases e2;show#[u,r,.inr #[.inl hk,c,hc,acs]]
   .rw[tJ (Ne.symm hj)]at e2;let#[u',r',q]:=hl j y v' e1 e2 e3;refine#[u',r',?_];rcases q with q|⟨k,c',e,z'⟩
    .show .inl q
    .refine .inr #[k,c',e,z'.sameBut hs ?_];rintro rfl;show hj (CK hN e1 (I.ok.inj _ _ _ e hc▸hi))
  .by_cases dH:c'=c
   .subst dH;show#[_,acs]
   .let#[w2,z2]:=I.cell y c' e;show#[w2,z2.sameBut hs dH]
  .let#[e,n,ne,nf,d]:=I.pin p hp;refine#[(hs.2 p.1 ?_).trans e,n,ne,nf,d];intro q;rw[q,acu]at e;have q':oc=p.2:=Option.some.inj e;show d w' (by rw[<-q'];show afw)
theorem lg {i:Nat}{Q:Unit->aq->zu}(I:Inv X pins σ H s) (hN:X.N.Nodup) (hi:X.N[i]?=ae x) (hx:Loc X.env.scope x) (r:RelV v u)
 (h:∀ s',Inv X pins (σ.set i (ae v)) H s'->Q () s') (hf:X.fn x=ah \/ X.env.scope.names.lookup x=ae .local:=by first|show .inl zc|show .inr zc|assumption):wpAny M A (storeName X.env x u) Q E s:=
 Bv I hN hi hx r (λs' I' _=>h s' I') hf
theorem Inv.acv {s':aq}(I:Inv X pins σ H s) (ho:s'.os=s.os) (u:Un (pN X.stack) ch H H' s.heap s'.heap) (aC:cJ X.prog X.w H' s'.heap) (hg:AllBare s'.gens)
 (sr:∀ b∈ch,(b∈X.ex \/ X.s₀.heap.objs.size<=b) /\ b≠X.env.locals /\ (∀ x c,X.env.cells.lookup x=ae c->c≠b) /\ ∀ p∈X.pn++pins,p.1≠b):Inv X pins σ H' s':=by
 let#[h',g',d',t',o']:=s';have e:o'=s.os:=ho;subst e;show I.call (g':=g') (t':=t') (d':=d') u aC hg sr
end
abbrev XK:=ai->Option aj->Hp->zu
noncomputable abbrev St:=List (Option V)
abbrev VK:=V->Hp->zu
abbrev TE:=St->Hp->VK->zu
abbrev TT:=St->Hp->(Bool->Hp->zu)->zu
abbrev TA:=St->Hp->(List V->Hp->zu)->zu
structure Ends where
 nx:St->Hp->zu
 rt:VK
 bk:St->Hp->zu:=λ_ _=>False
 ct:St->Hp->zu:=λ_ _=>False
abbrev TS:=Ends->St->Hp->zu
def EP (X:Cx) (pins:List (aj×aY)) (σ:St) (Q:VK) (u:ai) (s':aq):zu:=∃ v H',Inv X pins σ H' s' /\ RelV v u /\ Q v H'
def TP (X:Cx) (pins:List (aj×aY)) (σ:St) (Q:Bool->Hp->zu) (b:Bool) (s':aq):zu:=∃ H',Inv X pins σ H' s' /\ Q b H'
def AP (X:Cx) (pins:List (aj×aY)) (σ:St) (Q:List V->Hp->zu) (us:List ai) (s':aq):zu:=∃ vs H',Inv X pins σ H' s' /\ Vals vs us /\ Q vs H'
def SP (X:Cx) (pins:List (aj×aY)) (D:Ends) (f:Flow) (s':aq):zu:=
 match f with
 |.next=>∃ σ' H',Inv X pins σ' H' s' /\ D.nx σ' H'
 |.brk=>∃ σ' H',Inv X pins σ' H' s' /\ D.bk σ' H'
 |.cont=>∃ σ' H',Inv X pins σ' H' s' /\ D.ct σ' H'
 |.ret u=>∃ v σ' H',Inv X pins σ' H' s' /\ RelV v u /\ D.rt v H'
def PE (X:Cx) (e:au) (t:TE):zu:=
 ∀ (pins:List (aj×aY)) (s:aq) (σ:St) (H:Hp) (Q:VK),Inv X pins σ H s->t σ H Q->wpAny zg X.A (eval e X.env) zaz X.xe s
def PT (X:Cx) (e:au) (t:TT):zu:=
 ∀ (pins:List (aj×aY)) (s:aq) (σ:St) (H:Hp) (Q:Bool->Hp->zu),Inv X pins σ H s->t σ H Q->wpAny zg X.A (isTrue e X.env (eval e X.env)) (TP X pins σ Q) X.xe s
def PW (X:Cx) (e:au) (t:TT):zu:=
 ∀ (whole:Sem ai) (pins:List (aj×aY)) (s:aq) (σ:St) (H:Hp) (Q:Bool->Hp->zu),Inv X pins σ H s->t σ H Q->wpAny zg X.A (isTrue e X.env whole) (TP X pins σ Q) X.xe s
theorem PW.pt {X:Cx}{t:TT}(h:PW X e t):PT X e t:=h _
def PA (X:Cx) (es:List au) (t:TA):zu:=
 ∀ (pos:aL) (pins:List (aj×aY)) (s:aq) (σ:St) (H:Hp) (Q:List V->Hp->zu),Inv X pins σ H s->t σ H Q->wpAny zg X.A (spliced (backTo pos (starEach es X.env))) (AP X pins σ Q) X.xe s
def PS (X:Cx) (st:cj) (t:TS):zu:=
 ∀ (pins:List (aj×aY)) (s:aq) (σ:St) (H:Hp) (D:Ends),Inv X pins σ H s->t D σ H->wpAny zg X.A (exec st X.env) (SP X pins D) X.xe s
def kE (X:Cx) (st:List cj) (t:TS):zu:=
 ∀ (pins:List (aj×aY)) (s:aq) (σ:St) (H:Hp) (D:Ends),Inv X pins σ H s->t D σ H->wpAny zg X.A (execs st X.env) (SP X pins D) X.xe s
theorem cq {t:Sem α}{Q Q':α->aq->zu}{s:aq}(h:wpAny M A t Q E s) (hQ:∀ a s,Q a s->Q' a s):wpAny M A t Q' E s:=k7 h hQ λ_ _ x=>x
theorem tE {X:Cx}{σ:St}{Q:VK}{t:Sem ai}{Q':ai->aq->zu}{s:aq}(h:wpAny M A t zaz E s) (k:∀ v s x H,Inv X pins σ H s->RelV x v->Q x H->Q' v s):wpAny M A t Q' E s:=cq h λv s ⟨x,H,I,r,q⟩=>k v s x H I r q
theorem tA {X:Cx}{σ:St}{Q:List V->Hp->zu}{t:Sem (List ai)}{Q':List ai->aq->zu}{s:aq}(h:wpAny M A t (AP X pins σ Q) E s) (k:∀ v s x H,Inv X pins σ H s->Vals x v->Q x H->Q' v s):wpAny M A t Q' E s:=cq h λv s ⟨x,H,I,r,q⟩=>k v s x H I r q
theorem tP {β:Type}{X:Cx}{σ:St}{Q:β->Hp->zu}{R:β->α->zu}{t:Sem α}{Q':α->aq->zu}{s:aq}(h:wpAny M A t (λv s=>∃ x H,Inv X pins σ H s /\ R x v /\ Q x H) E s) (k:∀ v s x H,Inv X pins σ H s->R x v->Q x H->Q' v s):wpAny M A t Q' E s:=cq h λv s ⟨x,H,I,r,q⟩=>k v s x H I r q
theorem tT {X:Cx}{σ:St}{Q:Bool->Hp->zu}{t:Sem Bool}{Q':Bool->aq->zu}{s:aq}(h:wpAny M A t (TP X pins σ Q) E s) (k:∀ v s H,Inv X pins σ H s->Q v H->Q' v s):wpAny M A t Q' E s:=cq h λv s ⟨H,I,q⟩=>k v s H I q
end L2
variable {X:L2.Cx}{σ:L2.St}
namespace L2
section
def afx (i:Nat):TE:=λσ H Q=>∃ v,σ[i]?=ae (ae v) /\ Q v H
def tC (v:V):TE:=λ_ H Q=>Q v H
theorem J1 {i:Nat}(hN:X.N[i]?=ae x) (hv:vJ X.env.scope x) (hd:(x==("__debug__":Str))=af:=by decide) (pO:(x==("__classdict__":Str))=af:=by decide):PE X (.Name x pos) (afx i):=by
 intro pins s σ H Q I h;let#[v,e,h]:=h;let#[m,hn,hl]:=I.loc;let#[u,r,l]:=hl i x v hN e hv;have fin:EP X pins σ Q u s:=#[v,H,I,r,h];rcases l with⟨hk,hm⟩|⟨hk,c,hc,xA⟩
 .show QC (aan I.ok.kind hk hn hm fin) hd
 .rcases hk with hk|hk
  .show QC (aao I.ok.kind hk hc xA fin) hd
  .show QC (wpAny_loadName_free I.ok.kind hk hc xA fin pO) hd
theorem J2 {i j pos}:PE X (.Constant (.int i) j pos) (tC (.int i)):=λ_ _ _ H _ I h=>wpAny_Constant_int #[.int i,H,I.tok _,#[_,rfl],h]
theorem Vo {b j pos}:PE X (.Constant (.bool b) j pos) (tC (.bl b)):=λ_ _ _ H _ I h=>Constant_bool #[.bl b,H,I,rfl,h]
theorem SI {j pos}:PE X (.Constant .none j pos) (tC .non):=λ_ _ _ H _ I h=>Constant_none #[.non,H,I,rfl,h]
theorem Aw {x j pos}:PE X (.Constant (.str x) j pos) (tC (.str x)):=λ_ _ _ H _ I h=>Calls.Constant_str #[.str x,H,I.tok _,#[_,rfl],h]
def Gl (X:Cx) (x:Str):zu:=X.env.kindOf x=ae .globalImplicit
theorem FQ {s:aq}(I:Inv X pins σ H s) (hg:Gl X x) (hm:X.mg x=ae u) (h:Q u s)
 (hd:(x==("__debug__":Str))=af:=by decide):wpAny zg X.A (eval (.Name x pos) X.env) Q E s:=
 Calls.Name_function_global I.ok.kind hg (Calls.loadGlobal_global (by rw[I.ok.glob];show I.mod.glob.keeps I.bk) hm h) hd
theorem jv {s:aq}(I:Inv X pins σ H s) (hg:Gl X x) (hm:X.mg x=ag) (hv:bootBuiltins x=ae u) (h:Q u s)
 (hn:x ≠ "__name__":=by decide) (hd:(x==("__debug__":Str))=af:=by decide):wpAny zg X.A (eval (.Name x pos) X.env) Q E s:=by
 let#[mb,h1,h2]:=I.mod.blt;show Calls.Name_function_global I.ok.kind hg (Calls.loadGlobal_builtin (by rw[I.ok.glob];show I.mod.glob.keeps I.bk) hm (by rw[I.ok.blt];show h1.keeps I.bk) ((h2 x hn).trans hv) h) hd
theorem NU (hg:Gl X x) (hm:X.mg x=ae u) (r:RelV v u) (hd:(x==("__debug__":Str))=af:=by decide):PE X (.Name x pos) (tC v):=
 λ_ _ _ H _ I h=>FQ I hg hm #[v,H,I,r,h] hd
theorem NV (hg:Gl X x) (hm:X.mg x=ag) (hv:bootBuiltins x=ae u) (r:RelV v u) (hn:x ≠ "__name__":=by decide) (hd:(x==("__debug__":Str))=af:=by decide):PE X (.Name x pos) (tC v):=
 λ_ _ _ H _ I h=>jv I hg hm hv #[v,H,I,r,h] hn hd
variable {a b:au} {ta tb:TE} 
def PC (X:Cx) (op:CmpOp) (a b:au) (t:TE):zu:=
 ∀ (pins:List (aj×aY)) (s:aq) (σ:St) (H:Hp) (Q:VK),Inv X pins σ H s->t σ H Q ->
  wpAny zg X.A (eval a X.env) (λv s₁=>wpAny zg X.A (eval b X.env) (λu s₂=>wpAny zg X.A (compareOp op v u) zaz X.xe s₂) X.xe s₁) X.xe s
theorem acw (b:au) (h:op≠.In) (h2:op≠.NotIn):behindInMarks op b=af:=by
 have e1:(op==CmpOp.In)=af:=by cases op<;>first|rfl|show absurd zc h
 have e2:(op==CmpOp.NotIn)=af:=by cases op<;>first|rfl|show absurd zc h2
 cases b<;>simp[behindInMarks,e1,e2]
def acx (ta:TE):TE:=λσ H Q=>ta σ H λx H1=>Q (.bl (decide (x=.non))) H1
def acy (ta:TE):TE:=λσ H Q=>ta σ H λx H1=>Q (.bl (!decide (x=.non))) H1
theorem RelV.acz {x:V}{v:ai}(r:RelV x v):(v==Value.none)=decide (x=.non):=by
 cases x with
 |int _=>let#[t,rfl]:=r;rfl
 |str _=>let#[t,rfl]:=r;rfl
 |pL _=>let#[t,rfl]:=r;rfl
 |uO _=>let#[t,rfl]:=r;rfl
 |_=>cases r;rfl
theorem J3 {j pos'}(ha:PE X a ta):PC X .Is a (.Constant .none j pos') (acx ta):=by
 intro pins s σ H Q I h;refine tE zaw λv s1 x H1 I1 r1 q1=>?_;show Constant_none (is_none_gen #[.bl _,H1,I1,by rw[r1.acz];rfl,q1])
theorem FR {j pos'}(ha:PE X a ta):PC X .IsNot a (.Constant .none j pos') (acy ta):=by
 intro pins s σ H Q I h;refine tE zaw λv s1 x H1 I1 r1 q1=>?_;show Constant_none (isnot_none_gen #[.bl _,H1,I1,by rw[r1.acz];rfl,q1])
noncomputable def tB (t:TE):TT:=λσ H Q=>t σ H λx H1=>∃ c,x=.bl c /\ Q c H1
theorem Ax {t:TE}(h:PC X op a b t) (h1:behindInMarks op b=af:=by first|show acw _ (by decide) (by decide)|rfl):PE X (.Compare a [op] [b] pos) t:=λpins s σ H Q I hw=>aap (h pins s σ H Q I hw) h1
theorem BZ {t:TE}(h:PC X op a b t) (h1:behindInMarks op b=af:=by first|show acw _ ze ze|rfl):PT X (.Compare a [op] [b] pos) (tB t):=by
 intro pins s σ H Q I hw;refine aaq (cq (h pins s σ H _ I hw) λv s1 h1=>cq h1 λu s2 h2=>tE h2 λc s3 x H1 I1 r1 q1=>?_) h1;let#[d,rfl,q]:=q1;cases r1;show p7 #[H1,I1,q]
theorem SJ {t:TE}(h:PE X e t) (he:∀ whole,isTrue e X.env whole=(do let v <-whole;standAt e.pos;holding [v] (truthy v)):=by intro _;rfl):PT X e (tB t):=by
 intro pins s σ H Q I hw;refine isTrue_plain (tE (h pins s σ H _ I hw) λv s1 x H1 I1 r1 q1=>?_) (he _);let#[d,rfl,q]:=q1;cases r1;show p7 #[H1,I1,q]
variable {tA HS:TT} {rest:List au}
noncomputable def afy (t u:TT):TT:=λσ H Q=>t σ H λc H1=>if c=ah then u σ H1 Q else Q af H1
noncomputable def afz (t u:TT):TT:=λσ H Q=>t σ H λc H1=>if c=ah then Q ah H1 else u σ H1 Q
noncomputable def afA (t:TT):TT:=λσ H Q=>t σ H λc H1=>Q (!c) H1
theorem NW (ha:PT X a tA):PW X (.BoolOp .And [a] pos) tA:=by
 intro wh pins s σ H Q I h;refine isTrue_and (cq (ha pins s σ H Q I h) λc s1 e=>?_);cases c with
 |true=>show isTrue_and_nil e
 |false=>show e
theorem SK (ha:PT X a tA):PW X (.BoolOp .Or [a] pos) tA:=by
 intro wh pins s σ H Q I h;refine isTrue_or (cq (ha pins s σ H Q I h) λc s1 e=>?_);cases c with
 |false=>show isTrue_or_nil e
 |true=>show e
theorem SL (ha:PT X a tA) (hb:PW X (.BoolOp .And (b::rest) pos) HS):PW X (.BoolOp .And (a::b::rest) pos) (afy tA HS):=by
 intro wh pins s σ H Q I h;refine isTrue_and (tT zaw λc s1 H1 I1 q1=>?_);cases c with
 |true=>show hb wh pins s1 σ H1 Q I1 q1
 |false=>show#[H1,I1,q1]
theorem Vp (ha:PT X a tA) (hb:PW X (.BoolOp .Or (b::rest) pos) HS):PW X (.BoolOp .Or (a::b::rest) pos) (afz tA HS):=by
 intro wh pins s σ H Q I h;refine isTrue_or (tT zaw λc s1 H1 I1 q1=>?_);cases c with
 |true=>show#[H1,I1,q1]
 |false=>show hb wh pins s1 σ H1 Q I1 q1
theorem SM (ha:PT X a tA):PT X (.UnaryOp .Not a pos) (afA tA):=by
 intro pins s σ H Q I h;show isTrue_not (ha pins s σ H (λc H1=>Q (!c) H1) I h)
def afB (ta tb:TE):TE:=λσ H Q=>ta σ H λx H1=>∃ c,x=.bl c /\ if c=ah then tb σ H1 Q else Q (.bl af) H1
def afC (ta:TE):TE:=λσ H Q=>ta σ H λx H1=>∃ c,x=.bl c /\ Q (.bl (!c)) H1
theorem SN {op}{t:TE}(h:PE X a t):PE X (.BoolOp op [a] pos) t:=λpins s σ H Q I hw=>BoolOp_one (h pins s σ H Q I hw)
theorem SO (ha:PE X a ta) (hb:PE X (.BoolOp .And (b::rest) pos) tb):PE X (.BoolOp .And (a::b::rest) pos) (afB ta tb):=by
 intro pins s σ H Q I h;refine BoolOp_and (tE zaw λv s1 x H1 I1 r1 q1=>?_);let#[c,rfl,q1]:=q1;cases r1;refine p7 ?_;cases c with
 |true=>show hb pins s1 σ H1 Q I1 q1
 |false=>show#[.bl af,H1,I1,rfl,q1]
theorem SQ (ha:PE X a ta):PE X (.UnaryOp .Not a pos) (afC ta):=by
 intro pins s σ H Q I h;refine UnaryOp_ (tE zaw λv s1 x H1 I1 r1 q1=>?_);let#[c,rfl,q1]:=q1;cases r1;show not_of (p7 #[.bl (!c),H1,I1,rfl,q1])
def afD (t:TT) (ta tb:TE):TE:=λσ H Q=>t σ H λc H1=>if c=ah then ta σ H1 Q else tb σ H1 Q
theorem J4 {c:au}(hc:PT X c tA) (ha:PE X a ta) (hb:PE X b tb):PE X (.IfExp c a b pos) (afD tA ta tb):=by
 intro pins s σ H Q I h;refine wpAny_IfExp (tT (hc pins s σ H _ I h) λd s1 H1 I1 q1=>?_);cases d with
 |true=>show ha pins s1 σ H1 Q I1 q1
 |false=>show hb pins s1 σ H1 Q I1 q1
end
def bX (K:PySem.W.Frag) (H:Hp) (a:aj) (xs:List V):zu:=
 Rd H a (.lst xs) \/
  ∃ (o:aY) (its:Array ai) (n:Nat),K.lookup a=ae o /\ o.cls=.type "list" /\ o.dict=ag /\ o.data=.seq its n /\ its.size<=sizeLine /\ Vals xs its.toList
def cQ (K:PySem.W.Frag) (H:Hp) (a:aj) (xs:List V):zu:=
 Rd H a (.tup xs) \/
  ∃ (o:aY) (its:Array ai) (n:Nat),K.lookup a=ae o /\ o.cls=.type "tuple" /\ o.data=.seq its n /\ its.size<=sizeLine /\ Vals xs its.toList
noncomputable def afE:ai->Option V
 |.none=>ae .non
 |.bool b=>ae (.bl b)
 |.int i _=>ae (.int i)
 |.str x _=>ae (.str x)
 |.bytes b _=>ae (.pL b)
 |.float b _=>ae (.uO b)
 |.ref a=>ae (.ref a)
 |.type n=>ae (.ty n)
 |_=>ag
theorem RelV.abs {x:V}(r:RelV x u):afE u=ae x:=by
 cases x with
 |int _=>let#[t,rfl]:=r;rfl
 |str _=>let#[t,rfl]:=r;rfl
 |pL _=>let#[t,rfl]:=r;rfl
 |uO _=>let#[t,rfl]:=r;rfl
 |_=>cases r;rfl
theorem RelV.inj {x y:V}{u:ai}(r:RelV x u) (q:RelV y u):x=y:=Option.some.inj (r.abs.symm.trans q.abs)
theorem Vals.inj:∀ {xs ys:List V}{us:List ai},Vals xs us->Vals ys us->xs=ys
 |_,_,_,.nil,.nil=>rfl
 |_,_,_,.cons r t,.cons r' t'=>by rw[r.inj r',Vals.inj t t']
section
variable {s:aq} {xs ys:List V}
theorem bX.of (h:H a=ae (.lst xs)):bX K H a xs:=.inl (.inl h)
theorem cQ.of (h:H a=ae (.tup xs)):cQ K H a xs:=.inl (.inl h)
theorem Inv.list (I:Inv X pins σ H s) (h:bX X.K H a xs):∃ its:List ai,Vals xs its /\ PlainL s.heap a its.toArray /\ xs.length<=sizeLine:=by
 rcases h with h|⟨o,its,n,hk,hc,hd,hs,hz,r⟩
 .let#[z,its,n,r,e]:=h.ok I.aC;show#[its,r,#[_,n,e,rfl,rfl,rfl],z]
 .refine#[its.toList,r,#[o,n,I.kO a o hk,hc,hd,by simpa using hs],?_];have e:=r.length;erw[nH]at e;lia
theorem Inv.tuple (I:Inv X pins σ H s) (h:cQ X.K H a xs):∃ its:List ai,Vals xs its /\ IsTup s.heap a its.toArray /\ xs.length<=sizeLine:=by
 rcases h with h|⟨o,its,n,hk,hc,hs,hz,r⟩
 .let#[z,its,r,p]:=h.ok I.aC;show#[its,r,p,z]
 .refine#[its.toList,r,#[o,I.kO a o hk,hc,n,by simpa using hs],?_];have e:=r.length;erw[nH]at e;lia
theorem Inv.acA (I:Inv X pins σ H s) (h:bX X.K H a xs) (h':bX X.K H a ys):xs=ys:=by
 let#[its,r,#[o,n,e,_,_,d],_]:=I.list h;let#[its',r',#[o',n',e',_,_,d'],_]:=I.list h';rw[e]at e';cases e';rw[d]at d';injection d' with d1 _;have:its=its':=by simpa using congrArg Array.toList d1
 subst this;show r.inj r'
theorem Inv.acB (I:Inv X pins σ H s) (h:cQ X.K H a xs) (h':cQ X.K H a ys):xs=ys:=by
 let#[its,r,#[o,e,_,n,d],_]:=I.tuple h;let#[its',r',#[o',e',_,n',d'],_]:=I.tuple h';rw[e]at e';cases e';rw[d]at d';injection d' with d1 _;have:its=its':=by simpa using congrArg Array.toList d1
 subst this;show r.inj r'
end
noncomputable abbrev Cx.sy (X:Cx) (E:ai->aq->zu):Cx:={ X with xe:=E }
abbrev Cx.xC (X:Cx):Cx:=X.sy λ_ _=>False
theorem Cx.Ok.sy {X:Cx}(ok:X.Ok) (E:ai->aq->zu):(X.sy E).Ok:=
 #[ok.mod,ok.kind,ok.glob,ok.blt,ok.above,ok.inj,ok.has,ok.yS,ok.hd,ok.frames,ok.HQ,ok.xw,ok.bs,ok.vK,ok.yT,ok.xx,ok.qU,ok.xy]
theorem Cx.Ok.uQ (ok:(X.sy E).Ok):X.Ok:=
 #[ok.mod,ok.kind,ok.glob,ok.blt,ok.above,ok.inj,ok.has,ok.yS,ok.hd,ok.frames,ok.HQ,ok.xw,ok.bs,ok.vK,ok.yT,ok.xx,ok.qU,ok.xy]
section
variable {s:aq} 
theorem Inv.sy (I:Inv X pins σ H s) (E:ai->aq->zu):Inv (X.sy E) pins σ H s:=#[I.ok.sy E,I.os,I.bare,I.base,I.loc,I.cell,I.free,I.qk,I.pin,I.aC,I.len]
theorem Inv.uQ (I:Inv (X.sy E) pins σ H s):Inv X pins σ H s:=#[I.ok.uQ,I.os,I.bare,I.base,I.loc,I.cell,I.free,I.qk,I.pin,I.aC,I.len]
theorem SP.uQ {D:Ends}{f:Flow}{s':aq}(h:SP (X.sy E) pins D f s'):SP X pins D f s':=by
 cases f with
 |ret u=>let#[v,σ',H',I,r,q]:=h;show#[v,σ',H',I.uQ,r,q]
 |_=>let#[σ',H',I,q]:=h;show#[σ',H',I.uQ,q]
theorem kE.xC {st:List cj}{t:TS}(h:kE X.xC st t):kE X st t:=λpins s σ H D I hw=>
 k7 (h pins s σ H D (I.sy _) hw) (λ_ _ q=>q.uQ) λ_ _ z=>False.elim z
end
section
variable {rest:List cj} {t u:TS} {te:TE} 
def afF:TS:=λD σ H=>D.nx σ H
def afG (t u:TS):TS:=λD σ H=>t { D with nx:=u D } σ H
theorem NX:kE X [] afF:=λ_ _ σ H _ I h=>QD #[σ,H,I,h]
theorem J5 (h1:PS X st t) (h2:kE X rest u):kE X (st::rest) (afG t u):=by
 intro pins s σ H D I h;refine aar (cq (h1 pins s σ H { D with nx:=u D } I h) λf s1 q=>?_);cases f with
 |next=>
   let#[σ',H',I',q]:=q;show h2 pins s1 σ' H' D I' q
 |ret v=>show q
 |_=>show q
theorem NY (h1:PS X st t):kE X [st] t:=by
 intro pins s σ H D I h;refine aar (cq (h1 pins s σ H D I h) λf s1 q=>?_);cases f with
 |next=>show QD q
 |ret v=>show q
 |_=>show q
def afH:TS:=λD σ H=>D.bk σ H
def afI:TS:=λD σ H=>D.ct σ H
theorem J6:PS X (.Break pos) afH:=λ_ _ σ H _ I h=>wpAny_Break #[σ,H,I,h]
theorem CL:PS X (.Continue pos) afI:=λ_ _ σ H _ I h=>wpAny_Continue #[σ,H,I,h]
theorem Inv.quiet {s:aq}(I:Inv X pins σ H s):interactive X.env=af:=by simp[interactive,I.ok.kind]
def afJ (te:TE):TS:=λD σ H=>te σ H λ_ H1=>D.nx σ H1
theorem NZ (he:PE X e te) (hs:swapsWith e ag pos.line X.env=pure af:=by rfl):PS X (.Expr e pos) (afJ te):=by
 intro pins s σ H D I h;show wpAny_Expr_any (tE (he pins s σ H _ I h) λv s1 x H1 I1 r1 q1=>#[σ,H1,I1,q1]) I.quiet hs
def afK (te:TE):TS:=λD σ H=>te σ H D.rt
theorem SR (he:PE X e te):PS X (.Return (ae e) pos) (afK te):=by
 intro pins s σ H D I h;show wpAny_Return_some (tE (he pins s σ H _ I h) λv s1 x H1 I1 r1 q1=>#[x,σ,H1,I1,r1,q1])
def afL (c:TT) (t u:TS):TS:=λD σ H=>c σ H λb H1=>if b=ah then t D σ H1 else u D σ H1
theorem Vq {c:au}{a b:List cj}{tc:TT}(hc:PT X c tc) (ha:kE X a t) (hb:kE X b u):PS X (.If c a b pos) (afL tc t u):=by
 intro pins s σ H D I h;refine wpAny_If (tT (hc pins s σ H _ I h) λd s1 H1 I1 q1=>?_);cases d with
 |true=>show ha pins s1 σ H1 D I1 q1
 |false=>show hb pins s1 σ H1 D I1 q1
end
abbrev TG:=V->St->Hp->(St->Hp->zu)->zu
abbrev tV:=List V->St->Hp->(St->Hp->zu)->zu
def PG (X:Cx) (target:au) (t:TG):zu:=
 ∀ (pins:List (aj×aY)) (s:aq) (σ:St) (H:Hp) (v:V) (u:ai) (Q:St->Hp->zu),Inv X pins σ H s->RelV v u->t v σ H Q ->
  wpAny zg X.A (assign target X.env u) (λ_ s'=>∃ σ' H',Inv X pins σ' H' s' /\ Q σ' H') X.xe s
def sC (X:Cx) (ts:List au) (t:tV):zu:=
 ∀ (pins:List (aj×aY)) (s:aq) (σ:St) (H:Hp) (vs:List V) (us:List ai) (Q:St->Hp->zu),Inv X pins σ H s->Vals vs us->t vs σ H Q ->
  wpAny zg X.A (assignInOrder ((assignEach ts X.env).map (·.2)) us) (λ_ s'=>∃ σ' H',Inv X pins σ' H' s' /\ Q σ' H') X.xe s
abbrev XD:=V->V->V->Hp->(Hp->zu)->zu
def acC (X:Cx) (t:XD):zu:=
 ∀ (pins:List (aj×aY)) (s:aq) (σ:St) (H:Hp) (o i v:V) (ov iv u:ai) (Q:Hp->zu),Inv X pins σ H s->RelV o ov->RelV i iv->RelV v u->t o i v H Q ->
  wpAny zg X.A (setItem ov iv u) (λ_ s'=>∃ H',Inv X pins σ H' s' /\ Q H') X.xe s
abbrev HU:=V->V->Hp->VK->zu
def XE (X:Cx) (op:Operator) (t:HU):zu:=
 ∀ (pins:List (aj×aY)) (s:aq) (σ:St) (H:Hp) (x y:V) (v u:ai) (Q:VK),Inv X pins σ H s->RelV x v->RelV y u->t x y H Q ->
  wpAny zg X.A (inplaceOp op v u) zaz X.xe s
def XF (i:Nat):TG:=λv σ H Q=>Q (σ.set i (ae v)) H
theorem B2 {i:Nat}(hN:X.N.Nodup) (hi:X.N[i]?=ae x) (hx:Loc X.env.scope x) (hf:X.fn x=ah \/ X.env.scope.names.lookup x=ae .local:=by first|show .inl zc|show .inr zc|assumption):PG X (.Name x pos) (XF i):=by
 intro pins s σ H v u Q I r h;show aas (lg I hN hi hx r (λs' I'=>#[_,H,I',h]) hf)
noncomputable def afM:tV:=λvs σ H Q=>vs=[] /\ Q σ H
noncomputable def afN (t:TG) (u:tV):tV:=λvs σ H Q=>∃ v r,vs=v::r /\ t v σ H λσ' H'=>u r σ' H' Q
theorem FS:sC X [] afM:=by
 intro pins s σ H vs us Q I r h;let#[e,h]:=h;subst e;cases r;show abz #[σ,H,I,h]
theorem Ay {t:TG}{u:tV}(h1:PG X e t) (h2:sC X es u)
 (hs:(assignEach (e::es) X.env).map (·.2)=assign e X.env::(assignEach es X.env).map (·.2):=by rfl):sC X (e::es) (afN t u):=by
 intro pins s σ H vs us Q I r h;let#[v,vr,e1,h]:=h;subst e1;cases r with
 |cons r rr=>
   rw[hs];refine W3 (cq (h1 pins s σ H _ _ _ I r h) ?_);rintro _ s1 ⟨σ1,H1,I1,q1⟩;show h2 pins s1 σ1 H1 _ _ Q I1 rr q1
def afO (K:PySem.W.Frag) (n:Nat) (t:tV):TG:=λv σ H Q=>∃ a xs,v=.ref a /\ cQ K H a xs /\ xs.length=n /\ t xs σ H Q
theorem J7 {k:Nat}{t:tV}(hc:X.calm=ah) (h:sC X es t)
 (hn:(assignEach es X.env).length=n:=by rfl) (yU:(assignEach es X.env).findIdx? (·.1)=ag:=by rfl):PG X (.Tuple es k pos) (afO X.K n t):=by
 intro pins s σ H v u Q I r hw;let#[a,xs,e1,hq,hl,hw]:=hw;subst e1;cases r;let#[its,rv,ht,hz]:=I.tuple hq;refine assign_Tuple_tuple (I.ok.hd hc) ht (by simp[hn,<-hl,rv.length]) yU λh' hx=>?_;have I1:Inv X pins σ H { s with heap:=h' }:=I.kept (t':=s.toks) λb o e=>hx b o (cB (bj e)) e;show h pins _ σ H xs _ Q I1 (by simpa using rv) hw
def afP (to ti:TE) (t:XD):TG:=λv σ H Q=>to σ H λo H1=>ti σ H1 λi H2=>t o i v H2 λH3=>Q σ H3
theorem SS {o i:au}{to ti:TE}{t:XD}(ho:PE X o to) (hi:PE X i ti) (hs:acC X t)
 (ha:∀ v,assign (.Subscript o i pos) X.env v=(do
  let ov <-holding [v] (eval o X.env)
  let iv <-holding [v,ov] (eval i X.env)
  standAt pos
  holding [v,ov,iv] (setItem ov iv v)
  release [v,ov,iv] []):=by intro _;rfl):PG X (.Subscript o i pos) (afP to ti t):=by
 intro pins s σ H v u Q I r h;rw[ha];refine ak (hG (tE (ho pins s σ H _ I h) λov s1 x H1 I1 r1 q1=>?_));refine ak (hG (tE (hi pins s1 σ H1 _ I1 q1) λiv s2 y H2 I2 r2 q2=>?_));refine ak (E6 (ak (hG (cq (hs pins s2 σ H2 x y v ov iv u _ I2 r1 r2 r q2) ?_))));rintro _ s3 ⟨H3,I3,q3⟩;show wpAny_release #[σ,H3,I3,q3]
def HV (te:TE) (g:TG):TS:=λD σ H=>te σ H λx H1=>g x σ H1 D.nx
theorem J8 {te:TE}{g:TG}(he:PE X e te) (hg:PG X tg g) (hs:swapsWithSole [tg] e pos.line X.env=pure af:=by rfl) (hw:swappedStores [tg] e X.env=pure ag:=by rfl)
 (h1:(assignEach [tg] X.env).map (·.2)=[assign tg X.env]:=by rfl):PS X (.Assign [tg] e pos) (HV te g):=by
 intro pins s σ H D I h;refine wpAny_Assign_stores (tE (he pins s σ H _ I h) λv s1 x H1 I1 r1 q1=>?_) hs hw;rw[h1];show cq (hg pins s1 σ H1 x v _ I1 r1 q1) λ_ s2 q=>q
theorem SU {i:Nat}{te:TE}(hN:X.N.Nodup) (hi:X.N[i]?=ae x) (hx:Loc X.env.scope x) (he:PE X e te) (hs:swapsWith e (ae (.Name x pos')) pos.line X.env=pure af:=by rfl) (hf:X.fn x=ah \/ X.env.scope.names.lookup x=ae .local:=by first|show .inl zc|show .inr zc|assumption) :
 PS X (.Assign [.Name x pos'] e pos) (HV te (XF i)):=by
 intro pins s σ H D I h;refine wpAny_Assign_Name (tE (he pins s σ H _ I h) λv s1 y H1 I1 r1 q1=>?_) hs;show lg I1 hN hi hx r1 (λs2 I2=>#[_,H1,I2,q1]) hf
def acD (i j:Nat) (ta:TA):TS:=λD σ H=>ta σ H λvs H1=>∃ v w,vs=[v,w] /\ D.nx ((σ.set i (ae v)).set j (ae w)) H1
theorem SV {i:Nat}{y:Str}{a b:au}{ta:TA}{px py pt:aL}{kt k2 nj}(hc:X.calm=ah) (hN:X.N.Nodup) (hi:X.N[i]?=ae x) (hj:X.N[j]?=ae y) (yV:i≠j)
 (hx:X.env.scope.names.lookup x=ae .local) (hy:X.env.scope.names.lookup y=ae .local) (ha:PA X [a,b] ta)
 (hw:swappedStores [.Tuple [.Name x px,.Name y py] kt pt] (.Tuple [a,b] k2 nj) X.env=pure (ae [x,y]))
 (hs:swapsWithSole [.Tuple [.Name x px,.Name y py] kt pt] (.Tuple [a,b] k2 nj) pos.line X.env=pure af:=by rfl) :
 PS X zav (acD i j ta):=by
 intro pins s σ H D I h;rw[exec_Assign_arm];refine ak (E6 ?_);rw[hs];refine ak (ay ?_);rw[if_neg ze];refine ak (Tuple_ (tA (ha _ pins s σ H _ I h) λus s1 vs H1 I1 r1 q1=>?_));let#[v,w,e1,q1]:=q1;subst e1;obtain⟨u1,u2,rfl,rv,kn⟩:∃ u1 u2,us=[u1,u2] /\ RelV v u1 /\ RelV w u2:=by
  cases r1 with
  |cons p q=>
    cases q with
    |cons p' q'=>
      cases q';show#[_,_,rfl,p,p']
 refine eR ?_ (by change 2<=sizeLine;decide);have I2:Inv X pins σ H1 { s1 with heap:=s1.heap.push { cls:=.type "tuple",data:=.seq [u1,u2].toArray } }:=I1.kept (t':=s1.toks) λb o e=>aX _ e;rw[hw];refine ak (ay ?_);change wpAny zg X.A (do rule "assign.swapped-stores";let items <-unpackItems (.ref s1.heap.objs.size) 2 ag;assignInOrder [λv=>bindName X.env y v,λv=>bindName X.env x v] items.reverse;pure Flow.next) _ _ _;refine ak (p8 (ak (unpackItems_tuple (items:=(List.toArray [u1,u2])) (I.ok.hd hc) (IsTup.new s1.heap _) λh' afQ=>?_)));have I3:=I2.kept (h':=h') (t':=s1.toks) λb o e=>afQ b o (cB (bj e)) e;change wpAny _ _ (assignInOrder [λv=>bindName X.env y v,λv=>bindName X.env x v] [u2,u1] >>= λ_=>pure Flow.next) _ _ _;refine ak (W3 (aat (lg I3 hN hj (.inl hy) kn (λs2 I4=>?_) (.inr hy))));refine W3 (aat (lg I4 hN hi (.inl hx) rv (λs3 I5=>abz (ay ?_)) (.inr hx)));rw[List.set_comm _ _ (Ne.symm yV)]at I5;show#[_,H1,I5,q1]
def acE (i:Nat) (te:TE) (ti:HU):TS:=λD σ H=>∃ x,σ[i]?=ae (ae x) /\ te σ H λy H1=>ti x y H1 λz H2=>D.nx (σ.set i (ae z)) H2
theorem J9 {i:Nat}{te:TE}{op:Operator}{ti:HU}(hN:X.N.Nodup) (hi:X.N[i]?=ae x) (hx:Loc X.env.scope x) (he:PE X e te) (ho:XE X op ti) (hf:X.fn x=ah \/ X.env.scope.names.lookup x=ae .local:=by first|show .inl zc|show .inr zc|assumption) :
 PS X (.AugAssign (.Name x pos') op e pos) (acE i te ti):=by
 intro pins s σ H D I h;let#[v,e1,h]:=h;let#[m,hn,hl]:=I.loc;have HW:vJ X.env.scope x:=by rcases hx with k|k;show .inl k;show .inr (.inl k)
 let#[u,r,l]:=hl i x v hi e1 HW;refine wpAny_AugAssign_Name ?_;have go:wpAny zg X.A (eval e X.env) (λw s₂=>wpAny zg X.A (inplaceOp op u w) (λr s₃=>wpAny zg X.A (storeName X.env x r) (λ_=>SP X pins D .next) X.xe s₃) X.xe s₂) X.xe s:=by
  refine tE (he pins s σ H _ I h) λw s1 y H1 I1 r1 q1=>?_;refine tE (ho pins s1 σ H1 v y u w _ I1 r r1 q1) λz s2 zv H2 I2 r2 q2=>?_;show lg I2 hN hi hx r2 (λs3 I3=>#[_,H2,I3,q2]) hf
 rcases l with⟨hk,hm⟩|⟨hk,c,hc,xA⟩
 .show aan I.ok.kind hk hn hm go
 .rcases hk with hk|hk
  .show aao I.ok.kind hk hc xA go
  .rcases hx with k|k
   .have:X.env.scope.names.lookup x=ae .free:=hk;rw[k]at this;cases this
   .have:X.env.scope.names.lookup x=ae .free:=hk;rw[k]at this;cases this
noncomputable def XG (f:Int->Int->Int):HU:=λx y H Q=>∃ i j,x=.int i /\ y=.int j /\ Q (.int (f i j)) H
theorem SW:XE X .Add (XG λi j=>i+j):=by
 intro pins s σ H x y v u Q I r1 r2 h;let#[i,j,e1,e2,q]:=h;subst e1;subst e2;let#[t,rfl]:=r1;let#[t',rfl]:=r2;show iadd_int #[.int _,H,I.tok _,#[_,rfl],q]
theorem SX:XE X .Sub (XG λi j=>i-j):=by
 intro pins s σ H x y v u Q I r1 r2 h;let#[i,j,e1,e2,q]:=h;subst e1;subst e2;let#[t,rfl]:=r1;let#[t',rfl]:=r2;show isub_int #[.int _,H,I.tok _,#[_,rfl],q]
structure It where
 go:Nat->Hp->zu
 yW:Nat->Hp->V->Hp->zu
 stop:Nat->Hp->zu
def nW (X:Cx) (pins:List (aj×aY)) (H:Hp) (b:aj):zu:=
 H b=ag /\ b≠X.env.locals /\ b∉X.fs /\ (b∈X.ex \/ X.s₀.heap.objs.size<=b) /\ (∀ x c,X.env.cells.lookup x=ae c->c≠b) /\ ∀ p∈X.pn++pins,p.1≠b
theorem Inv.vM {s:aq}{b:aj}(I:Inv X pins σ H s) (hb:s.heap.objs.size<=b) (hn:H' b=ag):nW X pins H' b:=by
 refine#[hn,vA (hZ I.lt hb),I.afr hb,.inr (cC I.sz hb),λx c e z=>?_,λp hp z=>?_]
 .let#[v,q]:=I.cell x c e;show absurd (hZ q.lt (by rw[z];show hb)) (kC _)
 .show absurd (hZ (bj (I.pin p hp).1) (by rw[z];show hb)) (kC _)
structure Turn (P:dg) (w:cn) (K:PySem.W.Frag) (tg:au) (J:It) (fp:List aj) (it:aj) (tn:Nat->aI->zu):zu where
 mem:it∈fp
 obj:∀ i h,tn i h->∀ b∈fp,∃ o,h.get? b=ae o /\ ∀ v,o.data≠.cell v
 keep:∀ i h h',tn i h->(∀ b∈fp,∀ o,h.get? b=ae o->h'.get? b=ae o)->tn i h'
 item:∀ (X:Cx),X.prog=P->X.w=w->X.K=K->X.calm=ah->∀ (i:Nat) (pins:List (aj×aY)) (s:aq) (σ:St) (H:Hp) (E:ai->aq->zu),Inv X pins σ H s->(∀ b∈fp,nW X pins H b)->tn i s.heap->J.go i H ->
  wpAny (model P w) X.A (pyNext zaQ) (λr s1=>∃ u,r=ae u /\
   wpAny (model P w) X.A (letOwnedTupleGo tg zaQ u) (λ_ s2=>∃ x H',Inv X pins σ H' s2 /\ RelV x u /\ J.yW i H x H' /\ tn (i+1) s2.heap /\ ∀ b∈fp,H' b=ag) E s1) E s
 done:∀ (X:Cx),X.prog=P->X.w=w->X.K=K->X.calm=ah->∀ (i:Nat) (pins:List (aj×aY)) (s:aq) (σ:St) (H:Hp) (E:ai->aq->zu),Inv X pins σ H s->(∀ b∈fp,nW X pins H b)->tn i s.heap->J.stop i H ->
  wpAny (model P w) X.A (pyNext zaQ) (λr s1=>r=ag /\ Inv X pins σ H s1) E s
 self:∀ (A:eE) (i:Nat) (s:aq) (Q:ai->aq->zu) (E:ai->aq->zu),tn i s.heap->Q zaQ s->wpAny (model P w) A (pyIter zaQ) Q E s
abbrev TI:=St->Hp->(It->Hp->zu)->zu
def XH (X:Cx) (pins:List (aj×aY)) (σ:St) (tg:au) (R:It->Hp->zu) (HX:ai) (s2:aq):zu:=
 ∃ (it:aj) (fp:List aj) (tn:Nat->aI->zu) (J:It) (H':Hp),HX=.ref it /\ Inv X pins σ H' s2 /\ Turn X.prog X.w X.K tg J fp it tn /\ tn 0 s2.heap /\ (∀ b∈fp,nW X pins H' b) /\ R J H'
def PI (X:Cx) (tg iter:au) (wi:TI):zu:=
 ∀ (pins:List (aj×aY)) (s:aq) (σ:St) (H:Hp) (R:It->Hp->zu),Inv X pins σ H s->wi σ H R ->
  wpAny zg X.A (eval iter X.env) (λv s1=>wpAny zg X.A (pyIter v) (XH X pins σ tg R) X.xe s1) X.xe s
theorem CM {s:aq}{n:String}{vs:Array ai}{Q:Unit->aq->zu}(ho:s.heap.get? it=ae o) (hc:o.cls=.type n) (hd:o.data=.fields vs)
 (hn:["enumerate","zip","dict_itemiterator","dict_reverseitemiterator","odict_iterator","itertools.zip_longest","itertools.pairwise"].contains n=af) (hQ:Q () s):wpAny M A (letOwnedTupleGo tg zaQ u) Q E s:=by
 unfold letOwnedTupleGo;cases tg<;>first
  |show ay hQ
  |(cases u<;>first
   |show ay hQ
   | (refine ak (wQ ho ?_)
      rw[hc,hd];change wpAny M A (if (["enumerate","zip","dict_itemiterator","dict_reverseitemiterator","odict_iterator","itertools.zip_longest","itertools.pairwise"].contains n&&vs[0]?==ae (rawInt _))=ah then _ else _) Q E s;rw[if_neg (by intro h;rw[hn,Hh]at h;cases h)];show ay hQ))
noncomputable def HY (K:PySem.W.Frag) (a:aj):It:=
 #[λi H=>∃ xs x,bX K H a xs /\ xs[i]?=ae x,λi H x H'=>H'=H /\ ∀ xs,bX K H a xs->xs[i]?=ae x,λi H=>∃ xs,bX K H a xs /\ xs.length<=i]
noncomputable def XI (K:PySem.W.Frag) (a:aj):It:=
 #[λi H=>∃ xs x,cQ K H a xs /\ xs[i]?=ae x,λi H x H'=>H'=H /\ ∀ xs,cQ K H a xs->xs[i]?=ae x,λi H=>∃ xs,cQ K H a xs /\ xs.length<=i]
noncomputable def vN (lo:Int) (n:Nat):It:=#[λi _=>i<n,λi H x H'=>H'=H /\ x=.int (lo+i),λi _=>n<=i]
theorem Bw (a it:aj):Turn P w K tg (HY K a) [it] it (λi h=>h.IsListIter it a i) where
 mem:=by simp
 obj:=λi h st b hb=>by
  have e:b=it:=by simpa using hb
  subst e;let#[o,e,c,d]:=st;show#[o,e,λv z=>by rw[d]at z;cases z]
 keep:=λi h h' st k=>st.at λo e=>k it zi o e
 item:=by
  intro X hP hw hK hc i pins s σ H E I hf st hg;subst hP hw hK;let#[xs,x,hq,hx]:=hg;let#[its,rv,p,hz]:=I.list hq;let#[u,hu,ru]:=rv.get hx;let#[f0,f1,f2,f3,f4,f5]:=hf it zi;refine wpAny_pyNext_list_item st p.isList (x:=u) (by simpa using hu) λh' nX sb=>?_;have I1:Inv X pins σ H { s with heap:=h' }:=I.turned (t':=s.toks) (λb o hb e=>(sb.2 b hb).trans e) f0 f1 f3 f4 f5;let#[o,e,c,d]:=id nX;show#[u,rfl,CM (s:={ s with heap:=h' }) e c d ze #[x,H,I1,ru,#[rfl,λys hy=>by rw[I.acA hy hq];show hx],nX,λb hb=>(hf b hb).1]]
 done:=by
  intro X hP hw hK hc i pins s σ H E I hf st hg;subst hP hw hK;let#[xs,hq,hx]:=hg;let#[its,rv,p,hz]:=I.list hq;let#[f0,f1,f2,f3,f4,f5]:=hf it zi;have hl:=rv.length;show wpAny_pyNext_list_end (I.ok.hd hc) st p.isList zk λh' eb=>#[rfl,I.turned (t':=s.toks) (λb o hb e=>eb b o hb e) f0 f1 f3 f4 f5]
 self:=λ_ _ _ _ _ st h=>wpAny_pyIter_listiter st h
theorem D4 (a it:aj):Turn P w K tg (XI K a) [it] it (λi h=>h.IsTupleIter it a i) where
 mem:=by simp
 obj:=λi h st b hb=>by
  have e:b=it:=by simpa using hb
  subst e;let#[o,e,c,d]:=st;show#[o,e,λv z=>by rw[d]at z;cases z]
 keep:=λi h h' st k=>st.at λo e=>k it zi o e
 item:=by
  intro X hP hw hK hc i pins s σ H E I hf st hg;subst hP hw hK;let#[xs,x,hq,hx]:=hg;let#[its,rv,p,hz]:=I.tuple hq;let#[u,hu,ru]:=rv.get hx;let#[f0,f1,f2,f3,f4,f5]:=hf it zi;refine wpAny_pyNext_tuple_item st (show s.heap.IsTuple a its.toArray from p) (x:=u) (by simpa using hu) λh' nX sb=>?_;have I1:Inv X pins σ H { s with heap:=h' }:=I.turned (t':=s.toks) (λb o hb e=>(sb.2 b hb).trans e) f0 f1 f3 f4 f5;let#[o,e,c,d]:=id nX;show#[u,rfl,CM (s:={ s with heap:=h' }) e c d ze #[x,H,I1,ru,#[rfl,λys hy=>by rw[I.acB hy hq];show hx],nX,λb hb=>(hf b hb).1]]
 done:=by
  intro X hP hw hK hc i pins s σ H E I hf st hg;subst hP hw hK;let#[xs,hq,hx]:=hg;let#[its,rv,p,hz]:=I.tuple hq;let#[f0,f1,f2,f3,f4,f5]:=hf it zi;have hl:=rv.length;show wpAny_pyNext_tuple_end (I.ok.hd hc) st (show s.heap.IsTuple a its.toArray from p) zk λh' eb=>#[rfl,I.turned (t':=s.toks) (λb o hb e=>eb b o hb e) f0 f1 f3 f4 f5]
 self:=λ_ _ _ _ _ st h=>wpAny_pyIter_tupleiter st h
theorem Az (it:aj) (lo:Int) (n:Nat):Turn P w K tg (vN lo n) [it] it (λi h=>IsRangeIter h it (lo+(i:Nat)*1) ((n:Int)-(i:Nat)) 1) where
 mem:=by simp
 obj:=λi h st b hb=>by
  have e:b=it:=by simpa using hb
  subst e;show#[_,st,λv z=>by
   have z':Data.fields _=Data.cell v:=z;cases z']
 keep:=λi h h' st k=>k it zi _ st
 item:=by
  intro X hP hw hK hc i pins s σ H E I hf st hg;subst hP hw hK;let#[f0,f1,f2,f3,f4,f5]:=hf it zi;have W:=Walks.range (prog:=X.prog) (w:=X.w) (I.ok.hd hc) it lo 1 n;refine W.item i s _ _ hg st λv h' tk hv nX kk=>?_;let#[t,rfl]:=hv;have I1:Inv X pins σ H { s with heap:=h',toks:=tk }:=I.turned (λb o hb e=>kk b o (by simpa using hb) e) f0 f1 f3 f4 f5;refine#[_,rfl,CM (s:={ s with heap:=h',toks:=tk }) (n:="range_iterator") nX zc zc (by decide) #[.int (lo+i),H,I1,#[t,?_],#[rfl,rfl],nX,λb hb=>(hf b hb).1]];rw[HK]
 done:=by
  intro X hP hw hK hc i pins s σ H E I hf st hg;subst hP hw hK;let#[f0,f1,f2,f3,f4,f5]:=hf it zi;show wpAny_pyNext_range_end (I.ok.hd hc) st (by have:n<=i:=hg;lia) λh' eb=>#[rfl,I.turned (t':=s.toks) (λb o hb e=>eb b o hb e) f0 f1 f3 f4 f5]
 self:=λ_ _ _ _ _ st h=>wpAny_pyIter_rangeiter st h
def acF (K:PySem.W.Frag) (tl:TE):TI:=λσ H R=>tl σ H λx H1=>∃ a,x=.ref a /\ (∃ xs,bX K H1 a xs) /\ R (HY K a) H1
theorem N0 {l:au}{tl:TE}(hl:PE X l tl):PI X tg l (acF X.K tl):=by
 intro pins s σ H R I h;refine tE (hl pins s σ H _ I h) λv s1 x H1 I1 r1 q1=>?_;let#[a,e,#[xs,hq],q]:=q1;subst e;cases r1;let#[its,rv,p,hz]:=I1.list hq;refine yx p.isList ?_;refine#[s1.heap.objs.size,[s1.heap.objs.size],_,_,H1,rfl,I1.kept (t':=s1.toks) λb o e=>aX _ e,Bw a _,#[_,bF _ zc,rfl,rfl],λb hb=>?_,q];have e:b=s1.heap.objs.size:=by simpa using hb
 subst e;show I1.vM (aD _) (I1.aC.fresh (aD _))
theorem Lc {s:aq}{R:It->Hp->zu}{lo hi:Int}{t u v:Tok}{tk:Nat}(I:Inv X pins σ H s) (h1:-(2 ^ 62)<=lo) (h2:lo<2 ^ 62) (h3:-(2 ^ 62)<=hi) (h4:hi<2 ^ 62)
 (q:R (vN lo (hi-lo).toNat) H):wpAny zg X.A (pyIter zK) (XH X pins σ tg R) E { s with heap:=s.heap.push { cls:=.type "range",data:=.fields (List.toArray [.int lo t,.int hi u,.int 1 v]) },toks:=tk }:=by
 refine aau (IsRange.new ..) (small_one h1 h2 h3 h4) ?_;have I1:Inv X pins σ H { s with heap:=s.heap.push { cls:=.type "range",data:=.fields (List.toArray [.int lo t,.int hi u,.int 1 v]) },toks:=tk }:=I.kept λb o e=>aX _ e;refine#[(s.heap.push { cls:=.type "range",data:=.fields (List.toArray [.int lo t,.int hi u,.int 1 v]) }).objs.size,[(s.heap.push { cls:=.type "range",data:=.fields (List.toArray [.int lo t,.int hi u,.int 1 v]) }).objs.size],_,_,H,rfl,
  I1.kept (t':=tk) λb o e=>aX _ e,Az _ lo (hi-lo).toNat,?_,λb hb=>?_,q]
 .have e1:lo+((0:Nat):Int)*1=lo:=by simp
  have e2:(((hi-lo).toNat:Nat):Int)-((0:Nat):Int)=Builtin.Range.rangeSize lo hi 1:=by rw[aav];split<;>lia
  change IsRangeIter _ _ (lo+((0:Nat):Int)*1) ((((hi-lo).toNat:Nat):Int)-((0:Nat):Int)) 1;rw[e1,e2];show bF _ zc
 .have e:b=(s.heap.push { cls:=.type "range",data:=.fields (List.toArray [.int lo t,.int hi u,.int 1 v]) }).objs.size:=by simpa using hb
  subst e;show I1.vM (aD _) (I1.aC.fresh (aD _))
def afR (ta:TA):TI:=λσ H R=>ta σ H λvs H1=>∃ j:Int,vs=[.int j] /\ -(2 ^ 62)<=j /\ j<2 ^ 62 /\ R (vN 0 j.toNat) H1
theorem GV {a:au}{ta:TA}{p:aL}(hg:Gl X "range") (hm:X.mg "range"=ag) (ha:PA X [a] ta) (hs:starEach [a] X.env=[(af,eval a X.env)]:=by rfl):PI X tg (.Call (.Name "range" p) [a] [] pos) (afR ta):=by
 intro pins s σ H R I h;refine Call_ (jv I hg hm boot_range (HE (tA (ha pos pins s σ H _ I h) λus s1 vs H1 I1 r1 q1=>?_) hs zc));let#[j,e,q1,q2,q]:=q1;subst e;cases r1 with
 |cons r rr=>
   cases rr;let#[t,rfl]:=r;show call_range_1 (Lc I1 zd zd q1 q2 (by simpa using q))
def HZ (wi:TI) (g:TG) (tb:TS):TS:=λD σ H=>wi σ H λJ H1=>∃ W:Nat->Nat->St->Hp->zu,(∃ m,W 0 m σ H1) /\ ∀ i m σ H,W i m σ H ->
 (J.stop i H /\ D.nx σ H) \/ (J.go i H /\ ∃ N:St->Hp->zu,(∀ σ' H',N σ' H'->∃ m',m'<m /\ W (i+1) m' σ' H') /\ ∀ x H',J.yW i H x H'->g x σ H' λσ2 H2=>tb { D with nx:=N,ct:=N,bk:=D.nx } σ2 H2)
noncomputable def xD (fp:List aj) (h:aI):List (aj×aY):=fp.filterMap λb=>(h.get? b).map λo=>(b,o)
theorem ir {b:aj}(hb:b∈fp) (e:h.get? b=ae o):(b,o)∈xD fp h:=List.mem_filterMap.mpr #[b,hb,by rw[e];rfl]
theorem GW {p:aj×aY}(hp:p∈xD fp h):p.1∈fp /\ h.get? p.1=ae p.2:=by
 let#[b,hb,e]:=List.mem_filterMap.mp hp;cases q:h.get? b with
 |none=>rw[q]at e;cases e
 |some o=>
   rw[q]at e;have e':(b,o)=p:=Option.some.inj e;subst e';show#[hb,q]
theorem Inv.pinned {s:aq}(I:Inv X pins σ H s) (hf:∀ b∈fp,nW X pins H b) (ho:∀ b∈fp,∃ o,s.heap.get? b=ae o /\ ∀ v,o.data≠.cell v):Inv X (pins++xD fp s.heap) σ H s:=
 I.aco λp hp=>(nT.mp hp).elim (λz=>I.pin p (kg _ z)) λz=>by
  let#[hb,e]:=GW z;let#[f0,f1,f2,_]:=hf p.1 hb;let#[o,e',d]:=ho p.1 hb;rw[e]at e';cases e';show#[e,f0,f1,f2,d]
theorem Inv.yX {pl:List (aj×aY)}{s:aq}(I:Inv X (pins++pl) σ H s):Inv X pins σ H s:=I.aco λp hp=>I.pin p (kg _ (qM _ hp))
theorem D5 {body:List cj}{wi:TI}{g:TG}{tb:TS}(hp:PassesOwn zg X.A X.env X.xe) (hc:X.calm=ah) (hi:PI X tg iter wi) (hg:PG X tg g) (hb:kE X body tb)
 (hs:∀ x,foldedSetIterable iter X.env x=pure x:=by intro _;rfl):PS X (.For tg iter body [] pos) (HZ wi g tb):=by
 intro pins s σ H D I h;refine wpAny_For (cq (hi pins s σ H _ I h) λv s1 h1=>cq h1 λHX s2 h2=>?_) hs;let#[it,fp,tn,J,H2,e,I2,T,vO,f2,W,#[m0,w0],turn]:=h2;subst e;have XJ:∀ {H':Hp},(∀ b∈fp,H' b=ag)->∀ b∈fp,nW X pins H' b:=λhn b hb=>#[hn b hb,(f2 b hb).2];refine codeAny_forLoop_any (λn s'=>∃ i σ' H',Inv X pins σ' H' s' /\ tn i s'.heap /\ (∀ b∈fp,H' b=ag) /\ W i n σ' H') ?_ m0 #[0,σ,H2,I2,vO,λb hb=>(f2 b hb).1,w0];rintro n s3 ⟨i,σ3,H3,I3,uR,acG,w3⟩;rcases turn i n σ3 H3 w3 with⟨stop,qn⟩|⟨go,N,hN,step⟩
 .refine yy hp (cq (T.done X zc zc zc hc i pins s3 σ3 H3 X.xe I3 (XJ acG) uR stop) ?_);rintro r s4 ⟨hr,I4⟩;subst hr;show QD #[σ3,H3,I4,qn]
 .refine yy hp (cq (T.item X zc zc zc hc i pins s3 σ3 H3 X.xe I3 (XJ acG) uR go) ?_);rintro r s4 ⟨u,hr,h4⟩;subst hr;refine yy hp (cq h4 ?_);rintro _ s5 ⟨x,H5,I5,r5,y5,tW,vP⟩;have afS:=I5.pinned (XJ vP) (T.obj _ _ tW);refine yy hp (cq (hg _ s5 σ3 H5 x u _ afS r5 (step x H5 y5)) ?_);rintro _ s6 ⟨σ6,H6,I6,q6⟩;refine yy hp (cq (hb _ s6 σ6 H6 _ I6 q6) λf s7 q7=>?_);have again:∀ {σ7:St}{H7:Hp},Inv X (pins++xD fp s5.heap) σ7 H7 s7->N σ7 H7->∃ m,m<n /\ ∃ i σ' H',Inv X pins σ' H' s7 /\ tn i s7.heap /\ (∀ b∈fp,H' b=ag) /\ W i m σ' H':=λ{σ7 H7} I7 n7=>by
   let#[m',hm,w7]:=hN σ7 H7 n7;refine#[m',hm,i+1,σ7,H7,I7.yX,T.keep _ _ _ tW λb hb o e=>(I7.pin (b,o) (kg _ (kg _ (ir hb e)))).1,λb hb=>?_,w7];let#[o,e,d]:=T.obj _ _ tW b hb;show(I7.pin (b,o) (kg _ (kg _ (ir hb e)))).2.1
  cases f with
  |brk=>let#[σ7,H7,I7,q7]:=q7;show#[σ7,H7,I7.yX,q7]
  |ret v=>let#[x7,σ7,H7,I7,r7,q7]:=q7;show#[x7,σ7,H7,I7.yX,r7,q7]
  |_=>let#[σ7,H7,I7,n7]:=q7;show again I7 n7
abbrev R2:=V->V->Hp->VK->zu
def bp (X:Cx) (f:ai->ai->Sem ai) (r:R2):zu:=
 ∀ (pins:List (aj×aY)) (s:aq) (σ:St) (H:Hp) (x y:V) (v u:ai) (Q:VK),Inv X pins σ H s->RelV x v->RelV y u->r x y H Q ->
  wpAny zg X.A (f v u) zaz X.xe s
def XM (X:Cx) (f:ai->Sem ai) (r:V->Hp->VK->zu):zu:=
 ∀ (pins:List (aj×aY)) (s:aq) (σ:St) (H:Hp) (x:V) (v:ai) (Q:VK),Inv X pins σ H s->RelV x v->r x H Q ->
  wpAny zg X.A (f v) zaz X.xe s
def eF (X:Cx) (f:ai) (r:List V->Hp->VK->zu):zu:=
 ∀ (pins:List (aj×aY)) (s:aq) (σ:St) (H:Hp) (xs:List V) (us:List ai) (Q:VK),Inv X pins σ H s->Vals xs us->r xs H Q ->
  wpAny zg X.A (call f us) zaz X.xe s
def yY (r:R2) (ta tb:TE):TE:=λσ H Q=>ta σ H λx H1=>tb σ H1 λy H2=>r x y H2 Q
def afT (r:V->Hp->VK->zu) (ta:TE):TE:=λσ H Q=>ta σ H λx H1=>r x H1 Q
def rI (C:Int->Int->zu) (g:Int->Int->V):R2:=λx y H Q=>∃ i j,x=.int i /\ y=.int j /\ C i j /\ Q (g i j) H
def kP (g:Int->Int->V):R2:=λx y H Q=>∃ i j,x=.int i /\ y=.int j /\ Q (g i j) H
def rU (g:Int->V):V->Hp->VK->zu:=λx H Q=>∃ i,x=.int i /\ Q (g i) H
section
variable {a b c:au} {ta tb tc:TE} 
theorem XO (ha:PE X a ta) (hb:PE X b tb) {s:aq}{R:V->V->Hp->zu}(I:Inv X pins σ H s)
 (h:ta σ H λx H1=>tb σ H1 λy H2=>R x y H2) 
 (hf:∀ v u s2 x y H2,Inv X pins σ H2 s2->RelV x v->RelV y u->R x y H2->wpAny zg X.A (f v u) Q X.xe s2) :
 wpAny zg X.A (eval a X.env) (λv s₁=>wpAny zg X.A (eval b X.env) (λu s₂=>wpAny zg X.A (f v u) Q X.xe s₂) X.xe s₁) X.xe s:=by
 refine tE zaw λv s1 x H1 I1 r1 q1=>?_;refine tE (hb pins s1 σ H1 _ I1 q1) λu s2 y H2 I2 r2 q2=>?_;show hf v u s2 x y H2 I2 r1 r2 q2
theorem Vr {op:Operator}{r:R2}(ho:bp X (binaryOp op) r) (ha:PE X a ta) (hb:PE X b tb):PE X (.BinOp a op b pos) (yY r ta tb):=by
 intro pins s σ H Q I h;show wpAny_BinOp (XO ha hb I h λv u s2 x y H2 I2 rx ry q=>ho pins s2 σ H2 x y v u Q I2 rx ry q)
theorem R7 {op:UnaryOp}{r:V->Hp->VK->zu}(ho:XM X (unaryOp op) r) (ha:PE X a ta):PE X (.UnaryOp op a pos) (afT r ta):=by
 intro pins s σ H Q I h;show UnaryOp_ (tE zaw λv s1 x H1 I1 r1 q1=>ho pins s1 σ H1 x v Q I1 r1 q1)
theorem Ia {C:Int->Int->zu}{g:Int->Int->Int}
 (rule:∀ (i j:Int) (t u:Tok) (s:aq) (Q:ai->aq->zu) (E:ai->aq->zu),C i j->Q (.int (g i j) s.toks) { s with toks:=s.toks+1 }->wpAny zg X.A (f (.int i t) (.int j u)) Q E s) :
 bp X f (rI C λi j=>.int (g i j)):=by
 intro pins s σ H x y v u Q I rx ry h;let#[i,j,rfl,rfl,hc,q]:=h;let#[t,rfl]:=rx;let#[t',rfl]:=ry;show rule i j t t' s _ _ hc #[.int (g i j),H,I.tok _,#[_,rfl],q]
theorem acH {g:Int->Int->Int}
 (rule:∀ (i j:Int) (t u:Tok) (s:aq) (Q:ai->aq->zu) (E:ai->aq->zu),Q (.int (g i j) s.toks) { s with toks:=s.toks+1 }->wpAny zg X.A (f (.int i t) (.int j u)) Q E s) :
 bp X f (kP λi j=>.int (g i j)):=by
 intro pins s σ H x y v u Q I rx ry h;let#[i,j,rfl,rfl,q]:=h;let#[t,rfl]:=rx;let#[t',rfl]:=ry;show rule i j t t' s _ _ #[.int (g i j),H,I.tok _,#[_,rfl],q]
theorem Ib {g:Int->Int->Bool}
 (rule:∀ (i j:Int) (t u:Tok) (s:aq) (Q:ai->aq->zu) (E:ai->aq->zu),Q (.bool (g i j)) s->wpAny zg X.A (f (.int i t) (.int j u)) Q E s) :
 bp X f (kP λi j=>.bl (g i j)):=by
 intro pins s σ H x y v u Q I rx ry h;let#[i,j,rfl,rfl,q]:=h;let#[t,rfl]:=rx;let#[t',rfl]:=ry;show rule i j t t' s _ _ #[.bl (g i j),H,I,rfl,q]
def uS (i j:Int):zu:=0<j /\ j<1073741824
def xE (i j:Int):zu:=0<=j /\ j<=1000000 /\ i.natAbs<2 ^ 64
def uT (i j:Int):zu:=(-(2 ^ 64)<i /\ i<2 ^ 64) \/ (-(2 ^ 64)<j /\ j<2 ^ 64)
theorem uT.ok {i j:Int}(h:uT i j):IntMulOk i j:=by
 rcases h with⟨h1,h2⟩|⟨h1,h2⟩
 .show .of_left (aaw h1 h2)
 .show .of_right (aaw h1 h2)
theorem SY:bp X (binaryOp .Add) (kP λi j=>.int (i+j)):=acH λ_ _ _ _ _ _ _ q=>add_int q
theorem SZ:bp X (binaryOp .Sub) (kP λi j=>.int (i-j)):=acH λ_ _ _ _ _ _ _ q=>sub_int q
theorem S0:bp X (binaryOp .Mult) (rI uT λi j=>.int (i*j)):=Ia λ_ _ _ _ _ _ _ hc q=>mul_int q hc.ok
theorem N1:bp X (binaryOp .FloorDiv) (rI uS λi j=>.int (i / j)):=Ia λi j _ _ _ _ _ hc q=>by
 have h1:(0:Int)<j:=hc.1;have h2:j<1073741824:=hc.2;show floordiv_int zd (by rw[Int.fdiv_eq_ediv_of_nonneg i zd];show q) (.inl (PyProof.noPylong_small zd))
theorem S5:bp X (binaryOp .Mod) (rI (λ_ j=>0<j) λi j=>.int (i % j)):=Ia λi j _ _ _ _ _ hc q=>by
 have h1:(0:Int)<j:=hc;show mod_int' zd (by rw[Int.fmod_eq_emod_of_nonneg i zd];show q)
theorem S6:bp X (binaryOp .Pow) (rI xE λi j=>.int (i ^ j.toNat)):=Ia λ_ _ _ _ _ _ _ hc q=>pow_int_small hc.1 hc.2.1 hc.2.2 q
theorem afU {f:ai->Sem ai}{g:Int->Int}
 (rule:∀ (i:Int) (t:Tok) (s:aq) (Q:ai->aq->zu) (E:ai->aq->zu),Q (.int (g i) s.toks) { s with toks:=s.toks+1 }->wpAny zg X.A (f (.int i t)) Q E s) :
 XM X f (rU λi=>.int (g i)):=by
 intro pins s σ H x v Q I rx h;let#[i,rfl,q]:=h;let#[t,rfl]:=rx;show rule i t s _ _ #[.int (g i),H,I.tok _,#[_,rfl],q]
theorem Ld:XM X (unaryOp .USub) (rU λi=>.int (-i)):=afU λ_ _ _ _ _ q=>neg_int q
end
noncomputable def acI:V->V->Bool
 |.non,.non=>ah|.non,.int _=>ah|.int _,.non=>ah|.non,.bl _=>ah|.bl _,.non=>ah|.non,.str _=>ah|.str _,.non=>ah
 |.int _,.int _=>ah|.bl _,.bl _=>ah|.str _,.str _=>ah|.pL _,.pL _=>ah
 |.int _,.str _=>ah|.str _,.int _=>ah|.bl _,.str _=>ah|.str _,.bl _=>ah
 |_,_=>af
def XQ:R2:=λx y H Q=>acI x y=ah /\ Q (.bl (decide (x=y))) H
def acJ:R2:=λx y H Q=>acI x y=ah /\ Q (.bl (!decide (x=y))) H
theorem FT {i j:Int}:decide (V.int i=V.int j)=(i==j):=by
 rw[k9];simp
theorem Le {i j:Bool}:decide (V.bl i=V.bl j)=(i==j):=by
 rw[k9];simp
theorem FU {i j:Str}:decide (V.str i=V.str j)=(i==j):=by
 rw[k9];simp
theorem FV {i j:Array UInt8}:decide (V.pL i=V.pL j)=(i.toList==j.toList):=by
 rw[k9];cases i;cases j;simp
section
variable {a b c:au} {ta tb tc:TE} 
theorem fU {s:aq}{Q:VK}{k k':Bool}(I:Inv X pins σ H s) (q:Q (.bl k) H) (e:k=k'):EP X pins σ Q (.bool k') s:=by
 subst e;show#[.bl k,H,I,rfl,q]
theorem Vs:bp X (compareOp .Eq) XQ:=by
 intro pins s σ H x y v u Q I rx ry h;let#[hs,q]:=h;cases x with
 |non=>
   cases rx;cases y with
   |non=>cases ry;show aeR za0
   |bl j=>cases ry;show aeS za0
   |int j=>let#[t',rfl]:=ry;show aeT za0
   |str j=>let#[t',rfl]:=ry;show aeU za0
   |_=>show absurd (show af=ah from hs) c9
 |bl i=>
   cases rx;cases y with
   |non=>cases ry;show aeV za0
   |bl j=>cases ry;show eq_bool (fU I q Le)
   |str j=>let#[t',rfl]:=ry;show ae5 za0
   |_=>show absurd (show af=ah from hs) c9
 |int i=>
   let#[t,rfl]:=rx;cases y with
   |non=>cases ry;show aeW za0
   |int j=>let#[t',rfl]:=ry;show eq_int (fU I q FT)
   |str j=>let#[t',rfl]:=ry;show ae6 za0
   |_=>show absurd (show af=ah from hs) c9
 |str i=>
   let#[t,rfl]:=rx;cases y with
   |non=>cases ry;show aeX za0
   |bl j=>cases ry;show ae7 za0
   |int j=>let#[t',rfl]:=ry;show ae8 za0
   |str j=>let#[t',rfl]:=ry;show eq_str (fU I q FU)
   |_=>show absurd (show af=ah from hs) c9
 |pL i=>
   let#[t,rfl]:=rx;cases y with
   |pL j=>let#[t',rfl]:=ry;show PySem.W.eq_bytes (fU I q FV)
   |_=>show absurd (show af=ah from hs) c9
 |_=>cases y<;>show absurd (show af=ah from hs) c9
theorem Vt:bp X (compareOp .NotEq) acJ:=by
 intro pins s σ H x y v u Q I rx ry h;let#[hs,q]:=h;cases x with
 |non=>
   cases rx;cases y with
   |non=>cases ry;show aeY za0
   |bl j=>cases ry;show aeZ za0
   |int j=>let#[t',rfl]:=ry;show ae0 za0
   |str j=>let#[t',rfl]:=ry;show ae1 za0
   |_=>show absurd (show af=ah from hs) c9
 |bl i=>
   cases rx;cases y with
   |non=>cases ry;show ae2 za0
   |bl j=>cases ry;show ne_bool (fU I q (congrArg not Le))
   |str j=>let#[t',rfl]:=ry;show ae9 za0
   |_=>show absurd (show af=ah from hs) c9
 |int i=>
   let#[t,rfl]:=rx;cases y with
   |non=>cases ry;show ae3 za0
   |int j=>let#[t',rfl]:=ry;show ne_int (fU I q (congrArg not FT))
   |str j=>let#[t',rfl]:=ry;show afa za0
   |_=>show absurd (show af=ah from hs) c9
 |str i=>
   let#[t,rfl]:=rx;cases y with
   |non=>cases ry;show ae4 za0
   |bl j=>cases ry;show afb za0
   |int j=>let#[t',rfl]:=ry;show afc za0
   |str j=>let#[t',rfl]:=ry;show ne_str (fU I q (congrArg not FU))
   |_=>show absurd (show af=ah from hs) c9
 |pL i=>
   let#[t,rfl]:=rx;cases y with
   |pL j=>let#[t',rfl]:=ry;show PySem.W.ne_bytes (fU I q (congrArg not FV))
   |_=>show absurd (show af=ah from hs) c9
 |_=>cases y<;>show absurd (show af=ah from hs) c9
theorem Vu:bp X (compareOp .Lt) (kP λi j=>.bl (decide (i<j))):=Ib λ_ _ _ _ _ _ _ q=>lt_int q
theorem Vv:bp X (compareOp .LtE) (kP λi j=>.bl (decide (i<=j))):=Ib λ_ _ _ _ _ _ _ q=>le_int q
theorem Vw:bp X (compareOp .Gt) (kP λi j=>.bl (decide (j<i))):=Ib λ_ _ _ _ _ _ _ q=>gt_int q
theorem Vx:bp X (compareOp .GtE) (kP λi j=>.bl (decide (j<=i))):=Ib λ_ _ _ _ _ _ _ q=>ge_int q
theorem bp.or {r r':R2}(h:bp X f r) (h':bp X f r'):bp X f (λx y H Q=>r x y H Q \/ r' x y H Q):=by
 intro pins s σ H x y v u Q I rx ry q;rcases q with q|q
 .show h pins s σ H x y v u Q I rx ry q
 .show h' pins s σ H x y v u Q I rx ry q
theorem N2 {r:R2}(ho:bp X (compareOp op) r) (ha:PE X a ta) (hb:PE X b tb) (hm:behindInMarks op b=af):PE X (.Compare a [op] [b] pos) (yY r ta tb):=by
 intro pins s σ H Q I h;show aap (XO ha hb I h λv u s2 x y H2 I2 rx ry q=>ho pins s2 σ H2 x y v u Q I2 rx ry q) hm
noncomputable def acK (t:TE):TT:=λσ H Q=>t σ H λx H'=>∃ k,x=.bl k /\ Q k H'
theorem N3 {r:R2}(ho:bp X (compareOp op) r) (ha:PE X a ta) (hb:PE X b tb) (hm:behindInMarks op b=af):PT X (.Compare a [op] [b] pos) (acK (yY r ta tb)):=by
 intro pins s σ H Q I h;refine aaq (tE zaw λv s1 x H1 I1 r1 q1=>tE (hb pins s1 σ H1 _ I1 q1) λu s2 y H2 I2 r2 q2=>tE (ho pins s2 σ H2 x y v u _ I2 r1 r2 q2) λc s3 z H3 I3 r3 hh=>?_) hm;let#[k,e,q3]:=hh;subst e;cases r3;show p7 #[H3,I3,q3]
def XR (r r':R2) (ta tb tc:TE):TE:=λσ H Q=>ta σ H λx H1=>tb σ H1 λy H2=>r x y H2 λz H3=>∃ k,z=.bl k /\
 (if k=ah then tc σ H3 λw' H4=>r' y w' H4 Q else Q (.bl af) H3)
theorem Lf {cU:CmpOp}{r r':R2}(ho:bp X (compareOp op) r) (nI:bp X (compareOp cU) r') (ha:PE X a ta) (hb:PE X b tb) (hc:PE X c tc)
 (hm:lastMarks [op,cU] [b,c]=af:=by with_unfolding_all rfl):PE X (.Compare a [op,cU] [b,c] pos) (XR r r' ta tb tc):=by
 intro pins s σ H Q I h;refine Compare_chain (tE zaw λv s1 x H1 I1 r1 q1=>chain_link (tE (hb pins s1 σ H1 _ I1 q1) λu s2 y H2 I2 r2 q2=>tE (ho pins s2 σ H2 x y v u _ I2 r1 r2 q2) λd s3 z H3 I3 r3 hh=>?_)) hm;let#[k,e,q3]:=hh;subst e;cases r3;refine p7 ?_;cases k with
 |false=>show ite_ff #[.bl af,H3,I3,rfl,q3]
 |true=>show ite_tt (chain_last (tE (hc pins s3 σ H3 _ I3 q3) λw' s4 z' H4 I4 r4 q4=>nI pins s4 σ H4 y z' u w' Q I4 r2 r4 q4))
theorem Lg {cU:CmpOp}{r r':R2}(ho:bp X (compareOp op) r) (nI:bp X (compareOp cU) r') (ha:PE X a ta) (hb:PE X b tb) (hc:PE X c tc)
 (hm:lastMarks [op,cU] [b,c]=af:=by with_unfolding_all rfl):PT X (.Compare a [op,cU] [b,c] pos) (acK (XR r r' ta tb tc)):=by
 intro pins s σ H Q I h;refine isTrue_chain (tE zaw λv s1 x H1 I1 r1 q1=>test_link (tE (hb pins s1 σ H1 _ I1 q1) λu s2 y H2 I2 r2 q2=>tE (ho pins s2 σ H2 x y v u _ I2 r1 r2 q2) λd s3 z H3 I3 r3 hh=>?_)) hm;let#[k,e,q3]:=hh;subst e;cases r3;refine p7 ?_;cases k with
 |false=>
   let#[k',e',q']:=q3;cases e';show ite_ff #[H3,I3,q']
 |true=>
   refine ite_tt (test_last (tE (hc pins s3 σ H3 _ I3 q3) λw' s4 z' H4 I4 r4 q4=>tE (nI pins s4 σ H4 y z' u w' _ I4 r2 r4 q4) λd' s5 z2 H5 I5 r5 hh=>?_));let#[k2,e2,q5]:=hh;subst e2;cases r5;show p7 #[H5,I5,q5]
theorem yZ:(sizeLine:Nat)<2 ^ 63:=by rw[br];decide
theorem D6:bp X (binaryOp .Add) (λx y H Q=>∃ i j,x=.str i /\ y=.str j /\ i.length+j.length<=sizeLine /\ Q (.str (i++j)) H):=by
 intro pins s σ H x y v u Q I rx ry h;let#[i,j,rfl,rfl,hz,q]:=h;let#[t,rfl]:=rx;let#[t',rfl]:=ry;show add_str (λt' tk=>#[.str (i++j),H,I.tok _,#[_,rfl],q]) hz
theorem vals1 {x:V}(r:Vals [x] us):∃ u,us=[u] /\ RelV x u:=by
 cases r with
 |cons r1 r2=>cases r2;show#[_,rfl,r1]
theorem vals2 {x y:V}(r:Vals [x,y] us):∃ u w',us=[u,w'] /\ RelV x u /\ RelV y w':=by
 cases r with
 |cons r1 r2=>
   cases r2 with
   |cons r3 r4=>cases r4;show#[_,_,rfl,r1,r3]
theorem GX (hc:X.calm=ah):eF X (.builtin "max") (λxs H Q=>∃ i j,xs=[.int i,.int j] /\ Q (.int (if j>i then j else i)) H):=by
 intro pins s σ H xs us Q I r h;let#[i,j,rfl,q]:=h;let#[u,w',rfl,#[t,rfl],#[t',rfl]]:=vals2 r;refine max_two_ints (I.ok.hd hc) λh' tk k=>#[_,H,I.kept k,?_,q];by_cases hj:j>i
 .rw[if_pos hj,if_pos hj];show#[_,rfl]
 .rw[if_neg hj,if_neg hj];show#[_,rfl]
theorem GY (hc:X.calm=ah):eF X (.builtin "min") (λxs H Q=>∃ i j,xs=[.int i,.int j] /\ Q (.int (if j<i then j else i)) H):=by
 intro pins s σ H xs us Q I r h;let#[i,j,rfl,q]:=h;let#[u,w',rfl,#[t,rfl],#[t',rfl]]:=vals2 r;refine min_two_ints (I.ok.hd hc) λh' tk k=>#[_,H,I.kept k,?_,q];by_cases hj:j<i
 .rw[if_pos hj,if_pos hj];show#[_,rfl]
 .rw[if_neg hj,if_neg hj];show#[_,rfl]
theorem GZ:eF X (.type "int") (λxs H Q=>(∃ i,xs=[.int i] /\ Q (.int i) H) \/ ∃ k,xs=[.bl k] /\ Q (.int (if k then 1 else 0)) H):=by
 intro pins s σ H xs us Q I r h;rcases h with⟨i,rfl,q⟩|⟨k,rfl,q⟩
 .let#[u,rfl,t,rfl]:=vals1 r;show call_int_int #[.int i,H,I,#[_,rfl],q]
 .let#[u,rfl,r1]:=vals1 r;cases r1;show call_int_bool #[.int (if k then 1 else 0),H,I.tok _,#[_,rfl],q]
end
structure XS (h:aI) (x dx C:aj) (mA:Str->Option ai):zu where
 obj:h.get? x=ae (PySem.W.instObj C dx)
 ns:h.Ns1 dx mA
 ne:dx≠x
theorem G0 {dx:aj}(n:h.Ns1 dx mA):∃ od,h.get? dx=ae od /\ ∀ name,PySem.W.lookIn name od=ae (mA name):=by
 let#[o,es,ep,ho,hd,hk,_,hm]:=n;refine#[o,ho,λname=>?_];have e:=hm name;unfold nsFind findBy at e;rw[<-Array.find?_toList]at e;unfold PySem.W.lookIn;rw[hd];dsimp only;split
 .ext y q;rw[q]at e;show congrArg ae e
 .ext q;rw[q]at e;have a:es.toList.any (·.refKey)=af:=by
   rw[Hi];intro y hy;let#[z,t,XT]:=hk y (Array.mem_toList_iff.mp hy);simp[DictEntry.refKey,XT]
  have a':¬ es.toList.any (·.refKey)=ah:=by rw[a];show c9
  rw[if_neg a'];show congrArg ae e
theorem XS.look {x dx C:aj}(I:XS h x dx C mA):∃ od,PySem.W.InstAt h x (PySem.W.instObj C dx) C (ae od) /\ ∀ name,PySem.W.lookIn name od=ae (mA name):=
 let ⟨od,ho,hl⟩:=G0 I.ns
 #[od,#[I.obj,rfl,rfl,ho],hl]
section
variable {s:aq} {x dx C f:aj} {name:Str} {v:ai}
end
theorem nU.some_of {o:Option ai}(r:nU (ae v) o):∃ u,o=ae u /\ RelV v u:=by
 cases o with
 |none=>show(show False from r).elim
 |some u=>show#[u,rfl,r]
section
variable {C dx:aj} {fs afp:List (Str × V)}
theorem N4 (aC:cJ P w H h) (e:H a=ae (.ins C dx fs)):∃ mA,XS h a dx C mA /\ (∀ f,nU (fs.lookup f) (mA f)) /\ PySem.Within mA (fs.map (·.1)) /\ fs.length<=1000 /\ H dx=ae (.own a):=by
 let#[d,z,ne,ob,mA,n,r,q]:=(show bG P w H h a (.ins C dx fs) from aC a _ e);show#[mA,#[ob,n,ne],r,q,z,d]
end
structure XU (K:PySem.W.Frag) (C:aj):zu where
 pg:PySem.W.plainGet K C Str.empty=ah
 hd:PySem.W.hasDictIn K C=ah
 po:PySem.W.plainOver K C=ah
 sa:PySem.W.findIn K (.ref C) "__setattr__"=ae (ae (.builtin "object.__setattr__"))
theorem XU.get {C:aj}(c:XU K C) (f:Str):PySem.W.plainGet K C f=ah:=c.pg
section
variable {s:aq} {C dx:aj} {fs:List (Str × V)} {f:Str} 
end
section
variable {o value:au} {f:Str} {Ic:aL} {ta tv:TE}
end
section
variable {s:aq} {c:ai} {b:Bool}
inductive nY (K:PySem.W.Frag) (H:Hp):V->ai->zu where
 |non:nY K H .non (.type "NoneType")
 |bl (x:Bool):nY K H (.bl x) (.type "bool")
 |int (i:Int):nY K H (.int i) (.type "int")
 |str (x:Str):nY K H (.str x) (.type "str")
 |uO (x:UInt64):nY K H (.uO x) (.type "float")
 |lst {a:aj}{xs:List V}(e:H a=ae (.lst xs)):nY K H (.ref a) (.type "list")
 |bI {a:aj}{o:aY}{xs:List V}(e:H a=ae (.bI o (.lst xs))):nY K H (.ref a) (.type "list")
 |tup {a:aj}{xs:List V}(e:H a=ae (.tup xs)):nY K H (.ref a) (.type "tuple")
 |dK {a:aj}{ao:List (Key×V)}(e:H a=ae zag):nY K H (.ref a) (.type "dict")
 |dT {a:aj}{ao:List (List Key×V)}(e:H a=ae (.dT ao)):nY K H (.ref a) (.type "dict")
 |ins {a C dx:aj}{fs:List (Str×V)}(e:H a=ae (.ins C dx fs)) (cl:XU K C) (ha:PySem.W.findIn K (.ref C) "__class__"=ae (ae (.builtin "object.__class__")))
  (hn:PySem.W.specialIn K (.builtin "object.__class__") "__get__"=ae (ae (.builtin "getset_descriptor.__get__"))) (acL:PySem.W.takesIn K (.builtin "object.__class__")=ae ah)
  (hm:PySem.W.mroIn K C (.type "object")=ae ah):nY K H (.ref a) (.ref C)
theorem G1 {x:V}{t:ai}(I:Inv X pins σ H s) (rx:RelV x u) (ty:nY X.K H x t) (e:PySem.W.kitOne X.K t c=ae b) (h:∀ tk,Q (.bool b) { s with toks:=tk }) :
 wpAny zg A (call (.builtin "isinstance") [u,c]) Q E s:=by
 cases ty with
 |non=>cases (show u=Value.none from rx);show qQ PySem.W.kitx_none I.kO True.intro e (λz=>nomatch z) h
 |bl y=>cases (show u=Value.bool y from rx);show qQ PySem.W.kitx_bool I.kO True.intro e (λz=>nomatch z) h
 |int i=>let#[t,q]:=(show ∃ t,u=Value.int i t from rx);cases q;show qQ PySem.W.kitx_int I.kO True.intro e (λz=>nomatch z) h
 |str y=>let#[t,q]:=(show ∃ t,u=Value.str y t from rx);cases q;show qQ PySem.W.kitx_str I.kO True.intro e (λz=>nomatch z) h
 |uO y=>let#[t,q]:=(show ∃ t,u=Value.float y t from rx);cases q;show qQ PySem.W.kitx_float I.kO True.intro e (λz=>nomatch z) h
 |@lst a xs ea=>
   cases (show u=Value.ref a from rx);let#[_,_,n,_,h1]:=(show bG X.prog X.w H s.heap a (.lst xs) from I.aC a _ ea);show qQ abS I.kO #[_,h1,rfl] e (λz=>nomatch z) h
 |@bI a ob xs ea=>
   cases (show u=Value.ref a from rx);let#[_,_,_,n,_,h1]:=(show bG X.prog X.w H s.heap a (.bI ob (.lst xs)) from I.aC a _ ea);show qQ abS I.kO #[_,h1,rfl] e (λz=>nomatch z) h
 |@tup a xs ea=>
   cases (show u=Value.ref a from rx);let#[_,_,_,p]:=(show bG X.prog X.w H s.heap a (.tup xs) from I.aC a _ ea);let#[o,h1,h2,_]:=p;show qQ PySem.W.kitx_tuple I.kO #[o,h1,h2] e (λz=>nomatch z) h
 |@dK a ao ea=>
   cases (show u=Value.ref a from rx);let#[_,_,vs,_,p]:=(show bG X.prog X.w H s.heap a zag from I.aC a _ ea);let#[o,es,ep,h1,h2,_]:=p;show qQ abT I.kO #[o,h1,h2.1] e (λz=>nomatch z) h
 |@dT a ao ea=>
   cases (show u=Value.ref a from rx);let#[_,_,xs,_,o,es,ep,h1,h2,_]:=(show bG X.prog X.w H s.heap a (.dT ao) from I.aC a _ ea);show qQ abT I.kO #[o,h1,h2.1] e (λz=>nomatch z) h
 |@ins a C dx fs ea cl ha hn acL hm=>
   cases (show u=Value.ref a from rx);let#[mA,O,_]:=N4 I.aC ea;let#[od,J,_]:=O.look;show qQ (PySem.W.kitx_own (cl.get _) cl.hd ha hn acL hm) I.kO J e (λz=>nomatch z) h
end
structure di (k:Nat) (A:eE):zu where
 hd:A.handled=ag
 dp:A.depth+3*k+5<recursionLimit
 un:A.units+16*k+200<cLine
 gd:A.guards=ae []
theorem di.mono {k:Nat}(r:di k A) (h:j<=k):di j A:=#[r.hd,by have:=r.dp;lia,by have:=r.un;lia,r.gd]
theorem di.deeper {k:Nat}{A:eE}(r:di (k+1) A) (env:Env):di k (A.deeper env):=
 #[r.hd,by have:=r.dp;change A.depth+1+3*k+5<_;lia,by have:=r.un;change A.units+3+16*k+200<_;lia,by first|show r.gd|(rw[<-r.gd];first|rfl|simp[Around.under,Code.isGuard,guardIds])]
theorem di.depth {k:Nat}{A:eE}(r:di k A):A.depth<recursionLimit:=by have:=r.dp;lia
theorem di.units {k:Nat}{A:eE}(r:di k A):A.units+64<cLine:=by have:=r.un;lia
def Ie:TA:=λ_ H Q=>Q [] H
def Ig (ta:TE) (tr:TA):TA:=λσ H Q=>ta σ H λx H1=>tr σ H1 λxs H2=>Q (x::xs) H2
section
variable {te:TE} {t:TA} 
theorem lh:PA X [] Ie:=λ_ _ _ _ H Q I h=>xq #[[],H,I,.nil,h]
theorem jg (ha:PE X e te) (hr:PA X es t) (hs:starEach (e::es) X.env=zaS::starEach es X.env:=by rfl):PA X (e::es) (Ig te t):=by
 intro pos pins s σ H Q I h;rw[hs];change wpAny _ _ (spliced (zaS::backTo pos (starEach es X.env))) _ _ s;refine xr (tE zaw λu s1 x H1 I1 r1 q1=>?_);show tA (hr pos pins s1 σ H1 _ I1 q1) λus s2 xs H2 I2 r2 q2=>#[x::xs,H2,I2,.cons r1 r2,q2]
def afV (t:TA):TE:=λσ H Q=>t σ H λxs H1=>xs.length<=sizeLine /\ ∀ p,H1 p=ag->Q (.ref p) (upd H1 p (.tup xs))
def afW (t:TA):TE:=λσ H Q=>t σ H λxs H1=>xs.length<=sizeLine /\ ∀ p,H1 p=ag->Q (.ref p) (upd H1 p (.lst xs))
theorem Lh {x1}(h:PA X es t):PE X (.Tuple es x1 pos) (afV t):=by
 intro pins s σ H Q I hq;refine wpAny_Tuple_spliced (tA (h pos pins s σ H _ I hq) λus s1 xs H1 I1 r ⟨z,q⟩=>#[by rw[<-r.length];show z,?_]);have hf:H1 s1.heap.objs.size=ag:=I1.aC.fresh (aD _);refine#[.ref s1.heap.objs.size,upd H1 s1.heap.objs.size (.tup xs),I1.laid (t':=s1.toks) (λb u e=>aX _ e) (aD _) ?_,rfl,q _ hf];show#[z,us,r,#[_,bF _ zc,rfl,_,rfl]]
theorem Li (h:PA X es t):PE X (.List es pos) (afW t):=by
 intro pins s σ H Q I hq;refine wpAny_List_spliced (tA (h pos pins s σ H _ I hq) λus s1 xs H1 I1 r ⟨z,q⟩=>#[by rw[<-r.length];show z,?_]);have hf:H1 s1.heap.objs.size=ag:=I1.aC.fresh (aD _);refine#[.ref s1.heap.objs.size,upd H1 s1.heap.objs.size (.lst xs),I1.laid (t':=s1.toks) (λb u e=>aX _ e) (aD _) ?_,rfl,q _ hf];show#[z,us,0,r,bF _ zc]
end
abbrev Sp:=List V->Hp->VK->XK->zu
abbrev qo:=List Env->Hp->aq->XK->ai->aq->zu
structure Ih (P:dg) (w:cn) (K:PySem.W.Frag) (mg:Str->Option ai) (base:aI) (A:eE) (outer:List Env) (s:aq) (H:Hp):zu where
 frames:A.frames=ae outer
 mod:Mod K mg base
 bs:∀ b o,base.get? b=ae o->s.heap.get? b=ae o /\ H b=ag
 vK:base.objs.size<=s.heap.objs.size
 qU:s.heap.FunFrames base outer
 xy:∀ b∈pN outer,H b=ag
 aC:cJ P w H s.heap
 bare:AllBare s.gens
def CE (outer:List Env) (P:dg) (w:cn) (H:Hp) (s:aq) (Q:VK) (u:ai) (s':aq):zu:=
 ∃ v H',s'.os=s.os /\ AllBare s'.gens /\ Un (pN outer) [] H H' s.heap s'.heap /\ cJ P w H' s'.heap /\ RelV v u /\ Q v H'
def CR (CX:qo) (outer:List Env) (P:dg) (w:cn) (H:Hp) (s:aq) (Q:VK) (E:XK) (r:Result) (s':aq):zu:=
 match r with
 |.ok (.ret u)=>CE outer P w H s Q u s'
 |.ok _=>False
 |.error e=>CX outer H s E e s'
structure kQ (P:dg) (w:cn) (K:PySem.W.Frag) (mg:Str->Option ai) (base:aI) (CX:qo) (k:Nat) (f:aj) (fd:FuncData) (ps:List Str) (sp:Sp):zu where
 len:∀ vs H Q E,sp vs H Q E->vs.length=ps.length
 run:∀ (A:eE) (outer:List Env) (s:aq) (H:Hp) (args:Args) (us:List ai) (vs:List V) (Q:VK) (E:XK),di k A->Ih P w K mg base A outer s H->BindsTo s fd args (ps.zip us)->Vals vs us->sp vs H Q E ->
  codeAny (model P w) A (.call (.ref f) args) (CR CX outer P w H s Q E) s
theorem kQ.mono {P:dg}{w:cn}{K:PySem.W.Frag}{mg:Str->Option ai}{base:aI}{CX:qo}{j k:Nat}{f:aj}{fd:FuncData}{ps:List Str}{sp:Sp}(F:kQ P w K mg base CX j f fd ps sp) (h:j<=k) :
 kQ P w K mg base CX k f fd ps sp:=#[F.len,λA outer s H args us vs Q E hr=>F.run A outer s H args us vs Q E (hr.mono h)]
section
variable {s s':aq}
theorem Inv.afX (I:Inv X pins σ H s):Ih X.prog X.w X.K X.mg X.base X.A X.stack s H:=
 #[I.ok.frames,I.ok.mod,I.bs,cC I.ok.vK I.sz,I.stack,I.ack,I.aC,I.bare]
theorem Inv.after {Q:VK}(I:Inv X pins σ H s) (h:CE X.stack X.prog X.w H s Q u s'):EP X pins σ Q u s':=by
 let#[v,H',os,bare,un,aC,r,q]:=h;let#[hh,g,d,t,XW]:=s';obtain rfl:XW=s.os:=os;show#[v,H',I.call (h':=hh) (g':=g) (d':=d) (t':=t) (ch:=[]) un aC bare (λb z=>absurd z zi),r,q]
end
def acM (sp:Sp) (tX:List V) (E:XK) (t:TA):TE:=λσ H Q=>t σ H λvs H1=>sp (vs++tX) H1 Q E
def Binds (K:PySem.W.Frag) (fd:FuncData) (ps:List Str) (ds:List ai):zu:=
 ∀ (s:aq) (us:List ai),K.In s.heap->(us++ds).length=ps.length->BindsTo s fd #[us,[]] (ps.zip (us++ds))
theorem Binds.all {ps:List Str}(h:∀ us:List ai,us.length=ps.length->bindArgs fd #[us,[]]=pure (ps.zip us)):Binds K fd ps []:=λs us _ hl=>by
 rw[uJ]at hl ⊢;show .of_eq (h us hl)
def Passes (CX:qo) (X:Cx) (E:XK):zu:=∀ (pins:List (aj×aY)) (σ:St) (H:Hp) (s:aq) (e:ai) (s':aq),Inv X pins σ H s->CX X.stack H s E e s'->X.xe e s'
section
variable {CX:qo} {k:Nat} {f C:aj} {ps:List Str} {sp:Sp} {tX:List V} {ds:List ai} {E:XK} {m:Str} {p:aL} {o:au} {ta:TE} {t:TA}
theorem S7 {s:aq}{Q:VK}{vs:List V}(F:kQ X.prog X.w X.K X.mg X.base CX k f fd ps sp) (hr:di k X.A) (hb:Binds X.K fd ps ds) (hd:Vals tX ds) (hx:Passes CX X E)
 (I:Inv X pins σ H s) (r:Vals vs us) (h:sp (vs++tX) H Q E):wpAny zg X.A (call (.ref f) us) zaz X.xe s:=by
 have r2:Vals (vs++tX) (us++ds):=r.append hd;have hl:(us++ds).length=ps.length:=by rw[<-r2.length];show F.len _ _ _ _ h
 refine wpAny_call (wR (F.run X.A X.stack s H #[us,[]] (us++ds) (vs++tX) Q E hr I.afX (hb s us I.kO hl) r2 h) λr s' hq=>?_);cases r with
 |error e=>show hx pins σ H s e s' I hq
 |ok fl=>
   cases fl with
   |ret u=>show I.after hq
   |_=>show False.elim hq
theorem N5 (F:kQ X.prog X.w X.K X.mg X.base CX k f fd ps sp) (hr:di k X.A) (hg:Gl X x) (hm:X.mg x=ae (.ref f)) (hk:PySem.W.keepIn X.K (.ref f)=ah) (hb:Binds X.K fd ps ds) (hd:Vals tX ds) (hx:Passes CX X E)
 (ha:PA X (e::es) t) (dI:(x==("__debug__":Str))=af:=by decide) (he:starEach (e::es) X.env=zaS::starEach es X.env:=by rfl) (nq:(backTo pos (starEach es X.env)).any (·.1)=af:=by rfl) :
 PE X zY (acM sp tX E t):=by
 intro pins s σ H Q I h;refine uD (FQ I hg hm ?_ dI);refine PySem.W.callWith_K (h₀:=X.base) I.ok.mod.XA hk (tA (ha pos pins s σ H _ I h) λus s1 vs H1 I1 r q=>#[I1.kO,?_]) he nq;show S7 F hr hb hd hx I1 r q
end
section
variable {CX:qo} {k:Nat} {f C:aj} {ps ks:List Str} {sp:Sp} {E:XK} {m:Str} {p aj1:aL} {o:au} {aj2:List Keyword} {te ta:TE} {t tk:TA} {nm:Option Str}
variable {g:List ai -> List ai -> List ai} {gV:List V -> List V -> List V}
end
structure xF (N P:List Str) (sc:bW):zu where
 kind:sc.kind=.function
 co:sc.isCoroutine=af
 gen:sc.isGenerator=af
 nd:N.Nodup
 pre:N.take P.length=P
 par:∀ x∈P,sc.names.lookup x=ae .local \/ sc.names.lookup x=ae .cell
 afY:∀ y∈sc.names,y.2≠.free
theorem By {kindOf:Str->Option NameKind}{x:Str}:∀ {binds:List (Str×ai)}{m:Str->Option ai},(∀ v,(x,v)∉binds)->bindL kindOf binds m x=m x
 |[],_,_=>rfl
 | (n,v)::r,m,h=>by
   unfold bindL;rw[By λw hw=>h w (bB _ hw)];split
   .have:x≠n:=by rintro rfl;show h v bE
    simp[this]
   .rfl
theorem Bz {kindOf:Str->Option NameKind}{x:Str}:∀ {binds:List (Str×ai)}{m:Str->Option ai},(∀ v,(x,v)∉binds)->bindC kindOf binds m x=m x
 |[],_,_=>rfl
 | (n,v)::r,m,h=>by
   unfold bindC;rw[Bz λw hw=>h w (bB _ hw)];split
   .rfl
   .have:x≠n:=by rintro rfl;show h v bE
    simp[this]
theorem BA {kindOf:Str->Option NameKind}{x:Str}{v:ai}:∀ {P:List Str}{vs:List ai}{i:Nat}{m:Str->Option ai},P.Nodup->P[i]?=ae x->vs[i]?=ae v->kindOf x=ae .local ->
 bindL kindOf (P.zip vs) m x=ae v
 |[],_,_,_,_,h,_,_=>by simp at h
 |_::_,[],_,_,_,_,h,_=>by simp at h
 | p::P,w::vs,0,m,nd,h1,h2,hk=>by
   simp at h1 h2;subst h1;subst h2;change bindL kindOf ((p,w)::P.zip vs) m p=_;unfold bindL;rw[By λv hv=>(tO.mp nd).1 (Q0 hv).1,if_pos hk];simp
 | p::P,w::vs,i+1,m,nd,h1,h2,hk=>by
   change bindL kindOf ((p,w)::P.zip vs) m x=_;unfold bindL;show BA (i:=i) (tO.mp nd).2 (by simpa using h1) (by simpa using h2) hk
theorem BB {kindOf:Str->Option NameKind}{x:Str}{v:ai}:∀ {P:List Str}{vs:List ai}{i:Nat}{m:Str->Option ai},P.Nodup->P[i]?=ae x->vs[i]?=ae v->kindOf x≠ae .local ->
 bindC kindOf (P.zip vs) m x=ae v
 |[],_,_,_,_,h,_,_=>by simp at h
 |_::_,[],_,_,_,_,h,_=>by simp at h
 | p::P,w::vs,0,m,nd,h1,h2,hk=>by
   simp at h1 h2;subst h1;subst h2;change bindC kindOf ((p,w)::P.zip vs) m p=_;unfold bindC;rw[Bz λv hv=>(tO.mp nd).1 (Q0 hv).1,if_neg hk];simp
 | p::P,w::vs,i+1,m,nd,h1,h2,hk=>by
   change bindC kindOf ((p,w)::P.zip vs) m x=_;unfold bindC;show BB (i:=i) (tO.mp nd).2 (by simpa using h1) (by simpa using h2) hk
noncomputable def start (N:List Str) (vs:List V):St:=vs.map ae++List.replicate (N.length-vs.length) ag
noncomputable def uU (CX:qo) (P:dg) (w:cn) (K:PySem.W.Frag) (mg:Str->Option ai) (base:aI) (N:List Str) (qual:Str) (scope:bW) (f:aj) (cd:ai) (A:eE) (outer:List Env) (s:aq) (H:Hp) (E:XK):Cx where
 prog:=P
 w:=w
 K:=K
 mg:=mg
 base:=base
 A:=A.deeper (envOfC qual scope s.heap.objs.size f cd)
 N:=N
 s₀:=s
 H₀:=H
 env:=envOfC qual scope s.heap.objs.size f cd
 outer:=outer
 stack:=envOfC qual scope s.heap.objs.size f cd::outer
 ex:=[]
 calm:=ah
 fn:=λ_=>ah
 pn:=[]
 xe:=λe s'=>wpAny (model P w) (A.deeper (envOfC qual scope s.heap.objs.size f cd)) (leaving (envOfC qual scope s.heap.objs.size f cd) e) (λ_ XX=>CX outer H s E e XX) (λe' XX=>CX outer H s E e' XX) s'
theorem AA {sc:bW}(h:sc.names.lookup x=ae .cell):∃ c,(cellsFrom n sc.names []).lookup x=ae c:=by
 have q:=abU sc.names n [] (.inl h);show Option.isSome_iff_exists.mp q
theorem G2 {CX:qo}{ps:List Str}{qual:Str}{scope:bW}{f:aj}{cd:ai}{outer:List Env}{s s1:aq}{E:XK}{vs:List V}
 (S:xF N ps scope) (hd:A.handled=ag) (e0:Ih P w K mg base A outer s H) (hl:vs.length=ps.length) (r:Vals vs us)
 (x:InCallC s s.heap.objs.size (bindL (envOfC qual scope s.heap.objs.size f cd).kindOf (ps.zip us) λ_=>ag) (cellsFrom zx scope.names []) (bindC (envOfC qual scope s.heap.objs.size f cd).kindOf (ps.zip us) λ_=>ag) s1) :
 Inv (uU CX P w K mg base N qual scope f cd A outer s H E) [] (start N vs) H s1:=by
 have nq:ps.length<=N.length:=by have:=congrArg List.length S.pre;rw[xa]at this;lia
 let#[h1,tk,rfl,hk]:=x.done;have Ea:∀ b:aj,b∉(uU CX P w K mg base N qual scope f cd A outer s H E).ex:=λb z=>absurd (show b∈([]:List aj) from z) zi;refine#[#[e0.mod,S.kind,rfl,rfl,aD _,λy z c h1 h2=>?_,λy hy=>?_,λy c _ h=>?_,λ_=>hd,Around.frames_deeper e0.frames,.inr #[rfl,rfl],λb z=>absurd z (Ea b),e0.bs,e0.vK,λb _ _=>Ea b,λb z=>absurd z (Ea b),e0.qU,e0.xy],
  rfl,e0.bare,Un.kept hk,#[_,x.toInCall.ns,λi y v h1 h2 h3=>?_],λy c h=>#[_,x.cell y c h],e0.aC.fresh (aD _),λy c h=>?_,λp hp=>absurd (show p∈([]:List (aj×aY)) from hp) zi,e0.aC.kept hk,?_]
 .show aax x.apart (nQ h1) (nQ h2)
 .have hy:scope.names.lookup y=ae .cell \/ scope.names.lookup y=ae .free:=hy;rcases hy with hy|hy
  .show AA hy
  .show absurd zc (S.afY _ (nQ hy))
 .show nR (x.above y c (nQ h))
 .have hi:i<vs.length:=by
   unfold start at h2;by_cases hi:i<vs.length
   .show hi
   .rw[dU (by simpa using hi)]at h2;rw[aa5]at h2;split at h2<;>cases h2
  have ha:vs[i]?=ae v:=by
   unfold start at h2;rw[eD (by simpa using hi),kK]at h2;cases e:vs[i]? with
   |none=>rw[e]at h2;cases h2
   |some a=>rw[e]at h2;cases h2;rfl
  let#[u,hu,rv]:=r.get ha;have hp:ps[i]?=ae y:=by
   rw[<-S.pre,aa6 zd];show h1
  have acN:ps.Nodup:=by rw[<-S.pre];show S.nd.sublist (aa7 _ _)
  refine#[u,rv,?_];rcases S.par y (qN hp) with k|k
  .show .inl #[k,BA acN hp hu k]
  .let#[c,e]:=AA (n:=s.heap.objs.size+1) k;refine .inr #[.inl k,c,e,?_];have q:=x.cell y c e;rw[BB acN hp hu (by change scope.names.lookup y≠_;rw[k];decide)]at q;show q
 .show e0.aC.fresh (nR (x.above y c (nQ h)))
 .unfold start;change _=N.length;rw[cZ,a6,Q3];lia
theorem Vy {CX:qo}{k:Nat}{f:aj}{name qual:Str}{params:Arguments}{body:List cj}{scope:bW}{dV kV doc pm bM ct oc:ai}{an od:Option aj}
 {ps:List Str}{sp:Sp}(lk:K.lookup f=ae #[oc,od,.func (PySem.W.fnOf name qual params body scope dV kV doc pm an bM ct),qJ]) (pO:PySem.W.codeIn K bM qual=ah) (S:xF N ps scope)
  (len:∀ vs H Q E,sp vs H Q E->vs.length=ps.length)
  (vQ:∀ (A:eE) (outer:List Env) (s:aq) (H:Hp) (vs:List V) (Q:VK) (E:XK),di k (A.deeper (envOfC qual scope s.heap.objs.size f bM))->sp vs H Q E ->
   ∃ t,kE (uU CX P w K mg base N qual scope f bM A outer s H E) body t /\ t { nx:=λ_ H'=>Q .non H',rt:=Q } (start N vs) H) :
  kQ P w K mg base CX (k+1) f (PySem.W.fnOf name qual params body scope dV kV doc pm an bM ct) ps sp:=by
  refine#[len,λA outer s H args us vs Q E hr e0 hb r xG=>?_];have hl:=len _ _ _ _ xG;have KX:K.In s.heap:=e0.mod.XA.keeps λb o e=>(e0.bs b o e).1;have lim:s.heap.NoLimit:=e0.mod.nolimit.keeps λb o e=>(e0.bs b o e).1;have afZ:∀ y∈ps.zip us,scope.names.lookup y.1=ae .local \/ (scope.names.lookup y.1=ae .cell /\ ((cellsFrom zx scope.names []).lookup y.1).isSome=ah):=λ⟨n,v⟩ hy=>by
   rcases S.par n (Q0 hy).1 with q|q
   .show .inl q
   .show .inr #[q,abU _ _ _ (.inl q)]
  refine codeAny_call_function hr.depth (KX _ _ lk) zc S.co S.gen zc (PySem.W.codeRec_of KX pO) (hb _ _ _ _ ?_);refine wpAny_newFunctionEnv_cells S.kind afZ λenv he s1 x=>?_;subst he;refine#[lim.keeps x.toInCall.keep,codeAny_func ?_];let#[t,ht,hq]:=vQ A outer s H vs Q E (hr.deeper _) xG;have I:Inv (uU CX P w K mg base N qual scope f bM A outer s H E) [] (start N vs) H s1:=G2 S hr.hd e0 hl r x;refine k7 (ht [] s1 (start N vs) H _ I hq) (λfl s' hs=>?_) λe s' hs=>hs;have fin:∀ {σ':St}{H':Hp}{v:V}{u:ai},Inv (uU CX P w K mg base N qual scope f bM A outer s H E) [] σ' H' s'->RelV v u->Q v H'->CE outer P w H s Q u s' :=
   λ{σ' H' v u} J rv q=>#[v,H',J.os,J.bare,J.base,J.aC,rv,q]
  cases fl with
  |ret u=>
    let#[v,σ',H',J,rv,q]:=hs;show fin J rv q
  |next=>
    let#[σ',H',J,q]:=hs;show fin (v:=V.non) (u:=Value.none) J zc q
  |brk=>
    let#[_,_,_,q]:=hs;show False.elim q
  |cont=>
    let#[_,_,_,q]:=hs;show False.elim q
end L2
variable {CX:L2.qo}
namespace L2
section
variable {p:aL} {t:TA} {id T:String} {r:List V -> Hp -> VK -> zu}
def Ii (r:List V->Hp->VK->zu) (t:TA):TE:=λσ H Q=>t σ H λvs H1=>r vs H1 Q
theorem mN (hc:eF X (.builtin id) r) (hg:Gl X x) (hm:X.mg x=ag) (hv:bootBuiltins x=ae (.builtin id)) (ha:PA X (e::es) t) (hn:x ≠ "__name__":=by decide) (dI:(x==("__debug__":Str))=af:=by decide)
 (he:starEach (e::es) X.env=zaS::starEach es X.env:=by rfl) (nq:(backTo pos (starEach es X.env)).any (·.1)=af:=by rfl):PE X zY (Ii r t):=by
 intro pins s σ H Q I h;refine uD (jv I hg hm hv ?_ hn dI);show aeF (tA (ha pos pins s σ H _ I h) λus s1 vs H1 I1 r1 q1=>hc pins s1 σ H1 vs us Q I1 r1 q1) he nq
theorem G3 (hc:eF X (.type T) r) (hg:Gl X x) (hm:X.mg x=ag) (hv:bootBuiltins x=ae (.type T)) (ha:PA X (e::es) t) (hn:x ≠ "__name__":=by decide) (dI:(x==("__debug__":Str))=af:=by decide)
 (he:starEach (e::es) X.env=zaS::starEach es X.env:=by rfl) (nq:(backTo pos (starEach es X.env)).any (·.1)=af:=by rfl):PE X zY (Ii r t):=by
 intro pins s σ H Q I h;refine uD (jv I hg hm hv ?_ hn dI);show HE (tA (ha pos pins s σ H _ I h) λus s1 vs H1 I1 r1 q1=>hc pins s1 σ H1 vs us Q I1 r1 q1) he nq
end
end L2
namespace HT
noncomputable def lexLt:List Int->List Int->Bool
 |[],[]=>af
 |[],_::_=>ah
 |_::_,[]=>af
 |x::xs,y::ys=>if x=y then lexLt xs ys else decide (x<y)
theorem gj (x y:Int) (xs ys:List Int):lexLt (x::xs) (y::ys)=if x=y then lexLt xs ys else decide (x<y):=rfl
section
open PySem.SeqAt
open PySem.AutoSeq1 (wpAny_loadPart')
open PySem.MeetsSeq PySem.MeetsSeq2 PySem.MeetsSeq3
end
section
variable {s:aq}
theorem N6 {t b:aj}{ws:List ai}(ht:IsTup s.heap t vs.toArray) (hb:IsTup s.heap b ws.toArray) (hv:vs≠[])
 (h1:ws=[]->Q (.ref t) s) (h2:ws≠[]->Q zK { s with heap:=s.heap.push { cls:=.type "tuple",data:=.seq (vs++ws).toArray } })
 (hsz:vs.length+ws.length<=sizeLine):wpAny zh A (binaryOp .Add (.ref t) (.ref b)) Q E s:=by
 let#[#[cls,dd,data,sl],ho,hc,n,hd]:=id ht;let#[#[acO,uV,data2,sD],sF,eT,n2,hd2]:=id hb;simp only at hc hd eT hd2;subst hc hd eT hd2;have e:vs.toArray++ws.toArray=(vs++ws).toArray:=by simp
 by_cases hw:ws=[]
 .show QE #[_,ho,rfl] #[_,sF,rfl] QF QG Xo Xp (Xq _ _)
   (tuple_addW1 t b vs.toArray ws.toArray n n2 dd uV sl sD (by simpa using hv) (by simp[hw])) #[ho,sF,h1 hw]
 .refine QE #[_,ho,rfl] #[_,sF,rfl] QF QG Xo Xp (Xq _ _)
   (tuple_addW2 t b vs.toArray ws.toArray n n2 dd uV sl sD (by simpa using hv) (by simpa using hw) (by rw[bL,bL];show hsz)) #[ho,sF,?_]
  rw[e];show h2 hw
noncomputable def aU (n d:Nat):Option Int->Nat
 |none=>d
 |some v=>if v<0 then (v+(n:Int)).toNat else min v.toNat n
theorem Lj (n d:Nat):aU n d ag=d:=rfl
theorem N7 (n d k:Nat):aU n d (ae (k:Int))=min k n:=by
 change (if (k:Int)<0 then ((k:Int)+(n:Int)).toNat else min (k:Int).toNat n)=min k n;rw[if_neg zd,kh]
theorem S8 (n d:Nat) (hd:d<=n) (o:Option Int):aU n d o<=n:=by
 cases o with
 |none=>show hd
 |some v=>
   change (if v<0 then (v+(n:Int)).toNat else min v.toNat n)<=n;by_cases hv:v<0
   .rw[if_pos hv];lia
   .rw[if_neg hv];show Nat.min_le_right _ _
theorem FW (v:Int) (n d:Nat):(if v<0 then max (v+(n:Int)) 0 else min v (n:Int))=((aU n d (ae v):Nat):Int):=by
 change (if v<0 then max (v+(n:Int)) 0 else min v (n:Int))=(((if v<0 then (v+(n:Int)).toNat else min v.toNat n):Nat):Int);by_cases hv:v<0
 .erw[if_pos hv];lia
 .erw[if_neg hv];lia
theorem D7 (lo hi:Option Int) (n:Nat):Builtin.Slice.sliceAdjust lo hi 1 (n:Int)=(((aU n 0 lo:Nat):Int),((aU n n hi:Nat):Int)):=by
 have h1:¬ ((1:Int)<0):=by lia
 unfold Builtin.Slice.sliceAdjust;erw[h1,if_false];refine Prod.ext ?_ ?_
 .cases lo with
  |none=>rfl
  |some v=>show FW v n 0
 .cases hi with
  |none=>rfl
  |some v=>show FW v n n
theorem D8 (i j:Nat):Builtin.Slice.slicePlaces (i:Int) (j:Int) 1=j-i:=by
 unfold Builtin.Slice.slicePlaces;have h1:(1:Int)>0:=by lia
 erw[h1,if_true,abL];split<;>lia
theorem AB {v:ai}{o:Option Int}{Q:Option Int->aq->zu}(p:IsPart v o) (h:Q o s):wpAny zh A (Builtin.Slice.slicePartIndex v) Q E s:=by
 cases p with
 |none=>show abA h
 |int i t=>show slicePart_int h
theorem jz {sl:aj}{vl vu:ai}{lo hi:Option Int}{Q:Int×Int×Nat->aq->zu}(hs:s.heap.IsSliceOf sl vl vu .none) (pl:IsPart vl lo) (pu:IsPart vu hi)
 (h:Q (((aU n 0 lo:Nat):Int),1,aU n n hi-aU n 0 lo) s):wpAny zh A (Builtin.Slice.sliceApplied (.ref sl) (pure (n:Int))) Q E s:=by
 let#[os,vR,Ij,pP]:=id hs;unfold Builtin.Slice.sliceApplied Builtin.Slice.sliceFields;refine ak (ak (k8 vR pP (x:=vl) zc (ak (k8 vR pP (x:=vu) zc (ak (k8 vR pP (x:=.none) zc (ay ?_)))))));refine ak (abA ?_);change wpAny _ _ (if ((1:Int)==0)=ah then _ else _) _ _ s;rw[if_neg ze];refine ak (AB pl (ak (AB pu (ak (ay ?_)))));change wpAny _ _ (match Builtin.Slice.sliceAdjust lo hi 1 (n:Int) with|(lo,hi)=>pure (lo,(1:Int),Builtin.Slice.slicePlaces lo hi 1)) _ _ s;rw[D7 lo hi n];change wpAny _ _ (pure (((aU n 0 lo:Nat):Int),(1:Int),Builtin.Slice.slicePlaces ((aU n 0 lo:Nat):Int) ((aU n n hi:Nat):Int) 1)) _ _ s;rw[D8];show ay h
theorem Lk (xs:Array ai) (i k:Nat):((List.range k).filterMap λ(m:Nat)=>xs[((i:Int)+(m:Int)*1).toNat]?).toArray=((xs.toList.drop i).take k).toArray:=by
 have e:(λ(m:Nat)=>xs[((i:Int)+(m:Int)*1).toNat]?)=λm=>xs[i+m]?:=by
  funext m;have:((i:Int)+(m:Int)*1).toNat=i+m:=by lia
  rw[this]
 rw[e];have:=pick_run xs i k;rw[Q4]at this;have e2:((λx=>xs[x]?)∘λx=>i+x)=λm=>xs[i+m]?:=rfl;rw[e2]at this;rw[this]
theorem mO {t sl:aj}{vl vu:ai}{lo hi:Option Int}(ht:IsTup s.heap t items) (hs:s.heap.IsSliceOf sl vl vu .none) (pl:IsPart vl lo) (pu:IsPart vu hi)
 (hw:¬ (aU items.size 0 lo=0 /\ aU items.size items.size hi=items.size))
 (h:Q zK { s with heap:=s.heap.push { cls:=.type "tuple",data:=.seq ((items.toList.drop (aU items.size 0 lo)).take (aU items.size items.size hi-aU items.size 0 lo)).toArray } })
 (hsz:items.size<=sizeLine):wpAny zh A (getItem (.ref t) (.ref sl)) Q E s:=by
 have Ik:sizeOk (.seq ((items.toList.drop (aU items.size 0 lo)).take (aU items.size items.size hi-aU items.size 0 lo)).toArray):=by
  change ((items.toList.drop (aU items.size 0 lo)).take (aU items.size items.size hi-aU items.size 0 lo)).toArray.size<=sizeLine;rw[bL,xa,Hj,nH];lia
 have hj:aU items.size items.size hi<=items.size:=S8 _ _ (aD _) hi;let#[os,vR,Ij,pP]:=id hs;have XY:s.TypeIs (.ref sl) "slice":=#[os,vR,Ij];unfold getItem;try with_reducible refine hG ?_
 first|refine ak (ay ?_)|skip
 refine ak (aay ht.typeIs ze ?_);refine ak (qK (name:=Str.ofString "__getitem__") ht.typeIs xo
  (hV xo ht.typeIs abB ?_ (abC _ _)))
 change wpAny _ _ (Builtin.Tuple.tupleItemsOf (.ref t) >>= _) _ _ s;refine ak (abD ht ?_);refine ak (vw XY ?_);rw[if_pos ze];refine ak (jz hs pl pu ?_);have af0:¬ (zQ=ah):=by
  intro q;rw[aG,aG]at q;have q1:((aU items.size 0 lo:Nat):Int)=0:=eq_of_beq q.1.1;have q2:aU items.size items.size hi-aU items.size 0 lo=items.size:=eq_of_beq q.2;show hw #[by lia,by lia]
 change wpAny _ _ (if zQ=ah then _ else _) _ _ s;rw[if_neg af0,Lk];first
  |show ak (m:=Builtin.Tuple.tupleExact _) (eR (ay #[_,rfl,ay h]) Ik)
  |show ak (m:=Builtin.Tuple.tupleExact _) (eR (ak (ay (ay #[_,rfl,ay h]))) Ik)
  |show ak (ak (m:=Builtin.Tuple.tupleExact _) (eR (ay (ay #[_,rfl,ay h])) Ik))
  |show ak (ak (m:=Builtin.Tuple.tupleExact _) (eR (ay #[_,rfl,ay h]) Ik))
end
end HT
namespace L2
abbrev TO:=St->Hp->(Option Int->Hp->zu)->zu
def PO (X:Cx) (e:Option au) (t:TO):zu:=
 ∀ (pins:List (aj×aY)) (s:aq) (σ:St) (H:Hp) (Q:Option Int->Hp->zu),Inv X pins σ H s->t σ H Q ->
  wpAny zg X.A (evalPart e X.env) (λu s'=>∃ o H',Inv X pins σ H' s' /\ IsPart u o /\ Q o H') X.xe s
noncomputable def af1:TO:=λ_ H Q=>Q ag H
noncomputable def af2 (t:TE):TO:=λσ H Q=>t σ H λx H1=>∃ i,x=.int i /\ Q (ae i) H1
theorem AC:∀ {us:List ai},Vals (ns.map V.int) us->IntsAre us ns:=by
 induction ns with
 |nil=>intro us r;rw[xb]at r;cases r;show .nil
 |cons n ns ih=>
   intro us r;rw[aO]at r;cases r with
   |cons r1 r2=>
     let#[t,e]:=r1;subst e;show .cons n t (ih r2)
section
variable {te:TE} {lo hi:Option au} {tl th:TO} {p2:aL}
theorem N8:PO X ag af1:=by
 intro pins s σ H Q I h;rw[QH];show ay #[ag,H,I,.none,h]
theorem N9 (h:PE X e te):PO X (ae e) (af2 te):=by
 intro pins s σ H Q I hw;rw[aaz];refine tE (h pins s σ H _ I hw) λu s1 x H1 I1 r1 q1=>?_;let#[i,rfl,q]:=q1;let#[t,rfl]:=r1;show#[ae i,H1,I1,.int i t,q]
def tY (X:Cx) (r:V->Option Int->Option Int->Hp->VK->zu):zu:=
 ∀ (pins:List (aj×aY)) (s:aq) (σ:St) (H:Hp) (x:V) (v vl vu:ai) (lo hi:Option Int) (sl:aj) (Q:VK),Inv X pins σ H s->RelV x v->s.heap.IsSliceOf sl vl vu .none->IsPart vl lo->IsPart vu hi->r x lo hi H Q ->
  ∃ T id,typeLookup (.type T) "__getitem__"=pure (ae (.builtin id)) /\ s.TypeIs v T /\ wpAny zg X.A (getItem v (.ref sl)) zaz X.xe s
theorem tY.or {r r':V->Option Int->Option Int->Hp->VK->zu}(h:tY X r) (h':tY X r'):tY X (λx lo hi H Q=>r x lo hi H Q \/ r' x lo hi H Q):=by
 intro pins s σ H x v vl vu lo hi sl Q I rx hs pl pu q;rcases q with q|q
 .show h pins s σ H x v vl vu lo hi sl Q I rx hs pl pu q
 .show h' pins s σ H x v vl vu lo hi sl Q I rx hs pl pu q
def af3 (r:V->Option Int->Option Int->Hp->VK->zu) (te:TE) (tl th:TO):TE:=λσ H Q=>te σ H λx H1=>tl σ H1 λl H2=>th σ H2 λu H3=>r x l u H3 Q
theorem Ll {r:V->Option Int->Option Int->Hp->VK->zu}(hr:tY X r) (he:PE X e te) (hl:PO X lo tl) (hu:PO X hi th):PE X (.Subscript e (.Slice lo hi ag p2) pos) (af3 r te tl th):=by
 intro pins s σ H Q I h;refine Subscript_ (tE (he pins s σ H _ I h) λv s1 x H1 I1 r1 q1=>?_);refine aaA (tP (hl pins s1 σ H1 _ I1 q1) λvl s2 l H2 I2 pl q2=>tP (hu pins s2 σ H2 _ I2 q2) λvu s3 u H3 I3 pu q3=>?_);rw[QH];refine ay ?_;have I4:Inv X pins σ H3 { s3 with heap:=s3.heap.push { cls:=.type "slice",data:=.fields (List.toArray [vl,vu,.none]) } }:=I3.kept (t':=s3.toks) λb ob q=>aX _ q;let#[T,id,hT,ht,hg]:=hr pins { s3 with heap:=s3.heap.push { cls:=.type "slice",data:=.fields (List.toArray [vl,vu,.none]) } } σ H3 x v vl vu l u s3.heap.objs.size Q I4 r1 (Heap.IsSliceOf.new ..) pl pu q3;change wpAny zg X.A (subscriptTail e (.Slice lo hi ag p2) v (.ref s3.heap.objs.size)) zaz X.xe { s3 with heap:=s3.heap.push { cls:=.type "slice",data:=.fields (List.toArray [vl,vu,.none]) } };show W4 (ops:=[.ref s3.heap.objs.size,v]) ht hT hg (by with_unfolding_all rfl)
def uW (xs:List V) (lo hi:Option Int):List V:=(xs.drop (HT.aU xs.length 0 lo)).take (HT.aU xs.length xs.length hi-HT.aU xs.length 0 lo)
theorem oX (xs:List V) (lo hi:Option Int):(uW xs lo hi).length<=xs.length:=by
 unfold uW;rw[xa,Hj];lia
def acP (K:PySem.W.Frag):V->Option Int->Option Int->Hp->VK->zu:=λx lo hi H Q=>∃ a xs,x=.ref a /\ cQ K H a xs /\
 ¬ (HT.aU xs.length 0 lo=0 /\ HT.aU xs.length xs.length hi=xs.length) /\ ∀ p,H p=ag->Q (.ref p) (upd H p (.tup (uW xs lo hi)))
theorem S9:tY X (acP X.K):=by
 intro pins s σ H x v vl vu lo hi sl Q I rx hs pl pu h;let#[a,xs,rfl,hx,hw,q]:=h;cases rx;let#[its,r,ht,hz]:=I.tuple hx;have hlen:its.toArray.size=xs.length:=by rw[bL];show r.length.symm
 refine#["tuple",_,xo.lookup,ht.typeIs,?_];refine HT.mO ht hs pl pu (by rw[hlen];show hw) ?_ (by rw[hlen];show hz);rw[hlen];refine#[.ref s.heap.objs.size,_,I.laid (t':=s.toks) (o:=.tup (uW xs lo hi)) (λb ob q=>aX _ q) (aD _) ?_,rfl,q _ (I.aC.fresh (aD _))];show#[cC (oX xs lo hi) hz,_,(r.drop (HT.aU xs.length 0 lo)).take (HT.aU xs.length xs.length hi-HT.aU xs.length 0 lo),IsTup.new _ _]
def acQ (K:PySem.W.Frag):R2:=λx y H Q=>∃ a b xs ys,x=.ref a /\ y=.ref b /\ cQ K H a xs /\ cQ K H b ys /\ xs≠[] /\ xs.length+ys.length<=sizeLine /\
 (ys=[]->Q (.ref a) H) /\ (ys≠[]->∀ p,H p=ag->Q (.ref p) (upd H p (.tup (xs++ys))))
theorem Vals.XZ {xs:List V}(r:Vals xs us):us=[] ↔ xs=[]:=by
 cases r with
 |_=>simp
theorem Oa:bp X (binaryOp .Add) (acQ X.K):=by
 intro pins s σ H x y v u Q I rx ry h;let#[a,b,xs,ys,rfl,rfl,ha,hb,hx,hz,q1,q2]:=h;cases rx;cases ry;let#[its,r1,p1,_]:=I.tuple ha;let#[qW,r2,p2,_]:=I.tuple hb;refine HT.N6 p1 p2 (λz=>hx (r1.XZ.mp z)) (λz=>#[.ref a,H,I,rfl,q1 (r2.XZ.mp z)]) (λz=>?_) (by rw[<-r1.length,<-r2.length];show hz);refine#[.ref s.heap.objs.size,_,I.laid (t':=s.toks) (o:=.tup (xs++ys)) (λb ob q=>aX _ q) (aD _) ?_,rfl,q2 (λw=>z (r2.XZ.mpr w)) _ (I.aC.fresh (aD _))];show#[by rw[cZ];show hz,_,r1.append r2,IsTup.new _ _]
end
noncomputable def bQ (n:Nat) (i:Int):Option Nat:=if 0<=i then (if i<n then ae i.toNat else ag) else if -(n:Int)<=i then ae (i+n).toNat else ag
def bu (xs:List α) (i:Int):Option α:=(bQ xs.length i).bind λj=>xs[j]?
theorem B3 {i:Int}(h:bQ n i=ae j):seqIndex? i n=ae j /\ j<n /\ -(n:Int)<=i /\ i<n:=by
 unfold bQ at h;by_cases h0:0<=i
 .rw[if_pos h0]at h;by_cases h1:i<n
  .rw[if_pos h1]at h;have e:i.toNat=j:=Option.some.inj h;show#[by rw[QI h0 h1,e],by lia,by lia,h1]
  .rw[if_neg h1]at h;cases h
 .rw[if_neg h0]at h;by_cases h1:-(n:Int)<=i
  .rw[if_pos h1]at h;have e:(i+n).toNat=j:=Option.some.inj h;show#[by rw[seqIndex_neg zd h1,e],by lia,h1,by lia]
  .rw[if_neg h1]at h;cases h
theorem B4 {xs:List α}{i:Int}{v:α}(h:bu xs i=ae v):∃ j,seqIndex? i xs.length=ae j /\ xs[j]?=ae v /\ j<xs.length /\ -(xs.length:Int)<=i /\ i<xs.length:=by
 unfold bu at h;cases e:bQ xs.length i with
 |none=>rw[e]at h;cases h
 |some j=>
   rw[e]at h;let#[h1,h2,h3,h4]:=B3 e;show#[j,h1,h,h2,h3,h4]
theorem B5 {xs:List α}{v:α}(h:xs[j]?=ae v):bu xs (j:Int)=ae v:=by
 have hj:j<xs.length:=(List.getElem?_eq_some_iff.mp h).1;have e:bQ xs.length (j:Int)=ae j:=by
  unfold bQ;rw[if_pos zd,if_pos zd];simp
 unfold bu;rw[e];show h
def Il (b:au):zu:=∀ o i,subscripted b af o i=operate [o,i] (getItem o i)
def sH (X:Cx) (r:R2):zu:=
 ∀ (value slice:au) (pins:List (aj×aY)) (s:aq) (σ:St) (H:Hp) (x y:V) (v u:ai) (Q:VK),Inv X pins σ H s->RelV x v->RelV y u->r x y H Q ->
  subscripted slice af v u=operate [v,u] (getItem v u)->wpAny zg X.A (subscriptTail value slice v u) zaz X.xe s
def af4 (X:Cx) (id:String) (r:V->List V->Hp->VK->zu):zu:=
 ∀ (pins:List (aj×aY)) (s:aq) (σ:St) (H:Hp) (x:V) (xs:List V) (v:ai) (us:List ai) (Q:VK),Inv X pins σ H s->RelV x v->Vals xs us->r x xs H Q ->
  wpAny zg X.A (call (.builtin id) (v::us)) zaz X.xe s
section
variable {a b:au} {ta tb:TE} 
theorem sH.or {r r':R2}(h:sH X r) (h':sH X r'):sH X (λx y H Q=>r x y H Q \/ r' x y H Q):=by
 intro value slice pins s σ H x y v u Q I rx ry q hs;rcases q with q|q
 .show h value slice pins s σ H x y v u Q I rx ry q hs
 .show h' value slice pins s σ H x y v u Q I rx ry q hs
theorem R8 {r:R2}(hr:sH X r) (ha:PE X a ta) (hb:PE X b tb) (hs:Il b):PE X (.Subscript a b pos) (yY r ta tb):=by
 intro pins s σ H Q I h;show Subscript_ (XO ha hb I h λv u s2 x y H2 I2 rx ry q=>hr a b pins s2 σ H2 x y v u Q I2 rx ry q (hs _ _))
def acR (K:PySem.W.Frag):R2:=λx y H Q=>∃ p xs i v,x=.ref p /\ y=.int i /\ bX K H p xs /\ bu xs i=ae v /\ Q v H
def acS (K:PySem.W.Frag):R2:=λx y H Q=>∃ p xs i v,x=.ref p /\ y=.int i /\ cQ K H p xs /\ bu xs i=ae v /\ Q v H
def acT:R2:=λx y H Q=>∃ z i c,x=.str z /\ y=.int i /\ z.length<=sizeLine /\ bu z.cps.toList i=ae c /\ Q (.str ⟨(List.toArray [c])⟩) H
theorem FX:sH X (acR X.K):=by
 intro value slice pins s σ H x y v u Q I rx ry h hs;let#[p,xs,i,z,rfl,rfl,hq,he,q]:=h;cases rx;let#[t,rfl]:=ry;let#[its,r,pl,hz]:=I.list hq;let#[j,h1,h2,h3,h4,h5]:=B4 he;let#[w,ew,kn]:=r.get h2;have hl:=r.length;have hn:=yZ;have fin:EP X pins σ Q w s:=#[z,H,I,kn,q];by_cases h0:0<=i
 .have hj:i.toNat=j:=by
   rw[QI h0 h5]at h1;show Option.some.inj h1
  show item_listR pl.isList h0 zd (by rw[hj];simpa using ew) fin hs
 .have hj:(i+(its.toArray.size:Int)).toNat=j:=by
   rw[seqIndex_neg zd h4]at h1;rw[bL,<-hl];show Option.some.inj h1
  show abE (x:=w) pl.isList.typeIs slot_list_getitem.lookup
   (wpAny_getItem_list_neg (Q:=λr s'=>r=w /\ EP X pins σ Q r s') pl.isList zd (by rw[bL]<;>lia) zd (by rw[hj];simpa using ew) #[rfl,fin]) hs
theorem Ta:sH X (acS X.K):=by
 intro value slice pins s σ H x y v u Q I rx ry h hs;let#[p,xs,i,z,rfl,rfl,hq,he,q]:=h;cases rx;let#[t,rfl]:=ry;let#[its,r,pl,hz]:=I.tuple hq;let#[j,h1,h2,h3,h4,h5]:=B4 he;let#[w,ew,kn]:=r.get h2;have hl:=r.length;have hn:=yZ;have fin:EP X pins σ Q w s:=#[z,H,I,kn,q];show abE (x:=w) pl.typeIs slot_tuple_getitem.lookup
  (getItem_tuple (j:=j) (Q:=λr s'=>r=w /\ EP X pins σ Q r s') pl zd zd (by rw[bL,<-hl];show h1) (by simpa using ew) #[rfl,fin]) hs
theorem Tb:sH X acT:=by
 intro value slice pins s σ H x y v u Q I rx ry h hs;let#[z,i,c,rfl,rfl,hz,he,q]:=h;let#[t,rfl]:=rx;let#[t',rfl]:=ry;let#[j,h1,h2,h3,h4,h5]:=B4 he;have hl:z.cps.toList.length=z.length:=by simp[Str.length]
 rw[hl]at h1 h4 h5;have hn:=yZ;show W4 (typeIs_str s z t) slot_str_getitem.lookup (getItem_str (c:=c) (by
  have e1:decide (i < -(2 ^ 63:Int))=af:=decide_eq_false zd;have e2:decide (i>=2 ^ 63)=af:=decide_eq_false zd;rw[e1,e2,Bool.or_false]) (by rw[h1];simpa using h2) #[.str ⟨(List.toArray [c])⟩,H,I.tok _,#[_,rfl],q]) hs
def acU (K:PySem.W.Frag):R2:=λx y H Q=>acR K x y H Q \/ acS K x y H Q \/ acT x y H Q
theorem Tc:sH X (acU X.K):=FX.or (Ta.or Tb)
theorem D9 (its:List ai) (n j:Nat) (u:ai):Obj.mapSeq (·.setIfInBounds j u) { cls:=.type "list",data:=.seq its.toArray n }={ cls:=.type "list",data:=.seq (its.set j u).toArray n }:=by
 simp[Obj.mapSeq]
theorem Inv.lst {pins:List (aj×aY)}{σ:St}{H:Hp}{s:aq}{p:aj}{xs:List V}(I:Inv X pins σ H s) (h:H p=ae (.lst xs)) :
 ∃ (its:List ai) (n:Nat),Vals xs its /\ s.heap.get? p=ae { cls:=.type "list",data:=.seq its.toArray n } /\ xs.length<=sizeLine:=by
 let#[z,its,n,r,e]:=I.aC p _ h;show#[its,n,r,e,z]
theorem Inv.af5 {s:aq}{xs ys:List V}{its its':List ai}{n':Nat}{f:aY->aY}(I:Inv X pins σ H s) (h:H p=ae (.lst xs))
 (ho:s.heap.get? p=ae { cls:=.type "list",data:=.seq its.toArray n }) (hf:f { cls:=.type "list",data:=.seq its.toArray n }={ cls:=.type "list",data:=.seq its'.toArray n' }) (r:Vals ys its') (hz:ys.length<=sizeLine) (t:Nat) :
 Inv X pins σ (upd H p (.lst ys)) { s with heap:=s.heap.update p f,toks:=t }:=by
 have e:(s.heap.update p f).get? p=ae { cls:=.type "list",data:=.seq its'.toArray n' }:=by
  rw[sq f ho (by rw[hf]<;>rfl),hf]
 refine I.write (x:=p) (e:=p) (by rw[h];trivial) (.inl zc) (λb u hb q=>(HD _ _ (Ne.symm hb)).trans q) #[_,e] ?_;show#[hz,its',n',r,e]
def af6:V->V->V->Hp->(Hp->zu)->zu:=λo i v H Q=>∃ p xs k j,o=.ref p /\ i=.int k /\ H p=ae (.lst xs) /\ bQ xs.length k=ae j /\ Q (upd H p (.lst (xs.set j v)))
theorem Lm:acC X af6:=by
 intro pins s σ H o i v ov iv u Q I ro ri rv h;let#[p,xs,k,j,rfl,rfl,hp,hj,q]:=h;cases ro;let#[t,rfl]:=ri;let#[its,n,r,ho,hz]:=I.lst hp;let#[h1,h2,h3,h4]:=B3 hj;have hl:=r.length;have hn:=yZ;have I':Inv X pins σ (upd H p (.lst (xs.set j v))) { s with heap:=s.heap.update p (Obj.mapSeq (·.setIfInBounds j u)) }:=
  I.af5 hp ho (D9 its n j u) (r.set rv j) (by rw[qh];show hz) s.toks
 by_cases h0:0<=k
 .have hk:k.toNat=j:=by
   rw[QI h0 h4]at h1;show Option.some.inj h1
  show PySem.W.ki_setAt ho h0 zd (by rw[bL,<-hl];show h4) (by rw[hk];show#[_,I',q])
 .have hk:(k+(its.toArray.size:Int)).toNat=j:=by
   rw[seqIndex_neg zd h3]at h1;rw[bL,<-hl];show Option.some.inj h1
  show PySem.W.ki_setBack ho zd (by rw[bL,<-hl];show h3) zd (by rw[hk];show#[_,I',q])
theorem B6 (lo hi:Option Int) (n:Nat):(sliceBounds lo hi ag n).1=((HT.aU n 0 lo:Nat):Int) /\ (sliceBounds lo hi ag n).2.1=((HT.aU n n hi:Nat):Int) /\ (sliceBounds lo hi ag n).2.2=1:=by
 refine#[?_,?_,rfl]
 .cases lo with
  |none=>simp[sliceBounds,HT.aU]
  |some i=>
    erw[sliceBounds,HT.aU,W2,show (1:Int)>0 by decide,if_true];by_cases h:i<0
    .erw[h,if_true]<;>lia
    .erw[h,if_false]<;>lia
 .cases hi with
  |none=>simp[sliceBounds,HT.aU]
  |some i=>
    erw[sliceBounds,HT.aU,W2,show (1:Int)>0 by decide,if_true];by_cases h:i<0
    .erw[h,if_true]<;>lia
    .erw[h,if_false]<;>lia
theorem Bn (its:List ai) (lo hi:Option Int):slicePick its.toArray lo hi ag=((its.drop (HT.aU its.length 0 lo)).take (HT.aU its.length its.length hi-HT.aU its.length 0 lo)).toArray:=by
 let#[h1,h2,h3]:=B6 lo hi its.toArray.size;unfold slicePick;rw[h1,h2,h3];erw[sliceRange_one,pick_run,bL]<;>rfl
def acV (K:PySem.W.Frag):V->Option Int->Option Int->Hp->VK->zu:=λx lo hi H Q=>∃ a xs,x=.ref a /\ bX K H a xs /\ ∀ p,H p=ag->Q (.ref p) (upd H p (.lst (uW xs lo hi)))
theorem Ob:tY X (acV X.K):=by
 intro pins s σ H x v vl vu lo hi sl Q I rx hs pl pu h;let#[a,xs,rfl,hx,q]:=h;cases rx;let#[its,r,ht,hz]:=I.list hx;have hlen:=r.length;refine#["list",_,slot_list_getitem.lookup,ht.isList.typeIs,?_];refine aaB ht.isList hs pl pu .none zi ?_ (by rw[bL]<;>lia);rw[Bn,<-hlen];refine#[.ref s.heap.objs.size,_,I.laid (t':=s.toks) (o:=.lst (uW xs lo hi)) (λb ob q=>aX _ q) (aD _) ?_,rfl,q _ (I.aC.fresh (aD _))];show#[cC (oX xs lo hi) hz,_,0,(r.drop (HT.aU xs.length 0 lo)).take (HT.aU xs.length xs.length hi-HT.aU xs.length 0 lo),bF _ zc]
noncomputable def sI:V->Bool
 |.non=>ah
 |.bl _=>ah
 |.int _=>ah
 |.str _=>ah
 |_=>af
noncomputable def sJ:V->V->Bool
 |.non,.non=>ah
 |.bl a,.bl b=>a==b
 |.bl a,.int b=>(if a then 1 else 0)==b
 |.int a,.bl b=>a==(if b then 1 else 0)
 |.int a,.int b=>a==b
 |.str a,.str b=>a==b
 |_,_=>af
theorem Td {s:aq}{y x:V}{v:ai}(ry:RelV y u) (rx:RelV x v) (fy:sI y=ah) (fx:sI x=ah):SeqAt.EqAt A s u v (sJ y x):=by
 cases y with
 |non=>
   cases ry;cases x with
   |non=>cases rx;show SeqAt.EqAt.same _
   |bl b=>cases rx;show aeG b
   |int b=>let#[t,rfl]:=rx;show aeH b t
   |str b=>let#[t,rfl]:=rx;show aeI b t
   |_=>show absurd (show af=ah from fx) c9
 |bl a=>
   cases ry;cases x with
   |non=>cases rx;show aeJ a
   |bl b=>cases rx;show aeK a b
   |int b=>let#[t,rfl]:=rx;show aeL a b t
   |str b=>let#[t,rfl]:=rx;show aeM a b t
   |_=>show absurd (show af=ah from fx) c9
 |int a=>
   let#[t',rfl]:=ry;cases x with
   |non=>cases rx;show aeN a t'
   |bl b=>cases rx;show aeO a t' b
   |int b=>let#[t,rfl]:=rx;show acd a t' b t
   |str b=>let#[t,rfl]:=rx;show aca a t' b t
   |_=>show absurd (show af=ah from fx) c9
 |str a=>
   let#[t',rfl]:=ry;cases x with
   |non=>cases rx;show aeP a t'
   |bl b=>cases rx;show aeQ a t' b
   |int b=>let#[t,rfl]:=rx;show acb a t' b t
   |str b=>let#[t,rfl]:=rx;show Xv a t' b t
   |_=>show absurd (show af=ah from fx) c9
 |_=>show absurd (show af=ah from fy) c9
def nJ (x:V) (u:ai):Bool:=match u with
 |.none=>sJ .non x
 |.bool b=>sJ (.bl b) x
 |.int i _=>sJ (.int i) x
 |.str z _=>sJ (.str z) x
 |_=>af
theorem Ln {x y:V}(r:RelV y u) (f:sI y=ah):nJ x u=sJ y x:=by
 cases y with
 |non=>cases r;rfl
 |bl b=>cases r;rfl
 |int i=>let#[t,rfl]:=r;rfl
 |str z=>let#[t,rfl]:=r;rfl
 |_=>show absurd (show af=ah from f) c9
theorem mP {x:V}:∀ {xs:List V}{us:List ai},Vals xs us->xs.all sI=ah->us.any (nJ x)=xs.any λy=>sJ y x
 |_,_,.nil,_=>rfl
 | y::xs,u::us,.cons r t,f=>by
   rw[tK,aG]at f;rw[qi,qi,Ln r f.1,mP t f.2]
theorem lj {A:eE}{s:aq}{x:V}{v:ai}(rx:RelV x v) (fx:sI x=ah):∀ {xs:List V}{us:List ai},Vals xs us->xs.all sI=ah->∀ u∈us,SeqAt.EqAt A s u v (nJ x u)
 |_,_,.nil,_=>λu hu=>by cases hu
 | y::xs,u::us,.cons r t,f=>λu' hu=>by
   rw[tK,aG]at f;rcases bz.mp hu with rfl|hu
   .rw[Ln r f.1];show Td r rx f.1 fx
   .show lj rx fx t f.2 u' hu
def Im (x:V) (xs:List V):Bool:=xs.any λy=>sJ y x
def Io (K:PySem.W.Frag) (neg:Bool):R2:=λx y H Q=>∃ p xs,y=.ref p /\ (bX K H p xs \/ cQ K H p xs) /\ sI x=ah /\ xs.all sI=ah /\ Q (.bl (if neg then !Im x xs else Im x xs)) H
theorem G4:bp X (compareOp .In) (Io X.K af):=by
 intro pins s σ H x y v u Q I rx ry h;let#[p,xs,rfl,hq,fx,fs,q]:=h;cases ry;rcases hq with hq|hq
 .let#[its,r,pl,hz]:=I.list hq;refine SeqAt.in_listAt (nJ x) pl.isList (λw hw=>lj rx fx r fs w (by simpa using hw)) #[.bl _,H,I,rfl,?_];rw[show its.toArray.any (nJ x)=its.any (nJ x) by simp,mP r fs];show q
 .let#[its,r,pl,hz]:=I.tuple hq;refine SeqAt.in_tupleAt (nJ x) pl (λw hw=>lj rx fx r fs w (by simpa using hw)) #[.bl _,H,I,rfl,?_];rw[show its.toArray.any (nJ x)=its.any (nJ x) by simp,mP r fs];show q
theorem B7:bp X (compareOp .NotIn) (Io X.K ah):=by
 intro pins s σ H x y v u Q I rx ry h;let#[p,xs,rfl,hq,fx,fs,q]:=h;cases ry;rcases hq with hq|hq
 .let#[its,r,pl,hz]:=I.list hq;refine SeqAt.notIn_listAt (nJ x) pl.isList (λw hw=>lj rx fx r fs w (by simpa using hw)) #[.bl _,H,I,rfl,?_];rw[show its.toArray.any (nJ x)=its.any (nJ x) by simp,mP r fs];show q
 .let#[its,r,pl,hz]:=I.tuple hq;refine SeqAt.notIn_tupleAt (nJ x) pl (λw hw=>lj rx fx r fs w (by simpa using hw)) #[.bl _,H,I,rfl,?_];rw[show its.toArray.any (nJ x)=its.any (nJ x) by simp,mP r fs];show q
theorem mQ:eF X (.builtin "len") (λxs H Q=>∃ p ys,xs=[.ref p] /\ (bX X.K H p ys \/ cQ X.K H p ys) /\ Q (.int ys.length) H):=by
 intro pins s σ H xs us Q I r h;let#[p,ys,rfl,hq,q]:=h;let#[u,rfl,rx]:=vals1 r;cases rx;have hn:=yZ;rcases hq with hq|hq
 .let#[its,r',pl,hz]:=I.list hq;have hlen:=r'.length;show Calls.call_len_list pl.isList (by erw[bL]<;>lia) #[.int ys.length,H,I.tok _,#[s.toks+1,by rw[bL,hlen]],q]
 .let#[its,r',pl,hz]:=I.tuple hq;have hlen:=r'.length;show len_tuple pl (by erw[bL]<;>lia) #[.int ys.length,H,I.tok _,#[s.toks+1,by rw[bL,hlen]],q]
theorem B8:eF X (.type "list") (λxs H Q=>∃ p ys,xs=[.ref p] /\ (bX X.K H p ys \/ cQ X.K H p ys) /\ ∀ l,H l=ag->Q (.ref l) (upd H l (.lst ys))):=by
 intro pins s σ H xs us Q I r h;let#[p,ys,rfl,hq,q]:=h;let#[u,rfl,rx]:=vals1 r;cases rx
 have fin:∀ (its:List ai),Vals ys its->ys.length<=sizeLine->∀ (h':aI) (c':Nat),(∀ b o',s.heap.get? b=ae o'->h'.get? b=ae o') ->
  h'.get? s.heap.objs.size=ae { cls:=.type "list",dict:=ag,data:=.seq its.toArray c',slots:=#[] }->EP X pins σ Q zK { s with heap:=h' }:=λits r' hz h' c' kp e=>
  #[.ref s.heap.objs.size,_,I.laid (t':=s.toks) kp (aD _) (show bG X.prog X.w _ h' _ (.lst ys) from#[hz,its,c',r',e]),rfl,q _ (I.aC.fresh (aD _))]
 rcases hq with hq|hq
 .let#[its,r',pl,hz]:=I.list hq;have hlen:=r'.length;let#[o,ho,hc,n,hd]:=pl.isList;show aaC p (.inl zc) ho hc hd (λh' c' kp e=>fin its r' hz h' c' kp e) (by erw[bL]<;>lia)
 .let#[its,r',pl,hz]:=I.tuple hq;have hlen:=r'.length;let#[o,ho,hc,n,hd]:=pl;show aaC p (.inr zc) ho hc hd (λh' c' kp e=>fin its r' hz h' c' kp e) (by erw[bL]<;>lia)
theorem Bo:eF X (.type "tuple") (λxs H Q=>∃ p ys,xs=[.ref p] /\ ((bX X.K H p ys /\ ∀ l,H l=ag->Q (.ref l) (upd H l (.tup ys))) \/ (cQ X.K H p ys /\ Q (.ref p) H))):=by
 intro pins s σ H xs us Q I r h;let#[p,ys,rfl,h]:=h;let#[u,rfl,rx]:=vals1 r;cases rx;rcases h with⟨hq,q⟩|⟨hq,q⟩
 .let#[its,r',pl,hz]:=I.list hq;have hlen:=r'.length;refine call_tuple_list pl.isList (λh' kp=>?_) (by erw[bL]<;>lia);have I1:Inv X pins σ H { s with heap:=h' }:=I.kept (t':=s.toks) kp;have I2:Inv X pins σ (upd H h'.objs.size (.tup ys)) { s with heap:=h'.push { cls:=.type "tuple",data:=.seq its.toArray } }:=
   I1.laid (t':=s.toks) (λb o e=>aX _ e) (aD _) (show bG X.prog X.w _ _ _ (.tup ys) from#[hz,its,r',IsTup.new _ _])
  show#[.ref h'.objs.size,_,I2,rfl,q _ (I1.aC.fresh (aD _))]
 .let#[its,r',pl,hz]:=I.tuple hq;show call_tuple_same pl #[.ref p,H,I,rfl,q]
def acW (K:PySem.W.Frag) (T:String) (x:V) (H:Hp):zu:=match x with
 |.str _=>T="str"
 |.int _=>T="int"
 |.ref p=>(T="list" /\ ∃ xs,bX K H p xs) \/ (T="tuple" /\ ∃ o,K.lookup p=ae o /\ o.cls=.type "tuple" /\ o.dict=ag) \/
  (T="dict" /\ ((∃ ao,H p=ae zag) \/ ∃ ao,H p=ae (.dT ao))) \/ (T="set" /\ ∃ S n,H p=ae (.set S n))
 |_=>False
theorem Te {s:aq}{T:String}{x:V}{v:ai}(I:Inv X pins σ H s) (r:RelV x v) (ty:acW X.K T x H) :
 s.TypeIs v T /\ ∀ a,v=.ref a->∃ ob,s.heap.get? a=ae ob /\ ob.dict=ag:=by
 cases x with
 |str z=>
   let#[t,rfl]:=r;cases (show T="str" from ty);show#[typeIs_str s z t,λ_ e=>nomatch e]
 |int i=>
   let#[t,rfl]:=r;cases (show T="int" from ty);show#[typeIs_int s i t,λ_ e=>nomatch e]
 |ref p=>
   cases r;rcases ty with⟨rfl,xs,hq⟩|⟨rfl,o,hk,hc,hd⟩|⟨rfl,hk⟩|⟨rfl,S,n,hk⟩
   .let#[its,_,pl,_]:=I.list hq;refine#[pl.isList.typeIs,λa e=>?_];cases e;let#[o,n,e,c,hd,_]:=pl;show#[o,e,hd]
   .refine#[#[o,I.kO p o hk,hc],λa e=>?_];cases e;show#[o,I.kO _ o hk,hd]
   .have z:∃ o,s.heap.get? p=ae o /\ o.ExactDict:=by
     rcases hk with⟨ao,hk⟩|⟨ao,hk⟩
     .let#[_,_,_,_,o,_,_,e,ex,_]:=I.aC p _ hk;show#[o,e,ex]
     .let#[_,_,_,_,o,_,_,e,ex,_]:=I.aC p _ hk;show#[o,e,ex]
    let#[o,e,ex]:=z;refine#[#[o,e,ex.1],λa e2=>?_];cases e2;show#[o,e,ex.2.1]
   .let#[o,_,_,_,e,ex,_]:=I.aC p _ hk;refine#[#[o,e,ex.1],λa e2=>?_];cases e2;show#[o,e,ex.2.1]
 |_=>show False.elim ty
def Ip (K:PySem.W.Frag) (T:String) (r:V->List V->Hp->VK->zu) (to:TE) (t:TA):TE:=λσ H Q=>to σ H λx H1=>acW K T x H1 /\ t σ H1 λxs H2=>r x xs H2 Q
variable {o:au} {to:TE} {t:TA} {name:Str} {dX:aL} {T id:String} {r:V -> List V -> Hp -> VK -> zu}
theorem Lo (pa:PlainAttrs T) (slot:Slot T name id) (af7:typeOf (.builtin id)=pure (.type "method_descriptor")) (hm:af4 X id r) (ho:PE X o to) (ha:PA X (e::es) t)
 (vS:attributeBase o name X.env (eval o X.env)=eval o X.env:=by rfl)
 (vT:((backTo dX (starEach (e::es) X.env)).all (λx=>!x.1)&&(backToKw dX (keywordEach [] X.env)).all (λx=>x.1.isSome)
  && decide ((e::es).length+([]:List Keyword).length+(if ([]:List Keyword).isEmpty then 0 else 1)<30))=ah:=by rfl)
 (vU:(apos.endLine==dX.line)=ah:=by rfl) (hs:starEach (e::es) X.env=zaS::starEach es X.env:=by rfl) (af8:(backTo dX (starEach es X.env)).any (·.1)=af:=by rfl) :
 PE X (.Call (.Attribute o name apos) (e::es) [] dX) (Ip X.K T r to t):=by
 intro pins s σ H Q I h;refine wpAny_Call_method_late vS vT vU zc (tE (ho pins s σ H _ I h) λv s1 x H1 I1 r1 hh=>?_);let#[ty,q1]:=hh;let#[h1,h2]:=Te I1 r1 ty;refine#[T,id,pa,slot,af7,h1,h2,?_];have hA:=ha dX pins s1 σ H1 _ I1 q1;rw[hs]at hA ⊢;refine Xl (by change (af||(backTo dX (starEach es X.env)).any (·.1))=af;rw[af8]<;>rfl) (Xm ?_);show tA hA λus s2 vs H2 I2 r2 q2=>hm pins s2 σ H2 x vs v us Q I2 r1 r2 q2
end
def X0 (X:Cx) (id:String) (r:V->List V->Hp->VK->zu):zu:=
 ∀ (pins:List (aj×aY)) (s:aq) (σ:St) (H:Hp) (x:V) (xs:List V) (v:ai) (us:List ai) (Q:VK),Inv X pins σ H s->RelV x v->Vals xs us->r x xs H Q ->
  wpAny zg X.A (call (.builtin id) (v::us)) zaz X.xe s
theorem Vals.one:∀ {x:V}{us:List ai},Vals [x] us->∃ u,us=[u] /\ RelV x u
 |_,_,.cons r .nil=>#[_,rfl,r]
theorem Vals.two:∀ {x y:V}{us:List ai},Vals [x,y] us->∃ u v,us=[u,v] /\ RelV x u /\ RelV y v
 |_,_,_,.cons r (.cons q .nil)=>#[_,_,rfl,r,q]
theorem Vals.eraseIdx:∀ {xs:List V}{us:List ai}(i:Nat),Vals xs us->Vals (xs.eraseIdx i) (us.eraseIdx i)
 |_,_,_,.nil=>.nil
 |_,_,0,.cons _ t=>t
 |_,_,i+1,.cons r t=>.cons r (Vals.eraseIdx i t)
theorem Vals.reverse {xs:List V}{us:List ai}(h:Vals xs us):Vals xs.reverse us.reverse:=by
 induction h with
 |nil=>show .nil
 |cons r t ih=>rw[Hl,Hl];show Vals.append ih (.cons r .nil)
theorem Vals.rep {xs:List V}(h:Vals xs us):∀ k:Nat,Vals (List.replicate k xs).flatten (List.replicate k us).flatten:=by
 intro l_;induction l_ with
 |zero=>show .nil
 |succ k az=>
   rw[Hm,Hm,Hn,Hn];show Vals.append h (az)
theorem BC {α:Type}:∀ (l:List α) (i:Nat),(l.eraseIdx i).length<=l.length
 |[],_=>aD _
 |_::_,0=>qb _
 |_::r,i+1=>aaZ (BC r i)
section
variable {s:aq} {l b:aj} {xs ys zs:List V}
theorem Inv.X1 {its its':List ai}{f:Array ai->Array ai}(I:Inv X pins σ H s) (hH:H l=ae (.lst xs))
 (e:s.heap.get? l=ae { cls:=.type "list",data:=.seq its.toArray n }) (hf:f its.toArray=its'.toArray) (hv:Vals ys its') (hz:ys.length<=sizeLine) :
 Inv X pins σ (upd H l (.lst ys)) { s with heap:=s.heap.update l (Obj.mapSeq f),toks:=t' }:=by
 have q:=PySem.IsL.update e f;rw[hf]at q;refine I.write (x:=l) (e:=l) (by rw[hH];show trivial) (.inl zc) (λb' u hb hu=>(HD s.heap (Obj.mapSeq f) (Ne.symm hb)).trans hu) #[_,q] ?_;show#[hz,its',_,hv,q]
theorem Inv.af9 {its:List ai}(I:Inv X pins σ H s) (hv:Vals ys its) (hz:ys.length<=sizeLine) :
 Inv X pins σ (upd H s.heap.objs.size (.lst ys)) { s with heap:=s.heap.push { cls:=.type "list",data:=.seq its.toArray },toks:=t' }:=
 I.laid (λ_ _ q=>aX _ q) (aD _) #[hz,its,0,hv,bF _ zc]
theorem Inv.fresh (I:Inv X pins σ H s):H s.heap.objs.size=ag:=I.aC.fresh (aD _)
theorem Inv.xH (I:Inv X pins σ H s) (hH:H l=ae (.lst xs)):xs.length<=sizeLine /\ ∃ (its:List ai) (n:Nat),Vals xs its /\ xs.length=its.length /\ s.heap.get? l=ae { cls:=.type "list",data:=.seq its.toArray n }:=by
 let#[z,its,n,r,e]:=I.aC l _ hH;show#[z,its,n,r,r.length,e]
theorem aga (h:n<=sizeLine):Builtin.List.listTooLong n=af:=by
 unfold Builtin.List.listTooLong;show decide_eq_false zd
end
def acX:V->List V->Hp->VK->zu:=λx vs H Q=>∃ l xs y,x=.ref l /\ vs=[y] /\ H l=ae (.lst xs) /\ xs.length<sizeLine /\ Q .non (upd H l (.lst (xs++[y])))
theorem oB:X0 X "list.append" acX:=by
 intro pins s σ H x vs v us Q I rx rv h;let#[l,xs,y,rfl,rfl,hH,hz,q]:=h;cases rx;let#[u,rfl,ru]:=rv.one;let#[z,its,n,r,hl,e]:=I.xH hH;refine QJ F.slot_list_append #[_,e,rfl] F.entry_list_append (F.args_list_append_2 _ _) (PySem.list_append l its.toArray n u (by rw[bL];lia)) #[e,?_];refine#[.non,_,I.X1 (its':=its++[u]) hH e zi (r.append (.cons ru .nil)) ?_,rfl,q];rw[cZ,aa8];lia
def acY:V->List V->Hp->VK->zu:=λx vs H Q=>∃ l b xs zs,x=.ref l /\ vs=[.ref b] /\ H l=ae (.lst xs) /\ H b=ae (.lst zs) /\ xs.length+zs.length<=sizeLine /\ Q .non (upd H l (.lst (xs++zs)))
theorem G5:X0 X "list.extend" acY:=by
 intro pins s σ H x vs v us Q I rx rv h;let#[l,b,xs,zs,rfl,rfl,hH,hB,hz,q]:=h;cases rx;let#[u,rfl,ru]:=rv.one;cases ru;let#[z,its,n,r,hl,e]:=I.xH hH;let#[z2,qW,n2,r2,qX,e2]:=I.xH hB;have hsz:its.toArray.size+qW.toArray.size<=sizeLine:=by rw[bL,bL];lia
 have agb:¬ (!its.toArray.isEmpty&&Builtin.List.listTooLong (its.toArray.size+qW.toArray.size))=ah:=by
  rw[aga hsz,Bool.and_false];show c9
 refine QJ F.slot_list_extend #[_,e,rfl] F.entry_list_extend (F.args_list_extend_2 _ _)
  (afd l its.toArray n b qW.toArray n2 agb (by rw[bL];lia) zd) #[e,e2,?_]
 refine#[.non,_,I.X1 (its':=its++qW) hH e zi (r.append r2) ?_,rfl,q];rw[cZ];lia
def acZ:V->List V->Hp->VK->zu:=λx vs H Q=>∃ l xs i k y,x=.ref l /\ vs=[.int i] /\ H l=ae (.lst xs) /\ -(2 ^ 63)<=i /\ i<2 ^ 63 /\ seqIndex? i xs.length=ae k /\ xs[k]?=ae y /\ Q y (upd H l (.lst (xs.eraseIdx k)))
theorem Lp:X0 X "list.pop" acZ:=by
 intro pins s σ H x vs v us Q I rx rv h;let#[l,xs,i,k,y,rfl,rfl,hH,h1,h2,hk,hy,q]:=h;cases rx;let#[u,rfl,ru]:=rv.one;let#[t,rfl]:=ru;let#[z,its,n,r,hl,e]:=I.xH hH;let#[w,hw,kn]:=r.get hy;refine QJ F.slot_list_pop #[_,e,rfl] F.entry_list_pop (F.args_list_pop_2 _ _)
  (aff l its.toArray n i t k w (fitsIndex_both h1 h2) (by rw[bL,<-hl];show hk) (by rw[<-qP];show hw) (by rw[bL];lia)) #[e,?_]
 refine#[y,_,I.X1 (its':=its.eraseIdx k) hH e ?_ (r.eraseIdx k) ?_,kn,q]
 .change its.toArray.eraseIdxIfInBounds k=(its.eraseIdx k).toArray;rw[List.eraseIdxIfInBounds_toArray]
 .have:=BC xs k;lia
def ac0:R2:=λx y H Q=>∃ l b xs zs,x=.ref l /\ y=.ref b /\ H l=ae (.lst xs) /\ H b=ae (.lst zs) /\ xs.length+zs.length<=sizeLine /\ ∀ p,H p=ag->Q (.ref p) (upd H p (.lst (xs++zs)))
theorem Tf:bp X (binaryOp .Add) ac0:=by
 intro pins s σ H x y v u Q I rx ry h;let#[l,b,xs,zs,rfl,rfl,hH,hB,hz,q]:=h;cases rx;cases ry;let#[z,its,n,r,hl,e]:=I.xH hH;let#[z2,qW,n2,r2,qX,e2]:=I.xH hB;refine PySem.P.add_list e e2 ?_ (by rw[bL,bL];lia);have ea:its.toArray++qW.toArray=(its++qW).toArray:=by simp
 rw[ea];show#[.ref _,_,I.af9 (t':=s.toks) (r.append r2) (by rw[cZ];lia),rfl,q _ I.fresh]
section
variable {s:aq}
end
end L2
namespace ac1
open PySem.W PySem.Calls
theorem Ah {P:Params}:∀ (ns:List Int) (vs:List ai),WellAll P h vs (ns.map WData.int)->IntsAre vs ns:=by
 intro ns;induction ns with
 |nil=>
   intro vs w;rw[xb]at w;cases w;show .nil
 |cons n ns ih=>
   intro vs w;rw[aO]at w;cases w with
   |cons a b=>
     cases a;show .cons _ _ (ih _ b)
theorem G6 {l:OpenLaw}(hn:l.most=ae n) {P:Params}{args:List WData}{vals:List ai}
 (Iq:l.row.toRowW.claim.pre args=ah) (X2:WellAll P h vals args) :
 ∃ a vs ns,vals=[Value.ref a] /\ args=[WData.list (ns.map WData.int)] /\ h.get? a=ae { cls:=.type "list",data:=.seq vs.toArray } /\ IntsAre vs ns /\ ns.length<=n:=by
 have agc:WShape.hasAll [] args [.list .int]=ah:=(pre_splitW Iq).1;have hc:l.pre.holds [] { args:=args }=ah:=(pre_splitW Iq).2;let#[d,r,rfl,h1,h2]:=hasAllW_cons agc;obtain rfl:=hasAllW_nil h2;let#[xs,rfl,h3]:=hasW_list h1;let#[ns,rfl]:=items_int h3;have hlen:ns.length<=n:=by
  unfold OpenLaw.pre at hc;have h4:(WTm.not (.lt (.lit (.int (n:Int))) (.len (.arg 0)))).holds [] { args:=[.list (ns.map .int)] }=ah:=by
   have h4:=(holds_andW hc).1;rw[hn]at h4;show h4
  have h5:=condW_of h4 (w_not (w_lt w_lit (w_len_list (w_arg zc))));rw[a6]at h5;refine vB λq=>?_;have q':(n:Int)<((ns.length:Nat):Int):=by lia
  first
   |(rw[decide_eq_true q']at h5;show absurd h5 ze)
   |(simp at h5;lia)
 cases X2 with
 |cons w1 w2=>
   cases w2;cases w1 with
   |list ho Eb=>show#[_,_,ns,rfl,rfl,ho,Ah ns _ Eb,hlen]
theorem G7 (l:OpenLaw) (args:List WData):l.row.toRowW.claim.post args (.bool ah) args=ah:=
 postW_of (r:=l.row.toRowW) (X:=(ah==ah))
  (show WShape.has [] (.bool ah) .bool=ah by first|rfl|decide|simp[WShape.has,WShape.arms,WShape.armsAll])
  (show (WTm.eq .res (.lit (.bool ah))).value [] { args:=args,res:=ae (.bool ah),after:=args }=ae (.bool (ah==ah)) from w_eq_bool (w_res zc) w_lit) zc
theorem agd {l:OpenLaw}{q:dg}{loose:List Str}{XP:(Str->Option ai)->aI->zu}{YP:cn->aI->zu}{d:DefRec}
 (hn:l.most=ae n) (X3:d.params.defaults=[])
 (call:∀ (w:cn) (s₀ s₁:aq) (mg mb:Str->Option ai) (fa:aj) (o:aY) (pm cd doc:ai) (a:aj) (vs:List ai) (ns:List Int),
  Ground q loose [] XP w s₀ mg mb s₁.heap->YP w s₁.heap ->
  s₁.heap.get? fa=ae o->o.data=.func (docDef d.name d.params d.body d.scope pm cd doc)->s₁.heap.CodeRec cd d.name->mg d.name=ae (.ref fa) ->
  s₁.heap.get? a=ae { cls:=.type "list",data:=.seq vs.toArray }->IntsAre vs ns->ns.length<=n->s₁.gens=#[] ->
  codeAny (model l.prog w) callerA (.call (.ref fa) #[[.ref a],[]]) (λr s'=>r=.ok (.ret (.bool ah)) /\ OldK s₁.heap s'.heap /\ s'.os=s₁.os /\ AllBare s'.gens) s₁) :
 WalkO q loose XP YP l.row.toRowW d [] (λf vs=>PySem.call f vs):=by
 intro w s₀ s₁ mg mb G Y fa o pm cd doc dV kV ho hd pO hD hmg hg args vals as Iq aj3 aj4 X2 aj5;obtain rfl:dV=.none:=Dflts.none hD X3;obtain rfl:kV=.none:=Dflts.noKw hD;let#[a,vs,ns,rfl,rfl,X4,hints,hlen]:=G6 hn Iq X2;refine enter_call (wR (call w s₀ s₁ mg mb fa o pm cd doc a vs ns G Y ho (fd_plain hd) pO hmg X4 hints hlen hg) λr s' hq=>?_);let#[rfl,h2,h3,h4]:=hq;show#[.inl #[.bool ah,.bool ah,[],rfl,λ_=>rfl,.bool ah,G7 l _,λ_=>#[List.Pairwise.nil,λ_ hm=>(nomatch hm)]],h2,h3,h4]
section
variable {s:aq} 
end
end ac1
namespace L2
theorem BD:∀ {vs:List ai}{ns:List Int},IntsAre vs ns->Vals (ns.map V.int) vs
 |_,_,.nil=>.nil
 |_,_,.cons n t h=>.cons #[t,rfl] (BD h)
def X5 (H:Hp):zu:=∀ b,H b=ag \/ ∃ o xs,H b=ae (.bI o (.lst xs))
theorem Lq {mb:Str->Option ai}{k:Nat}{fa:aj}{sp:Sp}{s₁:aq} 
 (KX:K.In s₁.heap) (eG:s₁.heap.Ns mainGlobals mg) (hb:s₁.heap.Ns builtinsNs mb) (age:∀ x:Str,x ≠ "__name__"->mb x=bootBuiltins x) (agf:s₁.heap.NoLimit) (hg:s₁.gens=#[])
 (ha:s₁.heap.get? a=ae { cls:=.type "list",data:=.seq vs.toArray }) (hi:IntsAre vs ns) (hl:ns.length<=sizeLine) (hr:di k callerA)
 (F:∀ base:aI,K.In base->base.Ns mainGlobals mg->kQ P w K mg base CX k fa fd [x] sp) (agg:∀ (s:aq) (u:ai),BindsTo s fd #[[u],[]] [(x,u)])
 (xG:∀ H:Hp,X5 H->bX K H a (ns.map V.int)->sp [.ref a] H (λv _=>v=.bl ah) λ_ _ _=>False)
 (agh:∀ H e s',CX [] H s₁ (λ_ _ _=>False) e s'->False) :
 codeAny (model P w) callerA (.call (.ref fa) #[[.ref a],[]]) (λr s'=>r=.ok (.ret (.bool ah)) /\ OldK s₁.heap s'.heap /\ s'.os=s₁.os /\ AllBare s'.gens) s₁:=by
 have rv:=BD hi;have agi:=hi.length
 have core:∀ H:Hp,X5 H->bX K H a (ns.map V.int)->cJ P w H s₁.heap->(∀ b,H b≠ag->b=a)->(H a≠ag->K.lookup a=ag) ->
  codeAny (model P w) callerA (.call (.ref fa) #[[.ref a],[]]) (λr s'=>r=.ok (.ret (.bool ah)) /\ OldK s₁.heap s'.heap /\ s'.os=s₁.os /\ AllBare s'.gens) s₁:=by
  intro H hO hS aC hA hK;have ju:∀ {b:aj}{o:aY},s₁.heap.get? b=ae o->H b=ag->(tU s₁.heap H).get? b=ae o:=λe n=>J0 e n;have Ea:∀ {b:aj}{o:aY}{es:Array DictEntry}{ep:Nat},s₁.heap.get? b=ae o->o.data=.dict es ep->H b=ag:=λ{b o es ep} e d=>by
   cases q:H b with
   |none=>rfl
   |some u=>
     have e':b=a:=hA b (by rw[q];simp);subst e';rw[ha]at e;cases e;have d':Data.seq vs.toArray _=Data.dict es ep:=d;cases d'
  have Ir:∀ {b:aj}{m:Str->Option ai},s₁.heap.Ns b m->(tU s₁.heap H).Ns b m:=λ{b m} ⟨o,es,ep,e,d,r⟩=>#[o,es,ep,ju e (Ea e d),d,r];have ac2:K.In (tU s₁.heap H):=λb o e=>ju (KX b o e) (by
   cases q:H b with
   |none=>rfl
   |some u=>
     have e':b=a:=hA b (by rw[q];simp);subst e';rw[hK (by rw[q];simp)]at e;cases e)
  have hM:Mod K mg (tU s₁.heap H):=#[ac2,Ir eG,#[mb,Ir hb,age],let ⟨mc,h1,h2⟩:=agf;#[mc,Ir h1,h2]];have e0:Ih P w K mg (tU s₁.heap H) callerA [] s₁ H:=#[rfl,hM,λb o e=>NT e,wW (GU _ _),trivial,λb hb=>absurd (show b∈([]:List aj) from hb) zi,aC,.of_eq hg];refine wR ((F _ ac2 (Ir eG)).run callerA [] s₁ H #[[.ref a],[]] [.ref a] [.ref a] _ _ hr e0 (agg s₁ (.ref a)) (.cons zc .nil) (xG H hO hS)) λr s' h=>?_;cases r with
  |error e=>show(agh H e s' h).elim
  |ok fl=>
    cases fl with
    |ret u=>
      let#[v,H',os,bare,un,agj,r',q]:=h;have q':v=.bl ah:=q;subst q';obtain rfl:u=Value.bool ah:=r';refine#[rfl,OldK.of_keep λb o e=>?_,os,bare];cases q:H b with
      |none=>show un.keep b o e q (by intro z;show absurd (show b∈([]:List aj) from z) zi) zi
      |some u=>
        rcases hO b with z|⟨ob,xs,z⟩
        .rw[q]at z;cases z
        .have z2:=un.pM b ob _ z;let#[e1,_]:=aC b _ z;let#[e2,_]:=agj b _ z2;rw[e]at e1;cases e1;show e2
    |_=>show False.elim h
 cases hk:K.lookup a with
 |some o=>
   have e:=KX a o hk;rw[ha]at e;cases e;refine core (λ_=>ag) (λ_=>.inl zc) (.inr #[_,vs.toArray,_,hk,rfl,rfl,rfl,by rw[bL,agi];show hl,by simpa using rv]) (λb u z=>by have z':(ag:Option HO)=ae u:=z;cases z') (λb z=>absurd rfl z) λz=>absurd rfl z
 |none=>
   refine core (λb=>if b=a then ae (.bI { cls:=.type "list",data:=.seq vs.toArray } (.lst (ns.map V.int))) else ag) (λb=>?_) (.inl (.inr #[{ cls:=.type "list",data:=.seq vs.toArray },if_pos zc])) (λb u z=>?_) (λb z=>?_) λ_=>hk
   .by_cases hb:b=a
    .show .inr #[_,_,if_pos hb]
    .show .inl (if_neg hb)
   .by_cases hb:b=a
    .have z':=(if_pos hb).symm.trans z;cases z';subst hb;show#[ha,by rw[a6];show hl,vs,_,rv,ha]
    .have z':=(if_neg hb).symm.trans z;cases z'
   .by_cases hb:b=a
    .show hb
    .show absurd (if_neg hb) z
noncomputable abbrev aj6 (_:K.In h):PySem.W.Frag:=K
noncomputable def jh (s:cj):Arguments:=match s with
 |.FunctionDef _ a _ _ _ _ _ _ _ _=>a
 |_=>{ posonlyargs:=[],args:=[],vararg:=ag,kwonlyargs:=[],kw_defaults:=[],kwarg:=ag,defaults:=[] }
noncomputable def gY (s:cj):List cj:=match s with
 |.FunctionDef _ _ b _ _ _ _ _ _ _=>b
 |_=>[]
noncomputable def fO (s:cj):bW:=match s with
 |.FunctionDef _ _ _ _ _ _ sc _ _ _=>sc
 |_=>{ kind:=.function,names:=[],isGenerator:=af,isCoroutine:=af }
abbrev Ec:qo:=λ_ _ _ _ _ _=>False
noncomputable abbrev E0:XK:=λ_ _ _=>False
structure qp (K:PySem.W.Frag) (x qual:Str) (st:cj) (f:aj) (fd:FuncData):zu where
 ex:∃ (oc:ai) (od:Option aj) (kV doc pm:ai) (an:Option aj) (bM ct:ai) (qJ:Array (Option ai)),
  fd=PySem.W.fnOf x qual (jh st) (gY st) (fO st) .none kV doc pm an bM ct /\ K.lookup f=ae #[oc,od,.func fd,qJ] /\ PySem.W.codeIn K bM qual=ah
 kp:PySem.W.keepIn K (.ref f)=ah
theorem qp.ok {qual:Str}{f:aj}{ps:List Str}{k:Nat}{sp:Sp}(F:qp K x qual st f fd) (S:xF N ps (fO st)) (len:∀ vs H Q E,sp vs H Q E->vs.length=ps.length)
 (vQ:∀ (bM:ai) (A:eE) (outer:List Env) (s:aq) (H:Hp) (vs:List V) (Q:VK) (E:XK),di k (A.deeper (envOfC qual (fO st) s.heap.objs.size f bM))->sp vs H Q E ->
  ∃ t,kE (uU Ec P w K mg base N qual (fO st) f bM A outer s H E).xC (gY st) t /\ t { nx:=λ_ H'=>Q .non H',rt:=Q } (start N vs) H):kQ P w K mg base Ec (k+1) f fd ps sp:=by
 let#[oc,od,kV,doc,pm,an,bM,ct,qJ,rfl,lk,pO]:=F.ex;refine Vy lk pO S len λA outer s H vs Q E hr xG=>?_;let#[t,h,q]:=vQ bM A outer s H vs Q E hr xG;show#[t,h.xC,q]
theorem qp.binds {qual:Str}{f:aj}{ps:List Str}(F:qp K x qual st f fd)
 (h:∀ (kV doc pm:ai) (an:Option aj) (bM ct:ai) (us:List ai),us.length=ps.length->bindArgs (PySem.W.fnOf x qual (jh st) (gY st) (fO st) .none kV doc pm an bM ct) #[us,[]]=pure (ps.zip us)):Binds K fd ps []:=by
 let#[oc,od,kV,doc,pm,an,bM,ct,qJ,rfl,lk,pO]:=F.ex;show .all (h kV doc pm an bM ct)
theorem Lr {qual:Str}{f:aj}{oc:ai}{od an:Option aj}{kV doc pm bM ct:ai}(l:K.lookup f=ae #[oc,od,.func (PySem.W.fnOf x qual (jh st) (gY st) (fO st) .none kV doc pm an bM ct),qJ])
 (c:PySem.W.codeIn K bM qual=ah) (k:PySem.W.keepIn K (.ref f)=ah):qp K x qual st f (PySem.W.fnOf x qual (jh st) (gY st) (fO st) .none kV doc pm an bM ct):=#[#[oc,od,kV,doc,pm,an,bM,ct,qJ,rfl,l,c],k]
noncomputable def eI (cells:List (Str×aj)):List (Str×NameKind)->List (Str×aj)->List (Str×aj)
 |[],acc=>acc
 |(n,k)::r,acc=>eI cells r (if k==.free then (match cells.lookup n with|some c=>(n,c)::acc|none=>acc) else acc)
theorem jH {env:Env}:∀ (names:List (Str×NameKind)) (acc:List (Str×aj)),(∀ y∈names,y.2=.free->∃ c,env.cells.lookup y.1=ae c) ->
 (forIn names acc (λ(x:Str×NameKind) (r:List (Str×aj))=>(match x with
  |(name,kind)=>if (kind==NameKind.free)=ah then (do let a <-cellOf env name;pure (ForInStep.yield ((name,a)::r))) else pure (ForInStep.yield r):Sem (ForInStep (List (Str×aj))))))=(pure (eI env.cells names acc):Sem _)
 |[],acc,_=>rfl
 | (n,k)::r,acc,h=>by
   rw[xc];by_cases hk:k=.free
   .subst hk;let#[c,e]:=h (n,.free) bE zc;have e':env.cells.lookup n=ae c:=e;have e1:cellOf env n=pure c:=by unfold cellOf;rw[e']
    dsimp only;rw[if_pos ze,e1];have q:=jH (env:=env) r ((n,c)::acc) λy hy=>h y (bB _ hy);have z:eI env.cells ((n,NameKind.free)::r) acc=eI env.cells r ((n,c)::acc):=by
     change eI env.cells r _=_;rw[if_pos ze,e']
    rw[z,<-q];rfl
   .dsimp only;have hb:(k==NameKind.free)=af:=by simpa using hk
    rw[if_neg (by rw[hb];decide)];have q:=jH (env:=env) r acc λy hy=>h y (bB _ hy);have z:eI env.cells ((n,k)::r) acc=eI env.cells r acc:=by
     change eI env.cells r _=_;rw[if_neg (by rw[hb];decide)]
    rw[z,<-q];rfl
theorem AD {scope:bW}{env:Env}(h:∀ y∈scope.names,y.2=.free->∃ c,env.cells.lookup y.1=ae c):closureFor scope env=pure (eI env.cells scope.names []):=by
 have q:=jH (env:=env) scope.names [] h;unfold closureFor;first
  |show q
  |(dsimp only;rw[show (forIn scope.names ([]:List (Str×aj)) _:Sem _)=_ from q];rfl)
  |(rw[<-q];rfl)
theorem CN {cells:List (Str×aj)}:∀ (names:List (Str×NameKind)) (acc:List (Str×aj)),(∀ x c,acc.lookup x=ae c->cells.lookup x=ae c)->∀ x c,(eI cells names acc).lookup x=ae c->cells.lookup x=ae c
 |[],_,h=>h
 | (n,k)::r,acc,h=>by
   refine CN r _ ?_;intro x c e;by_cases hk:(k==NameKind.free)=ah
   .rw[if_pos hk]at e;cases q:cells.lookup n with
    |none=>rw[q]at e;show h x c e
    |some a=>
      rw[q]at e;have e':((n,a)::acc).lookup x=ae c:=e;rw[kD]at e';cases hx:x==n with
      |true=>rw[hx]at e';rw[eq_of_beq hx,q];show e'
      |false=>rw[hx]at e';show h x c e'
   .rw[if_neg hk]at e;show h x c e
theorem CO {cells:List (Str×aj)}:∀ (names:List (Str×NameKind)) (acc:List (Str×aj)) (x:Str),((∃ c,acc.lookup x=ae c) \/ ((x,NameKind.free)∈names /\ ∃ c,cells.lookup x=ae c))->∃ c,(eI cells names acc).lookup x=ae c
 |[],_,x,h=>h.elim id λz=>nomatch z.1
 | (n,k)::r,acc,x,h=>by
   refine CO r _ x ?_;rcases h with⟨c,e⟩|⟨hm,c,e⟩
   .left;by_cases hk:(k==NameKind.free)=ah
    .rw[if_pos hk];cases q:cells.lookup n with
     |none=>show#[c,e]
     |some a=>
       change ∃ c,((n,a)::acc).lookup x=ae c;rw[kD];cases hx:x==n with
       |true=>show#[a,rfl]
       |false=>show#[c,e]
    .rw[if_neg hk];show#[c,e]
   .rcases bz.mp hm with z|z
    .have z1:x=n:=congrArg Prod.fst z;have z2:NameKind.free=k:=congrArg Prod.snd z;subst z1;subst z2;left;rw[if_pos ze,e];show#[c,by change ((x,c)::acc).lookup x=_;rw[kD,beq_self_eq_true]]
    .show .inr #[z,c,e]
theorem l8 {env:Env}:∀ (names:List (Str×NameKind)) (x:Str) (k':NameKind),
 (names.map λ(n,k)=>if zq then (n,NameKind.cell) else (n,k)).lookup x=ae k' ->
 ∃ k,names.lookup x=ae k /\ (k'=k \/ (k=.free /\ k'=.cell))
 |[],_,_,h=>by simp at h
 | (n,k)::r,x,k',h=>by
   have h':List.lookup x ((if zq=ah then (n,NameKind.cell) else (n,k))::(r.map λ(n,k)=>if zq then (n,NameKind.cell) else (n,k)))=ae k':=h;by_cases hc:zq=ah
   .rw[if_pos hc,kD]at h';rw[kD];cases hx:x==n with
    |true=>
      rw[hx]at h';have hk:k=.free:=by
       cases hq:(k==NameKind.free) with
       |true=>show eq_of_beq hq
       |false=>rw[hq]at hc;simp at hc
      show#[k,rfl,.inr #[hk,(Option.some.inj h').symm]]
    |false=>rw[hx]at h';show l8 r x k' h'
   .rw[if_neg hc,kD]at h';rw[kD];cases hx:x==n with
    |true=>rw[hx]at h';show#[k,rfl,.inl (Option.some.inj h').symm]
    |false=>rw[hx]at h';show l8 r x k' h'
theorem jI {env:Env}:∀ (names:List (Str×NameKind)) (x:Str),names.lookup x=ae .free ->
 (names.map λ(n,k)=>if zq then (n,NameKind.cell) else (n,k)).lookup x=ae .cell \/
 (names.map λ(n,k)=>if zq then (n,NameKind.cell) else (n,k)).lookup x=ae .free
 |[],_,h=>by simp at h
 | (n,k)::r,x,h=>by
   change List.lookup x ((if zq=ah then (n,NameKind.cell) else (n,k))::_)=_ \/ List.lookup x ((if zq=ah then (n,NameKind.cell) else (n,k))::_)=_;rw[kD]at h;by_cases hc:zq=ah
   .rw[if_pos hc,kD];cases hx:x==n with
    |true=>show .inl zc
    |false=>rw[hx]at h;show jI r x h
   .rw[if_neg hc,kD];cases hx:x==n with
    |true=>rw[hx]at h;show .inr h
    |false=>rw[hx]at h;show jI r x h
theorem iu:∀ (names:List (Str×NameKind)) (n:Nat) (acc:List (Str×aj)),cellsFrom n names acc=cellsFrom n names []++acc
 |[],_,_=>rfl
 | (x,k)::r,n,acc=>by
   unfold cellsFrom;split
   .rw[iu r (n+1) ((x,n)::acc),iu r (n+1) [(x,n)],se];rfl
   .show iu r n acc
theorem oC:∀ (names:List (Str×NameKind)) (n:Nat) {x:Str}{c:aj},(x,c)∈cellsFrom n names []->(x,NameKind.cell)∈names
 |[],_,_,_,h=>nomatch h
 | (y,k)::r,n,x,c,h=>by
   unfold cellsFrom at h;split at h
   .ext hk;rw[iu]at h;rcases nT.mp h with h|h
    .show bB _ (oC r _ h)
    .cases kN.mp h;rw[<-eq_of_beq hk];show bE
   .show bB _ (oC r _ h)
theorem AE {α:Type}:∀ {l:List (Str×α)}{x:Str}{a b:α},(l.map (·.1)).Nodup->(x,a)∈l->(x,b)∈l->a=b
 | (y,c)::l,x,a,b,h,ha,hb=>by
   rw[aO,tO]at h;rcases bz.mp ha with e|ha<;>rcases bz.mp hb with e'|hb
   .rw[<-e']at e;show(Prod.mk.inj e).2
   .show absurd (bA.mpr #[_,hb,(Prod.mk.inj e).1]) h.1
   .show absurd (bA.mpr #[_,ha,(Prod.mk.inj e').1]) h.1
   .show AE h.2 ha hb
theorem jJ {α:Type}{x:Str}:∀ {l m:List (Str×α)},(l++m).lookup x=match l.lookup x with|some a=>ae a|none=>m.lookup x
 |[],m=>rfl
 | (y,a)::l,m=>by
   rw[Hq,kD,kD];cases x==y with
   |true=>rfl
   |false=>show jJ
theorem AF {s:aq}{scope:bW}{globals:aj}{cl:List (Str×aj)}{qual:Str}{env:Env}{Q:Env->aq->zu}
 (h:Q { scope:=scope,locals:=s.heap.objs.size,globals:=globals,cells:=cellsFrom zx scope.names cl,qual:=qual,func:=ag,code:=env.code,frame:=env.frame,builtins:=env.builtins }
  { s with heap:=pushCells zai scope.names }) :
 wpAny M A (newFunctionEnv scope globals cl [] qual ag .none (ae env)) Q E s:=by
 unfold newFunctionEnv;refine ak (aaD (ak (wpAny_layCells _ (λname kind cells=>by cases hk:kind==NameKind.cell<;>simp[hk]) _ _ _ _ ?_)));rw[show ({ s with heap:=s.heap.push { cls:=.type (if (ae env).isSome=ah then "dict" else "frame"),data:=.dict #[] } }:aq).heap.objs.size=s.heap.objs.size+1 from tQ ..];show ak (ay (ay h))
noncomputable abbrev Cx.comp (X:Cx) (N:List Str) (scope:bW) (cl:List (Str×aj)) (s:aq) (H:Hp) (C:aj) (fp:List aj):Cx:=
 { X with N:=N,s₀:=s,H₀:=H,env:=compEnvC scope cl C X.env,outer:=X.stack,stack:=X.stack,ex:=fp,fn:=λx=>decide (scope.names.lookup x=ae .cell),pn:=[],xe:=λ_ _=>False }
structure qY (X:Cx) (N:List Str) (src:List (Option Nat)) (scope:bW):zu where
 kind:scope.kind=.function
 nk:(scope.names.map (·.1)).Nodup
 names:∀ y∈scope.names,y.2=.local->scope.names.lookup y.1=ae .local
 has:∀ y∈scope.names,y.2=.free->X.env.kindOf y.1=ae .cell \/ X.env.kindOf y.1=ae .free
 agk:src.length=N.length
 agl:∀ (j i:Nat) (x:Str),src[j]?=ae (ae i)->N[j]?=ae x->X.N[i]?=ae x /\ scope.names.lookup x=ae .free
noncomputable def uX (src:List zaI) (σ:St):St:=src.map λo=>o.bind λi=>(σ[i]?).bind id
def PF (X:Cx) (ifs:List au) (t:TT):zu:=
 ∀ (pins:List (aj×aY)) (s:aq) (σ:St) (H:Hp) (Q:Bool->Hp->zu),Inv X pins σ H s->t σ H Q ->
  wpAny zg X.A (forIn ifs ah λc r=>if r=ah then do let ok <-isTrue c X.env (eval c X.env);pure (ForInStep.yield ok) else pure (ForInStep.yield r)) (TP X pins σ Q) X.xe s
theorem Tg:PF X [] (λ_ H Q=>Q ah H):=λ_ _ _ H _ I h=>wpAny_tests_nil #[H,I,h]
theorem Th {c:au}{t:TT}(h:PT X c t):PF X [c] t:=λpins s σ H Q I hw=>wpAny_tests_one (h pins s σ H Q I hw)
def ac3 (J:It) (g:TG) (tf:TT) (te:TE) (D:aj) (Q:VK) (σ0:St) (H0:Hp):zu:=
 ∃ W:Nat->Nat->St->Hp->zu,(∃ m,W 0 m σ0 H0) /\ ∀ i m σ' H',W i m σ' H' ->
  (J.stop i H' /\ Q (.ref D) H') \/ (J.go i H' /\ ∃ N:St->Hp->zu,(∀ σ2 H2,N σ2 H2->∃ m',m'<m /\ W (i+1) m' σ2 H2) /\ ∀ x H2,J.yW i H' x H2->g x σ' H2 λσ2 H3=>tf σ2 H3 λb H4=>
   if b=ah then te σ2 H4 λy H5=>∃ ys,H5 D=ae (.lst ys) /\ ys.length<sizeLine /\ N σ2 (upd H5 D (.lst (ys++[y]))) else N σ2 H4)
def Iu (src:List zaI) (wi:TI) (g:TG) (tf:TT) (te:TE):TE:=λσ H Q=>wi σ H λJ H1=>∀ D,H1 D=ag->ac3 J g tf te D Q (uX src σ) (upd H1 D (.lst []))
section
variable {s:aq}
noncomputable abbrev xI (P:dg) (w:cn) (A:eE) (env:Env) (R:Result->aq->zu):ai->aq->zu:=
 notedBy (model P w) A env λx z=>R (.error x) z
noncomputable abbrev agm (ifs:List au) (env:Env):Sem Bool:=
 forIn ifs ah λc r=>if r=ah then do let ok <-isTrue c env (eval c env);pure (ForInStep.yield ok) else pure (ForInStep.yield r)
theorem mR {elt:au}{scope:bW}{it acc:ai}{env:Env}
 (J:Nat->aq->zu) (N:ai->Nat->aq->zu)
 (hN:∀ v n z,N v n z->wpAny zh A (letOwnedTupleGo tg it v) (λ_ z1=>
  wpAny zh A (assign tg env v) (λ_ z2=>
  wpAny zh A (agm ifs env) (λb z3=>
   if b=ah then wpAny zh A (eval elt env) (λy z4=>
    wpAny zh A (call (.builtin "list.append") [acc,y])
     (λ_ z5=>∃ k,k<n /\ J k z5) (xI prog w A env R) z4) (xI prog w A env R) z3
   else ∃ k,k<n /\ J k z3)
   (xI prog w A env R) z2) (xI prog w A env R) z1) (xI prog w A env R) z)
 (go:∀ n z,J n z->wpAny zh A (pyNext it)
  (λr z1=>match r with|none=>R (.ok .next) z1|some v=>N v n z1) (xI prog w A env R) z)
 (n:Nat) (h:J n s) :
 codeAny zh A (.compLoop zw 0 it acc env) R s:=by
 refine codeAny_loop zc J (λk z hz=>?_) n h;change wpAny _ A (Sem.onRaise (compTurn _ 0 it acc env) _) _ _ z;refine wpAny_noted ?_;rw[compTurn_list];refine ak (E6 (ak ?_));refine k7 (go k z hz) (λr z1 h1=>?_) λ_ _ q=>q;cases r with
 |none=>show ay h1
 |some v=>
   refine ak (k7 (hN v k z1 h1) (λ_ z2 h2=>ak ?_) λ_ _ q=>q);refine k7 h2 (λ_ z3 h3=>ak ?_) λ_ _ q=>q;refine k7 h3 (λb z4 h4=>?_) λ_ _ q=>q;cases b with
   |false=>show ay #[rfl,h4]
   |true=>
     refine ak (ak (k7 h4 (λy z5 h5=>ak ?_) λ_ _ q=>q));show k7 h5 (λ_ z6 h6=>ay (ay #[rfl,h6])) λ_ _ q=>q
end
theorem qY.cells {N:List Str}{src:List zaI}{scope:bW}(S:qY X N src scope) (ok:X.Ok):∀ y∈scope.names,y.2=.free->∃ c,X.env.cells.lookup y.1=ae c:=
 λy hy hf=>ok.has y.1 (S.has y hy hf)
theorem CP {cells:List (Str×aj)}{x:Str}{c:aj}:∀ (names:List (Str×NameKind)) (acc:List (Str×aj)),(x,c)∉acc->(x,c)∈eI cells names acc->(x,NameKind.free)∈names
 |[],_,h,e=>absurd e h
 | (n,k)::r,acc,h,e=>by
   by_cases hx:x=n /\ k=.free
   .let#[rfl,rfl]:=hx;show bE
   .refine bB _ (CP r _ ?_ e);by_cases hk:(k==NameKind.free)=ah
    .rw[if_pos hk];cases q:cells.lookup n with
     |none=>show h
     |some a=>
       intro z;rcases bz.mp z with z|z
       .show hx #[(Prod.mk.inj z).1,eq_of_beq hk]
       .show h z
    .rw[if_neg hk];show h
theorem CQ {src:List zaI}{scope:bW}{s s':aq} 
 (S:qY X N src scope) (I:Inv X pins σ H s) (X6:∀ b∈fp,nW X pins H b /\ b<s.heap.objs.size) (hh:s'={ s with heap:=pushCells zai scope.names }) :
 Inv (X.comp N scope (cellsFrom zx scope.names (eI X.env.cells scope.names [])) s H s.heap.objs.size fp) [] (uX src σ) H s':=by
 subst hh;have hk:∀ b o,s.heap.get? b=ae o->(pushCells zai scope.names).get? b=ae o:=λb o e=>E7 _ _ b o (aX _ e);have eG:(pushCells zai scope.names).Ns s.heap.objs.size (λ_=>ag):=(Heap.Ns.new s.heap (.type "dict")).keeps (E7 _ _);have ok:=cellsFrom_ok scope.names zai zx [] #[λ_ _ hm=>(nomatch hm),List.Pairwise.nil] (by rw[tQ];show aD _);rw[tQ]at ok;have split:∀ x c,(cellsFrom zx scope.names (eI X.env.cells scope.names [])).lookup x=ae c->(cellsFrom zx scope.names []).lookup x=ae c \/ (eI X.env.cells scope.names []).lookup x=ae c:=λx c e=>by
  rw[iu,jJ]at e;cases q:(cellsFrom zx scope.names []).lookup x with
  |some a=>rw[q]at e;show .inl e
  |none=>rw[q]at e;show .inr e
 have own:∀ x c,(cellsFrom zx scope.names []).lookup x=ae c->s.heap.objs.size<c /\ (pushCells zai scope.names).IsCell c ag:=λx c e=>by
  let#[a,b]:=ok.empty x c (nQ e);show#[b,a]
 have ac4:∀ x,scope.names.lookup x=ae .free->(cellsFrom zx scope.names (eI X.env.cells scope.names [])).lookup x=(eI X.env.cells scope.names []).lookup x:=λx e=>by
  rw[iu,jJ];cases q:(cellsFrom zx scope.names []).lookup x with
  |some a=>show absurd (AE S.nk (nQ e) (oC _ _ (nQ q))) ze
  |none=>rfl
 have low:∀ x c,X.env.cells.lookup x=ae c->c<s.heap.objs.size:=λx c e=>by
  let#[v,o,ho,_]:=I.cell x c e;show bj ho
 have sub:=CN (cells:=X.env.cells) scope.names [] (λx c e=>by simp at e);have agn:∀ x,((relabel scope X.env).names.lookup x=ae .cell \/ (relabel scope X.env).names.lookup x=ae .free)->scope.names.lookup x=ae .free \/ scope.names.lookup x=ae .cell:=λx hx=>by
  have go:∀ k',(k'=NameKind.cell \/ k'=NameKind.free)->(relabel scope X.env).names.lookup x=ae k'->scope.names.lookup x=ae .free \/ scope.names.lookup x=ae .cell:=λk' sL e=>by
   let#[k,e1,q]:=l8 (env:=X.env) scope.names x k' e;rcases q with q|⟨q,_⟩
   .subst q;rcases sL with z|z
    .subst z;show .inr e1
    .subst z;show .inl e1
   .subst q;show .inl e1
  show hx.elim (go _ (.inl zc)) (go _ (.inr zc))
 have ac5:∀ x,scope.names.lookup x=ae .free->∃ c,(eI X.env.cells scope.names []).lookup x=ae c /\ X.env.cells.lookup x=ae c:=λx e=>by
  have hm:=nQ e;let#[c,e1]:=CO (cells:=X.env.cells) scope.names [] x (.inr #[hm,S.cells I.ok (x,.free) hm zc]);show#[c,e1,sub x c e1]
 refine#[#[I.ok.mod,?_,I.ok.glob,I.ok.blt,aD _,λx y c e1 e2=>?_,λx hx=>?_,λx c e=>?_,I.ok.hd,I.ok.frames,.inl zc,λb hb=>?_,I.bs,cC I.ok.vK I.sz,λb o e hb=>?_,λb hb=>?_,I.stack,I.ack],
  rfl,I.bare,Un.kept hk,#[_,eG,λj x v e1 e2 e3=>?_],λx c e=>?_,I.aC.fresh (aD _),λx c e=>?_,λp hp=>absurd (show p∈([]:List (aj×aY)) from hp) zi,I.aC.kept hk,?_]
 .show S.kind
 .rcases split x c e1 with q1|q1<;>rcases split y c e2 with q2|q2
  .show aax ok.apart (nQ q1) (nQ q2)
  .show absurd (Hd (own x c q1).1 (low y c (sub y c q2))) (kC _)
  .show absurd (Hd (own y c q2).1 (low x c (sub x c q1))) (kC _)
  .show I.ok.inj x y c (sub x c q1) (sub y c q2)
 .rcases agn x hx with k|k
  .let#[c,e1,_]:=ac5 x k;show#[c,(ac4 x k).trans e1]
  .let#[c,e1]:=AA (n:=s.heap.objs.size+1) k;refine#[c,?_];change (cellsFrom zx scope.names (eI X.env.cells scope.names [])).lookup x=ae c;rw[iu,jJ,e1]
 .intro hl;rcases split x c hl with q|q
  .show nR (own x c q).1
  .have k:scope.names.lookup x=ae .cell:=of_decide_eq_true e;have m:(x,NameKind.free)∈scope.names:=CP _ _ zi (nQ q);show absurd (AE S.nk (nQ k) m) ze
 .let#[f,hl]:=X6 b hb;refine#[cB hl,λx c e=>?_];rcases split x c e with q|q
  .show vA (Hd hl (own x c q).1)
  .show f.2.2.2.2.1 x c (sub x c q)
 .let#[f,_]:=X6 b hb;let#[_,_,_,f4,_]:=f;rcases f4 with z|z
  .show I.ok.yT b o e z
  .have q:=(I.ok.bs b o e).1;show absurd (hZ (bj q) z) (kC _)
 .let#[f,_]:=X6 b hb;intro hz;rcases bz.mp (I.XB b hz) with e|e
  .show f.2.1 e
  .show f.2.2.1 e
 .have hs:∃ i,src[j]?=ae (ae i) /\ σ[i]?=ae (ae v):=by
   have tZ:(src.map λo=>o.bind λi=>(σ[i]?).bind id)[j]?=ae (ae v):=e2;rw[kK]at tZ;cases q:src[j]? with
   |none=>rw[q]at tZ;cases tZ
   |some o=>
     rw[q]at tZ;cases o with
     |none=>cases tZ
     |some i=>
       refine#[i,rfl,?_];have Iv:(σ[i]?).bind id=ae v:=Option.some.inj tZ;cases z:σ[i]? with
       |none=>rw[z]at Iv;cases Iv
       |some o'=>
         rw[z]at Iv;have:o'=ae v:=Iv;rw[this]
  let#[i,ago,hσ]:=hs;let#[hN,uY]:=S.agl j i x ago e1;have ac6:=S.has (x,.free) (nQ uY) zc;let#[m,_,hl]:=I.loc;let#[u,r,lk]:=hl i x v hN hσ (.inr ac6);refine#[u,r,?_];rcases lk with⟨k,_⟩|⟨_,c,ec,xA⟩
  .rcases ac6 with z|z
   .rw[z]at k;cases k
   .rw[z]at k;cases k
  .let#[c',ua,tZ]:=ac5 x uY;have:c'=c:=by rw[ec]at tZ;show(Option.some.inj tZ).symm
   subst this;refine .inr #[?_,c',(ac4 x uY).trans ua,?_]
   .show jI (env:=X.env) scope.names x uY
   .let#[o,ho,hd]:=xA;show#[o,hk _ _ ho,hd]
 .rcases split x c e with q|q
  .show#[ag,(own x c q).2]
  .let#[v,o,ho,hd]:=I.cell x c (sub x c q);show#[v,o,hk _ _ ho,hd]
 .rcases split x c e with q|q
  .show I.aC.fresh (nR (own x c q).1)
  .show I.qk x c (sub x c q)
 .change (uX src σ).length=N.length;unfold uX;rw[a6];show S.agk
theorem Oc {src:List zaI}{elt:au}{scope:bW}{wi:TI}{g:TG}{tf:TT}{te:TE}
 (hc:X.calm=ah) (S:qY X N src scope) (hi:PI X tg iter wi)
 (hg:∀ cl s H C fp,PG zH tg g) (hf:∀ cl s H C fp,PF zH ifs tf) (he:∀ cl s H C fp,PE zH elt te)
 (hs:∀ x,foldedSetIterable iter X.env x=pure x:=by intro _;rfl):PE X zw (Iu src wi g tf te):=by
 intro pins s σ H Q I h;rw[eval_ListComp];refine aaE (use:=ag) zc hs (AD (S.cells I.ok)) S.kind S.names (cq (hi pins s σ H _ I h) λxv s1 h1=>cq h1 λHX s2 h2=>?_);let#[it,fp,tn,J,H2,e,I2,T,vO,f2,hW]:=h2;subst e;refine eR ?_;generalize hD:s2.heap.objs.size=D;have X7:H2 D=ag:=I2.aC.fresh (wW hD);have I3:Inv X pins σ (upd H2 D (.lst [])) { s2 with heap:=s2.heap.push { cls:=.type "list",dict:=ag,data:=.seq ([]:List ai).toArray } }:=by
  subst hD;show I2.laid (t':=s2.toks) (λb u e=>aX _ e) (aD _) #[eS _,[],0,.nil,bF _ zc]
 let#[W,#[m0,w0],turn]:=hW D X7;have up:∀ b o,s2.heap.get? b=ae o->(s2.heap.push { cls:=.type "list",dict:=ag,data:=.seq ([]:List ai).toArray }).get? b=ae o:=λb u e=>aX _ e;have X8:=T.obj _ _ vO;have uR:tn 0 (s2.heap.push { cls:=.type "list",dict:=ag,data:=.seq ([]:List ai).toArray }):=T.keep _ _ _ vO λb _ o e=>up b o e;have Ed:∀ b∈fp,b<s2.heap.objs.size:=λb hb=>by let#[o,e,_]:=X8 b hb;show bj e
 have f3:∀ b∈fp,nW X pins (upd H2 D (.lst [])) b:=λb hb=>#[by rw[fB (by rw[<-hD];show cB (Ed b hb))];show(f2 b hb).1,(f2 b hb).2];generalize X9:({ s2 with heap:=s2.heap.push { cls:=.type "list",dict:=ag,data:=.seq ([]:List ai).toArray } }:aq)=s3 at I3 ⊢;have Ee:s3.heap=s2.heap.push { cls:=.type "list",dict:=ag,data:=.seq ([]:List ai).toArray }:=by rw[<-X9]
 rw[<-Ee]at uR;have Ya:∀ b∈fp,b<s3.heap.objs.size:=λb hb=>by rw[Ee,tQ];show qL (Ed b hb)
 generalize agp:upd H2 D (.lst [])=H3 at I3 f3 w0;refine AF ?_;generalize Ef:pushCells (s3.heap.push { cls:=.type "dict",data:=.dict #[] }) scope.names=h₁;have k1:∀ b o,s3.heap.get? b=ae o->h₁.get? b=ae o:=λb o e=>by rw[<-Ef];show E7 _ _ b o (aX _ e)
 have IY:=CQ S I3 (λb hb=>#[f3 b hb,Ya b hb]) (s':={ s3 with heap:=h₁ }) (by rw[Ef]);have Eg:tn 0 h₁:=T.keep _ _ _ uR λb _ o e=>k1 b o e;generalize xK:cellsFrom (s3.heap.objs.size+1) scope.names (eI X.env.cells scope.names [])=cl at IY ⊢;generalize hC:s3.heap.objs.size=C at IY ⊢;have vV:∀ {H':Hp},(∀ b∈fp,H' b=ag)->∀ b∈fp,nW zT [] H' b:=λhn b hb=>by
  refine#[hn b hb,?_,?_,.inl hb,?_,λp hp=>absurd (show p∈([]:List (aj×aY)) from hp) zi]
  .show(IY.ok.xw b hb).1
  .show IY.ok.xx b hb
  .intro x c e z;show(IY.ok.xw b hb).2 x c e z
 have fin:∀ (σ':St) (H':Hp) (s':aq),Inv zT [] σ' H' s'->∀ h',Heap.SameBut C s'.heap h'->Inv X pins σ H' { s' with heap:=h' }:=λσ' H' s' I' h' vW=>by
  have vX:H' C=ag:=I'.free;have kp:∀ b o,b≠C->s'.heap.get? b=ae o->h'.get? b=ae o:=λb o hb e=>vW.extBut b o hb e;have Yb:s3.heap.get? C=ag:=by rw[<-hC];show W0 (aD _)
  have qm:∀ b o,s3.heap.get? b=ae o->b≠C:=λb o e z=>by rw[z,Yb]at e;cases e
  have U:=I'.base;refine I3.acv (s':={ s' with heap:=h' }) (ch:=fp) I'.os #[λb o e n hb hx=>kp b o (qm b o e) (U.keep b o e n hb hx),λb o e n hb hx=>?_,U.free,λb o e hx=>?_,U.nV,U.pM,U.qT] ?_ I'.bare λb hb=>?_
  .let#[sl,e1]:=U.slot b o e n hb hx;show#[sl,kp b _ (qm b o e) e1]
  .let#[o',e1]:=U.there b o e hx;show#[o',kp b o' (qm b o e) e1]
  .intro b ob e;refine(I'.aC b ob e).stay (λc w' dH q=>kp c w' (λz=>?_) q) (λ_ q=>q) λ_ _ q=>q;rcases dH with z1|z1
   .rw[<-z1,z,vX]at e;cases e
   .rw[z,vX]at z1;cases z1
  .show#[(f3 b hb).2.2.2.1,(f3 b hb).2.1,λx c e=>(f3 b hb).2.2.2.2.1 x c e,(f3 b hb).2.2.2.2.2]
 have loop:∀ s4:aq,s4={ s3 with heap:=h₁ } ->
  codeAny zg X.A (.compLoop zw 0 zaQ (.ref D) (compEnvC scope cl C X.env)) (compPost zg X.A X.xe ag zaz (.ref D) C) s4:=by
  rintro s4 rfl;refine mR (λn s'=>∃ i σ' H',Inv zT [] σ' H' s' /\ tn i s'.heap /\ (∀ b∈fp,H' b=ag) /\ W i n σ' H') _ (λ_ _ _ q=>q) ?_ m0 #[0,_,H3,IY,Eg,λb hb=>(f3 b hb).1,w0];rintro n s5 ⟨i,σ5,H5,I5,tW,vP,w5⟩;have nK:∀ {α:Type}{t:Sem α}{Q1:α->aq->zu}{E1:ai->aq->zu}{ss:aq},wpAny zg X.A t Q1 (λ_ _=>False) ss->wpAny zg X.A t Q1 E1 ss:=λhw=>k7 hw (λ_ _ q=>q) λ_ _ z=>False.elim z;rcases turn i n σ5 H5 w5 with⟨stop,q5⟩|⟨go,NN,hN,step⟩
  .refine nK (cq (T.done (X.comp N scope cl s3 H3 C fp) zc zc zc hc i [] s5 σ5 H5 (λ_ _=>False) I5 (vV vP) tW stop) ?_);rintro r s6 ⟨hr,I6⟩;subst hr;let#[m6,Yc,_]:=I6.loc;show#[m6,Yc,λh' vW=>#[.ref D,H5,fin σ5 H5 s6 I6 h' vW,rfl,q5]]
  .refine nK (cq (T.item zT zc zc zc hc i [] s5 σ5 H5 (λ_ _=>False) I5 (vV vP) tW go) ?_);rintro r s6 ⟨u,hr,h6⟩;subst hr;refine nK (cq h6 ?_);rintro _ s7 ⟨x,H7,I7,r7,y7,vY,Yd⟩;have Ye:=I7.pinned (vV Yd) (T.obj _ _ vY);refine nK (cq (hg cl s3 H3 C fp _ s7 σ5 H7 x u _ Ye r7 (step x H7 y7)) ?_);rintro _ s8 ⟨σ8,H8,I8,q8⟩;refine nK (tT (hf cl s3 H3 C fp _ s8 σ8 H8 _ I8 q8) λb s9 H9 I9 q9=>?_);have again:∀ {σ9:St}{HA:Hp}{sA:aq},Inv zT ([]++xD fp s7.heap) σ9 HA sA->NN σ9 HA->∃ m,m<n /\ ∃ i σ' H',Inv zT [] σ' H' sA /\ tn i sA.heap /\ (∀ b∈fp,H' b=ag) /\ W i m σ' H':=λ{σ9 HA sA} IA nA=>by
    let#[m',hm,wA]:=hN σ9 HA nA;refine#[m',hm,i+1,σ9,HA,IA.yX,T.keep _ _ _ vY λb hb o e=>(IA.pin (b,o) (kg _ (kg _ (ir hb e)))).1,λb hb=>?_,wA];let#[o,e,d]:=T.obj _ _ vY b hb;show(IA.pin (b,o) (kg _ (kg _ (ir hb e)))).2.1
   cases b with
   |false=>
     rw[if_neg ze]at q9;rw[if_neg ze];show again I9 q9
   |true=>
     rw[if_pos rfl]at q9;rw[if_pos rfl];refine nK (tE (he cl s3 H3 C fp _ s9 σ8 H9 _ I9 q9) λyv sA y HA IA rA hh=>?_);let#[ys,Yf,Yg,nA]:=hh;refine nK (cq (oB _ sA σ8 HA (.ref D) [y] (.ref D) [yv] (λ_ HB=>NN σ8 HB) IA zc (.cons rA .nil) #[D,ys,y,rfl,rfl,Yf,Yg,nA]) λr sB hB=>?_);let#[_,HB,IB,_,nB]:=hB;show again IB nB
 show aaF (loop _ zc) (T.self _ 0 _ _ _ Eg (loop _ zc))
open PySem.W PySem.Builtin PySem.Builtin.ObjectAttr PySem.Builtin.Getset_descriptor
section
variable {x C:aj}
def ac7 (x C:aj) (h:aI):zu:=∃ ox,h.get? x=ae ox /\ ox.cls=.ref C
theorem ac7.type (I:ac7 x C h):Looks M h (typeOf (.ref x)) (.ref C):=by
 let#[ox,e,hc]:=I;show hc▸(Looks.ld e).andThen .now
structure aj7 (K:Frag) (C:aj):zu where
 ga:findIn K (.ref C) "__getattribute__"=ae (ae (.builtin "BaseException.__getattribute__"))
 gt:findIn K (.ref C) "__getattr__"=ae ag
 cl:findIn K (.ref C) "__class__"=ae (ae (.builtin "object.__class__"))
 gs:specialIn K (.builtin "object.__class__") "__get__"=ae (ae (.builtin "getset_descriptor.__get__"))
 tk:takesIn K (.builtin "object.__class__")=ae ah
 mo:mroIn K C (.type "object")=ae ah
 mb:mroIn K C (.type "BaseException")=ae ah
 cd:(clsIn K C).isSome=ah
end
def agq (B:aI) (l:List Env) (ea:aj) (cls a0:ai) (h:aI):zu:=
 Heap.FlyingW B l ea cls a0 h \/ (B.StaysIn h /\ B.get? ea=ag /\ h.FunFrames B l /\
  h.get? ea=ae { cls:=cls,data:=.fields (List.toArray [a0,.none,.none,.none,.bool af,.none]) })
section
variable {s:aq} {B:aI} {env:Env} {outer:List Env} {L ea:aj} {cls a0:ai} {Q:Unit -> aq -> zu}
end
def qr (P:dg) (w:cn):qo:=λouter H s E e s'=>∃ (ea C:aj) (a0:ai) (B:aI) (H':Hp),
 e=.ref ea /\ s'.os=s.os /\ AllBare s'.gens /\ Un (pN outer) [] H H' s.heap s'.heap /\ cJ P w H' s'.heap /\ agq B outer ea (.ref C) a0 s'.heap /\
 (∀ b u o,H' b=ae u->s'.heap.get? b=ae o->B.get? b=ae o) /\ (∀ b o,s.heap.get? b=ae o->b∉pN outer->∃ o',B.get? b=ae o') /\ E (.ref C) ag H'
section
variable {k:Nat} {f C:aj} {ps:List Str} {sp:Sp} {tX:List V} {ds:List ai} {E:XK} {m:Str} {p:aL} {o:au} {ta:TE} {t:TA}
inductive ac8 (K:Frag) (H:Hp):V->ai->zu where
 |of {x:V}{t:ai}(h:nY K H x t):ac8 K H x t
noncomputable def agr:V->ai->zu
 |.ref a,c=>c=.ref a
 |.ty n,c=>c=.type n
 |_,_=>False
def ags (K:Frag):List V->Hp->VK->zu:=λvs H Q=>∃ x c t cv b,vs=[x,c] /\ ac8 K H x t /\ agr c cv /\ kitOne K t cv=ae b /\ Q (.bl b) H
theorem G8:eF X (.builtin "isinstance") (ags X.K):=by
 intro pins s σ H xs us Q I rv h;let#[x,c,t,cv,b,rfl,ty,hc,e,q]:=h;cases rv with
 |cons r1 r2=>
   cases r2 with
   |cons r3 r4=>
     cases r4;ext u1 u2;have ec:u2=cv:=by
      cases c with
      |ref a=>show(show u2=.ref a from r3).trans (show cv=.ref a from hc).symm
      |ty n=>show(show u2=.type n from r3).trans (show cv=.type n from hc).symm
      |_=>show hc.elim
     subst ec;cases ty with
     |of ty=>show G1 I r1 ty e λtk=>#[.bl b,H,I.tok tk,rfl,q]
end
end L2
namespace L2.DL
inductive D where
 |non|bl (b:Bool)|int (i:Int)|str (x:Str)|tup (l:List D)|lst (l:List D)|aA (l:List (Key×D))
inductive W where
 |d (x:D)|b (n:Nat)|s (l:List Int)|x (i:Nat)|t (l:List Nat)|m (l:List (Str×Nat))
inductive Bx where
 |lst (l:List D)|aA (l:List (Key×D))|dead|dT (l:List zaJ)|fD (l:List (Key×D))
mutual
noncomputable def Den (F:Hp):D->V->zu
 |.non,v=>v=.non
 |.bl b,v=>v=.bl b
 |.int i,v=>v=.int i
 |.str x,v=>v=.str x
 |.tup l,v=>∃ a vs,v=.ref a /\ F a=ae (.tup vs) /\ aE F l vs
 |.lst l,v=>∃ a vs,v=.ref a /\ F a=ae (.lst vs) /\ aE F l vs
 |.aA l,v=>∃ a ao,v=.ref a /\ F a=ae zag /\ aR F l ao
noncomputable def aE (F:Hp):List D->List V->zu
 |[],vs=>vs=[]
 |d::l,vs=>∃ v r,vs=v::r /\ Den F d v /\ aE F l r
noncomputable def aR (F:Hp):List (Key×D)->List (Key×V)->zu
 |[],r=>r=[]
 |(k,d)::l,r=>∃ v r',r=(k,v)::r' /\ Den F d v /\ aR F l r'
end
def Sub (F F':Hp):zu:=∀ a u,F a=ae u->F' a=ae u
theorem Sub.refl (F:Hp):Sub F F:=λ_ _ h=>h
theorem Sub.trans {G:Hp}(a:Sub F G) (b:Sub G H):Sub F H:=λx u h=>b x u (a x u h)
def xM (F F':Hp):zu:=∀ a u,(∀ o v,u≠.bI o v)->F a=ae u->F' a=ae u
theorem Sub.d (s:Sub F F'):xM F F':=λa u _ h=>s a u h
mutual
theorem Den.dY {F F':Hp}(s:xM F F'):∀ (d:D) {v:V},Den F d v->Den F' d v
 |.non,_,h=>h
 |.bl _,_,h=>h
 |.int _,_,h=>h
 |.str _,_,h=>h
 | .tup l,_,h=>by
   let#[a,vs,e,h1,h2]:=h;show#[a,vs,e,s _ _ (λ_ _ z=>nomatch z) h1,aE.dY s l h2]
 | .lst l,_,h=>by
   let#[a,vs,e,h1,h2]:=h;show#[a,vs,e,s _ _ (λ_ _ z=>nomatch z) h1,aE.dY s l h2]
 | .aA l,_,h=>by
   let#[a,vs,e,h1,h2]:=h;show#[a,vs,e,s _ _ (λ_ _ z=>nomatch z) h1,aR.dY s l h2]
theorem aE.dY {F F':Hp}(s:xM F F'):∀ (l:List D) {vs:List V},aE F l vs->aE F' l vs
 |[],_,h=>h
 | d::l,_,h=>by
   let#[v,r,e,h1,h2]:=h;show#[v,r,e,Den.dY s d h1,aE.dY s l h2]
theorem aR.dY {F F':Hp}(s:xM F F'):∀ (l:List (Key×D)) {vs:List (Key×V)},aR F l vs->aR F' l vs
 |[],_,h=>h
 | (k,d)::l,_,h=>by
   let#[v,r,e,h1,h2]:=h;show#[v,r,e,Den.dY s d h1,aR.dY s l h2]
end
theorem Den.mono (s:Sub F F') (d:D) (h:Den F d v):Den F' d v:=Den.dY s.d d h
theorem aE.mono (s:Sub F F') (l:List D) {vs:List V}(h:aE F l vs):aE F' l vs:=aE.dY s.d l h
theorem aR.mono (s:Sub F F') (l:List (Key×D)) {vs:List (Key×V)}(h:aR F l vs):aR F' l vs:=aR.dY s.d l h
theorem aE.length {F:Hp}:∀ {l:List D}{vs:List V},aE F l vs->l.length=vs.length
 | [],_,h=>by
   have e:_=[]:=h;rw[e];rfl
 | d::l,_,h=>by
   let#[v,r,e,_,h2]:=h;rw[e,bw,bw,h2.length]
theorem aE.get {F:Hp}:∀ {l:List D}{vs:List V}{i:Nat}{d:D},aE F l vs->l[i]?=ae d->∃ v,vs[i]?=ae v /\ Den F d v
 |[],_,_,_,_,e=>by simp at e
 | x::l,_,0,d,h,e=>by
   let#[v,r,q,h1,_]:=h;simp at e;subst e;subst q;show#[v,rfl,h1]
 | x::l,_,i+1,d,h,e=>by
   let#[v,r,q,_,h2]:=h;subst q;let#[u,e1,e2]:=aE.get (i:=i) h2 (by simpa using e);show#[u,by simpa using e1,e2]
theorem aE.nil:aE F [] []:=rfl
theorem aE.cons {F:Hp}{d:D}{v:V}{l:List D}{vs:List V}(h:Den F d v) (t:aE F l vs):aE F (d::l) (v::vs):=#[v,vs,rfl,h,t]
theorem aE.append {F:Hp}:∀ {l l':List D}{vs Eh:List V},aE F l vs->aE F l' Eh->aE F (l++l') (vs++Eh)
 | [],_,_,_,h,t=>by
   have e:_=[]:=h;rw[e];show t
 | d::l,_,_,_,h,t=>by
   let#[v,r,q,h1,h2]:=h;subst q;show .cons h1 (h2.append t)
theorem aE.take {F:Hp}:∀ {l:List D}{vs:List V}(n:Nat),aE F l vs->aE F (l.take n) (vs.take n)
 |l,_,0,_=>by rw[aa9,aa9];rfl
 | [],_,n+1,h=>by
   have e:_=[]:=h;rw[e];show rfl
 | d::l,_,n+1,h=>by
   let#[v,r,q,h1,h2]:=h;subst q;show .cons h1 (h2.take n)
theorem aE.drop {F:Hp}:∀ {l:List D}{vs:List V}(n:Nat),aE F l vs->aE F (l.drop n) (vs.drop n)
 |l,_,0,h=>h
 | [],_,n+1,h=>by
   have e:_=[]:=h;rw[e];show rfl
 | d::l,_,n+1,h=>by
   let#[v,r,q,h1,h2]:=h;subst q;show h2.drop n
theorem aE.reverse {F:Hp}:∀ {l:List D}{vs:List V},aE F l vs->aE F l.reverse vs.reverse
 | [],_,h=>by
   have e:_=[]:=h;rw[e];show rfl
 | d::l,_,h=>by
   let#[v,r,q,h1,h2]:=h;subst q;rw[Hl,Hl];show h2.reverse.append (.cons h1 .nil)
theorem aE.set {F:Hp}{d:D}{v:V}(hd:Den F d v):∀ {l:List D}{vs:List V}(i:Nat),aE F l vs->aE F (l.set i d) (vs.set i v)
 | [],_,_,h=>by
   have e:_=[]:=h;rw[e];show rfl
 | _::l,_,0,h=>by
   let#[v',r,q,h1,h2]:=h;subst q;show .cons hd h2
 | _::l,_,i+1,h=>by
   let#[v',r,q,h1,h2]:=h;subst q;show .cons h1 (aE.set hd i h2)
theorem aE.eraseIdx {F:Hp}:∀ {l:List D}{vs:List V}(i:Nat),aE F l vs->aE F (l.eraseIdx i) (vs.eraseIdx i)
 | [],_,_,h=>by
   have e:_=[]:=h;rw[e];show rfl
 | _::l,_,0,h=>by
   let#[v',r,q,h1,h2]:=h;subst q;show h2
 | _::l,_,i+1,h=>by
   let#[v',r,q,h1,h2]:=h;subst q;show .cons h1 (h2.eraseIdx i)
structure Fr where
 H₀:Hp
 n₀:Nat
 F₀:Hp
noncomputable def uZ (r:List aj):List Nat->List aj->zu
 |[],as=>as=[]
 |n::l,as=>∃ a t,as=a::t /\ r[n]?=ae a /\ uZ r l t
theorem uZ.mono {r r':List aj}(p:r <+: r'):∀ {l:List Nat}{as:List aj},uZ r l as->uZ r' l as
 |[],_,h=>h
 | n::l,_,h=>by
   let#[a,t,e,h1,h2]:=h;refine#[a,t,e,?_,h2.mono p];let#[u,rfl]:=p;rw[eD (List.getElem?_eq_some_iff.mp h1).1];show h1
def bR (F:Hp):List zaJ->List (List Key×V)->zu
 |[],r=>r=[]
 |(k,d)::l,r=>∃ v r',r=(k,v)::r' /\ Den F d v /\ bR F l r'
theorem bR.dY {F F':Hp}(s:xM F F'):∀ (l:List zaJ) {vs:List (List Key×V)},bR F l vs->bR F' l vs
 |[],_,h=>h
 | (k,d)::l,_,h=>by
   let#[v,r,e,h1,h2]:=h;show#[v,r,e,Den.dY s d h1,bR.dY s l h2]
theorem bR.mono (s:Sub F F') (l:List zaJ) {vs:List (List Key×V)}(h:bR F l vs):bR F' l vs:=bR.dY s.d l h
def bN (F:Hp) (Yh:List aj):W->V->zu
 |.d x,v=>Den F x v
 |.b n,v=>∃ a,v=.ref a /\ Yh[n]?=ae a
 |.s l,v=>∃ a o,v=.ref a /\ F a=ae (.bI o (.lst (l.map V.int)))
 |.x _,_=>False
 |.t l,v=>∃ c as,v=.ref c /\ F c=ae (.tup (as.map V.ref)) /\ uZ Yh l as
 |.m l,v=>∃ c as,v=.ref c /\ F c=ae (.dK (List.zipWith (λk a=>(.inr k.1,V.ref a)) l as)) /\ uZ Yh (l.map (·.2)) as
theorem bN.mono {F F':Hp}{r r':List aj}(s:Sub F F') (p:r <+: r'):∀ (w:W) {v:V},bN F r w v->bN F' r' w v
 |.d x,_,h=>Den.mono s x h
 | .b n,_,h=>by
   let#[a,e,h]:=h;refine#[a,e,?_];let#[t,rfl]:=p;rw[eD (List.getElem?_eq_some_iff.mp h).1];show h
 |.s l,_,h=>let ⟨a,o,e,h⟩:=h;#[a,o,e,s _ _ h]
 |.x _,_,h=>h
 |.t l,_,h=>let ⟨c,as,e,h1,h2⟩:=h;#[c,as,e,s _ _ h1,h2.mono p]
 |.m l,_,h=>let ⟨c,as,e,h1,h2⟩:=h;#[c,as,e,s _ _ h1,h2.mono p]
def sM (F H:Hp) (a:aj):Bx->zu
 |.lst l=>F a=ag /\ ∃ vs,H a=ae (.lst vs) /\ aE F l vs
 |.aA l=>F a=ag /\ ∃ ao,H a=ae zag /\ aR F l ao
 |.dead=>∃ u,H a=ae u
 |.dT l=>F a=ag /\ ∃ ao,H a=ae (.dT ao) /\ bR F l ao
 |.fD l=>∃ o ao,F a=ae (.bI o zag) /\ H a=ae (.bI o zag) /\ aR F l ao
noncomputable abbrev aP:=List (Option W)
noncomputable abbrev xB (n:Nat):Option W:=ae (.b n)
noncomputable abbrev xN (i:Int):Option W:=ae (.d (.int i))
noncomputable abbrev xJ (l:List Int):Option W:=ae (.d (.lst (l.map D.int)))
structure Rel (T:Fr) (F:Hp) (r:List aj) (σ:St) (H:Hp) (env:aP) (bx:List Bx):zu where
 fh:Sub F H
 slot:∀ (i:Nat) (w:W),env[i]?=ae (ae w)->∃ v,σ[i]?=ae (ae v) /\ bN F r w v
 len:r.length=bx.length
 nd:r.Nodup
 box:∀ (n:Nat) (c:Bx) (a:aj),bx[n]?=ae c->r[n]?=ae a->sM F H a c
 keep:∀ a u,T.H₀ a=ae u->a∉r->H a=ae u
 new:∀ (n:Nat) (a:aj),T.n₀<=n->r[n]?=ae a->T.H₀ a=ag
 n0:T.n₀<=r.length
 sl:env.length<=σ.length
 fs:∀ a u,F a=ae u->(∃ vs,u=.tup vs) \/ T.F₀ a=ae u \/ T.H₀ a=ag \/ a∈r
structure bf (F:Hp) (r:List aj) (F':Hp) (r':List aj):zu where
 s:Sub F F'
 p:r <+: r'
theorem bf.refl (F:Hp) (r:List aj):bf F r F r:=#[Sub.refl F,pI r]
theorem bf.trans {F F' ac9:Hp}{r r' ada:List aj}(a:bf F r F' r') (b:bf F' r' ac9 ada):bf F r ac9 ada:=#[a.s.trans b.s,a.p.trans b.p]
theorem bf.den {r':List aj}(g:bf F r F' r') {w:W}(h:bN F r w v):bN F' r' w v:=h.mono g.s g.p w
inductive O (α:Type) where
 |val (a:α) (bx:List Bx)|exc (c:Nat) (bx:List Bx)|bad
abbrev DE (α:Type):=aP->List Bx->O α
noncomputable def fA {β:Type}(m:O α) (k:α->List Bx->O β):O β:=
 match m with
 |.val a bx=>k a bx
 |.exc c bx=>.exc c bx
 |.bad=>.bad
structure Xs where
 E:XK
 cl:Nat->aj
noncomputable def End {β:Type}(T:Fr) (Z:Xs) (Rl:Hp->List aj->α->β->zu) (F:Hp) (r:List aj) (σ:St) (env:aP) (Q:β->Hp->zu):O α->zu
 |.val d bx'=>∀ F' r' v H',bf F r F' r'->Rel T F' r' σ H' env bx'->Rl F' r' d v->Q v H'
 |.exc c bx'=>∀ F' r' H',bf F r F' r'->Rel T F' r' [] H' [] bx'->Z.E (.ref (Z.cl c)) ag H'
 |.bad=>False
theorem End.weak {β:Type}{T:Fr}{Z:Xs}{Rl:Hp->List aj->α->β->zu}{r':List aj}{env:aP}{Q:β->Hp->zu}(g:bf F r F' r'):∀ {o:O α},End T Z Rl F r σ env Q o->End T Z Rl F' r' σ env Q o
 |.val _ _,h=>λF2 r2 v H2 g2=>h F2 r2 v H2 (g.trans g2)
 |.exc _ _,h=>λF2 r2 H2 g2=>h F2 r2 H2 (g.trans g2)
 |.bad,h=>h
theorem End.bind {β α' β':Type}{T:Fr}{Z:Xs}{R1:Hp->List aj->α->β->zu}{R2:Hp->List aj->α'->β'->zu}{env:aP}{Q:β'->Hp->zu}{Q1:β->Hp->zu}
 {m:O α}{k:α->List Bx->O α'}(h:End T Z R2 F r σ env Q (fA m k))
 (c:∀ d bx1 F1 r1 v H1,bf F r F1 r1->Rel T F1 r1 σ H1 env bx1->R1 F1 r1 d v->End T Z R2 F1 r1 σ env Q (k d bx1)->Q1 v H1):End T Z R1 F r σ env Q1 m:=by
 cases m with
 |val d bx=>show λF' r' v H' g R q=>c d bx F' r' v H' g R q (End.weak g h)
 |exc n bx=>show h
 |bad=>show h
theorem Rel.drop {T:Fr}{env:aP}{bx:List Bx}(R:Rel T F r σ H env bx):Rel T F r [] H [] bx:=
 #[R.fh,λi w e=>by simp at e,R.len,R.nd,R.box,R.keep,R.new,R.n0,aD _,R.fs]
def tD (T:Fr) (Z:Xs) (m:DE W):TE:=λσ H Q=>∃ F r env bx,Rel T F r σ H env bx /\ End T Z bN F r σ env Q zC
def PD (X:Cx) (T:Fr) (Z:Xs) (e:au) (m:DE W):zu:=PE X e (tD T Z m)
abbrev agt:Hp->List aj->Bool->Bool->zu:=λ_ _ a b=>a=b
def sN (T:Fr) (Z:Xs) (m:DE Bool):TT:=λσ H Q=>∃ F r env bx,Rel T F r σ H env bx /\ End T Z agt F r σ env Q zC
def eJ (X:Cx) (T:Fr) (Z:Xs) (e:au) (m:DE Bool):zu:=PT X e (sN T Z m)
def kR (F:Hp) (r:List aj):List W->List V->zu
 |[],vs=>vs=[]
 |w::l,vs=>∃ v t,vs=v::t /\ bN F r w v /\ kR F r l t
theorem kR.mono {F F':Hp}{r r':List aj}(g:bf F r F' r'):∀ {l:List W}{vs:List V},kR F r l vs->kR F' r' l vs
 |[],_,h=>h
 | w::l,_,h=>by
   let#[v,t,e,h1,h2]:=h;show#[v,t,e,g.den h1,h2.mono g]
def Iw (T:Fr) (Z:Xs) (m:DE zam):TA:=λσ H Q=>∃ F r env bx,Rel T F r σ H env bx /\ End T Z kR F r σ env Q zC
def dJ (X:Cx) (T:Fr) (Z:Xs) (es:List au) (m:DE zam):zu:=PA X es (Iw T Z m)
theorem x4 {T:Fr}{B:Hp->List aj->aP->List Bx->zu}{G:zu}(k:∀ F r env bx,Rel T F r σ H env bx->B F r env bx->G):(∃ F r env bx,Rel T F r σ H env bx /\ B F r env bx)->G:=λ⟨F,r,env,bx,R,h⟩=>k F r env bx R h
theorem x5 {δ:Type}{T:Fr}{C:Hp->List aj->δ->zu}{B:Hp->List aj->aP->List Bx->δ->zu}{G:zu}(k:∀ F r env bx w,Rel T F r σ H env bx->C F r w->B F r env bx w->G):(∃ F r env bx w,Rel T F r σ H env bx /\ C F r w /\ B F r env bx w)->G:=λ⟨F,r,env,bx,w,R,d,h⟩=>k F r env bx w R d h
theorem PE.imp {t t':TE}(h:PE X e t) (f:∀ σ H Q,t' σ H Q->t σ H Q):PE X e t':=λpins s σ H Q I q=>h pins s σ H Q I (f σ H Q q)
theorem PT.imp {t t':TT}(h:PT X e t) (f:∀ σ H Q,t' σ H Q->t σ H Q):PT X e t':=λpins s σ H Q I q=>h pins s σ H Q I (f σ H Q q)
theorem PW.imp {t t':TT}(h:PW X e t) (f:∀ σ H Q,t' σ H Q->t σ H Q):PW X e t':=λwhole pins s σ H Q I q=>h whole pins s σ H Q I (f σ H Q q)
theorem PA.imp {e:List au}{t t':TA}(h:PA X e t) (f:∀ σ H Q,t' σ H Q->t σ H Q):PA X e t':=λpos pins s σ H Q I q=>h pos pins s σ H Q I (f σ H Q q)
theorem PS.imp {e:cj}{t t':TS}(h:PS X e t) (f:∀ Q σ H,t' Q σ H->t Q σ H):PS X e t':=λpins s σ H Q I q=>h pins s σ H Q I (f Q σ H q)
theorem kE.imp {e:List cj}{t t':TS}(h:kE X e t) (f:∀ Q σ H,t' Q σ H->t Q σ H):kE X e t':=λpins s σ H Q I q=>h pins s σ H Q I (f Q σ H q)
section
variable {T:Fr} {Z:Xs} {a b c:au} {ma mb mc:DE W} 
noncomputable def dV (i:Nat):DE W:=λenv bx=>match env[i]? with|some (ae w)=>.val w bx|_=>.bad
theorem Ls (i:Nat) (hN:X.N[i]?=ae x:=by rfl) (hv:vJ X.env.scope x:=by first|show Or.inl zc|show Or.inr (Or.inl zc)|show Or.inr (Or.inr zc)) (hd:(x==("__debug__":Str))=af:=by decide)
 (pO:(x==("__classdict__":Str))=af:=by decide):PD X T Z (.Name x pos) (dV i):=by
 refine PE.imp (J1 hN hv hd pO) λσ H Q=>x4 λF r env bx R h=>?_;unfold dV at h;split at h
 .ext w e;let#[v,e1,e2]:=R.slot i w e;show#[v,e1,h F r v H (.refl F r) R e2]
 .show h.elim
noncomputable def dC (d:D):DE W:=λ_ bx=>.val (.d d) bx
theorem CS {d:D}(h:PE X e (tC v)) (hd:∀ F,Den F d v):PD X T Z e (dC d):=
 PE.imp h λσ H Q=>x4 λF r env bx R h=>h F r v H (.refl F r) R (hd F)
theorem Ti {i:Int}{j}:PD X T Z (.Constant (.int i) j pos) (dC (.int i)):=CS J2 λ_=>rfl
theorem Vz {i:Bool}{j}:PD X T Z (.Constant (.bool i) j pos) (dC (.bl i)):=CS Vo λ_=>rfl
theorem Tj {j}:PD X T Z (.Constant .none j pos) (dC .non):=CS SI λ_=>rfl
theorem Tk {j}:PD X T Z (.Constant (.str x) j pos) (dC (.str x)):=CS Aw λ_=>rfl
noncomputable def fg:DE zam:=λ_ bx=>.val [] bx
def fc (m:DE W) (k:DE zam):DE zam:=λenv bx=>fA zC λw bx1=>fA (k env bx1) λl bx2=>.val (w::l) bx2
theorem lQ:dJ X T Z [] fg:=PA.imp lh λσ H Q=>x4 λF r env bx R h=>h F r [] H (.refl F r) R zc
theorem Lu {k:DE zam}(ha:PD X T Z e ma) (hr:dJ X T Z es k) (hs:starEach (e::es) X.env=zaS::starEach es X.env:=by rfl):dJ X T Z (e::es) (fc ma k):=by
 refine PA.imp (jg ha hr hs) λσ H Q=>x4 λF r env bx R h=>?_;refine#[F,r,env,bx,R,End.bind h λw bx1 F1 r1 v H1 g1 R1 d1 h1=>?_];refine#[F1,r1,env,bx1,R1,End.bind h1 λl bx2 F2 r2 vs H2 g2 R2 d2 h2=>?_];show h2 F2 r2 _ H2 (.refl F2 r2) R2 #[v,vs,rfl,g2.den d1,d2]
end
end L2.DL
variable {te m mb ma:L2.DL.DE L2.DL.W}{ks rs:List L2.DL.D}{T:L2.DL.Fr}{env:L2.DL.aP}{tf:L2.DL.DE Bool}{B bx bx1:List L2.DL.Bx}{Z:L2.DL.Xs}{fn:List L2.DL.W -> List L2.DL.Bx -> L2.DL.O L2.DL.W}{mi:L2.DL.DE (List L2.DL.W)}{hd:L2.DL.D}{dr:List (List L2.Key × L2.DL.D)}
namespace L2.DL
theorem iB {o:HO}(h:F p=ag):Sub F (upd F p o):=λa u e=>by rw[fB (f7 e h)];show e
theorem Rel.qZ (R:Rel T F r σ H env bx) (h:H p=ag):F p=ag:=by
 cases e:F p with
 |none=>rfl
 |some u=>rw[R.fh p u e]at h;cases h
theorem sM.there:∀ {c:Bx},sM F H a c->∃ u,H a=ae u
 |.lst _,h=>let ⟨_,vs,e,_⟩:=h;#[_,e]
 |.aA _,h=>let ⟨_,vs,e,_⟩:=h;#[_,e]
 |.dead,h=>h
 |.dT _,h=>let ⟨_,vs,e,_⟩:=h;#[_,e]
 |.fD _,h=>let ⟨_,_,_,e,_⟩:=h;#[_,e]
theorem Rel.eU (R:Rel T F r σ H env bx) (e:r[n]?=ae a):∃ c,bx[n]?=ae c /\ sM F H a c:=by
 have h:=(List.getElem?_eq_some_iff.mp e).1;rw[R.len]at h;show#[_,dq h,R.box n _ a (dq h) e]
theorem Rel.xO (R:Rel T F r σ H env bx) (h:H p=ag):p∉r:=λhp=>by
 let#[n,e]:=List.mem_iff_getElem?.mp hp;let#[c,_,k]:=R.eU e;let#[u,k]:=k.there;rw[h]at k;cases k
theorem sM.grow (s:Sub F F') (hf:F a=ag->F' a=ag) (hh:∀ u,H a=ae u->H' a=ae u):∀ {c:Bx},sM F H a c->sM F' H' a c
 |.lst _,h=>let ⟨h1,vs,h2,h3⟩:=h;#[hf h1,vs,hh _ h2,aE.mono s _ h3]
 |.aA _,h=>let ⟨h1,vs,h2,h3⟩:=h;#[hf h1,vs,hh _ h2,aR.mono s _ h3]
 |.dead,h=>let ⟨u,h⟩:=h;#[u,hh u h]
 |.dT _,h=>let ⟨h1,vs,h2,h3⟩:=h;#[hf h1,vs,hh _ h2,bR.mono s _ h3]
 |.fD _,h=>let ⟨o,vs,h1,h2,h3⟩:=h;#[o,vs,s _ _ h1,hh _ h2,aR.mono s _ h3]
theorem Rel.Ei (R:Rel T F r σ H env bx) {o:HO}(h:H p=ag):Rel T (upd F p o) r σ (upd H p o) env bx:=by
 have hf:=R.qZ h;have s:=iB (o:=o) hf;refine#[λa u e=>?_,λi w e=>?_,R.len,R.nd,λn c a e1 e2=>?_,λa u e hn=>?_,R.new,R.n0,R.sl,λa u e=>?_]
 .by_cases ha:a=p
  .subst ha;rw[fw]at e ⊢;show e
  .rw[fB ha]at e ⊢;show R.fh a u e
 .let#[v,e1,e2]:=R.slot i w e;show#[v,e1,e2.mono s (pI r)]
 .have k:=R.box n c a e1 e2;let#[u,hu]:=k.there;have ha:a≠p:=f7 hu h;show k.grow s (λz=>by rw[fB ha];show z) (λu z=>by rw[fB ha];show z)
 .have k:=R.keep a u e hn;rw[fB (f7 k h)];show k
 .by_cases ha:a=p
  .subst ha;refine .inr (.inr (.inl ?_));cases q:T.H₀ a with
   |none=>rfl
   |some u=>rw[R.keep a u q (R.xO h)]at h;cases h
  .rw[fB ha]at e;show R.fs a u e
theorem Rel.u4 (R:Rel T F r σ H env bx) {o:HO}(h:H p=ag):bf F r (upd F p o) r:=#[iB (R.qZ h),pI r]
theorem Rel.Iy (R:Rel T F r σ H env bx) {o:HO}{c:Bx}(h:H p=ag) (hc:sM F (upd H p o) p c):Rel T F (r++[p]) σ (upd H p o) env (bx++[c]):=by
 have hs:∀ a u,H a=ae u->upd H p o a=ae u:=λa u e=>by rw[fB (f7 e h)];show e
 refine#[λa u e=>hs a u (R.fh a u e),λi w e=>?_,by rw[cZ,cZ,R.len];rfl,?_,λn c' a e1 e2=>?_,λa u e hn=>?_,λn a hn e=>?_,by rw[cZ];show cC R.n0 (wX _ _),R.sl,λa u e=>(R.fs a u e).imp id (Or.imp id (Or.imp id λz=>qM _ z))]
 .let#[v,e1,e2]:=R.slot i w e;show#[v,e1,e2.mono (Sub.refl F) (xf r [p])]
 .rw[vG];refine#[R.nd,by simp,λa ha b hb=>?_];rw[kN]at hb;subst hb;show λz=>R.xO h (z▸ha)
 .by_cases hn:n<r.length
  .rw[eD hn]at e2;rw[eD (by rw[<-R.len];show hn)]at e1;show(R.box n c' a e1 e2).grow (Sub.refl F) id (hs a)
  .rw[dU zd]at e2;rw[dU (by rw[<-R.len];lia)]at e1;have hl:n-r.length=0:=by
    cases q:n-r.length with
    |zero=>rfl
    |succ k=>rw[q]at e2;simp at e2
   have eV:n-bx.length=0:=by rw[<-R.len];show hl
   rw[hl]at e2;rw[eV]at e1;simp at e1 e2;subst e1 e2;show hc
 .show hs a u (R.keep a u e λz=>hn (qM _ z))
 .by_cases hl:n<r.length
  .rw[eD hl]at e;show R.new n a hn e
  .have hp:a=p:=by
    rw[dU zd]at e;cases q:n-r.length with
    |zero=>rw[q]at e;simp at e;show e.symm
    |succ k=>rw[q]at e;simp at e
   subst hp;cases q:T.H₀ a with
   |none=>rfl
   |some u=>rw[R.keep a u q (R.xO h)]at h;cases h
theorem lm {l:List α}(h:l.Nodup) {i:Nat}{x:α}(a:l[i]?=ae x) (b:l[j]?=ae x):i=j:=by
 have h1:=(List.getElem?_eq_some_iff.mp a).1;have h2:=(List.getElem?_eq_some_iff.mp b).1;show(List.getElem?_inj h1 h).mp (a.trans b.symm)
theorem Rel.write (R:Rel T F r σ H env bx) {o:HO}{c:Bx}(e:r[n]?=ae a) (hF:F a=ag) (hc:sM F (upd H a o) a c):Rel T F r σ (upd H a o) env (bx.set n c):=by
 have ha:a∈r:=List.mem_iff_getElem?.mpr #[n,e];refine#[λb u q=>?_,R.slot,by rw[qh];show R.len,R.nd,λm c' b e1 e2=>?_,λb u q hn=>?_,R.new,R.n0,R.sl,R.fs]
 .by_cases hb:b=a
  .subst hb;rw[hF]at q;cases q
  .rw[fB hb];show R.fh b u q
 .by_cases hm:m=n
  .subst hm;rw[e]at e2;cases e2;rw[qf (by rw[<-R.len];show(List.getElem?_eq_some_iff.mp e).1)]at e1;cases e1;show hc
  .rw[tJ (Ne.symm hm)]at e1;have hb:b≠a:=λz=>hm (lm R.nd e2 (z▸e));show(R.box m c' b e1 e2).grow (Sub.refl F) id λu z=>by rw[fB hb];show z
 .rw[fB (λz=>hn (by rw[z];show ha))];show R.keep b u q hn
theorem Rel.freeze (R:Rel T F r σ H env bx) {o:HO}(e:r[n]?=ae a) (hF:F a=ag) (hH:H a=ae o):Rel T (upd F a o) r σ H env (bx.set n .dead) /\ bf F r (upd F a o) r:=by
 have s:=iB (o:=o) hF;refine#[#[λb u q=>?_,λi w q=>?_,by rw[qh];show R.len,R.nd,λm c' b e1 e2=>?_,R.keep,R.new,R.n0,R.sl,λb u q=>?_],s,pI r]
 .by_cases hb:b=a
  .subst hb;rw[fw]at q;cases q;show hH
  .rw[fB hb]at q;show R.fh b u q
 .let#[v,e1,e2]:=R.slot i w q;show#[v,e1,e2.mono s (pI r)]
 .by_cases hm:m=n
  .subst hm;rw[e]at e2;cases e2;rw[qf (by rw[<-R.len];show(List.getElem?_eq_some_iff.mp e).1)]at e1;cases e1;show#[_,hH]
  .rw[tJ (Ne.symm hm)]at e1;have hb:b≠a:=λz=>hm (lm R.nd e2 (z▸e));show(R.box m c' b e1 e2).grow s (λz=>by rw[fB hb];show z) λu z=>z
 .by_cases hb:b=a
  .subst hb;show .inr (.inr (.inr (List.mem_iff_getElem?.mpr #[n,e])))
  .rw[fB hb]at q;show R.fs b u q
def nZ (F H:Hp):D->V->zu
 |.lst l,v=>∃ a vs,v=.ref a /\ H a=ae (.lst vs) /\ aE F l vs
 |.aA l,v=>∃ a ao,v=.ref a /\ H a=ae zag /\ aR F l ao
 |.tup l,v=>∃ a vs,v=.ref a /\ F a=ae (.tup vs) /\ aE F l vs
 |.non,v=>v=.non
 |.bl b,v=>v=.bl b
 |.int i,v=>v=.int i
 |.str x,v=>v=.str x
noncomputable def bY (bx:List Bx):W->Option D
 |.d x=>ae x
 | .b n=>match bx[n]? with
   |some (.lst l)=>ae zaZ
   |some (.aA l)=>ae (.aA l)
   |_=>ag
 |_=>ag
theorem Den.rf (s:Sub F H):∀ {d:D}{v:V},Den F d v->nZ F H d v
 |.non,_,h=>h
 |.bl _,_,h=>h
 |.int _,_,h=>h
 |.str _,_,h=>h
 |.tup l,_,h=>h
 |.lst l,_,h=>let ⟨a,vs,e,h1,h2⟩:=h;#[a,vs,e,s _ _ h1,h2]
 |.aA l,_,h=>let ⟨a,vs,e,h1,h2⟩:=h;#[a,vs,e,s _ _ h1,h2]
theorem Rel.rf (R:Rel T F r σ H env bx) {w:W}{v:V}{d:D}(h:bN F r w v) (e:bY bx w=ae d):nZ F H d v:=by
 cases w with
 |d x=>
   cases e;show Den.rf R.fh h
 |b n=>
   let#[a,rfl,ha]:=h;let#[c,hc,k]:=R.eU ha;erw[bY,hc]at e;cases c with
   |lst l=>cases e;let#[_,vs,k1,k2]:=k;show#[a,vs,rfl,k1,k2]
   |aA l=>cases e;let#[_,vs,k1,k2]:=k;show#[a,vs,rfl,k1,k2]
   |_=>cases e
 |s l=>cases e
 |x i=>show h.elim
 |_=>cases e
def Yi (F H:Hp):List D->List V->zu
 |[],vs=>vs=[]
 |d::l,vs=>∃ v t,vs=v::t /\ nZ F H d v /\ Yi F H l t
def kr (bx:List Bx):List W->Option (List D)
 |[]=>ae []
 |w::l=>(bY bx w).bind λd=>(kr bx l).map λt=>d::t
theorem Rel.adb (R:Rel T F r σ H env bx):∀ {ws:List W}{vs:List V}{ds:List D},kR F r ws vs->kr bx ws=ae ds->Yi F H ds vs
 |[],_,_,h,e=>by cases e;show h
 | w::l,_,ds,h,e=>by
   let#[v,t,q,h1,h2]:=h;unfold kr at e;cases e1:bY bx w with
   |none=>rw[e1]at e;cases e
   |some d=>
     rw[e1]at e;cases e2:kr bx l with
     |none=>rw[e2]at e;cases e
     |some t'=>
       rw[e2]at e;cases e;show#[v,t,q,R.rf h1 e1,R.adb h2 e2]
inductive Res where
 |old (d:D)|tup (l:List D)|lst (l:List D)|aA (l:List (Key×D))
noncomputable def Res.toD:Res->D
 |.old d=>d|.tup l=>.tup l|.lst l=>.lst l|.aA l=>.aA l
def vZ (F H:Hp):Res->V->Hp->zu
 |.old d,v,H'=>H'=H /\ Den F d v
 |.tup l,v,H'=>(H'=H /\ Den F (.tup l) v) \/ ∃ p vs,v=.ref p /\ H p=ag /\ H'=upd H p (.tup vs) /\ aE F l vs
 |.lst l,v,H'=>∃ p vs,v=.ref p /\ H p=ag /\ H'=upd H p (.lst vs) /\ aE F l vs
 |.aA l,v,H'=>∃ p vs,v=.ref p /\ H p=ag /\ H'=upd H p (.dK vs) /\ aR F l vs
theorem Rel.res (R:Rel T F r σ H env bx):∀ {q:Res},vZ F H q v H'->∃ F',bf F r F' r /\ Rel T F' r σ H' env bx /\ Den F' q.toD v
 | .old d,h=>by
   let#[rfl,h]:=h;show#[F,.refl F r,R,h]
 | .tup l,h=>by
   rcases h with⟨rfl,h⟩|⟨p,vs,rfl,hp,rfl,h⟩
   .show#[F,.refl F r,R,h]
   show#[_,R.u4 hp,R.Ei hp,p,vs,rfl,fw,aE.mono (R.u4 (o:=.tup vs) hp).s l h]
 | .lst l,h=>by
   let#[p,vs,rfl,hp,rfl,h]:=h;show#[_,R.u4 hp,R.Ei hp,p,vs,rfl,fw,aE.mono (R.u4 (o:=.lst vs) hp).s l h]
 | .aA l,h=>by
   let#[p,vs,rfl,hp,rfl,h]:=h;show#[_,R.u4 hp,R.Ei hp,p,vs,rfl,fw,aR.mono (R.u4 (o:=.dK vs) hp).s l h]
theorem Rel.resB (R:Rel T F r σ H env bx) {l:List D}(h:vZ F H zaZ v H'):∃ r',bf F r F r' /\ Rel T F r' σ H' env (bx++[.lst l]) /\ bN F r' zaM v:=by
 let#[p,vs,rfl,hp,rfl,h]:=h;refine#[r++[p],#[Sub.refl F,xf r [p]],R.Iy hp #[R.qZ hp,vs,fw,h],p,rfl,?_];rw[<-R.len,dU (aD _),tH];rfl
theorem Rel.agu (R:Rel T F r σ H env bx) {l:List (Key×D)}(h:vZ F H (.aA l) v H'):∃ r',bf F r F r' /\ Rel T F r' σ H' env (bx++[.aA l]) /\ bN F r' zaM v:=by
 let#[p,vs,rfl,hp,rfl,h]:=h;refine#[r++[p],#[Sub.refl F,xf r [p]],R.Iy hp #[R.qZ hp,vs,fw,h],p,rfl,?_];rw[<-R.len,dU (aD _),tH];rfl
def cu (b:Bool):Option Res->List Bx->O W
 |none,_=>.bad
 | some q,bx=>match b,q with
   |true,.lst l=>.val zaM (bx++[.lst l])
   |true,.aA l=>.val zaM (bx++[.aA l])
   |_,_=>.val (.d q.toD) bx
theorem iC {Q:VK}{b:Bool}{q:Res}(R:Rel T F r σ H env bx) (h:End T Z bN F r σ env Q (cu b (ae q) bx)) (k:vZ F H q v H'):Q v H':=by
 have one:End T Z bN F r σ env Q (.val (.d q.toD) bx)->Q v H':=λh=>by
  let#[F',g,R',d]:=R.res k;show h F' r v H' g R' d
 cases b with
 |false=>show one h
 |true=>
   cases q with
   |old d=>show one h
   |tup l=>show one h
   |lst l=>
     let#[r',g,R',d]:=R.resB k;show h F r' v H' g R' d
   |aA l=>
     let#[r',g,R',d]:=R.agu k;show h F r' v H' g R' d
def cD (q:R2) (g:D->D->Option Res):zu:=∀ (F H:Hp) (x y:D) (v w:V) (Q:VK) (s:Res),Sub F H->nZ F H x v->nZ F H y w->g x y=ae s->(∀ u H',vZ F H s u H'->Q u H')->q v w H Q
def kF (q:List V->Hp->VK->zu) (g:List D->Option Res):zu:=∀ (F H:Hp) (xs:List D) (vs:List V) (Q:VK) (s:Res),Sub F H->Yi F H xs vs->g xs=ae s->(∀ u H',vZ F H s u H'->Q u H')->q vs H Q
def d2 (b:Bool) (g:D->D->Option Res) (ma mb:DE W):DE W:=λenv bx=>fA (ma env bx) λx bx1=>fA (mb env bx1) λy bx2=>cu b ((bY bx2 x).bind λp=>(bY bx2 y).bind λq=>g p q) bx2
theorem FY {q:R2}{g:D->D->Option Res}{b:Bool}(hg:cD q g) (σ:St) (H:Hp) (Q:VK) (h:tD T Z (d2 b g ma mb) σ H Q):yY q (tD T Z ma) (tD T Z mb) σ H Q:=by
 let#[F,r,env,bx,R,h]:=h;refine#[F,r,env,bx,R,End.bind h λx bx1 F1 r1 v H1 g1 R1 d1 h1=>?_];refine#[F1,r1,env,bx1,R1,End.bind h1 λy bx2 F2 r2 w H2 g2 R2 Yj h2=>?_];have agv:=g2.den d1;cases e1:bY bx2 x with
 |none=>rw[e1]at h2;show h2.elim
 |some p=>
   cases e2:bY bx2 y with
   |none=>rw[e1,e2]at h2;show h2.elim
   |some z=>
     cases e3:g p z with
     |none=>rw[e1,e2]at h2;erw[cb,e3]at h2;show h2.elim
     |some s=>
       rw[e1,e2]at h2;erw[cb,e3]at h2;show hg F2 H2 p z v w Q s R2.fh (R2.rf agv e1) (R2.rf Yj e2) e3 λu H' k=>iC R2 h2 k
def dN (b:Bool) (g:List D->Option Res) (k:DE zam):DE W:=λenv bx=>fA (k env bx) λws bx1=>cu b ((kr bx1 ws).bind g) bx1
theorem Lv {q:List V->Hp->VK->zu}{g:List D->Option Res}{b:Bool}{k:DE zam}(hg:kF q g) (σ:St) (H:Hp) (Q:VK) (h:tD T Z (dN b g k) σ H Q):Ii q (Iw T Z k) σ H Q:=by
 let#[F,r,env,bx,R,h]:=h;refine#[F,r,env,bx,R,End.bind h λws bx1 F1 r1 vs H1 g1 R1 d1 h1=>?_];cases e1:kr bx1 ws with
 |none=>rw[e1]at h1;show h1.elim
 |some ds=>
   rw[e1]at h1;cases e2:g ds with
   |none=>erw[cb,e2]at h1;show h1.elim
   |some s=>
     erw[cb,e2]at h1;show hg F1 H1 ds vs Q s R1.fh (R1.adb d1 e1) e2 λu H' k=>iC R1 h1 k
end L2.DL
variable {g:L2.DL.D -> L2.DL.D -> Option L2.DL.Res}
namespace L2.DL
section
variable {a b c:au} {mc:DE W} {p:aL}
theorem Tl {op:Operator}{q:R2}(bo:Bool) (ho:bp X (binaryOp op) q) (hg:cD q g) (ha:PD X T Z a ma) (hb:PD X T Z b mb):PD X T Z (.BinOp a op b pos) (d2 bo g ma mb):=
 PE.imp (Vr ho ha hb) (FY hg)
theorem Tn {q:R2}(ho:bp X (compareOp op) q) (hg:cD q g) (ha:PD X T Z a ma) (hb:PD X T Z b mb) (hm:behindInMarks op b=af):PD X T Z (.Compare a [op] [b] pos) (d2 af g ma mb):=
 PE.imp (N2 ho ha hb hm) (FY hg)
theorem VA {q:R2}(ho:sH X q) (hg:cD q g) (ha:PD X T Z a ma) (hb:PD X T Z b mb) (hs:Il b):PD X T Z (.Subscript a b pos) (d2 af g ma mb):=
 PE.imp (R8 ho ha hb hs) (FY hg)
def dB (m:DE W):DE Bool:=λenv bx=>fA zC λw bx1=>match w with|.d (.bl k)=>.val k bx1|_=>.bad
theorem Lw {Q:Bool->Hp->zu}(h:sN T Z (dB ma) σ H Q):tB (tD T Z ma) σ H Q:=by
 let#[F,r,env,bx,R,h]:=h;refine#[F,r,env,bx,R,End.bind h λw bx1 F1 r1 v H1 g1 R1 d1 h1=>?_];split at h1
 .ext k;show#[k,d1,h1 F1 r1 k H1 zS R1 zc]
 .show h1.elim
theorem Od (h:PD X T Z e ma) (he:∀ whole,isTrue e X.env whole=(do let v <-whole;standAt e.pos;holding [v] (truthy v)):=by intro _;rfl):eJ X T Z e (dB ma):=
 PT.imp (SJ h he) λσ H Q h=>Lw h
theorem Oe {q:R2}(ho:bp X (compareOp op) q) (hg:cD q g) (ha:PD X T Z a ma) (hb:PD X T Z b mb) (hm:behindInMarks op b=af):eJ X T Z (.Compare a [op] [b] pos) (dB (d2 af g ma mb)):=by
 refine PT.imp (N3 ho ha hb hm) λσ H Q h=>?_;let#[F,r,env,bx,R,h]:=h;refine FY (T:=T) (Z:=Z) (b:=af) hg σ H _ #[F,r,env,bx,R,End.bind h λw bx1 F1 r1 v H1 g1 R1 d1 h1=>?_];split at h1
 .ext k;show#[k,d1,h1 F1 r1 k H1 zS R1 zc]
 .show h1.elim
theorem aE.isEmpty {F:Hp}{l:List D}{vs:List V}(h:aE F l vs):l.isEmpty=vs.isEmpty:=by
 have:=h.length;cases l<;>cases vs<;>simp_all
theorem aR.length {F:Hp}:∀ {l:List (Key×D)}{vs:List (Key×V)},aR F l vs->l.length=vs.length
 | [],_,h=>by
   have e:_=[]:=h;rw[e];rfl
 | (k,d)::l,_,h=>by
   let#[v,r,e,_,h2]:=h;rw[e,bw,bw,h2.length]
def d3 (g g':D->D->Option Res) (ma mb mc:DE W):DE W:=λenv bx=>fA (ma env bx) λx bx1=>fA (mb env bx1) λy bx2=>
 fA (cu af ((bY bx2 x).bind λp=>(bY bx2 y).bind λq=>g p q) bx2) λz bS=>match z with
  |.d (.bl ah)=>fA (mc env bS) λw cK=>cu af ((bY cK y).bind λp=>(bY cK w).bind λq=>g' p q) cK
  |.d (.bl af)=>.val (.d (.bl af)) bS
  |_=>.bad
theorem ade {q:R2}(hg:cD q g) {x y:W}{w:V}{Q:VK}(R:Rel T F r σ H env bx) (dx:bN F r x v) (dy:bN F r y w)
 (h:End T Z bN F r σ env Q (cu af ((bY bx x).bind λp=>(bY bx y).bind λq=>g p q) bx)):q v w H Q:=by
 cases e1:bY bx x with
 |none=>rw[e1]at h;show h.elim
 |some p=>
   cases e2:bY bx y with
   |none=>rw[e1,e2]at h;show h.elim
   |some z=>
     cases e3:g p z with
     |none=>rw[e1,e2]at h;erw[cb,e3]at h;show h.elim
     |some s=>
       rw[e1,e2]at h;erw[cb,e3]at h;show hg F H p z v w Q s R.fh (R.rf dx e1) (R.rf dy e2) e3 λu H' k=>iC R h k
theorem FZ {q q':R2}{g':D->D->Option Res}(hg:cD q g) (xQ:cD q' g') {Q:VK}(h:tD T Z (d3 g g' ma mb mc) σ H Q):XR q q' (tD T Z ma) (tD T Z mb) (tD T Z mc) σ H Q:=by
 let#[F,r,env,bx,R,h]:=h;refine#[F,r,env,bx,R,End.bind h λx bx1 F1 r1 v H1 g1 R1 d1 h1=>?_];refine#[F1,r1,env,bx1,R1,End.bind h1 λy bx2 F2 r2 w H2 g2 R2 d2 h2=>?_];refine ade (T:=T) (Z:=Z) (bx:=bx2) hg R2 (g2.den d1) d2 (End.bind h2 λz bS F3 r3 u H3 g3 R3 d3 h3=>?_);split at h3
 .refine#[ah,d3,?_];rw[if_pos rfl];refine#[F3,r3,env,bS,R3,End.bind h3 λt cK F4 r4 s H4 g4 R4 d4 h4=>?_];show ade (T:=T) (Z:=Z) xQ R4 (g4.den (g3.den d2)) d4 h4
 .refine#[af,d3,?_];rw[if_neg ze];show h3 F3 r3 _ H3 (.refl F3 r3) R3 zc
 .show h3.elim
theorem Lx {cU:CmpOp}{q q':R2}{g':D->D->Option Res}(ho:bp X (compareOp op) q) (nI:bp X (compareOp cU) q') (hg:cD q g) (xQ:cD q' g') (ha:PD X T Z a ma) (hb:PD X T Z b mb) (hc:PD X T Z c mc)
 (hm:lastMarks [op,cU] [b,c]=af:=by with_unfolding_all rfl):PD X T Z (.Compare a [op,cU] [b,c] pos) (d3 g g' ma mb mc):=
 PE.imp (Lf ho nI ha hb hc hm) λσ H Q h=>FZ hg xQ h
theorem G9 {cU:CmpOp}{q q':R2}{g':D->D->Option Res}(ho:bp X (compareOp op) q) (nI:bp X (compareOp cU) q') (hg:cD q g) (xQ:cD q' g') (ha:PD X T Z a ma) (hb:PD X T Z b mb) (hc:PD X T Z c mc)
 (hm:lastMarks [op,cU] [b,c]=af:=by with_unfolding_all rfl):eJ X T Z (.Compare a [op,cU] [b,c] pos) (dB (d3 g g' ma mb mc)):=by
 refine PT.imp (Lg ho nI ha hb hc hm) λσ H Q h=>?_;let#[F,r,env,bx,R,h]:=h;refine FZ (T:=T) (Z:=Z) hg xQ #[F,r,env,bx,R,End.bind h λw bx1 F1 r1 v H1 g1 R1 d1 h1=>?_];split at h1
 .ext k;show#[k,d1,h1 F1 r1 k H1 zS R1 zc]
 .show h1.elim
def kG (m k:DE Bool):DE Bool:=λenv bx=>fA zC λb bx1=>match b with|true=>k env bx1|false=>.val af bx1
def nL (m k:DE Bool):DE Bool:=λenv bx=>fA zC λb bx1=>match b with|true=>.val ah bx1|false=>k env bx1
def kH (m:DE Bool):DE Bool:=λenv bx=>fA zC λb bx1=>.val (!b) bx1
def sO (X:Cx) (T:Fr) (Z:Xs) (e:au) (m:DE Bool):zu:=PW X e (sN T Z m)
variable {ta tb:DE Bool} {rest:List au}
theorem Ly (h:eJ X T Z a ta):sO X T Z (.BoolOp .And [a] pos) ta:=NW h
theorem Of (h:eJ X T Z a ta):sO X T Z (.BoolOp .Or [a] pos) ta:=SK h
theorem Og (ha:eJ X T Z a ta) (hb:sO X T Z (.BoolOp .And (b::rest) pos) tb):sO X T Z (.BoolOp .And (a::b::rest) pos) (kG ta tb):=by
 refine PW.imp (SL ha hb) λσ H Q=>x4 λF r env bx R h=>?_;refine#[F,r,env,bx,R,End.bind h λk bx1 F1 r1 v H1 g1 R1 d1 h1=>?_];subst d1;cases k with
 |true=>rw[if_pos rfl];show#[F1,r1,env,bx1,R1,h1]
 |false=>rw[if_neg ze];show h1 F1 r1 _ H1 zS R1 zc
theorem To (ha:eJ X T Z a ta) (hb:sO X T Z (.BoolOp .Or (b::rest) pos) tb):sO X T Z (.BoolOp .Or (a::b::rest) pos) (nL ta tb):=by
 refine PW.imp (Vp ha hb) λσ H Q=>x4 λF r env bx R h=>?_;refine#[F,r,env,bx,R,End.bind h λk bx1 F1 r1 v H1 g1 R1 d1 h1=>?_];subst d1;cases k with
 |false=>rw[if_neg ze];show#[F1,r1,env,bx1,R1,h1]
 |true=>rw[if_pos rfl];show h1 F1 r1 _ H1 zS R1 zc
theorem R9 (h:sO X T Z e ta):eJ X T Z e ta:=h.pt
theorem Oh (h:eJ X T Z a ta):eJ X T Z (.UnaryOp .Not a pos) (kH ta):=by
 refine PT.imp (SM h) λσ H Q=>x4 λF r env bx R h=>?_;refine#[F,r,env,bx,R,End.bind h λk bx1 F1 r1 v H1 g1 R1 d1 h1=>?_];subst d1;show h1 F1 r1 _ H1 zS R1 zc
def gz (m k:DE W):DE W:=λenv bx=>fA zC λw bx1=>match w with|.d (.bl ah)=>k env bx1|.d (.bl af)=>.val (.d (.bl af)) bx1|_=>.bad
def Iz (m:DE W):DE W:=λenv bx=>fA zC λw bx1=>match w with|.d (.bl k)=>.val (.d (.bl (!k))) bx1|_=>.bad
theorem Tp {op}(h:PD X T Z a ma):PD X T Z (.BoolOp op [a] pos) ma:=SN h
theorem Tq (ha:PD X T Z a ma) (hb:PD X T Z (.BoolOp .And (b::rest) pos) mb):PD X T Z (.BoolOp .And (a::b::rest) pos) (gz ma mb):=by
 refine PE.imp (SO ha hb) λσ H Q=>x4 λF r env bx R h=>?_;refine#[F,r,env,bx,R,End.bind h λw bx1 F1 r1 v H1 g1 R1 d1 h1=>?_];split at h1
 .refine#[ah,d1,?_];rw[if_pos rfl];show#[F1,r1,env,bx1,R1,h1]
 .refine#[af,d1,?_];rw[if_neg ze];show h1 F1 r1 _ H1 zS R1 zc
 .show h1.elim
theorem Tr (ha:PD X T Z a ma):PD X T Z (.UnaryOp .Not a pos) (Iz ma):=by
 refine PE.imp (SQ ha) λσ H Q=>x4 λF r env bx R h=>?_;refine#[F,r,env,bx,R,End.bind h λw bx1 F1 r1 v H1 g1 R1 d1 h1=>?_];split at h1
 .ext k;show#[k,d1,h1 F1 r1 _ H1 zS R1 zc]
 .show h1.elim
def nu (t:DE Bool) (m k:DE W):DE W:=λenv bx=>fA (t env bx) λb bx1=>match b with|true=>m env bx1|false=>k env bx1
theorem Ts (hc:eJ X T Z c ta) (ha:PD X T Z a ma) (hb:PD X T Z b mb):PD X T Z (.IfExp c a b pos) (nu ta ma mb):=by
 refine PE.imp (J4 hc ha hb) λσ H Q=>x4 λF r env bx R h=>?_;refine#[F,r,env,bx,R,End.bind h λk bx1 F1 r1 v H1 g1 R1 d1 h1=>?_];subst d1;cases k with
 |true=>rw[if_pos rfl];show#[F1,r1,env,bx1,R1,h1]
 |false=>rw[if_neg ze];show#[F1,r1,env,bx1,R1,h1]
noncomputable def n6:List W->Option (List D)
 |[]=>ae []
 |.d x::l=>(n6 l).map λt=>x::t
 |_=>ag
theorem kR.ds {F:Hp}{r:List aj}:∀ {ws:List W}{vs:List V}{ds:List D},kR F r ws vs->n6 ws=ae ds->aE F ds vs
 |[],_,_,h,e=>by cases e;show h
 | .d x::l,_,ds,h,e=>by
   let#[v,t,q,h1,h2]:=h;unfold n6 at e;cases e2:n6 l with
   |none=>rw[e2]at e;cases e
   |some t'=>
     rw[e2]at e;cases e;show#[v,t,q,h1,h2.ds e2]
 |.b _::l,_,ds,h,e=>by cases e
 |.s _::l,_,ds,h,e=>by cases e
 |.x _::l,_,ds,h,e=>by cases e
 |.t _::l,_,ds,h,e=>by cases e
 |.m _::l,_,ds,h,e=>by cases e
def fN (k:DE zam):DE W:=λenv bx=>fA (k env bx) λws bx1=>cu af ((n6 ws).bind λl=>if l.length<=sizeLine then ae (.tup l) else ag) bx1
def gq (bo:Bool) (k:DE zam):DE W:=λenv bx=>fA (k env bx) λws bx1=>cu bo ((n6 ws).bind λl=>if l.length<=sizeLine then ae zaZ else ag) bx1
theorem Tt {x1}{k:DE zam}(h:dJ X T Z es k):PD X T Z (.Tuple es x1 pos) (fN k):=by
 refine PE.imp (Lh h) λσ H Q=>x4 λF r env bx R h=>?_;refine#[F,r,env,bx,R,End.bind h λws bx1 F1 r1 vs H1 g1 R1 d1 h1=>?_];cases e:n6 ws with
 |none=>rw[e]at h1;show h1.elim
 |some l=>
   rw[e]at h1;erw[cb]at h1;split at h1
   .have dl:=d1.ds e;refine#[by rw[<-dl.length];assumption,λp hp=>iC R1 h1 (.inr #[p,vs,rfl,hp,rfl,dl])]
   .show h1.elim
theorem Tu {k:DE zam}(bo:Bool) (h:dJ X T Z es k):PD X T Z (.List es pos) (gq bo k):=by
 refine PE.imp (Li h) λσ H Q=>x4 λF r env bx R h=>?_;refine#[F,r,env,bx,R,End.bind h λws bx1 F1 r1 vs H1 g1 R1 d1 h1=>?_];cases e:n6 ws with
 |none=>rw[e]at h1;show h1.elim
 |some l=>
   rw[e]at h1;erw[cb]at h1;split at h1
   .have dl:=d1.ds e;refine#[by rw[<-dl.length];assumption,λp hp=>iC R1 h1 #[p,vs,rfl,hp,rfl,dl]]
   .show h1.elim
theorem Lz {id:String}{q:List V->Hp->VK->zu}{g:List D->Option Res}{k:DE zam}(bo:Bool) (hc:eF X (.builtin id) q) (hk:kF q g) (hg:Gl X x) (hm:X.mg x=ag) (hv:bootBuiltins x=ae (.builtin id)) (ha:dJ X T Z (e::es) k)
 (hn:x ≠ "__name__":=by decide) (dI:(x==("__debug__":Str))=af:=by decide)
 (he:starEach (e::es) X.env=zaS::starEach es X.env:=by rfl) (nq:(backTo pos (starEach es X.env)).any (·.1)=af:=by rfl):PD X T Z zY (dN bo g k):=
 PE.imp (mN hc hg hm hv ha hn dI he nq) (Lv hk)
theorem Ja {id:String}{q:List V->Hp->VK->zu}{g:List D->Option Res}{k:DE zam}(bo:Bool) (hc:eF X (.type id) q) (hk:kF q g) (hg:Gl X x) (hm:X.mg x=ag) (hv:bootBuiltins x=ae (.type id)) (ha:dJ X T Z (e::es) k)
 (hn:x ≠ "__name__":=by decide) (dI:(x==("__debug__":Str))=af:=by decide)
 (he:starEach (e::es) X.env=zaS::starEach es X.env:=by rfl) (nq:(backTo pos (starEach es X.env)).any (·.1)=af:=by rfl):PD X T Z zY (dN bo g k):=
 PE.imp (G3 hc hg hm hv ha hn dI he nq) (Lv hk)
def ub (cl:Nat->aj) (n:Nat) (fn:List W->List Bx->O W):Sp:=λvs H Q E=>∃ F r ws bx,Rel #[H,r.length,F] F r [] H [] bx /\ kR F r ws vs /\ ws.length=n /\ End #[H,r.length,F] #[E,cl] bN F r [] [] Q (fn ws bx)
theorem kR.length {F:Hp}{r:List aj}:∀ {ws:List W}{vs:List V},kR F r ws vs->ws.length=vs.length
 | [],_,h=>by
   have e:_=[]:=h;rw[e];rfl
 | d::l,_,h=>by
   let#[v,t,e,_,h2]:=h;rw[e,bw,bw,h2.length]
theorem Rel.enter (R:Rel T F r σ H env bx):Rel #[H,r.length,F] F r [] H [] bx:=
 #[R.fh,λi w e=>by simp at e,R.len,R.nd,R.box,λa u e _=>e,λn a hn e=>(by rw[sf hn]at e;cases e),aD _,aD _,λa u e=>.inr (.inl e)]
theorem Rel.after {r':List aj}{bx':List Bx}(R:Rel T F r σ H env bx) (g:bf F r F' r') (R':Rel #[H,r.length,F] F' r' [] H' [] bx'):Rel T F' r' σ H' env bx':=by
 have pre:∀ (n:Nat) (a:aj),r[n]?=ae a->r'[n]?=ae a:=λn a e=>by
  let#[t,rfl]:=g.p;rw[eD (List.getElem?_eq_some_iff.mp e).1];show e
 have sub:∀ a,a∈r->a∈r':=λa h=>g.p.subset h;refine#[R'.fh,λi w e=>?_,R'.len,R'.nd,R'.box,λa u e hn=>?_,λn a hn e=>?_,cC R.n0 g.p.length_le,R.sl,λa u e=>?_]
 .let#[v,e1,e2]:=R.slot i w e;show#[v,e1,g.den e2]
 .show R'.keep a u (R.keep a u e λz=>hn (sub a z)) hn
 .by_cases hl:n<r.length
  .have q:=pre n _ (dq hl);rw[e]at q;cases q;show R.new n _ hn (dq hl)
  .have q:H a=ag:=R'.new n a (vB hl) e;cases z:T.H₀ a with
   |none=>rfl
   |some u=>
     have hr:a∉r:=λha=>by
      let#[m,em]:=List.mem_iff_getElem?.mp ha;have:=lm R'.nd (pre m a em) e;show hl (by rw[<-this];show(List.getElem?_eq_some_iff.mp em).1)
     rw[R.keep a u z hr]at q;cases q
 .rcases R'.fs a u e with z|z|z|z
  .show .inl z
  .show(R.fs a u z).imp id (Or.imp id (Or.imp id (sub a)))
  .by_cases ha:a∈r
   .show .inr (.inr (.inr (sub a ha)))
   .refine .inr (.inr (.inl ?_));cases y:T.H₀ a with
    |none=>rfl
    |some u=>
      have z':H a=ag:=z;rw[R.keep a u y ha]at z';cases z'
  .show .inr (.inr (.inr z))
def fq (fn:List W->List Bx->O W) (n:Nat) (k:DE zam):DE W:=λenv bx=>fA (k env bx) λws bx1=>if ws.length=n then fn ws bx1 else .bad
theorem Tv {k:DE zam}{Q:VK}(h:tD T Z (fq fn n k) σ H Q):acM (ub Z.cl n fn) [] Z.E (Iw T Z k) σ H Q:=by
 let#[F,r,env,bx,R,h]:=h;refine#[F,r,env,bx,R,End.bind h λws bx1 F1 r1 vs H1 g1 R1 d1 h1=>?_];split at h1
 .ext hl;refine#[F1,r1,ws,bx1,R1.enter,by rw[uJ];show d1,hl,?_];cases e:fn ws bx1 with
  |val w bx'=>rw[e]at h1;show λF' r' v H' g R' d=>h1 F' r' v H' g (R1.after g R') d
  |exc c bx'=>rw[e]at h1;show λF' r' H' g R'=>h1 F' r' H' g (R1.after g R').drop
  |bad=>rw[e]at h1;show h1
 .show h1.elim
theorem Oi {f:aj}{ps:List Str}{k:Nat}{m:DE zam}(G:kQ X.prog X.w X.K X.mg X.base (qr X.prog X.w) k f fd ps (ub Z.cl ps.length fn)) (hr:di k X.A) (hg:Gl X x) (hm:X.mg x=ae (.ref f))
 (hk:PySem.W.keepIn X.K (.ref f)=ah) (hb:Binds X.K fd ps []) (hx:Passes (qr X.prog X.w) X Z.E) (ha:dJ X T Z (e::es) m) (dI:(x==("__debug__":Str))=af:=by decide)
 (he:starEach (e::es) X.env=zaS::starEach es X.env:=by rfl) (nq:(backTo pos (starEach es X.env)).any (·.1)=af:=by rfl):PD X T Z zY (fq fn ps.length m):=
 PE.imp (N5 G hr hg hm hk hb .nil hx ha dI he nq) λσ H Q h=>Tv h
end
inductive OS where
 |nx (env:aP) (bx:List Bx)|rt (w:W) (bx:List Bx)|bk (env:aP) (bx:List Bx)|ct (env:aP) (bx:List Bx)|exc (c:Nat) (bx:List Bx)|bad
abbrev aB:=aP->List Bx->OS
def cR (T:Fr) (Z:Xs) (F:Hp) (r:List aj) (D:Ends):OS->zu
 |.nx aN bx'=>∀ F' r' σ' H',bf F r F' r'->Rel T F' r' σ' H' aN bx'->D.nx σ' H'
 |.rt w bx'=>∀ F' r' v H',bf F r F' r'->Rel T F' r' [] H' [] bx'->bN F' r' w v->D.rt v H'
 |.bk aN bx'=>∀ F' r' σ' H',bf F r F' r'->Rel T F' r' σ' H' aN bx'->D.bk σ' H'
 |.ct aN bx'=>∀ F' r' σ' H',bf F r F' r'->Rel T F' r' σ' H' aN bx'->D.ct σ' H'
 |.exc c bx'=>∀ F' r' H',bf F r F' r'->Rel T F' r' [] H' [] bx'->Z.E (.ref (Z.cl c)) ag H'
 |.bad=>False
theorem cR.weak {r':List aj}{D:Ends}(g:bf F r F' r'):∀ {o:OS},cR T Z F r D o->cR T Z F' r' D o
 |.nx _ _,h=>λF2 r2 s2 H2 g2=>h F2 r2 s2 H2 (g.trans g2)
 |.rt _ _,h=>λF2 r2 s2 H2 g2=>h F2 r2 s2 H2 (g.trans g2)
 |.bk _ _,h=>λF2 r2 s2 H2 g2=>h F2 r2 s2 H2 (g.trans g2)
 |.ct _ _,h=>λF2 r2 s2 H2 g2=>h F2 r2 s2 H2 (g.trans g2)
 |.exc _ _,h=>λF2 r2 H2 g2=>h F2 r2 H2 (g.trans g2)
 |.bad,h=>h
noncomputable def bC (m:O α) (k:α->List Bx->OS):OS:=
 match m with
 |.val a bx=>k a bx
 |.exc c bx=>.exc c bx
 |.bad=>.bad
theorem End.bC {β:Type}{R1:Hp->List aj->α->β->zu}{D:Ends}{Q1:β->Hp->zu}
 {m:O α}{k:α->List Bx->OS}(h:cR T Z F r D (DL.bC m k))
 (c:∀ d bx1 F1 r1 v H1,bf F r F1 r1->Rel T F1 r1 σ H1 env bx1->R1 F1 r1 d v->cR T Z F1 r1 D (k d bx1)->Q1 v H1):End T Z R1 F r σ env Q1 m:=by
 cases m with
 |val d bx=>show λF' r' v H' g R q=>c d bx F' r' v H' g R q (cR.weak g h)
 |exc n bx=>show h
 |bad=>show h
def tS (T:Fr) (Z:Xs) (m:aB):TS:=λD σ H=>∃ F r env bx,Rel T F r σ H env bx /\ cR T Z F r D zC
def cM (X:Cx) (T:Fr) (Z:Xs) (s:cj) (m:aB):zu:=PS X s (tS T Z m)
def qt (X:Cx) (T:Fr) (Z:Xs) (s:List cj) (m:aB):zu:=kE X s (tS T Z m)
section
variable {a b c:au} {mc:DE W} {p:aL} {rest:List cj} {m k:aB} {tc:DE Bool}
noncomputable def aV:aB:=λenv bx=>.nx env bx
noncomputable def fv (m k:aB):aB:=λenv bx=>match m env bx with|.nx env1 bx1=>k env1 bx1|o=>o
theorem Oj:qt X T Z [] aV:=kE.imp NX λD σ H=>x4 λF r env bx R h=>h F r σ H (.refl F r) R
theorem LB (h1:cM X T Z st m) (h2:qt X T Z rest k):qt X T Z (st::rest) (fv m k):=by
 refine kE.imp (J5 h1 h2) λD σ H=>x4 λF r env bx R h=>#[F,r,env,bx,R,?_];unfold fv at h;cases e:m env bx with
 |nx env1 bx1=>rw[e]at h;show λF1 r1 σ1 H1 g R1=>#[F1,r1,env1,bx1,R1,cR.weak g h]
 |rt w bx1=>rw[e]at h;show h
 |bk env1 bx1=>rw[e]at h;show h
 |ct env1 bx1=>rw[e]at h;show h
 |exc c bx1=>rw[e]at h;show h
 |bad=>rw[e]at h;show h
theorem Ol (h1:cM X T Z st m):qt X T Z [st] m:=NY h1
noncomputable def IC:aB:=λenv bx=>.bk env bx
noncomputable def ID:aB:=λenv bx=>.ct env bx
theorem Jb:cM X T Z (.Break pos) IC:=PS.imp J6 λD σ H=>x4 λF r env bx R h=>h F r σ H (.refl F r) R
theorem LC:cM X T Z (.Continue pos) ID:=PS.imp CL λD σ H=>x4 λF r env bx R h=>h F r σ H (.refl F r) R
def gf (m:DE W):aB:=λenv bx=>bC zC λ_ bx1=>.nx env bx1
theorem LD (h:PD X T Z e ma) (hs:swapsWith e ag pos.line X.env=pure af:=by rfl):cM X T Z (.Expr e pos) (gf ma):=by
 refine PS.imp (NZ h hs) λD σ H=>x4 λF r env bx R h=>?_;show#[F,r,env,bx,R,End.bC h λw bx1 F1 r1 v H1 g1 R1 d1 h1=>h1 F1 r1 σ H1 zS R1]
def fG (m:DE W):aB:=λenv bx=>bC zC λw bx1=>.rt w bx1
theorem Om (h:PD X T Z e ma):cM X T Z (.Return (ae e) pos) (fG ma):=by
 refine PS.imp (SR h) λD σ H=>x4 λF r env bx R h=>?_;show#[F,r,env,bx,R,End.bC h λw bx1 F1 r1 v H1 g1 R1 d1 h1=>h1 F1 r1 v H1 zS R1.drop d1]
def aM (t:DE Bool) (m k:aB):aB:=λenv bx=>bC (t env bx) λb bx1=>match b with|true=>m env bx1|false=>k env bx1
theorem Tw {sa sb:List cj}(hc:eJ X T Z c tc) (ha:qt X T Z sa m) (hb:qt X T Z sb k):cM X T Z (.If c sa sb pos) (aM tc m k):=by
 refine PS.imp (Vq hc ha hb) λD σ H=>x4 λF r env bx R h=>?_;refine#[F,r,env,bx,R,End.bC h λw bx1 F1 r1 v H1 g1 R1 d1 h1=>?_];subst d1;cases w with
 |true=>rw[if_pos rfl];show#[F1,r1,env,bx1,R1,h1]
 |false=>rw[if_neg ze];show#[F1,r1,env,bx1,R1,h1]
abbrev DG:=W->aP->List Bx->Option (aP×List Bx)
abbrev n8:=List W->aP->List Bx->Option (aP×List Bx)
noncomputable def adf (T:Fr) (F:Hp) (r:List aj) (Q:St->Hp->zu):Option (aP×List Bx)->zu
 |none=>False
 |some (aN,bx')=>∀ F' r' σ' H',bf F r F' r'->Rel T F' r' σ' H' aN bx'->Q σ' H'
def tG (T:Fr) (g:DG):TG:=λv σ H Q=>∃ F r env bx w,Rel T F r σ H env bx /\ bN F r w v /\ adf T F r Q (g w env bx)
def agw (T:Fr) (g:n8):tV:=λvs σ H Q=>∃ F r env bx ws,Rel T F r σ H env bx /\ kR F r ws vs /\ adf T F r Q (g ws env bx)
def kS (X:Cx) (T:Fr) (tg:au) (g:DG):zu:=PG X tg (tG T g)
def uc (X:Cx) (T:Fr) (tg:List au) (g:n8):zu:=sC X tg (agw T g)
theorem PG.imp {t t':TG}(h:PG X tg t) (f:∀ v σ H Q,t' v σ H Q->t v σ H Q):PG X tg t':=λpins s σ H v u Q I r q=>h pins s σ H v u Q I r (f v σ H Q q)
theorem sC.imp {tg:List au}{t t':tV}(h:sC X tg t) (f:∀ v σ H Q,t' v σ H Q->t v σ H Q):sC X tg t':=λpins s σ H v u Q I r q=>h pins s σ H v u Q I r (f v σ H Q q)
noncomputable def fe (i:Nat):DG:=λw env bx=>ae (env.set i (ae w),bx)
theorem Rel.set {F H:Hp}{r:List aj}{σ:St}{env:aP}{bx:List Bx}(R:Rel T F r σ H env bx) {w:W}{v:V}(d:bN F r w v) (i:Nat):Rel T F r (σ.set i (ae v)) H (env.set i (ae w)) bx:=by
 refine#[R.fh,λj w' e=>?_,R.len,R.nd,R.box,R.keep,R.new,R.n0,by rw[qh,qh];show R.sl,R.fs];by_cases hj:j=i
 .subst hj;have hl:j<env.length:=by
   have:=(List.getElem?_eq_some_iff.mp e).1;rw[qh]at this;show this
  rw[qf hl]at e;cases e;show#[v,qf (hZ hl R.sl),d]
 .rw[tJ (Ne.symm hj)]at e;let#[u,e1,e2]:=R.slot j w' e;show#[u,by rw[tJ (Ne.symm hj)];show e1,e2]
theorem LF (i:Nat) (hN:X.N.Nodup) (hi:X.N[i]?=ae x:=by rfl) (hx:Loc X.env.scope x:=by first|show Or.inl zc|show Or.inr zc) (hf:X.fn x=ah \/ X.env.scope.names.lookup x=ae .local:=by first|show .inl zc|show .inr zc|assumption):kS X T (.Name x pos) (fe i):=
 PG.imp (B2 hN hi hx hf) λv σ H Q=>x5 λF r env bx w R d h=>h F r _ H (.refl F r) (R.set d i)
noncomputable def fR:n8:=λws env bx=>match ws with|[]=>ae (env,bx)|_=>ag
noncomputable def fr (g:DG) (k:n8):n8:=λws env bx=>match ws with|w::l=>(g w env bx).bind λ(env1,bx1)=>k l env1 bx1|_=>ag
theorem LG:uc X T [] fR:=sC.imp FS λv σ H Q=>x5 λF r env bx w R d h=>by
 cases w with
 |nil=>show#[d,h F r σ H (.refl F r) R]
 |cons _ _=>show h.elim
theorem Jc {g:DG}{k:n8}(h1:kS X T e g) (h2:uc X T es k) (hs:(assignEach (e::es) X.env).map (·.2)=assign e X.env::(assignEach es X.env).map (·.2):=by rfl):uc X T (e::es) (fr g k):=by
 refine sC.imp (Ay h1 h2 hs) λv σ H Q=>x5 λF r env bx ws R d h=>?_;cases ws with
 |nil=>show h.elim
 |cons w l=>
   let#[u,t,rfl,d1,d2]:=d;refine#[u,t,rfl,F,r,env,bx,w,R,d1,?_];unfold fr at h;cases eg:g w env bx with
   |none=>erw[eg]at h;show h.elim
   |some o=>
     let#[env1,bx1]:=o;erw[eg,cb]at h;intro F1 r1 σ1 H1 g1 R1;refine#[F1,r1,env1,bx1,l,R1,d2.mono g1,?_];cases ek:k l env1 bx1 with
     |none=>erw[ek]at h;show h.elim
     |some o2=>
       erw[ek]at h;show λF2 r2 σ2 H2 g2 R2=>h F2 r2 σ2 H2 (g1.trans g2) R2
theorem aE.ws {F:Hp}{r:List aj}:∀ {l:List D}{vs:List V},aE F l vs->kR F r (l.map W.d) vs
 |[],_,h=>h
 | d::l,_,h=>by
   let#[v,t,e,h1,h2]:=h;show#[v,t,e,h1,h2.ws]
noncomputable def fP (n:Nat) (k:n8):DG:=λw env bx=>match w with|.d (.tup l)=>if l.length=n then k (l.map W.d) env bx else ag|_=>ag
theorem On {k:n8}{i:Nat}(hc:X.calm=ah) (h:uc X T es k) (hn:(assignEach es X.env).length=n:=by rfl) (yU:(assignEach es X.env).findIdx? (·.1)=ag:=by rfl):kS X T (.Tuple es i pos) (fP n k):=by
 refine PG.imp (J7 hc h hn yU) λv σ H Q=>x5 λF r env bx w R d h=>?_;unfold fP at h;split at h
 .ext l;split at h
  .ext hl;let#[p,vs,rfl,h1,h2]:=d;show#[p,vs,rfl,.of (R.fh _ _ h1),by rw[<-h2.length];show hl,F,r,env,bx,_,R,h2.ws,h]
  .show h.elim
 .show h.elim
def fC (m:DE W) (g:DG):aB:=λenv bx=>bC zC λw bx1=>match g w env bx1 with|some (env1,bx2)=>.nx env1 bx2|none=>.bad
theorem VB {g:DG}{D:Ends}(h:tS T Z (fC ma g) D σ H):HV (tD T Z ma) (tG T g) D σ H:=by
 let#[F,r,env,bx,R,h]:=h;refine#[F,r,env,bx,R,End.bC h λw bx1 F1 r1 v H1 g1 R1 d1 h1=>#[F1,r1,env,bx1,w,R1,d1,?_]];cases eg:g w env bx1 with
 |none=>erw[eg]at h1;show h1.elim
 |some o=>erw[eg]at h1;show h1
theorem F6 {g:DG}(he:PD X T Z e ma) (hg:kS X T tg g) (hs:swapsWithSole [tg] e pos.line X.env=pure af:=by rfl) (hw:swappedStores [tg] e X.env=pure ag:=by rfl)
 (h1:(assignEach [tg] X.env).map (·.2)=[assign tg X.env]:=by rfl):cM X T Z (.Assign [tg] e pos) (fC ma g):=
 PS.imp (J8 he hg hs hw h1) λD σ H h=>VB h
theorem Oo (i:Nat) (he:PD X T Z e ma) (hN:X.N.Nodup) (hi:X.N[i]?=ae x:=by rfl) (hx:Loc X.env.scope x:=by first|show Or.inl zc|show Or.inr zc) (hs:swapsWith e (ae (.Name x pos')) pos.line X.env=pure af:=by rfl) (hf:X.fn x=ah \/ X.env.scope.names.lookup x=ae .local:=by first|show .inl zc|show .inr zc|assumption) :
 cM X T Z (.Assign [.Name x pos'] e pos) (fC ma (fe i)):=by
 refine PS.imp (SU hN hi hx he hs hf) λD σ H=>x4 λF r env bx R h=>?_;show#[F,r,env,bx,R,End.bC h λw bx1 F1 r1 v H1 g1 R1 d1 h1=>h1 F1 r1 _ H1 zS (R1.set d1 i)]
def ku (i j:Nat) (m:DE zam):aB:=λenv bx=>bC zC λws bx1=>match ws with|[x,y]=>.nx ((env.set i (ae x)).set j (ae y)) bx1|_=>.bad
theorem VC {i:Nat}{m:DE zam}{D:Ends}(h:tS T Z (ku i j m) D σ H):acD i j (Iw T Z m) D σ H:=by
 let#[F,r,env,bx,R,h]:=h;refine#[F,r,env,bx,R,End.bC h λws bx1 F1 r1 vs H1 g1 R1 d1 h1=>?_];split at h1
 .let#[v,t,rfl,q1,u,t2,rfl,q2,q3]:=d1;cases (show t2=[] from q3);show#[v,u,rfl,h1 F1 r1 _ H1 zS ((R1.set q1 i).set q2 j)]
 .show h1.elim
def u5 (F:Hp) (r:List aj) (ds:List W) (J:It):zu:=
 ∀ (T:Fr) (i:Nat) (F1:Hp) (r1:List aj) (σ1:St) (H1:Hp) (env1:aP) (bx1:List Bx),bf F r F1 r1->Rel T F1 r1 σ1 H1 env1 bx1 ->
  (ds.length=i->J.stop i H1) /\ ∀ w,ds[i]?=ae w->J.go i H1 /\ ∀ x H2,J.yW i H1 x H2->∃ F2,bf F1 r1 F2 r1 /\ Rel T F2 r1 σ1 H2 env1 bx1 /\ bN F2 r1 w x
def tI (T:Fr) (Z:Xs) (m:DE zam):TI:=λσ H R=>∃ F r env bx,Rel T F r σ H env bx /\ End T Z u5 F r σ env R zC
def ud (X:Cx) (T:Fr) (Z:Xs) (tg iter:au) (m:DE zam):zu:=PI X tg iter (tI T Z m)
theorem PI.imp {t t':TI}(h:PI X tg iter t) (f:∀ σ H Q,t' σ H Q->t σ H Q):PI X tg iter t':=λpins s σ H R I q=>h pins s σ H R I (f σ H R q)
noncomputable def bT (g:DG) (body:aB):List W->aB
 |[],env,bx=>.nx env bx
 | w::l,env,bx=>match g w env bx with
   |none=>.bad
   | some (env1,bx1)=>match body env1 bx1 with
     |.nx bq bx2=>bT g body l bq bx2
     |.ct bq bx2=>bT g body l bq bx2
     |.bk bq bx2=>.nx bq bx2
     |o=>o
def gZ (m:DE zam) (g:DG) (body:aB):aB:=λenv bx=>bC zC λds bx1=>bT g body ds env bx1
theorem LH {g:DG}{D:Ends}{H1 F1:Hp}{r1:List aj}{ds:List W}{J:It}(R1:Rel T F1 r1 σ H1 env bx1) (y1:u5 F1 r1 ds J) (h1:cR T Z F1 r1 D (bT g m ds env bx1)) :
 ∃ W:Nat->Nat->St->Hp->zu,(∃ m,W 0 m σ H1) /\ ∀ i n σ H,W i n σ H->(J.stop i H /\ D.nx σ H) \/ (J.go i H /\ ∃ N:St->Hp->zu,(∀ σ' H',N σ' H'->∃ n',n'<n /\ W (i+1) n' σ' H') /\ ∀ x H',J.yW i H x H'->tG T g x σ H' λσ2 H2=>tS T Z m { D with nx:=N,ct:=N,bk:=D.nx } σ2 H2):=by
 refine#[λi n σ' H'=>∃ pre l F' r' aN bx',ds=pre++l /\ pre.length=i /\ n=l.length /\ bf F1 r1 F' r' /\ Rel T F' r' σ' H' aN bx' /\ cR T Z F' r' D (bT g m l aN bx'),#[ds.length,[],ds,F1,r1,env,bx1,rfl,rfl,rfl,.refl F1 r1,R1,h1],?_];rintro i n σ' H' ⟨pre,l,F',r',aN,bx',pP,hi,hn,g',R',h'⟩;let#[ys,yg]:=y1 T i F' r' σ' H' aN bx' g' R';cases l with
 |nil=>show .inl #[ys (by rw[pP,uJ];lia),h' F' r' σ' H' (.refl F' r') R']
 |cons w l=>
   let#[go,yl]:=yg w (by rw[pP,dU zd,hi,tH];rfl);refine .inr #[go,λσ2 H2=>∃ F2 r2 bq bx2,bf F1 r1 F2 r2 /\ Rel T F2 r2 σ2 H2 bq bx2 /\ cR T Z F2 r2 D (bT g m l bq bx2),λσ2 H2 ⟨F2,r2,bq,bx2,g2,R2,h2⟩=>#[l.length,by rw[hn];show nF _,pre++[w],l,F2,r2,bq,bx2,by rw[pP,se];rfl,by rw[cZ,hi];rfl,rfl,g2,R2,h2],λx H2 hy=>?_];let#[F2,g2,R2,d2]:=yl x H2 hy;refine#[F2,r',aN,bx',w,R2,d2,?_];erw[bT]at h';cases eg:g w aN bx' with
   |none=>erw[eg]at h';show h'.elim
   |some o=>
     let#[pQ,bS]:=o;erw[eg]at h';intro F3 r3 σ3 H3 g3 R3;refine#[F3,r3,pQ,bS,R3,?_];have gg:=(g'.trans g2).trans g3;cases em:m pQ bS with
     |nx ue cK=>erw[em]at h';show λF4 r4 σ4 H4 g4 R4=>#[F4,r4,ue,cK,gg.trans g4,R4,cR.weak ((g2.trans g3).trans g4) h']
     |ct ue cK=>erw[em]at h';show λF4 r4 σ4 H4 g4 R4=>#[F4,r4,ue,cK,gg.trans g4,R4,cR.weak ((g2.trans g3).trans g4) h']
     |bk ue cK=>erw[em]at h';show λF4 r4 σ4 H4 g4 R4=>h' F4 r4 σ4 H4 ((g2.trans g3).trans g4) R4
     |rt w cK=>erw[em]at h';show cR.weak (g2.trans g3) (o:=.rt w cK) h'
     |exc c cK=>erw[em]at h';show cR.weak (g2.trans g3) (o:=.exc c cK) h'
     |bad=>erw[em]at h';show h'
theorem VD {g:DG}{D:Ends}(h:tS T Z (gZ mi g m) D σ H):HZ (tI T Z mi) (tG T g) (tS T Z m) D σ H:=by
 let#[F,r,env,bx,R,h]:=h;show#[F,r,env,bx,R,End.bC h λds bx1 F1 r1 J H1 g1 R1 y1 h1=>LH R1 y1 h1]
theorem Op {body:List cj}{g:DG}(hp:PassesOwn zg X.A X.env X.xe) (hc:X.calm=ah) (hi:ud X T Z tg iter mi) (hg:kS X T tg g) (hb:qt X T Z body m)
 (hs:∀ x,foldedSetIterable iter X.env x=pure x:=by intro _;rfl):cM X T Z (.For tg iter body [] pos) (gZ mi g m):=
 PS.imp (D5 hp hc hi hg hb hs) λD σ H h=>VD h
def bD (m:DE W):DE zam:=λenv bx=>fA zC λw bx1=>match w with|.d (.lst l)=>.val (l.map W.d) bx1|.d (.tup l)=>.val (l.map W.d) bx1|_=>.bad
end
noncomputable def n9:OS->O W
 |.rt w bx=>.val w bx
 |.nx _ bx=>.val (.d .non) bx
 |.exc c bx=>.exc c bx
 |_=>.bad
noncomputable def pd (n:Nat):O W->O W
 |.val (.d x) bx=>.val (.d x) (bx.take n)
 |.val w bx=>.val w bx
 |.exc c bx=>.exc c (bx.take n)
 |.bad=>.bad
noncomputable def envOf (n:Nat) (ws:List W):aP:=ws.map ae++List.replicate (n-ws.length) ag
def a5 (n:Nat) (m:aB):List W->List Bx->O W:=λws bx=>pd bx.length (n9 (m (envOf n ws) bx))
noncomputable def aQ (m:aB):aB:=λenv bx=>match m env bx with|.exc _ _=>.bad|o=>o
theorem kR.get {F:Hp}{r:List aj}:∀ {l:List W}{vs:List V}{i:Nat}{d:W},kR F r l vs->l[i]?=ae d->∃ v,vs[i]?=ae v /\ bN F r d v
 |[],_,_,_,_,e=>by simp at e
 | x::l,_,0,d,h,e=>by
   let#[v,t,q,h1,_]:=h;simp at e;subst e;subst q;show#[v,rfl,h1]
 | x::l,_,i+1,d,h,e=>by
   let#[v,t,q,_,h2]:=h;subst q;let#[u,e1,e2]:=kR.get (i:=i) h2 (by simpa using e);show#[u,by simpa using e1,e2]
theorem Rel.start {T:Fr}{F H:Hp}{r:List aj}{bx:List Bx}{N:List Str}{ws:List W}{vs:List V}(R:Rel T F r [] H [] bx) (d:kR F r ws vs):Rel T F r (start N vs) H (envOf N.length ws) bx:=by
 have hl:=d.length;refine#[R.fh,λi w e=>?_,R.len,R.nd,R.box,R.keep,R.new,R.n0,?_,R.fs]
 .unfold envOf at e;unfold L2.start;by_cases hi:i<ws.length
  .rw[eD (by rw[a6];show hi),kK]at e;cases q:ws[i]? with
   |none=>rw[q]at e;cases e
   |some w'=>
     rw[q]at e;cases e;let#[v,e1,e2]:=d.get q;refine#[v,?_,e2];rw[eD (by rw[a6,<-hl];show hi),kK,e1];rfl
  .rw[dU (by rw[a6];lia)]at e;rw[aa5]at e;split at e<;>cases e
 .unfold envOf L2.start;rw[cZ,cZ,a6,a6,Q3,Q3,hl];show aD _
theorem LI {l l':List α}(h:l <+: l'):l'.take l.length=l:=by
 let#[t,rfl]:=h;simp
theorem Rel.cut {r':List aj}{bx':List Bx}(g:bf F r F' r') (R:Rel #[H,r.length,F] F' r' [] H' [] bx'):Rel #[H,r.length,F] F' r [] H' [] (bx'.take r.length):=by
 have hr:r'.take r.length=r:=LI g.p;have hle:r.length<=r'.length:=g.p.length_le;have pre:∀ (n:Nat) (a:aj),r[n]?=ae a->r'[n]?=ae a:=λn a e=>by
  let#[t,rfl]:=g.p;rw[eD (List.getElem?_eq_some_iff.mp e).1];show e
 refine#[R.fh,λi w e=>by simp at e,?_,?_,λn c a e1 e2=>?_,λa u e hn=>?_,λn a hn e=>?_,aD _,aD _,λa u e=>?_]
 .rw[xa,<-R.len];lia
 .show List.Sublist.nodup (List.IsPrefix.sublist g.p) R.nd
 .have rh:=(List.getElem?_eq_some_iff.mp e2).1;rw[aa6 rh]at e1;show R.box n c a e1 (pre n a e2)
 .refine R.keep a u e λz=>?_;let#[m,em]:=List.mem_iff_getElem?.mp z;by_cases hm:m<r.length
  .have q:=pre m _ (dq hm);rw[em]at q;cases q;show hn (sj hm)
  .have q:=R.new m a (vB hm) em;have e':H a=ae u:=e;have q':H a=ag:=q;rw[e']at q';cases q'
 .rw[sf hn]at e;cases e
 .rcases R.fs a u e with y|z|z|z
  .show .inl y
  .show .inr (.inl z)
  .show .inr (.inr (.inl z))
  .let#[m,em]:=List.mem_iff_getElem?.mp z;by_cases hm:m<r.length
   .have q:=pre m _ (dq hm);rw[em]at q;cases q;show .inr (.inr (.inr (sj hm)))
   .show .inr (.inr (.inl (R.new m a (vB hm) em)))
theorem Oq {Q:VK}(hb:bx.length=r.length) {o:O W}(h:End #[H,r.length,F] Z bN F r [] [] Q (pd bx.length o)):End #[H,r.length,F] Z bN F r [] [] Q o:=by
 rw[hb]at h;cases o with
 |bad=>show h
 |exc c bx1=>show λF' r' H' g R=>h F' r H' #[g.s,pI r] (R.cut g)
 |val w bx1=>
   cases w with
   |d x=>show λF' r' v H' g R d=>h F' r v H' #[g.s,pI r] (R.cut g) d
   |b n=>show h
   |s l=>show h
   |x i=>show h
   |_=>show h
theorem Os {Q:VK}{o:OS}(h:End T Z bN F r [] [] Q (n9 o)):cR T Z F r { nx:=λ_ H'=>Q .non H',rt:=Q } o:=by
 cases o with
 |nx env bx=>show λF' r' σ' H' g R=>h F' r' .non H' g R.drop zc
 |rt w bx=>show λF' r' v H' g R d=>h F' r' v H' g R d
 |exc c bx=>show h
 |bk env bx=>show(show False from h).elim
 |ct env bx=>show(show False from h).elim
 |bad=>show h
section
variable {qual:Str} {f:aj} {ps:List Str} {k:Nat} {m:aB} 
theorem VE {sp:Sp}(G:kQ P w K mg base Ec k f fd ps sp):kQ P w K mg base CX k f fd ps sp:=
 #[G.len,λA outer s H args us vs Q E hr e0 hb hv hs=>wR (G.run A outer s H args us vs Q E hr e0 hb hv hs) λr s' h=>by
  cases r with
  |error e=>show False.elim h
  |ok fl=>
    cases fl with
    |ret u=>show h
    |next=>show h
    |brk=>show h
    |cont=>show h]
theorem VF (F:qp K x qual st f fd) (S:xF N ps (fO st))
 (vQ:∀ (bM:ai) (A:eE) (outer:List Env) (s:aq) (H:Hp) (E:XK) (n:Nat) (F0:Hp),di k (A.deeper (envOfC qual (fO st) s.heap.objs.size f bM)) ->
  qt (uU Ec P w K mg base N qual (fO st) f bM A outer s H E).xC #[H,n,F0] #[E0,cl] (gY st) m):kQ P w K mg base (qr P w) (k+1) f fd ps (ub cl ps.length (a5 N.length (aQ m))):=by
 refine VE (F.ok S (λvs H Q E h=>?_) (λbM A outer s H vs Q E hr h=>?_))
 .let#[F,r,ws,bx,_,d,hl,_]:=h;rw[<-d.length];show hl
 .let#[F,r,ws,bx,R,d,hl,h]:=h;refine#[_,vQ bM A outer s H E r.length F hr,F,r,envOf N.length ws,bx,R.start d,?_];have h':=Os (Oq R.len.symm h);unfold aQ at h';cases e:m (envOf N.length ws) bx with
  |nx env bx1=>erw[e]at h';show h'
  |rt w bx1=>erw[e]at h';show h'
  |bk env bx1=>erw[e]at h';show h'
  |ct env bx1=>erw[e]at h';show h'
  |exc c bx1=>erw[e]at h';show h'.elim
  |bad=>erw[e]at h';show h'
end
theorem F7:Passes (qr X.prog X.w) X E0:=λ_ _ _ _ _ _ _ h=>by
 let#[_,_,_,_,_,_,_,_,_,_,_,_,_,h]:=h;show h.elim
section
variable {m:aB} {aj8:List cj}
end
noncomputable def bindB {β:Type}(m:O α) (k:α->List Bx->O β):O β:=
 match m with
 |.val a bx=>k a bx
 |_=>.bad
def bH (g:DG) (tf:DE Bool) (te:DE W):List W->aP->List Bx->List D->O (List D)
 |[],_,bx,acc=>.val acc bx
 | w::l,env,bx,acc=>match g w env bx with
   |none=>.bad
   | some (env1,bx1)=>bindB (tf env1 bx1) λb bx2=>match b with
     |false=>bH g tf te l env1 bx2 acc
     | true=>bindB (te env1 bx2) λy bS=>match y with
       |.d d=>if acc.length<sizeLine then bH g tf te l env1 bS (acc++[d]) else .bad
       |_=>.bad
noncomputable def dM (src:List zaI) (env:aP):aP:=src.map λo=>o.bind λi=>(env[i]?).bind id
def fQ (bo:Bool) (src:List zaI) (mi:DE zam) (g:DG) (tf:DE Bool) (te:DE W):DE W:=λenv bx=>
 fA (mi env bx) λds bx1=>fA (bH g tf te ds (dM src env) bx1 []) λl bx2=>cu bo (ae zaZ) bx2
theorem Rel.src {T:Fr}{F H:Hp}{r:List aj}{σ:St}{env:aP}{bx:List Bx}(R:Rel T F r σ H env bx) (src:List zaI):Rel T F r (uX src σ) H (dM src env) bx:=by
 refine#[R.fh,λj w e=>?_,R.len,R.nd,R.box,R.keep,R.new,R.n0,?_,R.fs]
 .unfold dM at e;unfold L2.uX;rw[kK]at e ⊢;cases q:src[j]? with
  |none=>rw[q]at e;cases e
  |some o=>
    rw[q]at e;cases o with
    |none=>cases e
    |some i=>
      have e':(env[i]?).bind id=ae w:=Option.some.inj e;cases z:env[i]? with
      |none=>rw[z]at e';cases e'
      |some o'=>
        rw[z]at e';have e2:o'=ae w:=e';subst e2;let#[v,e1,e2]:=R.slot i w z;show#[v,by simp[e1],e2]
 .unfold dM L2.uX;rw[a6,a6];show aD _
theorem Rel.inner {r':List aj}{σ':St}{aN:aP}{bx':List Bx}(R:Rel T F r σ H env bx) (g:bf F r F' r') (R':Rel #[H,r.length,F] F' r' σ' H' aN bx'):Rel T F' r' σ' H' aN bx':=by
 have q:=R.after g R'.drop;show#[q.fh,R'.slot,q.len,q.nd,q.box,q.keep,q.new,q.n0,R'.sl,q.fs]
theorem Rel.again (R:Rel T F r σ H env bx):Rel #[H,r.length,F] F r σ H env bx:=
 #[R.fh,R.slot,R.len,R.nd,R.box,λa u e _=>e,λn a hn e=>(by rw[sf hn]at e;cases e),aD _,R.sl,λa u e=>.inr (.inl e)]
structure Own (F:Hp) (r:List aj) (H:Hp) (a:aj) (vs:List V):zu where
 h:H a=ae (.lst vs)
 f:F a=ag
 b:a∉r
theorem Own.inner {r':List aj}{σ':St}{aN:aP}{bx':List Bx}{vs:List V}(o:Own F r H a vs) (g:bf F r F' r') (R':Rel #[H,r.length,F] F' r' σ' H' aN bx'):Own F' r' H' a vs:=by
 have hb:a∉r':=λz=>by
  let#[m,em]:=List.mem_iff_getElem?.mp z;by_cases hm:m<r.length
  .let#[t,e]:=g.p;rw[<-e,eD hm]at em;show o.b (List.mem_iff_getElem?.mpr #[m,em])
  .have q:H a=ag:=R'.new m a (vB hm) em;rw[o.h]at q;cases q
 refine#[R'.keep a _ o.h hb,?_,hb];cases q:F' a with
 |none=>rfl
 |some u=>
   rcases R'.fs a u q with⟨Eh,rfl⟩|z|z|z
   .have:=R'.fh a _ q;rw[R'.keep a _ o.h hb]at this;cases this
   .have z':F a=ae u:=z;rw[o.f]at z';cases z'
   .have z':H a=ag:=z;rw[o.h]at z';cases z'
   .show absurd z hb
end L2.DL
namespace L2
theorem Jd (it:aj) (lo:Int) (n:Nat):Turn P w K tg (vN lo n) [it] it (λi h=>IsLongIter h it (lo+(i:Nat)*1) ((n:Int)-(i:Nat)) 1) where
 mem:=by simp
 obj:=λi h st b hb=>by
  have e:b=it:=by simpa using hb
  subst e;show#[_,st,λv z=>by
   have z':Data.fields _=Data.cell v:=z;cases z']
 keep:=λi h h' st k=>k it zi _ st
 item:=by
  intro X hP hw hK hc i pins s σ H E I hf st hg;subst hP hw hK;let#[f0,f1,f2,f3,f4,f5]:=hf it zi;have W:=Walks.longrange (prog:=X.prog) (w:=X.w) (I.ok.hd hc) it lo 1 n;refine W.item i s _ _ hg st λv h' tk hv nX kk=>?_;let#[t,rfl]:=hv;have I1:Inv X pins σ H { s with heap:=h',toks:=tk }:=I.turned (λb o hb e=>kk b o (by simpa using hb) e) f0 f1 f3 f4 f5;refine#[_,rfl,CM (s:={ s with heap:=h',toks:=tk }) (n:="longrange_iterator") nX zc zc (by decide) #[.int (lo+i),H,I1,#[t,?_],#[rfl,rfl],nX,λb hb=>(hf b hb).1]];rw[HK]
 done:=by
  intro X hP hw hK hc i pins s σ H E I hf st hg;subst hP hw hK;let#[f0,f1,f2,f3,f4,f5]:=hf it zi;show wpAny_pyNext_long_end (I.ok.hd hc) st (by have:n<=i:=hg;lia) λh' eb=>#[rfl,I.turned (t':=s.toks) (λb o hb e=>eb b o hb e) f0 f1 f3 f4 f5]
 self:=λ_ _ _ _ _ st h=>wpAny_pyIter_longiter st h
theorem oD {s:aq}{R:It->Hp->zu}{lo hi:Int}{t u v:Tok}{tk:Nat}(I:Inv X pins σ H s)
 (q:R (vN lo (hi-lo).toNat) H):wpAny zg X.A (pyIter zK) (XH X pins σ tg R) E { s with heap:=s.heap.push { cls:=.type "range",data:=.fields (List.toArray [.int lo t,.int hi u,.int 1 v]) },toks:=tk }:=by
 have e1:lo+((0:Nat):Int)*1=lo:=by simp
 have e2:(((hi-lo).toNat:Nat):Int)-((0:Nat):Int)=Builtin.Range.rangeSize lo hi 1:=by rw[aav];split<;>lia
 have I1:Inv X pins σ H { s with heap:=s.heap.push { cls:=.type "range",data:=.fields (List.toArray [.int lo t,.int hi u,.int 1 v]) },toks:=tk }:=I.kept λb o e=>aX _ e;have hf:∀ b∈[(s.heap.push { cls:=.type "range",data:=.fields (List.toArray [.int lo t,.int hi u,.int 1 v]) }).objs.size],nW X pins H b:=λb hb=>by
  have e:b=(s.heap.push { cls:=.type "range",data:=.fields (List.toArray [.int lo t,.int hi u,.int 1 v]) }).objs.size:=by simpa using hb
  subst e;show I1.vM (aD _) (I1.aC.fresh (aD _))
 cases hb:Builtin.Range.small lo hi 1 with
 |true=>
   refine aau (IsRange.new ..) hb ?_;refine#[_,_,_,_,H,rfl,I1.kept (t':=tk) λb o e=>aX _ e,Az _ lo (hi-lo).toNat,?_,hf,q];change IsRangeIter _ _ (lo+((0:Nat):Int)*1) ((((hi-lo).toNat:Nat):Int)-((0:Nat):Int)) 1;rw[e1,e2];show bF _ zc
 |false=>
   refine wpAny_pyIter_longrange (IsRange.new ..) hb ?_;refine#[_,_,_,_,H,rfl,I1.kept (t':=tk) λb o e=>aX _ e,Jd _ lo (hi-lo).toNat,?_,hf,q];change IsLongIter _ _ (lo+((0:Nat):Int)*1) ((((hi-lo).toNat:Nat):Int)-((0:Nat):Int)) 1;rw[e1,e2];show bF _ zc
def agx (ta:TA):TI:=λσ H R=>ta σ H λvs H1=>∃ i j:Int,vs=[.int i,.int j] /\ R (vN i (j-i).toNat) H1
theorem Je {a b:au}{ta:TA}{p:aL}(hg:Gl X "range") (hm:X.mg "range"=ag) (ha:PA X [a,b] ta) (hs:starEach [a,b] X.env=[(af,eval a X.env),(af,eval b X.env)]:=by rfl) (nv:starEach [b] X.env=[(af,eval b X.env)]:=by rfl) :
 PI X tg (.Call (.Name "range" p) [a,b] [] pos) (agx ta):=by
 intro pins s σ H R I h;refine Call_ (jv I hg hm boot_range (HE (tA (ha pos pins s σ H _ I h) λus s1 vs H1 I1 r1 q1=>?_) (by rw[hs,nv]) (by rw[nv];rfl)));let#[i,j,e,q]:=q1;subst e;cases r1 with
 |cons r rr=>
   cases rr with
   |cons r' rr=>
     cases rr;let#[t,rfl]:=r;let#[t',rfl]:=r';show call_range_2 (oD I1 q)
end L2
namespace L2.DL
theorem Rel.adg (R:Rel T F r σ H env bx) {o:HO}(h:H p=ag):Rel T F r σ (upd H p o) env bx:=by
 have hs:∀ a u,H a=ae u->upd H p o a=ae u:=λa u e=>by rw[fB (f7 e h)];show e
 show#[λa u e=>hs a u (R.fh a u e),R.slot,R.len,R.nd,λn c a e1 e2=>(R.box n c a e1 e2).grow (Sub.refl F) id (hs a),λa u e hn=>hs a u (R.keep a u e hn),R.new,R.n0,R.sl,R.fs]
theorem Rel.agy (R:Rel T F r σ H env bx) {vs:List V}{o:HO}(w:Own F r H p vs) (hT:T.H₀ p=ag):Rel T F r σ (upd H p o) env bx:=by
 refine#[λa u e=>?_,R.slot,R.len,R.nd,λn c a e1 e2=>?_,λa u e hn=>?_,R.new,R.n0,R.sl,R.fs]
 .rw[fB (λz=>by rw[z,w.f]at e;cases e)];show R.fh a u e
 .have ha:a≠p:=λz=>w.b (List.mem_iff_getElem?.mpr #[n,z▸e2]);show(R.box n c a e1 e2).grow (Sub.refl F) id λu z=>by rw[fB ha];show z
 .rw[fB (λz=>by rw[z,hT]at e;cases e)];show R.keep a u e hn
theorem Rel.agz (R:Rel T F r σ H env bx) {vs:List V}(w:Own F r H p vs) (hT:T.H₀ p=ag):Rel T (upd F p (.lst vs)) r σ H env bx /\ bf F r (upd F p (.lst vs)) r:=by
 have s:=iB (o:=.lst vs) w.f;refine#[#[λa u e=>?_,λi w e=>?_,R.len,R.nd,λn c a e1 e2=>?_,R.keep,R.new,R.n0,R.sl,λa u e=>?_],s,pI r]
 .by_cases ha:a=p
  .subst ha;rw[fw]at e;cases e;show w.h
  .rw[fB ha]at e;show R.fh a u e
 .let#[v,e1,e2]:=R.slot i w e;show#[v,e1,e2.mono s (pI r)]
 .have ha:a≠p:=λz=>w.b (List.mem_iff_getElem?.mpr #[n,z▸e2]);show(R.box n c a e1 e2).grow s (λz=>by rw[fB ha];show z) λu z=>z
 .by_cases ha:a=p
  .subst ha;show .inr (.inr (.inl hT))
  .rw[fB ha]at e;show R.fs a u e
theorem Rel.agA (R:Rel T F r σ H env bx) {vs:List V}{l:List D}(w:Own F r H p vs) (hT:T.H₀ p=ag) (d:aE F l vs):Rel T F (r++[p]) σ H env (bx++[.lst l]) /\ bf F r F (r++[p]) /\ (r++[p])[bx.length]?=ae p:=by
 have hx:(r++[p])[bx.length]?=ae p:=by rw[<-R.len,dU (aD _),tH];rfl
 have g:bf F r F (r++[p]):=#[Sub.refl F,xf r [p]];refine#[#[R.fh,λi w e=>?_,by rw[cZ,cZ,R.len];rfl,?_,λn c' a e1 e2=>?_,λa u e hn=>R.keep a u e λz=>hn (qM _ z),λn a hn e=>?_,by rw[cZ];show cC R.n0 (wX _ _),R.sl,λa u e=>(R.fs a u e).imp id (Or.imp id (Or.imp id λz=>qM _ z))],g,hx]
 .let#[v,e1,e2]:=R.slot i w e;show#[v,e1,g.den e2]
 .rw[vG];refine#[R.nd,by simp,λa ha b hb=>?_];rw[kN]at hb;subst hb;show λz=>w.b (z▸ha)
 .by_cases hn:n<r.length
  .rw[eD hn]at e2;rw[eD (by rw[<-R.len];show hn)]at e1;show R.box n c' a e1 e2
  .rw[dU zd]at e2;rw[dU (by rw[<-R.len];lia)]at e1;have hl:n-r.length=0:=by
    cases q:n-r.length with
    |zero=>rfl
    |succ k=>rw[q]at e2;simp at e2
   have eV:n-bx.length=0:=by rw[<-R.len];show hl
   rw[hl]at e2;rw[eV]at e1;simp at e1 e2;subst e1 e2;show#[w.f,vs,w.h,d]
 .by_cases hl:n<r.length
  .rw[eD hl]at e;show R.new n a hn e
  .have hp:a=p:=by
    rw[dU zd]at e;cases q:n-r.length with
    |zero=>rw[q]at e;simp at e;show e.symm
    |succ k=>rw[q]at e;simp at e
   subst hp;show hT
section
variable {src:List (Option Nat)} {elt:au} {scope:bW} {g:DG} 
abbrev xR (g:DG):TG:=λv σ H Q=>∃ T,tG T g v σ H Q
abbrev xS (Z:Xs) (tf:DE Bool):TT:=λσ H Q=>∃ T,sN T Z tf σ H Q
abbrev xT (Z:Xs) (te:DE W):TE:=λσ H Q=>∃ T,tD T Z te σ H Q
theorem Rel.slots {T':Fr}{r':List aj}{σ':St}{aN:aP}{bx':List Bx}(R:Rel T F r σ H env bx) (g:bf F r F' r') (R':Rel T' F' r' σ' H' aN bx'):Rel T' F' r' σ H' env bx' :=
 #[R'.fh,λi w e=>let ⟨v,e1,e2⟩:=R.slot i w e;#[v,e1,g.den e2],R'.len,R'.nd,R'.box,R'.keep,R'.new,R'.n0,R.sl,R'.fs]
theorem Fa {Q:VK}{F1 H1:Hp}{r1:List aj}{ds:List W}{J:It}(R1:Rel T F1 r1 σ H1 env bx1) (y1:u5 F1 r1 ds J)
 (h1:End T Z bN F1 r1 σ env Q (fA (bH g tf te ds (dM src env) bx1 []) λl bx2=>cu bo (ae zaZ) bx2)) (Da:aj) (hD:H1 Da=ag):ac3 J (xR g) (xS #[E0,Z.cl] tf) (xT #[E0,Z.cl] te) Da Q (uX src σ) (upd H1 Da (.lst [])):=by
 have hT:T.H₀ Da=ag:=by
  cases q:T.H₀ Da with
  |none=>rfl
  |some u=>rw[R1.keep Da u q (R1.xO hD)]at hD;cases hD
 have o0:Own F1 r1 (upd H1 Da (.lst [])) Da []:=#[fw,R1.qZ hD,R1.xO hD];refine#[λi n σ' H'=>∃ pre l F' r' aN bx' acc vs,ds=pre++l /\ pre.length=i /\ n=l.length /\ bf F1 r1 F' r' /\ Rel T F' r' σ' H' aN bx' /\ Own F' r' H' Da vs /\ aE F' acc vs /\
  End T Z bN F' r' σ env Q (fA (bH g tf te l aN bx' acc) λl bx2=>cu bo (ae zaZ) bx2),
  #[ds.length,[],ds,F1,r1,_,bx1,[],[],rfl,rfl,rfl,.refl F1 r1,(R1.adg hD).src src,o0,.nil,h1],?_]
 rintro i n σ' H' ⟨pre,l,F',r',aN,bx',acc,vs,pP,hi,hn,g',R',o',da,h'⟩;let#[ys,yg]:=y1 #[H',r'.length,F'] i F' r' σ' H' aN bx' g' R'.again;cases l with
 |nil=>
   refine .inl #[ys (by rw[pP,uJ];lia),?_];have RO:Rel T F' r' σ H' env bx':=R1.slots g' R';have hd:End T Z bN F' r' σ env Q (.val (.d (.lst acc)) bx')->Q (.ref Da) H':=λh'=>by
    let#[RA,gA]:=RO.agz o' hT;show h' _ r' _ H' gA RA #[Da,vs,rfl,fw,aE.mono gA.s acc da]
   cases bo with
   |false=>show hd h'
   |true=>
     let#[RB,gB,hx]:=RO.agA o' hT da;show h' F' _ _ H' gB RB #[Da,rfl,hx]
 |cons w l=>
   let#[go,yl]:=yg w (by rw[pP,dU zd,hi,tH];rfl);refine .inr #[go,λσ2 H2=>∃ F2 r2 bq bx2 IE Ej,bf F1 r1 F2 r2 /\ Rel T F2 r2 σ2 H2 bq bx2 /\ Own F2 r2 H2 Da Ej /\ aE F2 IE Ej /\
    End T Z bN F2 r2 σ env Q (fA (bH g tf te l bq bx2 IE) λl bx2=>cu bo (ae zaZ) bx2),
    λσ2 H2 ⟨F2,r2,bq,bx2,IE,Ej,g2,R2,o2,d2,h2⟩=>#[l.length,by rw[hn];show nF _,pre++[w],l,F2,r2,bq,bx2,IE,Ej,by rw[pP,se];rfl,by rw[cZ,hi];rfl,rfl,g2,R2,o2,d2,h2],λx H2 hy=>?_]
   let#[F2,g2,R2,d2]:=yl x H2 hy;have adh:=R'.inner g2 R2;have o2:=o'.inner g2 R2;refine#[#[H2,r'.length,F2],F2,r',aN,bx',w,adh.again,d2,?_];erw[bH]at h';cases eg:g w aN bx' with
   |none=>erw[eg]at h';show h'.elim
   |some o=>
     let#[pQ,bS]:=o;erw[eg]at h';intro F3 r3 σ3 H3 g3 R3;have adi:=adh.inner g3 R3;have o3:=o2.inner g3 R3;refine#[#[H3,r3.length,F3],F3,r3,pQ,bS,adi.again,?_];cases ef:tf pQ bS with
     |bad=>erw[ef,bindB]at h';show h'.elim
     |exc c cK=>erw[ef,bindB]at h';show h'.elim
     |val b cK=>
       erw[ef,bindB]at h';intro F4 r4 b' H4 g4 R4 eb;subst eb;have Yk:=adi.inner g4 R4;have o4:=o3.inner g4 R4;have adj:bf F1 r1 F4 r4:=((g'.trans g2).trans g3).trans g4;have Yl:bf F' r' F4 r4:=(g2.trans g3).trans g4;cases b with
       |false=>
         rw[if_neg ze];show#[F4,r4,pQ,cK,acc,vs,adj,Yk,o4,aE.mono Yl.s acc da,End.weak Yl h']
       |true=>
         rw[if_pos rfl];refine#[#[H4,r4.length,F4],F4,r4,pQ,cK,Yk.again,?_];cases ee:te pQ cK with
         |bad=>erw[ee]at h';show h'.elim
         |exc c adk=>erw[ee]at h';show h'.elim
         |val y adk=>
           erw[ee]at h';intro F5 r5 v H5 g5 R5 d5;have agB:=Yk.inner g5 R5;have o5:=o4.inner g5 R5;have adl:=Yl.trans g5;cases y with
           |d d=>
             simp only at h';split at h'
             .ext hz;have agC:=aE.mono adl.s acc da;refine#[vs,o5.h,by rw[<-da.length];show hz,F5,r5,pQ,adk,acc++[d],vs++[v],adj.trans g5,agB.agy o5 hT,#[fw,o5.f,o5.b],agC.append (.cons d5 .nil),End.weak adl h']
             .show h'.elim
           |b n=>show h'.elim
           |s l=>show h'.elim
           |x i=>show h'.elim
           |_=>show h'.elim
theorem LJ {Q:VK}(h:tD T Z (fQ bo src mi g tf te) σ H Q):Iu src (tI T Z mi) (xR g) (xS #[E0,Z.cl] tf) (xT #[E0,Z.cl] te) σ H Q:=by
 let#[F,r,env,bx,R,h]:=h;show#[F,r,env,bx,R,End.bind h λds bx1 F1 r1 J H1 g1 R1 y1 h1=>Fa R1 y1 h1]
theorem Ou (bo:Bool) (hc:X.calm=ah) (S:qY X N src scope) (hi:ud X T Z tg iter mi)
 (hg:∀ T cl s H C fp,kS zH T tg g) (hf:∀ T cl s H C fp,PF zH ifs (sN T #[E0,Z.cl] tf)) (he:∀ T cl s H C fp,PD zH T #[E0,Z.cl] elt te)
 (hs:∀ x,foldedSetIterable iter X.env x=pure x:=by intro _;rfl):PD X T Z zw (fQ bo src mi g tf te):=
 PE.imp (Oc (src:=src) (g:=xR g) (tf:=xS #[E0,Z.cl] tf) (te:=xT #[E0,Z.cl] te) hc S hi (λcl s H C fp pins s' σ' H' v u Q I rv ⟨T,q⟩=>hg T cl s H C fp pins s' σ' H' v u Q I rv q)
  (λcl s H C fp pins s' σ' H' Q I ⟨T,q⟩=>hf T cl s H C fp pins s' σ' H' Q I q) (λcl s H C fp pins s' σ' H' Q I ⟨T,q⟩=>he T cl s H C fp pins s' σ' H' Q I q) hs) λσ H Q h=>LJ h
noncomputable def fS:DE Bool:=λ_ bx=>.val ah bx
theorem Ov:PF X [] (sN T Z fS):=λpins s σ H Q I ⟨F,r,env,bx,R,h⟩=>Tg pins s σ H Q I (h F r ah H (.refl F r) R zc)
theorem Ow {c:au}{t:DE Bool}(h:eJ X T Z c t):PF X [c] (sN T Z t):=Th h
theorem BE {l:List D}{i:Nat}{w:W}(e:(l.map W.d)[i]?=ae w):∃ d,l[i]?=ae d /\ w=.d d:=by
 rw[kK]at e;cases q:l[i]? with
 |none=>rw[q]at e;cases e
 |some d=>rw[q]at e;cases e;show#[d,rfl,rfl]
noncomputable def fJ (lo:Int) (n:Nat):List W:=(List.range n).map λ(i:Nat)=>W.d (.int (lo+i))
theorem mS (lo:Int) (n:Nat):u5 F r (fJ lo n) (vN lo n):=λT i F1 r1 σ1 H1 env1 bx1 g R=>by
 unfold fJ;refine#[λhl=>?_,λw e=>?_]
 .rw[a6,xg]at hl;show wW hl
 .rw[kK]at e;cases q:(List.range n)[i]? with
  |none=>rw[q]at e;cases e
  |some j=>
    rw[q]at e;cases e;let#[h1,h2]:=List.getElem?_eq_some_iff.mp q;rw[List.getElem_range]at h2;subst h2;rw[xg]at h1;refine#[h1,λx H2 ⟨e1,e2⟩=>?_];subst e1 e2;show#[F1,.refl F1 r1,R,rfl]
def cS (k:DE zam):DE zam:=λenv bx=>fA (k env bx) λws bx1=>match ws with
 |[.d (.int j)]=>if -(2 ^ 62)<=j /\ j<2 ^ 62 then .val (fJ 0 j.toNat) bx1 else .bad
 |_=>.bad
theorem Fb {a:au}{p:aL}{k:DE zam}(hg:Gl X "range") (hm:X.mg "range"=ag) (ha:dJ X T Z [a] k) (hs:starEach [a] X.env=[(af,eval a X.env)]:=by rfl):ud X T Z tg (.Call (.Name "range" p) [a] [] pos) (cS k):=by
 refine PI.imp (GV hg hm ha hs) λσ H Q=>x4 λF r env bx R h=>?_;refine#[F,r,env,bx,R,End.bind h λws bx1 F1 r1 vs H1 g1 R1 d1 h1=>?_];split at h1
 .ext j;split at h1
  .ext hj;let#[v,t,rfl,e1,e2]:=d1;cases (show t=[] from e2);cases (show v=.int j from e1);show#[j,rfl,hj.1,hj.2,h1 F1 r1 _ H1 zS R1 (mS 0 j.toNat)]
  .show h1.elim
 .show h1.elim
def rj (k:DE zam):DE zam:=λenv bx=>fA (k env bx) λws bx1=>match ws with
 |[.d (.int i),.d (.int j)]=>.val (fJ i (j-i).toNat) bx1
 |_=>.bad
theorem Fc {a b:au}{p:aL}{k:DE zam}(hg:Gl X "range") (hm:X.mg "range"=ag) (ha:dJ X T Z [a,b] k) (hs:starEach [a,b] X.env=[(af,eval a X.env),(af,eval b X.env)]:=by rfl) (nv:starEach [b] X.env=[(af,eval b X.env)]:=by rfl) :
 ud X T Z tg (.Call (.Name "range" p) [a,b] [] pos) (rj k):=by
 refine PI.imp (Je hg hm ha hs nv) λσ H Q=>x4 λF r env bx R h=>?_;refine#[F,r,env,bx,R,End.bind h λws bx1 F1 r1 vs H1 g1 R1 d1 h1=>?_];split at h1
 .ext i j;let#[v,t,rfl,e1,v2,t2,rfl,e2,e3]:=d1;cases (show t2=[] from e3);cases (show v=.int i from e1);cases (show v2=.int j from e2);show#[i,j,rfl,h1 F1 r1 _ H1 zS R1 (mS i _)]
 .show h1.elim
end
section
variable {a b c:au} {mc:DE W} {p:aL}
def adm (K:PySem.W.Frag):R2:=λx y H Q=>∃ a b ys,x=.ref a /\ y=.ref b /\ cQ K H a [] /\ cQ K H b ys /\ Q (.ref b) H
theorem LK:bp X (binaryOp .Add) (adm X.K):=by
 intro pins s σ H x y v u Q I rx ry h;let#[a,b,ys,rfl,rfl,ha,hb,q]:=h;cases rx;cases ry;let#[its,r1,p1,_]:=I.tuple ha;let#[qW,r2,p2,_]:=I.tuple hb;cases r1;let#[#[cls,dd,data,sl],ho,hc,n,hd]:=id p1;let#[#[acO,uV,data2,sD],sF,eT,n2,hd2]:=id p2;simp only at hc hd eT hd2;subst hc hd eT hd2
 show QE #[_,ho,rfl] #[_,sF,rfl] QF QG Xo Xp (Xq _ _)
  (tuple_addW0 a b ([]:List ai).toArray qW.toArray n n2 dd uV sl sD zi) #[ho,sF,#[.ref b,H,I,rfl,q]]
def adn (K:PySem.W.Frag):R2:=λx y H Q=>kP (λi j=>.int (i+j)) x y H Q \/ acQ K x y H Q \/ adm K x y H Q \/ ac0 x y H Q \/ ∃ i j,x=.str i /\ y=.str j /\ i.length+j.length<=sizeLine /\ Q (.str (i++j)) H
theorem Ox:bp X (binaryOp .Add) (adn X.K):=SY.or (Oa.or (LK.or (Tf.or D6)))
noncomputable def fK:D->D->Option Res
 |.int i,.int j=>ae (.old (.int (i+j)))
 |.tup a,.tup b=>if a.length+b.length<=sizeLine then ae (.tup (a++b)) else ag
 |.lst a,.lst b=>if a.length+b.length<=sizeLine then ae (.lst (a++b)) else ag
 |.str a,.str b=>if a.length+b.length<=sizeLine then ae (.old (.str (a++b))) else ag
 |_,_=>ag
theorem aE.eq_nil {l:List D}{vs:List V}(h:aE F l vs):vs=[] ↔ l=[]:=by
 have:=h.length;cases l<;>cases vs<;>simp_all
theorem agD:cD (adn K) fK:=by
 intro F H x y v w Q s sub rx ry e k;unfold fK at e;split at e
 .ext i j;cases e;show .inl #[i,j,rx,ry,k _ _ #[rfl,rfl]]
 .ext l l';split at e
  .ext hz;cases e;let#[a,vs,rfl,h1,h2]:=rx;let#[b,ws,rfl,h3,h4]:=ry;by_cases hv:vs=[]
   .subst hv;have hl:l=[]:=h2.eq_nil.mp zc;subst hl;show .inr (.inr (.inl #[a,b,ws,rfl,rfl,.of (sub _ _ h1),.of (sub _ _ h3),k _ _ (.inl #[rfl,b,ws,rfl,h3,h4])]))
   .refine .inr (.inl #[a,b,vs,ws,rfl,rfl,.of (sub _ _ h1),.of (sub _ _ h3),hv,by rw[<-h2.length,<-h4.length];show hz,λhw=>?_,λhw p hp=>k _ _ (.inr #[p,vs++ws,rfl,hp,rfl,h2.append h4])]);have hl:l'=[]:=h4.eq_nil.mp hw;subst hl;show k _ _ (.inl #[rfl,a,vs,rfl,h1,by rw[uJ];show h2])
  .cases e
 .ext l l';split at e
  .ext hz;cases e;let#[a,vs,rfl,h1,h2]:=rx;let#[b,ws,rfl,h3,h4]:=ry;show .inr (.inr (.inr (.inl #[a,b,vs,ws,rfl,rfl,h1,h3,by rw[<-h2.length,<-h4.length];show hz,λp hp=>k _ _ #[p,vs++ws,rfl,hp,rfl,h2.append h4]])))
  .cases e
 .ext i j;split at e
  .ext hz;cases e;show .inr (.inr (.inr (.inr #[i,j,rx,ry,hz,k _ _ #[rfl,rfl]])))
  .cases e
 .cases e
theorem IF {C:Int->Int->zu} [∀ i j,Decidable (C i j)] {g:Int->Int->D}{gv:Int->Int->V}(hg:∀ i j F,Den F (g i j) (gv i j)):cD (rI C gv) λx y=>match x,y with|.int i,.int j=>if C i j then ae (.old (g i j)) else ag|_,_=>ag:=by
 intro F H x y v w Q s sub rx ry e k;dsimp only at e;split at e
 .ext i j;split at e
  .ext hc;cases e;show#[i,j,rx,ry,hc,k _ _ #[rfl,hg i j F]]
  .cases e
 .cases e
theorem IG {g:Int->Int->D}{gv:Int->Int->V}(hg:∀ i j F,Den F (g i j) (gv i j)):cD (kP gv) λx y=>match x,y with|.int i,.int j=>ae (.old (g i j))|_,_=>ag:=by
 intro F H x y v w Q s sub rx ry e k;dsimp only at e;split at e
 .ext i j;cases e;show#[i,j,rx,ry,k _ _ #[rfl,hg i j F]]
 .cases e
noncomputable def cX:D->D->Option Res:=λx y=>match x,y with|.int i,.int j=>ae (.old (.int (i-j)))|_,_=>ag
theorem agE:cD (kP λi j=>.int (i-j)) cX:=IG (g:=λi j=>.int (i-j)) λ_ _ _=>rfl
instance (i j:Int):Decidable (uT i j):=by unfold uT;show inferInstance
instance (i j:Int):Decidable (uS i j):=by unfold uS;show inferInstance
instance (i j:Int):Decidable (xE i j):=by unfold xE;show inferInstance
noncomputable def pR:D->D->Option Res:=λx y=>match x,y with|.int i,.int j=>if uS i j then ae (.old (.int (i / j))) else ag|_,_=>ag
theorem agF:cD (rI uS λi j=>.int (i / j)) pR:=IF (g:=λi j=>.int (i / j)) λ_ _ _=>rfl
noncomputable def ph:D->D->Option Res:=λx y=>match x,y with|.int i,.int j=>if 0<j then ae (.old (.int (i % j))) else ag|_,_=>ag
theorem agG:cD (rI (λ_ j=>0<j) λi j=>.int (i % j)) ph:=IF (C:=λ_ j=>0<j) (g:=λi j=>.int (i % j)) λ_ _ _=>rfl
noncomputable def uf:D->D->Option Res:=λx y=>match x,y with|.int i,.int j=>if xE i j then ae (.old (.int (i ^ j.toNat))) else ag|_,_=>ag
theorem agH:cD (rI xE λi j=>.int (i ^ j.toNat)) uf:=IF (g:=λi j=>.int (i ^ j.toNat)) λ_ _ _=>rfl
noncomputable def intsOf:List D->Option (List Int)
 |[]=>ae []
 |.int i::l=>(intsOf l).map λt=>i::t
 |_=>ag
theorem aE.ints {F:Hp}:∀ {l:List D}{vs:List V}{ns:List Int},aE F l vs->intsOf l=ae ns->vs=ns.map V.int
 |[],_,_,h,e=>by cases e;show h
 | .int i::l,_,ns,h,e=>by
   let#[v,r,q,h1,h2]:=h;unfold intsOf at e;cases e2:intsOf l with
   |none=>rw[e2]at e;cases e
   |some t=>
     rw[e2]at e;cases e;rw[q,h2.ints e2,show v=.int i from h1];rfl
 |.non::l,_,_,_,e=>by cases e
 |.bl _::l,_,_,_,e=>by cases e
 |.str _::l,_,_,_,e=>by cases e
 |.tup _::l,_,_,_,e=>by cases e
 |.lst _::l,_,_,_,e=>by cases e
 |.aA _::l,_,_,_,e=>by cases e
noncomputable def eK:D->D->Option Res:=λx y=>match x,y with|.int i,.int j=>ae (.old (.bl (decide (j<i))))|_,_=>ag
theorem agI:cD (kP λi j=>.bl (decide (j<i))) eK:=IG (g:=λi j=>.bl (decide (j<i))) λ_ _ _=>rfl
noncomputable def ug:D->D->Option Res:=λx y=>match x,y with|.int i,.int j=>ae (.old (.bl (decide (j<=i))))|_,_=>ag
theorem agJ:cD (kP λi j=>.bl (decide (j<=i))) ug:=IG (g:=λi j=>.bl (decide (j<=i))) λ_ _ _=>rfl
def ax:D->D->Option Res
 |.lst l,.int i=>(bu l i).map Res.old
 |.tup l,.int i=>(bu l i).map Res.old
 |_,_=>ag
theorem F8 {l:List D}{vs:List V}{i:Int}{d:D}(h:aE F l vs) (e:bu l i=ae d):∃ v,bu vs i=ae v /\ Den F d v:=by
 unfold bu at e ⊢;rw[<-h.length];cases q:bQ l.length i with
 |none=>rw[q]at e;cases e
 |some j=>rw[q]at e;show h.get e
theorem agK:cD (acU K) ax:=by
 intro F H x y v w Q s sub rx ry e k;unfold ax at e;split at e
 .ext l i;let#[a,vs,rfl,h1,h2]:=rx;cases e1:bu l i with
  |none=>rw[e1]at e;cases e
  |some d=>
    rw[e1]at e;cases e;let#[u,e2,du]:=F8 h2 e1;show .inl #[a,vs,i,u,rfl,ry,.of h1,e2,k _ _ #[rfl,du]]
 .ext l i;let#[a,vs,rfl,h1,h2]:=rx;cases e1:bu l i with
  |none=>rw[e1]at e;cases e
  |some d=>
    rw[e1]at e;cases e;let#[u,e2,du]:=F8 h2 e1;show .inr (.inl #[a,vs,i,u,rfl,ry,.of (sub _ _ h1),e2,k _ _ #[rfl,du]])
 .cases e
noncomputable def cz:List D->Option Res
 |[.lst l]=>ae (.old (.int l.length))
 |[.tup l]=>ae (.old (.int l.length))
 |_=>ag
theorem agL:kF (λxs H Q=>∃ p ys,xs=[.ref p] /\ (bX K H p ys \/ cQ K H p ys) /\ Q (.int ys.length) H) cz:=by
 intro F H xs vs Q s sub rx e k;unfold cz at e;split at e
 .ext l;cases e;let#[v,t,rfl,#[a,us,rfl,h1,h2],rt]:=rx;cases (show t=[] from rt);show#[a,us,rfl,.inl (.of h1),k _ _ #[rfl,by rw[<-h2.length];rfl]]
 .ext l;cases e;let#[v,t,rfl,#[a,us,rfl,h1,h2],rt]:=rx;cases (show t=[] from rt);show#[a,us,rfl,.inr (.of (sub _ _ h1)),k _ _ #[rfl,by rw[<-h2.length];rfl]]
 .cases e
noncomputable def rn:D->String
 |.non=>"NoneType"|.bl _=>"bool"|.int _=>"int"|.str _=>"str"|.tup _=>"tuple"|.lst _=>"list"|.aA _=>"dict"
noncomputable def u6 (S T:String):Bool:=S==T||(S == "bool"&&T == "int")
def pS (K:PySem.W.Frag) (T:String):zu:=∀ d:D,PySem.W.kitOne K (.type (rn d)) (.type T)=ae (u6 (rn d) T)
theorem VG (sub:Sub F H):∀ {d:D}{v:V},nZ F H d v->nY K H v (.type (rn d))
 |.non,_,h=>by cases (show _=V.non from h);show .non
 |.bl b,_,h=>by cases (show _=V.bl b from h);show .bl b
 |.int b,_,h=>by cases (show _=V.int b from h);show .int b
 |.str b,_,h=>by cases (show _=V.str b from h);show .str b
 |.tup l,_,h=>by let#[a,vs,rfl,h1,h2]:=h;show .tup (sub _ _ h1)
 |.lst l,_,h=>by let#[a,vs,rfl,h1,h2]:=h;show .lst h1
 |.aA l,_,h=>by let#[a,vs,rfl,h1,h2]:=h;show .dK h1
def ls (n:String) (m:DE W):DE W:=λenv bx=>fA zC λw bx1=>match bY bx1 w with|some d=>.val (.d (.bl (u6 (rn d) n))) bx1|none=>.bad
theorem Oy {n:String}{p p1:aL}(hT:pS X.K n) (hg:Gl X "isinstance") (hm:X.mg "isinstance"=ag) (v3:Gl X x) (v7:X.mg x=ag) (hv:bootBuiltins x=ae (.type n)) (ha:PD X T Z a ma)
 (hn:x ≠ "__name__":=by decide) (dI:(x==("__debug__":Str))=af:=by decide)
 (ado:starEach [a,.Name x p1] X.env=(af,eval a X.env)::starEach [.Name x p1] X.env:=by rfl) (agM:starEach [.Name x p1] X.env=(af,eval (.Name x p1) X.env)::starEach [] X.env:=by rfl)
 (nq:(backTo pos (starEach [.Name x p1] X.env)).any (·.1)=af:=by rfl):PD X T Z (.Call (.Name "isinstance" p) [a,.Name x p1] [] pos) (ls n ma):=by
 refine PE.imp (mN G8 hg hm zay (jg ha (jg (NV v3 v7 hv (v:=.ty n) zc hn dI) lh agM) ado) ze ze ado nq) λσ H Q=>x4 λF r env bx R h=>?_;refine#[F,r,env,bx,R,End.bind h λw bx1 F1 r1 v H1 g1 R1 d1 h1=>?_];cases e:bY bx1 w with
 |none=>erw[e]at h1;show h1.elim
 |some d=>
   erw[e]at h1;show#[v,.ty n,_,.type n,_,rfl,.of (VG R1.fh (R1.rf d1 e)),rfl,hT d,h1 F1 r1 _ H1 zS R1 zc]
end
section
variable {a b c:au} {mc:DE W} {p:aL}
def adp (K:PySem.W.Frag):R2:=λx y H Q=>∃ a b xs,x=.ref a /\ y=.ref b /\ bX K H a xs /\ bX K H b [] /\ Q (.bl (!xs.isEmpty)) H
theorem Tz (hu:X.A.units<cLine):bp X (compareOp .NotEq) (adp X.K):=by
 intro pins s σ H x y v u Q I rx ry h;let#[a,b,xs,rfl,rfl,h1,h2,q]:=h;cases rx;cases ry;let#[i1,r1,p1,z1]:=I.list h1;let#[i2,r2,p2,z2]:=I.list h2;cases r2;cases r1 with
 |nil=>show SeqAt.RcNeAt.lists (items:=([]:List ai).toArray) (items2:=([]:List ai).toArray) (e:=λ_=>ah) p1.isList p2.isList zc hu (λj h1 h2=>absurd h2 zi) X.prog X.w X.xe _ #[.bl af,H,I,rfl,q]
 |cons _ _=>show afg (items2:=([]:List ai).toArray) p1.isList p2.isList zi hu X.prog X.w X.xe _ #[.bl ah,H,I,rfl,q]
def IH (K:PySem.W.Frag):R2:=λx y H Q=>acJ x y H Q \/ adp K x y H Q
theorem Oz (hu:X.A.units<cLine):bp X (compareOp .NotEq) (IH X.K):=Vt.or (Tz hu)
noncomputable def Ym:D->D->Option Res
 |.int i,.int j=>ae (.old (.bl (!decide (i=j))))
 |.str i,.str j=>ae (.old (.bl (!decide (i=j))))
 |.lst l,.lst []=>ae (.old (.bl (!l.isEmpty)))
 |_,_=>ag
theorem agN:cD (IH K) Ym:=by
 intro F H x y v w Q s sub rx ry e k;unfold Ym at e;split at e
 .ext i j;cases e;cases (show v=.int i from rx);cases (show w=.int j from ry);show .inl #[rfl,k _ _ #[rfl,by change _=_;simp]]
 .ext i j;cases e;cases (show v=.str i from rx);cases (show w=.str j from ry);show .inl #[rfl,k _ _ #[rfl,by change _=_;simp]]
 .ext l;cases e;let#[a,vs,rfl,h1,h2]:=rx;let#[b,ws,rfl,h3,h4]:=ry;cases (show ws=[] from h4);show .inr #[a,b,vs,rfl,rfl,.of h1,.of h3,k _ _ #[rfl,by change _=_;rw[h2.isEmpty]]]
 .cases e
def adq (K:PySem.W.Frag) (vs:List V) (H:Hp) (Q:VK):zu:=∃ (p:aj) (bs:List Bool),vs=[.ref p] /\ H p=ae (.lst (bs.map V.bl)) /\ Q (.bl (bs.all id)) H
theorem Jf (hc:X.calm=ah):eF X (.builtin "all") (adq X.K):=by
 intro pins s σ H xs us Q I rv h;let#[p,bs,rfl,hp,q]:=h;let#[u,rfl,ru]:=Vals.one rv;cases ru;let#[its,r1,p1,z1]:=I.list (bX.of (K:=X.K) hp);have hl:=p1.isList;have rh:p<s.heap.objs.size:=by let#[_,e,_]:=hl;show bj e
 have hlen:bs.length=its.length:=by have:=r1.length;simpa using this
 refine call_all_walk (yx hl ?_);refine#[s.heap.objs.size,[s.heap.objs.size,p],[s.heap.objs.size],its.toArray.size,_,_,λi=>(bs[i]?).getD ah,rfl,Walks.list (A:=X.A.in1) (I.ok.hd hc) _ p (cB rh) its.toArray,
  #[#[_,bF _ zc,rfl,rfl],hl.push _],λi v s' Q' E' hP hQ=>?_,λh' tk hk=>?_]
 .have Ek:its[i]?=ae v:=by simpa using hP
  have hi:i<bs.length:=by rw[hlen];show(List.getElem?_eq_some_iff.mp Ek).1
  let#[w,e1,e2]:=r1.get (i:=i) (x:=V.bl bs[i]) (by simp[hi]);rw[Ek]at e1;cases e1;cases e2;erw[dq hi,vH]at hQ;show p7 hQ
 .have e:((List.range its.toArray.size).all λi=>(bs[i]?).getD ah)=bs.all id:=by
   rw[bL,<-hlen];show LSm.range_all bs
  rw[e];show#[.bl _,H,I.kept (t':=tk) (acf hk),rfl,q]
noncomputable def pT:List D->Option (List Bool)
 |[]=>ae []
 |.bl i::l=>(pT l).map λt=>i::t
 |_=>ag
theorem aE.Yn {F:Hp}:∀ {l:List D}{vs:List V}{ns:List Bool},aE F l vs->pT l=ae ns->vs=ns.map V.bl
 |[],_,_,h,e=>by cases e;show h
 | .bl i::l,_,ns,h,e=>by
   let#[v,r,q,h1,h2]:=h;unfold pT at e;cases e2:pT l with
   |none=>rw[e2]at e;cases e
   |some t=>
     rw[e2]at e;cases e;rw[q,h2.Yn e2,show v=.bl i from h1];rfl
 |.non::l,_,_,_,e=>by cases e
 |.int _::l,_,_,_,e=>by cases e
 |.str _::l,_,_,_,e=>by cases e
 |.tup _::l,_,_,_,e=>by cases e
 |.lst _::l,_,_,_,e=>by cases e
 |.aA _::l,_,_,_,e=>by cases e
def dt:List D->Option Res
 |[.lst l]=>(pT l).map λbs=>.old (.bl (bs.all id))
 |_=>ag
theorem agO:kF (adq K) dt:=by
 intro F H xs vs Q s sub rx e k;unfold dt at e;split at e
 .ext l;let#[v,t,rfl,#[a,us,rfl,h1,h2],rt]:=rx;cases (show t=[] from rt);cases e1:pT l with
  |none=>rw[e1]at e;cases e
  |some bs=>
    rw[e1]at e;cases e;have q1:=h2.Yn e1;subst q1;show#[a,bs,rfl,h1,k _ _ #[rfl,rfl]]
 .cases e
theorem agP:kF (λxs H Q=>∃ p ys,xs=[.ref p] /\ ((bX K H p ys /\ ∀ l,H l=ag->Q (.ref l) (upd H l (.tup ys))) \/ (cQ K H p ys /\ Q (.ref p) H)))
 (λxs=>match xs with|[.lst l]=>ae (.tup l)|[.tup l]=>ae (.tup l)|_=>ag):=by
 intro F H xs vs Q s sub rx e k;dsimp only at e;split at e
 .ext l;cases e;let#[v,t,rfl,#[a,us,rfl,h1,h2],rt]:=rx;cases (show t=[] from rt);show#[a,us,rfl,.inl #[.of h1,λp hp=>k _ _ (.inr #[p,us,rfl,hp,rfl,h2])]]
 .ext l;cases e;let#[v,t,rfl,#[a,us,rfl,h1,h2],rt]:=rx;cases (show t=[] from rt);show#[a,us,rfl,.inr #[.of (sub _ _ h1),k _ _ (.inl #[rfl,a,us,rfl,h1,h2])]]
 .cases e
noncomputable def pU:List D->Option Res:=λxs=>match xs with|[.lst l]=>ae (.tup l)|[.tup l]=>ae (.tup l)|_=>ag
noncomputable def xV:List D->Option Res:=λxs=>match xs with|[.lst l]=>ae zaZ|[.tup l]=>ae zaZ|_=>ag
theorem agQ:kF (λxs H Q=>∃ p ys,xs=[.ref p] /\ (bX K H p ys \/ cQ K H p ys) /\ ∀ l,H l=ag->Q (.ref l) (upd H l (.lst ys))) xV:=by
 intro F H xs vs Q s sub rx e k;unfold xV at e;split at e
 .ext l;cases e;let#[v,t,rfl,#[a,us,rfl,h1,h2],rt]:=rx;cases (show t=[] from rt);show#[a,us,rfl,.inl (.of h1),λp hp=>k _ _ #[p,us,rfl,hp,rfl,h2]]
 .ext l;cases e;let#[v,t,rfl,#[a,us,rfl,h1,h2],rt]:=rx;cases (show t=[] from rt);show#[a,us,rfl,.inr (.of (sub _ _ h1)),λp hp=>k _ _ #[p,us,rfl,hp,rfl,h2]]
 .cases e
noncomputable def maxD:List D->Option Res:=λxs=>match xs with|[.int i,.int j]=>ae (.old (.int (if j>i then j else i)))|_=>ag
theorem agR:kF (λxs H Q=>∃ i j,xs=[.int i,.int j] /\ Q (.int (if j>i then j else i)) H) maxD:=by
 intro F H xs vs Q s sub rx e k;unfold maxD at e;split at e
 .ext i j;cases e;let#[v,t,rfl,h1,v2,t2,rfl,h2,rt]:=rx;cases (show t2=[] from rt);cases (show v=.int i from h1);cases (show v2=.int j from h2);show#[i,j,rfl,k _ _ #[rfl,rfl]]
 .cases e
noncomputable def minD:List D->Option Res:=λxs=>match xs with|[.int i,.int j]=>ae (.old (.int (if j<i then j else i)))|_=>ag
theorem agS:kF (λxs H Q=>∃ i j,xs=[.int i,.int j] /\ Q (.int (if j<i then j else i)) H) minD:=by
 intro F H xs vs Q s sub rx e k;unfold minD at e;split at e
 .ext i j;cases e;let#[v,t,rfl,h1,v2,t2,rfl,h2,rt]:=rx;cases (show t2=[] from rt);cases (show v=.int i from h1);cases (show v2=.int j from h2);show#[i,j,rfl,k _ _ #[rfl,rfl]]
 .cases e
end
end L2.DL
namespace HT
section
variable {s:aq}
theorem mT {t sl:aj}{vl vu:ai}{lo hi:Option Int}(ht:IsTup s.heap t items) (hs:s.heap.IsSliceOf sl vl vu .none) (pl:IsPart vl lo) (pu:IsPart vu hi)
 (hw:aU items.size 0 lo=0 /\ aU items.size items.size hi=items.size) (h:Q (.ref t) s):wpAny zh A (getItem (.ref t) (.ref sl)) Q E s:=by
 let#[os,vR,Ij,pP]:=id hs;have XY:s.TypeIs (.ref sl) "slice":=#[os,vR,Ij];unfold getItem;try with_reducible refine hG ?_
 first|refine ak (ay ?_)|skip
 refine ak (aay ht.typeIs ze ?_);refine ak (qK (name:=Str.ofString "__getitem__") ht.typeIs xo
  (hV xo ht.typeIs abB ?_ (abC _ _)))
 change wpAny _ _ (Builtin.Tuple.tupleItemsOf (.ref t) >>= _) _ _ s;refine ak (abD ht ?_);refine ak (vw XY ?_);rw[if_pos ze];refine ak (jz hs pl pu ?_);have agT:(zQ=ah):=by
  rw[hw.1,hw.2];simp
 change wpAny _ _ (if zQ=ah then _ else _) _ _ s;rw[if_pos agT];refine ak (m:=Builtin.Tuple.tupleIsExact (.ref t)) ?_;unfold Builtin.Tuple.tupleIsExact;refine ak (vw ht.typeIs (ay ?_));rw[if_pos ze];show ak (p8 (ay #[_,rfl,ay h]))
theorem AG {β:Type}{f g:α->Option β}:∀ {l:List α},(∀ x∈l,f x=g x)->l.filterMap f=l.filterMap g:=by
 intro l_;induction l_ with
 |nil=>show λ_=>rfl
 |cons x l az=>
   intro h;rw[pH,pH,h x bE,az λy hy=>h y (bB _ hy)]
theorem AH (n:Nat):sliceRange ((n:Int)-1) (-1) (-1)=(List.range n).map λk=>n-1-k:=by
 have e:(if (-1:Int)>0 then (if (n:Int)-1 < -1 then (-1-((n:Int)-1)+-1-1) / -1 else 0) else (if (n:Int)-1>-1 then ((n:Int)-1 - -1 - -1-1) / (- -1) else 0):Int).toNat=n:=by
  rw[if_neg ze];split
  .have:((n:Int)-1 - -1 - -1-1) / (- -1)=n:=by
    rw[show (- -1:Int)=1 by decide,abL];lia
   rw[this];rfl
  .lia
 change (List.range (if (-1:Int)>0 then (if (n:Int)-1 < -1 then (-1-((n:Int)-1)+-1-1) / -1 else 0) else (if (n:Int)-1>-1 then ((n:Int)-1 - -1 - -1-1) / (- -1) else 0):Int).toNat).map _=_;rw[e];refine qO λk hk=>?_;have:=List.mem_range.mp hk;lia
theorem Bp (its:List ai):slicePick its.toArray ag ag (ae (-1))=its.reverse.toArray:=by
 unfold slicePick;have e:sliceBounds ag ag (ae (-1)) its.toArray.size=((its.length:Int)-1,-1,-1):=by
  simp[sliceBounds]
 rw[e];congr 1;change (sliceRange ((its.length:Int)-1) (-1) (-1)).filterMap (its.toArray[·]?)=_;rw[AH,Q4];apply xh;intro i;have h1:(List.range its.length).filterMap ((λx=>its.toArray[x]?)∘λk=>its.length-1-k)=(List.range its.length).map λk=>(its[its.length-1-k]?).getD .none:=by
  rw[<-List.filterMap_eq_map];refine AG λk hk=>?_;have sL:=List.mem_range.mp hk;have rh:its.length-1-k<its.length:=by lia
  simp[rh]
 rw[h1,kK];by_cases hi:i<its.length
 .have rh:its.length-1-i<its.length:=by lia
  rw[List.getElem?_range hi,List.getElem?_reverse hi];simp[rh]
 .rw[sf (by simpa using vB hi),sf (by simpa using vB hi)];rfl
end
end HT
namespace L2.DL
section
variable {a b c:au} {mc:DE W} {p p2:aL} {lo hi:Option au}
def ads (K:PySem.W.Frag):V->Option Int->Option Int->Hp->VK->zu:=λx lo hi H Q=>∃ a xs,x=.ref a /\ cQ K H a xs /\
 (HT.aU xs.length 0 lo=0 /\ HT.aU xs.length xs.length hi=xs.length) /\ Q (.ref a) H
theorem OA:tY X (ads X.K):=by
 intro pins s σ H x v vl vu lo hi sl Q I rx hs pl pu h;let#[a,xs,rfl,hx,hw,q]:=h;cases rx;let#[its,r,ht,hz]:=I.tuple hx;have hlen:its.toArray.size=xs.length:=by rw[bL];show r.length.symm
 show#["tuple",_,xo.lookup,ht.typeIs,HT.mT ht hs pl pu (by rw[hlen];show hw) #[.ref a,H,I,rfl,q]]
def adt (K:PySem.W.Frag):V->Option Int->Option Int->Hp->VK->zu:=λx lo hi H Q=>acP K x lo hi H Q \/ ads K x lo hi H Q \/ acV K x lo hi H Q
theorem TB:tY X (adt X.K):=S9.or (OA.or Ob)
def cutD (xs:List D) (lo hi:Option Int):List D:=(xs.drop (HT.aU xs.length 0 lo)).take (HT.aU xs.length xs.length hi-HT.aU xs.length 0 lo)
theorem F9 {l:List D}{vs:List V}(h:aE F l vs) (lo hi:Option Int):aE F (cutD l lo hi) (uW vs lo hi):=by
 unfold cutD uW;rw[h.length];show(h.drop _).take _
def sP:D->Option Int->Option Int->Option Res
 |.tup l,lo,hi=>ae (.tup (cutD l lo hi))
 |.lst l,lo,hi=>ae (.lst (cutD l lo hi))
 |_,_,_=>ag
theorem agU {x:D}{lo hi:Option Int}{Q:VK}{s:Res}(sub:Sub F H) (rx:nZ F H x v) (e:sP x lo hi=ae s) (k:∀ u H',vZ F H s u H'->Q u H'):adt K v lo hi H Q:=by
 cases x with
 |tup l=>
   cases e;let#[a,vs,rfl,h1,h2]:=rx;by_cases hw:HT.aU vs.length 0 lo=0 /\ HT.aU vs.length vs.length hi=vs.length
   .refine .inr (.inl #[a,vs,rfl,.of (sub _ _ h1),hw,k _ _ (.inl #[rfl,?_])]);have e:cutD l lo hi=l:=by
     unfold cutD;rw[h2.length,hw.1,hw.2,He,aba,<-h2.length,Hr]
    rw[e];show#[a,vs,rfl,h1,h2]
   .show .inl #[a,vs,rfl,.of (sub _ _ h1),hw,λp hp=>k _ _ (.inr #[p,_,rfl,hp,rfl,F9 h2 lo hi])]
 |lst l=>
   cases e;let#[a,vs,rfl,h1,h2]:=rx;show .inr (.inr #[a,vs,rfl,.of h1,λp hp=>k _ _ #[p,_,rfl,hp,rfl,F9 h2 lo hi]])
 |_=>cases e
abbrev agV:Hp->List aj->Option Int->Option Int->zu:=λ_ _ a b=>a=b
def agW (T:Fr) (Z:Xs) (m:DE (Option Int)):TO:=λσ H Q=>∃ F r env bx,Rel T F r σ H env bx /\ End T Z agV F r σ env Q zC
def El (X:Cx) (T:Fr) (Z:Xs) (e:Option au) (m:DE (Option Int)):zu:=PO X e (agW T Z m)
theorem PO.imp {e:Option au}{t t':TO}(h:PO X e t) (f:∀ σ H Q,t' σ H Q->t σ H Q):PO X e t':=λpins s σ H Q I q=>h pins s σ H Q I (f σ H Q q)
noncomputable def kT:DE (Option Int):=λ_ bx=>.val ag bx
def kI (m:DE W):DE (Option Int):=λenv bx=>fA zC λw bx1=>match w with|.d (.int i)=>.val (ae i) bx1|_=>.bad
theorem TC:El X T Z ag kT:=PO.imp N8 λσ H Q=>x4 λF r env bx R h=>h F r ag H (.refl F r) R zc
theorem LL (h:PD X T Z e ma):El X T Z (ae e) (kI ma):=by
 refine PO.imp (N9 h) λσ H Q=>x4 λF r env bx R h=>?_;refine#[F,r,env,bx,R,End.bind h λw bx1 F1 r1 v H1 g1 R1 d1 h1=>?_];split at h1
 .ext i;show#[i,d1,h1 F1 r1 _ H1 zS R1 zc]
 .show h1.elim
def kJ (bo:Bool) (m:DE W) (l u:DE (Option Int)):DE W:=λenv bx=>fA zC λx bx1=>fA (l env bx1) λi bx2=>fA (u env bx2) λj bS=>cu bo ((bY bS x).bind λd=>sP d i j) bS
theorem LM {l u:DE (Option Int)}(bo:Bool) (ha:PD X T Z e ma) (hl:El X T Z lo l) (hu:El X T Z hi u):PD X T Z (.Subscript e (.Slice lo hi ag p2) pos) (kJ bo ma l u):=by
 refine PE.imp (Ll TB ha hl hu) λσ H Q=>x4 λF r env bx R h=>?_;refine#[F,r,env,bx,R,End.bind h λx bx1 F1 r1 v H1 g1 R1 d1 h1=>?_];refine#[F1,r1,env,bx1,R1,End.bind h1 λi bx2 F2 r2 i' H2 g2 R2 d2 h2=>?_];refine#[F2,r2,env,bx2,R2,End.bind h2 λj bS F3 r3 j' H3 g3 R3 d3 h3=>?_];subst d2 d3;cases e1:bY bS x with
 |none=>rw[e1]at h3;show h3.elim
 |some d=>
   rw[e1]at h3;erw[cb]at h3;cases e2:sP d i j with
   |none=>rw[e2]at h3;show h3.elim
   |some s=>
     rw[e2]at h3;show agU R3.fh (R3.rf (g3.den (g2.den d1)) e1) e2 λu H' k=>iC R3 h3 k
theorem TD {te:TE}{i:Int}{q1 q2:aL}(he:PE X e te):PE X (.Subscript e (.Slice ag ag (ae (.UnaryOp .USub (.Constant (.int 1) j q1) q2)) p2) pos)
 (λσ H Q=>te σ H λx H1=>∃ a xs,x=.ref a /\ bX X.K H1 a xs /\ ∀ p,H1 p=ag->Q (.ref p) (upd H1 p (.lst xs.reverse))):=by
 intro pins s σ H Q I h;refine Subscript_ (tE (he pins s σ H _ I h) λv s1 x H1 I1 r1 q1=>?_);refine aaA ?_;rw[QH];refine ay (ay ?_);rw[aaz];refine tE (R7 (X:=X) Ld J2 pins s1 σ H1 (λy H2=>y=.int (-1) /\ H2=H1) I1 #[1,rfl,rfl,rfl]) λvs s3 y H3 I3 r3 hh=>?_;let#[e1,e2]:=hh;subst e1 e2;let#[t,rfl]:=r3;let#[a,xs,rfl,hx,q]:=q1;cases r1;have I4:Inv X pins σ H3 { s3 with heap:=s3.heap.push { cls:=.type "slice",data:=.fields (List.toArray [.none,.none,.int (-1) t]) } }:=I3.kept (t':=s3.toks) λb ob q=>aX _ q;let#[its,r,ht,hz]:=I4.list hx;have hlen:=r.length;have hg:wpAny zg X.A (getItem (.ref a) (.ref s3.heap.objs.size)) zaz X.xe { s3 with heap:=s3.heap.push { cls:=.type "slice",data:=.fields (List.toArray [.none,.none,.int (-1) t]) } }:=by
  refine aaB (lo:=ag) (hi:=ag) (st:=ae (-1)) ht.isList (Heap.IsSliceOf.new ..) .none .none (.int (-1) t) zi ?_ (by rw[bL]<;>lia);rw[HT.Bp];refine#[.ref _,_,I4.laid (t':=s3.toks) (o:=.lst xs.reverse) (λb ob q=>aX _ q) (aD _) ?_,rfl,q _ (I4.aC.fresh (aD _))];show#[by rw[List.length_reverse];show hz,_,0,r.reverse,bF _ zc]
 change wpAny zg X.A (subscriptTail e (.Slice ag ag (ae (.UnaryOp .USub (.Constant (.int 1) j _) q2)) p2) (.ref a) (.ref s3.heap.objs.size)) zaz X.xe _;show W4 (ops:=[.ref a,.ref s3.heap.objs.size]) ht.isList.typeIs slot_list_getitem.lookup hg (by with_unfolding_all rfl)
def II (bo:Bool) (m:DE W):DE W:=λenv bx=>fA zC λx bx1=>cu bo ((bY bx1 x).bind λd=>match d with|.lst l=>ae (.lst l.reverse)|_=>ag) bx1
theorem TF {q1 q2:aL}(bo:Bool) (ha:PD X T Z e ma):PD X T Z (.Subscript e (.Slice ag ag (ae (.UnaryOp .USub (.Constant (.int 1) j q1) q2)) p2) pos) (II bo ma):=by
 refine PE.imp (TD (i:=0) ha) λσ H Q=>x4 λF r env bx R h=>?_;refine#[F,r,env,bx,R,End.bind h λx bx1 F1 r1 v H1 g1 R1 d1 h1=>?_];cases e1:bY bx1 x with
 |none=>rw[e1]at h1;show h1.elim
 |some d=>
   rw[e1]at h1;cases d with
   |lst l=>
     let#[a,vs,rfl,k1,k2]:=R1.rf d1 e1;show#[a,vs,rfl,.of k1,λp hp=>iC R1 h1 #[p,_,rfl,hp,rfl,k2.reverse]]
   |_=>show h1.elim
def xW (m:DE W):DE W:=λenv bx=>fA zC λw bx1=>match w with|.d (.int i)=>.val (.d (.int (-i))) bx1|_=>.bad
theorem TH (ha:PD X T Z a ma):PD X T Z (.UnaryOp .USub a pos) (xW ma):=by
 refine PE.imp (R7 Ld ha) λσ H Q=>x4 λF r env bx R h=>?_;refine#[F,r,env,bx,R,End.bind h λw bx1 F1 r1 v H1 g1 R1 d1 h1=>?_];split at h1
 .ext i;show#[i,d1,h1 F1 r1 _ H1 zS R1 zc]
 .show h1.elim
end
end L2.DL
namespace HT
section
variable {s:aq}
theorem CT {l:aj}{Q:List ai->aq->zu}(hl:IsTup s.heap l vs.toArray) (hz:vs.length<=sizeLine)
 (h:Q vs { s with heap:=(s.heap.push (seqObj "list" #[] 0)).update s.heap.objs.size (Obj.mapSeq (·++vs.toArray)) }):wpAny zh A (collect (.ref l)) Q E s:=by
 let#[ob,ho,xK,k,rq]:=id hl;unfold collect;refine ak (QK (uE entry_proto_collect' (ak (yz (ay #[acg _ zay,uE entry_list_iadd' ?_])))));change wpAny _ _ (Builtin.List.listExtendWith zK (.ref l) zK) _ _ { s with heap:=s.heap.push (seqObj "list" #[] 0) };unfold Builtin.List.listExtendWith;have rz:(s.heap.push (seqObj "list" #[] 0)).get? l=ae ob:=aX _ ho;refine ak (vw (T:="tuple") #[ob,rz,xK] ?_);rw[if_pos (by rw[show (Value.type "tuple"==Value.type "tuple")=ah by decide,Bool.or_true])];refine ak (xl rz rq (ak (xl (xs:=#[]) (n:=0) (bF _ zc) zc ?_)));rw[if_neg zi];refine ak (HF (xs:=#[]) (n:=0) (bF _ zc) zc (ay ?_) (eS _) (by change (#[]++vs.toArray).size<=sizeLine+1;erw[Array.size_append,bL,nS];lia));refine ak (wQ (abF (bF _ zc) _) (show wpAny _ _ (pure ((#[]:Array ai)++vs.toArray).toList) Q E _ from ?_));rw[show ((#[]:Array ai)++vs.toArray).toList=vs by simp];show ay h
theorem AI {l:aj}(hl:IsTup s.heap l vs.toArray) (hI:IntsAre vs ns) (dZ:vs.length<64)
 (h:∀ (out:Array ai) (nM:List Int),IntsAre out.toList nM->nM.Perm ns->nM.Pairwise (·<=·)->Q (.ref zx) { s with heap:=sortedAll s.heap vs out }):wpAny zh A (call (.builtin "sorted") [.ref l]) Q E s:=by
 refine Xn W5 W6 W7 (W8 _) ?_;unfold Builtin.«sorted»;refine ak (m:=checkCount "sorted" 1 1 _) (ay (ak (CT hl (cC (nR dZ) ze) (ak (yz ?_)))));have hsz:((s.heap.push (seqObj "list" #[] 0)).update s.heap.objs.size (Obj.mapSeq (·++vs.toArray))).objs.size=s.heap.objs.size+1:=by rw[aby,uN]
 have HR:(((s.heap.push (seqObj "list" #[] 0)).update s.heap.objs.size (Obj.mapSeq (·++vs.toArray))).push zaF).get? zx=ae zaF:=by rw[<-hsz];show bF _ zc
 change wpAny _ _ _ _ _ { s with heap:=((s.heap.push (seqObj "list" #[] 0)).update s.heap.objs.size (Obj.mapSeq (·++vs.toArray))).push zaF };rw[hsz];show ak (hG (hV W9 #[_,HR,rfl] Xa (abG HR hI dZ λout nM a1 a2 a3=>#[_,rfl,ay #[_,rfl,h out nM a1 a2 a3]]) (Xb _)))
end
end HT
namespace L2.DL
noncomputable def sortI (ns:List Int):List Int:=ns.mergeSort λa b=>decide (a<=b)
theorem gC (ns:List Int):(sortI ns).Perm ns:=abb ns _
theorem iO (ns:List Int):(sortI ns).Pairwise (·<=·):=by
 have h:=abd (le:=λa b:Int=>decide (a<=b)) (λa b c h1 h2=>by simp at *;lia) (λa b=>by simp;lia) ns;show h.imp λq=>by simpa using q
theorem oY {a b:List Int}(p:a.Perm b) (ha:a.Pairwise (·<=·)) (hb:b.Pairwise (·<=·)):a=b:=
 p.eq_of_pairwise (λx y _ _ h1 h2=>Int.le_antisymm h1 h2) ha hb
section
variable {a b c:au} {mc:DE W} {p p2:aL}
def IJ (K:PySem.W.Frag) (vs:List V) (H:Hp) (Q:VK):zu:=∃ (p:aj) (ns:List Int),vs=[.ref p] /\ (bX K H p (ns.map V.int) \/ cQ K H p (ns.map V.int)) /\ ns.length<64 /\ ∀ l,H l=ag->Q (.ref l) (upd H l (.lst ((sortI ns).map V.int)))
theorem oF:∀ {us:List ai}{ns:List Int},IntsAre us ns->Vals (ns.map V.int) us
 |_,_,.nil=>.nil
 |_,_,.cons n t h=>.cons #[t,rfl] (oF h)
theorem Jg:eF X (.builtin "sorted") (IJ X.K):=by
 intro pins s σ H xs us Q I rv h;let#[p,ns,rfl,hp,dZ,q]:=h;let#[u,rfl,ru]:=Vals.one rv;cases ru;have fin:∀ (its:List ai) (out:Array ai) (nM:List Int),IntsAre out.toList nM->nM.Perm ns->nM.Pairwise (·<=·)->EP X pins σ Q (.ref zx) { s with heap:=sortedAll s.heap its out }:=λits out nM a1 a2 a3=>by
  let#[k,he]:=abH s.heap its out;have e:nM=sortI ns:=oY (a2.trans (gC ns).symm) a3 (iO ns);subst e;have hf:H zx=ag:=I.aC.fresh (qb _);have ll:((sortI ns).map V.int).length<=sizeLine:=by
   rw[a6,(gC ns).length_eq];show cC (nR dZ) ze
  refine#[.ref zx,_,I.laid (t':=s.toks) (o:=.lst ((sortI ns).map V.int)) (λb ob q=>abI q) (qb _) ?_,rfl,q _ hf];show#[ll,out.toList,k,oF a1,he]
 rcases hp with hp|hp
 .let#[its,r1,p1,z1]:=I.list hp;have hl:ns.length=its.length:=by have:=r1.length;simpa using this
  show sorted_ints p1.isList (AC r1) zd λout nM=>fin its out nM
 .let#[its,r1,p1,z1]:=I.tuple hp;have hl:ns.length=its.length:=by have:=r1.length;simpa using this
  show HT.AI p1 (AC r1) zd λout nM=>fin its out nM
def u7:List D->Option Res
 |[.lst l]=>(intsOf l).bind λns=>if ns.length<64 then ae (.lst ((sortI ns).map D.int)) else ag
 |[.tup l]=>(intsOf l).bind λns=>if ns.length<64 then ae (.lst ((sortI ns).map D.int)) else ag
 |_=>ag
theorem AJ:∀ (ns:List Int),aE F (ns.map D.int) (ns.map V.int):=by
 intro l_;induction l_ with
 |nil=>show rfl
 |cons n ns az=>show .cons zc (az)
theorem agX:kF (IJ K) u7:=by
 intro F H xs vs Q s sub rx e k;unfold u7 at e;split at e
 .ext l;let#[v,t,rfl,#[a,us,rfl,h1,h2],rt]:=rx;cases (show t=[] from rt);cases e1:intsOf l with
  |none=>rw[e1]at e;cases e
  |some ns=>
    rw[e1]at e;erw[cb]at e;split at e
    .ext dZ;cases e;have q1:=h2.ints e1;subst q1;show#[a,ns,rfl,.inl (.of h1),dZ,λl hl=>k _ _ #[l,_,rfl,hl,rfl,AJ _]]
    .cases e
 .ext l;let#[v,t,rfl,#[a,us,rfl,h1,h2],rt]:=rx;cases (show t=[] from rt);cases e1:intsOf l with
  |none=>rw[e1]at e;cases e
  |some ns=>
    rw[e1]at e;erw[cb]at e;split at e
    .ext dZ;cases e;have q1:=h2.ints e1;subst q1;show#[a,ns,rfl,.inr (.of (sub _ _ h1)),dZ,λl hl=>k _ _ #[l,_,rfl,hl,rfl,AJ _]]
    .cases e
 .cases e
def kU (m:DE W) (k:DE W):DE W:=λenv bx=>fA zC λx bx1=>match x with
 | .b n=>(match bx1[n]? with
   | some (.lst _)=>fA (k env bx1) λy bx2=>(match y,bx2[n]? with
     |.d d,ae (.lst l)=>if l.length<sizeLine then .val (.d .non) (bx2.set n (.lst (l++[d]))) else .bad
     |_,_=>.bad)
   |_=>.bad)
 |_=>.bad
theorem VH {Q:VK}(h:tD T Z (kU ma mb) σ H Q):Ip X.K "list" acX (tD T Z ma) (Ig (tD T Z mb) Ie) σ H Q:=by
 let#[F,r,env,bx,R,h]:=h;refine#[F,r,env,bx,R,End.bind h λx bx1 F1 r1 v H1 g1 R1 d1 h1=>?_];cases x with
 |b n=>
   simp only at h1;let#[a,rfl,ha]:=d1;let#[c,hc,kc]:=R1.eU ha;rw[hc]at h1;cases c with
   |lst l0=>
     let#[_,sQ,k0,_]:=kc;refine#[.inl #[rfl,sQ,bX.of k0],?_];refine#[F1,r1,env,bx1,R1,End.bind h1 λy bx2 F2 r2 u H2 g2 R2 d2 h2=>?_];let#[t,et]:=g2.p;have rC:r2[n]?=ae a:=by rw[<-et,eD (List.getElem?_eq_some_iff.mp ha).1];show ha
     let#[c2,eT,rD]:=R2.eU rC;rw[eT]at h2;cases y with
     |d dd=>
       cases c2 with
       |lst l=>
         simp only at h2;split at h2
         .ext hz;let#[hF,vs,k1,k2]:=rD;refine#[a,vs,u,rfl,rfl,k1,by rw[<-k2.length];show hz,?_];show h2 F2 r2 _ _ (.refl F2 r2) (R2.write rC hF #[hF,vs++[u],fw,k2.append (.cons d2 .nil)]) zc
         .show h2.elim
       |_=>show h2.elim
     |_=>show h2.elim
   |_=>show h1.elim
 |_=>show h1.elim
end
end L2.DL
namespace L2
section
variable {κ:Type} [DecidableEq κ]
noncomputable def eu (ao:List (κ×V)) (k:κ):Option V:=(ao.find? λkv=>decide (kv.1=k)).map (·.2)
noncomputable def putK (ao:List (κ×V)) (k:κ) (v:V):List (κ×V):=
 if (ao.any λkv=>decide (kv.1=k))=ah then ao.map (λkv=>if kv.1=k then (kv.1,v) else kv) else ao++[(k,v)]
noncomputable def qu (ao:List (κ×V)) (k:κ):List (κ×V):=ao.filter λkv=>decide (kv.1≠k)
theorem jA {p:κ×V}{r:List (κ×V)}{k:κ}(e:p.1=k):eu (p::r) k=ae p.2:=by simp[eu,ng,e]
theorem iZ {p:κ×V}{r:List (κ×V)}{k:κ}(e:¬ p.1=k):eu (p::r) k=eu r k:=by simp[eu,ng,e]
theorem LN (k:κ):∀ ao:List (κ×V),(ao.any λkv=>decide (kv.1=k))=(eu ao k).isSome:=by
 intro l_;induction l_ with
 |nil=>show rfl
 |cons p r az=>
   rw[qi];by_cases e:p.1=k
   .erw[jA e,decide_eq_true e,aa4,Option.isSome_some]
   .rw[iZ e,decide_eq_false e,QY];show az
theorem lu (ao:List (κ×V)) (k:κ) (v:V):(putK ao k v).length<=ao.length+1:=by
 unfold putK;split
 .rw[a6];lia
 .rw[cZ,bw,nS];lia
theorem nU.xX {o:Option V}{u:Option ai}(r:nU o u):o.isSome=u.isSome:=by
 cases o with
 | none=>cases u with
   |none=>rfl
   |some _=>show(show False from r).elim
 | some _=>cases u with
   |none=>show(show False from r).elim
   |some _=>rfl
theorem nU.getD {o:Option V}{u:Option ai}{d:V}{d':ai}(r:nU o u) (rd:RelV d d'):RelV (o.getD d) (u.getD d'):=by
 cases o with
 | none=>cases u with
   |none=>show rd
   |some _=>show(show False from r).elim
 | some _=>cases u with
   |none=>show(show False from r).elim
   |some _=>show r
theorem KV.val {ao:List (κ×V)}{vs:List (κ×ai)}(r:KV ao vs) (k:κ):nU (eu ao k) (valueAt vs k):=by
 unfold KV at r;induction r with
 |nil=>show True.intro
 |@cons p q ps qs h t ih=>
   let#[h1,h2]:=h;by_cases e:p.1=k
   .have e':q.1=k:=h1.symm.trans e;have b:valueAt (q::qs) k=ae q.2:=by simp[valueAt,ng,e']
    rw[jA e,b];show h2
   .have e':¬ q.1=k:=λz=>e (h1.trans z);have b:valueAt (q::qs) k=valueAt qs k:=by simp[valueAt,ng,e']
    rw[iZ e,b];show ih
theorem KV.any {ao:List (κ×V)}{vs:List (κ×ai)}(r:KV ao vs) (k:κ):(ao.any λkv=>decide (kv.1=k))=vs.any λkv=>decide (kv.1=k):=by
 unfold KV at r;induction r with
 |nil=>rfl
 |cons h t ih=>rw[qi,qi,ih,h.1]
theorem KV.Yo {ao:List (κ×V)}{vs:List (κ×ai)}(r:KV ao vs) (k:κ) {y:V}(ry:RelV y u) :
 KV (ao.map λkv=>if kv.1=k then (kv.1,y) else kv) (vs.map λkv=>if kv.1=k then (kv.1,u) else kv):=by
 unfold KV at r ⊢;induction r with
 |nil=>show .nil
 |@cons p q ps qs h t ih=>
   rw[aO,aO];refine .cons ?_ ih;let#[h1,h2]:=h;by_cases e:p.1=k
   .rw[if_pos e,if_pos (h1.symm.trans e)];show#[h1,ry]
   .rw[if_neg e,if_neg (λz=>e (h1.trans z))];show#[h1,h2]
theorem KV.put {ao:List (κ×V)}{vs:List (κ×ai)}(r:KV ao vs) (k:κ) {y:V}(ry:RelV y u):KV (putK ao k y) (stored vs k u):=by
 unfold putK stored;rw[r.any k];by_cases e:(vs.any λkv=>decide (kv.1=k))=ah
 .rw[if_pos e,if_pos e];show r.Yo k ry
 .rw[if_neg e,if_neg e];show Paired.snoc r #[rfl,ry]
theorem KV.drop {ao:List (κ×V)}{vs:List (κ×ai)}(r:KV ao vs) (k:κ):KV (qu ao k) (without vs k):=by
 unfold KV at r ⊢;unfold qu without;induction r with
 |nil=>show .nil
 |@cons p q ps qs h t ih=>
   let#[h1,h2]:=h;rw[Ht,Ht];by_cases e:p.1=k
   .have a:¬ decide (p.1≠k)=ah:=by simp[e]
    have b:¬ decide (q.1≠k)=ah:=by simp[h1.symm.trans e]
    rw[if_neg a,if_neg b];show ih
   .have e':¬ q.1=k:=λz=>e (h1.trans z);have a:decide (p.1≠k)=ah:=by simp[e]
    have b:decide (q.1≠k)=ah:=by simp[e']
    rw[if_pos a,if_pos b];show .cons #[h1,h2] ih
theorem KV.length {ao:List (κ×V)}{vs:List (κ×ai)}(r:KV ao vs):ao.length=vs.length:=Paired.length r
theorem CU (ao:List (κ×V)) (k:κ):(qu ao k).length<=ao.length:=xi _ _
end
theorem mU {k:Key}(r:RelV (kV k) u):(dh P w).is k u=ah:=by
 cases k with
 |inl i=>let#[t,e]:=(show ∃ t,u=Value.int i t from r);subst e;show CI P w i t
 |inr x=>let#[t,e]:=(show ∃ t,u=Value.str x t from r);subst e;show CJ P w x t
theorem Jh:∀ {ks:List Key}{us:List ai},Vals (ks.map kV) us->ItemsAre (dh P w) ks us:=by
 intro l_;induction l_ with
 |nil=>(intro _ r;rw[xb]at r;cases r;show .nil)
 |cons k ks az=>
   intro _ r;rw[aO]at r;cases r with
   |cons h t=>show .cons (mU h) (az t)
abbrev KT (H:Hp):List (List Key×V)->List (List Key×aj×ai)->zu:=Paired λp q=>p.1=q.1 /\ H q.2.1=ae (.tup (p.1.map kV)) /\ RelV p.2 q.2.2
theorem KT.val (r:KT H ao xs) (k:List Key):nU (eu ao k) ((atKey xs k).map (·.2)):=by
 induction r with
 |nil=>show True.intro
 |@cons p q ps qs h t ih=>
   let#[h1,_,h2]:=h;by_cases e:p.1=k
   .have e':q.1=k:=h1.symm.trans e;have b:atKey (q::qs) k=ae q.2:=by simp[atKey,ng,e']
    rw[jA e,b];show h2
   .have e':¬ q.1=k:=λz=>e (h1.trans z);have b:atKey (q::qs) k=atKey qs k:=by simp[atKey,ng,e']
    rw[iZ e,b];show ih
theorem KT.Yo (r:KT H ao xs) (k:List Key) {y:V}(ry:RelV y u) :
 KT H (ao.map λkv=>if kv.1=k then (kv.1,y) else kv) (xs.map (putAt k u)):=by
 induction r with
 |nil=>show .nil
 |@cons p q ps qs h t ih=>
   rw[aO,aO];refine .cons ?_ ih;let#[h1,h2,h3]:=h;unfold putAt;by_cases e:p.1=k
   .rw[if_pos e,if_pos (h1.symm.trans e)];show#[h1,h2,ry]
   .rw[if_neg e,if_neg (λz=>e (h1.trans z))];show#[h1,h2,h3]
theorem KT.put (r:KT H ao xs) (k:List Key) {b:aj}{y:V}(hb:H b=ae (.tup (k.map kV))) (ry:RelV y u) :
 KT H (putK ao k y) (storedH xs k b u):=by
 have e:(ao.any λkv=>decide (kv.1=k))=(atKey xs k).isSome:=by
  rw[LN,(r.val k).xX,pK]
 unfold putK storedH;rw[e];by_cases q:(atKey xs k).isSome=ah
 .rw[if_pos q,if_pos q];show r.Yo k ry
 .rw[if_neg q,if_neg q];show Paired.snoc r #[rfl,hb,ry]
theorem KT.keeps (r:KT H ao xs) (ht:∀ b ys,H b=ae (.tup ys)->H' b=ae (.tup ys)):KT H' ao xs:=
 Paired.Xz r λ_ _ z=>#[z.1,ht _ _ z.2.1,z.2.2]
theorem Sa {u:HO}(ok:cJ P w H h) (e:Rd H a u):bG P w H h a u:=e.ok ok
theorem oZ {ao:List (Key×V)}(ok:cJ P w H h) (e:Rd H a zag):ao.length<=sizeLine /\ (a==sysModules)=af /\ ∃ vs,KV ao vs /\ h.DictOf (dh P w) a vs:=
 show bG P w H h a zag from Sa ok e
theorem Ga {ao:List (Key×V)}(ok:cJ P w H h) (e:H a=ae zag):ao.length<=sizeLine /\ (a==sysModules)=af /\ ∃ vs,KV ao vs /\ h.DictOf (dh P w) a vs:=oZ ok (.inl e)
theorem oG {ks:List Key}(ok:cJ P w H h) (e:H a=ae (.tup (ks.map kV))):(tupleKind (dh P w)).is h ks a:=by
 let#[_,its,r,o,h1,h2,n,h3]:=(show bG P w H h a (.tup (ks.map kV)) from ok a _ e);show#[o,its.toArray,n,h1,h2,h3,by simpa using Jh r]
theorem AK (ok:cJ P w H h) (e:Rd H a (.dT ao)):ao.length<=sizeLine /\ (a==sysModules)=af /\
 ∃ xs,KT H ao xs /\ h.DictOfH (tupleKind (dh P w)) a xs:=by
 let#[z,y,xs,r,o,es,ep,h1,h2,h3,h4,h5]:=(show bG P w H h a (.dT ao) from Sa ok e);refine#[z,y,xs,r,o,es,ep,h1,h2,h3,h4,λx hx=>?_,h5];have all:∀ {l:List (List Key×V)}{m:List (List Key×aj×ai)},KT H l m->∀ x∈m,(tupleKind (dh P w)).is h x.1 x.2.1:=by
  intro l m q;induction q with
  |nil=>intro x hx;show nomatch hx
  |@cons p q ps qs hq t ih=>
    intro x hx;rcases bz.mp hx with e|hx
    .subst e;show oG ok (by rw[<-hq.1];show hq.2.1)
    .show ih x hx
 show all r x hx
theorem Sb (ok:cJ P w H h) (e:H a=ae (.dT ao)):ao.length<=sizeLine /\ (a==sysModules)=af /\
 ∃ xs,KT H ao xs /\ h.DictOfH (tupleKind (dh P w)) a xs:=AK ok (.inl e)
def qv (H:Hp) (a:aj) (y:V) (r:Option V):zu:=
 (∃ ao k,Rd H a zag /\ y=kV k /\ r=eu ao k) \/ ∃ ao k b,Rd H a (.dT ao) /\ y=.ref b /\ H b=ae (.tup (k.map kV)) /\ r=eu ao k
def adu (H:Hp) (a:aj) (y v:V) (H':Hp):zu:=
 (∃ ao k,H a=ae zag /\ y=kV k /\ ao.length<sizeLine /\ H'=upd H a (.dK (putK ao k v))) \/
 ∃ ao k b,H a=ae (.dT ao) /\ y=.ref b /\ H b=ae (.tup (k.map kV)) /\ ao.length<sizeLine /\ H'=upd H a (.dT (putK ao k v))
theorem qv.k {H:Hp}{a:aj}{ao:List (Key×V)}{k:Key}(e:H a=ae zag):qv H a (kV k) (eu ao k):=.inl #[ao,k,.inl e,rfl,rfl]
section
variable {s:aq} {y:V} {r:ai} {o:Option V} 
theorem Inv.big (I:Inv X pins σ H s):sysModules<s.heap.objs.size:=by
 have h:mainGlobals<s.heap.objs.size:=(I.mod.glob.keeps I.bk).lt;show Hd ze h
theorem Ji (hu:A.units+1<cLine) (I:Inv X pins σ H s) (g:qv H a y (ae v)) (ry:RelV y u) (h:∀ w' s',Inv X pins σ H s'->RelV v w'->Q w' s') :
 wpAny zg A (getItem (.ref a) u) Q E s:=by
 rcases g with⟨ao,k,e,ey,l⟩|⟨ao,k,b,e,ey,eb,l⟩
 .subst ey;let#[z,hd,vs,rel,dd]:=oZ I.aC e;let#[w',hw,kn]:=nU.some_of (v:=v) (o:=valueAt vs k) (by rw[l];show rel.val k);show wpAny_getItem_of (mU ry) dd.mapOf hw (h w' _ (I.tok _) kn)
 .subst ey;cases (show u=Value.ref b from ry);let#[z,hd,xs,rel,dd]:=AK I.aC e;let#[w',hw,kn]:=nU.some_of (v:=v) (o:=(atKey xs k).map (·.2)) (by rw[l];show rel.val k);let#[p,hp,agY]:=Option.map_eq_some_iff.mp hw;refine wpAny_getItem_heap (yA hu) (oG I.aC eb) dd hp ?_;rw[agY];show h w' _ (I.tok _) kn
theorem WK (hu:A.units+1<cLine) (I:Inv X pins σ H s) (g:qv H a y o) (ry:RelV y u) (h:∀ s',Inv X pins σ H s'->Q (.bool o.isSome) s') :
 wpAny zg A (compareOp .In u (.ref a)) Q E s:=by
 rcases g with⟨ao,k,e,ey,l⟩|⟨ao,k,b,e,ey,eb,l⟩
 .subst ey;let#[z,hd,vs,rel,dd]:=oZ I.aC e;refine wpAny_in_of (mU ry) hd dd.mapOf ?_;rw[<-(rel.val k).xX,<-l];show h _ (I.tok _)
 .subst ey;cases (show u=Value.ref b from ry);let#[z,hd,xs,rel,dd]:=AK I.aC e;refine wpAny_in_heap (yA hu) (oG I.aC eb) hd dd ?_;have q:=(rel.val k).xX;rw[pK]at q;rw[<-q,<-l];show h _ (I.tok _)
theorem OB (hu:A.units+1<cLine) (I:Inv X pins σ H s) (g:qv H a y o) (ry:RelV y u) (h:∀ s',Inv X pins σ H s'->Q (.bool (!o.isSome)) s') :
 wpAny zg A (compareOp .NotIn u (.ref a)) Q E s:=by
 rcases g with⟨ao,k,e,ey,l⟩|⟨ao,k,b,e,ey,eb,l⟩
 .subst ey;let#[z,hd,vs,rel,dd]:=oZ I.aC e;refine wpAny_notIn_of (mU ry) hd dd.mapOf ?_;rw[<-(rel.val k).xX,<-l];show h _ (I.tok _)
 .subst ey;cases (show u=Value.ref b from ry);let#[z,hd,xs,rel,dd]:=AK I.aC e;refine wpAny_notIn_heap (yA hu) (oG I.aC eb) hd dd ?_;have q:=(rel.val k).xX;rw[pK]at q;rw[<-q,<-l];show h _ (I.tok _)
theorem mV {ob:HO}(I:Inv X pins σ H s) (mu:yR (H a)) (hs:Heap.SameBut a s.heap h') (he:∃ q,h'.get? a=ae q) (new:bG X.prog X.w (upd H a ob) h' a ob) :
 Inv X pins σ (upd H a ob) { s with heap:=h',toks:=t' }:=
 I.write (x:=a) (e:=a) mu (.inl zc) (λb q hb z=>(hs.2 b hb).trans z) he new
theorem B9 {ao:List (Key×V)}{vs:List (Key×ai)}(z:ao.length<=sizeLine) (hd:(a==sysModules)=af) (rel:KV ao vs) (dd:h'.DictOf (dh P w) a vs) :
 bG P w H' h' a zag:=#[z,hd,vs,rel,dd]
theorem Jj {Q:Unit->aq->zu}(hu:A.units+1<cLine) (I:Inv X pins σ H s) (g:adu H a y v H') (ry:RelV y u) (rv:RelV v r) (h:∀ s',Inv X pins σ H' s'->Q () s') :
 wpAny zg A (setItem (.ref a) u r) Q E s:=by
 rcases g with⟨ao,k,e,ey,l,eH⟩|⟨ao,k,b,e,ey,eb,l,eH⟩
 .subst ey eH;let#[z,hd,vs,rel,dd]:=Ga I.aC e;have hz:vs.length<=sizeLine:=by rw[<-rel.length];show z
  have hl:(putK ao k v).length<=sizeLine:=by have:=lu ao k v;lia
  refine wpAny_setItem_pairs (hsz:=hz) (mU ry) dd λh' nN hs=>h _ ?_;have he:∃ q,h'.get? a=ae q:=let ⟨q,_,_,hq,_⟩:=nN;#[q,hq]
  show mV I (by rw[e];show True.intro) hs he (B9 hl hd (rel.put k rv) nN)
 .subst ey eH;cases (show u=Value.ref b from ry);let#[z,hd,xs,rel,dd]:=Sb I.aC e;have hz:xs.length<=sizeLine:=by rw[<-Paired.length rel];show z
  have hl:(putK ao k v).length<=sizeLine:=by have:=lu ao k v;lia
  refine wpAny_setItem_heap (hsz:=hz) (yA hu) (oG I.aC eb) dd λh' nN hs=>h _ ?_;let#[q,es,ep,hq,h2,h3,h4,_,h5]:=nN;refine mV I (by rw[e];show True.intro) hs #[q,hq] #[hl,hd,_,(rel.put k eb rv).keeps λc ys ec=>?_,q,es,ep,hq,h2,h3,h4,h5];rw[fB (Vn ec e (λz=>nomatch z))];show ec
end
section
variable {s:aq} {ao:List (Key × V)} {k:Key} 
theorem Jk {Q:Unit->aq->zu}(I:Inv X pins σ H s) (e:H a=ae zag) (ry:RelV (kV k) u) (l:(eu ao k).isSome=ah) (h:∀ s',Inv X pins σ (upd H a (.dK (qu ao k))) s'->Q () s') :
 wpAny zg A (delItem (.ref a) u) Q E s:=by
 let#[z,hd,vs,rel,dd]:=Ga I.aC e
 refine wpAny_delItem_slot dd.typeIs ze abW
  (E8 abW dd.typeIs PySem.F.entry_dict_delitem (PySem.F.args_dict_delitem_2 _ _) (meets_dict_delitem_pairs (dh X.prog X.w) a (mU ry)) #[vs,dd,by rw[<-rel.length];show z,by rw[<-(rel.val k).xX];show l,λh' nN hs=>h _ ?_])
 have he:∃ q,h'.get? a=ae q:=let ⟨q,_,_,hq,_⟩:=nN;#[q,hq]
 show mV I (by rw[e];show True.intro) hs he (B9 (cC (CU ao k) z) hd (rel.drop k) nN)
theorem VI {more:List ai}(I:Inv X pins σ H s) (e:H a=ae zag) (ry:RelV (kV k) u) (l:eu ao k=ae v) (hm:more=[] \/ ∃ x,more=[x])
 (h:∀ w' s',Inv X pins σ (upd H a (.dK (qu ao k))) s'->RelV v w'->Q w' s'):wpAny zg A (call (.builtin "dict.pop") (.ref a::u::more)) Q E s:=by
 let#[z,hd,vs,rel,dd]:=Ga I.aC e;let#[w',hw,kn]:=nU.some_of (v:=v) (o:=valueAt vs k) (by rw[<-l];show rel.val k);have hp:(keyPart u).isSome=ah:=by
  cases k with
  |inl i=>let#[t,q]:=(show ∃ t,u=Value.int i t from ry);subst q;rfl
  |inr x=>let#[t,q]:=(show ∃ t,u=Value.str x t from ry);subst q;rfl
 have ha:argsOk "dict.pop" #[.ref a::u::more,[]]:=by
  rcases hm with q|⟨x,q⟩
  .subst q;show PySem.F.args_dict_pop_2 _ _
  .subst q;show PySem.F.args_dict_pop_3 _ _ _
 refine E8 abX dd.typeIs PySem.F.entry_dict_pop ha (meets_dict_pop_there (dh X.prog X.w) a (mU ry) more hm hp)
  #[vs,w',dd,by rw[<-rel.length];show z,hw,λh' nN hs=>h w' _ ?_ kn]
 have he:∃ q,h'.get? a=ae q:=let ⟨q,_,_,hq,_⟩:=nN;#[q,hq]
 show mV I (by rw[e];show True.intro) hs he (B9 (cC (CU ao k) z) hd (rel.drop k) nN)
end
def IK (i:au):zu:=∀ ov iv,subscripted i af ov iv=operate [ov,iv] (getItem ov iv)
theorem OC {s:aq}{env:Env}{value slice:au}{T id:String} 
 (hl:typeLookup (.type T) "__getitem__"=pure (ae (.builtin id))) (hs:IK slice)
 (h:wpAny zh A (eval value env) (λo s₁=>wpAny zh A (eval slice env) (λi s₂=>s₂.TypeIs o T /\ wpAny zh A (getItem o i) Q E s₂) E s₁) E s) :
 wpAny zh A (eval (.Subscript value slice pos) env) Q E s:=by
 refine Subscript_ (k7 h (λo s₁ h₁=>k7 h₁ (λi s₂ h₂=>?_) λ_ _ x=>x) λ_ _ x=>x);let#[hT,h₂]:=h₂;unfold subscriptTail;refine ak ?_;rw[getitemInPython_of_ne hT.not_modules];refine ak (aaG hT hl ?_);have fin:wpAny zh A (subscripted slice af o i) (λr s₃=>wpAny zh A (letTemporaryGo value o r >>= λ_=>pure r) Q E s₃) E s₂:=by
  rw[hs o i];show wpAny_operating (k7 h₂ (λr s₃ h₃=>ak (wpAny_letTemporaryGo (ay h₃))) λ_ _ x=>x)
 first
  |show ay (ak fin)
  |show ak (ay (ak fin))
  |show ak fin
theorem CV {s:aq}{y:V}{o:Option V}(I:Inv X pins σ H s) (g:qv H a y o):s.TypeIs (.ref a) "dict":=by
 rcases g with⟨ao,k,e,_,_⟩|⟨ao,k,b,e,_,_,_⟩
 .let#[_,_,vs,_,dd]:=oZ I.aC e;show dd.typeIs
 .let#[_,_,xs,_,dd]:=AK I.aC e;show dd.typeIs
def adv (td ty:TE):TE:=λσ H Q=>td σ H λx H1=>ty σ H1 λy H2=>∃ a v,x=.ref a /\ qv H2 a y (ae v) /\ Q v H2
def Yp (ty td:TE):TE:=λσ H Q=>ty σ H λy H1=>td σ H1 λx H2=>∃ a o,x=.ref a /\ qv H2 a y o /\ Q (.bl o.isSome) H2
def adw (ty td:TE):TE:=λσ H Q=>ty σ H λy H1=>td σ H1 λx H2=>∃ a o,x=.ref a /\ qv H2 a y o /\ Q (.bl (!o.isSome)) H2
def adx (td ty tv:TE):TS:=λD σ H=>tv σ H λv H1=>td σ H1 λx H2=>ty σ H2 λy H3=>∃ a H4,x=.ref a /\ adu H3 a y v H4 /\ D.nx σ H4
def ady (td ty:TE):TS:=λD σ H=>td σ H λx H1=>ty σ H1 λy H2=>∃ a ao k,x=.ref a /\ H2 a=ae zag /\ y=kV k /\ (eu ao k).isSome=ah /\ D.nx σ (upd H2 a (.dK (qu ao k)))
section
variable {o i value:au} {Ic:aL} {td ty tv:TE}
theorem Gb (hu:X.A.units+1<cLine) (ho:PE X o td) (hi:PE X i ty) (hs:IK i):PE X (.Subscript o i pos) (adv td ty):=by
 intro pins s σ H Q I h;refine OC PySem.F.slot_dict_getitem.lookup hs (tE (ho pins s σ H _ I h) λu s1 x H1 I1 rx q1=>tE (hi pins s1 σ H1 _ I1 q1) λiv s2 y H2 I2 ry hh=>?_);let#[a,v,ex,g,q2]:=hh;subst ex;obtain rfl:u=Value.ref a:=rx;show#[CV I2 g,Ji hu I2 g ry λw' s3 I3 kn=>#[v,H2,I3,kn,q2]]
theorem Fd (hu:X.A.units+1<cLine) (hi:PE X i ty) (ho:PE X o td):PC X .In i o (Yp ty td):=by
 intro pins s σ H Q I h;refine tE (hi pins s σ H _ I h) λiv s1 y H1 I1 ry q1=>tE (ho pins s1 σ H1 _ I1 q1) λu s2 x H2 I2 rx hh=>?_;let#[a,ov,ex,g,q2]:=hh;subst ex;obtain rfl:u=Value.ref a:=rx;show WK hu I2 g ry λs3 I3=>#[.bl ov.isSome,H2,I3,rfl,q2]
theorem BF (hu:X.A.units+1<cLine) (hi:PE X i ty) (ho:PE X o td):PC X .NotIn i o (adw ty td):=by
 intro pins s σ H Q I h;refine tE (hi pins s σ H _ I h) λiv s1 y H1 I1 ry q1=>tE (ho pins s1 σ H1 _ I1 q1) λu s2 x H2 I2 rx hh=>?_;let#[a,ov,ex,g,q2]:=hh;subst ex;obtain rfl:u=Value.ref a:=rx;show OB hu I2 g ry λs3 I3=>#[.bl (!ov.isSome),H2,I3,rfl,q2]
theorem Gc (hu:X.A.units+1<cLine) (ho:PE X o td) (hi:PE X i ty) (hv:PE X value tv) (hs:swapsWith value (ae (.Subscript o i pos')) pos.line X.env=pure af) :
 PS X (.Assign [.Subscript o i pos'] value pos) (adx td ty tv):=by
 intro pins s σ H D I h;refine wpAny_Assign_Subscript (tE (hv pins s σ H _ I h) λr s1 v H1 I1 rv q1=>tE (ho pins s1 σ H1 _ I1 q1) λu s2 x H2 I2 rx q2=>tE (hi pins s2 σ H2 _ I2 q2) λiv s3 y H3 I3 ry hh=>?_) hs;let#[a,H4,ex,g,q3]:=hh;subst ex;obtain rfl:u=Value.ref a:=rx;show Jj hu I3 g ry rv λs4 I4=>#[σ,H4,I4,q3]
theorem OD (ho:PE X o td) (hi:PE X i ty):PS X (.Delete [.Subscript o i Ic] pos) (ady td ty):=by
 intro pins s σ H D I h;refine wpAny_Delete (wpAny_deleteEach_cons (wpAny_delete_Subscript (tE (ho pins s σ H _ I h) λu s1 x H1 I1 rx q1=>tE (hi pins s1 σ H1 _ I1 q1) λiv s2 y H2 I2 ry hh=>?_)));let#[a,ao,k,ex,e,ey,l,q2]:=hh;subst ex ey;obtain rfl:u=Value.ref a:=rx;show Jk I2 e ry l λs3 I3=>wpAny_deleteEach_nil #[σ,_,I3,q2]
end
theorem CW (h:aI) (hb:sysModules<h.objs.size):bG P w H (h.push { cls:=.type "dict",data:=.dict #[] }) h.objs.size (.dK []):=
 #[eS _,beq_eq_false_iff_ne.mpr (Ne.symm (cB hb)),[],.nil,Heap.DictOf.new h]
theorem LO (h:aI) (hb:sysModules<h.objs.size):bG P w H (h.push { cls:=.type "dict",data:=.dict #[] }) h.objs.size (.dT []):=
 #[eS _,beq_eq_false_iff_ne.mpr (Ne.symm (cB hb)),[],.nil,_,#[],0,bF _ zc,#[rfl,rfl,rfl],rfl,rfl,abe]
def agZ:TE:=λ_ H Q=>∀ p,H p=ag->Q (.ref p) (upd H p (.dK []))
def ag0:TE:=λ_ H Q=>∀ p,H p=ag->Q (.ref p) (upd H p (.dT []))
theorem CY:PE X (.Dict [] [] pos) agZ:=λpins s σ H Q I h=>
 aaH #[.ref s.heap.objs.size,_,I.laid (a:=s.heap.objs.size) (o:=.dK []) (t':=s.toks) (λ_ _ q=>aX _ q) (aD _) (CW s.heap I.big),rfl,h _ (I.aC.fresh (aD _))]
theorem CZ:PE X (.Dict [] [] pos) ag0:=λpins s σ H Q I h=>
 aaH #[.ref s.heap.objs.size,_,I.laid (a:=s.heap.objs.size) (o:=.dT []) (t':=s.toks) (λ_ _ q=>aX _ q) (aD _) (LO s.heap I.big),rfl,h _ (I.aC.fresh (aD _))]
noncomputable def IL:List (TE×TE)->St->Hp->(List (V×V)->Hp->zu)->zu
 |[],_,H,Q=>Q [] H
 |(tk,tv)::r,σ,H,Q=>tk σ H λx H1=>tv σ H1 λy H2=>IL r σ H2 λps H3=>Q ((x,y)::ps) H3
abbrev VV:List (V×V)->List (ai×ai)->zu:=Paired λp q=>RelV p.1 q.1 /\ RelV p.2 q.2
def xY (X:Cx) (pos:aL) (keys:List (Option au)) (values:List au) (uh:List (TE×TE)):zu:=
 ∀ (pins:List (aj×aY)) (s:aq) (σ:St) (H:Hp) (Q:List (V×V)->Hp->zu),Inv X pins σ H s->IL uh σ H Q ->
  wpAny zg X.A (evalPairs (pairTrees keys values X.env pos)) (λvs s'=>∃ ps H',Inv X pins σ H' s' /\ VV ps vs /\ Q ps H') X.xe s
theorem OE:xY X pos [] [] []:=λpins s σ H Q I h=>pairTrees_nil_walk #[[],H,I,.nil,h]
theorem AL {k v:au}{ks:List (Option au)}{vs:List au}{tk tv:TE}{uh:List (TE×TE)}(hk:PE X k tk) (hv:PE X v tv) (hr:xY X pos ks vs uh) :
 xY X pos (ae k::ks) (v::vs) ((tk,tv)::uh):=λpins s σ H Q I h=>
 pairTrees_cons_walk (tE (hk pins s σ H _ I h) λu s1 x H1 I1 rx q1=>tE (hv pins s1 σ H1 _ I1 q1) λw2 s2 y H2 I2 ry q2=>tP (hr pins s2 σ H2 _ I2 q2) λws s3 ps H3 I3 rel q3=>#[(x,y)::ps,H3,I3,.cons #[rx,ry] rel,q3])
def v8 (ao more:List (Key×V)):List (Key×V):=more.foldl (λacc kv=>putK acc kv.1 kv.2) ao
theorem KV.merge:∀ {more:List (Key×V)}{rs:List (Key×ai)}{ao:List (Key×V)}{vs:List (Key×ai)},KV more rs->KV ao vs->KV (v8 ao more) (merged vs rs):=by
 intro more rs ao vs r;unfold KV at r;induction r generalizing ao vs with
 |nil=>intro q;show q
 |@cons p q ps qs h t ih=>
   intro r0;have e:KV (putK ao p.1 p.2) (stored vs q.1 q.2):=by
    have:=r0.put p.1 h.2;rw[<-h.1];show this
   show ih e
theorem Bq:∀ (more ao:List (Key×V)),(v8 ao more).length<=ao.length+more.length:=by
 intro l_;induction l_ with
 |nil=>(intro ao;change ao.length<=ao.length+0;lia)
 |cons p r az=>
   intro ao;have h1:=az (putK ao p.1 p.2);have h2:=lu ao p.1 p.2;change (v8 (putK ao p.1 p.2) r).length<=_;rw[bw];lia
theorem Fe:∀ {ao:List (Key×V)}{ws:List (ai×ai)},VV (ao.map λkv=>(kV kv.1,kv.2)) ws->∃ rs,Carries (dh P w) ws rs /\ KV ao rs:=by
 intro l_;induction l_ with
 |nil=>(intro _ r;rw[xb]at r;cases r;show#[[],True.intro,.nil])
 |cons p ao az=>
   intro _ r;rw[aO]at r;cases r with
   |@cons a b as bs h t=>
     let#[rs,c,q]:=az t;let#[b1,b2]:=b;show#[(p.1,b2)::rs,#[mU h.1,rfl,c],.cons #[rfl,h.2] q]
def ag1 (uh:List (TE×TE)):TE:=λσ H Q=>∀ p,H p=ag->IL uh σ (upd H p (.dK [])) λps H2=>H2 p=ae (.dK []) /\ ∃ ao:List (Key×V),ps=ao.map (λkv=>(kV kv.1,kv.2)) /\ ao.length<=15 /\ Q (.ref p) (upd H2 p (.dK (v8 [] ao)))
theorem OF {keys:List (Option au)}{values:List au}{uh:List (TE×TE)}(h:xY X pos keys values uh) (Eb:keys.all (·.isSome)=ah) (hl:keys.length=values.length) (h0:keys≠[])
 (Yq:keys.length<=15):PE X (.Dict keys values pos) (ag1 uh):=by
 intro pins s σ H Q I q;have hn:=I.aC.fresh (aD s.heap.objs.size);have I1:=I.laid (a:=s.heap.objs.size) (o:=.dK []) (h':=s.heap.push { cls:=.type "dict",data:=.dict #[] }) (t':=s.toks) (λ_ _ q=>aX _ q) (aD _) (CW s.heap I.big);refine wpAny_Dict_walk (knd:=dh X.prog X.w) Eb hl h0 Yq (tP (h pins _ σ _ _ I1 (q _ hn)) λws s2 ps H2 I2 rel hh=>?_);let#[e,ao,ep,lk,q2]:=hh;subst ep;let#[rs,c,rk]:=Fe (P:=X.prog) (w:=X.w) rel;let#[z,hd,sQ,r0,dd]:=Ga I2.aC e;cases r0;refine#[rs,c,dd,λh' nN hs=>#[.ref s.heap.objs.size,_,?_,rfl,q2]];have hz:(v8 [] ao).length<=sizeLine:=by
  have h1:=Bq ao [];rw[nS]at h1;rw[br];lia
 have he:∃ q,h'.get? s.heap.objs.size=ae q:=let ⟨q,_,_,hq,_⟩:=nN;#[q,hq]
 show mV I2 (by rw[e];show True.intro) hs he (B9 hz hd (rk.merge .nil) nN)
structure M1 (X:Cx) (o:au) (m:Str) (apos:aL) (e:au) (dX:aL):zu where
 base:attributeBase o m X.env (eval o X.env)=eval o X.env
 adz:((backTo dX (starEach [e] X.env)).all (λx=>!x.1)&&(backToKw dX (keywordEach [] X.env)).all (λx=>x.1.isSome)
  && decide (([e]:List au).length+([]:List Keyword).length+(if ([]:List Keyword).isEmpty then 0 else 1)<30))=ah
 line:(apos.endLine==dX.line)=ah
 trees:backTo dX (starEach [e] X.env)=[zaS]
def Yr (H:Hp) (a:aj):zu:=(∃ ao,Rd H a zag) \/ ∃ ao,Rd H a (.dT ao)
theorem LP {s:aq}(I:Inv X pins σ H s) (d:Yr H a) :
 s.TypeIs (.ref a) "dict" /\ (∀ b,Value.ref a=.ref b->∃ ob,s.heap.get? b=ae ob /\ ob.dict=ag) /\ (a==sysModules)=af:=by
 rcases d with⟨ao,e⟩|⟨ao,e⟩
 .let#[_,hd,vs,_,dd]:=oZ I.aC e;refine#[dd.typeIs,λb q=>?_,hd];cases q;let#[ob,_,_,h1,h2,_]:=dd;show#[ob,h1,h2.2.1]
 .let#[_,hd,xs,_,dd]:=AK I.aC e;refine#[dd.typeIs,λb q=>?_,hd];cases q;let#[ob,_,_,h1,h2,_]:=dd;show#[ob,h1,h2.2.1]
section
variable {s:aq} {y d:V} {r:ai} {o:Option V} 
theorem TJ (hu:A.units+1<cLine) (I:Inv X pins σ H s) (g:qv H a y o) (ry:RelV y u) (h:∀ w' s',Inv X pins σ H s'->RelV (o.getD .non) w'->Q w' s') :
 wpAny zg A (call (.builtin "dict.get") [.ref a,u]) Q E s:=by
 rcases g with⟨ao,k,e,ey,l⟩|⟨ao,k,b,e,ey,eb,l⟩
 .subst ey;let#[z,hd,vs,rel,dd]:=oZ I.aC e;refine E8 Xr dd.typeIs abY (abZ _ _) (meets_dict_get (dh X.prog X.w) a (mU ry) hd) #[_,dd.mapOf,h _ _ (I.tok _) ?_];rw[l];show(rel.val k).getD zc
 .subst ey;cases (show u=Value.ref b from ry);let#[z,hd,xs,rel,dd]:=AK I.aC e;refine E8 Xr dd.typeIs abY (abZ _ _) (meetsH_dict_get (tupleKind (dh X.prog X.w)) a b hd) #[yA hu,k,xs,oG I.aC eb,dd,h _ _ (I.tok _) ?_];rw[l];show(rel.val k).getD zc
end
def adA (td ty:TE):TE:=λσ H Q=>td σ H λx H1=>∃ a,x=.ref a /\ Yr H1 a /\ ty σ H1 λy H2=>∃ o,qv H2 a y o /\ Q (o.getD .non) H2
def adB (td ty:TE):TE:=λσ H Q=>td σ H λx H1=>∃ a,x=.ref a /\ Yr H1 a /\ ty σ H1 λy H2=>∃ ao k v,H2 a=ae zag /\ y=kV k /\ eu ao k=ae v /\ Q v (upd H2 a (.dK (qu ao k)))
section
variable {o f:au} {dX:aL} {td ty tx:TE}
theorem LQ (hu:X.A.units+1<cLine) (ho:PE X o td) (he:PE X e ty) (m:M1 X o "get" apos e dX):PE X (.Call (.Attribute o "get" apos) [e] [] dX) (adA td ty):=by
 intro pins s σ H Q I h;refine aaI m.base m.adz m.line ab0 Xr PySem.F.type_dict_get (tE (ho pins s σ H _ I h) λu s1 x H1 I1 rx hh=>?_);let#[a,ex,d,q1]:=hh;subst ex;obtain rfl:u=Value.ref a:=rx;let#[t1,t2,_]:=LP I1 d;refine#[t1,t2,?_];rw[m.trees];refine Xl zc (Xm (xr (tE (he pins s1 σ H1 _ I1 q1) λiv s2 y H2 I2 ry ⟨ov,g,q2⟩=>xq ?_)));show TJ hu I2 g ry λw' s3 I3 kn=>#[_,H2,I3,kn,q2]
theorem LR (ho:PE X o td) (he:PE X e ty) (m:M1 X o "pop" apos e dX):PE X (.Call (.Attribute o "pop" apos) [e] [] dX) (adB td ty):=by
 intro pins s σ H Q I h;refine aaI m.base m.adz m.line ab0 abX PySem.F.type_dict_pop (tE (ho pins s σ H _ I h) λu s1 x H1 I1 rx hh=>?_);let#[a,ex,d,q1]:=hh;subst ex;obtain rfl:u=Value.ref a:=rx;let#[t1,t2,_]:=LP I1 d;refine#[t1,t2,?_];rw[m.trees];refine Xl zc (Xm (xr (tE (he pins s1 σ H1 _ I1 q1) λiv s2 y H2 I2 ry ⟨ao,k,v,ea,ey,l,q2⟩=>xq ?_)));subst ey;show VI I2 ea ry l (.inl zc) λw' s3 I3 kn=>#[v,_,I3,kn,q2]
end
section
variable {s:aq} {ao:List (Key × V)} 
end
section
variable {s:aq} {y:V} 
end
end L2
namespace L2.DL
noncomputable def dA:Key->PyData
 |.inl i=>.int i
 |.inr x=>.str x
mutual
noncomputable def toPy:D->PyData
 |.non=>.none
 |.bl b=>.bool b
 |.int i=>.int i
 |.str x=>.str x
 |.tup l=>.tuple (bJ l)
 |.lst l=>.list (bJ l)
 |.aA l=>.dict (bZ l)
noncomputable def bJ:List D->List PyData
 |[]=>[]
 |d::l=>toPy d::bJ l
noncomputable def bZ:List (Key×D)->List (PyData×PyData)
 |[]=>[]
 |(k,d)::l=>(dA k,toPy d)::bZ l
end
section
variable {s:aq}
theorem oH {h:aI}:∀ {es:List DictEntry}{vs:List (Key×ai)}{l:List (Key×D)}{ao:List (Key×V)},PySem.Pairs (dh X.prog X.w) es vs->KV ao vs->aR F l ao->ReadsAll h (es.map (·.key)) ((bZ l).map (·.1)) []
 | _,_,[],_,p,k,d=>by
   cases (show _=[] from d);cases k;cases p;show .nil
 | _,_,(k,x)::l,_,p,q,d=>by
   let#[v,r,e,_,d2]:=d;subst e;cases q with
   |cons q1 q2=>
     cases p with
     |@cons de _ _ _ p1 p2 p3=>
       have ih:=oH (h:=h) p3 q2 d2;have e1:=q1.1;simp only at e1;rw[<-e1]at p1;have hk:Reads h de.key (dA k) []:=by
        rcases fY (show tR k de.key=ah from p1) with⟨i,t,e2,e3⟩|⟨y,t,e2,e3⟩
        .rw[e2,e3];show .int i t
        .rw[e2,e3];show .str y t
       show ReadsAll.cons hk ih
mutual
theorem gh (I:Inv X pins σ H s) (sub:Sub F H):∀ {d:D}{v:V}{u:ai},Den F d v->RelV v u->∃ as,Reads s.heap u (toPy d) as
 |.non,_,_,h,r=>by cases (show _=V.non from h);cases r;show#[[],.none]
 |.bl b,_,_,h,r=>by cases (show _=V.bl b from h);cases r;show#[[],.bool b]
 |.int i,_,_,h,r=>by cases (show _=V.int i from h);let#[t,rfl]:=r;show#[[],.int i t]
 |.str x,_,_,h,r=>by cases (show _=V.str x from h);let#[t,rfl]:=r;show#[[],.str x t]
 | .tup l,_,_,h,r=>by
   let#[a,vs,rfl,h1,h2]:=h;cases r;let#[_,its,rv,ob,e1,e2,n,e3]:=(show bG X.prog X.w H s.heap a (.tup vs) from I.aC a _ (sub _ _ h1));let#[as,ra]:=jK I sub h2 rv;show#[as,.tuple e1 e2 e3 (by simpa using ra)]
 | .lst l,_,_,h,r=>by
   let#[a,vs,rfl,h1,h2]:=h;cases r;let#[_,its,n,rv,e1]:=(show bG X.prog X.w H s.heap a (.lst vs) from I.aC a _ (sub _ _ h1));let#[as,ra]:=jK I sub h2 rv;show#[a::as,.list e1 zc zc (by simpa using ra)]
 | .aA l,_,_,h,r=>by
   let#[a,ao,rfl,h1,h2]:=h;cases r;let#[_,_,vs,rk,ob,es,ep,e1,e2,e3,_,pr,_]:=(show bG X.prog X.w H s.heap a zag from I.aC a _ (sub _ _ h1));let#[as,ra]:=mf I sub h2 rk pr;show#[a::[]++as,.dict e1 e2.1 e3 (oH (X:=X) pr rk h2) ra]
theorem jK (I:Inv X pins σ H s) (sub:Sub F H):∀ {l:List D}{vs:List V}{us:List ai},aE F l vs->Vals vs us->∃ as,ReadsAll s.heap us (bJ l) as
 |[],_,_,h,r=>by cases (show _=[] from h);cases r;show#[[],.nil]
 | d::l,_,_,h,r=>by
   let#[v,t,e,h1,h2]:=h;subst e;cases r with
   |cons r1 r2=>
     let#[as,ra]:=gh I sub h1 r1;let#[bs,rb]:=jK I sub h2 r2;show#[as++bs,.cons ra rb]
theorem mf (I:Inv X pins σ H s) (sub:Sub F H):∀ {l:List (Key×D)}{ao:List (Key×V)}{vs:List (Key×ai)}{es:List DictEntry},aR F l ao->KV ao vs->PySem.Pairs (dh X.prog X.w) es vs->∃ as,ReadsAll s.heap (es.map (·.val)) ((bZ l).map (·.2)) as
 |[],_,_,_,h,r,p=>by cases (show _=[] from h);cases r;cases p;show#[[],.nil]
 | (k,d)::l,_,_,_,h,r,p=>by
   let#[v,t,e,h1,h2]:=h;subst e;cases r with
   |cons r1 r2=>
     cases p with
     |cons p1 p2 p3=>
       let#[as,ra]:=gh I sub h1 r1.2;let#[bs,rb]:=mf I sub h2 r2 p3;rw[<-p2]at ra;show#[as++bs,.cons ra rb]
end
abbrev Em (ts:List Str):zu:=∀ t∈ts,t.length<=sizeLine
theorem LS {k:Key}{y:ai}(e:tR k y=ah) (hs:(dA k).showable=ah) (hz:(dA k).shown.length<=sizeLine) (n:Nat):ReprK X.prog X.w [] h n y (dA k).shown:=by
 rcases fY e with⟨i,t,e2,e3⟩|⟨x,t,e2,e3⟩
 .subst e2;subst e3;show .of_is (ReprIs.int t (by simpa[dA,PyData.showable] using hs)) _ _ _
 .subst e2;subst e3;show .of_is (ReprIs.str x t (by simpa only[dA,PyData.shown] using hz)) _ _ _
theorem oJ {h:aI}{n:Nat}:∀ {es:List DictEntry}{vs:List (Key×ai)}{l:List (Key×D)}{ao:List (Key×V)},PySem.Pairs (dh X.prog X.w) es vs->KV ao vs->aR F l ao->PyData.showableKv (bZ l)=ah->Em (PyData.shownKv (bZ l)) ->
 ReprAllK X.prog X.w [] h n (es.map (·.key)) (PyData.shownAll ((bZ l).map (·.1)))
 | _,_,[],_,p,k,d,_,_=>by
   cases (show _=[] from d);cases k;cases p;show .nil
 | _,_,(k,x)::l,_,p,q,d,hs,hz=>by
   let#[v,r,e,_,d2]:=d;subst e;erw[bZ,PyData.showableKv,aG]at hs;erw[bZ,PyData.shownKv]at hz;have z1:=hz _ (bE ..);rw[pG,pG]at z1;cases q with
   |cons q1 q2=>
     cases p with
     |@cons de _ _ _ p1 p2 p3=>
       have e1:=q1.1;simp only at e1;rw[<-e1]at p1;erw[bZ,aO,PyData.shownAll];show .cons (LS (show tR k de.key=ah from p1) hs.1.1 zd n) (oJ p3 q2 d2 hs.2 λt m=>hz t (bB _ m))
mutual
theorem C0 (I:Inv X pins σ H s) (sub:Sub F H):∀ {d:D}{v:V}{u:ai},Den F d v->RelV v u->(toPy d).showable=ah->(toPy d).shown.length<=sizeLine->∃ bs,ReadAtMost s.heap (toPy d).depth bs /\ ReprK X.prog X.w bs s.heap (toPy d).depth u (toPy d).shown
 |.non,_,_,h,r,_,_=>by cases (show _=V.non from h);cases r;show#[[],(λ_ z=>nomatch z),.of_is ReprIs.none _ _ _]
 |.bl b,_,_,h,r,_,_=>by cases (show _=V.bl b from h);cases r;show#[[],(λ_ z=>nomatch z),.of_is (ReprIs.bool b) _ _ _]
 |.int i,_,_,h,r,hs,_=>by cases (show _=V.int i from h);let#[t,rfl]:=r;show#[[],(λ_ z=>nomatch z),.of_is (ReprIs.int t (of_decide_eq_true hs)) _ _ _]
 |.str x,_,_,h,r,_,hz=>by cases (show _=V.str x from h);let#[t,rfl]:=r;show#[[],(λ_ z=>nomatch z),.of_is (ReprIs.str x t hz) _ _ _]
 | .tup l,_,_,h,r,hs,hz=>by
   let#[as,rd]:=gh I sub h r;let#[a,vs,rfl,h1,h2]:=h;cases r;let#[_,its,rv,ob,e1,e2,n,e3]:=(show bG X.prog X.w H s.heap a (.tup vs) from I.aC a _ (sub _ _ h1));have nO:(tupleText za2).length<=sizeLine:=by simpa only[toPy,PyData.shown] using hz
   let#[bs,hb,hk]:=jB I sub h2 rv (by simpa[toPy,PyData.showable] using hs) λt m=>cC (aaJ m) nO;erw[toPy,PyData.depth,PyData.shown]at rd ⊢;show#[a::bs,ReadAtMost.cons rd (qb _) hb,ReprK.tuple e1 e2 e3 (wU rd (nF _) hb) (by simpa using hk)]
 | .lst l,_,_,h,r,hs,hz=>by
   let#[as,rd]:=gh I sub h r;let#[a,vs,rfl,h1,h2]:=h;cases r;let#[_,its,n,rv,e1]:=(show bG X.prog X.w H s.heap a (.lst vs) from I.aC a _ (sub _ _ h1));have nO:(listText za2).length<=sizeLine:=by simpa only[toPy,PyData.shown] using hz
   let#[bs,hb,hk]:=jB I sub h2 rv (by simpa[toPy,PyData.showable] using hs) λt m=>cC (aaK m) nO;erw[toPy,PyData.depth,PyData.shown]at rd ⊢;refine#[a::bs,ReadAtMost.cons rd (qb _) hb,?_];cases its with
   |nil=>
     have e:bJ l=[]:=by
      cases l with
      |nil=>rfl
      |cons x l=>let#[v,t,e,_]:=h2;subst e;cases rv
     rw[e];erw[PyData.shownAll,aaL];show ReprK.listEmpty e1 zc zc
   |cons x its=>show ReprK.list e1 zc zc (wU rd (nF _) hb) (by simpa using hk.length_eq) λi y q=>hk.item i y (by simpa using q)
 | .aA l,_,_,h,r,hs,hz=>by
   let#[as,rd]:=gh I sub h r;let#[a,ao,rfl,h1,h2]:=h;cases r;let#[_,hy,vs,rk,ob,es,ep,e1,e2,e3,_,pr,_]:=(show bG X.prog X.w H s.heap a zag from I.aC a _ (sub _ _ h1));have nO:(dictText (PyData.shownKv (bZ l))).length<=sizeLine:=by simpa only[toPy,PyData.shown] using hz
   have fit:Em (PyData.shownKv (bZ l)):=λt m=>cC (aaM m) nO;have En:PyData.showableKv (bZ l)=ah:=by simpa[toPy,PyData.showable] using hs
   let#[bs,hb,hk]:=oK I sub h2 rk pr En fit;have hK:=oJ (X:=X) (h:=s.heap) (n:=PyData.depthKv (bZ l)) pr rk h2 En fit;erw[toPy,PyData.depth,PyData.shown]at rd ⊢;rw[Xw];show#[a::bs,ReadAtMost.cons rd (qb _) hb,ReprK.dict e1 e2.1 e3 hy (wU rd (nF _) hb) (ach _ _ _ (hK.more_le (λ_ z=>by cases z) (aD _)) hk)]
theorem jB (I:Inv X pins σ H s) (sub:Sub F H):∀ {l:List D}{vs:List V}{us:List ai},aE F l vs->Vals vs us->PyData.showableAll (bJ l)=ah->Em za2->∃ bs,ReadAtMost s.heap (PyData.depthAll (bJ l)) bs /\ ReprAllK X.prog X.w bs s.heap (PyData.depthAll (bJ l)) us za2
 |[],_,_,h,r,_,_=>by cases (show _=[] from h);cases r;show#[[],(λ_ z=>nomatch z),.nil]
 | d::l,_,_,h,r,hs,hz=>by
   let#[v,t,e,h1,h2]:=h;subst e;erw[bJ,PyData.showableAll,aG]at hs;erw[bJ,PyData.shownAll]at hz;cases r with
   |cons r1 r2=>
     let#[as,ha,ka]:=C0 I sub h1 r1 hs.1 (hz _ (bE ..));let#[bs,hb,kb]:=jB I sub h2 r2 hs.2 λt m=>hz t (bB _ m);erw[bJ,PyData.depthAll,PyData.shownAll];have la:=Nat.le_max_left (toPy d).depth (PyData.depthAll (bJ l));have lb:=Nat.le_max_right (toPy d).depth (PyData.depthAll (bJ l));show#[as++bs,(ha.mono la).append (hb.mono lb),.cons ((ka.more λ_ m=>qM _ m).level_le la) (kb.more_le (λ_ m=>kg _ m) lb)]
theorem oK (I:Inv X pins σ H s) (sub:Sub F H):∀ {l:List (Key×D)}{ao:List (Key×V)}{vs:List (Key×ai)}{es:List DictEntry},aR F l ao->KV ao vs->PySem.Pairs (dh X.prog X.w) es vs->PyData.showableKv (bZ l)=ah->Em (PyData.shownKv (bZ l)) ->
 ∃ bs,ReadAtMost s.heap (PyData.depthKv (bZ l)) bs /\ ReprAllK X.prog X.w bs s.heap (PyData.depthKv (bZ l)) (es.map (·.val)) (PyData.shownAll ((bZ l).map (·.2)))
 |[],_,_,_,h,r,p,_,_=>by cases (show _=[] from h);cases r;cases p;show#[[],(λ_ z=>nomatch z),.nil]
 | (k,d)::l,_,_,_,h,r,p,hs,hz=>by
   let#[v,t,e,h1,h2]:=h;subst e;erw[bZ,PyData.showableKv,aG]at hs;erw[bZ,PyData.shownKv]at hz;have z1:=hz _ (bE ..);rw[pG,pG]at z1;cases r with
   |cons r1 r2=>
     cases p with
     |cons p1 p2 p3=>
       let#[as,ha,ka]:=C0 I sub h1 r1.2 hs.1.2 zd;let#[bs,hb,kb]:=oK I sub h2 r2 p3 hs.2 λt m=>hz t (bB _ m);rw[<-p2]at ka;erw[bZ,PyData.depthKv,aO,PyData.shownAll];have la:(toPy d).depth<=max (max (dA k).depth (toPy d).depth) (PyData.depthKv (bZ l)):=by lia
       have lb:PyData.depthKv (bZ l)<=max (max (dA k).depth (toPy d).depth) (PyData.depthKv (bZ l)):=by lia
       show#[as++bs,(ha.mono la).append (hb.mono lb),.cons ((ka.more λ_ m=>qM _ m).level_le la) (kb.more_le (λ_ m=>kg _ m) lb)]
end
end
section
variable {a b c:au} {mc:DE W} {p p2:aL}
def ag2 (vs:List V) (H:Hp) (Q:VK):zu:=∃ (F:Hp) (d:D) (v:V),vs=[v] /\ Sub F H /\ Den F d v /\ (toPy d).showable=ah /\ (toPy d).depth<=60 /\ (toPy d).shown.length<=sizeLine /\ Q (.str (toPy d).shown) H
theorem Jl {k:Nat}(hr:di k X.A):eF X (.builtin "repr") ag2:=by
 intro pins s σ H xs us Q I rv h;let#[F,d,v,rfl,sub,hd,h1,h2,h3,q]:=h;let#[u,rfl,ru]:=Vals.one rv;have fin:∀ (t:Tok) (tk:Nat),EP X pins σ Q (.str (toPy d).shown t) { s with toks:=tk }:=λt tk=>#[.str _,H,I.tok tk,#[t,rfl],q];have IM:∀ (t':Str),t'=(toPy d).shown->∀ h' u tk,(∀ b o,s.heap.get? b=ae o->h'.get? b=ae o)->∃ x t,Value.str t' u=.str x t /\ EP X pins σ Q (.str t' u) { s with heap:=h',toks:=tk }:=λt' et h' t tk hk=>by
  subst et;show#[_,_,rfl,.str _,H,I.kept (t':=tk) hk,#[t,rfl],q]
 have hu:=hr.units;cases d with
 |non=>cases (show v=.non from hd);cases ru;show P.repr_of_none (fin _ _)
 |bl b=>cases (show v=.bl b from hd);cases ru;show P.repr_of_bool (fin _ _)
 |int i=>cases (show v=.int i from hd);let#[t,rfl]:=ru;show P.repr_of_int (of_decide_eq_true h1) (fin _ _)
 |str x=>cases (show v=.str x from hd);let#[t,rfl]:=ru;show P.repr_of_str (hsz:=h3) (fin _ _)
 |tup l=>
   let#[as,rd]:=gh I sub hd ru;let#[a,vs,rfl,k1,k2]:=hd;cases ru;let#[_,its,rv,ob,e1,e2,n,e3]:=(show bG X.prog X.w H s.heap a (.tup vs) from I.aC a _ (sub _ _ k1));have nO:(tupleText za2).length<=sizeLine:=by simpa only[toPy,PyData.shown] using h3
   let#[bs,hb,hk]:=jB I sub k2 rv (by simpa[toPy,PyData.showable] using h1) λt m=>cC (aaJ m) nO;erw[toPy,PyData.depth]at rd h2;show QL zd #[ob,e1,e2] PySem.F.slot_tuple_repr (call_tuple_reprK e1 e2 e3 (wU rd (nF _) hb) (by simpa using hk) hr.gd (λb _=>Clear.nil b) (by change X.A.units+1+_<cLine;lia) (λ_ _ z=>z) (IM _ (by erw[toPy,PyData.shown])) nO)
 |lst l=>
   let#[as,rd]:=gh I sub hd ru;let#[a,vs,rfl,k1,k2]:=hd;cases ru;let#[_,its,n,rv,e1]:=(show bG X.prog X.w H s.heap a (.lst vs) from I.aC a _ (sub _ _ k1));have nO:(listText za2).length<=sizeLine:=by simpa only[toPy,PyData.shown] using h3
   let#[bs,hb,hk]:=jB I sub k2 rv (by simpa[toPy,PyData.showable] using h1) λt m=>cC (aaK m) nO;erw[toPy,PyData.depth]at rd h2;refine QL zd #[_,e1,rfl] PySem.F.slot_list_repr.toG ?_;cases its with
   |nil=>
     have e:bJ l=[]:=by
      cases l with
      |nil=>rfl
      |cons x l=>let#[v,t,e,_]:=k2;subst e;cases rv
     show call_list_repr_empty #[_,e1,rfl] e1 zc (IM "[]" (by erw[toPy,PyData.shown,e,PyData.shownAll,aaL]) s.heap _ _ λ_ _ z=>z)
   |cons x its=>show call_list_reprK e1 zc zc (wU rd (nF _) hb) (by simpa using hk.length_eq) (λi y q=>hk.item i y (by simpa using q)) hr.gd (λb _=>Clear.nil b) (by change X.A.units+1+_<cLine;lia) (λ_ _ z=>z) (IM _ (by erw[toPy,PyData.shown])) nO
 |aA l=>
   let#[as,rd]:=gh I sub hd ru;let#[a,ao,rfl,k1,k2]:=hd;cases ru;let#[_,hy,vs,rk,ob,es,ep,e1,e2,e3,_,pr,_]:=(show bG X.prog X.w H s.heap a zag from I.aC a _ (sub _ _ k1));have nO:(dictText (PyData.shownKv (bZ l))).length<=sizeLine:=by simpa only[toPy,PyData.shown] using h3
   have fit:Em (PyData.shownKv (bZ l)):=λt m=>cC (aaM m) nO;have En:PyData.showableKv (bZ l)=ah:=by simpa[toPy,PyData.showable] using h1
   let#[bs,hb,hk]:=oK I sub k2 rk pr En fit;have hK:=oJ (X:=X) (h:=s.heap) (n:=PyData.depthKv (bZ l)) pr rk k2 En fit;erw[toPy,PyData.depth]at rd h2;rw[Xw]at nO;show QL zd #[ob,e1,e2.1] PySem.F.slot_dict_repr (call_dict_reprK e1 e2.1 e3 hy (wU rd (nF _) hb) (ach _ _ _ (hK.more_le (λ_ z=>by cases z) (aD _)) hk) hr.gd (λb _=>Clear.nil b) (by change X.A.units+1+_<cLine;lia) (λ_ _ z=>z) (IM _ (by erw[toPy,PyData.shown,Xw])) nO)
def v9 (d:D):Bool:=(toPy d).showable&&decide ((toPy d).depth<=60)&&decide ((toPy d).shown.length<=sizeLine)
theorem OG (s:Sub F H):∀ {d:D}{v:V},nZ F H d v->∃ F',Sub F' H /\ Den F' d v
 | .lst l,_,h=>by
   let#[a,vs,rfl,h1,h2]:=h;refine#[upd F a (.lst vs),λb u e=>?_,a,vs,rfl,fw,aE.mono (λb u e=>?_) l h2]
   .by_cases z:b=a
    .subst z;rw[fw]at e;rw[h1,e]
    .rw[fB z]at e;show s b u e
   .by_cases z:b=a
    .subst z;rw[s b u e]at h1;rw[fw,h1]
    .rw[fB z];show e
 | .aA l,_,h=>by
   let#[a,vs,rfl,h1,h2]:=h;refine#[upd F a (.dK vs),λb u e=>?_,a,vs,rfl,fw,aR.mono (λb u e=>?_) l h2]
   .by_cases z:b=a
    .subst z;rw[fw]at e;rw[h1,e]
    .rw[fB z]at e;show s b u e
   .by_cases z:b=a
    .subst z;rw[s b u e]at h1;rw[fw,h1]
    .rw[fB z];show e
 |.tup _,_,h=>#[F,s,h]
 |.non,_,h=>#[F,s,h]
 |.bl _,_,h=>#[F,s,h]
 |.int _,_,h=>#[F,s,h]
 |.str _,_,h=>#[F,s,h]
def rF (m:DE W):DE W:=λenv bx=>fA zC λw bx1=>match bY bx1 w with
 |some d=>if v9 d=ah then .val (.d (.str (toPy d).shown)) bx1 else .bad
 |none=>.bad
theorem OH {k:Nat}(hr:di k X.A) (hg:Gl X "repr") (hm:X.mg "repr"=ag) (ha:PD X T Z a ma) (he:starEach [a] X.env=(af,eval a X.env)::starEach [] X.env:=by rfl) :
 PD X T Z (.Call (.Name "repr" p) [a] [] pos) (rF ma):=by
 refine PE.imp (mN (Jl hr) hg hm zay (jg ha lh he) ze ze he (by rfl)) λσ H Q=>x4 λF r env bx R h=>?_;refine#[F,r,env,bx,R,End.bind h λw bx1 F1 r1 v H1 g1 R1 d1 h1=>?_];split at h1
 .ext d er;let#[F2,sub,d2]:=OG R1.fh (R1.rf d1 er);split at h1
  .ext hc;unfold v9 at hc;rw[aG,aG]at hc;show#[F2,d,v,rfl,sub,d2,hc.1.1,of_decide_eq_true hc.1.2,of_decide_eq_true hc.2,h1 F1 r1 _ H1 zS R1 zc]
  .show h1.elim
 .show h1.elim
end
theorem iX {s:aq}(I:Inv X pins σ H s) (sub:Sub F H) {d:D}(h:nZ F H d v) (r:RelV v u):∃ as,Reads s.heap u (toPy d) as:=by
 cases d with
 |lst l=>
   let#[a,vs,rfl,h1,h2]:=h;cases r;let#[_,its,n,rv,e1]:=(show bG X.prog X.w H s.heap a (.lst vs) from I.aC a _ h1);let#[as,ra]:=jK I sub h2 rv;show#[a::as,.list e1 zc zc (by simpa using ra)]
 |aA l=>
   let#[a,ao,rfl,h1,h2]:=h;cases r;let#[_,_,vs,rk,ob,es,ep,e1,e2,e3,_,pr,_]:=(show bG X.prog X.w H s.heap a zag from I.aC a _ h1);let#[as,ra]:=mf I sub h2 rk pr;show#[a::[]++as,.dict e1 e2.1 e3 (oH (X:=X) pr rk h2) ra]
 |tup l=>show gh (d:=.tup l) I sub h r
 |non=>show gh (d:=.non) I sub h r
 |bl b=>show gh (d:=.bl b) I sub h r
 |int i=>show gh (d:=.int i) I sub h r
 |str x=>show gh (d:=.str x) I sub h r
def kz (d:D):Bool:=(toPy d).canLay0&&decide ((toPy d).depth<=60)
def eqv (x y:D):Bool:=PyData.eqv (toPy x) (toPy y)
theorem mj {d:D}(h:kz d=ah):(toPy d).canLay0=ah /\ (toPy d).depth<=60:=by
 unfold kz at h
 rwa [aG,decide_eq_true_eq]at h
def IP (neg:Bool):R2:=λx y H Q=>∃ F dx dy,Sub F H /\ nZ F H dx x /\ nZ F H dy y /\ kz dx=ah /\ kz dy=ah /\ Q (.bl (if neg then !eqv dx dy else eqv dx dy)) H
theorem TL (hu:X.A.units+100<cLine):bp X (compareOp .NotEq) (IP ah):=by
 intro pins s σ H x y v u Q I rx ry h;let#[F,dx,dy,sub,hx,hy,ox,oy,q]:=h;let#[as,ra]:=iX I sub hx rx;let#[bs,rb]:=iX I sub hy ry;let#[x1,x2]:=mj ox;let#[y1,y2]:=mj oy;show SeqAt.compareNe_reads ra rb x1 y1 zd #[.bl _,H,I,rfl,q]
def xZ (neg:Bool) (x y:D):Option Res:=if kz x&&kz y then ae (.old (.bl (if neg then !eqv x y else eqv x y))) else ag
theorem ag3 (neg:Bool):cD (IP neg) (xZ neg):=by
 intro F H x y v w Q s sub rx ry e k;unfold xZ at e;split at e
 .ext c;rw[aG]at c;cases e;show#[F,x,y,sub,rx,ry,c.1,c.2,k _ _ #[rfl,rfl]]
 .cases e
noncomputable def aT:D->D->Option Res
 |.int i,.int j=>ae (.old (.bl (decide (i=j))))
 |.str i,.str j=>ae (.old (.bl (decide (i=j))))
 |_,_=>ag
def dO:D->D->Option Res
 |.int i,.int j=>ae (.old (.bl (!decide (i=j))))
 |.str i,.str j=>ae (.old (.bl (!decide (i=j))))
 |.lst l,.lst []=>ae (.old (.bl (!l.isEmpty)))
 |x,y=>xZ ah x y
theorem TM {x y:D}{s:Res}(h:dO x y=ae s):Ym x y=ae s \/ xZ ah x y=ae s:=by
 unfold dO at h;split at h
 .show .inl h
 .show .inl h
 .show .inl h
 .show .inr h
theorem TN (hu:X.A.units+100<cLine):bp X (compareOp .Eq) XQ:=Vs
theorem TQ (hu:X.A.units+100<cLine):bp X (compareOp .NotEq) (λx y H Q=>IH X.K x y H Q \/ IP ah x y H Q):=(Oz zd).or (TL hu)
theorem ag4:cD XQ aT:=by
 intro F H x y v w Q s sub rx ry e k;unfold aT at e;split at e
 .ext i j;cases e;cases (show v=.int i from rx);cases (show w=.int j from ry);show#[rfl,k _ _ #[rfl,by change _=_;simp]]
 .ext i j;cases e;cases (show v=.str i from rx);cases (show w=.str j from ry);show#[rfl,k _ _ #[rfl,by change _=_;simp]]
 .cases e
theorem ag5:cD (λx y H Q=>IH K x y H Q \/ IP ah x y H Q) dO:=λF H x y v w Q s sub rx ry e k=>(TM e).imp (λe=>agN F H x y v w Q s sub rx ry e k) λe=>ag3 ah F H x y v w Q s sub rx ry e k
end L2.DL
namespace HT
section
open PySem.SeqAt
open PySem.AutoSeq1 (wpAny_loadPart')
open PySem.MeetsSeq PySem.MeetsSeq2 PySem.MeetsSeq3
end
section
variable {s:aq}
open PySem.AutoSeq1 (wpAny_loadPart')
end
end HT
namespace L2.DL
section
variable {a b c:au} {mc:DE W} {p p2:aL}
theorem OI:bp X (binaryOp .Mult) (rI uT λi j=>.int (i*j)):=S0
noncomputable def c6:D->D->Option Res:=λx y=>match x,y with|.int i,.int j=>if uT i j then ae (.old (.int (i*j))) else ag|_,_=>ag
theorem aE.rep {F:Hp}{l:List D}{vs:List V}(h:aE F l vs):∀ k:Nat,aE F (List.replicate k l).flatten (List.replicate k vs).flatten
 |0=>rfl
 | k+1=>by
   rw[Hm,Hm,Hn,Hn];show h.append (h.rep k)
theorem ag6:cD (rI uT λi j=>.int (i*j)) c6:=IF (g:=λi j=>.int (i*j)) λ_ _ _=>rfl
theorem TR (hu:X.A.units<cLine):bp X (compareOp .LtE) (kP λi j=>.bl (decide (i<=j))):=Vv
noncomputable def eW:D->D->Option Res:=λx y=>match x,y with|.int i,.int j=>ae (.old (.bl (decide (i<=j))))|_,_=>ag
theorem ag7:cD (kP λi j=>.bl (decide (i<=j))) eW:=IG (g:=λi j=>.bl (decide (i<=j))) λ_ _ _=>rfl
theorem Jm {o:au}(ho:PD X T Z o ma) (ha:PD X T Z e mb)
 (vS:attributeBase o "append" X.env (eval o X.env)=eval o X.env:=by rfl)
 (vT:((backTo pos (starEach [e] X.env)).all (λx=>!x.1)&&(backToKw pos (keywordEach [] X.env)).all (λx=>x.1.isSome)
  && decide zaf)=ah:=by rfl)
 (vU:(apos.endLine==pos.line)=ah:=by rfl) (hs:starEach [e] X.env=zaS::starEach [] X.env:=by rfl) :
 PD X T Z (.Call (.Attribute o "append" apos) [e] [] pos) (kU ma mb):=
 PE.imp (Lo Xt PySem.F.slot_list_append PySem.F.type_list_append oB ho (jg ha lh hs) vS vT vU hs (by rfl)) λσ H Q h=>VH h
def Eo (mo mi:DE W):DG:=λw env bx=>match mo env bx with
 | .val (.b n) bx1=>(match mi env bx1 with
   | .val (.d (.int k)) bx2=>(match w,bx2[n]? with
     |.d d,ae (.lst l)=>(bQ l.length k).map λj=>(env,bx2.set n (.lst (l.set j d)))
     |_,_=>ag)
   |_=>ag)
 |_=>ag
theorem OJ {o i:au}{mo mi:DE W}(ho:PD X T Z o mo) (hi:PD X T Z i mi)
 (ha:∀ v,assign (.Subscript o i pos) X.env v=(do
  let ov <-holding [v] (eval o X.env)
  let iv <-holding [v,ov] (eval i X.env)
  standAt pos
  holding [v,ov,iv] (setItem ov iv v)
  release [v,ov,iv] []):=by intro _;rfl):kS X T (.Subscript o i pos) (Eo mo mi):=by
 refine PG.imp (SS ho hi Lm ha) λv σ H Q=>x5 λF r env bx w R dw h=>?_;unfold Eo at h;refine#[F,r,env,bx,R,?_];cases eo:mo env bx with
 |bad=>erw[eo]at h;show h.elim
 |exc c bx1=>erw[eo]at h;show h.elim
 |val ow bx1=>
   erw[eo]at h;intro F1 r1 ov H1 g1 R1 d1;cases ow with
   |b n=>
     simp only at h;refine#[F1,r1,env,bx1,R1,?_];cases ei:mi env bx1 with
     |bad=>erw[ei]at h;show h.elim
     |exc c bx2=>erw[ei]at h;show h.elim
     |val iw bx2=>
       erw[ei]at h;intro F2 r2 iv H2 g2 R2 d2;cases iw with
       |d id=>
         cases id with
         |int k=>
           simp only at h;let#[a,rfl,ha]:=g2.den d1;let#[c2,eT,rD]:=R2.eU ha;rw[eT]at h;cases w with
           |d dd=>
             cases c2 with
             |lst l=>
               simp only at h;cases ej:bQ l.length k with
               |none=>rw[ej]at h;show h.elim
               |some j=>
                 rw[ej]at h;let#[hF,vs,k1,k2]:=rD;refine#[a,vs,k,j,rfl,d2,k1,by rw[<-k2.length];show ej,?_];have ag8:Den F2 dd v:=Den.mono (g1.trans g2).s dd dw;show h F2 r2 σ _ (g1.trans g2) (R2.write ha hF #[hF,_,fw,aE.set ag8 j k2])
             |_=>show h.elim
           |_=>show h.elim
         |_=>show h.elim
       |_=>show h.elim
   |_=>show h.elim
noncomputable def sR (i:Nat):DE W:=λenv bx=>match env[i]? with
 | some (ae (.b n))=>(match bx[n]? with
   |some (.lst l)=>.val (.d zaZ) (bx.set n .dead)
   |some (.aA l)=>.val (.d (.aA l)) (bx.set n .dead)
   |_=>.bad)
 |_=>.bad
theorem TU (i:Nat) (hN:X.N[i]?=ae x:=by rfl) (hv:vJ X.env.scope x:=by first|show Or.inl zc|show Or.inr (Or.inl zc)|show Or.inr (Or.inr zc)) (hd:(x==("__debug__":Str))=af:=by decide)
 (pO:(x==("__classdict__":Str))=af:=by decide):PD X T Z (.Name x pos) (sR i):=by
 refine PE.imp (J1 hN hv hd pO) λσ H Q=>x4 λF r env bx R h=>?_;unfold sR at h;split at h
 .ext n e;let#[v,e1,a,rfl,ha]:=R.slot i _ e;let#[c,hc,kc]:=R.eU ha;rw[hc]at h;cases c with
  |lst l=>
    let#[hF,vs,k1,k2]:=kc;let#[R',g]:=R.freeze ha hF k1;show#[_,e1,h _ r _ H g R' #[a,vs,rfl,fw,aE.mono g.s l k2]]
  |aA l=>
    let#[hF,vs,k1,k2]:=kc;let#[R',g]:=R.freeze ha hF k1;show#[_,e1,h _ r _ H g R' #[a,vs,rfl,fw,aR.mono g.s l k2]]
  |_=>show h.elim
 .show h.elim
def ui (m:DE W):DE W:=λenv bx=>fA zC λw bx1=>match w with|.s l=>.val (.d (.int l.length)) bx1|_=>.bad
theorem OK (hg:Gl X "len") (hm:X.mg "len"=ag) (ha:PD X T Z a ma) (he:starEach [a] X.env=(af,eval a X.env)::starEach [] X.env:=by rfl):PD X T Z (.Call (.Name "len" p) [a] [] pos) (ui ma):=by
 refine PE.imp (mN mQ hg hm PySem.boot_len (jg ha lh he) ze ze he (by rfl)) λσ H Q=>x4 λF r env bx R h=>?_;refine#[F,r,env,bx,R,End.bind h λw bx1 F1 r1 v H1 g1 R1 d1 h1=>?_];cases w with
 |s l=>
   let#[q,o,rfl,k]:=d1;refine#[q,_,rfl,.inl (.inl (.inr #[o,R1.fh _ _ k])),?_];rw[a6];show h1 F1 r1 _ H1 zS R1 zc
 |_=>show h1.elim
def Ep (m k:DE W):DE W:=λenv bx=>fA zC λw bx1=>fA (k env bx1) λu bx2=>match w,u with
 |.s l,.d (.int i)=>(match bu l i with|some n=>.val (.d (.int n)) bx2|none=>.bad)
 |_,_=>.bad
theorem TV (ha:PD X T Z a ma) (hb:PD X T Z b mb) (hs:Il b):PD X T Z (.Subscript a b pos) (Ep ma mb):=by
 refine PE.imp (R8 FX ha hb hs) λσ H Q=>x4 λF r env bx R h=>?_;refine#[F,r,env,bx,R,End.bind h λw bx1 F1 r1 v H1 g1 R1 d1 h1=>?_];refine#[F1,r1,env,bx1,R1,End.bind h1 λu bx2 F2 r2 y H2 g2 R2 d2 h2=>?_];cases w with
 |s l=>
   cases u with
   |d d=>
     cases d with
     |int i=>
       let#[q,o,rfl,k]:=d1;simp only at h2;cases e:bu l i with
       |none=>rw[e]at h2;show h2.elim
       |some n=>
         rw[e]at h2;refine#[q,l.map V.int,i,.int n,rfl,d2,.inl (.inr #[o,R2.fh _ _ (g2.s _ _ k)]),?_,h2 F2 r2 _ H2 (.refl F2 r2) R2 zc];unfold bu at e ⊢;rw[a6];cases ej:bQ l.length i with
         |none=>rw[ej]at e;cases e
         |some j=>rw[ej]at e;erw[cb]at e ⊢;rw[kK,e];rfl
     |_=>show h2.elim
   |_=>show h2.elim
 |_=>show h2.elim
def nP (bo:Bool) (l:List (Key×D)):DE W:=λ_ bx=>cu bo (ae (.aA l)) bx
theorem OL (bo:Bool):PD X T Z (.Dict [] [] pos) (nP bo []):=by
 refine PE.imp (CY) λσ H Q=>x4 λF r env bx R h=>?_;show λp hp=>iC R h #[p,[],rfl,hp,rfl,rfl]
end
end L2.DL
namespace HT
section
variable {s:aq}
theorem Ff {t:aj}{i:Nat}{x:ai}(hit:s.heap.IsTupleIter it t i) (ht:s.heap.IsTuple t items) (hx:items[i]?=ae x)
 (hQ:∀ h',h'.IsTupleIter it t (i+1)->Heap.SameBut it s.heap h'->Q x { s with heap:=h' }):wpAny zh A (Builtin.SmallTypes.nextOf zaQ) Q E s:=by
 let#[ob,rz,xK,rq]:=id hit;let#[ot,Er,_,nt,Ys]:=ht;unfold Builtin.SmallTypes.nextOf;refine ak (qK (name:=Str.ofString "__next__") hit.typeIs HN (hV HN hit.typeIs ab1 (show wpAny _ _ (field zaQ 0 >>= _) _ _ s from ak (k8 rz rq (x:=.ref t) zc ?_)) (ab2 _)))
 change wpAny _ _ (if (Value.ref t==Value.none)=ah then _ else _) _ _ s;rw[if_neg (show ¬ ((Value.ref t==Value.none)=ah) from c9)]
 change wpAny _ _ (field zaQ 1 >>= _) _ _ s
 refine ak (k8 rz rq (x:=.int i 0) zc (show wpAny _ _ (seqItems? (.ref t) >>= _) _ _ s from ak (uF Er Ys ?_)));erw[kh,hx];refine ak (rY rz rq zi (ay #[x,rfl,ay (hQ _ #[_,sq _ rz (xp (qj rq _)),(yO ..).trans xK,?_] (Heap.SameBut.update ..))]));rw[qj rq];simp[rawInt]
theorem Jn {t:aj}{i:Nat}(hh:A.handled=ag) (hit:s.heap.IsTupleIter it t i) (ht:s.heap.IsTuple t items) (hx:items[i]?=ag)
 (hE:∀ h' e,Heap.ExtBut it s.heap h'->(∃ o,h'.get? e=ae o /\ o.cls=.type "StopIteration")->E (.ref e) { s with heap:=h' }):wpAny zh A (Builtin.SmallTypes.nextOf zaQ) Q E s:=by
 let#[ob,rz,xK,rq]:=id hit;let#[ot,Er,_,nt,Ys]:=ht;unfold Builtin.SmallTypes.nextOf;refine ak (qK (name:=Str.ofString "__next__") hit.typeIs HN (hV HN hit.typeIs ab1 (show wpAny _ _ (field zaQ 0 >>= _) _ _ s from ak (k8 rz rq (x:=.ref t) zc ?_)) (ab2 _)))
 change wpAny _ _ (if (Value.ref t==Value.none)=ah then _ else _) _ _ s;rw[if_neg (show ¬ ((Value.ref t==Value.none)=ah) from c9)]
 change wpAny _ _ (field zaQ 1 >>= _) _ _ s
 refine ak (k8 rz rq (x:=.int i 0) zc (show wpAny _ _ (seqItems? (.ref t) >>= _) _ _ s from ak (uF Er Ys ?_)));erw[kh,hx];refine ak (p8 (ak (rY rz rq zi (show wpAny _ _ (newExc (.type "StopIteration") [] >>= _) _ _ _ from ak ?_))));erw[newExc,newTuple];refine ak (eR (ak (m:=firstArgMember _ _) (yB (a:=Value.none) (by first|rfl|(erw[firstArgMember];rfl)) (eR ?_ (by size_fits)))) (by size_fits));erw[raiseNew];refine ak (E9 ?_);first|rw[show A.in1.handled=ag from hh]|rw[hh]
 show ak (ay (Ha (hE _ _ (((Heap.SameBut.update ..).extBut.push _).push _) #[_,bF _ zc,rfl])))
theorem Jo (hh:A.handled=ag) (it l:aj) (kW:l≠it) (items:Array ai) :
 Draws prog w A it [it,l] items.size (λi v=>items[i]?=ae v) (λi h=>h.IsTupleIter it l i /\ h.IsTuple l items) where
 live:=λ_ _ st=>let ⟨o,ho,_⟩:=st.1;#[o,ho]
 frame:=λ_ _ _ st hk=>#[st.1.at λo e=>hk it zi o e,st.2.at λo e=>hk l zi o e]
 item:=λi s Q E hi st hQ=>Ff st.1 st.2 (x:=items[i]) (by simp[hi]) λh' a b=>hQ _ h' s.toks (by simp[hi]) #[a,st.2.at λo e=>b.extBut _ _ kW e] b
 done:=λs Q E st hE=>Jn hh st.1 st.2 zi hE
structure Es (z TI TO i1 i2:aj) (qw qx:List aj):zu where
 a:TI≠z /\ TO≠z /\ i1≠z /\ i2≠z /\ TI≠TO /\ TI≠i1 /\ TI≠i2 /\ TO≠i1 /\ TO≠i2 /\ i1≠i2
 f1:z∉qw /\ TO∉qw /\ i2∉qw
 f2:z∉qx /\ TO∉qx /\ i1∉qx
variable {z TI TO i1 i2:aj} {qw qx:List aj} {n1 n2:Nat} {P1 P2:Nat -> ai -> zu} {S1 S2:Nat -> aI -> zu}
theorem Draws.same {P:Nat->ai->zu}{S:Nat->aI->zu}(D:Draws prog w A it fp n P S) {c:aj}{k:Nat}(x:Heap.SameBut c h h') (hc:c∉fp) (st:S k h):S k h' :=
 D.frame k h h' st λb hb o e=>x.extBut _ _ (λq=>hc (q▸hb)) e
abbrev rG (h:aI) (z TI TO:aj) (f0 f1:ai):zu:=h.get? z=ae { cls:=.type "zip",dict:=ag,data:=.fields (List.toArray [f0,f1,.bool af,.ref TI,.ref TO]),slots:=#[] }
def rH (h:aI) (z TI TO:aj):zu:=∃ f0 f1,(f0=.none \/ ∃ a,f0=rawInt a) /\ rG h z TI TO f0 f1
theorem ag9 {Q:Option aY->aq->zu}(h:Q (s.heap.get? a) s):wpAny zh A (loadIfAlive a) Q E s:=λΓ p _=>by simpa[loadIfAlive] using h
theorem AM {f0 f1:ai}{Q:Bool->aq->zu}(hf:f0=.none \/ ∃ a,f0=rawInt a) (hz:rG s.heap z TI TO f0 f1) (h:∀ r h' aha,rG h' z TI TO f0 aha->Heap.SameBut z s.heap h'->Q r { s with heap:=h' }) :
 wpAny zh A (Builtin.SmallTypes.ownedTupleIsFree (.ref z)) Q E s:=by
 have hs:Heap.SameBut z s.heap s.heap:=#[rfl,λ_ _=>rfl];unfold Builtin.SmallTypes.ownedTupleIsFree;rcases hf with rfl|⟨a,rfl⟩
 .show ak (k8 hz zc (x:=.none) zc (ay (h _ _ f1 hz hs)))
 .refine ak (k8 hz zc (x:=rawInt a) zc (ak (ag9 ?_)));cases s.heap.get? a.toNat with
  |none=>show ay (h _ _ f1 hz hs)
  |some o=>
    refine ak (k8 hz zc (x:=f1) zc ?_);by_cases q:(f1 != Value.bool ah)=ah
    .rw[if_pos q];show ak (uG hz zi λg1 wa e1=>ay (h _ g1 (.bool ah) wa e1))
    .rw[if_neg q];show ak (ay (ay (h _ _ f1 hz hs)))
theorem LU (D1:Draws prog w A i1 qw n1 P1 S1) (D2:Draws prog w A i2 qx n2 P2 S2) (R:Es z TI TO i1 i2 qw qx) {k:Nat}{a b:ai}(k1:k<n1) (k2:k<n2)
 (hz:rH s.heap z TI TO) (wb:IsPair s.heap TI (.ref i1) (.ref i2)) (u9:IsPair s.heap TO a b) (s1:S1 k s.heap) (s2:S2 k s.heap)
 (hQ:∀ x y h' tk,P1 k x->P2 k y->rH h' z TI TO->(∃ u v,IsPair h' TO u v)->S1 (k+1) h'->S2 (k+1) h'->IsPair h' s.heap.objs.size x y ->
  zaq->Q zK { s with heap:=h',toks:=tk }) :
 wpAny zh A (Builtin.«zip.__next__» #[[.ref z],[]]) (λfin s'=>∃ v,fin=.done (.ret v) /\ Q v s') E s:=by
 let#[#[r1,r2,r3,r4,r5,r6,r7,r8,r9,Et],#[f1,f2,f3],#[f4,f5,f6]]:=R;let#[o0,o1,ho,hz]:=hz
 change wpAny _ _ (field (.ref z) 2 >>= _) _ _ _;refine ak (k8 hz zc (x:=.bool af) zc ?_)
 change wpAny _ _ (field (.ref z) 3 >>= _) _ _ _;refine ak (k8 hz zc (x:=.ref TI) zc (ak (uF wb zc ?_)))
 change wpAny _ _ (Builtin.SmallTypes.ownedTupleIsFree (.ref z) >>= _) _ _ _
 refine ak (AM ho hz λr g0 o2 ya e0=>?_);cases r with
 |true=>
   erw[if_true];refine ak (p8 (ak (k8 ya zc (x:=.ref TO) zc (ak (uG ya zi λg1 wa ua=>?_)))));have e1:Heap.SameBut z s.heap g1:=#[ua.1.trans e0.1,λc hc=>(ua.2 c hc).trans (e0.2 c hc)];have IQ:rG g1 z TI TO .ellipsis o2:=wa;refine ak ?_;erw[Q5,Hu,xc,vC];refine ak (ak (yC (show wpAny _ _ zaG _ _ _ from ak (D1.item k _ _ _ k1 (Draws.same D1 e1 f1 s1) λx g2 t2 px Eu e2=>ay ?_))));have Ew:IsPair g2 TO a b:=e2.extBut _ _ r8 (e1.extBut _ _ r2 u9);refine ak (uF Ew zc (ak (QM Ew λg3 adC e3=>ak (QN (ay ?_)))));have ahb:IsPair g3 TO x b:=adC;refine ak (ak (yC (show wpAny _ _ (Builtin.SmallTypes.nextOf (.ref i2) >>= _) _ _ _ from ak (D2.item k _ _ _ k2 (Draws.same D2 e3 f5 (Draws.same D2 e2 f6 (Draws.same D2 e1 f4 s2))) λy g4 t4 py Yt e4=>ay ?_))));have adD:IsPair g4 TO x b:=e4.extBut _ _ r9 ahb;refine ak (uF adD zc (ak (QM adD λg5 ahc e5=>ak (QN (ay (ay ?_))))));have adE:IsPair g5 TO x y:=ahc;refine ak (uF adE zc (ak (QO ?_)));have hsz:g5.objs.size=s.heap.objs.size:=by rw[e5.1,e4.1,e3.1,e2.1,e1.1]
   have adF:rG g5 z TI TO .ellipsis o2:=e5.extBut _ _ r2.symm (e4.extBut _ _ r4.symm (e3.extBut _ _ r2.symm (e2.extBut _ _ r3.symm IQ)));have kp:∀ c o,c≠z->c≠TO->c≠i1->c≠i2->s.heap.get? c=ae o->g5.get? c=ae o:=λc o c1 c2 c3 c4 q=>e5.extBut _ _ c2 (e4.extBut _ _ c4 (e3.extBut _ _ c2 (e2.extBut _ _ c3 (e1.extBut _ _ c1 q))));have q1:S1 (k+1) g5:=Draws.same D1 e5 f2 (Draws.same D1 e4 f3 (Draws.same D1 e3 f2 Eu));have q2:S2 (k+1) g5:=Draws.same D2 e5 f5 Yt;have Ex:z<g5.objs.size:=bj adF
   change wpAny _ _ (Builtin.SmallTypes.ownedTupleHandOut (.ref z) (.ref g5.objs.size) >>= _) _ _ _;refine ak ?_
   unfold Builtin.SmallTypes.ownedTupleHandOut;refine ak (uG (aX _ adF) zi λg7 ahd e7=>uG (show rG g7 z TI TO (rawInt g5.objs.size) o2 from ahd) zi λg8 ahe e8=>?_);have up:∀ c o,c≠z->g5.get? c=ae o->g8.get? c=ae o:=λc o c1 q=>e8.extBut _ _ c1 (e7.extBut _ _ c1 (aX _ q));have adG:IsPair g8 g5.objs.size x y:=e8.extBut _ _ (vA Ex) (e7.extBut _ _ (vA Ex) (bF _ zc));have ahf:rH g8 z TI TO:=#[_,_,.inr #[_,rfl],show rG g8 z TI TO (rawInt g5.objs.size) (.bool af) from ahe];refine ay #[_,rfl,(show Q (.ref g5.objs.size) _ from ?_)];rw[hsz]at adG ⊢;show hQ x y g8 _ px py ahf #[_,_,up _ _ r2 adE] (D1.frame _ _ _ q1 λc hc o q=>up c o (λw=>f1 (w▸hc)) q) (D2.frame _ _ _ q2 λc hc o q=>up c o (λw=>f4 (w▸hc)) q) adG λc o c1 c2 c3 c4 q=>up c o c1 (kp c o c1 c2 c3 c4 q)
 |false=>
   erw[yI,if_false];rw[show ((List.toArray [Value.ref i1,Value.ref i2]):Array ai)=[Value.ref i1,Value.ref i2].toArray from rfl];erw[abf,xc,vC];refine ak (ak (ak (hG (show wpAny _ _ zaG _ _ _ from ak (D1.item k _ _ _ k1 (Draws.same D1 e0 f1 s1) λx g2 t2 px Eu e2=>ay ?_)))));refine ay (ak (ak (hG (show wpAny _ _ (Builtin.SmallTypes.nextOf (.ref i2) >>= _) _ _ _ from ak (D2.item k _ _ _ k2 (Draws.same D2 e2 f6 (Draws.same D2 e0 f4 s2)) λy g4 t4 py Yt e4=>ay ?_)))));refine ay (ay (ak (QO (ay #[_,rfl,?_]) (show 2<=sizeLine by decide))));have hsz:g4.objs.size=s.heap.objs.size:=by rw[e4.1,e2.1,e0.1]
   have IS:rG g4 z TI TO o0 o2:=e4.extBut _ _ r4.symm (e2.extBut _ _ r3.symm ya);have up:∀ c o,g4.get? c=ae o->(g4.push { cls:=.type "tuple",data:=.seq (List.toArray [x,y]) }).get? c=ae o:=λc o q=>aX _ q;have hT:IsPair (g4.push { cls:=.type "tuple",data:=.seq (List.toArray [x,y]) }) g4.objs.size x y:=bF _ zc;change Q (.ref g4.objs.size) _;rw[hsz]at hT ⊢;show hQ x y _ _ px py #[o0,o2,ho,up _ _ IS] #[a,b,up _ _ (e4.extBut _ _ r9 (e2.extBut _ _ r8 (e0.extBut _ _ r2 u9)))] (D1.frame _ _ _ (Draws.same D1 e4 f3 Eu) λc hc o q=>up c o q) (D2.frame _ _ _ Yt λc hc o q=>up c o q) hT
    λc o c1 c2 c3 c4 q=>up c o (e4.extBut _ _ c4 (e2.extBut _ _ c3 (e0.extBut _ _ c1 q)))
theorem LV (D1:Draws prog w A i1 qw n1 P1 S1) (D2:Draws prog w A i2 qx n2 P2 S2) (R:Es z TI TO i1 i2 qw qx) {k:Nat}{a b:ai}{Q:Fin->aq->zu}(hk:k=n1 \/ (k<n1 /\ k=n2))
 (hz:rH s.heap z TI TO) (wb:IsPair s.heap TI (.ref i1) (.ref i2)) (u9:IsPair s.heap TO a b) (s1:S1 k s.heap) (s2:S2 k s.heap)
 (hE:∀ h' e tk,zaq->(∃ o,h'.get? e=ae o /\ o.cls=.type "StopIteration")->E (.ref e) { s with heap:=h',toks:=tk }) :
 wpAny zh A (Builtin.«zip.__next__» #[[.ref z],[]]) Q E s:=by
 let#[#[r1,r2,r3,r4,r5,r6,r7,r8,r9,Et],#[f1,f2,f3],#[f4,f5,f6]]:=R;let#[o0,o1,ho,hz]:=hz
 change wpAny _ _ (field (.ref z) 2 >>= _) _ _ _;refine ak (k8 hz zc (x:=.bool af) zc ?_)
 change wpAny _ _ (field (.ref z) 3 >>= _) _ _ _;refine ak (k8 hz zc (x:=.ref TI) zc (ak (uF wb zc ?_)))
 change wpAny _ _ (Builtin.SmallTypes.ownedTupleIsFree (.ref z) >>= _) _ _ _
 refine ak (AM ho hz λr g0 o2 ya e0=>?_);cases r with
 |true=>
   erw[if_true];refine ak (p8 (ak (k8 ya zc (x:=.ref TO) zc (ak (uG ya zi λg1 wa ua=>?_)))));have e1:Heap.SameBut z s.heap g1:=#[ua.1.trans e0.1,λc hc=>(ua.2 c hc).trans (e0.2 c hc)];have IQ:rG g1 z TI TO .ellipsis o2:=wa;refine ak ?_;erw[Q5,Hu,xc,vC];rcases hk with hk|⟨Yu,wc⟩
   .refine ak (ak (yC (show wpAny _ _ zaG _ _ _ from ak (D1.done _ _ _ (hk▸Draws.same D1 e1 f1 s1) λg2 ex e2 hx=>?_))));let#[oe,we,Ey]:=hx;have IT:rG g2 z TI TO .ellipsis o2:=e2 _ _ r3.symm IQ;have Yv:ex≠z:=λq=>by subst q;rw[IT]at we;cases we;simp at Ey
    show uG IT zi λg3 _ e3=>hE g3 ex _ (λc o c1 _ c3 _ q=>e3.extBut _ _ c1 (e2 _ _ c3 (e1.extBut _ _ c1 q))) #[oe,e3.extBut _ _ Yv we,Ey]
   .refine ak (ak (yC (show wpAny _ _ zaG _ _ _ from ak (D1.item k _ _ _ Yu (Draws.same D1 e1 f1 s1) λx g2 t2 px Eu e2=>ay ?_))));have Ew:IsPair g2 TO a b:=e2.extBut _ _ r8 (e1.extBut _ _ r2 u9);refine ak (uF Ew zc (ak (QM Ew λg3 adC e3=>ak (QN (ay ?_)))));refine ak (ak (yC (show wpAny _ _ (Builtin.SmallTypes.nextOf (.ref i2) >>= _) _ _ _ from ak (D2.done _ _ _ (wc▸Draws.same D2 e3 f5 (Draws.same D2 e2 f6 (Draws.same D2 e1 f4 s2))) λg4 ex e4 hx=>?_))));let#[oe,we,Ey]:=hx;have IS:rG g4 z TI TO .ellipsis o2:=e4 _ _ r4.symm (e3.extBut _ _ r2.symm (e2.extBut _ _ r3.symm IQ));have Yv:ex≠z:=λq=>by subst q;rw[IS]at we;cases we;simp at Ey
    show uG IS zi λg5 _ e5=>hE g5 ex _ (λc o c1 c2 c3 c4 q=>e5.extBut _ _ c1 (e4 _ _ c4 (e3.extBut _ _ c2 (e2.extBut _ _ c3 (e1.extBut _ _ c1 q))))) #[oe,e5.extBut _ _ Yv we,Ey]
 |false=>
   erw[yI,if_false];rw[show ((List.toArray [Value.ref i1,Value.ref i2]):Array ai)=[Value.ref i1,Value.ref i2].toArray from rfl];erw[abf,xc,vC];rcases hk with hk|⟨Yu,wc⟩
   .refine ak (ak (ak (hG (show wpAny _ _ zaG _ _ _ from ak (D1.done _ _ _ (hk▸Draws.same D1 e0 f1 s1) λg2 ex e2 hx=>?_)))));show hE g2 ex _ (λc o c1 _ c3 _ q=>e2 _ _ c3 (e0.extBut _ _ c1 q)) hx
   .refine ak (ak (ak (hG (show wpAny _ _ zaG _ _ _ from ak (D1.item k _ _ _ Yu (Draws.same D1 e0 f1 s1) λx g2 t2 px Eu e2=>ay ?_)))));refine ay (ak (ak (hG (show wpAny _ _ (Builtin.SmallTypes.nextOf (.ref i2) >>= _) _ _ _ from ak (D2.done _ _ _ (wc▸Draws.same D2 e2 f6 (Draws.same D2 e0 f4 s2)) λg4 ex e4 hx=>?_)))));show hE g4 ex _ (λc o c1 _ c3 c4 q=>e4 _ _ c4 (e2.extBut _ _ c3 (e0.extBut _ _ c1 q))) hx
theorem LW (hz:rH s.heap z TI TO) (h:Q (.ref z) s):wpAny zh A (pyIter (.ref z)) Q E s:=by
 have ty:s.TypeIs (.ref z) "zip":=let ⟨_,_,_,hz⟩:=hz;#[_,hz,rfl]
 show yD ty ab3 (hV ab3 ty F.entry_zip_iter (show wpAny _ _ (ret (.ref z)) _ _ s from ay #[_,rfl, "zip",_,ty,yQ.lookup,h]) (F.args_zip_iter_1 _))
theorem Br (D1:Draws prog w A.in1 i1 qw n1 P1 S1) (D2:Draws prog w A.in1 i2 qx n2 P2 S2) (R:Es z TI TO i1 i2 qw qx) {k:Nat}{a b:ai}{Q:Option ai->aq->zu}(k1:k<n1) (k2:k<n2)
 (hz:rH s.heap z TI TO) (wb:IsPair s.heap TI (.ref i1) (.ref i2)) (u9:IsPair s.heap TO a b) (s1:S1 k s.heap) (s2:S2 k s.heap)
 (hQ:∀ x y h' tk,P1 k x->P2 k y->rH h' z TI TO->(∃ u v,IsPair h' TO u v)->S1 (k+1) h'->S2 (k+1) h'->IsPair h' s.heap.objs.size x y ->
  zaq->Q (ae zK) { s with heap:=h',toks:=tk }):wpAny zh A (pyNext (.ref z)) Q E s:=by
 have hT:s.TypeIs (.ref z) "zip":=let ⟨_,_,_,hz⟩:=hz;#[_,hz,rfl]
 unfold pyNext;show ak (uH (qK (name:=Str.ofString "__next__") hT yQ (hV yQ hT ab4 (LU D1 D2 R k1 k2 hz wb u9 s1 s2 λx y h' tk b1 b2 b3 b4 b5 b6 b7 b8=>ay (hQ x y h' tk b1 b2 b3 b4 b5 b6 b7 b8)) (ab5 _))))
theorem TW {Q:Unit->aq->zu}(hz:rH s.heap z TI TO) (h:∀ h',rH h' z TI TO->Heap.SameBut z s.heap h'->Q () { s with heap:=h' }):wpAny zh A (letOwnedTupleGo tg (.ref z) (.ref p)) Q E s:=by
 have hs:Heap.SameBut z s.heap s.heap:=#[rfl,λ_ _=>rfl];have same:Q () s:=h _ hz hs;let#[f0,f1,hf,hz]:=id hz
 have tup:wpAny zh A (do
  let o <-load z
  match o.cls,o.data with
  |.type n,.fields vs=>
    if ["enumerate","zip","dict_itemiterator","dict_reverseitemiterator","odict_iterator","itertools.zip_longest","itertools.pairwise"].contains n&&vs[0]?==ae (rawInt p) then
     rule "for.unpacks-the-owned-tuple"
     updateField z 0 .none
  |_,_=>pure ()) Q E s:=by
  refine ak (wQ hz ?_);dsimp only;split
  .refine ak (p8 (uG hz zi λg1 wa e1=>h g1 #[.none,f1,.inl zc,wa] e1))
  .show ay same
 unfold letOwnedTupleGo;cases tg with
 |Tuple es n q=>show tup
 |List es q=>show tup
 |_=>show ay same
theorem Bs (D1:Draws prog w A.in1 i1 qw n1 P1 S1) (D2:Draws prog w A.in1 i2 qx n2 P2 S2) (R:Es z TI TO i1 i2 qw qx) {k:Nat}{a b:ai}{Q:Option ai->aq->zu}(hk:k=n1 \/ (k<n1 /\ k=n2))
 (hz:rH s.heap z TI TO) (wb:IsPair s.heap TI (.ref i1) (.ref i2)) (u9:IsPair s.heap TO a b) (s1:S1 k s.heap) (s2:S2 k s.heap)
 (hQ:∀ h' tk,zaq->Q ag { s with heap:=h',toks:=tk }):wpAny zh A (pyNext (.ref z)) Q E s:=by
 have hT:s.TypeIs (.ref z) "zip":=let ⟨_,_,_,hz⟩:=hz;#[_,hz,rfl]
 unfold pyNext;refine ak (uH (qK (name:=Str.ofString "__next__") hT yQ (hV yQ hT ab4 (LV D1 D2 R hk hz wb u9 s1 s2 λh' e tk q1 q2=>?_) (ab5 _))));let#[o,ho,hc]:=q2;show ak (yE (T:="StopIteration") (b:=ah) #[o,ho,hc] Hb (ay (hQ h' tk q1)))
noncomputable def Ez (h:aI) (l1:aj):aI:=h.push { cls:=.type "tuple_iterator",data:=.fields (List.toArray [.ref l1,.int 0 0]) }
def yb (h:aI) (l1 l2:aj):aI:=(Ez h l1).push { cls:=.type "tuple_iterator",data:=.fields (List.toArray [.ref l2,.int 0 0]) }
def yc (h:aI) (l1 l2:aj):aI:=(yb h l1 l2).push { cls:=.type "tuple",data:=.seq (List.toArray [.ref h.objs.size,.ref (Ez h l1).objs.size]) }
def EA (h:aI) (l1 l2:aj):aI:=(yc h l1 l2).push { cls:=.type "tuple",data:=.seq (List.toArray [.none,.none]) }
def yd (h:aI) (l1 l2:aj):aI:=(EA h l1 l2).push { cls:=.type "zip",data:=.fields (List.toArray [.none,.bool af,.bool af,.ref (yb h l1 l2).objs.size,.ref (yc h l1 l2).objs.size]) }
theorem Fg (l1 l2:aj) (xs ys:Array ai) :
 Meets (Builtin.«zip.__new__» #[[.type "zip",.ref l1,.ref l2],[]]) (λ_ R s=>s.heap.IsTuple l1 xs /\ s.heap.IsTuple l2 ys /\ R (.ok (.ret (.ref (EA s.heap l1 l2).objs.size))) { s with heap:=yd s.heap l1 l2 }):=
 .of_wp λprog w A R s h=>by
  let#[hp,g,d,tk,os]:=s;let#[ye,qX,h]:=h;have aj9:=sub_zip;have ahg:Heap.IsTuple (Shared.heap #[hp,g,d,tk,os]) l1 xs:=ye;have ahh:Heap.IsTuple (Shared.heap #[hp.push { cls:=.type "tuple_iterator",data:=.fields (List.toArray [.ref l1,.int 0 0]) },g,d,tk,os]) l2 ys:=qX.at λo e=>aX _ e
  wp_walk using QP ahg,QP ahh
  show#[_,rfl,h]
theorem Jp {l1 l2:aj}{xs ys:Array ai}(ye:s.heap.IsTuple l1 xs) (qX:s.heap.IsTuple l2 ys)
 (h:∀ h',IsZip h' (s.heap.objs.size+4) (s.heap.objs.size+2) (s.heap.objs.size+3) .none->IsPair h' (s.heap.objs.size+2) zK (.ref zx)->IsPair h' (s.heap.objs.size+3) .none .none ->
  h'.IsTupleIter s.heap.objs.size l1 0->h'.IsTupleIter zx l2 0->(∀ c o,s.heap.get? c=ae o->h'.get? c=ae o)->Q (.ref (s.heap.objs.size+4)) { s with heap:=h' }):wpAny zh A (call (.type "zip") [.ref l1,.ref l2]) Q E s:=by
 refine callType_new F.called_zip ze (F.typeCall_zip_2 _ _) (F.newCall_zip_2 _ _) (λobj=>F.args_object_init_3 obj _ _) F.entry_zip_new (Fg l1 l2 xs ys) #[ye,qX,?_];have z1:(Ez s.heap l1).objs.size=s.heap.objs.size+1:=tQ ..;have z2:(yb s.heap l1 l2).objs.size=s.heap.objs.size+2:=by rw[yb,tQ,z1]
 have z3:(yc s.heap l1 l2).objs.size=s.heap.objs.size+3:=by rw[yc,tQ,z2]
 have z4:(EA s.heap l1 l2).objs.size=s.heap.objs.size+4:=by rw[EA,tQ,z3]
 have g5:(yd s.heap l1 l2).get? (EA s.heap l1 l2).objs.size=ae { cls:=.type "zip",data:=.fields (List.toArray [.none,.bool af,.bool af,.ref (yb s.heap l1 l2).objs.size,.ref (yc s.heap l1 l2).objs.size]) }:=bF _ zc;have g4:(yd s.heap l1 l2).get? (yc s.heap l1 l2).objs.size=ae { cls:=.type "tuple",data:=.seq (List.toArray [.none,.none]) }:=aX _ (bF _ zc);have g3:(yd s.heap l1 l2).get? (yb s.heap l1 l2).objs.size=ae { cls:=.type "tuple",data:=.seq (List.toArray [.ref s.heap.objs.size,.ref (Ez s.heap l1).objs.size]) }:=aX _ (aX _ (bF _ zc));have g2:(yd s.heap l1 l2).get? (Ez s.heap l1).objs.size=ae { cls:=.type "tuple_iterator",data:=.fields (List.toArray [.ref l2,.int 0 0]) }:=aX _ (aX _ (aX _ (bF _ zc)));have g1:(yd s.heap l1 l2).get? s.heap.objs.size=ae { cls:=.type "tuple_iterator",data:=.fields (List.toArray [.ref l1,.int 0 0]) }:=aX _ (aX _ (aX _ (aX _ (bF _ zc))))
 change _ /\ _
 rw[z2,z3,z4]at g5;rw[z1,z2]at g3;rw[z3]at g4;rw[z1]at g2;rw[z4];show#[#[_,g5,rfl],h _ g5 g3 g4 #[_,g1,rfl,rfl] #[_,g2,rfl,rfl] λc o q=>aX _ (aX _ (aX _ (aX _ (aX _ q))))]
end
end HT
namespace L2
section
variable {s:aq} 
theorem Inv.ahi {o:HO}(I:Inv X pins σ H s) (hf:∀ b∈ch,nW X pins H b) (k:∀ b o,b∉ch->s.heap.get? b=ae o->h'.get? b=ae o) (hp:s.heap.objs.size<=p)
 (new:bG X.prog X.w (upd H p o) h' p o):Inv X pins σ (upd H p o) { s with heap:=h',toks:=t' }:=by
 have uY:H p=ag:=I.aC.fresh hp;have qV:∀ b u,H b=ae u->b∉ch:=λb u e z=>by rw[(hf b z).1]at e;cases e
 have ahj:∀ b u,H b=ae u->b≠p:=λb u e=>f7 e uY;have stay:∀ b u,H b=ae u->upd H p o b=ae u:=λb u e=>by rw[fB (ahj b u e)];show e
 refine I.step (g':=s.gens) (d':=s.drawn) (ch:=ch) (λb hb=>?_) (λb o _ _ hc e _=>k b o hc e) (λb o _ _ hc e _=>#[o.slots,k b o hc e]) (λb ob _ e n=>?_)
  (λb o hc e=>#[o,k b o hc e]) (λb _ e=>stay b _ e) (λb _ _ e=>stay b _ e) (λb ps e=>#[#[],by rw[stay b _ e];simp]) (λm hm=>?_) ?_ I.bare
 .let#[f0,f1,f2,f3,f4,f5]:=hf b hb;show#[f3,f1,f4,f5]
 .rw[fB (λz=>kC _ (hZ (bj e) (by rw[z];show hp)))];show n
 .let#[ob,es,ep,ho,r]:=hm;show#[ob,es,ep,k _ ob (λz=>(hf _ z).2.1 zc) ho,r]
 .intro b u e;by_cases hb:b=p
  .subst hb;rw[fw]at e;cases e;show new
  .rw[fB hb]at e;refine(I.aC b u e).stay (λc v hc q=>k c v ?_ q) (λc q=>stay c _ q) λc xs q=>stay c _ q;rcases hc with z|z
   .rw[z];show qV b u e
   .show qV c _ z
theorem Inv.ahk (I:Inv X pins σ H s) (hf:∀ b∈ch,nW X pins H b) (k:∀ b o,b∉ch->s.heap.get? b=ae o->h'.get? b=ae o):Inv X pins σ H { s with heap:=h',toks:=t' }:=by
 have qV:∀ b u,H b=ae u->b∉ch:=λb u e z=>by rw[(hf b z).1]at e;cases e
 refine I.step (g':=s.gens) (d':=s.drawn) (ch:=ch) (λb hb=>?_) (λb o _ _ hc e _=>k b o hc e) (λb o _ _ hc e _=>#[o.slots,k b o hc e]) (λb ob _ e n=>n)
  (λb o hc e=>#[o,k b o hc e]) (λb _ e=>e) (λb _ _ e=>e) (λb ps e=>#[#[],by rw[e];simp]) (λm hm=>?_) ?_ I.bare
 .let#[f0,f1,f2,f3,f4,f5]:=hf b hb;show#[f3,f1,f4,f5]
 .let#[ob,es,ep,ho,r]:=hm;show#[ob,es,ep,k _ ob (λz=>(hf _ z).2.1 zc) ho,r]
 .intro b u e;refine(I.aC b u e).stay (λc v hc q=>k c v ?_ q) (λc q=>q) λc xs q=>q;rcases hc with z|z
  .rw[z];show qV b u e
  .show qV c _ z
end
def kA (t:Bool) (K:PySem.W.Frag) (H:Hp) (a:aj) (xs:List V):zu:=match t with|true=>cQ K H a xs|false=>bX K H a xs
def PX (t:Bool) (h:aI) (a:aj) (xs:Array ai):zu:=match t with|true=>h.IsTuple a xs|false=>h.IsList a xs
def sU (t:Bool) (h:aI) (it l:aj) (i:Nat):zu:=match t with|true=>h.IsTupleIter it l i|false=>h.IsListIter it l i
section
variable {s:aq} {t:Bool} 
theorem yf {xs:List V}(I:Inv X pins σ H s) (q:kA t X.K H a xs):∃ its:List ai,Vals xs its /\ PX t s.heap a its.toArray /\ a<s.heap.objs.size:=by
 cases t with
 |true=>let#[its,r,p,_]:=I.tuple q;show#[its,r,p,let ⟨_,e,_⟩:=p;bj e]
 |false=>let#[its,r,p,_]:=I.list q;show#[its,r,p.isList,let ⟨_,_,e,_⟩:=p;bj e]
theorem adH {xs ys:List V}(I:Inv X pins σ H s) (q:kA t X.K H a xs) (q':kA t X.K H a ys):xs=ys:=by
 cases t with
 |true=>show I.acB q q'
 |false=>show I.acA q q'
theorem sU.ob {l:aj}{i:Nat}(x:sU t h it l i):∃ o fs,h.get? it=ae o /\ o.data=.fields fs:=by
 cases t with
 |_=>let#[o,e,_,d]:=x;show#[o,_,e,d]
theorem sU.at {h h':aI}{it l:aj}{i:Nat}(x:sU t h it l i) (k:∀ o,h.get? it=ae o->h'.get? it=ae o):sU t h' it l i:=by
 cases t with
 |true=>show Heap.IsTupleIter.at x k
 |false=>show Heap.IsListIter.at x k
theorem IU (hh:A.handled=ag) (it l:aj) (kW:l≠it) (items:Array ai) :
 Draws prog w A it [it,l] items.size (λi v=>items[i]?=ae v) (λi h=>sU t h it l i /\ PX t h l items):=by
 cases t with
 |true=>show HT.Jo hh it l kW items
 |false=>show Draws.list hh it l kW items
theorem Jq {l1 l2:aj}{xs ys:Array ai}(ye:PX t s.heap l1 xs) (qX:PX t s.heap l2 ys)
 (h:∀ h',IsZip h' (s.heap.objs.size+4) (s.heap.objs.size+2) (s.heap.objs.size+3) .none->IsPair h' (s.heap.objs.size+2) zK (.ref zx)->IsPair h' (s.heap.objs.size+3) .none .none ->
  sU t h' s.heap.objs.size l1 0->sU t h' zx l2 0->(∀ c o,s.heap.get? c=ae o->h'.get? c=ae o)->Q (.ref (s.heap.objs.size+4)) { s with heap:=h' }):wpAny zh A (call (.type "zip") [.ref l1,.ref l2]) Q E s:=by
 cases t with
 |true=>show HT.Jp ye qX h
 |false=>show call_zip_2 ye qX λh' b1 b2 b3 b4 b5 _ b6=>h h' b1 b2 b3 b4 b5 b6
end
def Yw (t:Bool) (K:PySem.W.Frag) (a b:aj):It:=
 #[λi H=>∃ (xs ys:List V) (x y:V),kA t K H a xs /\ kA t K H b ys /\ xs[i]?=ae x /\ ys[i]?=ae y,
  λi H w H'=>∀ (xs ys:List V),kA t K H a xs->kA t K H b ys->∃ (p:aj) (x y:V),xs[i]?=ae x /\ ys[i]?=ae y /\ H p=ag /\ w=.ref p /\ H'=upd H p (.tup [x,y]),
  λi H=>∃ (xs ys:List V),kA t K H a xs /\ kA t K H b ys /\ (i=xs.length \/ (i<xs.length /\ i=ys.length))]
theorem BG {b:Nat}(k:Nat) (h:b<n):b≠n+k:=by lia
theorem BH {m:Nat}(h:n+4<m):m≠n /\ m≠n+1 /\ m≠n+2 /\ m≠n+3 /\ m≠n+4:=by lia
theorem Ge {n b:aj}(ha:a<n) (hb:b<n):HT.Es (n+4) (n+2) (n+3) n (n+1) [n,a] [n+1,b] where
 a:=by refine#[?_,?_,?_,?_,?_,?_,?_,?_,?_,?_]<;>show λz=>by have z':(_:Nat)=_:=z;lia
 f1:=by
  have e1:∀ k:Nat,n+k≠a:=λk z=>kC _ (yH (wX n k) (z▸ha));refine#[?_,?_,?_]<;>(rw[bz,kN];rintro(z|z))
  .have z':(_:Nat)=_:=z;lia
  .show e1 4 z
  .have z':(_:Nat)=_:=z;lia
  .show e1 3 z
  .have z':(_:Nat)=_:=z;lia
  .show e1 1 z
 f2:=by
  have e1:∀ k:Nat,n+k≠b:=λk z=>kC _ (yH (wX n k) (z▸hb));refine#[?_,?_,?_]<;>(rw[bz,kN];rintro(z|z))
  .have z':(_:Nat)=_:=z;lia
  .show e1 4 z
  .have z':(_:Nat)=_:=z;lia
  .show e1 3 z
  .have z':(_:Nat)=_:=z;lia
  .show e1 0 z
theorem LX {t:Bool}{n b:aj}(ha:a<n) (hb:b<n) :
 Turn P w K tg (Yw t K a b) [n+4,n+2,n+3,n,n+1] (n+4)
  (λi h=>HT.rH h (n+4) (n+2) (n+3) /\ IsPair h (n+2) (.ref n) (.ref (n+1)) /\ (∃ u v,IsPair h (n+3) u v) /\ sU t h n a i /\ sU t h (n+1) b i) where
 mem:=by simp
 obj:=λi h st c hc=>by
  let#[#[_,_,_,z1],z2,#[u,v,z3],z4,z5]:=st;let#[o4,_,e4,d4]:=z4.ob;let#[o5,_,e5,d5]:=z5.ob;erw[bz,pJ,or_false]at hc;rcases hc with rfl|rfl|rfl|rfl|rfl
  .show#[_,z1,λv z=>by cases z]
  .show#[_,z2,λv z=>by cases z]
  .show#[_,z3,λv z=>by cases z]
  .show#[o4,e4,λv z=>by rw[d4]at z;cases z]
  .show#[o5,e5,λv z=>by rw[d5]at z;cases z]
 keep:=λi h h' st k=>by
  let#[z1,z2,#[u,v,z3],z4,z5]:=st;let#[w0,w1,w2,z1]:=z1;show#[#[w0,w1,w2,k _ zi _ z1],k _ zi _ z2,#[u,v,k _ zi _ z3],z4.at λo e=>k _ zi o e,z5.at λo e=>k _ zi o e]
 item:=by
  intro X hP hw hK hc i pins s σ H E I hf st hg;subst hP hw hK;let#[xs,ys,x,y,q1,q2,e1,e2]:=hg;let#[z1,z2,#[u,v,z3],z4,z5]:=st;let#[i1,r1,p1,l1]:=yf I q1;let#[i2,r2,p2,l2]:=yf I q2;have hx:=(List.getElem?_eq_some_iff.mp e1).1;have hy:=(List.getElem?_eq_some_iff.mp e2).1;have R:=Ge ha hb;have D1:=IU (t:=t) (prog:=X.prog) (w:=X.w) (A:=X.A.in1) (I.ok.hd hc) n a (cB ha) i1.toArray;have D2:=IU (t:=t) (prog:=X.prog) (w:=X.w) (A:=X.A.in1) (I.ok.hd hc) (n+1) b (BG 1 hb) i2.toArray;refine HT.Br D1 D2 R (by rw[bL,<-r1.length];show hx) (by rw[bL,<-r2.length];show hy) z1 z2 z3 #[z4,p1] #[z5,p2] λvx vy h' tk b1 b2 b3 b4 b5 b6 b7 b8=>#[_,rfl,?_];refine HT.TW b3 λh2 IT nv=>?_;let#[w1,f1,g1]:=r1.get e1;let#[w2,f2,g2]:=r2.get e2;have adI:i1[i]?=ae vx:=by simpa using b1
  have adJ:i2[i]?=ae vy:=by simpa using b2
  rw[f1]at adI;cases adI;rw[f2]at adJ;cases adJ;have Ex:(n+4:Nat)<s.heap.objs.size:=let ⟨_,_,_,z1⟩:=z1;bj z1
  have ahl:IsPair h2 s.heap.objs.size vx vy:=nv.extBut _ _ (BH Ex).2.2.2.2 b7;have nw:H s.heap.objs.size=ag:=I.aC.fresh (aD _);have I2:Inv X pins σ (upd H s.heap.objs.size (.tup [x,y])) { s with heap:=h2,toks:=tk }:=by
   refine I.ahi (ch:=[n+4,n+2,n+3,n,n+1]) hf (λc o dH e=>?_) (aD _) ?_
   .erw[bz,pJ,or_false,not_or]at dH;show nv.extBut _ _ dH.1 (b8 c o dH.1 dH.2.2.1 dH.2.2.2.1 dH.2.2.2.2 e)
   .show#[by change 2<=sizeLine;decide,[vx,vy],.cons g1 (.cons g2 .nil),#[_,ahl,rfl,_,rfl]]
  refine#[.ref s.heap.objs.size,_,I2,rfl,λaka akb y1 y2=>#[_,x,y,by rw[adH I y1 q1];show e1,by rw[adH I y2 q2];show e2,nw,rfl,rfl],#[IT,?_,(let ⟨u,v,b4⟩:=b4;#[u,v,nv.extBut _ _ R.a.2.1 b4]),?_,?_],λc dH=>?_]
  .show nv.extBut _ _ R.a.1 (b8 _ _ R.a.1 R.a.2.2.2.2.1 R.a.2.2.2.2.2.1 R.a.2.2.2.2.2.2.1 z2)
  .show b5.1.at λo e=>nv.extBut _ _ R.a.2.2.1 e
  .show b6.1.at λo e=>nv.extBut _ _ R.a.2.2.2.1 e
  .rw[fB]
   .show(hf c dH).1
   .intro z;subst z;erw[bz,pJ,or_false]at dH;let#[m1,m2,m3,m4,m5]:=BH Ex;rcases dH with q|q|q|q|q
    .show m5 q
    .show m3 q
    .show m4 q
    .show m1 q
    .show m2 q
 done:=by
  intro X hP hw hK hc i pins s σ H E I hf st hg;subst hP hw hK;let#[xs,ys,q1,q2,hk]:=hg;let#[z1,z2,#[u,v,z3],z4,z5]:=st;let#[i1,r1,p1,l1]:=yf I q1;let#[i2,r2,p2,l2]:=yf I q2;have R:=Ge ha hb;have D1:=IU (t:=t) (prog:=X.prog) (w:=X.w) (A:=X.A.in1) (I.ok.hd hc) n a (cB ha) i1.toArray;have D2:=IU (t:=t) (prog:=X.prog) (w:=X.w) (A:=X.A.in1) (I.ok.hd hc) (n+1) b (BG 1 hb) i2.toArray;refine HT.Bs D1 D2 R (k:=i) (by rw[bL,bL,<-r1.length,<-r2.length];show hk) z1 z2 z3 #[z4,p1] #[z5,p2] λh' tk b8=>#[rfl,I.ahk (ch:=[n+4,n+2,n+3,n,n+1]) hf λc o dH e=>?_];erw[bz,pJ,or_false,not_or]at dH;show b8 c o dH.1 dH.2.2.1 dH.2.2.2.1 dH.2.2.2.2 e
 self:=λA i s Q E st h=>HT.LW st.1 h
def ahm (K:PySem.W.Frag) (ta:TA):TI:=λσ H R=>ta σ H λvs H2=>∃ (t:Bool) (p q:aj) (xs ys:List V),vs=[.ref p,.ref q] /\ kA t K H2 p xs /\ kA t K H2 q ys /\ R (Yw t K p q) H2
theorem TX {a b:au}{ta:TA}{p:aL}(hg:Gl X "zip") (hm:X.mg "zip"=ag) (ha:PA X [a,b] ta) (hs:starEach [a,b] X.env=[(af,eval a X.env),(af,eval b X.env)]:=by rfl) (nv:starEach [b] X.env=[(af,eval b X.env)]:=by rfl) :
 PI X tg (.Call (.Name "zip" p) [a,b] [] pos) (ahm X.K ta):=by
 intro pins s σ H R I h;refine uD (jv I hg hm (by decide +kernel:bootBuiltins "zip"=ae (.type "zip")) ?_);refine HE (tA (ha pos pins s σ H _ I h) λus s1 vs H2 I2 r2 q=>?_) (by rw[hs,nv]) (by rw[nv];rfl);let#[t,x,y,xs,ys,rfl,hx,hy,q]:=q;let#[u,v,rfl,ru,rv]:=Vals.two r2;cases ru;cases rv;let#[i1,r1,p1,l1]:=yf I2 hx;let#[i2,r2,p2,l2]:=yf I2 hy;refine Jq (xs:=i1.toArray) (ys:=i2.toArray) p1 p2 λh' b1 b2 b3 b4 b5 b6=>?_;refine wpAny_pyIter_zip b1 ?_;refine#[s1.heap.objs.size+4,_,_,_,H2,rfl,I2.kept (t':=s1.toks) b6,LX l1 l2,#[#[_,_,.inl zc,b1],b2,#[_,_,b3],b4,b5],λc hc=>?_,q];have hle:s1.heap.objs.size<=c:=by
  erw[bz,pJ,or_false]at hc;rcases hc with z|z|z|z|z<;>(rw[z];first|show aD _|show wX _ _)
 show I2.vM hle (I2.aC.fresh hle)
end L2
namespace L2.DL
section
variable {a b:au} {p:aL} {k:DE (List W)}
noncomputable def eL:List D->List D->List W
 |x::l,y::r=>.d (.tup [x,y])::eL l r
 |_,_=>[]
theorem C1:∀ (l r:List D),(eL l r).length=min l.length r.length
 |[],_=>by simp[eL]
 |_::_,[]=>by simp[eL]
 |_::l,_::r=>by erw[eL,bw,C1 l r];lia
theorem C2:∀ {l r:List D}{i:Nat}{w:W},(eL l r)[i]?=ae w->∃ x y,l[i]?=ae x /\ r[i]?=ae y /\ w=.d (.tup [x,y])
 |[],_,_,_,e=>by simp[eL]at e
 |_::_,[],_,_,e=>by simp[eL]at e
 |x::l,y::r,0,w,e=>by simp[eL]at e;show#[x,y,rfl,rfl,e.symm]
 | x::l,y::r,i+1,w,e=>by
   have e':(eL l r)[i]?=ae w:=by simpa[eL] using e
   let#[x',y',h1,h2,h3]:=C2 e';show#[x',y',by simpa using h1,by simpa using h2,h3]
def uj (k:DE zam):DE zam:=λenv bx=>fA (k env bx) λws bx1=>match ws with
 |[.d (.tup l),.d (.tup r)]=>.val (eL l r) bx1
 |[.d (.lst l),.d (.lst r)]=>.val (eL l r) bx1
 |_=>.bad
theorem AN {t:Bool}{p q:aj}{vs us:List V}{l m:List D}(hp:∀ H,Sub F H->kA t K H p vs) (hq:∀ H,Sub F H->kA t K H q us) (dl:aE F l vs) (dm:aE F m us):u5 F r (eL l m) (Yw t K p q):=by
 intro T i F1 r1 σ1 H1 env1 bx1 g R;have s1:kA t K H1 p vs:=hp _ (g.s.trans R.fh);have s2:kA t K H1 q us:=hq _ (g.s.trans R.fh);have e1:=dl.length;have e2:=dm.length;refine#[λhl=>?_,λw e=>?_]
 .rw[C1]at hl;show#[vs,us,s1,s2,by lia]
 .let#[x,y,h1,h2,rfl]:=C2 e;let#[v,f1,d1]:=dl.get h1;let#[u,f2,d2]:=dm.get h2;refine#[#[vs,us,v,u,s1,s2,f1,f2],λw H2 hy=>?_];let#[a,v',u',g1,g2,ha,rfl,rfl]:=hy vs us s1 s2;rw[f1]at g1;cases g1;rw[f2]at g2;cases g2;have gr:=R.u4 (o:=.tup [v,u]) ha;show#[_,gr,R.Ei ha,a,[v,u],rfl,fw,.cons (Den.mono (g.trans gr).s x d1) (.cons (Den.mono (g.trans gr).s y d2) .nil)]
theorem OM (hg:Gl X "zip") (hm:X.mg "zip"=ag) (ha:dJ X T Z [a,b] k) (hs:starEach [a,b] X.env=[(af,eval a X.env),(af,eval b X.env)]:=by rfl) (nv:starEach [b] X.env=[(af,eval b X.env)]:=by rfl) :
 ud X T Z tg (.Call (.Name "zip" p) [a,b] [] pos) (uj k):=by
 refine PI.imp (TX hg hm ha hs nv) λσ H Q=>x4 λF r env bx R h=>?_;refine#[F,r,env,bx,R,End.bind h λws bx1 F1 r1 vs H1 g1 R1 d1 h1=>?_];split at h1
 .ext l m;let#[v,t,rfl,#[p,us,rfl,k1,k2],v2,t2,rfl,#[q,EB,rfl,k3,k4],rt]:=d1;cases (show t2=[] from rt);have z1:∀ H,Sub F1 H->kA ah X.K H p us:=λH s=>.of (s _ _ k1);have z2:∀ H,Sub F1 H->kA ah X.K H q EB:=λH s=>.of (s _ _ k3);show#[ah,p,q,us,EB,rfl,z1 _ R1.fh,z2 _ R1.fh,h1 F1 r1 _ H1 zS R1 (AN z1 z2 k2 k4)]
 .ext l m;let#[v,t,rfl,#[p,us,rfl,k1,k2],v2,t2,rfl,#[q,EB,rfl,k3,k4],rt]:=d1;cases (show t2=[] from rt);have z1:∀ H,Sub F1 H->kA af X.K H p us:=λH s=>.of (s _ _ k1);have z2:∀ H,Sub F1 H->kA af X.K H q EB:=λH s=>.of (s _ _ k3);show#[af,p,q,us,EB,rfl,z1 _ R1.fh,z2 _ R1.fh,h1 F1 r1 _ H1 zS R1 (AN z1 z2 k2 k4)]
 .show h1.elim
end
section
variable {a:au} {p:aL}
def ahn (K:PySem.W.Frag) (tl:TE):TI:=λσ H R=>tl σ H λx H1=>(∃ a,x=.ref a /\ (∃ xs,bX K H1 a xs) /\ R (HY K a) H1) \/ ∃ a,x=.ref a /\ (∃ xs,cQ K H1 a xs) /\ R (XI K a) H1
theorem TY {l:au}{tl:TE}(hl:PE X l tl):PI X tg l (ahn X.K tl):=by
 intro pins s σ H R I h;refine tE (hl pins s σ H _ I h) λv s1 x H1 I1 r1 q1=>?_;rcases q1 with⟨a,rfl,⟨xs,hq⟩,q⟩|⟨a,rfl,⟨xs,hq⟩,q⟩
 .cases r1;let#[its,rv,p,hz]:=I1.list hq;refine yx p.isList #[s1.heap.objs.size,[s1.heap.objs.size],_,_,H1,rfl,I1.kept (t':=s1.toks) λb o e=>aX _ e,Bw a _,#[_,bF _ zc,rfl,rfl],λb hb=>?_,q];cases kN.mp hb;show I1.vM (aD _) (I1.aC.fresh (aD _))
 .cases r1;let#[its,rv,p,hz]:=I1.tuple hq;refine QP (show s1.heap.IsTuple a its.toArray from p) #[s1.heap.objs.size,[s1.heap.objs.size],_,_,H1,rfl,I1.kept (t':=s1.toks) λb o e=>aX _ e,D4 a _,#[_,bF _ zc,rfl,rfl],λb hb=>?_,q];cases kN.mp hb;show I1.vM (aD _) (I1.aC.fresh (aD _))
theorem C3 {a:aj}{vs:List V}{l:List D}(k1:F a=ae (.lst vs)) (k2:aE F l vs):u5 F r (l.map W.d) (HY K a):=λT' i F2 r2 σ2 H2 bq bx2 g2 R2=>by
 have hq:bX K H2 a vs:=.of (R2.fh _ _ (g2.s _ _ k1));refine#[λhl=>?_,λw e=>?_]
 .rw[a6,k2.length]at hl;show#[vs,hq,wW hl]
 .let#[d,e1,rfl]:=BE e;let#[u,e2,du]:=k2.get e1;refine#[#[vs,u,hq,e2],λx H3 ⟨e3,hy⟩=>?_];subst e3;have e4:vs[i]?=ae x:=hy vs hq;rw[e2]at e4;cases e4;show#[F2,.refl F2 r2,R2,Den.mono g2.s d du]
theorem Fh {a:aj}{vs:List V}{l:List D}(k1:F a=ae (.tup vs)) (k2:aE F l vs):u5 F r (l.map W.d) (XI K a):=λT' i F2 r2 σ2 H2 bq bx2 g2 R2=>by
 have hq:cQ K H2 a vs:=.of (R2.fh _ _ (g2.s _ _ k1));refine#[λhl=>?_,λw e=>?_]
 .rw[a6,k2.length]at hl;show#[vs,hq,wW hl]
 .let#[d,e1,rfl]:=BE e;let#[u,e2,du]:=k2.get e1;refine#[#[vs,u,hq,e2],λx H3 ⟨e3,hy⟩=>?_];subst e3;have e4:vs[i]?=ae x:=hy vs hq;rw[e2]at e4;cases e4;show#[F2,.refl F2 r2,R2,Den.mono g2.s d du]
theorem mW (ha:PD X T Z a ma):ud X T Z tg a (bD ma):=by
 refine PI.imp (TY ha) λσ H Q=>x4 λF r env bx R h=>?_;refine#[F,r,env,bx,R,End.bind h λw bx1 F1 r1 v H1 g1 R1 d1 h1=>?_];split at h1
 .ext l;let#[p,vs,rfl,k1,k2]:=d1;show .inl #[p,rfl,#[vs,.of (R1.fh _ _ k1)],h1 F1 r1 _ H1 zS R1 (C3 k1 k2)]
 .ext l;let#[p,vs,rfl,k1,k2]:=d1;show .inr #[p,rfl,#[vs,.of (R1.fh _ _ k1)],h1 F1 r1 _ H1 zS R1 (Fh k1 k2)]
 .show h1.elim
theorem ON {v:Int}(hg:Gl X x) (hm:∃ t,X.mg x=ae (.int v t)) (hd:(x==("__debug__":Str))=af:=by decide):PD X T Z (.Name x pos) (dC (.int v)):=by
 let#[t,hm]:=hm;show CS (NU (v:=.int v) hg hm #[t,rfl] hd) λ_=>rfl
end
noncomputable def Yx (XN:List Str) (sc cs:bW) (N:List Str) (src:List zaI):Bool:=
 decide (cs.kind=.function)&&decide (cs.names.map (·.1)).Nodup&&cs.names.all (λy=>decide (y.2=.local->cs.names.lookup y.1=ae .local)) &&
 cs.names.all (λy=>decide (y.2=.free->(sc.names.lookup y.1=ae .cell \/ sc.names.lookup y.1=ae .free)))&&decide (src.length=N.length) &&
 (List.range src.length).all λj=>match src[j]?,N[j]? with
  |some (ae i),ae x=>decide (XN[i]?=ae x /\ cs.names.lookup x=ae .free)
  |_,_=>ah
theorem Fi {XN:List Str}{src:List zaI}{sc cs:bW}(hX:∀ x,X.env.kindOf x=sc.names.lookup x) (hN:X.N=XN) (h:Yx XN sc cs N src=ah):qY X N src cs:=by
 subst hN;unfold Yx at h;erw[aG,decide_eq_true_eq,c5]at h;let#[#[#[#[#[h1,h2],h3],h4],h5],h6]:=h;refine#[h1,h2,λy hy=>h3 y hy,λy hy hf=>?_,h5,λj i x e1 e2=>?_]
 .rw[hX];show h4 y hy hf
 .have q:=h6 j (List.mem_range.mpr (List.getElem?_eq_some_iff.mp e1).1);rw[e1,e2]at q;show of_decide_eq_true q
section
variable (P:dg) (w:cn) (K:PySem.W.Frag) (mg:Str -> Option ai) (base:aI) (cl:Nat -> aj)
def rJ (k:Nat) (x:Str) (ps:List Str) (fn:List W->List Bx->O W):zu:=
 ∃ (f:aj) (fd:FuncData),kQ P w K mg base (qr P w) k f fd ps (ub cl ps.length fn) /\ mg x=ae (.ref f) /\ PySem.W.keepIn K (.ref f)=ah /\ Binds K fd ps [] /\ ∃ o:aY,K.lookup f=ae o /\ o.data=.func fd
def Def (x:Str) (st:cj) (ps:List Str):zu:=∃ (f:aj) (fd:FuncData),qp K x x st f fd /\ mg x=ae (.ref f) /\ Binds K fd ps []
end
section
variable {k:Nat} {ps:List Str} {m:aB} {nn kk:Nat}
theorem _root_.L2.qp.obj {qual:Str}{f:aj}(F:qp K x qual st f fd):∃ o:aY,K.lookup f=ae o /\ o.data=.func fd:=by
 let#[#[oc,od,kV,doc,pm,an,bM,ct,qJ,_,l,_],_]:=F;show#[_,l,rfl]
theorem TZ (d:Def K mg x st ps) (S:xF N ps (fO st))
 (vQ:∀ (f:aj) (bM:ai) (A:eE) (outer:List Env) (s:aq) (H:Hp) (E:XK) (n:Nat) (F0:Hp),di k (A.deeper (envOfC x (fO st) s.heap.objs.size f bM)) ->
  qt (uU Ec P w K mg base N x (fO st) f bM A outer s H E).xC #[H,n,F0] #[E0,cl] (gY st) m) (hn:N.length=nn:=by rfl) (aho:k+1=kk:=by rfl):rJ P w K mg base cl kk x ps (a5 nn (aQ m)):=by
 subst hn aho;let#[f,fd,F,hm,hb]:=d;show#[f,fd,VF F S (λbM A outer s H E n F0 hr=>vQ f bM A outer s H E n F0 hr),hm,F.kp,hb,F.obj]
end
section
variable {p:aL} {k k':Nat} {ps:List Str} {m:DE (List W)} {nn:Nat}
theorem T0 (h:rJ X.prog X.w X.K X.mg X.base Z.cl k x ps fn) (hr:di k' X.A) (hk:k<=k') (hg:Gl X x) (hx:Passes (qr X.prog X.w) X Z.E) (ha:dJ X T Z (e::es) m) (dI:(x==("__debug__":Str))=af:=by decide)
 (he:starEach (e::es) X.env=zaS::starEach es X.env:=by rfl) (nq:(backTo pos (starEach es X.env)).any (·.1)=af:=by rfl) (hn:ps.length=nn:=by rfl):PD X T Z zY (fq fn nn m):=by
 subst hn;let#[f,fd,G,hm,ahp,hb,_]:=h;show Oi G (hr.mono hk) hg hm ahp hb hx ha dI he nq
end
end L2.DL
namespace HT
structure SB (kd:SortKind) (b:Array Keyed) (z:SortSt):zu where
 pm:(arrOf z).Perm b
 kd:kindOf z=kd
 fl:failedOf z=ag
 pn:pendingOf z=#[]
theorem SB.len {kd:SortKind}{b:Array Keyed}{z:SortSt}(g:SB kd b z):(arrOf z).size=b.size:=g.pm.size_eq
theorem SB.put {kd:SortKind}{b:Array Keyed}{z:SortSt}(g:SB kd b z) {c:Array Keyed}(q:c.Perm (arrOf z)):SB kd b (setArr z c):=#[q.trans g.pm,g.kd,g.fl,g.pn]
section
variable {s:aq}
def uk (prog:dg) (w:cn) (A:eE) (E:ai->aq->zu) (s:aq) (κ:KeyKind) (kd:SortKind) (b:Array Keyed):zu:=
 ∀ (x y:Keyed),x∈b.toList->y∈b.toList->∀ (Q:Bool->aq->zu) (E':ai->aq->zu),Q (κ.blt ((κ.keyOf x.1).getD κ.dflt) ((κ.keyOf y.1).getD κ.dflt)) s->wpAny zh A (keyLt' kd x.1 y.1) Q E' s
variable {κ:KeyKind} {kd:SortKind} {b:Array Keyed}
noncomputable abbrev kx (κ:KeyKind) (z:SortSt) (i:Nat):κ.α:=KK κ (arrOf z) i
theorem SB.item {z:SortSt}(g:SB kd b z) {i:Nat}(hi:i<b.size):∃ x,(arrOf z)[i]?=ae x /\ x∈b.toList /\ kx κ z i=(κ.keyOf x.1).getD κ.dflt:=by
 have hz:i<(arrOf z).size:=g.len▸hi;refine#[(arrOf z)[i],getElem?_pos _ i hz,(Array.perm_iff_toList_perm.mp g.pm).mem_iff.mp zi,?_];erw[kx,KK,getElem?_pos (arrOf z) i hz]
theorem ask (C:uk prog w A E s κ kd b) {z:SortSt}(g:SB kd b z) {i:Nat}(hi:i<b.size) (hj:j<b.size) {Q:Option Bool->SortSt->zu}
 (q:Q (ae (κ.blt (kx κ z i) (kx κ z j))) z):wpS zh A E s (ltAt' i j) Q z:=by
 let#[x,ex,mx,ahq]:=g.item (κ:=κ) hi;let#[y,ey,my,ahr]:=g.item (κ:=κ) hj;rw[ahq,ahr]at q;rw[ltAt'_eq];refine cG (xm ?_);dsimp only;rw[elem'_eq,elem'_eq,ex,ey];refine cG (dW (cG (dW ?_)));rw[lt'_eq];refine cG (xm ?_);rw[g.kd];show cG (Xc (uH (C x y mx my _ _ #[rfl,dW q])))
def Up (κ:KeyKind) (z:SortSt) (n:Nat):zu:=∀ i j,i<=j->j<n->κ.kle (kx κ z i) (kx κ z j)
def Dn (κ:KeyKind) (z:SortSt) (n:Nat):zu:=∀ i j,i<=j->j<n->κ.kle (kx κ z j) (kx κ z i)
theorem Up.one {z:SortSt}(h:n<=1):Up κ z n:=λi j a c=>by
 have e:i=j:=by lia
 subst e;show xt _
theorem Up.more {z:SortSt}(u:Up κ z n) (h:1<=n) (l:κ.kle (kx κ z (n-1)) (kx κ z n)):Up κ z (n+1):=λi j a c=>by
 rcases wY j n with c'|c'
 .show u i j a c'
 obtain rfl:j=n:=by lia
 rcases wY i j with a'|a'
 .show HL (u i (j-1) zd zd) l
 .obtain rfl:i=j:=by lia
  show xt _
theorem Dn.more {z:SortSt}(u:Dn κ z n) (h:1<=n) (l:κ.kle (kx κ z n) (kx κ z (n-1))):Dn κ z (n+1):=λi j a c=>by
 rcases wY j n with c'|c'
 .show u i j a c'
 obtain rfl:j=n:=by lia
 rcases wY i j with a'|a'
 .show HL l (u i (j-1) zd zd)
 .obtain rfl:i=j:=by lia
  show xt _
theorem asc (C:uk prog w A E s κ kd b) {z:SortSt}(g:SB kd b z) {a:Nat}(hn:n<=b.size) (h1:1<=a) (h2:a<=n) (u:Up κ z a) {Q:AscSt->SortSt->zu}
 (q:∀ m,a<=m->m<=n->Up κ z m->(m<n->κ.klt (kx κ z m) (kx κ z (m-1)))->Q (ag,m) z):wpS zh A E s (ascLoop a n) Q z:=by
 unfold ascLoop;refine xn (I:=λm c y=>y=z /\ c=(ag,m) /\ Up κ z m) ?_ ?_ #[rfl,rfl,u]
 .intro m c y g1 g2 ⟨e1,e2,u'⟩;subst e1;subst e2;refine cG (ask C g (show m<b.size by lia) (show m-1<b.size by lia) ?_);cases e:κ.blt (kx κ y m) (kx κ y (m-1)) with
  |true=>show dW (q m g1 (nR g2) u' λ_=>e)
  |false=>show dW #[rfl,rfl,u'.more zd e]
 .intro c y ⟨e1,e2,u'⟩;subst e1;subst e2;rw[aa0 h2]at u' ⊢;show q n h2 (aD n) u' λh=>absurd h (kC n)
theorem Gf {z:SortSt}{i k:Nat}(hj:j<=(arrOf z).size):kx κ (setArr z (mirror (arrOf z) i j ((j-i) / 2))) k=if i<=k /\ k<j then kx κ z (i+j-1-k) else kx κ z k:=KK_mirror (κ:=κ) hj k
theorem lR {z:SortSt}{i:Nat}(hj:j<=(arrOf z).size) (e:∀ k,i<=k->k<j->kx κ z k=kx κ z (j-1)) (k:Nat):kx κ (setArr z (mirror (arrOf z) i j ((j-i) / 2))) k=kx κ z k:=KK_mirror_equal (κ:=κ) hj e k
def Ends (prog:dg) (w:cn) (A:eE) (E:ai->aq->zu) (s:aq) (κ:KeyKind) (kd:SortKind) (b:Array Keyed) (n:Nat) (Q:Option Nat->SortSt->zu):zu:=
 ∀ m y,SB kd b y->1<=m->m<=n->Up κ y m->Q (ae m) y
theorem turned (C:uk prog w A E s κ kd b) {z:SortSt}(g:SB kd b z) {a:Nat}(hn:n<=b.size) (h1:1<=a) (h2:a<=n) (d:Dn κ z a) {Q:Option Nat->SortSt->zu}(q:Ends prog w A E s κ kd b n Q) :
 wpS zh A E s (tail3 a n) Q z:=by
 have hz:a<=(arrOf z).size:=g.len▸cC h2 hn;have g':SB kd b (setArr z (mirror (arrOf z) 0 a ((a-0) / 2))):=g.put (HG _ _ _ _);unfold tail3;refine cG (HI (cG (asc C g' hn h1 h2 (λi j c1 c2=>?_) λm m1 m2 um _=>dW (q m _ g' (cC h1 m1) m2 um))));rw[Gf hz,Gf hz,if_pos #[eS i,by lia],if_pos #[eS j,c2]];show d _ _ zd zd
def Alike (κ:KeyKind) (z:SortSt) (m e:Nat):zu:=e+1<=m /\ ∀ i,m-(e+1)<=i->i<m->kx κ z i=kx κ z (m-1)
theorem Alike.zero {z:SortSt}{m:Nat}(h:1<=m):Alike κ z m 0:=#[h,λi h1 h2=>by rw[show i=m-1 by lia]]
theorem desc (C:uk prog w A E s κ kd b) {z:SortSt}(g:SB kd b z) {a:Nat}(hn:n<=b.size) (h1:1<=a) (h2:a<=n) (d:Dn κ z a) {Q:DescSt->SortSt->zu}
 (q:∀ m e y,SB kd b y->a<=m->m<=n->Dn κ y m->Alike κ y m e->Q (ag,m,e) y):wpS zh A E s (descLoop a n) Q z:=by
 unfold descLoop;refine xn (I:=λm c y=>∃ e,c=(ag,m,e) /\ SB kd b y /\ Dn κ y m /\ Alike κ y m e) ?_ ?_ #[0,rfl,g,d,.zero h1]
 .intro m c y g1 g2 ⟨e,ec,gy,dy,al⟩;subst ec;have hm:m<=(arrOf y).size:=by rw[gy.len];lia
  refine cG (ask C gy (show m<b.size by lia) (show m-1<b.size by lia) ?_);cases t:κ.blt (kx κ y m) (kx κ y (m-1)) with
  |true=>
    have d':Dn κ y (m+1):=dy.more zd (HM t);dsimp only;rw[if_pos rfl];by_cases he:e>0
    .rw[if_pos he];refine cG (HI (dW #[0,rfl,gy.put (HG _ _ _ _),λi j c1 c2=>?_,.zero zd]));rw[lR hm al.2,lR hm al.2];show d' i j c1 c2
    .rw[if_neg he];show dW #[0,rfl,gy,d',.zero zd]
  |false=>
    dsimp only;rw[if_neg zi];refine cG (ask C gy (show m-1<b.size by lia) (show m<b.size by lia) ?_);cases t2:κ.blt (kx κ y (m-1)) (kx κ y m) with
    |true=>show dW (q m e y gy g1 zd dy al)
    |false=>
      have eq:kx κ y m=kx κ y (m-1):=abV t2 t;refine dW #[e+1,rfl,gy,dy.more zd t2,by have:=al.1;lia,λi c1 c2=>?_];rw[show m+1-1=m by lia];by_cases hi:i=m
      .rw[hi]
      .rw[eq];show al.2 i zd zd
 .intro c y ⟨e,ec,gy,dy,al⟩;subst ec;rw[aa0 h2]at dy al ⊢;show q n e y gy h2 (aD n) dy al
theorem fall (C:uk prog w A E s κ kd b) {z:SortSt}(g:SB kd b z) {a:Nat}(hn:n<=b.size) (h2:a+1<=n) (d:Dn κ z (a+1)) {Q:Option Nat->SortSt->zu}(q:Ends prog w A E s κ kd b n Q) :
 wpS zh A E s (descPart a n) Q z:=by
 unfold descPart;refine cG (Xc (p8 #[rfl,cG (desc C g hn (Nat.succ_pos a) h2 d λm e y gy m1 m2 dy al=>?_)]));dsimp only;by_cases he:e>0
 .rw[if_pos he];have hm:m<=(arrOf y).size:=by rw[gy.len];lia
  refine cG (HI (turned C (gy.put (HG _ _ _ _)) hn zd m2 (λi j c1 c2=>?_) q));rw[lR hm al.2,lR hm al.2];show dy i j c1 c2
 .rw[if_neg he];show turned C gy hn zd m2 dy q
theorem count (C:uk prog w A E s κ kd b) {z:SortSt}(g:SB kd b z) (hn:n<=b.size) (h1:1<=n) {Q:Option Nat->SortSt->zu}(q:Ends prog w A E s κ kd b n Q) :
 wpS zh A E s (countRun' 0 n) Q z:=by
 rw[countRun0_eq];refine cG (asc C g hn (aD 1) h1 (.one (aD 1)) λm m1 m2 um last=>?_);dsimp only;by_cases hm:m=n
 .rw[if_pos (by simp[hm])];show dW (q m z g m1 m2 um)
 rw[if_neg (by simp[hm])];have lt:=last zd;by_cases h3:m>1
 .rw[if_pos h3];refine cG (ask C g (show 0<b.size by lia) (show m-1<b.size by lia) ?_);cases t:κ.blt (kx κ z 0) (kx κ z (m-1)) with
  |true=>show dW (q m z g m1 m2 um)
  |false=>
    dsimp only;rw[if_neg zi];have al:∀ k,0<=k->k<m->kx κ z k=kx κ z (m-1):=λk _ hk=>
     abV (um k (m-1) zd zd) (HL t (um 0 k (eS k) hk))
    have hz:m<=(arrOf z).size:=by rw[g.len];lia
    refine cG (HI (fall C (g.put (HG _ _ _ _)) hn zd (λi j c1 c2=>?_) q));rw[lR hz al,lR hz al];have d0:Dn κ z m:=λi j c1 c2=>by rw[al i (eS _) zd,al j (eS _) c2];show xt _
    show d0.more m1 (HM lt) i j c1 c2
 .rw[if_neg h3];obtain rfl:m=1:=by lia
  have d0:Dn κ z 1:=λi j c1 c2=>by
   obtain rfl:i=j:=by lia
   show xt _
  show fall C g hn zd (d0.more (aD 1) (HM lt)) q
end
section
variable {s:aq} {κ:KeyKind} {kd:SortKind} {b:Array Keyed}
def Fits (κ:KeyKind) (z:SortSt) (k l r:Nat):zu:=(∀ i,i<l->κ.kle (kx κ z i) (kx κ z k)) /\ ∀ i,r<=i->i<k->κ.klt (kx κ z k) (kx κ z i)
theorem Gg {z:SortSt}{k l i:Nat}(hk:k<(arrOf z).size) (hl:l<=k):kx κ (setArr z (bubble (arrOf z) k (k-l))) i=if i=l then kx κ z k else if l<i /\ i<=k then kx κ z (i-1) else kx κ z i:=by
 have e:=KK_bubble (κ:=κ) hk (Nat.sub_le k l) i;rw[show k-(k-l)=l by lia]at e;show e
theorem Up.insert {z:SortSt}{k l:Nat}(u:Up κ z k) (hk:k<(arrOf z).size) (hl:l<=k) (f:Fits κ z k l l):Up κ (setArr z (bubble (arrOf z) k (k-l))) (k+1):=by
 intro i j c1 c2;rw[Gg hk hl,Gg hk hl];by_cases i1:i=l
 .rw[if_pos i1];by_cases j1:j=l
  .rw[if_pos j1];show xt _
  .rw[if_neg j1,if_pos #[by lia,by lia]];show HM (f.2 _ zd zd)
 .rw[if_neg i1];by_cases i2:l<i /\ i<=k
  .rw[if_pos i2,if_neg zd,if_pos #[by lia,by lia]];show u _ _ zd zd
  .rw[if_neg i2];by_cases j1:j=l
   .rw[if_pos j1];show f.1 i zd
   .rw[if_neg j1];by_cases j2:l<j /\ j<=k
    .rw[if_pos j2];show u _ _ zd zd
    .rw[if_neg j2];show u _ _ c1 zd
theorem ahs (C:uk prog w A E s κ kd b) {z:SortSt}(g:SB kd b z) {m:Nat}(hn:n<=b.size) (hm:m<=n) (u:Up κ z m) {Q:Bool->SortSt->zu}(q:∀ y,SB kd b y->Up κ y n->Q ah y) :
 wpS zh A E s (binarySort' 0 n m) Q z:=by
 rw[binarySort'_eq];erw[Hf];refine cG (HJ (Q:=λc y=>c=(ag,()) /\ SB kd b y /\ Up κ y n) (xn (I:=λk c y=>c=(ag,()) /\ SB kd b y /\ Up κ y (min k n)) ?_ ?_ ?_) ?_)
 .intro k c y k1 k2 ⟨ec,gy,uy⟩;subst ec;rw[QW (nR k2)]at uy;have kb:k<b.size:=by lia
  have ks:k<(arrOf y).size:=by rw[gy.len];show kb
  refine cG (HJ (Q:=λc y'=>y'=y /\ ∃ l r,c=(ag,l,r) /\ l<=k /\ Fits κ y k l l) (xn (I:=λx c y'=>y'=y /\ ∃ l r,c=(ag,l,r) /\ l<=r /\ r<=k /\ r-l<=k-x /\ Fits κ y k l r) ?_ ?_ ?_) ?_)
  .intro x c y' _ x2 ⟨ey,l,r,ec,p1,p2,p3,f⟩;subst ey;subst ec;dsimp only;by_cases lr:l>=r
   .rw[if_pos lr];obtain rfl:l=r:=by lia
    show dW #[rfl,l,l,rfl,p2,f]
   rw[if_neg lr];refine cG (ask C gy kb (show (l+r) / 2<b.size by lia) ?_);cases t:κ.blt (kx κ y' k) (kx κ y' ((l+r) / 2)) with
   |true=>show dW #[rfl,l,(l+r) / 2,rfl,by lia,by lia,by lia,f.1,λi i1 i2=>KeyOrd.klt_of_klt_of_kle t (uy _ _ i1 i2)]
   |false=>show dW #[rfl,(l+r) / 2+1,r,rfl,by lia,by lia,by lia,λi i1=>HL (uy i ((l+r) / 2) zd zd) t,f.2]
  .intro c y' ⟨ey,l,r,ec,p1,p2,p3,f⟩;obtain rfl:l=r:=by lia
   show#[ey,l,l,ec,p2,f]
  .show#[rfl,0,k,rfl,eS k,aD k,aD _,λi hi=>absurd hi (QX i),λi i1 i2=>absurd i2 zd]
  .intro c y' ⟨ey,l,r,ec,p,f⟩;subst ey;subst ec;change wpS _ _ _ _ (moveDown' k l >>= λ_=>pure (ForInStep.yield (ag,()))) _ _;rw[moveDown'_eq];refine cG (Xd (dW #[rfl,gy.put (bubble_perm _ _ _),?_]));rw[QW k2];show uy.insert ks p f
 .intro c y ⟨ec,gy,uy⟩;rw[show min (max (max m 1) n) n=n by lia]at uy;show#[ec,gy,uy]
 .refine#[rfl,g,?_];rcases wY m 1 with m0|m0
  .show .one zd
  .rw[show min (max m 1) n=m by lia];show u
 .intro c y ⟨ec,gy,uy⟩;subst ec;show dW (q y gy uy)
def IV (κ:KeyKind) (b:Array Keyed) (y:SortSt):zu:=(arrOf y).Perm b /\ failedOf y=ag /\ pendingOf y=(List.toArray [(0,b.size,0)]) /\ Up κ y b.size
theorem SB.fin {y:SortSt}(g:SB kd b y) (u:Up κ y b.size):IV κ b (setPending y ((pendingOf y).push (0,b.size,0))):=#[g.pm,g.fl,by change (pendingOf y).push _=_;rw[g.pn];rfl,u]
theorem runs (C:uk prog w A E s κ kd b) {z:SortSt}(g:SB kd b z) (h2:2<=b.size) (dZ:b.size<64) {Q:Unit->SortSt->zu}(q:∀ y,(arrOf y).Perm b->failedOf y=ag->Up κ y b.size->Q () y) :
 wpS zh A E s sortRuns' Q z:=by
 have mr:minRun' b.size b.size 0=b.size:=by
  let#[f,e]:=Nat.exists_eq_add_of_lt (show 0<b.size by lia);have:minRun' (0+f+1) b.size 0=b.size:=by rw[minRun'_succ,if_pos dZ];rfl
  rw[<-e]at this;show this
 rw[sortRuns'_eq];refine cG (xm ?_);dsimp only;erw[g.len,mr];refine cG (HJ (Q:=λc y=>c=(ag,b.size) /\ IV κ b y)
  (xn (I:=λx c y=>if x=0 then c=(ag,0) /\ SB kd b y else c=(ag,b.size) /\ IV κ b y) ?_ ?_ (by rw[if_pos rfl];show#[rfl,g])) ?_)
 .intro x c y _ x2 I;by_cases x0:x=0
  .rw[if_pos x0]at I;let#[ec,gy]:=I;subst ec;subst x0;dsimp only;rw[if_neg zd];erw[He,Nat.min_self,Hf];have fin:∀ y',SB kd b y'->Up κ y' b.size->(if (1:Nat)=0 then ((ag:Option PUnit),b.size)=(ag,0) /\ SB kd b (setPending y' ((pendingOf y').push (0,b.size,0))) else ((ag:Option PUnit),b.size)=(ag,b.size) /\ IV κ b (setPending y' ((pendingOf y').push (0,b.size,0)))):=
    λy' g' u'=>by rw[if_neg zd];show#[rfl,g'.fin u']
   refine cG (count C gy (aD _) zd λm y1 g1 m1 m2 u1=>?_);dsimp only;by_cases lt:m<b.size
   .rw[if_pos lt];refine cG (Xc (p8 #[rfl,cG (ahs C g1 (aD _) m2 u1 λy3 g3 u3=>?_)]));rw[if_neg zi];refine cG (xm ?_);rw[show (pendingOf y3).back?=ag by rw[g3.pn];rfl];show cG (Xd (dW (fin y3 g3 u3)))
   .rw[if_neg lt];obtain rfl:m=b.size:=by lia
    refine cG (xm ?_);rw[show (pendingOf y1).back?=ag by rw[g1.pn];rfl];show cG (Xd (dW (fin y1 g1 u1)))
  .rw[if_neg x0]at I;let#[ec,fy]:=I;subst ec;dsimp only;rw[if_pos (aD _)];show dW #[rfl,fy]
 .intro c y I;rw[if_neg zd]at I;show I
 .intro c y ⟨ec,fy⟩;subst ec;dsimp only;refine cG (HJ (Q:=λc y'=>y'=y /\ c=(ag,())) (xn (I:=λ_ c y'=>y'=y /\ c=(ag,())) ?_ (λ_ _ h=>h) #[rfl,rfl]) ?_)
  .intro x c y' _ _ ⟨e1,e2⟩;subst e1;subst e2;refine cG (xm ?_);rw[if_pos (by rw[fy.2.2.1];show aD 1)];show dW #[rfl,rfl]
  .intro c y' ⟨e1,e2⟩;subst e1;subst e2;show dW (q _ fy.1 fy.2.1 fy.2.2.2)
end
theorem jC:∀ a,lexLt a a=af
 |[]=>rfl
 |x::a=>by rw[gj,if_pos rfl];show jC a
theorem mX:∀ a b c,lexLt a b=ah->lexLt b c=ah->lexLt a c=ah
 |[],[],_,h,_=>by cases h
 |[],_::_,[],_,h=>by cases h
 |[],_::_,_::_,_,_=>rfl
 |_::_,[],_,h,_=>by cases h
 |_::_,_::_,[],_,h=>by cases h
 | x::a,y::b,z::c,h,g=>by
   rw[gj]at *;by_cases e1:x=y
   .subst e1;rw[if_pos rfl]at h;by_cases e2:x=z
    .subst e2;rw[if_pos rfl]at g ⊢;show mX a b c h g
    .rw[if_neg e2]at g ⊢;show g
   .rw[if_neg e1]at h;by_cases e2:y=z
    .subst e2;rw[if_neg e1];show h
    .rw[if_neg e2]at g;have h':=of_decide_eq_true h;have g':=of_decide_eq_true g;rw[if_neg zd];show decide_eq_true zd
theorem iY:∀ a b,lexLt a b=af->lexLt b a=af->a=b
 |[],[],_,_=>rfl
 |[],_::_,h,_=>by cases h
 |_::_,[],_,h=>by cases h
 | x::a,y::b,h,g=>by
   rw[gj]at *;by_cases e:x=y
   .subst e;rw[if_pos rfl]at h g;rw[iY a b h g]
   .rw[if_neg e]at h;rw[if_neg (Ne.symm e)]at g;have h':=of_decide_eq_false h;have g':=of_decide_eq_false g;lia
theorem BI (a b c:List Int) (h:lexLt a c=ah):lexLt a b=ah \/ lexLt b c=ah:=by
 cases e:lexLt a b with
 |true=>show .inl zc
 |false=>
   refine .inr ?_;cases f:lexLt b a with
   |true=>show mX b a c f h
   |false=>rw[<-iY a b e f];show h
section
variable {s:aq}
theorem Fj {x y:Int}{t u:Tok}(k:Bool) {Q:Bool->aq->zu}(h:Q (decide (x<y)) s):wpAny zh A (oneLt' k (.int x t) (.int y u)) Q E s:=by
 cases k with
 |true=>show oneLt_int h
 |false=>
   rw[oneLt'_eq];rw[if_neg zi];show ak (show wpAny zh A (richCompare .Lt (.int x t) (.int y u)) _ E s from(abJ (p7 h):wpAny zh A (compareOp .Lt (.int x t) (.int y u)) _ E s))
theorem Ca (f:Bool) (x y:ai):keyLt' (tuples' f) x y=(do
 let xs <-Builtin.List.listItems x
 let ys <-Builtin.List.listItems y
 for ((p,q),i) in (xs.toList.zip ys.toList).zipIdx do
  if !(<-eqBool p q) then return <-oneLt' (f&&i==0) p q
 return decide (xs.size<ys.size)):=rfl
end
structure KP (P:aI->ai->List Int->zu):zu where
 inj:∀ {h:aI}{v:ai}{ns ms:List Int},P h v ns->P h v ms->ns=ms
 push:∀ {h:aI}{v:ai}{ns:List Int},P h v ns->∀ o:aY,P (h.push o) v ns
 upd:∀ {h:aI}{v:ai}{ns:List Int},P h v ns->∀ {l:aj}{xs:Array ai}{n:Nat},h.get? l=ae (seqObj "list" xs n)->∀ f:aY->aY,P (h.update l f) v ns
section
variable {s:aq} {P:aI -> ai -> List Int -> zu} (KQ:KP P)
open Classical in
noncomputable def uo (P:aI->ai->List Int->zu) (h:aI):KeyKind where
 α:=List Int
 blt:=lexLt
 irrefl:=jC
 trans:=mX
 negTrans:=BI
 total:=iY
 keyOf v:=if p:∃ ns,P h v ns then ae p.choose else ag
 dflt:=[]
include KQ in
open Classical in
theorem Am {v:ai}(p:P h v ns):((uo P h).keyOf v).getD []=ns:=by
 have e:∃ ns,P h v ns:=#[ns,p];change (if p:∃ ns,P h v ns then ae p.choose else ag).getD []=ns;rw[dif_pos e];show KQ.inj e.choose_spec p
def wg (P:aI->ai->List Int->zu) (h:aI) (vs:List ai):zu:=vs.Pairwise λx y=>∀ ns ms,P h x ns->P h y ms->lexLt ms ns=af
def Yy (P:aI->ai->List Int->zu) (prog:dg) (w:cn) (U:Nat) (s:aq) (vs:List ai):zu:=∀ (A:eE) (h':aI),A.units<=U->(∀ v ns,P s.heap v ns->P h' v ns) ->
 (∀ {Q:SortKind->aq->zu}{E:ai->aq->zu},Q (tuples' ah) { s with heap:=h' }->wpAny zh A (keyKind' vs.toArray) Q E { s with heap:=h' }) /\ ∀ E,uk prog w A E { s with heap:=h' } (uo P h') (tuples' ah) (pairsOf vs)
include KQ
theorem LY (H:∀ v∈vs,∃ ns,P h v ns) (up:∀ v ns,P h v ns->P h' v ns) {z:SortSt}(pm:(arrOf z).Perm (pairsOf vs)) (u:Up (uo P h') z (pairsOf vs).size) :
 ((arrOf z).map (·.2)).toList.Perm vs /\ wg P h ((arrOf z).map (·.2)).toList:=by
 have hl:(arrOf z).toList.Perm (vs.zip vs):=by rw[<-abK];show Array.perm_iff_toList_perm.mp pm
 have me:∀ p∈(arrOf z).toList,p.1=p.2 /\ p.1∈vs:=λp hp=>Xe (hl.mem_iff.mp hp);rw[Array.toList_map];constructor
 .have:=hl.map (·.2);rw[abg (aD _)]at this;show this
 .unfold wg;rw[tM,List.pairwise_iff_getElem];intro i j hi hj yV ns ms p q;have rK:i<(arrOf z).size:=by simpa using hi
  have IW:j<(arrOf z).size:=by simpa using hj
  have g:=u i j (nR yV) (by rw[<-pm.size_eq];show IW);have ki:kx (uo P h') z i=ns:=by
   erw[kx,KK,getElem?_pos (arrOf z) i rK];rw[abQ,<-(me _ zi).1]at p;show Am KQ (up _ _ p)
  have kj:kx (uo P h') z j=ms:=by
   erw[kx,KK,getElem?_pos (arrOf z) j IW];rw[abQ,<-(me _ zi).1]at q;show Am KQ (up _ _ q)
  rw[ki,kj]at g;show g
theorem OP {R:Fin->aq->zu}(ho:s.heap.get? a=ae (seqObj "list" vs.toArray n)) (H:∀ v∈vs,∃ ns,P s.heap v ns) {U:Nat}(hU:A.units<=U) (S:vs≠[]->Yy P prog w U s vs) (dZ:vs.length<64)
 (h:∀ out:Array ai,out.toList.Perm vs->wg P s.heap out.toList->R (.done (.ret .none)) { s with heap:=sortedHeap s.heap a vs out }):wpAny zh A (Builtin.«list.sort» #[[.ref a],[]]) R E s:=by
 rw[list_sort_plain];have la:a<s.heap.objs.size:=bj ho;refine ak (xl ho zc (ak (HF ho zc ?_)));obtain⟨k,EC⟩:∃ k,(s.heap.update a (Obj.mapSeq λ_=>#[])).get? a=ae (seqObj "list" #[] k):=#[_,abF ho (λ_=>#[])];refine ak (Xf EC zc (ak (QO (ak (yz (hG ?_))))));generalize eh:((s.heap.update a (Obj.mapSeq λ_=>#[])).push (seqObj "tuple" vs.toArray 0)).push (seqObj "list" #[] 0)=h6;have up:∀ v ns,P s.heap v ns->P h6 v ns:=λv ns p=>eh▸KQ.push (KQ.push (KQ.upd p ho _) _) _;have IZ:h6.get? a=ae (seqObj "list" #[] k):=by
  rw[<-eh];show aX _ (aX _ EC)
 have fin:∀ out:Array ai,out.toList.Perm vs->wg P s.heap out.toList->R (.done (.ret .none)) { s with heap:=h6.update a (Obj.mapSeq λ_=>out) }:=λout p q=>by
  rw[<-eh];show h out p q
 change wpAny zh A _ R E { s with heap:=h6 };dsimp only;have big:vs.length<=sizeLine+1:=by rw[br];lia
 by_cases h2:vs.toArray.size<2
 .rw[if_pos h2,if_pos h2];refine ak (ay ?_);rw[StateT.run_pure];refine ak (ay ?_);dsimp only;have em:(Array.map (λx=>x.2) (vs.toArray.zip vs.toArray))=vs.toArray:=by
   apply Array.toList_inj.mp;simp[abg]
  rw[em];refine ak (Xf IZ zc (ak (HF IZ zc ?_ (hsz2:=by rw[bL];show big))));rw[bne_self_eq_false];refine ay (fin vs.toArray (List.Perm.refl _) ?_);rw[bL]at h2;unfold wg;match vs,h2 with
  |[],_=>show List.Pairwise.nil
  |[x],_=>show List.pairwise_singleton _ _
 .rw[if_neg h2,if_neg h2];rw[bL]at h2;have ne:vs≠[]:=λe=>by rw[e]at h2;simp at h2
  have H6:∀ v∈vs,∃ ns,P h6 v ns:=λv m=>let ⟨ns,p⟩:=H v m;#[ns,up v ns p]
  refine ak ((S ne A h6 hU up).1 ?_);refine ak (k7 (runs (s:={ s with heap:=h6 }) (κ:=uo P h6) (kd:=tuples' ah) (b:=pairsOf vs) (z:=SortSt.mk' (tuples' ah) (vs.toArray.zip vs.toArray) #[] 7 ag)
   (Q:=λ_ y=>(arrOf y).Perm (pairsOf vs) /\ failedOf y=ag /\ Up (uo P h6) y (pairsOf vs).size) ((S ne A h6 hU up).2 _) #[Array.Perm.refl _,rfl,rfl,rfl] (by rw[Xg];lia) (by rw[Xg];show dZ) λy a1 a2 a3=>#[a1,a2,a3]) ?_ λ_ _ e=>e)
  rintro⟨⟨⟩,y⟩ s' ⟨es,pm,fl,u⟩;subst es;dsimp only;let#[o1,o2]:=LY KQ H up pm u;refine ak (Xf IZ zc (ak (HF IZ zc ?_ (hsz2:=by rw[Array.size_map,pm.size_eq,Xg];show big))));rw[fl,bne_self_eq_false];show ay (fin _ o1 o2)
theorem Jr {l:aj}(hl:s.heap.IsList l vs.toArray) (H:∀ v∈vs,∃ ns,P s.heap v ns) {U:Nat}(hU:A.units+8<=U) (S:vs≠[]->Yy P prog w U s vs) (dZ:vs.length<64)
 (h:∀ out:Array ai,out.toList.Perm vs->wg P s.heap out.toList->Q (.ref zx) { s with heap:=sortedAll s.heap vs out }):wpAny zh A (call (.builtin "sorted") [.ref l]) Q E s:=by
 refine Xn W5 W6 W7 (W8 _) ?_;unfold Builtin.«sorted»;refine ak (m:=checkCount "sorted" 1 1 _) (ay (ak (collect_list hl (ak (yz ?_)))));generalize eg:(s.heap.push (seqObj "list" #[] 0)).update s.heap.objs.size (Obj.mapSeq (·++vs.toArray))=g;have sg:g.objs.size=s.heap.objs.size+1:=by rw[<-eg,aby,uN]
 have up:∀ v ns,P s.heap v ns->P (g.push zaF) v ns:=λv ns p=>by
  rw[<-eg];show KQ.push (KQ.upd (KQ.push p _) (bF _ zc) _) _
 have dn:∀ v ns,v∈vs->P (g.push zaF) v ns->P s.heap v ns:=λv ns m p=>by
  let#[ms,q]:=H v m;rw[KQ.inj p (up v ms q)];show q
 have gl:(g.push zaF).get? zx=ae zaF:=by rw[<-sg];show bF _ zc
 change wpAny _ _ _ _ _ { s with heap:=g.push zaF };rw[sg];refine ak (hG (hV W9 #[_,gl,rfl] Xa (OP KQ (s:={ s with heap:=g.push zaF }) gl (λv m=>let ⟨ns,p⟩:=H v m;#[ns,up v ns p]) (U:=U) (show A.units+1+1<=U by lia) (λne A h2 hu k=>S ne A h2 hu λv ns p=>k v ns (up v ns p)) dZ λout o1 o2=>#[_,rfl,ay #[_,rfl,?_]]) (Xb _)));have:=h out o1 (List.Pairwise.imp (λ{x y} r ns ms p q=>r ns ms (up _ _ p) (up _ _ q)) o2);unfold sortedAll at this;rw[eg]at this;show this
omit KQ
end
end HT
namespace L2.DL
theorem C4:∀ {rs:List aj}{us:List ai},Vals (rs.map V.ref) us->us=rs.map Value.ref
 |[],_,.nil=>rfl
 | r::rs,_,.cons q t=>by
   cases q;rw[C4 t];rfl
end L2.DL
namespace HT
inductive aS where
 |i (n:Int)|s (x:Str)
 deriving DecidableEq
noncomputable def aS.code:aS->List Int
 |.i n=>[n]
 |.s x=>x.cps.toList.map (λ(c:Nat)=>(c:Int)+1)++[0]
noncomputable def aS.pV:aS->aS->Bool
 |.i _,.i _=>ah
 |.s _,.s _=>ah
 |_,_=>af
def a7 (l:List aS):List Int:=l.flatMap (λd=>1::d.code)++[0]
def eN (l m:List aS):Bool:=(l.zip m).all λp=>p.1.pV p.2
theorem C5 (r q:List Int):∀ (a b:List Nat),a≠b->lexLt ((a.map λ(c:Nat)=>(c:Int)+1)++[0]++r) ((b.map λ(c:Nat)=>(c:Int)+1)++[0]++q)=decide (a<b)
 |[],[],h=>absurd zc h
 | [],y::b,_=>by
   change lexLt (0::_) (((y:Int)+1)::_)=_;rw[gj,if_neg zd,decide_eq_true zd,decide_eq_true zi]
 | x::a,[],_=>by
   change lexLt (((x:Int)+1)::_) (0::_)=_;rw[gj,if_neg zd,decide_eq_false zd,decide_eq_false zi]
 | x::a,y::b,h=>by
   change lexLt (((x:Int)+1)::_) (((y:Int)+1)::_)=_;rw[gj];by_cases e:x=y
   .subst e;rw[if_pos rfl];have ih:=C5 r q a b (λz=>h (by rw[z]));refine ih.trans ?_;by_cases c:a<b
    .rw[decide_eq_true c,decide_eq_true (by simpa using c)]
    .rw[decide_eq_false c,decide_eq_false (by simpa using c)]
   .rw[if_neg zd];by_cases c:x<y
    .rw[decide_eq_true zd,decide_eq_true (List.cons_lt_cons_iff.mpr (.inl c))]
    .rw[decide_eq_false zd,decide_eq_false ?_];intro z;rcases List.cons_lt_cons_iff.mp z with z|z
     .lia
     .lia
noncomputable def aS.lt:aS->aS->Bool
 |.i n,.i m=>decide (n<m)
 |.s x,.s y=>decide (x.cps.toList<y.cps.toList)
 |_,_=>af
theorem aS.app (r q:List Int):∀ {a b:aS},a.pV b=ah->a≠b->lexLt (a.code++r) (b.code++q)=a.lt b
 | .i n,.i m,_,h=>by
   change lexLt (n::r) (m::q)=_;rw[gj,if_neg (λz=>h (by rw[z]))];rfl
 |.s x,.s y,_,h=>C5 r q _ _ λz=>h (by
  let#[#[a]]:=x;let#[#[b]]:=y;have z':a=b:=z;rw[z'])
theorem LZ (a r q:List Int):lexLt (a++r) (a++q)=lexLt r q:=by
 induction a with
 |nil=>rfl
 |cons x a ih=>rw[Hq,Hq,gj,if_pos rfl,ih]
def cw:List aS->List aS->Bool
 |[],m=>!m.isEmpty
 |_::_,[]=>af
 |a::l,b::m=>if a=b then cw l m else a.lt b
theorem An:∀ (l m:List aS),eN l m=ah->lexLt (a7 l) (a7 m)=cw l m
 |[],[],_=>rfl
 | [],b::m,_=>by
   change lexLt (0::[]) (1::_)=_;rw[gj,if_neg zd];rfl
 | a::l,[],_=>by
   change lexLt (1::_) (0::[])=_;rw[gj,if_neg zd];rfl
 | a::l,b::m,h=>by
   have h':(a.pV b&&eN l m)=ah:=h;rw[aG]at h';have e1:a7 (a::l)=1::(a.code++a7 l):=by simp[a7]
   have e2:a7 (b::m)=1::(b.code++a7 m):=by simp[a7]
   rw[e1,e2,gj,if_pos rfl];unfold cw;by_cases c:a=b
   .rw[if_pos c,c,LZ];show An l m h'.2
   .rw[if_neg c];show aS.app _ _ h'.1 c
noncomputable def ny (h:aI) (v:ai):aS->zu
 |.i n=>∃ t,v=.int n t
 |.s x=>∃ t,v=.str x t
inductive eO (h:aI):List ai->List aS->zu
 |nil:eO h [] []
 |cons {v:ai}{d:aS}{vs:List ai}{l:List aS}:ny h v d->eO h vs l->eO h (v::vs) (d::l)
def uq (L:List (List aS)) (h:aI) (v:ai) (ns:List Int):zu:=∃ a vs n l,v=.ref a /\ IsTup h a vs.toArray /\ eO h vs (.i n::l) /\ .i n::l∈L /\ ns=a7 (.i n::l)
theorem ny.inj {v:ai}:∀ {a b:aS},ny h v a->ny h v b->a=b
 |.i n,.i m,⟨t,e⟩,⟨u,f⟩=>by rw[e]at f;cases f;rfl
 |.s n,.s m,⟨t,e⟩,⟨u,f⟩=>by rw[e]at f;cases f;rfl
 |.i n,.s m,⟨t,e⟩,⟨u,f⟩=>by rw[e]at f;cases f
 |.s n,.i m,⟨t,e⟩,⟨u,f⟩=>by rw[e]at f;cases f
theorem eO.inj {h:aI}{vs:List ai}{l m:List aS}(p:eO h vs l) (q:eO h vs m):l=m:=by
 induction p generalizing m with
 |nil=>cases q;rfl
 |cons a _ ih=>cases q with|cons b q=>rw[a.inj b,ih q]
theorem ny.keep {v:ai}{d:aS}(p:ny h v d):ny h' v d:=by
 cases d with
 |i n=>show p
 |s x=>show p
theorem eO.keep {h h':aI}{vs:List ai}{l:List aS}(p:eO h vs l):eO h' vs l:=by
 induction p with
 |nil=>show .nil
 |cons a _ ih=>show .cons a.keep ih
theorem L0 (o:aY):∀ a vs,IsTup h a vs->IsTup (h.push o) a vs:=λa vs ⟨u,e1,e2⟩=>#[u,aX _ e1,e2]
theorem OQ {l:aj}{xs:Array ai}(hl:h.get? l=ae (seqObj "list" xs n)) (f:aY->aY):∀ a vs,IsTup h a vs->IsTup (h.update l f) a vs:=λa vs ⟨u,e1,e2,e3⟩=>by
 refine#[u,?_,e2,e3];by_cases q:l=a
 .subst q;rw[hl]at e1;cases e1;injection (show Value.type "list"=Value.type "tuple" from e2) with e4;show absurd e4 ze
 .rw[Heap.get?_update_ne _ _ _ _ (Ne.symm q)];show e1
theorem b9 (L:List (List aS)):KP (uq L) where
 inj:=by
  rintro h v ns ms ⟨a,vs,n,l,rfl,⟨o,e1,_,k,e2⟩,i1,_,rfl⟩ ⟨a',Eh,n',l',e,⟨o',f1,_,k',f2⟩,i2,_,rfl⟩;cases e;rw[e1]at f1;cases f1;rw[e2]at f2;injection f2 with g _;have:vs=Eh:=by simpa using g
  subst this;rw[i1.inj i2]
 push:=λ⟨a,vs,n,l,e,t,i,m,c⟩ o=>#[a,vs,n,l,e,L0 o _ _ t,i.keep,m,c]
 upd:=λ⟨a,vs,n,l,e,t,i,m,c⟩ _ _ _ hl f=>#[a,vs,n,l,e,OQ hl f _ _ t,i.keep,m,c]
section
variable {s:aq}
theorem VJ {v:ai}{a b:aS}(hu:A.units<cLine) (p:ny s.heap v a) (q:ny s.heap u b) (hl:a.pV b=ah) {Q:Bool->aq->zu}(h:Q (decide (a=b)) s):wpAny zh A (eqBool v u) Q E s:=by
 cases a with
 |i n=>
   cases b with
   |i m=>
     let#[t,rfl]:=p;let#[t',rfl]:=q;refine aam ?_;rw[show (n==m)=decide (aS.i n=aS.i m) by by_cases e:n=m<;>simp[e]];show h
   |_=>cases hl
 |s x=>
   cases b with
   |s y=>
     let#[t,rfl]:=p;let#[t',rfl]:=q;refine Xv x t y t' prog w E Q ?_;rw[show (x==y)=decide (aS.s x=aS.s y) by by_cases e:x=y<;>simp[e]];show h
   |_=>cases hl
theorem VL {v:ai}{a b:aS}(hu:A.units<cLine) (k:Bool) (hk:k=ah->∃ n,a=.i n) (p:ny s.heap v a) (q:ny s.heap u b) (hl:a.pV b=ah) {Q:Bool->aq->zu}(h:Q (a.lt b) s):wpAny zh A (oneLt' k v u) Q E s:=by
 have gen:∀ {v u:ai}{c:Bool},k=af->(∀ {R:ai->aq->zu},R (.bool c) s->wpAny zh A (compareOp .Lt v u) R E s)->Q c s->wpAny zh A (oneLt' k v u) Q E s:=λ{v u c} z f h=>by
  rw[oneLt'_eq,z,if_neg zi];show ak (show wpAny zh A (richCompare .Lt v u) _ E s from f (p7 h))
 cases a with
 |i n=>
   cases b with
   |i m=>let#[t,rfl]:=p;let#[t',rfl]:=q;show Fj k h
   |_=>cases hl
 |s x=>
   have z:k=af:=by cases k with|true=>let#[n,e]:=hk zc;cases e|false=>rfl
   cases b with
   |s y=>let#[t,rfl]:=p;let#[t',rfl]:=q;show gen z (λr=>lt_str r) h
   |_=>cases hl
theorem eO.length {h:aI}{vs:List ai}{l:List aS}(p:eO h vs l):vs.length=l.length:=by
 induction p with
 |nil=>rfl
 |cons _ _ ih=>rw[bw,bw,ih]
theorem OR (hu:A.units<cLine) {l m:List aS}(p:eO s.heap vs l) (q:eO s.heap us m) (hl:eN l m=ah) (i:Nat) (h0:i=0->∀ d r,l=d::r->∃ n,d=.i n) {R:(Option Bool×PUnit)->aq->zu}
 (k:∀ r,(r=(ae (cw l m),PUnit.unit) \/ (r=(ag,PUnit.unit) /\ cw l m=decide (vs.length<us.length)))->R r s) :
 wpAny zh A (forIn ((vs.zip us).zipIdx i) ((ag,PUnit.unit):Option Bool×PUnit) λ(z:(ai×ai)×Nat) _=>(do
  let z1 <-eqBool z.1.1 z.1.2
  if (!z1)=ah then do
   let r <-oneLt' (ah&&z.2==0) z.1.1 z.1.2
   pure (ForInStep.done (ae r,PUnit.unit))
  else pure (ForInStep.yield (ag,PUnit.unit)))) R E s:=by
 induction p generalizing us m i with
 |nil=>
   rw[Q6,Hu,vC];refine ay (k _ (.inr #[rfl,?_]));cases q with
   |nil=>rfl
   |cons _ q=>unfold cw;simp
 |@cons v d vs l pa p ih=>
   cases q with
   |nil=>
     rw[abh,Hu,vC];show ay (k _ (.inr #[rfl,by unfold cw;simp]))
   |@cons u e us m qa q=>
     have eV:(d.pV e&&eN l m)=ah:=hl;rw[aG]at eV;rw[vD,Q5,xc];refine ak (ak (VJ hu pa qa eV.1 ?_));by_cases c:d=e
     .subst c;rw[if_neg zi];refine ay (ih q eV.2 (i+1) (λz=>by lia) λr hr=>k r ?_);have:cw (d::l) (d::m)=cw l m:=by conv=>lhs;unfold cw;rw[if_pos rfl]
      rw[this];rcases hr with hr|⟨hr,ED⟩
      .show .inl hr
      .show .inr #[hr,by rw[ED];simp]
     .rw[if_pos (by simp[c])];refine ak (VL hu _ (λz=>?_) pa qa eV.1 (ay (ay (k _ (.inl ?_)))))
      .have:i=0:=by simpa using z
       show h0 this d l zc
      .have:cw (d::l) (e::m)=d.lt e:=by conv=>lhs;unfold cw;rw[if_neg c]
       rw[this]
theorem Js {L:List (List aS)}(C:∀ l∈L,∀ m∈L,eN l m=ah) {U:Nat}(hU:U<cLine) (H:∀ v∈vs,∃ ns,uq L s.heap v ns) (ne:vs≠[]):Yy (uq L) prog w U s vs:=λA h' hu up=>by
 have H':∀ v∈vs,∃ ns,uq L h' v ns:=λv m=>let ⟨ns,p⟩:=H v m;#[ns,up v ns p]
 refine#[λ{Q E} h=>?_,λE=>?_]
 .have aht:∀ (us:List ai),(∀ v∈us,∃ ns,uq L h' v ns)->∀ {Q:List (Option ai)->aq->zu}{E:ai->aq->zu},(∀ (ws:List ai) (is:List Int),ws.length=us.length->IntsAre ws is->Q (ws.map ae) { s with heap:=h' })->wpAny zh A (us.mapM firstOfTuple') Q E { s with heap:=h' }:=by
   intro us;induction us with
   |nil=>intro _ Q E k;rw[List.mapM_nil];show ay (k [] [] zc .nil)
   |cons u us ih=>
     intro G Q E k;let#[ns,a,xs,n,l,rfl,#[o,e1,e3,c,e2],it,_,_]:=G u (bE ..);rw[List.mapM_cons];refine ak (show wpAny zh A (do
      if (<-typeOf (.ref a)) != .type "tuple" then return ag
      return (<-Builtin.List.listItems (.ref a))[0]?) _ E _ from ?_)
     refine ak (vw (T:="tuple") #[o,e1,e3] ?_);rw[if_neg ze];refine ak (xl e1 e2 (ay ?_));cases it with
     |cons hv _=>
       let#[t,rfl]:=hv;show ak (ih (λv m=>G v (bB _ m)) λws is e q=>ay (k (.int n t::ws) (n::is) (by simp[e]) (.cons n t q)))
  rw[keyKind'_eq,abi];refine ak (show wpAny zh A (List.toArray <$> vs.mapM firstOfTuple') _ E _ from ?_);rw[<-bind_pure_comp];refine ak (aht vs H' λus is e k=>ay ?_);rw[if_pos zi];refine ak (p8 ?_);have e1:((us.map ae).toArray.filterMap id)=us.toArray:=by simp[Q4]
  rw[e1,oneTypeOnly'_eq,abi,mapM_typeOf_ints k];cases us with
  |nil=>show absurd (xj e.symm) ne
  |cons u us=>
    erw[map_pure,pure_bind];rw[show ((u::us).map λ_=>Value.type "int").toArray[0]?=ae (Value.type "int") by simp];dsimp only;rw[if_pos zi];show ak (ay (ay h))
 .intro x y mx my Q E' q;rw[abK]at mx my;let#[ns,hx]:=H' _ (Xe mx).2;let#[ms,hy]:=H' _ (Xe my).2;have k1:=Am (b9 L) hx;have k2:=Am (b9 L) hy
  change Q (lexLt (((uo (uq L) h').keyOf x.1).getD []) (((uo (uq L) h').keyOf y.1).getD [])) _ at q
  rw[k1,k2]at q;let#[a,akc,n1,l1,e1,#[o1,x1,x2,c1,x3],i1,m1,rfl]:=hx;let#[b,Ej,n2,l2,e2,#[o2,y1,y2,c2,y3],i2,m2,rfl]:=hy;have lk:=C _ m1 _ m2;rw[An _ _ lk]at q;rw[e1,e2,Ca];refine ak (xl x1 x3 (ak (xl y1 y3 ?_)));refine ak (OR (s:={ s with heap:=h' }) (yH hu hU) i1 i2 lk 0 (λ_ d r z=>by cases z;show#[n1,rfl]) λr hr=>?_);rcases hr with rfl|⟨rfl,e⟩
  .show ay q
  .refine ay ?_;rw[bL,bL,<-e];show q
end
end HT
namespace L2.DL
open HT (aS a7 eN lexLt)
noncomputable def I0:D->Option aS
 |.int i=>ae (.i i)
 |.str x=>ae (.s x)
 |_=>ag
noncomputable def kX:aS->D
 |.i n=>.int n
 |.s x=>.str x
def sV:List D->Option (List aS)
 |[]=>ae []
 |d::l=>(I0 d).bind λa=>(sV l).map λr=>a::r
def rowOf:D->Option (List aS)
 |.tup (.int i::l)=>(sV l).map λr=>.i i::r
 |_=>ag
def rowsOf:List D->Option (List (List aS))
 |[]=>ae []
 |d::l=>(rowOf d).bind λa=>(rowsOf l).map λr=>a::r
def eA (l:List aS):D:=.tup (l.map kX)
theorem OT {d:D}{a:aS}(e:I0 d=ae a):d=kX a:=by
 cases d with
 |int i=>cases e;rfl
 |str x=>cases e;rfl
 |_=>cases e
theorem AO:∀ {l:List D}{r:List aS},sV l=ae r->l=r.map kX:=by
 intro l_;induction l_ with
 |nil=>(intro _ e;cases e;rfl)
 |cons d l az=>
   intro r e;unfold sV at e;cases q:I0 d with
   |none=>rw[q]at e;cases e
   |some a=>
     cases q2:sV l with
     |none=>rw[q,q2]at e;cases e
     |some t=>rw[q,q2]at e;cases e;rw[OT q,az q2];rfl
theorem L4 {d:D}{r:List aS}(e:rowOf d=ae r):d=eA r /\ ∃ n l,r=.i n::l:=by
 unfold rowOf at e;split at e
 .ext i l;cases q:sV l with
  |none=>rw[q]at e;cases e
  |some t=>rw[q]at e;cases e;rw[AO q];show#[rfl,i,t,rfl]
 .cases e
theorem Jt:∀ {l:List D}{rs:List (List aS)},rowsOf l=ae rs->l=rs.map eA /\ ∀ r∈rs,∃ n l,r=.i n::l:=by
 intro l_;induction l_ with
 |nil=>(intro _ e;cases e;show#[rfl,λr m=>nomatch m])
 |cons d l az=>
   intro rs e;unfold rowsOf at e;cases q:rowOf d with
   |none=>rw[q]at e;cases e
   |some a=>
     cases q2:rowsOf l with
     |none=>rw[q,q2]at e;cases e
     |some t=>
       rw[q,q2]at e;cases e;let#[h1,h2]:=L4 q;let#[h3,h4]:=az q2;refine#[by rw[h1,h3];rfl,λr m=>?_];rcases bz.mp m with rfl|m
       .show h2
       .show h4 r m
def pw (rs:List (List aS)):List (List aS):=rs.mergeSort λa b=>!lexLt (a7 b) (a7 a)
theorem iG (rs:List (List aS)):(pw rs).Perm rs:=abb rs _
theorem iD (rs:List (List aS)):(pw rs).Pairwise (λa b=>lexLt (a7 b) (a7 a)=af):=by
 have h:=abd (le:=λa b:List aS=>!lexLt (a7 b) (a7 a)) (λa b c h1 h2=>by
  rw[rZ]at *;cases e:lexLt (a7 c) (a7 a) with
  |false=>rfl
  |true=>
    rcases HT.BI _ (a7 b) _ e with z|z
    .rw[z]at h2;cases h2
    .rw[z]at h1;cases h1) (λa b=>by
  rw[wZ,rZ,rZ];cases e:lexLt (a7 b) (a7 a) with
  |false=>show .inl zc
  |true=>
    cases f:lexLt (a7 a) (a7 b) with
    |false=>show .inr zc
    |true=>have:=HT.mX _ _ _ e f;rw[HT.jC]at this;cases this) rs
 show h.imp λ{a b} z=>by simpa using z
theorem Ju {a b:aS}(h:a.pV b=ah):b.pV a=ah:=by cases a<;>cases b<;>first|rfl|cases h
theorem AQ:∀ {a b:List Nat},¬ a<b->¬ b<a->a=b
 |[],[],_,_=>rfl
 |[],y::b,h,_=>absurd zi h
 |x::a,[],_,h=>absurd zi h
 | x::a,y::b,h,g=>by
   rw[List.cons_lt_cons_iff]at h g;have e:x=y:=by
    rcases Nat.lt_trichotomy x y with z|z|z
    .show absurd (.inl z) h
    .show z
    .show absurd (.inl z) g
   subst e;rw[AQ (λz=>h (.inr #[rfl,z])) (λz=>g (.inr #[rfl,z]))]
theorem T1:∀ {a b:aS},a.pV b=ah->a.lt b=af->b.lt a=af->a=b
 | .i n,.i m,_,h,g=>by
   have h':=of_decide_eq_false h;have g':=of_decide_eq_false g;rw[show n=m by lia]
 | .s x,.s y,_,h,g=>by
   have:=AQ (of_decide_eq_false h) (of_decide_eq_false g);let#[#[a]]:=x;let#[#[b]]:=y;have z':a=b:=this;rw[z']
theorem AR:∀ {l m:List aS},eN l m=ah->a7 l=a7 m->l=m
 |[],[],_,_=>rfl
 | [],b::m,_,e=>by
   have e':([0]:List Int)=1::(b.code++a7 m):=by rw[show (1::(b.code++a7 m))=a7 (b::m) by simp[a7]];show e
   simp at e'
 | a::l,[],_,e=>by
   have e':1::(a.code++a7 l)=([0]:List Int):=by rw[show (1::(a.code++a7 l))=a7 (a::l) by simp[a7]];show e
   simp at e'
 | a::l,b::m,h,e=>by
   have h':(a.pV b&&eN l m)=ah:=h;rw[aG]at h';have e':a.code++a7 l=b.code++a7 m:=by
    have:1::(a.code++a7 l)=1::(b.code++a7 m):=by rw[show (1::(a.code++a7 l))=a7 (a::l) by simp[a7],show (1::(b.code++a7 m))=a7 (b::m) by simp[a7]];show e
    show(List.cons.inj this).2
   have ab:a=b:=by
    by_cases c:a=b
    .show c
    .have x1:=HT.aS.app (a7 l) (a7 m) h'.1 c;have x2:=HT.aS.app (a7 m) (a7 l) (Ju h'.1) (λz=>c z.symm);rw[e',HT.jC]at x1;rw[<-e',HT.jC]at x2;show T1 h'.1 x1.symm x2.symm
   subst ab;rw[AR h'.2 (List.append_cancel_left e')]
theorem AS {β:Type}{f:α->β}{l n:List β}(h:l.Perm n):∀ {m:List α},n=m.map f->∃ m':List α,l=m'.map f /\ m'.Perm m:=by
 induction h with
 |nil=>intro m e;cases m with|nil=>show⟨[],rfl,.nil⟩|cons _ _=>cases e
 |cons x _ ih=>
   intro m e;cases m with
   |nil=>cases e
   |cons a m=>
     rw[aO]at e;let#[e1,e2]:=List.cons.inj e;let#[m',q1,q2]:=ih e2;show#[a::m',by rw[aO,<-q1,e1],q2.cons a]
 |swap x y l=>
   intro m e;match m,e with
   |a::b::m,e=>
     rw[aO,aO]at e;let#[e1,e2]:=List.cons.inj e;let#[e2,e3]:=List.cons.inj e2;show#[b::a::m,by rw[aO,aO,<-e1,<-e2,<-e3],.swap ..]
 |trans _ _ Yz YA=>
   intro m e;let#[m2,q1,q2]:=YA e;let#[m1,q3,q4]:=Yz q1;show#[m1,q3,q4.trans q2]
def wj (rs:List (List aS)):Bool:=rs.all λa=>rs.all λb=>eN a b
theorem o7 {rs a:List (List aS)}(hl:wj rs=ah) (p:a.Perm rs) (ha:a.Pairwise (λa b=>lexLt (a7 b) (a7 a)=af)):a=pw rs:=by
 have lk:∀ x∈rs,∀ y∈rs,eN x y=ah:=λx mx y my=>c5.mp (c5.mp hl x mx) y my;refine(p.trans (iG rs).symm).eq_of_pairwise (λx y mx my h1 h2=>AR (lk x (p.mem_iff.mp mx) y ((iG rs).mem_iff.mp my)) (HT.iY _ _ h2 h1)) ha (iD rs)
section
variable {s:aq}
theorem VM (I:Inv X pins σ H s) (sub:Sub F H) {a:aS}(h:Den F (kX a) v) (r:RelV v u):HT.ny s.heap u a:=by
 cases a with
 |i n=>cases (show v=.int n from h);show r
 |s x=>cases (show v=.str x from h);show r
theorem Fk (I:Inv X pins σ H s) (sub:Sub F H):∀ {l:List aS}{vs:List V}{us:List ai},aE F (l.map kX) vs->Vals vs us->HT.eO s.heap us l:=by
 intro l_;induction l_ with
 |nil=>(intro _ _ h r;cases (show _=[] from h);cases r;show .nil)
 |cons a l az=>
   intro _ _ h r;let#[v,t,rfl,h1,h2]:=h;cases r with
   |cons r1 r2=>show .cons (VM I sub h1 r1) (az h2 r2)
theorem OU:∀ {rs:List (List aS)}{vs:List V},aE F (rs.map eA) vs->∃ ps:List (aj×List aS),vs=ps.map (λp=>V.ref p.1) /\ rs=ps.map (·.2) /\ ∀ p∈ps,Den F (eA p.2) (.ref p.1):=by
 intro l_;induction l_ with
 |nil=>(intro _ h;show#[[],h,rfl,λp m=>nomatch m])
 |cons r rs az=>
   intro _ h;let#[v,t,rfl,h1,h2]:=h;let#[ps,e1,e2,e3]:=az h2;let#[a,ws,rfl,h3,h4]:=id h1;refine#[(a,r)::ps,by rw[e1];rfl,by rw[e2];rfl,λp m=>?_];rcases bz.mp m with rfl|m
   .show h1
   .show e3 p m
theorem L5:∀ {ps:List (aj×List aS)},(∀ p∈ps,Den F (eA p.2) (.ref p.1))->aE F ((ps.map (·.2)).map eA) (ps.map λp=>V.ref p.1):=by
 intro l_;induction l_ with
 |nil=>show λ_=>rfl
 |cons p ps az=>show λh=>.cons (h p (bE ..)) (az λq m=>h q (bB _ m))
end
def YB (K:PySem.W.Frag) (vs:List V) (H:Hp) (Q:VK):zu:=∃ (F:Hp) (p:aj) (xs:List V) (rs:List (List aS)),vs=[.ref p] /\ Sub F H /\ bX K H p xs /\ aE F (rs.map eA) xs /\ (∀ r∈rs,∃ n l,r=.i n::l) /\ rs.length<64 /\ wj rs=ah /\
 ∀ (q:aj) (ys:List V),H q=ag->aE F ((pw rs).map eA) ys->Q (.ref q) (upd H q (.lst ys))
theorem Fl (hu:X.A.units+100<cLine):eF X (.builtin "sorted") (YB X.K):=by
 intro pins s σ H xs us Q I rv h;let#[F,p,vs,rs,rfl,sub,hp,hd,hf,dZ,adK,q]:=h;let#[u,rfl,ru]:=Vals.one rv;cases ru;let#[its,r1,p1,z1]:=I.list hp;let#[ps,e1,e2,e3]:=OU hd;subst e1;have ei:its=ps.map λp=>Value.ref p.1:=by
  have:=C4 (rs:=ps.map (·.1)) (us:=its) (by rw[bO];show r1);rw[this,bO];rfl
 subst ei;have row:∀ p∈ps,HT.uq rs s.heap (.ref p.1) (a7 p.2):=λp m=>by
  have d:=e3 p m;have mr:p.2∈rs:=by rw[e2];show bA.mpr #[p,m,rfl]
  let#[n,l,el]:=hf _ mr;let#[b,ws,eb,h3,h4]:=d;cases eb;let#[us,r',pl,_]:=I.tuple (.of (sub _ _ h3));rw[el]at h4 mr;show#[p.1,us,n,l,rfl,pl,Fk I sub h4 r',mr,by rw[el]]
 have HH:∀ v∈ps.map (λp=>Value.ref p.1),∃ ns,HT.uq rs s.heap v ns:=λv m=>by
  let#[r,mr,rfl]:=bA.mp m;show#[_,row r mr]
 have lk:∀ x∈rs,∀ y∈rs,eN x y=ah:=λx mx y my=>c5.mp (c5.mp adK x mx) y my;have ln:ps.length=rs.length:=by rw[e2,a6]
 refine HT.Jr (HT.b9 rs) p1.isList HH (U:=X.A.units+8) (aD _) (λne=>HT.Js lk zd HH ne) (by rw[a6,ln];show dZ) λout o1 o2=>?_;let#[qy,q1,q2]:=AS o1 zc;let#[k,he]:=abH s.heap (ps.map λp=>Value.ref p.1) out;have uY:H zx=ag:=I.aC.fresh (qb _);have ord:(qy.map (·.2)).Pairwise (λa b=>lexLt (a7 b) (a7 a)=af):=by
  unfold HT.wg at o2;rw[q1,tM]at o2;rw[tM];show afh (λ{a b} ma mb r=>r _ _ (row a (q2.mem_iff.mp ma)) (row b (q2.mem_iff.mp mb))) o2
 have so:qy.map (·.2)=pw rs:=o7 adK (by rw[e2];show q2.map _) ord;have ll:(qy.map λp=>V.ref p.1).length<=sizeLine:=by
  rw[a6,q2.length_eq,ln];show cC (nR dZ) ze
 refine#[.ref zx,_,I.laid (t':=s.toks) (o:=.lst (qy.map λp=>V.ref p.1)) (λb ob q=>abI q) (qb _) ?_,rfl,q _ _ uY (by rw[<-so];show L5 λp m=>e3 p (q2.mem_iff.mp m))];refine#[ll,out.toList,k,?_,he];rw[q1];have:∀ l:List (aj×List aS),Vals (l.map λp=>V.ref p.1) (l.map λp=>Value.ref p.1):=λl=>by
  induction l with
  |nil=>show .nil
  |cons a l ih=>show .cons zc ih
 show this qy
def dQ:List D->Option Res:=λxs=>match u7 xs with
 |some r=>ae r
 | none=>match xs with
   |[.lst l]=>(rowsOf l).bind λrs=>if rs.length<64 /\ wj rs=ah then ae (.lst ((pw rs).map eA)) else ag
   |_=>ag
theorem Fm (hu:X.A.units+100<cLine):eF X (.builtin "sorted") (λvs H Q=>IJ X.K vs H Q \/ YB X.K vs H Q):=λpins s σ H xs us Q I rv h=>h.elim (Jg pins s σ H xs us Q I rv) (Fl hu pins s σ H xs us Q I rv)
theorem ahu:kF (λvs H Q=>IJ K vs H Q \/ YB K vs H Q) dQ:=by
 intro F H xs vs Q s sub rx e k;unfold dQ at e;cases er:u7 xs with
 |some r=>
   rw[er]at e;cases e;show .inl (agX F H xs vs Q s sub rx er k)
 |none=>
   rw[er]at e;dsimp only at e;clear er;split at e
   .ext l;cases e1:rowsOf l with
    |none=>rw[e1]at e;cases e
    |some rs=>
      rw[e1]at e;erw[cb]at e;split at e
      .ext hc;cases e;let#[v,t,rfl,#[a,us,rfl,h1,h2],rt]:=rx;cases (show t=[] from rt);let#[b1,b2]:=Jt e1;subst b1;show .inr #[F,a,us,rs,rfl,sub,.of h1,h2,b2,hc.1,hc.2,λq ys hq hy=>k _ _ #[q,ys,rfl,hq,rfl,hy]]
      .cases e
   .cases e
end L2.DL
namespace L2
theorem Gh {src:List zaI}{elt:au}{scope:bW}{vb:aL}{wi:TI}{g:TG}{tf:TT}{te:TE}{ii:Nat} 
 (hc:X.calm=ah) (S:qY X N src scope) (hi:PI X tg iter wi)
 (hg:∀ cl s H C fp,PG zH tg g) (hf:∀ cl s H C fp,PF zH ifs tf) (he:∀ cl s H C fp,PE zH elt te)
 (hN:X.N.Nodup) (rK:X.N[ii]?=ae x) (hx:Loc X.env.scope x) (EE:swapsWith zw (ae (.Name x pos')) vb.line X.env=pure ah)
 (EF:X.fn x=ah \/ X.env.scope.names.lookup x=ae .local)
 (hs:∀ x,foldedSetIterable iter X.env x=pure x:=by intro _;rfl):PS X (.Assign [.Name x pos'] zw vb) (HV (Iu src wi g tf te) (XF ii)):=by
 intro pins s σ H Dn I h;rw[exec_Assign_Name_used _ _ _ _ EE];refine ak (E6 (ak ?_))
 change wpAny _ X.A (do let _ <-comprehension zw scope X.env _ (newList []) af (eval iter X.env) (ae (assign (.Name x pos') X.env))) _ _ s
 refine ak (k7 (aaE (use:=ae (assign (.Name x pos') X.env)) (Q:=λ_ s'=>SP X pins Dn .next s') rfl hs (AD (S.cells I.ok)) S.kind S.names (cq (hi pins s σ H _ I h) λxv s1 h1=>cq h1 λHX s2 h2=>?_)) (λ_ s' hq=>ay (ay hq)) λ_ _ q=>q);let#[it,fp,tn,J,H2,e,I2,T,vO,f2,hW]:=h2;subst e;refine eR ?_;generalize hD:s2.heap.objs.size=D;have X7:H2 D=ag:=I2.aC.fresh (wW hD);have I3:Inv X pins σ (upd H2 D (.lst [])) { s2 with heap:=s2.heap.push { cls:=.type "list",dict:=ag,data:=.seq ([]:List ai).toArray } }:=by
  subst hD;show I2.laid (t':=s2.toks) (λb u e=>aX _ e) (aD _) #[eS _,[],0,.nil,bF _ zc]
 let#[W,#[m0,w0],turn]:=hW D X7;have up:∀ b o,s2.heap.get? b=ae o->(s2.heap.push { cls:=.type "list",dict:=ag,data:=.seq ([]:List ai).toArray }).get? b=ae o:=λb u e=>aX _ e;have X8:=T.obj _ _ vO;have uR:tn 0 (s2.heap.push { cls:=.type "list",dict:=ag,data:=.seq ([]:List ai).toArray }):=T.keep _ _ _ vO λb _ o e=>up b o e;have Ed:∀ b∈fp,b<s2.heap.objs.size:=λb hb=>by let#[o,e,_]:=X8 b hb;show bj e
 have f3:∀ b∈fp,nW X pins (upd H2 D (.lst [])) b:=λb hb=>#[by rw[fB (by rw[<-hD];show cB (Ed b hb))];show(f2 b hb).1,(f2 b hb).2];generalize X9:({ s2 with heap:=s2.heap.push { cls:=.type "list",dict:=ag,data:=.seq ([]:List ai).toArray } }:aq)=s3 at I3 ⊢;have Ee:s3.heap=s2.heap.push { cls:=.type "list",dict:=ag,data:=.seq ([]:List ai).toArray }:=by rw[<-X9]
 rw[<-Ee]at uR;have Ya:∀ b∈fp,b<s3.heap.objs.size:=λb hb=>by rw[Ee,tQ];show qL (Ed b hb)
 generalize agp:upd H2 D (.lst [])=H3 at I3 f3 w0;refine AF ?_;generalize Ef:pushCells (s3.heap.push { cls:=.type "dict",data:=.dict #[] }) scope.names=h₁;have k1:∀ b o,s3.heap.get? b=ae o->h₁.get? b=ae o:=λb o e=>by rw[<-Ef];show E7 _ _ b o (aX _ e)
 have IY:=CQ S I3 (λb hb=>#[f3 b hb,Ya b hb]) (s':={ s3 with heap:=h₁ }) (by rw[Ef]);have Eg:tn 0 h₁:=T.keep _ _ _ uR λb _ o e=>k1 b o e;generalize xK:cellsFrom (s3.heap.objs.size+1) scope.names (eI X.env.cells scope.names [])=cl at IY ⊢;generalize hC:s3.heap.objs.size=C at IY ⊢;have vV:∀ {H':Hp},(∀ b∈fp,H' b=ag)->∀ b∈fp,nW zT [] H' b:=λhn b hb=>by
  refine#[hn b hb,?_,?_,.inl hb,?_,λp hp=>absurd (show p∈([]:List (aj×aY)) from hp) zi]
  .show(IY.ok.xw b hb).1
  .show IY.ok.xx b hb
  .intro x c e z;show(IY.ok.xw b hb).2 x c e z
 have fin:∀ (σ':St) (H':Hp) (s':aq),Inv zT [] σ' H' s'->∀ h',Heap.SameBut C s'.heap h'->Inv X pins σ H' { s' with heap:=h' }:=λσ' H' s' I' h' vW=>by
  have vX:H' C=ag:=I'.free;have kp:∀ b o,b≠C->s'.heap.get? b=ae o->h'.get? b=ae o:=λb o hb e=>vW.extBut b o hb e;have Yb:s3.heap.get? C=ag:=by rw[<-hC];show W0 (aD _)
  have qm:∀ b o,s3.heap.get? b=ae o->b≠C:=λb o e z=>by rw[z,Yb]at e;cases e
  have U:=I'.base;refine I3.acv (s':={ s' with heap:=h' }) (ch:=fp) I'.os #[λb o e n hb hx=>kp b o (qm b o e) (U.keep b o e n hb hx),λb o e n hb hx=>?_,U.free,λb o e hx=>?_,U.nV,U.pM,U.qT] ?_ I'.bare λb hb=>?_
  .let#[sl,e1]:=U.slot b o e n hb hx;show#[sl,kp b _ (qm b o e) e1]
  .let#[o',e1]:=U.there b o e hx;show#[o',kp b o' (qm b o e) e1]
  .intro b ob e;refine(I'.aC b ob e).stay (λc w' dH q=>kp c w' (λz=>?_) q) (λ_ q=>q) λ_ _ q=>q;rcases dH with z1|z1
   .rw[<-z1,z,vX]at e;cases e
   .rw[z,vX]at z1;cases z1
  .show#[(f3 b hb).2.2.2.1,(f3 b hb).2.1,λx c e=>(f3 b hb).2.2.2.2.1 x c e,(f3 b hb).2.2.2.2.2]
 have loop:∀ s4:aq,s4={ s3 with heap:=h₁ } ->
  codeAny zg X.A (.compLoop zw 0 zaQ (.ref D) (compEnvC scope cl C X.env)) (compPost zg X.A X.xe (ae (assign (.Name x pos') X.env)) (λ_ s'=>SP X pins Dn .next s') (.ref D) C) s4:=by
  rintro s4 rfl;refine mR (λn s'=>∃ i σ' H',Inv zT [] σ' H' s' /\ tn i s'.heap /\ (∀ b∈fp,H' b=ag) /\ W i n σ' H') _ (λ_ _ _ q=>q) ?_ m0 #[0,_,H3,IY,Eg,λb hb=>(f3 b hb).1,w0];rintro n s5 ⟨i,σ5,H5,I5,tW,vP,w5⟩;have nK:∀ {α:Type}{t:Sem α}{Q1:α->aq->zu}{E1:ai->aq->zu}{ss:aq},wpAny zg X.A t Q1 (λ_ _=>False) ss->wpAny zg X.A t Q1 E1 ss:=λhw=>k7 hw (λ_ _ q=>q) λ_ _ z=>False.elim z;rcases turn i n σ5 H5 w5 with⟨stop,q5⟩|⟨go,NN,hN,step⟩
  .refine nK (cq (T.done (X.comp N scope cl s3 H3 C fp) zc zc zc hc i [] s5 σ5 H5 (λ_ _=>False) I5 (vV vP) tW stop) ?_);rintro r s6 ⟨hr,I6⟩;subst hr;let#[m6,Yc,_]:=I6.loc;have IX:Inv X pins σ H5 s6:=fin σ5 H5 s6 I6 s6.heap (Heap.SameBut.refl ..)
   change wpAny _ X.A (assign (.Name x pos') X.env (.ref D)) _ _ s6
   refine aas (Bv (v:=.ref D) IX hN rK hx zc (λs7 I7 ⟨a,sb,ha⟩=>?_) EF);have ahv:C≠a:=λz=>by
    rcases ha with w1|w1
    .have l1:X.env.locals<s3.heap.objs.size:=I3.lt;rw[<-w1,<-z,<-hC]at l1;show kC _ l1
    .let#[v1,o1,w2,_]:=I3.cell x a w1;have l1:=bj w2;rw[<-z,<-hC]at l1;show kC _ l1
   refine#[m6,Yc.sameBut sb ahv,λh' vW=>?_];have vX:H5 C=ag:=I6.free;refine#[σ.set ii (ae (.ref D)),H5,?_,q5];have ahw:X.env.locals≠C:=λz=>by have l1:=I3.lt;rw[z,<-hC]at l1;show kC _ l1
   refine I7.turned (t':=s7.toks) (it:=C) (λb o hb e=>vW.extBut b o hb e) vX (Ne.symm ahw) (.inr ?_) (λy c e z=>?_) (λp hp z=>?_)
   .rw[<-hC];show I3.sz
   .let#[v1,o1,w2,_]:=I3.cell y c e;have l1:=bj w2;rw[z,<-hC]at l1;show kC _ l1
   .have l1:=bj (I3.pin p hp).1;rw[z,<-hC]at l1;show kC _ l1
  .refine nK (cq (T.item zT zc zc zc hc i [] s5 σ5 H5 (λ_ _=>False) I5 (vV vP) tW go) ?_);rintro r s6 ⟨u,hr,h6⟩;subst hr;refine nK (cq h6 ?_);rintro _ s7 ⟨x,H7,I7,r7,y7,vY,Yd⟩;have Ye:=I7.pinned (vV Yd) (T.obj _ _ vY);refine nK (cq (hg cl s3 H3 C fp _ s7 σ5 H7 x u _ Ye r7 (step x H7 y7)) ?_);rintro _ s8 ⟨σ8,H8,I8,q8⟩;refine nK (tT (hf cl s3 H3 C fp _ s8 σ8 H8 _ I8 q8) λb s9 H9 I9 q9=>?_);have again:∀ {σ9:St}{HA:Hp}{sA:aq},Inv zT ([]++xD fp s7.heap) σ9 HA sA->NN σ9 HA->∃ m,m<n /\ ∃ i σ' H',Inv zT [] σ' H' sA /\ tn i sA.heap /\ (∀ b∈fp,H' b=ag) /\ W i m σ' H':=λ{σ9 HA sA} IA nA=>by
    let#[m',hm,wA]:=hN σ9 HA nA;refine#[m',hm,i+1,σ9,HA,IA.yX,T.keep _ _ _ vY λb hb o e=>(IA.pin (b,o) (kg _ (kg _ (ir hb e)))).1,λb hb=>?_,wA];let#[o,e,d]:=T.obj _ _ vY b hb;show(IA.pin (b,o) (kg _ (kg _ (ir hb e)))).2.1
   cases b with
   |false=>
     rw[if_neg ze]at q9;rw[if_neg ze];show again I9 q9
   |true=>
     rw[if_pos rfl]at q9;rw[if_pos rfl];refine nK (tE (he cl s3 H3 C fp _ s9 σ8 H9 _ I9 q9) λyv sA y HA IA rA hh=>?_);let#[ys,Yf,Yg,nA]:=hh;refine nK (cq (oB _ sA σ8 HA (.ref D) [y] (.ref D) [yv] (λ_ HB=>NN σ8 HB) IA zc (.cons rA .nil) #[D,ys,y,rfl,rfl,Yf,Yg,nA]) λr sB hB=>?_);let#[_,HB,IB,_,nB]:=hB;show again IB nB
 show aaF (loop _ zc) (T.self _ 0 _ _ _ Eg (loop _ zc))
end L2
namespace L2.DL
section
variable {src:List (Option Nat)} {elt:au} {scope:bW} {vb:aL} {g:DG} 
theorem L6 (i:Nat) (bo:Bool) (hc:X.calm=ah) (S:qY X N src scope) (hi:ud X T Z tg iter mi)
 (hg:∀ T cl s H C fp,kS zH T tg g) (hf:∀ T cl s H C fp,PF zH ifs (sN T #[E0,Z.cl] tf)) (he:∀ T cl s H C fp,PD zH T #[E0,Z.cl] elt te)
 (hN:X.N.Nodup) (rK:X.N[i]?=ae x:=by rfl) (hx:Loc X.env.scope x:=by first|show Or.inl zc|show Or.inr zc) (EE:swapsWith zw (ae (.Name x pos')) vb.line X.env=pure ah:=by rfl)
 (EF:X.fn x=ah \/ X.env.scope.names.lookup x=ae .local:=by first|show .inl zc|show .inr zc|assumption)
 (hs:∀ x,foldedSetIterable iter X.env x=pure x:=by intro _;rfl):cM X T Z (.Assign [.Name x pos'] zw vb) (fC (fQ bo src mi g tf te) (fe i)):=by
 refine PS.imp (Gh (src:=src) (g:=xR g) (tf:=xS #[E0,Z.cl] tf) (te:=xT #[E0,Z.cl] te) hc S hi (λcl s H C fp pins s' σ' H' v u Q I rv ⟨T,q⟩=>hg T cl s H C fp pins s' σ' H' v u Q I rv q)
  (λcl s H C fp pins s' σ' H' Q I ⟨T,q⟩=>hf T cl s H C fp pins s' σ' H' Q I q) (λcl s H C fp pins s' σ' H' Q I ⟨T,q⟩=>he T cl s H C fp pins s' σ' H' Q I q) hN rK hx EE EF hs) λD σ H=>x4 λF r env bx R h=>?_
 refine LJ (T:=T) (Z:=Z) (bo:=bo) (mi:=mi) (g:=g) (tf:=tf) (te:=te) (Q:=λv H1=>D.nx (σ.set i (ae v)) H1) #[F,r,env,bx,R,End.bC h λw bx1 F1 r1 v H1 g1 R1 d1 h1=>h1 F1 r1 _ H1 zS (R1.set d1 i)]
end
noncomputable def bU:au->Bool
 |.Starred _ _=>af
 |_=>ah
def pz:List au->Bool
 |[]=>ah
 |e::es=>bU e&&pz es
theorem fI (h:bU e=ah) (es:List au) (env:Env):starEach (e::es) env=(af,eval e env)::starEach es env:=by
 cases e<;>first|rfl|cases h
theorem lw {env:Env}:∀ {es:List au},pz es=ah->(backTo pos (starEach es env)).any (·.1)=af:=by
 intro l_;induction l_ with
 |nil=>show λ_=>rfl
 |cons e es az=>
   intro h;have h':(bU e&&pz es)=ah:=h;rw[aG]at h';rw[fI h'.1];change (af||(backTo pos (starEach es env)).any (·.1))=af;rw[az h'.2];rfl
theorem iy (h:pz (e::es)=ah):bU e=ah /\ pz es=ah:=by
 have h':(bU e&&pz es)=ah:=h
 rwa [aG]at h'
theorem ly (h:bU e=ah) (es:List au) (env:Env):assignEach (e::es) env=(af,assign e env)::assignEach es env:=by
 cases e<;>first|rfl|cases h
theorem AT {env:Env}:∀ {es:List au},pz es=ah->(assignEach es env).length=es.length /\ (assignEach es env).findIdx? (·.1)=ag:=by
 intro l_;induction l_ with
 |nil=>show λ_=>#[rfl,rfl]
 |cons e es az=>
   intro h;let#[h1,h2]:=iy h;let#[a,b]:=az h2;rw[ly h1];show#[by rw[bw,bw,a],by rw[List.findIdx?_cons,b];rfl]
section
variable {a b c:au} {mc:DE W} {p p1:aL} {k k' nn:Nat} {ps:List Str} {m:DE (List W)}
theorem mY (ha:PD X T Z e ma) (hr:dJ X T Z es m) (hn:bU e=ah:=by rfl):dJ X T Z (e::es) (fc ma m):=Lu ha hr (fI hn es X.env)
theorem VN {id:String}{q:List V->Hp->VK->zu}{g:List D->Option Res}(bo:Bool) (hc:eF X (.builtin id) q) (hk:kF q g) (hg:Gl X x) (hm:X.mg x=ag) (hv:bootBuiltins x=ae (.builtin id)) (ha:dJ X T Z (e::es) m)
 (eG:pz (e::es)=ah:=by rfl) (hn:x ≠ "__name__":=by decide) (dI:(x==("__debug__":Str))=af:=by decide):PD X T Z zY (dN bo g m):=
 Lz bo hc hk hg hm hv ha hn dI (fI (iy eG).1 es X.env) (lw (iy eG).2)
theorem T3 {id:String}{q:List V->Hp->VK->zu}{g:List D->Option Res}(bo:Bool) (hc:eF X (.type id) q) (hk:kF q g) (hg:Gl X x) (hm:X.mg x=ag) (hv:bootBuiltins x=ae (.type id)) (ha:dJ X T Z (e::es) m)
 (eG:pz (e::es)=ah:=by rfl) (hn:x ≠ "__name__":=by decide) (dI:(x==("__debug__":Str))=af:=by decide):PD X T Z zY (dN bo g m):=
 Ja bo hc hk hg hm hv ha hn dI (fI (iy eG).1 es X.env) (lw (iy eG).2)
theorem VO (h:rJ X.prog X.w X.K X.mg X.base Z.cl k x ps fn) (hr:di k' X.A) (hk:k<=k') (hg:Gl X x) (hx:Passes (qr X.prog X.w) X Z.E) (ha:dJ X T Z (e::es) m)
 (eG:pz (e::es)=ah:=by rfl) (hn:ps.length=nn:=by rfl) (dI:(x==("__debug__":Str))=af:=by decide):PD X T Z zY (fq fn nn m):=
 T0 h hr hk hg hx ha dI (fI (iy eG).1 es X.env) (lw (iy eG).2) hn
theorem VP {n:String}(hT:pS X.K n) (hg:Gl X "isinstance") (hm:X.mg "isinstance"=ag) (v3:Gl X x) (v7:X.mg x=ag) (hv:bootBuiltins x=ae (.type n)) (ha:PD X T Z a ma) (hs:bU a=ah:=by rfl)
 (hn:x ≠ "__name__":=by decide) (dI:(x==("__debug__":Str))=af:=by decide):PD X T Z (.Call (.Name "isinstance" p) [a,.Name x p1] [] pos) (ls n ma):=
 Oy hT hg hm v3 v7 hv ha hn dI (fI hs _ X.env) (fI zc _ X.env) (lw zc)
theorem T4 {g:DG}{q:n8}(h1:kS X T e g) (h2:uc X T es q) (hn:bU e=ah:=by rfl):uc X T (e::es) (fr g q):=Jc h1 h2 (by rw[ly hn];rfl)
theorem VQ {q:n8}{i:Nat}(hc:X.calm=ah) (h:uc X T es q) (eG:pz es=ah:=by rfl) (hn:es.length=nn:=by rfl):kS X T (.Tuple es i pos) (fP nn q):=
 On hc h ((AT eG).1.trans hn) (AT eG).2
end
open PySem.W
section
variable {a b:au} {mc:DE W} {p np dX rp akd:aL} {body:List cj} {m k:aB} {n:Str} {c i:Nat} {R:aj}
noncomputable def dD:aB:=λ_ _=>.bad
theorem fW:cM X T Z st dD:=λ_ _ _ _ _ _ h=>by
 let#[_,_,_,_,_,h]:=h;show h.elim
end
section
variable {k:Nat} {ps:List Str} {m:aB} {nn kk:Nat}
end
section
variable {a:au} {p p2 ur:aL} {ta:TA} {ks:DE (List W)}
theorem OV {b:au}{y:Str}{px py pt:aL}{kt k2 nj}(i j:Nat) (hc:X.calm=ah) (hN:X.N.Nodup) (ha:dJ X T Z [a,b] ks) (hi:X.N[i]?=ae x:=by rfl) (hj:X.N[j]?=ae y:=by rfl) (yV:i≠j:=by decide)
 (hx:X.env.scope.names.lookup x=ae .local:=by rfl) (hy:X.env.scope.names.lookup y=ae .local:=by rfl)
 (hw:swappedStores [.Tuple [.Name x px,.Name y py] kt pt] (.Tuple [a,b] k2 nj) X.env=pure (ae [x,y]):=by rfl)
 (hs:swapsWithSole [.Tuple [.Name x px,.Name y py] kt pt] (.Tuple [a,b] k2 nj) pos.line X.env=pure af:=by rfl) :
 cM X T Z zav (ku i j ks):=
 PS.imp (SV hc hN hi hj yV hx hy ha hw hs) λD σ H h=>VC h
end
noncomputable def wm:D->V
 |.non=>.non
 |.bl b=>.bl b
 |.int i=>.int i
 |.str x=>.str x
 |_=>.ty ""
noncomputable def kY:D->Bool
 |.non=>ah
 |.bl _=>ah
 |.int _=>ah
 |.str _=>ah
 |_=>af
def Ka (a b:D):Bool:=sJ (wm a) (wm b)
theorem AU {d:D}(f:kY d=ah) (h:Den F d v):v=wm d /\ sI v=ah:=by
 cases d with
 |non=>cases (show v=.non from h);show#[rfl,rfl]
 |bl b=>cases (show v=.bl b from h);show#[rfl,rfl]
 |int i=>cases (show v=.int i from h);show#[rfl,rfl]
 |str x=>cases (show v=.str x from h);show#[rfl,rfl]
 |_=>cases f
theorem BJ:∀ {l:List D}{vs:List V},l.all kY=ah->aE F l vs->vs=l.map wm /\ vs.all sI=ah:=by
 intro l_;induction l_ with
 |nil=>(intro _ _ h;cases (show _=[] from h);show#[rfl,rfl])
 |cons d l az=>
   intro _ f h;let#[v,r,e,h1,h2]:=h;subst e;rw[tK,aG]at f;let#[e1,f1]:=AU f.1 h1;let#[e2,f2]:=az f.2 h2;subst e1;subst e2;show#[rfl,by rw[tK,f1,f2];rfl]
def kZ (x:D) (l:List D):Bool:=l.any λy=>Ka y x
theorem Gi (x:D) (l:List D):Im (wm x) (l.map wm)=kZ x l:=by
 unfold Im kZ;rw[yK];rfl
def Kb (neg:Bool):D->D->Option Res:=λx y=>match y with
 |.lst l=>if kY x=ah /\ l.all kY=ah then ae (.old (.bl (if neg then !kZ x l else kZ x l))) else ag
 |.tup l=>if kY x=ah /\ l.all kY=ah then ae (.old (.bl (if neg then !kZ x l else kZ x l))) else ag
 |_=>ag
theorem adL (neg:Bool):cD (Io K neg) (Kb neg):=by
 intro F H x y v w Q s sub hx hy e k;unfold Kb at e;have fx:∀ {d:D},kY d=ah->nZ F H d v->Den F d v:=λ{d} f h=>by
  cases d with
  |non=>show h
  |bl b=>show h
  |int i=>show h
  |str z=>show h
  |_=>cases f
 cases y with
 |lst l=>
   simp only at e;split at e
   .ext f;cases e;let#[a,vs,rfl,h1,h2]:=hy;let#[e1,f1]:=AU f.1 (fx f.1 hx);let#[e2,f2]:=BJ f.2 h2;subst e1;subst e2;refine#[a,_,rfl,.inl (bX.of h1),f1,f2,?_];rw[Gi];show k _ _ #[rfl,rfl]
   .cases e
 |tup l=>
   simp only at e;split at e
   .ext f;cases e;let#[a,vs,rfl,h1,h2]:=hy;let#[e1,f1]:=AU f.1 (fx f.1 hx);let#[e2,f2]:=BJ f.2 h2;subst e1;subst e2;refine#[a,_,rfl,.inr (cQ.of (sub _ _ h1)),f1,f2,?_];rw[Gi];show k _ _ #[rfl,rfl]
   .cases e
 |_=>cases e
def Kc (neg:Bool):R2:=λx y H Q=>∃ F dx dy,Sub F H /\ nZ F H dx x /\ nZ F H dy y /\ kz dx=ah /\ kz dy=ah /\ ∃ l,(dy=.lst l \/ dy=.tup l) /\ Q (.bl (if neg then !(l.any λz=>eqv z dx) else l.any λz=>eqv z dx)) H
theorem lS (dx:D):∀ l:List D,((bJ l).any λy=>PyData.eqv y (toPy dx))=l.any λz=>eqv z dx:=by
 intro l_;induction l_ with
 |nil=>show rfl
 |cons z l az=>
   change (PyData.eqv (toPy z) (toPy dx)||_)=_;rw[az];rfl
theorem T5 (hu:X.A.units+100<cLine):bp X (compareOp .In) (Kc af):=by
 intro pins s σ H x y v u Q I rx ry h;let#[F,dx,dy,sub,hx,hy,ox,oy,l,hl,q]:=h;let#[as,ra]:=iX I sub hx rx;let#[bs,rb]:=iX I sub hy ry;let#[x1,x2]:=mj ox;let#[y1,y2]:=mj oy;rcases hl with rfl|rfl
 .show SeqAt.in_list_reads rb ra y1 x1 zd (by rw[lS];show#[.bl _,H,I,rfl,q])
 .show SeqAt.in_tuple_reads rb ra y1 x1 zd (by rw[lS];show#[.bl _,H,I,rfl,q])
theorem Jv (hu:X.A.units+100<cLine):bp X (compareOp .NotIn) (Kc ah):=by
 intro pins s σ H x y v u Q I rx ry h;let#[F,dx,dy,sub,hx,hy,ox,oy,l,hl,q]:=h;let#[as,ra]:=iX I sub hx rx;let#[bs,rb]:=iX I sub hy ry;let#[x1,x2]:=mj ox;let#[y1,y2]:=mj oy;rcases hl with rfl|rfl
 .show SeqAt.notIn_list_reads rb ra y1 x1 zd (by rw[lS];show#[.bl _,H,I,rfl,q])
 .show SeqAt.notIn_tuple_reads rb ra y1 x1 zd (by rw[lS];show#[.bl _,H,I,rfl,q])
def wo (neg:Bool) (x y:D) (l:List D):Option Res:=if kz x&&kz y then ae (.old (.bl (if neg then !(l.any λz=>eqv z x) else l.any λz=>eqv z x))) else ag
def inD (neg:Bool):D->D->Option Res:=λx y=>match y with
 |.lst l=>if kY x=ah /\ l.all kY=ah then ae (.old (.bl (if neg then !kZ x l else kZ x l))) else wo neg x y l
 |.tup l=>if kY x=ah /\ l.all kY=ah then ae (.old (.bl (if neg then !kZ x l else kZ x l))) else wo neg x y l
 |_=>ag
theorem okIn (neg:Bool):cD (λx y H Q=>Io K neg x y H Q \/ Kc neg x y H Q) (inD neg):=by
 intro F H x y v w Q s sub hx hy e k;have g:∀ l,(y=.lst l \/ y=.tup l)->wo neg x y l=ae s->Kc neg v w H Q:=λl hl e=>by
  unfold wo at e;split at e
  .ext c;rw[aG]at c;cases e;show#[F,x,y,sub,hx,hy,c.1,c.2,l,hl,k _ _ #[rfl,rfl]]
  .cases e
 unfold inD at e;split at e
 .ext l;split at e
  .ext f;show .inl (adL neg F H x zaZ v w Q s sub hx hy (by unfold Kb;simp only;rw[if_pos f];show e) k)
  .show .inr (g l (.inl zc) e)
 .ext l;split at e
  .ext f;show .inl (adL neg F H x (.tup l) v w Q s sub hx hy (by unfold Kb;simp only;rw[if_pos f];show e) k)
  .show .inr (g l (.inr zc) e)
 .cases e
noncomputable def intD:List D->Option Res:=λxs=>match xs with
 |[.int i]=>ae (.old (.int i))
 |[.bl b]=>ae (.old (.int (if b then 1 else 0)))
 |_=>ag
theorem ahx:kF (λxs H Q=>(∃ i,xs=[.int i] /\ Q (.int i) H) \/ ∃ k,xs=[.bl k] /\ Q (.int (if k then 1 else 0)) H) intD:=by
 intro F H xs vs Q s sub rx e k;unfold intD at e;split at e
 .cases e;let#[v,t,rfl,hv,rt]:=rx;cases (show t=[] from rt);cases (show v=.int _ from hv);show .inl #[_,rfl,k _ _ #[rfl,rfl]]
 .cases e;let#[v,t,rfl,hv,rt]:=rx;cases (show t=[] from rt);cases (show v=.bl _ from hv);show .inr #[_,rfl,k _ _ #[rfl,rfl]]
 .cases e
section
variable {a b o:au} {mc:DE W} {p:aL}
def wq (m k:DE W):DE W:=λenv bx=>fA zC λx bx1=>match x with
 | .b n=>(match bx1[n]? with
   | some (.lst _)=>fA (k env bx1) λy bx2=>(match y,bx2[n]? with
     | .d (.int i),ae (.lst l)=>if -(2 ^ 63)<=i /\ i<2 ^ 63 then (match bQ l.length i with
       |some j=>(match l[j]? with|some d=>.val (.d d) (bx2.set n (.lst (l.eraseIdx j)))|none=>.bad)
       |none=>.bad) else .bad
     |_,_=>.bad)
   |_=>.bad)
 |_=>.bad
theorem OW {Q:VK}(h:tD T Z (wq ma mb) σ H Q):Ip X.K "list" acZ (tD T Z ma) (Ig (tD T Z mb) Ie) σ H Q:=by
 let#[F,r,env,bx,R,h]:=h;refine#[F,r,env,bx,R,End.bind h λx bx1 F1 r1 v H1 g1 R1 d1 h1=>?_];cases x with
 |b n=>
   simp only at h1;let#[a,rfl,ha]:=d1;let#[c,hc,kc]:=R1.eU ha;rw[hc]at h1;cases c with
   |lst l0=>
     let#[_,sQ,k0,_]:=kc;refine#[.inl #[rfl,sQ,bX.of k0],F1,r1,env,bx1,R1,End.bind h1 λy bx2 F2 r2 u H2 g2 R2 d2 h2=>?_];let#[t,et]:=g2.p;have rC:r2[n]?=ae a:=by rw[<-et,eD (List.getElem?_eq_some_iff.mp ha).1];show ha
     let#[c2,eT,rD]:=R2.eU rC;rw[eT]at h2;split at h2
     .ext i l eq;cases eq;let#[hF,vs,k1,k2]:=rD;cases (show u=.int i from d2);split at h2
      .ext hi;split at h2
       .ext j hj;split at h2
        .ext d hd;let#[y,hy,dy]:=k2.get hd;refine#[a,vs,i,j,y,rfl,rfl,k1,hi.1,hi.2,?_,hy,?_]
         .rw[<-k2.length];show(B3 hj).1
         .show h2 F2 r2 _ _ (.refl F2 r2) (R2.write rC hF #[hF,vs.eraseIdx j,fw,k2.eraseIdx j]) dy
        .show h2.elim
       .show h2.elim
      .show h2.elim
     .show h2.elim
   |_=>show h1.elim
 |_=>show h1.elim
theorem L7 (ho:PD X T Z o ma) (ha:PD X T Z e mb) (eG:bU e=ah:=by rfl)
 (vS:attributeBase o "pop" X.env (eval o X.env)=eval o X.env:=by rfl)
 (vT:((backTo pos (starEach [e] X.env)).all (λx=>!x.1)&&(backToKw pos (keywordEach [] X.env)).all (λx=>x.1.isSome)
  && decide zaf)=ah:=by rfl)
 (vU:(apos.endLine==pos.line)=ah:=by rfl):PD X T Z (.Call (.Attribute o "pop" apos) [e] [] pos) (wq ma mb):=
 PE.imp (Lo Xt PySem.F.slot_list_pop PySem.F.type_list_pop Lp ho (jg ha lh (fI eG [] X.env)) vS vT vU (fI eG [] X.env) (by rfl)) λσ H Q h=>OW h
noncomputable def nz:D->Option Key
 |.int i=>ae (.inl i)
 |.str x=>ae (.inr x)
 |_=>ag
theorem ji {d:D}{k:Key}(e:nz d=ae k) (h:Den F d v):v=kV k:=by
 cases d with
 |int i=>cases e;show h
 |str x=>cases e;show h
 |_=>cases e
noncomputable def c7 (l:List (Key×D)) (k:Key):Option D:=(l.find? λkv=>decide (kv.1=k)).map (·.2)
noncomputable def EG (l:List (Key×D)) (k:Key) (d:D):List (Key×D):=
 if (l.any λkv=>decide (kv.1=k))=ah then l.map (λkv=>if kv.1=k then (kv.1,d) else kv) else l++[(k,d)]
theorem aR.some {F:Hp}{k:Key}{d:D}:∀ {l:List (Key×D)}{vs:List (Key×V)},aR F l vs->c7 l k=ae d->∃ v,eu vs k=ae v /\ Den F d v
 |[],_,_,e=>by cases e
 | (k',d')::l,_,⟨v,r,e,h1,h2⟩,q=>by
   subst e;by_cases c:k'=k
   .erw[c7,ng,c,decide_true,nG]at q;cases q;show#[v,jA c,h1]
   .erw[c7,ng,c,decide_false]at q;let#[u,e1,e2]:=aR.some h2 q;show#[u,(iZ c).trans e1,e2]
theorem aR.none {F:Hp}{k:Key}:∀ {l:List (Key×D)}{vs:List (Key×V)},aR F l vs->c7 l k=ag->eu vs k=ag
 |[],_,h,_=>by cases (show _=[] from h);rfl
 | (k',d')::l,_,⟨v,r,e,h1,h2⟩,q=>by
   subst e;by_cases c:k'=k
   .erw[c7,ng,c,decide_true,nG]at q;cases q
   .erw[c7,ng,c,decide_false]at q;show(iZ c).trans (aR.none h2 q)
theorem aR.any {F:Hp}(k:Key):∀ {l:List (Key×D)}{vs:List (Key×V)},aR F l vs->(l.any λkv=>decide (kv.1=k))=(vs.any λkv=>decide (kv.1=k))
 |[],_,h=>by cases (show _=[] from h);rfl
 |(k',d')::l,_,⟨v,r,e,h1,h2⟩=>by subst e;erw[qi,aR.any k h2]
theorem aR.map {F:Hp}{k:Key}{d:D}{v:V}(hv:Den F d v):∀ {l:List (Key×D)}{vs:List (Key×V)},aR F l vs->aR F (l.map λkv=>if kv.1=k then (kv.1,d) else kv) (vs.map λkv=>if kv.1=k then (kv.1,v) else kv)
 |[],_,h=>by cases (show _=[] from h);show rfl
 | (k',d')::l,_,⟨u,r,e,h1,h2⟩=>by
   subst e;by_cases c:k'=k
   .erw[aO,c,if_true];show#[v,_,rfl,hv,aR.map hv h2]
   .erw[aO,c,if_false];show#[u,_,rfl,h1,aR.map hv h2]
theorem aR.app {F:Hp}{m:List (Key×D)}{us:List (Key×V)}(hm:aR F m us):∀ {l:List (Key×D)}{vs:List (Key×V)},aR F l vs->aR F (l++m) (vs++us)
 |[],_,h=>by cases (show _=[] from h);show hm
 |(k',d')::l,_,⟨u,r,e,h1,h2⟩=>by subst e;show#[u,_,rfl,h1,aR.app hm h2]
theorem aR.put {k:Key}{d:D}{l:List (Key×D)}{vs:List (Key×V)}(h:aR F l vs) (hv:Den F d v):aR F (EG l k d) (putK vs k v):=by
 unfold EG putK;rw[aR.any k h];split
 .show aR.map hv h
 .show aR.app (show aR F [(k,d)] [(k,v)] from#[v,[],rfl,hv,rfl]) h
noncomputable def rL (bx:List Bx):W->Option (List (Key×D))
 |.d (.aA l)=>ae l
 |.b n=>(match bx[n]? with|some (.aA l)=>ae l|some (.fD l)=>ae l|_=>ag)
 |_=>ag
theorem Cb (R:Rel T F r σ H env bx) {w:W}(d:bN F r w v) {l:List (Key×D)}(e:rL bx w=ae l):∃ a ao,v=.ref a /\ Rd H a zag /\ aR F l ao:=by
 unfold rL at e;split at e
 .cases e;let#[a,vs,rfl,h1,h2]:=d;show#[a,vs,rfl,.inl (R.fh _ _ h1),h2]
 .let#[a,rfl,ha]:=d;let#[c,hc,kc]:=R.eU ha;rw[hc]at e;split at e
  .ext q;cases q;cases e;let#[_,vs,h1,h2]:=kc;show#[a,vs,rfl,.inl h1,h2]
  .ext q;cases q;cases e;let#[o,vs,_,h1,h2]:=kc;show#[a,vs,rfl,.inr #[o,h1],h2]
  .cases e
 .cases e
def cg (m k:DE W):DE W:=λenv bx=>fA zC λx bx1=>fA (k env bx1) λy bx2=>match y,rL bx2 x with
 |.d d,ae l=>(match (nz d).bind (c7 l) with|some u=>.val (.d u) bx2|none=>.bad)
 |_,_=>.bad
theorem Cc {Q:VK}(h:tD T Z (cg ma mb) σ H Q):adv (tD T Z ma) (tD T Z mb) σ H Q:=by
 let#[F,r,env,bx,R,h]:=h;refine#[F,r,env,bx,R,End.bind h λx bx1 F1 r1 v H1 g1 R1 d1 h1=>#[F1,r1,env,bx1,R1,End.bind h1 λy bx2 F2 r2 u H2 g2 R2 d2 h2=>?_]];split at h2
 .ext d l q;let#[a,ao,rfl,k1,k2]:=Cb R2 (g2.den d1) q;split at h2
  .ext w hw;let#[k,e1,e2]:=Option.bind_eq_some_iff.mp hw;cases ji e1 d2;let#[z,e3,e4]:=aR.some k2 e2;show#[a,z,rfl,e3▸.inl #[_,k,k1,rfl,rfl],h2 F2 r2 _ H2 (.refl F2 r2) R2 e4]
  .show h2.elim
 .show h2.elim
theorem OX (hu:X.A.units+1<cLine) (ho:PD X T Z o ma) (hi:PD X T Z e mb) (hs:IK e):PD X T Z (.Subscript o e pos) (cg ma mb):=
 PE.imp (Gb hu ho hi hs) λσ H Q h=>Cc h
def c8 (neg:Bool) (k m:DE W):DE W:=λenv bx=>fA (k env bx) λy bx1=>fA (m env bx1) λx bx2=>match y,rL bx2 x with
 |.d d,ae l=>(match nz d with|some k=>.val (.d (.bl (if neg then !(c7 l k).isSome else (c7 l k).isSome))) bx2|none=>.bad)
 |_,_=>.bad
theorem L8 {l:List (Key×D)}{vs:List (Key×V)}(h:aR F l vs) (k:Key):(eu vs k).isSome=(c7 l k).isSome:=by
 cases q:c7 l k with
 |none=>rw[aR.none h q];rfl
 |some d=>let#[v,e,_]:=aR.some h q;rw[e];rfl
theorem C6 {Q:VK}(h:tD T Z (c8 af mb ma) σ H Q):Yp (tD T Z mb) (tD T Z ma) σ H Q:=by
 let#[F,r,env,bx,R,h]:=h;refine#[F,r,env,bx,R,End.bind h λy bx1 F1 r1 u H1 g1 R1 d1 h1=>#[F1,r1,env,bx1,R1,End.bind h1 λx bx2 F2 r2 v H2 g2 R2 d2 h2=>?_]];split at h2
 .ext d l q;let#[a,ao,rfl,k1,k2]:=Cb R2 d2 q;split at h2
  .ext k e1;cases ji e1 (g2.den (w:=.d d) d1);refine#[a,_,rfl,.inl #[_,k,k1,rfl,rfl],?_];rw[L8 k2];show h2 F2 r2 _ H2 (.refl F2 r2) R2 zc
  .show h2.elim
 .show h2.elim
theorem L9 {Q:VK}(h:tD T Z (c8 ah mb ma) σ H Q):adw (tD T Z mb) (tD T Z ma) σ H Q:=by
 let#[F,r,env,bx,R,h]:=h;refine#[F,r,env,bx,R,End.bind h λy bx1 F1 r1 u H1 g1 R1 d1 h1=>#[F1,r1,env,bx1,R1,End.bind h1 λx bx2 F2 r2 v H2 g2 R2 d2 h2=>?_]];split at h2
 .ext d l q;let#[a,ao,rfl,k1,k2]:=Cb R2 d2 q;split at h2
  .ext k e1;cases ji e1 (g2.den (w:=.d d) d1);refine#[a,_,rfl,.inl #[_,k,k1,rfl,rfl],?_];rw[L8 k2];show h2 F2 r2 _ H2 (.refl F2 r2) R2 zc
  .show h2.elim
 .show h2.elim
theorem T6 (hu:X.A.units+1<cLine) (hi:PD X T Z e mb) (ho:PD X T Z o ma) (hm:behindInMarks .In o=af):PD X T Z (.Compare e [.In] [o] pos) (c8 af mb ma):=
 PE.imp (Ax (Fd hu hi ho) hm) λσ H Q h=>C6 h
theorem OY (hu:X.A.units+1<cLine) (hi:PD X T Z e mb) (ho:PD X T Z o ma) (hm:behindInMarks .NotIn o=af):PD X T Z (.Compare e [.NotIn] [o] pos) (c8 ah mb ma):=
 PE.imp (Ax (BF hu hi ho) hm) λσ H Q h=>L9 h
def k5 (m k v:DE W):aB:=λenv bx=>bC (v env bx) λz bx1=>bC (m env bx1) λx bx2=>bC (k env bx2) λy bS=>match x,y,z with
 | .b n,.d d,.d u=>(match bS[n]?,nz d with
   |some (.aA l),ae k=>if l.length<sizeLine then .nx env (bS.set n (.aA (EG l k u))) else .bad
   |_,_=>.bad)
 |_,_,_=>.bad
theorem VR {D:Ends}(h:tS T Z (k5 ma mb mc) D σ H):adx (tD T Z ma) (tD T Z mb) (tD T Z mc) D σ H:=by
 let#[F,r,env,bx,R,h]:=h;refine#[F,r,env,bx,R,End.bC h λz bx1 F1 r1 t H1 g1 R1 d1 h1=>#[F1,r1,env,bx1,R1,End.bC h1 λx bx2 F2 r2 v H2 g2 R2 d2 h2=>#[F2,r2,env,bx2,R2,End.bC h2 λy bS F3 r3 u H3 g3 R3 d3 h3=>?_]]];split at h3
 .ext n d w;let#[a,rfl,ha]:=(g3.den (w:=.b n) d2:bN F3 r3 (.b n) v);let#[c,hc,kc]:=R3.eU ha;rw[hc]at h3;split at h3
  .ext l k e1 e2;cases e1;split at h3
   .ext hl;let#[hF,ao,k1,k2]:=kc;cases ji e2 d3;have dz:Den F3 w t:=g3.den (w:=.d w) (g2.den (w:=.d w) d1);show#[a,_,rfl,.inl #[ao,k,k1,rfl,by rw[<-aR.length k2];show hl,rfl],h3 F3 r3 _ _ (.refl F3 r3) (R3.write ha hF #[hF,_,fw,aR.put k2 dz])]
   .show h3.elim
  .show h3.elim
 .show h3.elim
theorem Ma {value:au}(hu:X.A.units+1<cLine) (ho:PD X T Z o ma) (hi:PD X T Z e mb) (hv:PD X T Z value mc) (hs:swapsWith value (ae (.Subscript o e pos')) pos.line X.env=pure af:=by rfl) :
 cM X T Z (.Assign [.Subscript o e pos'] value pos) (k5 ma mb mc):=
 PS.imp (Gc hu ho hi hv hs) λD σ H h=>VR h
end
end L2.DL
namespace L2
end L2
namespace L2.DL
section
variable {a:au} {p tp:aL} {elts:List au} {kt:Nat} {k:DE (List W)}
theorem Mb {a b:au}{ks:DE zam}{y:Str}{px py pt:aL}{kt k2 nj}(i j:Nat) (hc:X.calm=ah) (hN:X.N.Nodup) (ha:dJ X T Z [a,b] ks) (hi:X.N[i]?=ae x:=by rfl) (hj:X.N[j]?=ae y:=by rfl)
 (hx:Loc X.env.scope x:=by first|show Or.inl zc|show Or.inr zc) (hy:Loc X.env.scope y:=by first|show Or.inl zc|show Or.inr zc)
 (ahy:X.fn x=ah \/ X.env.scope.names.lookup x=ae .local:=by first|show .inl zc|show .inr zc) (ahz:X.fn y=ah \/ X.env.scope.names.lookup y=ae .local:=by first|show .inl zc|show .inr zc)
 (hs:swapsWithSole [.Tuple [.Name x px,.Name y py] kt pt] (.Tuple [a,b] k2 nj) pos.line X.env=pure af:=by rfl)
 (hw:swappedStores [.Tuple [.Name x px,.Name y py] kt pt] (.Tuple [a,b] k2 nj) X.env=pure ag:=by rfl)
 (h0:(assignEach [.Tuple [.Name x px,.Name y py] kt pt] X.env).map (·.2)=[assign (.Tuple [.Name x px,.Name y py] kt pt) X.env]:=by rfl)
 (h1:(assignEach [.Name x px,.Name y py] X.env).map (·.2)=assign (.Name x px) X.env::(assignEach [.Name y py] X.env).map (·.2):=by rfl)
 (h2:(assignEach [.Name y py] X.env).map (·.2)=assign (.Name y py) X.env::(assignEach [] X.env).map (·.2):=by rfl)
 (hn:(assignEach [.Name x px,.Name y py] X.env).length=2:=by rfl) (yU:(assignEach [.Name x px,.Name y py] X.env).findIdx? (·.1)=ag:=by rfl) :
 cM X T Z zav (ku i j ks):=by
 refine PS.imp (J8 (Lh ha) (J7 hc (Ay (B2 hN hi hx ahy) (Ay (B2 hN hj hy ahz) FS h2) h1) hn yU) hs hw h0) λD σ H=>x4 λF r env bx R h=>?_;refine#[F,r,env,bx,R,End.bC h λws bx1 F1 r1 vs H1 g1 R1 d1 h1=>?_];split at h1
 .let#[v,t,rfl,q1,u,t2,rfl,q2,q3]:=d1;cases (show t2=[] from q3);refine#[by change 2<=sizeLine;decide,λp hp=>?_];have gr:=R1.u4 (o:=.tup [v,u]) hp;show#[p,[v,u],rfl,cQ.of fw,rfl,v,[u],rfl,u,[],rfl,rfl,h1 _ r1 _ _ gr (((R1.Ei hp).set (gr.den q1) i).set (gr.den q2) j)]
 .show h1.elim
end
def adM (K:PySem.W.Frag) (vs:List V) (H:Hp) (Q:VK):zu:=∃ (p:aj) (bs:List Bool),vs=[.ref p] /\ H p=ae (.lst (bs.map V.bl)) /\ Q (.bl (bs.any id)) H
theorem oD (bs:List Bool):((List.range bs.length).any λi=>(bs[i]?).getD af)=bs.any id:=by
 rw[k9,kM,kM];constructor
 .rintro⟨i,m,h⟩;have hi:=List.mem_range.mp m;rw[dq hi]at h;show#[bs[i],sj hi,h]
 .rintro⟨b,m,h⟩;let#[i,hi,e]:=List.mem_iff_getElem.mp m;show#[i,List.mem_range.mpr hi,by rw[dq hi,e];show h]
theorem Jw (hc:X.calm=ah):eF X (.builtin "any") (adM X.K):=by
 intro pins s σ H xs us Q I rv h;let#[p,bs,rfl,hp,q]:=h;let#[u,rfl,ru]:=Vals.one rv;cases ru;let#[its,r1,p1,z1]:=I.list (bX.of (K:=X.K) hp);have hl:=p1.isList;have rh:p<s.heap.objs.size:=by let#[_,e,_]:=hl;show bj e
 have hlen:bs.length=its.length:=by have:=r1.length;simpa using this
 refine call_any_walk (yx hl ?_);refine#[s.heap.objs.size,[s.heap.objs.size,p],[s.heap.objs.size],its.toArray.size,_,_,λi=>(bs[i]?).getD af,rfl,Walks.list (A:=X.A.in1) (I.ok.hd hc) _ p (cB rh) its.toArray,
  #[#[_,bF _ zc,rfl,rfl],hl.push _],λi v s' Q' E' hP hQ=>?_,λh' tk hk=>?_]
 .have Ek:its[i]?=ae v:=by simpa using hP
  have hi:i<bs.length:=by rw[hlen];show(List.getElem?_eq_some_iff.mp Ek).1
  let#[w,e1,e2]:=r1.get (i:=i) (x:=V.bl bs[i]) (by simp[hi]);rw[Ek]at e1;cases e1;cases e2;erw[dq hi,vH]at hQ;show p7 hQ
 .have e:((List.range its.toArray.size).any λi=>(bs[i]?).getD af)=bs.any id:=by
   rw[bL,<-hlen];show oD bs
  rw[e];show#[.bl _,H,I.kept (t':=tk) (acf hk),rfl,q]
def EH:List D->Option Res
 |[.lst l]=>(pT l).map λbs=>.old (.bl (bs.any id))
 |_=>ag
theorem ahA:kF (adM K) EH:=by
 intro F H xs vs Q s sub rx e k;unfold EH at e;split at e
 .ext l;let#[v,t,rfl,#[a,us,rfl,h1,h2],rt]:=rx;cases (show t=[] from rt);cases e1:pT l with
  |none=>rw[e1]at e;cases e
  |some bs=>
    rw[e1]at e;cases e;have q1:=h2.Yn e1;subst q1;show#[a,bs,rfl,h1,k _ _ #[rfl,rfl]]
 .cases e
section
variable {a:au} 
def eX (neg:Bool) (m:DE W):DE W:=λenv bx=>fA zC λx bx1=>match x with
 |.d d=>.val (.d (.bl (match d with|.non=>!neg|_=>neg))) bx1
 |_=>.bad
theorem Ao {d:D}(h:Den F d v):decide (v=.non)=(match d with|.non=>ah|_=>af):=by
 cases d with
 |non=>cases (show v=.non from h);rfl
 |bl b=>cases (show v=.bl b from h);rfl
 |int i=>cases (show v=.int i from h);rfl
 |str x=>cases (show v=.str x from h);rfl
 |tup l=>let#[a,vs,rfl,_]:=h;rfl
 |lst l=>let#[a,vs,rfl,_]:=h;rfl
 |aA l=>let#[a,vs,rfl,_]:=h;rfl
theorem T7 {j pos'}(ha:PD X T Z a ma):PD X T Z (.Compare a [.Is] [.Constant .none j pos'] pos) (eX af ma):=by
 refine PE.imp (Ax (J3 ha)) λσ H Q=>x4 λF r env bx R h=>?_;refine#[F,r,env,bx,R,End.bind h λx bx1 F1 r1 v H1 g1 R1 d1 h1=>?_];cases x with
 |d d=>
   rw[Ao (show Den F1 d v from d1)];cases d<;>show h1 F1 r1 _ H1 zS R1 zc
 |_=>show h1.elim
theorem OZ {j pos'}(ha:PD X T Z a ma):PD X T Z (.Compare a [.IsNot] [.Constant .none j pos'] pos) (eX ah ma):=by
 refine PE.imp (Ax (FR ha)) λσ H Q=>x4 λF r env bx R h=>?_;refine#[F,r,env,bx,R,End.bind h λx bx1 F1 r1 v H1 g1 R1 d1 h1=>?_];cases x with
 |d d=>
   rw[Ao (show Den F1 d v from d1)];cases d<;>show h1 F1 r1 _ H1 zS R1 zc
 |_=>show h1.elim
end
end L2.DL
namespace HT
open PySem.W
abbrev Kp (h h':aI):zu:=∀ b o,h.get? b=ae o->h'.get? b=ae o
section
variable {s:aq} {l I S:aj} {nm:String} 
section
variable {kf:Nat -> Int} (hh:A.handled = ag) (hl:s.heap.IsList l vs.toArray) (ahB:l ≠ I) (ahC:S ≠ I) (ahD:s.heap.get? S = ag) (ahE:s.heap.get? I = ag)
include hh hl ahB ahC ahD ahE
end
end
end HT
namespace L2
open PySem.W
section
variable {a:au} {p q kp:aL} {t:TA}
end
end L2
namespace L2.DL
open PySem.W
section
variable {a:au} {p q kp:aL} {m:DE (List W)}
end
end L2.DL
namespace HT
open PySem.W
section
variable {s:aq} {t:aj} 
noncomputable abbrev dist (ns:List Int):List Int:=firstMet (λi=>ns.getD i 0) ns.length
end
end HT
namespace L2
open PySem.W
section
variable {a:au} {p p2 ur:aL} {t:TA}
theorem AV:∀ {ns:List Int}{us:List ai},Vals (ns.map V.int) us->IntsAre us ns
 |[],_,.nil=>.nil
 | n::ns,_,.cons r q=>by
   let#[t,rfl]:=r;show .cons n t (AV q)
end
end L2
namespace L2.DL
open PySem.W
section
variable {a:au} {p p2 ur:aL} {m:DE (List W)}
end
end L2.DL
namespace HT
open PySem.W
abbrev rM (xs:Array Nat):zu:=xs.toList.Pairwise (·<·)
theorem Ap {xs:Array Nat}(h:rM xs) {i x y:Nat}(hi:xs[i]?=ae x) (hj:xs[j]?=ae y) (l:i<j):x<y:=by
 have rK:xs.toList[i]?=ae x:=by rw[qP];show hi
 have IW:xs.toList[j]?=ae y:=by rw[qP];show hj
 let#[a,rfl]:=List.getElem?_eq_some_iff.mp rK;let#[b,rfl]:=List.getElem?_eq_some_iff.mp IW;show List.pairwise_iff_getElem.mp h i j a b l
theorem Mc {xs:Array Nat}(h:rM xs) (j:Nat):∀ (f lo hi:Nat),hi-lo<=f->lo<=hi->hi<=xs.size->(∀ i x,i<lo->xs[i]?=ae x->x<j)->(∀ i x,hi<=i->xs[i]?=ae x->j<=x) ->
 SetTable.below.go xs j f lo hi<=xs.size /\ (∀ i x,i<SetTable.below.go xs j f lo hi->xs[i]?=ae x->x<j) /\ ∀ i x,SetTable.below.go xs j f lo hi<=i->xs[i]?=ae x->j<=x:=by
 intro l_;induction l_ with
 |zero=>
   intro lo hi hf hl hh h1 h2;have:lo=hi:=by lia
   subst this;show#[hh,h1,h2]
 |succ f az=>
   intro lo hi hf hl hh h1 h2;rw[SetTable.below.go];by_cases c:lo<hi
   .rw[if_pos c];have hm:(lo+hi) / 2<xs.size:=by lia
    have em:xs[(lo+hi) / 2]?=ae xs[(lo+hi) / 2]:=by simp[hm]
    have eg:xs.getD ((lo+hi) / 2) j=xs[(lo+hi) / 2]:=by simp[Array.getD,hm]
    change (let mid:=(lo+hi) / 2;if xs.getD mid j<j then SetTable.below.go xs j f (mid+1) hi else SetTable.below.go xs j f lo mid)<=xs.size /\ _;erw[eg];by_cases q:xs[(lo+hi) / 2]<j
    .erw[if_pos q];refine az _ hi zd zd hh (λi x rK e=>?_) h2;by_cases z:i<(lo+hi) / 2
     .have:=Ap h e em z;lia
     .have:i=(lo+hi) / 2:=by lia
      subst this;rw[em]at e;cases e;show q
    .erw[if_neg q];refine az lo _ zd zd zd h1 λi x rK e=>?_;by_cases z:i=(lo+hi) / 2
     .subst z;rw[em]at e;cases e;lia
     .have:=Ap h em e zd;lia
   .rw[if_neg c];have:lo=hi:=by lia
    subst this;show#[hh,h1,h2]
theorem mz {xs:Array Nat}(h:rM xs) (j:Nat):SetTable.below xs j<=xs.size /\ (∀ i x,i<SetTable.below xs j->xs[i]?=ae x->x<j) /\ ∀ i x,SetTable.below xs j<=i->xs[i]?=ae x->j<=x:=
 Mc h j xs.size 0 xs.size zd (eS _) (aD _) (λi x hi=>absurd hi (QX _)) λi x hi e=>by
  have:=(Array.getElem?_eq_some_iff.mp e).1;lia
theorem AW {xs:Array Nat}(h:rM xs) {i x:Nat}(e:xs[i]?=ae x):SetTable.below xs (x+1)=i+1:=by
 let#[b1,b2,b3]:=mz h (x+1);have lt:=(Array.getElem?_eq_some_iff.mp e).1;have h1:¬ SetTable.below xs (x+1)<=i:=λz=>by
  have:=b3 i x z e;lia
 have h2:¬ i+1<SetTable.below xs (x+1):=λz=>by
  have el:xs[i+1]?=ae xs[i+1]:=by
   have:i+1<xs.size:=by lia
   simp[this]
  have a:=b2 (i+1) _ z el;have b:=Ap h e el (nF i);lia
 lia
theorem AX {xs:Array Nat}(h:rM xs):SetTable.below xs 0=0:=by
 let#[b1,b2,b3]:=mz h 0;apply Classical.byContradiction;intro z;have lt:0<xs.size:=by lia
 have el:xs[0]?=ae xs[0]:=by simp[lt]
 have:=b2 0 _ zd el;lia
theorem Ai (xs:Array α) (p:Nat) (x:α):(SetTable.insertAt xs p x).toList=xs.toList.take p++x::xs.toList.drop p:=by
 unfold SetTable.insertAt;rw[Array.toList_append,Xj,abR,abR];erw[List.extract_eq_take_drop,He,aba,se,List.singleton_append];congr 2;show Hv zi
theorem Md {xs:Array Nat}(h:rM xs) (hn:xs[SetTable.below xs j]?≠ae j):rM (SetTable.insertAt xs (SetTable.below xs j) j):=by
 let#[b1,b2,b3]:=mz h j;unfold rM;rw[Ai];have rh:∀ x∈xs.toList.take (SetTable.below xs j),x<j:=λx m=>by
  let#[i,hi,e]:=abj m;rw[xa]at hi;refine b2 i x zd ?_;rw[<-qP,<-e,List.getElem_take];show dq zd
 have adN:∀ x∈xs.toList.drop (SetTable.below xs j),j<x:=λx m=>by
  let#[i,hi,e]:=abj m;rw[Hj]at hi;have ex:xs[SetTable.below xs j+i]?=ae x:=by
   rw[<-qP,<-e,List.getElem_drop];show dq zd
  have:=b3 _ x (wX _ _) ex;have ne:x≠j:=λz=>by
   subst z;cases i with
   |zero=>show hn ex
   |succ i=>
     have lt:SetTable.below xs x<xs.size:=by
      have:=(Array.getElem?_eq_some_iff.mp ex).1;lia
     have el:xs[SetTable.below xs x]?=ae xs[SetTable.below xs x]:=by simp[lt]
     have a:=b3 _ _ (aD _) el;have b:=Ap h el ex zd;lia
  lia
 rw[List.pairwise_append];refine#[h.sublist (aa7 _ _),List.pairwise_cons.mpr #[adN,h.sublist (List.drop_sublist _ _)],λa ma b mb=>?_];have:=rh a ma;rcases bz.mp mb with rfl|mb
 .show this
 .have:=adN b mb;lia
theorem Fn (n:Nat):rM (Array.range n):=by
 unfold rM;rw[Array.toList_range];show abk
def EI (t:SetTable) (j:Nat):zu:=t.place[SetTable.below t.place j]?≠ae j
theorem C7 (h:∀ i,t.slot j≠.live i):EI t j:=λe=>by
 refine h (SetTable.below t.place j) ?_;unfold SetTable.slot;simp[e]
theorem Me {ha:Nat->Int}{h:Int}:∀ (f:Nat) (p:SetTable.Probe) {j:Nat}{d:Option Nat},(∀ z,p.dummy=ae z->EI t z)->SetTable.probe.go t ha h f p=ae (.empty j d)->EI t j /\ ∀ z,d=ae z->EI t z:=by
 intro l_;induction l_ with
 |zero=>(intro p j d _ e;cases e)
 |succ f az=>
   intro p j d hp e;rw[SetTable.probe.go]at e;split at e
   .ext q;cases e;show#[C7 (λi z=>by rw[q]at z;cases z),hp]
   .ext q;refine az _ (λz hz=>?_) e;have:(t.advance { p with dummy:=ae p.j }).dummy=ae p.j:=by
     unfold SetTable.advance;split<;>rfl
    rw[this]at hz;cases hz;show C7 λi z=>by rw[q]at z;cases z
   .split at e
    .cases e
    .refine az _ (λz hz=>?_) e;have:(t.advance p).dummy=p.dummy:=by
      unfold SetTable.advance;split<;>rfl
     rw[this]at hz;show hp z hz
theorem Mf {h:Int}{b:Bool}(e:t.freeSlot h=ae (j,b)):EI t j:=by
 unfold SetTable.freeSlot at e;split at e
 .ext j' d q;let#[a,c]:=Me _ _ (by intro z hz;cases hz) q;cases d with
  |none=>cases e;show a
  |some z=>cases e;show c z zc
 .cases e
structure eY (ahF:Bool) (t:SetTable):zu where
 r:rM t.place
 l:ahF=af->t.led=ah
theorem eY.Kd {b:Bool}(h:eY b t) (n:Nat):eY b (t.standIn n):=#[Fn n,h.l]
theorem eY.lay {b:Bool}(h:eY b t) (es:Array (Int×ai)) (k:Int) (x:ai):eY b (layNew t es k x).2.1:=by
 unfold layNew;cases e:t.freeSlot k with
 |none=>show h.Kd _
 |some p=>
   let#[j,d]:=p;have hn:=Mf e;change eY b ((t.put j).1.orStandIn _);have hp:eY b (t.put j).1:=#[Md h.r hn,h.l];unfold SetTable.orStandIn;split
   .show hp
   .show hp.Kd _
theorem eY.plain {b:Bool}{t:SetTable}(h:eY b t) (p:Bool):eY b { t with plain:=p }:=#[h.r,h.l]
theorem Jx (f:Nat->Option Nat):∀ l:List Nat,l.Pairwise (·<·)->(((l.filterMap λj=>(f j).map (j,·)).map (·.1))).Pairwise (·<·):=by
 intro l_;induction l_ with
 |nil=>show λ_=>.nil
 |cons j l az=>
   intro h;let#[h1,h2]:=List.pairwise_cons.mp h;have ih:=az h2;rw[pH];cases e:f j with
   |none=>show ih
   |some z=>
     rw[nG];refine List.pairwise_cons.mpr #[λa ma=>?_,ih];let#[p,mp,rfl]:=bA.mp ma;let#[i,mi,ei]:=List.mem_filterMap.mp mp;cases q:f i with
     |none=>rw[q]at ei;cases ei
     |some w=>
       rw[q]at ei;cases ei;show h1 i mi
theorem eY.ahG {b:Bool}(h:eY b t) (es:Array (Int×ai)) (n:Nat):eY b (relayAll t es n).2.1:=by
 unfold relayAll;cases e:t.relaid (es.map (·.1)) n with
 |none=>show h.Kd _
 |some p=>
   let#[t',o]:=p;have ht:eY b t':=by
    unfold SetTable.relaid SetTable.laid at e;cases q:SetTable.layClean (SetTable.sizeAbove n-1) (es.map (·.1)) with
    |none=>rw[q]at e;cases e
    |some ow=>
      rw[q]at e;cases e;show#[Jx _ _ abk,h.l]
   change eY b (if (coversAll o es.size&&t'.fits (o.filterMap (es[·]?)).size)=ah then (o.filterMap (es[·]?),t',af) else (es,t.standIn es.size,ah)).2.1;split
   .show ht
   .show h.Kd _
section
variable {s:aq}
structure eB (prog:dg) (w:cn) (b:Bool) (o:aY) (ns:List Int) (es:Array (Int×ai)) (ep:Nat) (t:SetTable) (ms:List Int):zu where
 x:o.ExactSet
 d:o.data=.set es ep t
 el:ElemsOf (intKind prog w) es.toList
 bd:es.size<scanBound
 ft:t.fits es.size=ah
 ok:eY b t
 vs:IntsAre (es.toList.map (·.2)) ms
 pm:ms.Perm ns
def pW (prog:dg) (w:cn) (b:Bool) (h:aI) (a:aj) (ns:List Int):zu:=∃ o es ep t ms,h.get? a=ae o /\ eB prog w b o ns es ep t ms
theorem o8:∀ {vs:List ai}{ms:List Int},IntsAre vs ms->∀ k:Int,k∈ms ↔ ∃ v∈vs,(intKind prog w).is k v=ah
 |_,_,.nil,k=>by simp
 | _,_,.cons n t h,k=>by
   have ih:=o8 h k;have e:(intKind prog w).is k (.int n t)=ah ↔ k=n:=by
    constructor
    .intro z;show(intKind prog w).inj _ k n z (yF prog w n t)
    .rintro rfl;show yF prog w k t
   rw[bz,ih];constructor
   .rintro(z|⟨v,mv,ev⟩)
    .show#[_,bE ..,e.mpr z]
    .show#[v,bB _ mv,ev]
   .rintro⟨v,mv,ev⟩;rcases bz.mp mv with rfl|mv
    .show .inl (e.mp ev)
    .show .inr #[v,mv,ev]
theorem eB.mem {b:Bool}{ms:List Int}{es:Array (Int×ai)}(S:eB prog w b o ns es ep t ms) (k:Int):k∈ns ↔ ∃ e∈es.toList,(intKind prog w).is k e.2=ah:=by
 rw[<-S.pm.mem_iff,o8 (prog:=prog) (w:=w) S.vs k];constructor
 .rintro⟨v,mv,ev⟩;let#[e,me,rfl]:=bA.mp mv;show#[e,me,ev]
 .rintro⟨e,me,ev⟩;show#[e.2,bA.mpr #[e,me,rfl],ev]
theorem eB.len {b:Bool}{ms:List Int}{es:Array (Int×ai)}(S:eB prog w b o ns es ep t ms):es.size=ns.length:=by
 rw[<-S.pm.length_eq,<-S.vs.length,a6,nH]
theorem jL:∀ {vs us:List ai},us.Perm vs->∀ {ms:List Int},IntsAre vs ms->∃ ks,IntsAre us ks /\ ks.Perm ms:=by
 intro vs us p;induction p with
 |nil=>intro ms h;show#[ms,h,.refl _]
 |cons x p ih=>
   intro ms h;cases h with
   |cons n t h=>
     let#[ks,a,c]:=ih h;show#[n::ks,.cons n t a,c.cons n]
 |swap x y l=>
   intro ms h;cases h with
   |cons n t h=>
     cases h with
     |cons m u h=>show#[_,.cons m u (.cons n t h),.swap ..]
 |trans p q Yz YA=>
   intro ms h;let#[ks,a,c]:=YA h;let#[js,a',c']:=Yz a;show#[js,a',c'.trans c]
theorem mZ:∀ {vs:List ai}{ms:List Int},IntsAre vs ms->∀ (i:Int) (t:Tok),IntsAre (vs++[.int i t]) (ms++[i])
 |_,_,.nil,i,t=>.cons i t .nil
 |_,_,.cons n u h,i,t=>.cons n u (mZ h i t)
theorem eB.anew {b:Bool}{ms:List Int}{es:Array (Int×ai)}(S:eB prog w b o ns es ep t ms) {es':Array (Int×ai)}{t':SetTable}(sx:Nat) (p:es'.toList.Perm es.toList) (f:t'.fits es'.size=ah) (k:eY b t') :
 ∃ YC,eB prog w b { o with data:=.set es' sx t' } ns es' sx t' YC:=by
 let#[ks,a,c]:=jL (p.map (·.2)) S.vs;have z:es'.size=es.size:=by rw[<-nH,p.length_eq,nH]
 show#[ks,S.x,rfl,S.el.perm p,by rw[z];show S.bd,f,k,a,c.trans S.pm]
theorem eB.more {b:Bool}{ms:List Int}{es:Array (Int×ai)}(S:eB prog w b o ns es ep t ms) (i:Int) (u:Tok) {es':Array (Int×ai)}{t':SetTable}(sx:Nat) (hb:es.size+1<scanBound)
 (p:es'.toList.Perm (es.toList++[((intKind prog w).hash i,.int i u)])) (f:t'.fits es'.size=ah) (k:eY b t'):∃ YC,eB prog w b { o with data:=.set es' sx t' } (ns++[i]) es' sx t' YC:=by
 have q:(es.toList++[((intKind prog w).hash i,Value.int i u)]).map (·.2)=es.toList.map (·.2)++[Value.int i u]:=by simp
 let#[ks,a,c]:=jL (us:=es'.toList.map (·.2)) (vs:=es.toList.map (·.2)++[Value.int i u]) (q▸p.map (·.2)) (mZ S.vs i u);have z:es'.size=es.size+1:=by rw[<-nH,p.length_eq,cZ,nH,aa8]
 show#[ks,S.x,rfl,(S.el.push (yF prog w i u) zc).perm p,by rw[z];show hb,f,k,a,c.trans (S.pm.append_right _)]
theorem stored {es es':Array (Int×ai)}{t':SetTable}(ho:s.heap.get? a=ae o) (hd:o.data=.set es ep t):(s.heap.update a (Obj.putSet es' t')).get? a=ae { o with data:=.set es' (ep+1) t' }:=by
 have z:=sq (Obj.putSet es' t') ho (by rw[putSet_of es' t' hd];rfl)
 rwa [putSet_of es' t' hd]at z
theorem BK {b:Bool}{ms:List Int}{es cW:Array (Int×ai)}{t1:SetTable}{wd:Bool}{R:Option Bool->aq->zu}{g:Bool->Sem Unit}(hg:∀ (z:Bool) (s1:aq) (Q:Unit->aq->zu),Q () s1->wpAny zh A (g z) Q E s1)
 (ho:s.heap.get? a=ae o) (hd:o.data=.set es ep t) (S:eB prog w b { o with data:=.set cW (ep+1) t1 } ns cW (ep+1) t1 ms)
 (h:∀ h',Heap.SameBut a s.heap h'->pW prog w b h' a ns->R (ae ah) { s with heap:=h' }) :
 wpAny zh A (do
  storeSet a cW t1
  if (!wd&&t1.tooFull)=ah then do
   g (relayAll t1 cW za1).2.2
   storeSet a (relayAll t1 cW za1).1 (relayAll t1 cW za1).2.1
   pure (ae ah)
  else pure (ae ah)) R E s:=by
 have g1:=stored (s:=s) (es':=cW) (t':=t1) ho hd;have sb:=Heap.SameBut.update s.heap a (Obj.putSet cW t1);refine ak (aaN ho hd ?_ (QR S.bd));by_cases c:(!wd&&t1.tooFull)=ah
 .rw[if_pos c];have kp:=relayAll_perm t1 cW za1;have kf:=relayAll_fits t1 cW za1;have kt:=S.ok.ahG cW za1;let#[ahH,S2]:=S.anew (ep+1+1) kp kf kt;have z2:(relayAll t1 cW za1).1.size=cW.size:=by rw[<-nH,kp.length_eq,nH]
  have g2:=stored (s:={ s with heap:=s.heap.update a (Obj.putSet cW t1) }) (es':=(relayAll t1 cW za1).1) (t':=(relayAll t1 cW za1).2.1) g1 zc;show ak (hg _ _ _ (ak (aaN g1 zc (ay (h _ (sb.trans (Heap.SameBut.update _ a _)) #[_,_,_,_,ahH,g2,S2])) (QR (by rw[z2];show S.bd)))))
 .rw[if_neg c];show ay (h _ sb #[_,_,_,_,ms,g1,S])
end
section
variable {s:aq}
theorem add_int {b:Bool}{i:Int}{u:Tok}{Q:Bool->aq->zu}(S:pW prog w b s.heap a ns) (hb:ns.length+1<scanBound)
 (h:∀ z h',Heap.SameBut a s.heap h'->pW prog w b h' a (nh ns i)->Q z { s with heap:=h' }):wpAny zh A (setAddHashed a (.int i u) ((intKind prog w).hash i)) Q E s:=by
 have ik:(intKind prog w).is i (.int i u)=ah:=yF prog w i u;have sc:(Value.int i u).scannable=ah:=rfl;let#[o,es,ep,t,ms,ho,S]:=S;have hl:=S.len;unfold setAddHashed;refine hG ?_;unfold setAddHashedIn;refine ak (vz ho S.d S.ft ?_);change wpAny _ _ (if byScan (.int i u) es=ah then _ else _) _ _ _;rw[if_pos (byScan_of sc S.bd S.el)];unfold setAddByScan;refine ak (ak (p8 (ak (wpAny_setScan_of ik ho S.d S.ft S.el ?_))));have gw:∀ (z:Bool) (s1:aq) (Q1:Unit->aq->zu),Q1 () s1->wpAny zh A (match z with|true=>rule "set.scan.the-table-gave-way"|false=>pure ()) Q1 E s1:=by
  intro z s1 Q1 q;cases z
  .show ay q
  .show p8 q
 cases fd:List.findIdx? (λe=>(intKind prog w).is i e.2) es.toList with
 |some j=>
   let#[hj,pj,_]:=List.findIdx?_eq_some_iff_getElem.mp fd;have mi:i∈ns:=(S.mem i).mpr #[_,sj hj,pj];have e1:nh ns i=ns:=by
    unfold nh;rw[if_pos (kM.mpr #[i,mi,by simp])]
   refine ay (ay ?_);have:=h af s.heap (Heap.SameBut.refl a s.heap) (by rw[e1];show#[o,es,ep,t,ms,ho,S]);show this
 |none=>
   have ni:i∉ns:=λz=>by
    let#[e,me,pe]:=(S.mem i).mp z;have:=List.findIdx?_eq_none_iff.mp fd e me;rw[pe]at this;cases this
   have e1:nh ns i=ns++[i]:=by
    unfold nh;rw[if_neg];intro z;let#[k,mk,ek]:=kM.mp z;have:k=i:=by simpa using ek
    show ni (this▸mk)
   have lp:=layNew_perm t es ((intKind prog w).hash i) (.int i u);have lf:=layNew_fits t es ((intKind prog w).hash i) (.int i u);have lk:=S.ok.lay es ((intKind prog w).hash i) (.int i u);rw[Xj]at lp;dsimp only;generalize layNew t es ((intKind prog w).hash i) (.int i u)=L at lp lf lk ⊢;let#[cW,t1,wd,gv]:=L;dsimp only at lp lf lk ⊢;have fin:∀ h',Heap.SameBut a s.heap h'->pW prog w b h' a (ns++[i])->wpAny zh A (match (ae ah:Option Bool) with|some added=>pure added|none=>setAddHashedIn a (.int i u) ((intKind prog w).hash i) 99999) Q E { s with heap:=h' }:=λh' sb si=>ay (h ah h' sb (by rw[e1];show si));refine ak (gw _ _ _ ?_);by_cases cp:t1.plain=ah
   .rw[if_pos cp,hashByValue_scannable 8 sc];refine ak (ay ?_);have tk:eY b (if plainKind (.int i u)=ah then t1 else { t1 with plain:=af }):=by
     split
     .show lk
     .show lk.plain _
    have tf:(if plainKind (.int i u)=ah then t1 else { t1 with plain:=af }:SetTable).fits cW.size=ah:=by
     split
     .show lf
     .show afi lf
    let#[ahI,S1]:=S.more i u (ep+1) zd lp tf tk;show BK gw ho S.d S1 λh' sb si=>fin h' sb si
   .rw[if_neg cp];refine ak (ay ?_);let#[ahI,S1]:=S.more i u (ep+1) zd lp lf lk;change wpAny _ _ (do
     storeSet a cW t1
     if (!wd&&t1.tooFull)=ah then _ else _) _ _ _
    show BK gw ho S.d S1 λh' sb si=>fin h' sb si
end
section
variable {s:aq}
noncomputable abbrev cA (w:cn):Bool:=w.params.followText "set-order"
abbrev pB (w:cn):aY:={ cls:=.type "set",dict:=ag,data:=.set #[] 0 (.fresh 0 0 (!cA w)) }
theorem O0 (e:h.get? a=ae (pB w)):pW prog w (cA w) h a []:=
 #[_,#[],0,_,[],e,#[#[rfl,rfl,rfl],rfl,λe m=>by simp at m,by decide,rfl,#[.nil,λz=>by rw[z];rfl],.nil,.refl _]]
theorem pW.at {b:Bool}(S:pW prog w b h a ns) (k:∀ o,h.get? a=ae o->h'.get? a=ae o):pW prog w b h' a ns:=by
 let#[o,es,ep,t,ms,ho,S]:=S;show#[o,es,ep,t,ms,k o ho,S]
theorem O3 (a:ai) (h:Q zK { s with heap:=s.heap.push (pB w) }):codeAny zh A (.call (.builtin "set.__new__") #[[.type "set",a],[]]) (wants Q E) s:=by
 refine aaO (show wpAny _ A.in1 (do checkBuiltinCall "set.__new__" #[[.type "set",a],[]];again (.builtin "set.__new__" #[[.type "set",a],[]])) _ _ s from ak (yB (F.newCall_set_1 a) (ay #[Hc ab6 _,uE F.entry_set_new ?_])));have ss:=aaP;rw[yP ab6 _];unfold Builtin.«set.__new__» Builtin.Frozenset.newClass;let#[hp,g,d,tk,os]:=s;dsimp only
 wp_walk
 refine uI (ay (by dsimp only;erw[newObj];show ak (aaD (ay (ay h)))))
variable {I:aj} {wr:List aj} {G:Array GenState -> Array GenState -> zu} {P:Nat -> ai -> zu} {St:Nat -> aq -> zu} {b:Bool}
theorem Jy (W:WalksS prog w A.in1 I fp wr G n P St) (ha:a∉fp) (val:Nat->Int) (hv:∀ i v,P i v->∃ t,v=.int (val i) t) (hb:n+1<scanBound) :
 ∀ (k i:Nat) (s:aq),n=i+k->St i s->pW prog w b s.heap a (firstMet val i)->(∀ s',Moved (a::wr) G s s'->pW prog w b s'.heap a (firstMet val n)->R (.ok (.ret .none)) s') ->
  codeAny zh A (.builtin "set.update.loop" #[[.ref a,.ref I],[]]) R s:=by
 have aw:a∉wr:=λz=>ha (W.sub _ z);have su:∀ c∈wr,c∈a::wr:=λc z=>.tail _ z;intro k;induction k with
 |zero=>
   intro i s hk st S fin;obtain rfl:n=i:=hk;refine uE ace (by
    rw[yP Xx _];show ak (W.done s _ _ st λs' mv=>ay (fin s' (mv.mono su) (S.at λo e=>mv.heap a o aw e))))
 |succ k ih=>
   intro i s hk st S fin;have il:i<n:=by lia
   have rm:(firstMet val i).length+1<scanBound:=by have:=firstMet_length_le val i;lia
   refine uE ace ?_;rw[yP Xx _];refine ak (W.item i s _ _ il st λv s1 pv ahJ mv=>?_);let#[t,rfl]:=hv i v pv;have S1:=S.at (h':=s1.heap) λo e=>mv.heap a o aw e;change wpAny _ A.in1 (holding [Value.int (val i) t] (setAdd a (.int (val i) t)) >>= λ_=>_) _ _ s1;refine ak (hG ?_);unfold setAdd;refine hG (ak ((intKind prog w).pyHash (k:=val i) (yF _ _ _ _) (add_int (s:={ s1 with toks:=s1.toks+1 }) S1 rm λz h' sb S2=>?_)));have S3:pW prog w b h' a (firstMet val (i+1)):=by rw[firstMet_succ];show S2
   have ne:∀ c,c∈fp->c≠a:=λc m z=>ha (z▸m);refine ay #[Hc Xx _,ih (i+1) _ zd (W.frame _ s1 _ _ ahJ (qb _) λc hc o e=>(sb.2 c (ne c hc)).trans e) S3 λs2 m2 S4=>fin s2 ?_ S4];refine Moved.trans W.gtrans ((mv.mono su).then_heap (qb _) λc o hc e=>?_) m2;show(sb.2 c λz=>hc (z▸.head _)).trans e
end
section
variable {s:aq} {t:aj} 
def EJ (prog:dg) (w:cn) (s:aq) (ns:List Int) (s':aq):zu:=∃ h' tk,s'={ s with heap:=h',toks:=tk } /\ pW prog w (cA w) h' s.heap.objs.size (dist ns) /\ Kp s.heap h'
theorem O4 {I:aj}{St:Nat->aq->zu}{P:Nat->ai->zu}{it:aY}(W:WalksS prog w A.in1 zx [s.heap.objs.size+1,t] [s.heap.objs.size+1] (λa b=>b=a) ns.length P St) (lt:t<s.heap.objs.size)
 (hv:∀ i v,P i v->∃ u,v=.int (ns.getD i 0) u) (hb:ns.length+1<scanBound) (st:St 0 { s with heap:=(s.heap.push (pB w)).push it }) (hf:it.isFreed=af)
 {F:Result->aq->zu}(h:∀ s',EJ prog w s ns s'->F (.ok (.ret .none)) s') :
 codeAny zh A (.builtin "set.update.loop" #[[.ref s.heap.objs.size,.ref zx],[]]) F { s with heap:=(s.heap.push (pB w)).push it }:=by
 refine Jy (b:=cA w) W (a:=s.heap.objs.size) ?_ (λi=>ns.getD i 0) hv hb ns.length 0 _ zd st (O0 (aX _ (bF _ zc))) λs' mv S=>?_
 .erw[bz,pJ,or_false,not_or];show#[cB (nF _),vA lt]
 .let#[h',g',d',ahK,XW]:=s';have e1:g'=s.gens:=mv.gens;have e2:d'=s.drawn:=mv.drawn;have e3:XW=s.os:=mv.os;subst e1 e2 e3;refine h _ #[h',ahK,rfl,S,λc o e=>mv.heap c o ?_ (aX _ (aX _ e))];have cl:=bj e;erw[bz,pJ,or_false,not_or];show#[cB cl,cB (qL cl)]
theorem Mg (hh:A.handled=ag) (ht:s.heap.IsList t vs.toArray) (hi:IntsAre vs ns) (hb:ns.length+1<scanBound) {F:Fin->aq->zu}(h:∀ s',EJ prog w s ns s'->F (.done (.ret .none)) s') :
 wpAny zh A (Builtin.«set.__init__» #[[.ref s.heap.objs.size,.ref t],[]]) F E { s with heap:=s.heap.push (pB w) }:=by
 have gS:(s.heap.push (pB w)).get? s.heap.objs.size=ae (pB w):=bF _ zc;have adO:(s.heap.push (pB w)).IsList t vs.toArray:=ht.at λo e=>aX _ e;have hn:vs.length=ns.length:=hi.length;let#[ot,Er,_]:=id ht;have lt:=bj Er;let#[#[oc,od,ake,qJ],g1,g2,n,g3]:=id adO;simp only at g2 g3;subst g2;subst g3;have y1:=PySem.F.sub_list_set;have y2:=PySem.F.sub_list_frozenset;have y3:(Value.type "list"==Value.type "dict")=af:=by decide
 have sz:(s.heap.push (pB w)).objs.size=s.heap.objs.size+1:=uN ..;unfold Builtin.«set.__init__» noKeywords Builtin.Frozenset.updateFrom;generalize hP:pyIter=P
 wp_walk
 subst hP;refine yx adO (ak (QK ?_));rw[sz];have gI:((s.heap.push (pB w)).push { cls:=.type "list_iterator",data:=.fields (List.toArray [.ref t,.int 0 0]) }).get? zx=ae { cls:=.type "list_iterator",data:=.fields (List.toArray [.ref t,.int 0 0]) }:=by
  rw[<-sz];show bF _ zc
 have W:=(Walks.list (prog:=prog) (w:=w) (A:=A.in1) hh zx t (cB (qL lt)) vs.toArray).toS;rw[show vs.toArray.size=ns.length by simpa using hn]at W;show O4 (I:=0) W lt (λi v e=>IntsAre.int_at hi i v (by simpa using e)) hb #[#[_,gI,rfl,rfl],ht.at λo e=>aX _ (aX _ e)] zc λs' e=>ay (ay (h s' e))
theorem Mh (hh:A.handled=ag) (ht:s.heap.IsList t vs.toArray) (hi:IntsAre vs ns) (hb:ns.length+1<scanBound) (h:∀ s',EJ prog w s ns s'->Q zK s') :
 wpAny zh A (call (.type "set") [.ref t]) Q E s:=by
 let#[c,tl,f1]:=PySem.F.called_set.mro;have f2:=PySem.F.called_set.made;have f3:=PySem.F.called_set.sub;have f4:=PySem.F.called_set.notType;have f5:=PySem.F.called_set.canCreate;have f6:=PySem.F.typeCall_set_1 (.ref t);refine wpAny_call (aaO (ay #[acg _ zay,uE PySem.F.entry_type_call ?_]));rw[Around.under_plain (weight_type_call_type "set" [.ref t] []) rfl]
 repeat (any_goals (first|assumption|wp_step))
 refine wR (O3 (.ref t) (E:=E) (Q:=λo s1=>o=.ref s.heap.objs.size /\ s1={ s with heap:=s.heap.push (pB w) }) #[rfl,rfl]) λr s1 hr=>?_;match r,hr with
 |.error e,hr=>show hr
 |.ok (.ret o),⟨e1,e2⟩=>
   subst e1;subst e2;have gS:(s.heap.push (pB w)).get? s.heap.objs.size=ae (pB w):=bF _ zc;have ty:Shared.TypeIs { s with heap:=s.heap.push (pB w) } zK "set":=#[_,gS,rfl];have k1:=PySem.F.called_set.init.lookup;have k2:=PySem.F.called_set.init.bind zK
   repeat (any_goals (first|assumption|wp_step))
   refine wR (codeAny_call_builtin (R:=wants (λr s2=>r=.none /\ EJ prog w s ns s2) E) PySem.F.called_set.init.plain PySem.F.entry_set_init (check_set_init_1 ty ?_)) λr2 s2 ED=>?_
   .show Mg (by simp[hh]) ht hi hb λs' e=>#[rfl,e]
   .match r2,ED with
    |.error e,ED=>show ED
    |.ok (.ret r),⟨e3,e4⟩=>
      subst e3
      repeat (any_goals (first|assumption|wp_step))
      show h _ e4
end
theorem gO:Slot "set_iterator" "__next__" "set_iterator.__next__":=.of (owner:="set_iterator") (n:="__next__") (by rw[aaQ,aaR];kernel_rfl) zay zay zay (.inl zay) (by rw[aaS];kernel_rfl)
theorem Aq:Slot "set_iterator" "__iter__" "set_iterator.__iter__":=.of (owner:="set_iterator") (n:="__iter__") (by rw[aaQ,aaR];kernel_rfl) zay zay zay (.inl zay) (by rw[aaS];kernel_rfl)
theorem lT:entryFor table "set_iterator.__next__"=ae Builtin.«set_iterator.__next__»:=entryFor_of_tree (by kernel_rfl)
theorem BL:entryFor table "set_iterator.__iter__"=ae Builtin.«dict_keyiterator.__iter__»:=aaT (id':="dict_keyiterator.__iter__") (by kernel_rfl) zc (by decide +kernel) (by kernel_rfl)
theorem Fo:entryFor table "set.__iter__"=ae Builtin.«frozenset.__iter__»:=aaT (id':="frozenset.__iter__") (by kernel_rfl) zc (by decide +kernel) (by kernel_rfl)
theorem lU (a:ai):argsOk "set_iterator.__next__" #[[a],[]]:=by
 unfold argsOk;kernel_rfl
theorem BM (a:ai):argsOk "set_iterator.__iter__" #[[a],[]]:=by
 unfold argsOk;kernel_rfl
section
variable {s:aq}
theorem mB {α:Type}:∀ (l:List α) {i:Nat}(h:i<l.length),(l[i]::l.eraseIdx i).Perm l
 |[],i,h=>absurd h (QX _)
 |x::l,0,h=>.refl _
 | x::l,i+1,h=>by
   rw[List.getElem_cons_succ,List.eraseIdx_cons_succ];show(List.Perm.swap ..).trans ((mB l (aa1 h)).cons x)
theorem O5 (nx:Nat->Nat):∀ (f k:Nat) (l:List α) (out:Array α),l.length=f->(pickOrder.go nx f k l out).toList.Perm (out.toList++l):=by
 intro l_;induction l_ with
 |zero=>
   intro k l out h;have:l=[]:=xj h;subst this;simp[pickOrder.go]
 |succ f az=>
   intro k l out h;have lt:nx k % l.length<l.length:=aa2 _ zd;rw[pickOrder.go,dq lt];refine(az (k+1) _ _ (by rw[Q7 lt];lia)).trans ?_;rw[Xj,se];refine afj _ ?_;show mB l lt
theorem BN (nx:Nat->Nat) (xs:Array α):(pickOrder nx xs).toList.Perm xs.toList:=by
 have:=O5 nx xs.size 0 xs.toList #[] zi;simpa[pickOrder] using this
def eP (w:cn) (t:SetTable):Nat->Nat
 |0=>0
 |i+1=>if cA w then 0 else t.place.getD i 0+1
def given (w:cn) (a:aj) (ep:Nat) (es:Array (Int×ai)):List ai:=(if cA w then (pickOrder (w.params.setOrder a ep) es).toList else es.toList).map (·.2)
theorem mC (a:aj) (ep:Nat) (es:Array (Int×ai)):(given w a ep es).Perm (es.toList.map (·.2)):=by
 unfold given;split
 .show(BN _ es).map _
 .show .refl _
theorem Fp (h:cA w=ah) (t:SetTable) (i:Nat):eP w t i=0:=by
 cases i with
 |zero=>rfl
 |succ i=>show if_pos h
theorem T8 {ms:List Int}{es:Array (Int×ai)}(ho:s.heap.get? a=ae o) (S:eB prog w (cA w) o ns es ep t ms) (hp:cA w=af->zah=af) {i:Nat}{x:ai}(hx:(given w a ep es)[i]?=ae x)
 {Q:Option (ai×Nat)->aq->zu}(h:Q (ae (x,eP w t (i+1))) s):wpAny zh A (setNext a (eP w t i) i ep) Q E s:=by
 have il:i<es.size:=by
  have:=(List.getElem?_eq_some_iff.mp hx).1;rw[(mC a ep es).length_eq,a6,nH]at this;show this
 unfold setNext;refine ak (vz ho S.d S.ft ?_);unfold setsByText;refine ak (ak (uI (ay ?_)));cases bt:cA w with
 |true=>
   change wpAny _ _ (if cA w=ah then _ else _) _ _ _;rw[if_pos bt];rw[if_neg zi];unfold setWalk setsByText;refine ak (ak (vz ho S.d S.ft (ak (ak (uI (ay ?_))))));change wpAny _ _ (if cA w=ah then _ else _) _ _ _;rw[if_pos bt];refine ak (uI (ay (ay ?_)));unfold given at hx;rw[if_pos bt,kK,qP]at hx;rw[Fp bt]at h ⊢;change Q (((pickOrder (w.params.setOrder a ep) es)[i]?).map λe=>(e.2,0)) s;cases q:(pickOrder (w.params.setOrder a ep) es)[i]? with
   |none=>rw[q]at hx;cases hx
   |some e=>
     rw[q]at hx;cases hx;show h
 |false=>
   change wpAny _ _ (if cA w=ah then _ else _) _ _ _;rw[if_neg (by rw[bt];decide)];have led:=S.ok.l bt;unfold given at hx;rw[if_neg (by rw[bt];decide),kK,qP]at hx;have pl:t.place.size=es.size:=by
    have:=S.ft;erw[SetTable.fits,aG,beq_iff_eq]at this;show this.1
   have pi:t.place[i]?=ae (t.place.getD i 0):=by
    have:i<t.place.size:=by lia
    simp[Array.getD,this]
   have sl:SetTable.below t.place (eP w t i)=i:=by
    cases i with
    |zero=>show AX S.ok.r
    |succ i=>
      have e1:eP w t (i+1)=t.place.getD i 0+1:=if_neg (by rw[bt];decide);rw[e1];refine AW S.ok.r ?_;have:i<t.place.size:=by lia
      simp[Array.getD,this]
   split
   .ext c;show absurd ((show zah=ah from c).symm.trans (hp bt)) ze
   .refine ak ?_;change wpAny _ _ (if (!t.led&&!es.isEmpty)=ah then _ else _) _ _ _;rw[if_neg (by rw[led];simp)];refine ay (ay ?_);rw[sl];cases q:es[i]? with
    |none=>rw[q]at hx;cases hx
    |some e=>
      rw[q]at hx;cases hx;rw[pi];have e1:eP w t (i+1)=t.place.getD i 0+1:=if_neg (by rw[bt];decide);rw[e1]at h;show h
end
section
variable {s:aq}
def uu (h:aI) (it a:aj) (k i n ep:Nat):zu:=∃ o u0 u1 u2 u3,h.get? it=ae o /\ o.cls=.type "set_iterator" /\ o.data=.fields (List.toArray [.int (k:Nat) u0,.int (i:Nat) u1,.ref a,.int (n:Nat) u2,.int (ep:Nat) u3])
theorem uu.typeIs {k i:Nat}(h:uu s.heap it a k i n ep):s.TypeIs zaQ "set_iterator":=by
 let#[o,_,_,_,_,e,c,_]:=h;show#[o,e,c]
theorem uu.at {k i:Nat}(x:uu h it a k i n ep) (e:∀ o,h.get? it=ae o->h'.get? it=ae o):uu h' it a k i n ep:=by
 let#[o,u0,u1,u2,u3,ho,r]:=x;show#[o,u0,u1,u2,u3,e o ho,r]
theorem O6 {ms:List Int}{es:Array (Int×ai)}{i:Nat}{x:ai}{Q:Option ai->aq->zu}(kW:a≠it) (hi:uu s.heap it a (eP w t i) i es.size ep) (ho:s.heap.get? a=ae o) (S:eB prog w (cA w) o ns es ep t ms)
 (hp:cA w=af->zah=af) (hx:(given w a ep es)[i]?=ae x)
 (hQ:∀ h',uu h' it a (eP w t (i+1)) (i+1) es.size ep->Heap.SameBut it s.heap h'->Q (ae x) { s with heap:=h' }):wpAny zh A (pyNext zaQ) Q E s:=by
 have ty:=hi.typeIs;let#[oi,u0,u1,u2,u3,pC,hc,hd]:=hi;unfold pyNext;refine ak (uH (qK (name:=Str.ofString "__next__") ty gO (hV gO ty lT ?_ (lU _))));unfold Builtin.«set_iterator.__next__»;refine ak (ay ?_);refine ak (wV pC hd ?_);change wpAny _ _ (setEntries a >>= λes'=>_) _ _ s;refine ak (yG ho S.d S.ft ?_);rw[if_neg zi];change wpAny _ _ (setNext a ((eP w t i:Nat):Int).toNat ((i:Nat):Int).toNat ((ep:Nat):Int).toNat >>= λr=>_) _ _ s;rw[kh,kh,kh];refine ak (T8 ho S hp hx ?_);change wpAny _ _ (setField zaQ 0 (rawInt ((eP w t (i+1):Nat):Int)) >>= λ_=>_) _ _ s;have h1:(s.heap.update it (Obj.mapFields (·.setIfInBounds 0 (rawInt ((eP w t (i+1):Nat):Int))))).get? it=ae (Obj.mapFields (·.setIfInBounds 0 (rawInt ((eP w t (i+1):Nat):Int))) oi):=sq _ pC (xp (qj hd _));have d1:(Obj.mapFields (·.setIfInBounds 0 (rawInt ((eP w t (i+1):Nat):Int))) oi).data=.fields (List.toArray [rawInt ((eP w t (i+1):Nat):Int),.int (i:Nat) u1,.ref a,.int (es.size:Nat) u2,.int (ep:Nat) u3]):=by rw[qj hd];simp
 refine ak (rY pC hd zi ?_);change wpAny _ _ (setField zaQ 1 (rawInt (((i:Nat):Int)+1)) >>= λ_=>_) _ _ _;refine ak (rY h1 d1 zi ?_);refine ay #[_,rfl,ay (hQ _ #[_,0,0,u2,u3,sq _ h1 (xp (qj d1 _)),?_,?_] ((Heap.SameBut.update ..).trans (Heap.SameBut.update ..)))]
 .show(yO ..).trans ((yO ..).trans hc)
 .rw[qj d1];simp[rawInt]
end
section
variable {s:aq}
theorem T9 {ms:List Int}{es:Array (Int×ai)}(ho:s.heap.get? a=ae o) (S:eB prog w (cA w) o ns es ep t ms) (hp:cA w=af->zah=af)
 {Q:Option (ai×Nat)->aq->zu}(h:Q ag s):wpAny zh A (setNext a (eP w t es.size) es.size ep) Q E s:=by
 unfold setNext;refine ak (vz ho S.d S.ft ?_);unfold setsByText;refine ak (ak (uI (ay ?_)));cases bt:cA w with
 |true=>
   change wpAny _ _ (if cA w=ah then _ else _) _ _ _;rw[if_pos bt,if_neg zi];unfold setWalk setsByText;refine ak (ak (vz ho S.d S.ft (ak (ak (uI (ay ?_))))));change wpAny _ _ (if cA w=ah then _ else _) _ _ _;rw[if_pos bt];refine ak (uI (ay (ay ?_)));have e1:(pickOrder (w.params.setOrder a ep) es)[es.size]?=ag:=by
    have:=(BN (w.params.setOrder a ep) es).length_eq;rw[nH,nH]at this;rw[<-this];simp
   change Q (((pickOrder (w.params.setOrder a ep) es)[es.size]?).map λe=>(e.2,eP w t es.size)) s;rw[e1];show h
 |false=>
   change wpAny _ _ (if cA w=ah then _ else _) _ _ _;rw[if_neg (by rw[bt];decide)];have led:=S.ok.l bt;have pl:t.place.size=es.size:=by
    have:=S.ft;erw[SetTable.fits,aG,beq_iff_eq]at this;show this.1
   have sl:SetTable.below t.place (eP w t es.size)=es.size:=by
    cases q:es.size with
    |zero=>show AX S.ok.r
    |succ i=>
      have e1:eP w t (i+1)=t.place.getD i 0+1:=if_neg (by rw[bt];decide);rw[e1];refine AW S.ok.r ?_;have:i<t.place.size:=by lia
      simp[Array.getD,this]
   split
   .ext c;show absurd ((show zah=ah from c).symm.trans (hp bt)) ze
   .refine ak ?_;change wpAny _ _ (if (!t.led&&!es.isEmpty)=ah then _ else _) _ _ _;rw[if_neg (by rw[led];simp)];refine ay (ay ?_);rw[sl];have e2:es[es.size]?=ag:=by simp
    rw[e2];show h
theorem Ua {ms:List Int}{es:Array (Int×ai)}{Q:Option ai->aq->zu}(hh:A.handled=ag) (hi:uu s.heap it a (eP w t es.size) es.size es.size ep) (ho:s.heap.get? a=ae o) (S:eB prog w (cA w) o ns es ep t ms)
 (hp:cA w=af->zah=af) (hQ:∀ h',Heap.ExtBut it s.heap h'->Q ag { s with heap:=h' }):wpAny zh A (pyNext zaQ) Q E s:=by
 have ty:=hi.typeIs;let#[oi,u0,u1,u2,u3,pC,hc,hd]:=hi;unfold pyNext;refine ak (uH (qK (name:=Str.ofString "__next__") ty gO (hV gO ty lT ?_ (lU _))));unfold Builtin.«set_iterator.__next__»;refine ak (ay ?_);refine ak (wV pC hd ?_);change wpAny _ _ (setEntries a >>= λes'=>_) _ _ s;refine ak (yG ho S.d S.ft ?_);rw[if_neg zi];change wpAny _ _ (setNext a ((eP w t es.size:Nat):Int).toNat ((es.size:Nat):Int).toNat ((ep:Nat):Int).toNat >>= λr=>_) _ _ s;rw[kh,kh,kh];refine ak (T9 ho S hp ?_);change wpAny _ _ (setField zaQ 2 .none >>= λ_=>_) _ _ s;refine ak (rY pC hd zi ?_);change wpAny _ _ (newExc (.type "StopIteration") [] >>= λe=>raiseNew e) _ _ _;refine ak (by
  erw[newExc,newTuple];refine ak (eR (ak (m:=firstArgMember _ _) (yB (a:=Value.none) (by first|rfl|(erw[firstArgMember];rfl)) (eR ?_ (by size_fits)))) (by size_fits));erw[raiseNew];refine ak (E9 ?_);rw[show A.in1.handled=ag from hh];refine ak (ay (Ha ?_));refine ak (yE (T:="StopIteration") (b:=ah) #[_,bF _ zc,rfl] Hb ?_);show ay (hQ _ (((Heap.SameBut.update ..).extBut.push _).push _)))
theorem Mi (hh:A.handled=ag) (kW:a≠it) {ms:List Int}{es:Array (Int×ai)}(S:eB prog w (cA w) o ns es ep t ms) (hp:cA w=af->zah=af) :
 Walks prog w A it [it,a] [it] es.size (λi v=>(given w a ep es)[i]?=ae v) (λi h=>uu h it a (eP w t i) i es.size ep /\ h.get? a=ae o) where
 sub:=λb hb=>by simp at hb;simp[hb]
 frame:=λ_ _ _ st hk=>#[st.1.at λo e=>hk it zi o e,hk a zi _ st.2]
 item:=λi s Q E hi st hQ=>by
  obtain⟨x,hx⟩:∃ x,(given w a ep es)[i]?=ae x:=by
   have:i<(given w a ep es).length:=by rw[(mC a ep es).length_eq,a6,nH];show hi
   show#[_,dq this]
  refine O6 kW st.1 st.2 S hp hx λh' i' sb=>?_;show hQ x h' s.toks hx #[i',(sb.2 a kW).trans st.2] λb o hb e=>(sb.2 b λz=>hb (by simp[z])).trans e
 done:=λs Q E st hQ=>Ua hh st.1 st.2 S hp λh' he=>hQ h' s.toks λb o hb e=>he b o (λz=>hb (by simp[z])) e
 self:=λi s Q E st hQ=>by
  have ty:=st.1.typeIs;refine yD ty Aq (hV Aq ty BL ?_ (BM _));change wpAny _ _ (ret zaQ) _ _ s;show ay #[_,rfl, "set_iterator",_,ty,gO.lookup,hQ]
end
section
variable {s:aq}
theorem Mj {src:Source}{Q:Nat->aq->zu}(hn:n≠0) (h:∀ i,i<n->Q i { s with drawn:=s.drawn.bump src }):wpAny zh A (choose src n) Q E s:=λ_ _ _=>#[hn,h _ (aa2 _ (Nat.pos_of_ne_zero hn))]
theorem C8 {α:Type}:∀ (n:Nat) (l:List α) (s:aq) {Q:List α->aq->zu},l.length=n->(∀ l' d,l'.Perm l->Q l' { s with drawn:=d })->wpAny zh A (drawOrder n l) Q E s
 | 0,l,s,Q,hl,h=>by
   have:l=[]:=xj hl;subst this;show ay (h [] s.drawn (.refl _))
 |n+1,[],s,Q,hl,h=>by cases hl
 | n+1,x::l,s,Q,hl,h=>by
   unfold drawOrder;refine ak (Mj zi λi hi=>?_);rw[dq hi];refine ak (C8 n ((x::l).eraseIdx i) _ (by rw[Q7 hi];lia) λl' d p=>ay (h _ d ?_));show(p.cons _).trans (mB (x::l) hi)
def uv (h:aI) (it a q:aj) (i n ep:Nat):zu:=∃ o u1 u2 u3,h.get? it=ae o /\ o.cls=.type "set_iterator" /\ o.data=.fields (List.toArray [.ref q,.int (i:Nat) u1,.ref a,.int (n:Nat) u2,.int (ep:Nat) u3])
theorem uv.typeIs {q:aj}{i:Nat}(h:uv s.heap it a q i n ep):s.TypeIs zaQ "set_iterator":=by
 let#[o,_,_,_,e,c,_]:=h;show#[o,e,c]
theorem uv.at {q:aj}{i:Nat}(x:uv h it a q i n ep) (e:∀ o,h.get? it=ae o->h'.get? it=ae o):uv h' it a q i n ep:=by
 let#[o,u1,u2,u3,ho,r]:=x;show#[o,u1,u2,u3,e o ho,r]
theorem O7 {q:aj}{oq:aY}{ms:List Int}{es:Array (Int×ai)}{c:Nat}{ps:List Nat}{i:Nat}{e:Int×ai}{Q:Option ai->aq->zu}(hi:uv s.heap it a q i es.size ep) (ho:s.heap.get? a=ae o) (S:eB prog w (cA w) o ns es ep t ms)
 (hq:s.heap.get? q=ae oq) (yh:oq.data=.seq (ps.map λ(k:Nat)=>rawInt (k:Int)).toArray c) (hj:ps[i]?=ae j) (hx:es[j]?=ae e)
 (hQ:∀ h',uv h' it a q (i+1) es.size ep->Heap.SameBut it s.heap h'->Q (ae e.2) { s with heap:=h' }):wpAny zh A (pyNext zaQ) Q E s:=by
 have ty:=hi.typeIs;let#[oi,u1,u2,u3,pC,hc,hd]:=hi;unfold pyNext;refine ak (uH (qK (name:=Str.ofString "__next__") ty gO (hV gO ty lT ?_ (lU _))));unfold Builtin.«set_iterator.__next__»;refine ak (ay ?_);refine ak (wV pC hd ?_);change wpAny _ _ (setEntries a >>= λes'=>_) _ _ s;refine ak (yG ho S.d S.ft ?_);rw[if_neg zi];change wpAny _ _ (seqItems? (.ref q) >>= λr=>_) _ _ s;unfold seqItems?;refine ak (ak (wQ hq ?_));rw[yh];refine ay ?_;dsimp only;rw[kh,show (ps.map λ(k:Nat)=>rawInt (k:Int)).toArray[i]?=ae (rawInt (j:Int)) by simp[hj]];change wpAny _ _ (setNextDrawn a ((j:Nat):Int).toNat ((ep:Nat):Int).toNat >>= λr=>_) _ _ s;rw[kh,kh];unfold setNextDrawn;refine ak (ak (vz ho S.d S.ft ?_));dsimp only;rw[if_neg zi,hx];refine ay ?_;change wpAny _ _ (setField zaQ 1 (rawInt (((i:Nat):Int)+1)) >>= λ_=>_) _ _ _;refine ak (rY pC hd zi ?_);refine ay #[_,rfl,ay (hQ _ #[_,0,u2,u3,sq _ pC (xp (qj hd _)),(yO ..).trans hc,?_] (Heap.SameBut.update ..))];rw[qj hd];simp[rawInt]
end
section
variable {s:aq}
theorem Ub {q:aj}{oq:aY}{ms:List Int}{es:Array (Int×ai)}{c:Nat}{ps:List Nat}{i:Nat}{Q:Option ai->aq->zu}(hh:A.handled=ag) (hi:uv s.heap it a q i es.size ep) (ho:s.heap.get? a=ae o) (S:eB prog w (cA w) o ns es ep t ms)
 (hq:s.heap.get? q=ae oq) (yh:oq.data=.seq (ps.map λ(k:Nat)=>rawInt (k:Int)).toArray c) (hj:ps[i]?=ag)
 (hQ:∀ h',Heap.ExtBut it s.heap h'->Q ag { s with heap:=h' }):wpAny zh A (pyNext zaQ) Q E s:=by
 have ty:=hi.typeIs;let#[oi,u1,u2,u3,pC,hc,hd]:=hi;unfold pyNext;refine ak (uH (qK (name:=Str.ofString "__next__") ty gO (hV gO ty lT ?_ (lU _))));unfold Builtin.«set_iterator.__next__»;refine ak (ay ?_);refine ak (wV pC hd ?_);change wpAny _ _ (setEntries a >>= λes'=>_) _ _ s;refine ak (yG ho S.d S.ft ?_);rw[if_neg zi];change wpAny _ _ (seqItems? (.ref q) >>= λr=>_) _ _ s;unfold seqItems?;refine ak (ak (wQ hq ?_));rw[yh];refine ay ?_;dsimp only;rw[kh,show (ps.map λ(k:Nat)=>rawInt (k:Int)).toArray[i]?=ag by simpa using hj];change wpAny _ _ (setField zaQ 0 (rawInt 0) >>= λ_=>_) _ _ s;have h1:(s.heap.update it (Obj.mapFields (·.setIfInBounds 0 (rawInt 0)))).get? it=ae (Obj.mapFields (·.setIfInBounds 0 (rawInt 0)) oi):=sq _ pC (xp (qj hd _));have d1:(Obj.mapFields (·.setIfInBounds 0 (rawInt 0)) oi).data=.fields (List.toArray [rawInt 0,.int (i:Nat) u1,.ref a,.int (es.size:Nat) u2,.int (ep:Nat) u3]):=by rw[qj hd];simp
 refine ak (rY pC hd zi ?_);change wpAny _ _ (setField zaQ 2 .none >>= λ_=>_) _ _ _;refine ak (rY h1 d1 zi ?_);change wpAny _ _ (newExc (.type "StopIteration") [] >>= λe=>raiseNew e) _ _ _;refine ak (by
  erw[newExc,newTuple];refine ak (eR (ak (m:=firstArgMember _ _) (yB (a:=Value.none) (by first|rfl|(erw[firstArgMember];rfl)) (eR ?_ (by size_fits)))) (by size_fits));erw[raiseNew];refine ak (E9 ?_);rw[show A.in1.handled=ag from hh];refine ak (ay (Ha ?_));refine ak (yE (T:="StopIteration") (b:=ah) #[_,bF _ zc,rfl] Hb ?_);show ay (hQ _ ((((Heap.SameBut.update ..).trans (Heap.SameBut.update ..)).extBut.push _).push _)))
noncomputable def Ke (es:Array (Int×ai)) (ps:List Nat):List ai:=ps.map λk=>(es.getD k (0,.none)).2
theorem C9 {es:Array (Int×ai)}{ps:List Nat}(p:ps.Perm (List.range es.size)):(Ke es ps).Perm (es.toList.map (·.2)):=by
 refine(p.map _).trans (afk ?_);apply xh;intro i;by_cases h:i<es.size
 .simp[Array.getD,h]
 .simp[h]
theorem O8 (hh:A.handled=ag) {q:aj}(kW:a≠it) (ahL:q≠it) {oq:aY}{ms:List Int}{es:Array (Int×ai)}{c:Nat}{ps:List Nat}(S:eB prog w (cA w) o ns es ep t ms)
 (yh:oq.data=.seq (ps.map λ(k:Nat)=>rawInt (k:Int)).toArray c) (p:ps.Perm (List.range es.size)) :
 Walks prog w A it [it,a,q] [it] es.size (λi v=>(Ke es ps)[i]?=ae v) (λi h=>uv h it a q i es.size ep /\ h.get? a=ae o /\ h.get? q=ae oq) where
 sub:=λb hb=>by simp at hb;simp[hb]
 frame:=λ_ _ _ st hk=>#[st.1.at λo e=>hk it zi o e,hk a zi _ st.2.1,hk q zi _ st.2.2]
 item:=λi s Q E hi st hQ=>by
  have il:i<ps.length:=by rw[p.length_eq,xg];show hi
  have ej:ps[i]?=ae ps[i]:=dq il;have jl:ps[i]<es.size:=List.mem_range.mp (p.mem_iff.mp (sj il));have ex:es[ps[i]]?=ae es[ps[i]]:=by simp[jl]
  refine O7 st.1 st.2.1 S st.2.2 yh ej ex λh' i' sb=>?_;refine hQ _ h' s.toks ?_ #[i',(sb.2 a kW).trans st.2.1,(sb.2 q ahL).trans st.2.2] λb o hb e=>(sb.2 b λz=>hb (by simp[z])).trans e;unfold Ke;rw[kK,ej];simp[Array.getD,jl]
 done:=λs Q E st hQ=>Ub hh st.1 st.2.1 S st.2.2 yh (sf (by rw[p.length_eq,xg];show aD _)) λh' he=>hQ h' s.toks λb o hb e=>he b o (λz=>hb (by simp[z])) e
 self:=λi s Q E st hQ=>by
  have ty:=st.1.typeIs;refine yD ty Aq (hV Aq ty BL ?_ (BM _));change wpAny _ _ (ret zaQ) _ _ s;show ay #[_,rfl, "set_iterator",_,ty,gO.lookup,hQ]
end
section
variable {s:aq}
def ahM (prog:dg) (w:cn) (A:eE) (s:aq) (a:aj) (es:Array (Int×ai)) (it:aj) (s':aq):zu:=
 ∃ (h':aI) (d:Drawn) (us:List ai) (fp:List aj) (St:Nat->aI->zu),s'={ s with heap:=h',drawn:=d } /\ Kp s.heap h' /\ us.Perm (es.toList.map (·.2)) /\ it∈fp /\ (∀ b∈fp,b<h'.objs.size /\ (b=a \/ s.heap.objs.size<=b)) /\ s.heap.objs.size<=it /\
  Walks prog w A it fp [it] es.size (λi v=>us[i]?=ae v) St /\ St 0 h' /\ ∀ i h,St i h->∃ o,h.get? it=ae o /\ o.cls=.type "set_iterator"
theorem Mk (hh:A.handled=ag) {ms:List Int}{es:Array (Int×ai)}(ho:s.heap.get? a=ae o) (S:eB prog w (cA w) o ns es ep t ms)
 (h:∀ it s',ahM prog w A s a es it s'->Q zaQ s'):wpAny zh A (pyIter (.ref a)) Q E s:=by
 have ty:s.TypeIs (.ref a) "set":=#[o,ho,S.x.1];have al:=bj ho;refine yD ty ab7 (hV ab7 ty Fo ?_ (F.args_set_iter_1 _));unfold Builtin.«frozenset.__iter__»;change wpAny _ _ (Builtin.Frozenset.sizeOf a >>= λn=>_) _ _ s;unfold Builtin.Frozenset.sizeOf;refine ak (ak (yG ho S.d S.ft (ay ?_)));unfold setDrawn setsByText;refine ak (ak (vz ho S.d S.ft (ak (ak (uI (ay (ay ?_)))))));dsimp only;split
 .ext c;have c':(!cA w&&zah)=ah:=c;refine ak (C8 es.size (List.range es.size) s zi λps d p=>?_);unfold newTuple;refine ak (eR ?_ ?_)
  .have hq:(s.heap.push { cls:=.type "tuple",data:=.seq (ps.map λ(k:Nat)=>rawInt (k:Int)).toArray }).get? s.heap.objs.size=ae { cls:=.type "tuple",data:=.seq (ps.map λ(k:Nat)=>rawInt (k:Int)).toArray }:=bF _ zc;have EC:(s.heap.push { cls:=.type "tuple",data:=.seq (ps.map λ(k:Nat)=>rawInt (k:Int)).toArray }).get? a=ae o:=aX _ ho;refine ak (aaU EC S.d S.ft ?_);unfold newFields;refine ak (eR (ay ?_) (by size_fits));have sz:(s.heap.push { cls:=.type "tuple",data:=.seq (ps.map λ(k:Nat)=>rawInt (k:Int)).toArray }).objs.size=s.heap.objs.size+1:=uN ..;have gi:=bF (s.heap.push { cls:=.type "tuple",data:=.seq (ps.map λ(k:Nat)=>rawInt (k:Int)).toArray }) (o:={ cls:=.type "set_iterator",data:=.fields [.ref s.heap.objs.size,rawInt 0,.ref a,rawInt (es.size:Nat),rawInt (ep:Nat)].toArray }) zc
   refine#[_,rfl, "set_iterator",_,#[_,gi,rfl],gO.lookup,h _ _ #[_,d,Ke es ps,[_,a,s.heap.objs.size],_,rfl,λb o e=>aX _ (aX _ e),C9 p,.head _,λb hb=>?_,by rw[sz];show qb _,
    O8 hh (by rw[sz];show cB (qL al)) (by rw[sz];show cB (nF _)) S zc p,#[#[_,_,_,_,gi,rfl,rfl],aX _ EC,aX _ hq],λi h st=>?_]]
   .rw[uN,sz];erw[bz,pJ,or_false]at hb;rcases hb with rfl|rfl|rfl
    .rw[sz];show#[nF _,.inr (qb _)]
    .show#[qL (qL al),.inl zc]
    .show#[qL (nF _),.inr (aD _)]
   .let#[#[oi,_,_,_,e,cl,_],_]:=st;show#[oi,e,cl]
  .change (ps.map λ(k:Nat)=>rawInt (k:Int)).toArray.size<=sizeLine;have l1:=p.length_eq;have bd:=S.bd;have sb:scanBound=4096:=rfl;have sl:sizeLine=16777216:=br;rw[xg]at l1;simp;lia
 .ext c;have hp:cA w=af->zah=af:=λz=>by
   have c':¬ ((!cA w&&zah)=ah):=c;rw[z]at c';simpa using c'
  refine ak (ay ?_);change wpAny _ _ (setEpoch a >>= λe=>_) _ _ s;refine ak (aaU ho S.d S.ft ?_);change wpAny _ _ (newFields "set_iterator" [rawInt 0,rawInt 0,.ref a,rawInt (es.size:Nat),rawInt (ep:Nat)] >>= λv=>ret v) _ _ s;unfold newFields;refine ak (eR (ay ?_) (by size_fits));have gi:(s.heap.push { cls:=.type "set_iterator",data:=.fields [rawInt 0,rawInt 0,.ref a,rawInt (es.size:Nat),rawInt (ep:Nat)].toArray }).get? s.heap.objs.size=ae { cls:=.type "set_iterator",data:=.fields [rawInt 0,rawInt 0,.ref a,rawInt (es.size:Nat),rawInt (ep:Nat)].toArray }:=bF _ zc;refine#[_,rfl, "set_iterator",_,#[_,gi,rfl],gO.lookup,h _ _ #[_,s.drawn,given w a ep es,[s.heap.objs.size,a],_,rfl,λb o e=>aX _ e,mC a ep es,.head _,λb hb=>?_,aD _,Mi hh (cB al) S hp,#[#[_,_,_,_,_,gi,rfl,rfl],aX _ ho],λi h st=>?_]]
  .rw[uN];simp at hb;rcases hb with rfl|rfl
   .show#[nF _,.inr (aD _)]
   .show#[qL al,.inl zc]
  .let#[#[oi,_,_,_,_,e,cl,_],_]:=st;show#[oi,e,cl]
end
section
variable {s:aq}
noncomputable abbrev YD:aY:={ cls:=.type "list",data:=.seq ([]:List ai).toArray }
def ahN (s:aq) (s':aq):zu:=∃ h' d tk,s'={ s with heap:=h',drawn:=d,toks:=tk } /\ Kp s.heap h' /\ s.heap.objs.size<=h'.objs.size
theorem Db (hh:A.handled=ag) {ms:List Int}{es:Array (Int×ai)}{Q:List ai->aq->zu}(ho:s.heap.get? a=ae o) (S:eB prog w (cA w) o ns es ep t ms)
 (h:∀ us s',us.Perm (es.toList.map (·.2))->ahN s s'->Q us s'):wpAny zh A (collect (.ref a)) Q E s:=by
 have al:=bj ho;have nl:s.heap.objs.size≠a:=vA al;have ty:∀ h' d tk,Kp s.heap h'->Shared.TypeIs { s with heap:=h',drawn:=d,toks:=tk } (.ref a) "set":=λh' d tk k=>#[o,k a o ho,S.x.1];unfold collect;refine ak (QK (uE F.entry_proto_collect (by
  rw[yP F.plain_proto_collect _];refine ak (eR (ay #[Hc ab8 _,uE F.entry_list_iadd ?_]) (by size_fits));rw[yP ab8 _];change wpAny _ A.in1 (Builtin.List.listExtendWith zK (.ref a) zK) _ _ _;unfold Builtin.List.listExtendWith;have k1:Kp s.heap (s.heap.push YD):=λb ob e=>aX _ e;refine ak (vw (ty _ s.drawn s.toks k1) ?_);rw[if_neg (by simp[Builtin.List.listSameRef,nl])];refine ak (Mk (A:=A.in1) (by simp[hh]) (k1 a o ho) S λit s1 bg=>?_);let#[h1,d,us,fp,St,rfl,k2,pu,mi,fl,ge,W,ahO,cl]:=bg;have k3:Kp s.heap h1:=λb ob e=>k2 b ob (k1 b ob e);have g0:h1.get? s.heap.objs.size=ae YD:=k2 _ _ (bF _ zc);refine ak (hG ?_);unfold Builtin.List.listLengthHint;refine ak (aaG (ty h1 d s.toks k3) F.slot_set_len.lookup ?_);dsimp only;rw[show splitId "set.__len__"=ae ("set","__len__") by decide +kernel];dsimp only;refine ak (yE (b:=ah) (ty h1 d s.toks k3) aaP ?_);rw[if_neg ze];rw[if_pos zay];refine ak (vw (ty h1 d s.toks k3) ?_);refine ay ?_;rw[if_pos zay];refine ak (p8 (ak ?_));change wpAny _ A.in1 (updateSeq s.heap.objs.size (·.push .none) >>= λ_=>updateSeq s.heap.objs.size (·.pop)) _ _ _;have g1:=sq (Obj.mapSeq (·.push Value.none)) g0 zc;have g2:=sq (Obj.mapSeq (·.pop)) g1 zc;have z1:(s.heap.push YD).objs.size=s.heap.objs.size+1:=uN ..;have ahP:s.heap.objs.size+1<=it:=z1▸ge;have nf:s.heap.objs.size∉fp:=λm=>by
   rcases(fl _ m).2 with z|z
   .show nl z
   .show absurd (z1▸z:s.heap.objs.size+1<=s.heap.objs.size) (Nat.not_succ_le_self _)
  have adP:∀ b ob,b≠s.heap.objs.size->h1.get? b=ae ob->((h1.update s.heap.objs.size (Obj.mapSeq (·.push Value.none))).update s.heap.objs.size (Obj.mapSeq (·.pop))).get? b=ae ob:=λb ob ne e=>(HD _ _ (Ne.symm ne)).trans ((HD _ _ (Ne.symm ne)).trans e);have sl:es.size<=sizeLine:=QR S.bd;refine ak (aaV g0 zc (aaV g1 zc (ay #[Hc F.plain_extend_loop _,codeAny_extend_loopS W.toS sl _ nf _ es.size 0 _ _ _ zc (eS _) (W.frame 0 h1 _ ahO λb hb ob e=>adP b ob (λz=>nf (z▸hb)) e) g2 (ItemsOf.nil _) λs2 acc c mv gs Kf=>?_])));refine ak (wQ gs (ay (h _ s2 ?_ ?_)))
  .have e1:acc.toList=us:=by
    have ul:us.length=es.size:=by rw[pu.length_eq,a6,nH]
    apply xh;intro j;by_cases hj:j<acc.size
    .have ej:acc[j]?=ae acc[j]:=by simp[hj]
     rw[qP,ej];show(Kf.2 j _ ej).symm
    .have h3:=Kf.1;rw[qP,Xk zd,sf zd]
   rw[e1];show pu
  .let#[h2,gg,dd,tk,os]:=s2;have q1:gg=s.gens:=mv.gens;have q2:dd=d:=mv.drawn;have q3:os=s.os:=mv.os;subst q1 q2 q3;refine#[h2,dd,tk,rfl,λb ob e=>?_,nR (bj gs)];have bl:=bj e;refine mv.heap b ob ?_ (adP b ob (cB bl) (k3 b ob e));erw[bz,pJ,or_false,not_or];show#[cB bl,cB (hZ (qL bl) ahP)])))
end
section
variable {s:aq}
theorem Fq (hh:A.handled=ag) (S:pW prog w (cA w) s.heap a ns) (dZ:ns.length<64)
 (h:∀ (l:aj) (out:Array ai) (ks:List Int) (c:Nat) (h':aI) (d:Drawn) (tk:Nat),IntsAre out.toList ks->ks.Perm ns->ks.Pairwise (·<=·)->Kp s.heap h'->s.heap.objs.size<=l->h'.get? l=ae (seqObj "list" out c)->Q (.ref l) { s with heap:=h',drawn:=d,toks:=tk }) :
 wpAny zh A (call (.builtin "sorted") [.ref a]) Q E s:=by
 let#[o,es,ep,t,ms,ho,S]:=S;refine Xn W5 W6 W7 (W8 _) ?_;unfold Builtin.«sorted»;refine ak (m:=checkCount "sorted" 1 1 _) (ay (ak (Db (by simp[hh]) ho S λus s1 pu wk=>?_)));let#[h1,d,tk,rfl,k1,le]:=wk;let#[ks,ik,pk]:=jL pu S.vs;have ul:us.length<64:=by
  rw[ik.length,pk.length_eq,S.pm.length_eq];show dZ
 refine ak (yz ?_);have gl:(h1.push (seqObj "list" us.toArray 0)).get? h1.objs.size=ae (seqObj "list" us.toArray 0):=bF _ zc;refine ak (hG (hV W9 #[_,gl,rfl] Xa (abG gl ik ul λout js a1 a2 a3=>#[_,rfl,ay #[_,rfl,?_]]) (Xb _)));let#[c,gc]:=sortedHeap_at (vs:=us) (out:=out) gl;show h _ out js c _ d tk a1 ((a2.trans pk).trans S.pm) a3 (λb ob e=>by
  have bl:b<h1.objs.size:=bj (k1 b ob e);rw[sortedHeap_old (cB bl) (by rw[uN];show qL bl)];show aX _ (k1 b ob e)) le gc
end
end HT
namespace L2
open PySem.W
section
variable {a:au} {p p2 ur:aL} {t:TA}
def adQ (K:Frag) (vs:List V) (H:Hp) (Q:VK):zu:=∃ (p:aj) (ns:List Int),vs=[.ref p] /\ bX K H p (ns.map V.int) /\ ns.length<4000 /\ (HT.dist ns).length<64 /\ ∀ l,H l=ag->Q (.ref l) (upd H l (.lst ((DL.sortI (HT.dist ns)).map V.int)))
theorem Fs (hc:X.calm=ah) (hg:Gl X "sorted") (hm:X.mg "sorted"=ag) (v3:Gl X "set") (v7:X.mg "set"=ag) (ha:PA X [a] t) (hs:DL.bU a=ah) :
 PE X (.Call (.Name "sorted" p) [.Call (.Name "set" p2) [a] [] ur] [] pos) (Ii (adQ X.K) t):=by
 intro pins s σ H Q I h;have st:=DL.fI (e:=.Call (.Name "set" p2) [a] [] ur) zc [] X.env;refine uD (jv I hg hm (by decide +kernel:bootBuiltins "sorted"=ae (.builtin "sorted")) ?_ ze ze);refine callWith_builtin1 ?_ st (DL.lw (es:=[]) zc);rw[st];change wpAny _ _ (spliced ((af,eval (.Call (.Name "set" p2) [a] [] ur) X.env)::backTo pos (starEach [] X.env))) _ _ s;refine xr (uD (jv I v3 v7 (by decide +kernel:bootBuiltins "set"=ae (.type "set")) ?_ ze ze));refine callWith_type1 (tA (ha ur pins s σ H _ I h) λus s1 vs H1 I1 r1 q1=>?_) (DL.fI hs [] X.env) zc;let#[l,ns,rfl,hl,hn,dZ,q]:=q1;let#[u,rfl,ru]:=Vals.one r1;cases ru;have sb:scanBound=4096:=rfl;have hd:=I1.ok.hd hc;have fin:∀ s',HT.EJ X.prog X.w s1 ns s'->wpAny zg X.A (spliced (backTo pos (starEach [] X.env))) (λws s2=>wpAny zg X.A (call (.builtin "sorted") (.ref s1.heap.objs.size::ws)) zaz X.xe s2) X.xe s':=λs' e=>by
  let#[h',tk,rfl,S,hk]:=e;have lz:s1.heap.objs.size<=h'.objs.size:=by
   let#[o,_,_,_,_,ho,_]:=S;show nR (bj ho)
  refine xq (HT.Fq hd S dZ λL out ks c h2 d ahQ a1 a2 a3 k2 le gL=>?_);have e:ks=DL.sortI (HT.dist ns):=DL.oY (a2.trans (DL.gC _).symm) a3 (DL.iO _);subst e;have hf:H1 L=ag:=I1.aC.fresh (cC lz le);have ll:((DL.sortI (HT.dist ns)).map V.int).length<=sizeLine:=by
   rw[a6,(DL.gC _).length_eq];show cC (nR dZ) ze
  have I2:=I1.laid (h':=h2) (a:=L) (t':=ahQ) (o:=.lst ((DL.sortI (HT.dist ns)).map V.int)) (λb u e=>k2 b u (hk b u e)) (cC lz le) #[ll,out.toList,c,DL.oF a1,gL];show#[.ref L,_,#[I2.ok,I2.os,I2.bare,I2.base,I2.loc,I2.cell,I2.free,I2.qk,I2.pin,I2.aC,I2.len],rfl,q L hf]
 let#[its,r',pl,hz]:=I1.list hl;show HT.Mh (vs:=its) (ns:=ns) hd pl.isList (AV r') zd fin
end
end L2
namespace L2.DL
open PySem.W
def wu:List D->Option Res:=λxs=>match xs with
 |[.lst l]=>(intsOf l).bind λns=>if ns.length<4000 /\ (HT.dist ns).length<64 then ae (.lst ((sortI (HT.dist ns)).map D.int)) else ag
 |_=>ag
theorem ahR:kF (adQ K) wu:=by
 intro F H xs vs Q s sub rx e k;unfold wu at e;split at e
 .ext l;let#[v,t,rfl,#[a,ws,rfl,h3,h4],h2]:=rx;cases (show t=[] from h2);cases e1:intsOf l with
  |none=>rw[e1]at e;cases e
  |some ns=>
    rw[e1]at e;erw[cb]at e;split at e
    .ext hn;cases e;have q1:=h4.ints e1;subst q1;show#[a,ns,rfl,.of h3,hn.1,hn.2,λp hp=>k _ _ #[p,_,rfl,hp,rfl,AJ _]]
    .cases e
 .cases e
section
variable {a:au} {p p2 ur:aL} {m:DE (List W)}
theorem Ft (bo:Bool) (hc:X.calm=ah) (hg:Gl X "sorted") (hm:X.mg "sorted"=ag) (v3:Gl X "set") (v7:X.mg "set"=ag) (ha:dJ X T Z [a] m) (hs:bU a=ah) :
 PD X T Z (.Call (.Name "sorted" p) [.Call (.Name "set" p2) [a] [] ur] [] pos) (dN bo wu m):=PE.imp (Fs hc hg hm v3 v7 ha hs) (Lv ahR)
end
end L2.DL
namespace HT
open PySem.W
section
variable {s:aq} {v d:aj} {i:Nat}
end
section
variable {K:Type} [DecidableEq K] {knd:HeapKind prog w K} {s:aq} {d:aj} {k:K} {xs:List (K × aj × ai)} {v:ai}
end
end HT
namespace L2
open PySem.W
section
variable {o f:au} {dX p:aL} {td ty tx:TE}
end
section
variable {elt it ahS Kf:au} {ahT:List au} {scope:bW} {i acc:ai} {env:Env}
end
section
variable {s:aq}
end
abbrev TK:=St->Hp->List Int->(St->Hp->List Int->zu)->zu
section
variable {s:aq} {D:aj} 
end
section
variable {src:List (Option Nat)} {elt:au} {rest:List Comprehension} {scope:bW} {dX p:aL} {wi:TI} {g:TG} {tf:TT} {k:TK} {body:ai -> Env -> Sem Unit}
end
end L2
namespace L2.DL
section
variable {a:au} {p p1:aL}
end
noncomputable def YE (bx:List Bx) (k:Nat):Nat:=match bx[k]? with|some (.lst l)=>l.length|_=>0
section
variable {src:List (Option Nat)} {elt:au} {scope:bW} {g:DG} 
end
open PySem.W
abbrev DK:=aP->List Bx->List Int->Option (aP×List Bx×List Int)
section
variable {g:DG} {k:DK}
end
section
variable {src:List (Option Nat)} {elt ahS Kf:au} {ahT:List au} {scope:bW} {dX p:aL} {akf:DE (List W)} {g g2:DG} {akg:DE Bool} 
end
def uw:List D->Option (List Key)
 |[]=>ae []
 |d::l=>(nz d).bind λk=>(uw l).map λt=>k::t
theorem Gj:∀ {l:List D}{ks:List Key}{vs:List V},uw l=ae ks->aE F l vs->vs=ks.map kV:=by
 intro l_;induction l_ with
 |nil=>(intro _ _ e h;cases e;show h)
 |cons d l az=>
   intro ks _ e h;let#[v,t,rfl,h1,h2]:=h;unfold uw at e;cases e1:nz d with
   |none=>rw[e1]at e;cases e
   |some k=>
     cases e2:uw l with
     |none=>rw[e1,e2]at e;cases e
     |some t'=>
       rw[e1,e2]at e;cases e;rw[ji e1 h1,az e2 h2];rfl
noncomputable def eZ (l:List zaJ) (k:List Key):Option D:=(l.find? λx=>decide (x.1=k)).map (·.2)
theorem bR.length {F:Hp}:∀ {l:List zaJ}{r:List (List Key×V)},bR F l r->l.length=r.length
 |[],_,h=>by cases (show _=[] from h);rfl
 | (k,d)::l,_,h=>by
   let#[v,t,rfl,_,h2]:=h;simp[h2.length]
theorem bR.get {F:Hp}{k:List Key}:∀ {l:List zaJ}{r:List (List Key×V)},bR F l r->(∀ d,eZ l k=ae d->∃ v,eu r k=ae v /\ Den F d v) /\ (eZ l k=ag->eu r k=ag)
 |[],_,h=>by cases (show _=[] from h);show#[λd e=>by simp[eZ]at e,λ_=>rfl]
 | (k',d)::l,_,h=>by
   let#[v,t,rfl,h1,h2]:=h;by_cases e:k'=k
   .have g:eZ ((k',d)::l) k=ae d:=by simp[eZ,e]
    rw[g,jA e];show#[λd' z=>by cases z;show#[v,rfl,h1],λz=>by cases z]
   .have g:eZ ((k',d)::l) k=eZ l k:=by simp[eZ,e]
    rw[g,iZ e];show h2.get
section
variable {o f:au} {p dX:aL} {mc:DE W}
noncomputable def yi:DE W:=λ_ bx=>.val zaM (bx++[.dT []])
theorem O9:PD X T Z (.Dict [] [] pos) yi:=by
 refine PE.imp CZ λσ H Q=>x4 λF r env bx R h=>λq hq=>?_;refine h F (r++[q]) _ _ #[Sub.refl F,xf r [q]] (R.Iy hq #[R.qZ hq,[],fw,rfl]) #[q,rfl,?_];rw[<-R.len,dU (aD _),tH];rfl
end
section
variable {o f:au} {mc:DE W} {Ic:aL}
noncomputable def ux (l:List (Key×D)) (k:Key):List (Key×D):=l.filter λkv=>decide (kv.1≠k)
theorem aR.drop {F:Hp}(k:Key):∀ {l:List (Key×D)}{vs:List (Key×V)},aR F l vs->aR F (ux l k) (qu vs k)
 | [],_,h=>by
   cases (show _=[] from h);show rfl
 | (k',d)::l,_,h=>by
   let#[v,t,rfl,h1,h2]:=h;have ih:=aR.drop k h2;by_cases c:k'=k
   .have e1:ux ((k',d)::l) k=ux l k:=uK (by simp[c]);have e2:qu ((k',v)::t) k=qu t k:=uK (by simp[c]);rw[e1,e2];show ih
   .have e1:ux ((k',d)::l) k=(k',d)::ux l k:=uL (by simp[c]);have e2:qu ((k',v)::t) k=(k',v)::qu t k:=uL (by simp[c]);rw[e1,e2];show#[v,_,rfl,h1,ih]
theorem bf.at {r':List aj}(g:bf F r F' r') (h:r[n]?=ae a):r'[n]?=ae a:=by
 let#[t,e]:=g.p;rw[<-e,eD (List.getElem?_eq_some_iff.mp h).1];show h
def vc (m k:DE W):DE W:=λenv bx=>fA zC λx bx1=>match x with
 | .b n=>(match bx1[n]? with
   | some (.aA _)=>fA (k env bx1) λy bx2=>(match y,bx2[n]? with
     |.d d,ae (.aA l)=>(match nz d with|some k=>.val (.d ((c7 l k).getD .non)) bx2|none=>.bad)
     |_,_=>.bad)
   |_=>.bad)
 |_=>.bad
theorem Pa {Q:VK}(h:tD T Z (vc ma mb) σ H Q):adA (tD T Z ma) (tD T Z mb) σ H Q:=by
 let#[F,r,env,bx,R,h]:=h;refine#[F,r,env,bx,R,End.bind h λx bx1 F1 r1 v H1 g1 R1 d1 h1=>?_];cases x with
 |b n=>
   simp only at h1;let#[a,rfl,ha]:=d1;let#[c,hc,kc]:=R1.eU ha;rw[hc]at h1;cases c with
   |aA l0=>
     let#[_,sQ,k0,_]:=kc;refine#[a,rfl,.inl #[sQ,.inl k0],F1,r1,env,bx1,R1,End.bind h1 λy bx2 F2 r2 u H2 g2 R2 d2 h2=>?_];let#[c2,eT,rD]:=R2.eU (g2.at ha);rw[eT]at h2;split at h2
     .ext d l eq;cases eq;let#[hF,vs,k1,k2]:=rD;split at h2
      .ext k e1;cases ji e1 d2;refine#[_,qv.k k1,?_];cases q:c7 l k with
       |none=>
         rw[q]at h2;rw[aR.none k2 q];show h2 F2 r2 _ H2 (.refl F2 r2) R2 zc
       |some w=>
         rw[q]at h2;let#[z,e3,e4]:=aR.some k2 q;rw[e3];show h2 F2 r2 _ H2 (.refl F2 r2) R2 e4
      .show h2.elim
     .show h2.elim
   |_=>show h1.elim
 |_=>show h1.elim
theorem Ml (hu:X.A.units+1<cLine) (ho:PD X T Z o ma) (ha:PD X T Z e mb) (m:M1 X o "get" apos e pos):PD X T Z (.Call (.Attribute o "get" apos) [e] [] pos) (vc ma mb):=
 PE.imp (LQ hu ho ha m) λσ H Q h=>Pa h
def yj (m k:DE W):DE W:=λenv bx=>fA zC λx bx1=>match x with
 | .b n=>(match bx1[n]? with
   | some (.aA _)=>fA (k env bx1) λy bx2=>(match y,bx2[n]? with
     |.d d,ae (.aA l)=>(match nz d with|some k=>(match c7 l k with|some u=>.val (.d u) (bx2.set n (.aA (ux l k)))|none=>.bad)|none=>.bad)
     |_,_=>.bad)
   |_=>.bad)
 |_=>.bad
theorem Uc {Q:VK}(h:tD T Z (yj ma mb) σ H Q):adB (tD T Z ma) (tD T Z mb) σ H Q:=by
 let#[F,r,env,bx,R,h]:=h;refine#[F,r,env,bx,R,End.bind h λx bx1 F1 r1 v H1 g1 R1 d1 h1=>?_];cases x with
 |b n=>
   simp only at h1;let#[a,rfl,ha]:=d1;let#[c,hc,kc]:=R1.eU ha;rw[hc]at h1;cases c with
   |aA l0=>
     let#[_,sQ,k0,_]:=kc;refine#[a,rfl,.inl #[sQ,.inl k0],F1,r1,env,bx1,R1,End.bind h1 λy bx2 F2 r2 u H2 g2 R2 d2 h2=>?_];have rC:=g2.at ha;let#[c2,eT,rD]:=R2.eU rC;rw[eT]at h2;split at h2
     .ext d l eq;cases eq;let#[hF,vs,k1,k2]:=rD;split at h2
      .ext k e1;cases ji e1 d2;split at h2
       .ext w q;let#[z,e3,e4]:=aR.some k2 q;show#[vs,k,z,k1,rfl,e3,h2 F2 r2 _ _ (.refl F2 r2) (R2.write rC hF #[hF,_,fw,aR.drop k k2]) e4]
       .show h2.elim
      .show h2.elim
     .show h2.elim
   |_=>show h1.elim
 |_=>show h1.elim
theorem Pb (ho:PD X T Z o ma) (ha:PD X T Z e mb) (m:M1 X o "pop" apos e pos):PD X T Z (.Call (.Attribute o "pop" apos) [e] [] pos) (yj ma mb):=
 PE.imp (LR ho ha m) λσ H Q h=>Uc h
def uz (m k:DE W):aB:=λenv bx=>bC zC λx bx1=>bC (k env bx1) λy bx2=>match x,y with
 | .b n,.d d=>(match bx2[n]?,nz d with
   |some (.aA l),ae k=>if (c7 l k).isSome then .nx env (bx2.set n (.aA (ux l k))) else .bad
   |_,_=>.bad)
 |_,_=>.bad
theorem VS {D:Ends}(h:tS T Z (uz ma mb) D σ H):ady (tD T Z ma) (tD T Z mb) D σ H:=by
 let#[F,r,env,bx,R,h]:=h;refine#[F,r,env,bx,R,End.bC h λx bx2 F2 r2 v H2 g2 R2 d2 h2=>#[F2,r2,env,bx2,R2,End.bC h2 λy bS F3 r3 u H3 g3 R3 d3 h3=>?_]];split at h3
 .ext n d;let#[a,rfl,ha]:=(g3.den (w:=.b n) d2:bN F3 r3 (.b n) v);let#[c,hc,kc]:=R3.eU ha;rw[hc]at h3;split at h3
  .ext l k e1 e2;cases e1;split at h3
   .ext hl;let#[hF,ao,k1,k2]:=kc;cases ji e2 d3;show#[a,ao,k,rfl,k1,rfl,by rw[L8 k2];show hl,h3 F3 r3 _ _ (.refl F3 r3) (R3.write ha hF #[hF,_,fw,aR.drop k k2])]
   .show h3.elim
  .show h3.elim
 .show h3.elim
theorem Pc (ho:PD X T Z o ma) (hi:PD X T Z e mb):cM X T Z (.Delete [.Subscript o e Ic] pos) (uz ma mb):=
 PS.imp (OD ho hi) λD σ H h=>VS h
def rN (m:DE W) (k:DE W):DE W:=λenv bx=>fA zC λx bx1=>match x with
 | .b n=>(match bx1[n]? with
   | some (.lst _)=>fA (k env bx1) λy bx2=>(match y,bx2[n]? with
     |.d (.lst r),ae (.lst l)=>if l.length+r.length<=sizeLine then .val (.d .non) (bx2.set n (.lst (l++r))) else .bad
     |_,_=>.bad)
   |_=>.bad)
 |_=>.bad
theorem VT {Q:VK}(h:tD T Z (rN ma mb) σ H Q):Ip X.K "list" acY (tD T Z ma) (Ig (tD T Z mb) Ie) σ H Q:=by
 let#[F,r,env,bx,R,h]:=h;refine#[F,r,env,bx,R,End.bind h λx bx1 F1 r1 v H1 g1 R1 d1 h1=>?_];cases x with
 |b n=>
   simp only at h1;let#[a,rfl,ha]:=d1;let#[c,hc,kc]:=R1.eU ha;rw[hc]at h1;cases c with
   |lst l0=>
     let#[_,sQ,k0,_]:=kc;refine#[.inl #[rfl,sQ,bX.of k0],F1,r1,env,bx1,R1,End.bind h1 λy bx2 F2 r2 u H2 g2 R2 d2 h2=>?_];have rC:=g2.at ha;let#[c2,eT,rD]:=R2.eU rC;rw[eT]at h2;split at h2
     .ext q l eq;cases eq;let#[hF,vs,k1,k2]:=rD;let#[b,zs,rfl,k3,k4]:=d2;split at h2
      .ext hz;show#[a,b,vs,zs,rfl,rfl,k1,R2.fh _ _ k3,by rw[<-k2.length,<-k4.length];show hz,h2 F2 r2 _ _ (.refl F2 r2) (R2.write rC hF #[hF,vs++zs,fw,k2.append k4]) zc]
      .show h2.elim
     .show h2.elim
   |_=>show h1.elim
 |_=>show h1.elim
theorem Jz (ho:PD X T Z o ma) (ha:PD X T Z e mb)
 (vS:attributeBase o "extend" X.env (eval o X.env)=eval o X.env:=by rfl)
 (vT:((backTo pos (starEach [e] X.env)).all (λx=>!x.1)&&(backToKw pos (keywordEach [] X.env)).all (λx=>x.1.isSome)
  && decide zaf)=ah:=by rfl)
 (vU:(apos.endLine==pos.line)=ah:=by rfl) (hs:starEach [e] X.env=zaS::starEach [] X.env:=by rfl) :
 PD X T Z (.Call (.Attribute o "extend" apos) [e] [] pos) (rN ma mb):=
 PE.imp (Lo Xt PySem.F.slot_list_extend PySem.F.type_list_extend G5 ho (jg ha lh hs) vS vT vU hs (by rfl)) λσ H Q h=>VT h
end
section
variable {i:Nat} {l:List D} {vs:List V}
end
end L2.DL
namespace L2
end L2
namespace L2.DL
section
variable {a b c f o:au} {mc:DE W} {p:aL} {k k' nn:Nat} {ps:List Str} {m:DE (List W)}
end
end L2.DL
namespace L2
open PySem.W
section
variable {s:aq} {ao:List (Key × V)} 
theorem Inv.adR (I:Inv X pins σ H s) {u0 u:HO}(h:H a=ae u0) (n1:∀ xs,u0≠.tup xs) (n2:∀ o v,X.H₀ a≠ae (.bI o v)) (n3:∀ ps,u0≠.uP ps) (n4:∀ y,u0≠.own y) (new:bG X.prog X.w (upd H a u) s.heap a u):Inv X pins σ (upd H a u) s:=by
 have ne:∀ {b},H b=ag->upd H a u b=ag:=λ{b} e=>by rw[fB (λz=>by rw[z,h]at e;cases e)];show e
 have ke:∀ {b v},H b=ae v->v≠u0->upd H a u b=ae v:=λ{b v} e n=>by rw[fB (λz=>by rw[z,h]at e;cases e;show n rfl)];show e
 refine#[I.ok,I.os,I.bare,#[I.base.keep,I.base.slot,λb o e n x=>ne (I.base.free b o e n x),I.base.there,λb xs e=>ke (I.base.nV b xs e) (λz=>n1 xs z.symm),λb o v e=>?_,λb ps e=>?_],I.loc,I.cell,ne I.free,λx c e=>ne (I.qk x c e),λp hp=>?_,λb v e=>?_,I.len]
 .rw[fB (λz=>n2 o v (by rw[<-z];show e))];show I.base.pM b o v e
 .let#[m,q]:=I.base.qT b ps e;show#[m,ke q (λz=>n3 _ z.symm)]
 .let#[q1,q2,q3]:=I.pin p hp;show#[q1,ne q2,q3]
 .by_cases z:b=a
  .subst z;rw[fw]at e;cases e;show new
  .rw[fB z]at e;show(I.aC b v e).stay (λ_ _ _ q=>q) (λc q=>ke q (λz=>n4 _ z.symm)) λc xs q=>ke q (λz=>n1 _ z.symm)
theorem Inv.freeze (I:Inv X pins σ H s) (h:H a=ae zag):∃ o,s.heap.get? a=ae o /\ (∀ o v,X.H₀ a≠ae (.bI o v)) /\ Inv X pins σ (upd H a (.bI o zag)) s:=by
 let#[z,y,vs,r,ob,es,ep,e,c]:=I.aC a _ h;have nf:∀ o v,X.H₀ a≠ae (.bI o v):=λo v q=>by have:=I.base.pM a o v q;rw[h]at this;cases this
 show#[ob,e,nf,I.adR h (λ_ q=>nomatch q) nf (λ_ q=>nomatch q) (λ_ q=>nomatch q) #[e,z,y,vs,r,ob,es,ep,e,c]]
theorem Inv.sW (I:Inv X pins σ H s) (h:H a=ae (.bI o zag)) (nf:∀ o v,X.H₀ a≠ae (.bI o v)):Inv X pins σ (upd H a zag) s:=by
 let#[_,q]:=I.aC a _ h;show I.adR h (λ_ q=>nomatch q) nf (λ_ q=>nomatch q) (λ_ q=>nomatch q) q
def EK (a:aj) (o:aY) (ao:List (Key×V)):It:=
 #[λi H=>H a=ae (.bI o zag) /\ i<ao.length,λi H x H'=>H'=H /\ ∃ k v,ao[i]?=ae (k,v) /\ x=kV k,λi H=>H a=ae (.bI o zag) /\ ao.length<=i]
theorem Paired.at_ {α β:Type}{F:α->β->zu}:∀ {l:List α}{m:List β}{i:Nat}{x:α},Paired F l m->l[i]?=ae x->∃ y,m[i]?=ae y /\ F x y
 |_,_,_,_,.nil,e=>by simp at e
 |_,_,0,_,.cons r t,e=>by simp at e;subst e;show#[_,rfl,r]
 |_,_,i+1,_,.cons r t,e=>by let#[y,q,f]:=Paired.at_ (i:=i) t (by simpa using e);show#[y,by simpa using q,f]
theorem Pd {k:Key}{v:ai}(h:(dh P w).is k v=ah):RelV (kV k) v:=by
 rcases fY h with⟨i,t,rfl,rfl⟩|⟨x,t,rfl,rfl⟩
 .show#[t,rfl]
 .show#[t,rfl]
theorem Cd {es:Array DictEntry}(q:bG P w H h a (.bI o zag)) (ed:o.data=.dict es ep):∃ vs,KV ao vs /\ h.DictAt (dh P w) a vs ep:=by
 let#[e,_,_,vs,r,ob,es',sx,e',c1,c2,c3]:=q;rw[e]at e';cases e';rw[ed]at c2;cases c2;show#[vs,r,o,es,e,c1,ed,c3]
theorem JA (it:aj) {es:Array DictEntry}(ed:o.data=.dict es ep) (ne:a≠it):Turn P w K tg (EK a o ao) [it] it (λi h=>h.IsKeyIter it a i ao.length ep) where
 mem:=by simp
 obj:=λi h st b hb=>by
  have e:b=it:=by simpa using hb
  subst e;let#[o,e,c,d]:=st;show#[o,e,λv z=>by rw[d]at z;cases z]
 keep:=λi h h' st k=>st.at λo e=>k it zi o e
 item:=by
  intro X hP hw hK hc i pins s σ H E I hf st hg;subst hP hw hK;let#[ha,hi]:=hg;let#[vs,r,da]:=Cd (I.aC a _ ha) ed;have hl:ao.length=vs.length:=Paired.length r;obtain⟨⟨k,v⟩,hx⟩:∃ p,ao[i]?=ae p:=#[ao[i],by simp[hi]];let#[#[k',v'],hy,e1,_]:=Paired.at_ r hx;cases (show k=k' from e1);let#[f0,f1,f2,f3,f4,f5]:=hf it zi;rw[hl]at st;refine wpAny_pyNext_dict_item st da hy λkey h' XT nX sb=>?_;have I1:Inv X pins σ H { s with heap:=h' }:=I.turned (t':=s.toks) (λb o hb e=>(sb.2 b hb).trans e) f0 f1 f3 f4 f5;let#[o,e,c,d]:=id nX;show#[key,rfl,CM (s:={ s with heap:=h' }) e c d ze #[kV k,H,I1,Pd XT,#[rfl,k,v,hx,rfl],by rw[hl];show nX,λb hb=>(hf b hb).1]]
 done:=by
  intro X hP hw hK hc i pins s σ H E I hf st hg;subst hP hw hK;let#[ha,hi]:=hg;let#[vs,r,da]:=Cd (I.aC a _ ha) ed;have hl:ao.length=vs.length:=Paired.length r;let#[f0,f1,f2,f3,f4,f5]:=hf it zi;rw[hl]at st;show wpAny_pyNext_dict_end (I.ok.hd hc) st da (sf zd) λh' eb=>#[rfl,I.turned (t':=s.toks) (λb o hb e=>eb b o hb e) f0 f1 f3 f4 f5]
 self:=λ_ _ _ _ _ st h=>aaW st h
def NF (H₀:Hp) (a:aj):zu:=∀ o v,H₀ a≠ae (.bI o v)
def YF (H₀:Hp) (tl:TE):TI:=λσ H R=>tl σ H λx H1=>∃ a ao,x=.ref a /\ ((H1 a=ae zag /\ ∀ o,NF H₀ a->R (EK a o ao) (upd H1 a (.bI o zag))) \/ ∃ o,H1 a=ae (.bI o zag) /\ R (EK a o ao) H1)
theorem Mm {l:au}{tl:TE}(hl:PE X l tl):PI X tg l (YF X.H₀ tl):=by
 intro pins s σ H R I h;refine tE (hl pins s σ H _ I h) λv s1 x H1 I1 r1 q1=>?_;let#[a,ao,e,q]:=q1;subst e;cases r1;obtain⟨o,H2,I2,e2,q2⟩:∃ o H2,Inv X pins σ H2 s1 /\ H2 a=ae (.bI o zag) /\ R (EK a o ao) H2:=by
  rcases q with⟨e,q⟩|⟨o,e,q⟩
  .let#[o,_,nf,I2]:=I1.freeze e;show#[o,_,I2,fw,q o nf]
  .show#[o,H1,I1,e,q]
 let#[e3,_,y,_,_,ob,es,ep,e4,_,ed,_]:=id (I2.aC a _ e2);rw[e3]at e4;cases e4;let#[vs,r,da]:=Cd (I2.aC a _ e2) ed;have hl:ao.length=vs.length:=Paired.length r;refine wpAny_pyIter_dict y da ?_;refine#[s1.heap.objs.size,[s1.heap.objs.size],_,_,H2,rfl,I2.kept (t':=s1.toks) λb o e=>aX _ e,JA _ ed (cB (I2.aC.lt e2)),#[_,bF _ zc,rfl,by rw[hl];rfl],λb hb=>?_,q2];have e:b=s1.heap.objs.size:=by simpa using hb
 subst e;show I2.vM (aD _) (I2.aC.fresh (aD _))
def vd (H₀:Hp) (Q:α->Hp->zu):α->Hp->zu:=λx H=>Q x H \/ ∃ a o ao,H a=ae (.bI o zag) /\ NF H₀ a /\ Q x (upd H a zag)
noncomputable def Ends.sW (H₀:Hp) (D:Ends):Ends:=#[vd H₀ D.nx,vd H₀ D.rt,vd H₀ D.bk,vd H₀ D.ct]
theorem Ce {s:aq}{Q:α->Hp->zu}{x:α}(I:Inv X pins σ H s) (q:vd X.H₀ Q x H):∃ H',Inv X pins σ H' s /\ Q x H':=by
 rcases q with q|⟨a,o,ao,e,nf,q⟩
 .show#[H,I,q]
 .show#[_,I.sW e nf,q]
theorem Gk {t:TS}(h:PS X st t):PS X st (λD=>t (D.sW X.H₀)):=λpins s σ H D I q=>cq (h pins s σ H _ I q) λf s' q'=>by
 cases f with
 |ret v=>let#[x,σ',H',I',r,q']:=q';let#[H2,I2,q2]:=Ce I' q';show#[x,σ',H2,I2,r,q2]
 |_=>let#[σ',H',I',q']:=q';let#[H2,I2,q2]:=Ce I' q';show#[σ',H2,I2,q2]
end
end L2
namespace L2.DL
open PySem.W
noncomputable def Kg:Key->D
 |.inl i=>.int i
 |.inr x=>.str x
noncomputable def ve (F:Hp) (a:aj):Hp:=λb=>if b=a then ag else F b
theorem jM {b:aj}(h:b≠a):ve F a b=F b:=if_neg h
section
variable {l:List (Key × D)} {ao:List (Key × V)}
theorem Gm:∀ {l:List (Key×D)}{ao:List (Key×V)}{i:Nat}{k:Key}{v:V},aR F l ao->ao[i]?=ae (k,v)->∃ d,l[i]?=ae (k,d) /\ Den F d v
 |[],_,i,_,_,h,e=>by cases (show _=[] from h);simp at e
 | (k',d)::l,_,0,_,_,h,e=>by
   let#[u,t,rfl,h1,_]:=h;simp at e;let#[rfl,rfl]:=e;show#[d,rfl,h1]
 | (k',d)::l,_,i+1,_,_,h,e=>by
   let#[u,t,rfl,_,h2]:=h;show Gm (i:=i) h2 (by simpa using e)
theorem Ar (h:F a=ae (.bI o zag)):xM F (ve F a):=λb u n e=>by
 rw[jM (λz=>by rw[z,h]at e;cases e;show n _ _ rfl)];show e
theorem bN.off (h:F a=ae (.bI o zag)):∀ {w:W}{v:V},bN F r w v->bN (ve F a) r w v
 |.d x,_,q=>Den.dY (Ar h) x q
 |.b _,_,q=>q
 |.s _,_,q=>let ⟨b,ob,e,q⟩:=q;#[b,ob,e,by rw[jM (λz=>by rw[z,h]at q;cases q)];show q]
 |.x _,_,q=>q
 |.t _,_,q=>let ⟨c,as,e,h1,h2⟩:=q;#[c,as,e,Ar h _ _ (λ_ _ z=>nomatch z) h1,h2]
 |.m _,_,q=>let ⟨c,as,e,h1,h2⟩:=q;#[c,as,e,Ar h _ _ (λ_ _ z=>nomatch z) h1,h2]
theorem Rel.bI (R:Rel T F r σ H env bx) (hb:bx[n]?=ae (.aA l)) (ha:r[n]?=ae a) (k0:F a=ag) (k2:aR F l ao) :
 Rel T (upd F a (.bI o zag)) r σ (upd H a (.bI o zag)) env (bx.set n (.fD l)):=by
 have s:=iB (o:=.bI o zag) k0;have ma:a∈r:=List.mem_iff_getElem?.mpr #[n,ha];refine#[λb u e=>?_,λi w e=>?_,by rw[qh];show R.len,R.nd,λm c b e1 e2=>?_,λb u e hn=>?_,R.new,R.n0,R.sl,λb u e=>?_]
 .by_cases z:b=a
  .subst z;rw[fw]at e ⊢;show e
  .rw[fB z]at e ⊢;show R.fh b u e
 .let#[v,e1,e2]:=R.slot i w e;show#[v,e1,e2.mono s (pI r)]
 .by_cases z:m=n
  .subst z;rw[qf (List.getElem?_eq_some_iff.mp hb).1]at e1;cases e1;rw[ha]at e2;cases e2;show#[o,ao,fw,fw,aR.mono s _ k2]
  .rw[tJ (λq=>z q.symm)]at e1;have nb:b≠a:=λq=>z (lm R.nd e2 (q▸ha));show(R.box m c b e1 e2).grow s (λq=>by rw[fB nb];show q) (λu q=>by rw[fB nb];show q)
 .rw[fB (λz=>hn (by rw[z];show ma))];show R.keep b u e hn
 .by_cases z:b=a
  .subst z;show .inr (.inr (.inr ma))
  .rw[fB z]at e;show R.fs b u e
theorem Rel.YG (R:Rel T F r σ H env bx) (hb:bx[n]?=ae (.fD l)) (ha:r[n]?=ae a) :
 ∃ o ao,F a=ae (.bI o zag) /\ H a=ae (.bI o zag) /\ Rel T (ve F a) r σ (upd H a zag) env (bx.set n (.aA l)):=by
 let#[o,ao,f1,h1,dk]:=R.box n _ a hb ha;have sd:=Ar f1;have ma:a∈r:=List.mem_iff_getElem?.mpr #[n,ha];refine#[o,ao,f1,h1,λb u e=>?_,λi w e=>?_,by rw[qh];show R.len,R.nd,λm c b e1 e2=>?_,λb u e hn=>?_,R.new,R.n0,R.sl,λb u e=>?_]
 .by_cases z:b=a
  .subst z;unfold ve at e;rw[if_pos rfl]at e;cases e
  .rw[jM z]at e;rw[fB z];show R.fh b u e
 .let#[v,e1,e2]:=R.slot i w e;show#[v,e1,e2.off f1]
 .by_cases z:m=n
  .subst z;rw[qf (List.getElem?_eq_some_iff.mp hb).1]at e1;cases e1;rw[ha]at e2;cases e2;show#[if_pos zc,ao,fw,aR.dY sd _ dk]
  .rw[tJ (λq=>z q.symm)]at e1;have nb:b≠a:=λq=>z (lm R.nd e2 (q▸ha));have q:=R.box m c b e1 e2;have fo:F b=ag->ve F a b=ag:=λz=>by rw[jM nb];show z
   have ho:∀ {u},H b=ae u->upd H a zag b=ae u:=λz=>by rw[fB nb];show z
   cases c with
   |lst _=>let#[q1,vs,q2,q3]:=q;show#[fo q1,vs,ho q2,aE.dY sd _ q3]
   |aA _=>let#[q1,vs,q2,q3]:=q;show#[fo q1,vs,ho q2,aR.dY sd _ q3]
   |dead=>let#[u,q]:=q;show#[u,ho q]
   |dT _=>let#[q1,vs,q2,q3]:=q;show#[fo q1,vs,ho q2,bR.dY sd _ q3]
   |fD _=>let#[o2,vs,q1,q2,q3]:=q;show#[o2,vs,by rw[jM nb];show q1,ho q2,aR.dY sd _ q3]
 .rw[fB (λz=>hn (by rw[z];show ma))];show R.keep b u e hn
 .by_cases z:b=a
  .subst z;unfold ve at e;rw[if_pos rfl]at e;cases e
  .rw[jM z]at e;show R.fs b u e
theorem bf.off {r':List aj}{u:HO}(g:bf (upd F a u) r F' r') (k0:F a=ag):bf F r (ve F' a) r':=#[λb v e=>by
 have nb:b≠a:=f7 e k0;rw[jM nb];show g.s b v (by rw[fB nb];show e),g.p]
def rO (l:List (Key×D)):List W:=l.map λp=>.d (Kg p.1)
theorem jN (g:F' a=ae (.bI o zag)) (k2:aR F l ao):u5 F' r (rO l) (EK a o ao):=λT' i F1 r1 σ1 H1 env1 bx1 g1 R1=>by
 have h:=R1.fh a _ (g1.s a _ g);have hl:=k2.length;refine#[λe=>#[h,by rw[<-hl,<-e];simp[rO]],λw e=>?_];unfold rO at e;rw[kK]at e;have hi:i<ao.length:=by
  rw[<-hl];cases q:l[i]? with
  |none=>rw[q]at e;cases e
  |some p=>show(List.getElem?_eq_some_iff.mp q).1
 refine#[#[h,hi],λx H2 ⟨e2,k,v,e3,e4⟩=>?_];subst e2 e4;let#[d,e5,_]:=Gm k2 e3;rw[e5]at e;cases e;refine#[F1,.refl F1 r1,R1,?_];cases k<;>show rfl
noncomputable def pD (n:Nat) (bx:List Bx):Option (List Bx):=match bx[n]? with|some (.fD l)=>ae (bx.set n (.aA l))|_=>ag
def vf (n:Nat):OS->OS
 |.nx env bx=>(match pD n bx with|some b=>.nx env b|none=>.bad)
 |.rt w bx=>(match pD n bx with|some b=>.rt w b|none=>.bad)
 |.exc c bx=>.exc c bx
 |_=>.bad
def yk (n:Nat):O W->O W
 |.val w bx=>(match pD n bx with|some b=>.val w b|none=>.bad)
 |o=>o
theorem Fu {b:List Bx}(h:pD n bx=ae b):∃ l,bx[n]?=ae (.fD l) /\ b=bx.set n (.aA l):=by
 unfold pD at h;split at h
 .cases h;show#[_,by assumption,rfl]
 .cases h
theorem Pe {H₀:Hp}{u:HO}{D:Ends}(k0:F a=ag) (ha:r[n]?=ae a) (nf:NF H₀ a):∀ {q:OS},cR T Z F r D (vf n q)->cR T Z (upd F a u) r (D.sW H₀) q
 | .nx e b,h=>λF2 r2 σ2 H2 g2 R2=>by
   cases q:pD n b with
   |none=>erw[vf,q]at h;show h.elim
   |some b2=>
     erw[vf,q]at h;let#[l,hl,rfl]:=Fu q;let#[o,ao,f1,h1,R3]:=R2.YG hl (g2.at ha);show .inr #[a,o,ao,h1,nf,h _ r2 σ2 _ (g2.off k0) R3]
 | .rt w b,h=>λF2 r2 v H2 g2 R2 dv=>by
   cases q:pD n b with
   |none=>erw[vf,q]at h;show h.elim
   |some b2=>
     erw[vf,q]at h;let#[l,hl,rfl]:=Fu q;let#[o,ao,f1,h1,R3]:=R2.YG hl (g2.at ha);show .inr #[a,o,ao,h1,nf,h _ r2 v _ (g2.off k0) R3 (dv.off f1)]
 |.exc c b,h=>λF2 r2 H2 g2 R2=>h F2 r2 H2 #[(iB k0).trans g2.s,g2.p] R2
 |.bk _ _,h=>h.elim
 |.ct _ _,h=>h.elim
 |.bad,h=>h.elim
theorem Pf {H₀:Hp}{u:HO}{Q:VK}(k0:F a=ag) (ha:r[n]?=ae a) (nf:NF H₀ a):∀ {q:O W},End T Z bN F r σ env Q (yk n q)->End T Z bN (upd F a u) r σ env (vd H₀ Q) q
 | .val w b,h=>λF2 r2 v H2 g2 R2 dv=>by
   cases q:pD n b with
   |none=>erw[yk,q]at h;show h.elim
   |some b2=>
     erw[yk,q]at h;let#[l,hl,rfl]:=Fu q;let#[o,ao,f1,h1,R3]:=R2.YG hl (g2.at ha);show .inr #[a,o,ao,h1,nf,h _ r2 v _ (g2.off k0) R3 (dv.off f1)]
 |.exc c b,h=>λF2 r2 H2 g2 R2=>h F2 r2 H2 #[(iB k0).trans g2.s,g2.p] R2
 |.bad,h=>h.elim
theorem cR.sW {H₀:Hp}{D:Ends}:∀ {q:OS},cR T Z F r D q->cR T Z F r (D.sW H₀) q
 |.nx _ _,h=>λF2 r2 σ2 H2 g2 R2=>.inl (h F2 r2 σ2 H2 g2 R2)
 |.rt _ _,h=>λF2 r2 σ2 H2 g2 R2 d=>.inl (h F2 r2 σ2 H2 g2 R2 d)
 |.bk _ _,h=>λF2 r2 σ2 H2 g2 R2=>.inl (h F2 r2 σ2 H2 g2 R2)
 |.ct _ _,h=>λF2 r2 σ2 H2 g2 R2=>.inl (h F2 r2 σ2 H2 g2 R2)
 |.exc _ _,h=>h
 |.bad,h=>h
theorem End.sW {H₀:Hp}{Q:VK}:∀ {q:O W},End T Z bN F r σ env Q q->End T Z bN F r σ env (vd H₀ Q) q
 |.val _ _,h=>λF2 r2 σ2 H2 g2 R2 d=>.inl (h F2 r2 σ2 H2 g2 R2 d)
 |.exc _ _,h=>h
 |.bad,h=>h
def wx (i:Nat) (g:DG) (body:aB):aB:=λenv bx=>match env[i]? with
 | some (ae (.b n))=>(match bx[n]? with
   |some (.aA l)=>vf n (bT g body (rO l) env (bx.set n (.fD l)))
   |some (.fD l)=>bT g body (rO l) env bx
   |_=>.bad)
 |_=>.bad
theorem Mn {i:Nat}{Q:VK}(e:env[i]?=ae (ae (.b n))) (h:∀ F' r' a H',bf F r F' r'->Rel T F' r' σ H' env bx->r'[n]?=ae a->Q (.ref a) H'):End T Z bN F r σ env Q (dV i env bx):=by
 unfold dV;rw[e];intro F' r' v H' g R d;let#[a,rfl,ha]:=d;show h F' r' a H' g R ha
theorem Ud {i:Nat}{g:DG}{m:aB}{D:Ends}{H₀:Hp}(h:tS T Z (wx i g m) D σ H):HZ (YF H₀ (tD T Z (dV i))) (tG T g) (tS T Z m) (D.sW H₀) σ H:=by
 let#[F,r,env,bx,R,h]:=h;unfold wx at h;split at h
 case h_2=>show h.elim
 ext n e;refine#[F,r,env,bx,R,Mn e λF' r' a H' g' R' ha=>?_];split at h
 .ext l hb;let#[k0,ao,k1,k2]:=R'.box n _ a hb ha;show#[a,ao,rfl,.inl #[k1,λo nf=>LH (R'.bI hb ha k0 k2) (jN fw k2) (Pe k0 ha nf (cR.weak g' h))]]
 .ext l hb;let#[o,ao,k0,k1,k2]:=R'.box n _ a hb ha;show#[a,ao,rfl,.inr #[o,k1,LH R' (jN k0 k2) (cR.weak g' h).sW]]
 .show h.elim
theorem Mo {body:List cj}{g:DG}{m:aB}{i:Nat}(hp:PassesOwn zg X.A X.env X.xe) (hc:X.calm=ah) (hi:PD X T Z iter (dV i)) (hg:kS X T tg g) (hb:qt X T Z body m)
 (hs:∀ x,foldedSetIterable iter X.env x=pure x:=by intro _;rfl):cM X T Z (.For tg iter body [] pos) (wx i g m):=
 PS.imp (Gk (D5 hp hc (Mm hi) hg hb hs)) λD σ H h=>Ud h
def wy (bo:Bool) (src:List zaI) (i:Nat) (g:DG) (tf:DE Bool) (te:DE W):DE W:=λenv bx=>match env[i]? with
 | some (ae (.b n))=>(match bx[n]? with
   |some (.aA l)=>yk n (fA (bH g tf te (rO l) (dM src env) (bx.set n (.fD l)) []) λl bx2=>cu bo (ae zaZ) bx2)
   |some (.fD l)=>fA (bH g tf te (rO l) (dM src env) bx []) λl bx2=>cu bo (ae zaZ) bx2
   |_=>.bad)
 |_=>.bad
theorem Ph {i:Nat}{src:List zaI}{g:DG}{Q:VK}{H₀:Hp}(h:tD T Z (wy bo src i g tf te) σ H Q) :
 Iu src (YF H₀ (tD T Z (dV i))) (xR g) (xS #[E0,Z.cl] tf) (xT #[E0,Z.cl] te) σ H (vd H₀ Q):=by
 let#[F,r,env,bx,R,h]:=h;unfold wy at h;split at h
 case h_2=>show h.elim
 ext n e;refine#[F,r,env,bx,R,Mn e λF' r' a H' g' R' ha=>?_];split at h
 .ext l hb;let#[k0,ao,k1,k2]:=R'.box n _ a hb ha;show#[a,ao,rfl,.inl #[k1,λo nf=>Fa (R'.bI hb ha k0 k2) (jN fw k2) (Pf k0 ha nf (End.weak g' h))]]
 .ext l hb;let#[o,ao,k0,k1,k2]:=R'.box n _ a hb ha;show#[a,ao,rfl,.inr #[o,k1,Fa R' (jN k0 k2) (End.weak g' h).sW]]
 .show h.elim
theorem JB {src:List zaI}{elt:au}{scope:bW}{vb:aL}{g:DG}(i:Nat) (bo:Bool) (hc:X.calm=ah) (S:qY X N src scope) (hi:PD X T Z iter (dV j))
 (hg:∀ T cl s H C fp,kS zH T tg g) (hf:∀ T cl s H C fp,PF zH ifs (sN T #[E0,Z.cl] tf)) (he:∀ T cl s H C fp,PD zH T #[E0,Z.cl] elt te)
 (hN:X.N.Nodup) (rK:X.N[i]?=ae x) (hx:Loc X.env.scope x) (EE:swapsWith zw (ae (.Name x pos')) vb.line X.env=pure ah)
 (EF:X.fn x=ah \/ X.env.scope.names.lookup x=ae .local) (hs:∀ x,foldedSetIterable iter X.env x=pure x):cM X T Z (.Assign [.Name x pos'] zw vb) (fC (wy bo src j g tf te) (fe i)):=by
 refine PS.imp (Gk (Gh (src:=src) (g:=xR g) (tf:=xS #[E0,Z.cl] tf) (te:=xT #[E0,Z.cl] te) hc S (Mm hi) (λcl s H C fp pins s' σ' H' v u Q I rv ⟨T,q⟩=>hg T cl s H C fp pins s' σ' H' v u Q I rv q)
  (λcl s H C fp pins s' σ' H' Q I ⟨T,q⟩=>hf T cl s H C fp pins s' σ' H' Q I q) (λcl s H C fp pins s' σ' H' Q I ⟨T,q⟩=>he T cl s H C fp pins s' σ' H' Q I q) hN rK hx EE EF hs)) λD σ H=>x4 λF r env bx R h=>?_
 show Ph (Q:=λv H1=>D.nx (σ.set i (ae v)) H1) #[F,r,env,bx,R,End.bC h λw bx1 F1 r1 v H1 g1 R1 d1 h1=>h1 F1 r1 _ H1 zS (R1.set d1 i)]
end
end L2.DL
namespace HT
open PySem.W
def vg (h:aI) (d:aj) (vs:List ai) (ep:Nat):zu:=∃ o es,h.get? d=ae o /\ o.cls=.type "dict" /\ o.data=.dict es ep /\ es.toList.map (·.key)=vs
theorem vg.at {d:aj}(x:vg h d vs ep) (k:∀ o,h.get? d=ae o->h'.get? d=ae o):vg h' d vs ep:=let ⟨o,es,e,r⟩:=x;#[o,es,k o e,r]
section
variable {s:aq} {v d:aj} {i:Nat}
theorem Pi (y:(d==sysModules)=af) (hm:vg s.heap d vs ep)
 (q:Q zK { s with heap:=s.heap.push { cls:=.type "dict_keyiterator",data:=.fields (List.toArray [.ref d,.int 0 0,.int vs.length 0,.int ep 0]) } }):wpAny zh A (pyIter (.ref d)) Q E s:=by
 let#[o,es,e2,c2,d2,ev]:=id hm;have sz:es.size=vs.length:=by rw[<-ev];simp
 have ty:s.TypeIs (.ref d) "dict":=#[o,e2,c2];refine yD ty ab9 (hV ab9 ty PySem.F.entry_dict_iter ?_ (PySem.F.args_dict_iter_1 _));unfold Builtin.«dict.__iter__» Builtin.Dict.dictSlotNone;refine ak (ak (wpAny_notOrdered_dict ty ?_));change wpAny _ _ (pure (Value.ref d)) _ _ s;refine ay ?_;change wpAny _ _ (Builtin.Dict.showsAll d >>= _) _ _ s;unfold Builtin.Dict.showsAll;rw[if_neg (by rw[y];show c9)];refine ak (ay (ak (aaX e2 d2 (ak (aaY e2 d2 (ak (eR (ay #[_,rfl, "dict_keyiterator",_,#[_,bF _ zc,rfl],Xu.lookup,?_]))))))));simpa[rawInt,sz] using q
theorem Gn {Q:Option ai->aq->zu}(hit:s.heap.IsKeyIter it d i vs.length ep) (hm:vg s.heap d vs ep) (hh:A.handled=ag)
 (q:∀ x h',vs[i]?=ae x->h'.IsKeyIter it d (i+1) vs.length ep->Heap.SameBut it s.heap h'->Q (ae x) { s with heap:=h' })
 (qe:∀ h',vs[i]?=ag->Heap.ExtBut it s.heap h'->Q ag { s with heap:=h' }):wpAny zh A (pyNext zaQ) Q E s:=by
 let#[o,e1,c1,d1]:=id hit;let#[od,es,e2,c2,d2,ev]:=id hm;have sz:es.size=vs.length:=by rw[<-ev];simp
 unfold pyNext;refine ak (uH (qK (name:=Str.ofString "__next__") hit.typeIs Xu (hV Xu hit.typeIs PySem.F.entry_dict_keyiterator_next ?_ (PySem.F.args_dict_keyiterator_next_1 _))));refine ak (ay (ak (ak ?_)));first|refine ak (QS hit.typeIs (ay (ak (wV e1 d1 ?_))))|refine ak (QT hit.typeIs (ay (ak (wV e1 d1 ?_))))
 erw[show Builtin.Dict_items.ownsTuple "dict_keyiterator"=af by decide,yI,if_false];change wpAny _ _ (if (Value.ref d==Value.none)=ah then _ else _) _ _ s;rw[if_neg (show ¬ ((Value.ref d==Value.none)=ah) from c9)];refine ak (ay (ak (aaX e2 d2 ?_)));rw[if_neg (by rw[sz];simp)];refine ak (ay (ak (aaY e2 d2 ?_)));rw[if_neg zi];refine ay ?_;rcases wY i vs.length with hl|hl
 .have eV:i<es.size:=by rw[sz];show hl
  have hv:vs[i]?=ae es[i].key:=by rw[<-ev];simp[eV]
  erw[show ¬ ((i:Int)<0) from by lia,if_false,kh,Array.getElem?_eq_getElem eV];refine ak ?_;first|refine ak (QS hit.typeIs (ay (ak (QU hit.typeIs ?_))))|refine ak (QT hit.typeIs (ay (ak (QU hit.typeIs ?_))))
  change wpAny _ _ (setField zaQ 1 (rawInt ((i:Int)+1)) >>= _) _ _ s;refine ak (rY e1 d1 zi ?_);have h2:(s.heap.update it (Obj.mapFields (·.setIfInBounds 1 (rawInt ((i:Int)+1))))).IsKeyIter it d (i+1) vs.length ep:=
   #[_,sq _ e1 (xp (qj d1 _)),(yO ..).trans c1,by rw[qj d1];simp[rawInt]]
  refine ak (hG (ak (QU (s:={ s with heap:=s.heap.update it (Obj.mapFields (·.setIfInBounds 1 (rawInt ((i:Int)+1)))) }) h2.typeIs ?_)));change wpAny _ _ (pure es[i].key) _ _ _;show ay (ay #[_,rfl,ay (q _ _ hv h2 (Heap.SameBut.update ..))])
 .have hx:vs[i]?=ag:=sf hl;erw[show ¬ ((i:Int)<0) from by lia,if_false,kh,Xk (show es.size<=i by rw[sz];show hl)];refine ak ?_;first|refine ak (QS hit.typeIs (ay ?_))|refine ak (QT hit.typeIs (ay ?_))
  change wpAny _ _ (setField zaQ 0 .none >>= _) _ _ s;refine ak (rY e1 d1 zi ?_);change wpAny _ _ (newExc (.type "StopIteration") [] >>= _) _ _ _;refine ak ?_;erw[newExc,newTuple];refine ak (eR (ak (m:=firstArgMember _ _) (yB (a:=Value.none) (by first|rfl|(erw[firstArgMember];rfl)) (eR ?_ (by size_fits)))) (by size_fits));erw[raiseNew];refine ak (E9 ?_);rw[show A.in1.handled=ag from hh];refine ak (ay (Ha ?_));refine ak (yE (T:="StopIteration") (b:=ah) #[_,bF _ zc,rfl] Hb ?_);show ay (qe _ hx (((Heap.SameBut.update ..).extBut.push _).push _))
theorem Pj (hh:A.handled=ag) (kW:d≠it) (vs:List ai) (ep:Nat):Walks prog w A it [it,d] [it] vs.length (λi v=>vs[i]?=ae v) (λi h=>h.IsKeyIter it d i vs.length ep /\ vg h d vs ep) where
 sub:=λb hb=>by simp at hb;simp[hb]
 frame:=λ_ _ _ st hk=>#[st.1.at λo e=>hk it zi o e,st.2.at λo e=>hk d zi o e]
 item:=λi s Q E hi st hQ=>Gn st.1 st.2 hh (λx h' hx h2 sb=>hQ x h' s.toks hx #[h2,st.2.at λo e=>sb.extBut d o kW e] λb o hb e=>sb.extBut b o (λz=>hb (by simp[z])) e) λh' hx _=>by rw[List.getElem?_eq_none_iff]at hx;lia
 done:=λs Q E st hQ=>Gn st.1 st.2 hh (λx h' hx _ _=>by simp at hx) λh' _ he=>hQ h' s.toks λb o hb e=>he b o (λz=>hb (by simp[z])) e
 self:=λ_ _ _ _ st hQ=>aaW st.1 hQ
theorem Ue (y:(d==sysModules)=af) (vs:List ai) (ep:Nat):KdlSrc prog w "dict" d d vs.length (λi v=>vs[i]?=ae v) (λh=>vg h d vs ep) where
 type:=λ_ hm=>let ⟨o,_,ho,hc,_⟩:=hm;#[o,ho,hc]
 there:=λ_ hm=>let ⟨_,_,ho,_⟩:=hm;#[bj ho,bj ho]
 keep:=λ_ _ hm hk=>hm.at λo e=>hk d (.inr zc) o e
 notList:=by decide
 notTuple:=by decide
 hint:=λ_ _ _ _ hm hq=>kdl_hint_dict (let ⟨o,_,ho,hc,_⟩:=hm;#[o,ho,hc]) hq
 iter:=λ_ _ hh hm=>#[_,_,(λ_ _ hq=>Pi y hm hq),Pj hh (cB (let ⟨_,_,ho,_⟩:=hm;bj ho)) vs ep,#[#[_,bF _ zc,rfl,rfl],hm.at λo e=>aX _ e]]
end
end HT
namespace L2
open PySem.W
section
variable {o:au} {p:aL} {td:TE}
def ahU (td:TE):TE:=λσ H Q=>td σ H λx H1=>∃ a ao,x=.ref a /\ H1 a=ae (.dT ao) /\ ∀ bs,Paired (λ(q:List Key×V) (b:aj)=>H1 b=ae (.tup (q.1.map kV))) ao bs->∀ l,H1 l=ag->Q (.ref l) (upd H1 l (.lst (bs.map V.ref)))
theorem Pk (r:KT H ao xs):Paired (λ(q:List Key×V) (b:aj)=>H b=ae (.tup (q.1.map kV))) ao (xs.map (·.2.1)):=by
 induction r with
 |nil=>show .nil
 |cons h t ih=>show .cons h.2.1 ih
theorem JC:∀ bs:List aj,Vals (bs.map V.ref) (bs.map Value.ref):=by
 intro l_;induction l_ with
 |nil=>show .nil
 |cons b bs az=>show .cons zc (az)
theorem Mp (hc:X.calm=ah) (hg:Gl X "list") (hm:X.mg "list"=ag) (ho:PE X o td) (hs:DL.bU o=ah):PE X (.Call (.Name "list" p) [o] [] pos) (ahU td):=by
 intro pins s σ H Q I h;refine uD (jv I hg hm (by decide +kernel:bootBuiltins "list"=ae (.type "list")) ?_ ze ze);refine callWith_type1 ?_ (DL.fI hs [] X.env) zc;rw[DL.fI hs [] X.env];change wpAny _ _ (spliced ((af,eval o X.env)::backTo pos (starEach [] X.env))) _ _ s;refine xr (tE (ho pins s σ H _ I h) λu s1 x H1 I1 rx hh=>?_);let#[a,ao,ex,ea,q1]:=hh;subst ex;obtain rfl:u=Value.ref a:=rx;let#[zl,hd,xs,rel,dd]:=Sb I1.aC ea;let#[ob,es,ep,hq,h2,h3,h4,_,h5]:=id dd;have rk:HT.vg s1.heap a ((xs.map (·.2.1)).map Value.ref) ep:=#[ob,es,hq,h2.1,h3,by rw[h4,bO,bO];rfl];have lx:((xs.map (·.2.1)).map Value.ref).length<=sizeLine:=by rw[a6,a6,<-Paired.length rel];show zl
 refine xq (kdl_call (HT.Ue hd _ ep) (I1.ok.hd hc) rk lx λh' tk acc c hk hD adS=>?_);have ev:acc.toList=(xs.map (·.2.1)).map Value.ref:=by
  apply xh;intro j;by_cases hj:j<acc.size
  .have ej:acc[j]?=ae acc[j]:=by simp[hj]
   rw[qP,ej];show(adS.2 j _ ej).symm
  .have h3:=adS.1;rw[qP,Xk zd,sf zd]
 have rv:Vals ((xs.map (·.2.1)).map V.ref) acc.toList:=by rw[ev];show JC _
 have I3:=I1.laid (h':=h') (t':=tk) (a:=s1.heap.objs.size) (o:=.lst ((xs.map (·.2.1)).map V.ref)) (λb u e=>hk b u e) (aD _) #[by rw[a6];rw[a6]at lx;show lx,acc.toList,c,rv,by simpa using hD];show#[.ref _,_,I3,rfl,q1 _ (Pk rel) _ (I1.aC.fresh (aD _))]
def ahV (td:TE):TE:=λσ H Q=>td σ H λx H1=>∃ a ao,x=.ref a /\ Rd H1 a zag /\ ∀ l,H1 l=ag->Q (.ref l) (upd H1 l zag)
theorem JD (hg:Gl X "dict") (hm:X.mg "dict"=ag) (ho:PE X o td) (hs:DL.bU o=ah):PE X (.Call (.Name "dict" p) [o] [] pos) (ahV td):=by
 intro pins s σ H Q I h;refine uD (jv I hg hm (by decide +kernel:bootBuiltins "dict"=ae (.type "dict")) ?_ ze ze);refine callWith_type1 ?_ (DL.fI hs [] X.env) zc;rw[DL.fI hs [] X.env];change wpAny _ _ (spliced ((af,eval o X.env)::backTo pos (starEach [] X.env))) _ _ s;refine xr (tE (ho pins s σ H _ I h) λu s1 x H1 I1 rx hh=>?_);let#[a,ao,ex,ea,q1]:=hh;subst ex;obtain rfl:u=Value.ref a:=rx;let#[zl,hd,vs,rel,dd]:=oZ I1.aC ea;refine xq (kt_call_dict hd dd (by rw[<-Paired.length rel];show zl) λh' nN sb=>?_);have nb:(s1.heap.objs.size==sysModules)=af:=by
  show beq_eq_false_iff_ne.mpr (vA I1.big)
 have I3:=I1.laid (h':=h') (t':=s1.toks) (a:=s1.heap.objs.size) (o:=.dK ao) (λb u e=>(sb.2 b (cB (bj e))).trans (aX _ e)) (aD _) #[zl,nb,vs,rel,nN];show#[.ref _,_,I3,rfl,q1 _ (I1.aC.fresh (aD _))]
end
end L2
namespace L2.DL
open PySem.W
section
variable {o:au} {p:aL} {mc:DE W}
theorem Rel.ahW (R:Rel T F r σ H env bx) {b:aj}{vs:List V}(hb:H b=ae (.tup vs)):∃ F',bf F r F' r /\ Rel T F' r σ H env bx /\ F' b=ae (.tup vs):=by
 cases q:F b with
 |some u=>
   have:=R.fh b u q;rw[hb]at this;cases this;show#[F,.refl F r,R,q]
 |none=>
   have s:=iB (o:=.tup vs) q;refine#[upd F b (.tup vs),#[s,pI r],#[λa u e=>?_,λi w e=>?_,R.len,R.nd,λn c a e1 e2=>?_,R.keep,R.new,R.n0,R.sl,λa u e=>?_],fw]
   .by_cases z:a=b
    .subst z;rw[fw]at e;cases e;show hb
    .rw[fB z]at e;show R.fh a u e
   .let#[v,e1,e2]:=R.slot i w e;show#[v,e1,e2.mono s (pI r)]
   .have k:=R.box n c a e1 e2;have ne:∀ {u},H a=ae u->(∀ ys,u≠.tup ys)->upd F b (.tup vs) a=F a:=λ{u} z y=>fB λq=>by rw[q,hb]at z;cases z;show y _ zc
    cases c with
    |lst _=>let#[q1,ws,q2,q3]:=k;show#[(ne q2 (λ_ z=>nomatch z)).trans q1,ws,q2,aE.mono s _ q3]
    |aA _=>let#[q1,ws,q2,q3]:=k;show#[(ne q2 (λ_ z=>nomatch z)).trans q1,ws,q2,aR.mono s _ q3]
    |dead=>show k
    |dT _=>let#[q1,ws,q2,q3]:=k;show#[(ne q2 (λ_ z=>nomatch z)).trans q1,ws,q2,bR.mono s _ q3]
    |fD _=>let#[o2,ws,q1,q2,q3]:=k;show#[o2,ws,s _ _ q1,q2,aR.mono s _ q3]
   .by_cases z:a=b
    .subst z;rw[fw]at e;cases e;show .inl #[_,rfl]
    .rw[fB z]at e;show R.fs a u e
theorem Mq:∀ (k:List Key),aE F (k.map Kg) (k.map kV):=by
 intro l_;induction l_ with
 |nil=>show rfl
 |cons k t az=>show#[_,_,rfl,by cases k<;>show rfl,az]
abbrev Kh (l:List zaJ):List D:=l.map λq=>.tup (q.1.map Kg)
theorem Rel.nV:∀ {l:List zaJ}{ao:List (List Key×V)}{bs:List aj}{F:Hp},Rel T F r σ H env bx->bR F l ao->Paired (λ(q:List Key×V) (b:aj)=>H b=ae (.tup (q.1.map kV))) ao bs->∃ F',bf F r F' r /\ Rel T F' r σ H env bx /\ aE F' (Kh l) (bs.map V.ref)
 | [],_,_,F,R,h,q=>by
   cases (show _=[] from h);cases q;show#[F,.refl F r,R,rfl]
 | (k,d)::l,_,_,F,R,h,q=>by
   let#[v,t,rfl,_,h2]:=h;cases q with
   |@cons _ b _ bs q1 q2=>
     let#[F1,g1,R1,e1]:=R.ahW q1;let#[F2,g2,R2,d2]:=Rel.nV R1 (bR.mono g1.s _ h2) q2;show#[F2,g1.trans g2,R2,V.ref b,_,rfl,#[b,_,rfl,g2.s _ _ e1,Mq k],d2]
def EL (bo:Bool) (m:DE W):DE W:=λenv bx=>fA zC λx bx1=>match x with
 | .b n=>(match bx1[n]? with
   |some (.dT l)=>cu bo (ae (.lst (Kh l))) bx1
   |_=>.bad)
 |_=>.bad
theorem Mr (bo:Bool) (hc:X.calm=ah) (hg:Gl X "list") (hm:X.mg "list"=ag) (ho:PD X T Z o ma) (hs:bU o=ah):PD X T Z (.Call (.Name "list" p) [o] [] pos) (EL bo ma):=by
 refine PE.imp (Mp hc hg hm ho hs) λσ H Q=>x4 λF r env bx R h=>#[F,r,env,bx,R,End.bind h λx bx1 F1 r1 v H1 g1 R1 d1 h1=>?_];split at h1
 case h_2=>show h1.elim
 ext n;let#[a,rfl,ha]:=d1;let#[c,hc,kc]:=R1.eU ha;rw[hc]at h1;split at h1
 case h_2=>show h1.elim
 ext l0 e0;cases e0;let#[_,ao,k1,k2]:=kc;refine#[a,ao,rfl,k1,λbs hb l hl=>?_];let#[F2,g2,R2,d2]:=Rel.nV R1 k2 hb;show iC R2 (End.weak g2 h1) #[l,_,rfl,hl,rfl,d2]
def wz (bo:Bool) (m:DE W):DE W:=λenv bx=>fA zC λx bx1=>match rL bx1 x with
 |some l=>cu bo (ae (.aA l)) bx1
 |none=>.bad
theorem JE (bo:Bool) (hg:Gl X "dict") (hm:X.mg "dict"=ag) (ho:PD X T Z o ma) (hs:bU o=ah):PD X T Z (.Call (.Name "dict" p) [o] [] pos) (wz bo ma):=by
 refine PE.imp (JD hg hm ho hs) λσ H Q=>x4 λF r env bx R h=>#[F,r,env,bx,R,End.bind h λx bx1 F1 r1 v H1 g1 R1 d1 h1=>?_];split at h1
 .ext l q;let#[a,ao,rfl,k1,k2]:=Cb R1 d1 q;show#[a,ao,rfl,k1,λl hl=>iC R1 h1 #[l,_,rfl,hl,rfl,k2]]
 .show h1.elim
noncomputable def rQ (l:List zaJ) (k:List Key) (d:D):List zaJ:=
 if (l.any λkv=>decide (kv.1=k))=ah then l.map (λkv=>if kv.1=k then (kv.1,d) else kv) else l++[(k,d)]
theorem bR.any {F:Hp}(k:List Key):∀ {l:List zaJ}{vs:List (List Key×V)},bR F l vs->(l.any λkv=>decide (kv.1=k))=(vs.any λkv=>decide (kv.1=k))
 |[],_,h=>by cases (show _=[] from h);rfl
 |(k',d')::l,_,⟨v,r,e,h1,h2⟩=>by subst e;erw[qi,bR.any k h2]
theorem bR.map {F:Hp}{k:List Key}{d:D}{v:V}(hv:Den F d v):∀ {l:List zaJ}{vs:List (List Key×V)},bR F l vs->bR F (l.map λkv=>if kv.1=k then (kv.1,d) else kv) (vs.map λkv=>if kv.1=k then (kv.1,v) else kv)
 |[],_,h=>by cases (show _=[] from h);rfl
 | (k',d')::l,_,⟨u,r,e,h1,h2⟩=>by
   subst e;by_cases c:k'=k
   .erw[aO,c,if_true];show#[v,_,rfl,hv,bR.map hv h2]
   .erw[aO,c,if_false];show#[u,_,rfl,h1,bR.map hv h2]
theorem bR.app {F:Hp}{m:List zaJ}{us:List (List Key×V)}(hm:bR F m us):∀ {l:List zaJ}{vs:List (List Key×V)},bR F l vs->bR F (l++m) (vs++us)
 |[],_,h=>by cases (show _=[] from h);show hm
 |(k',d')::l,_,⟨u,r,e,h1,h2⟩=>by subst e;show#[u,_,rfl,h1,bR.app hm h2]
theorem bR.put2 {k:List Key}{d:D}{l:List zaJ}{vs:List (List Key×V)}(h:bR F l vs) (hv:Den F d v):bR F (rQ l k d) (putK vs k v):=by
 unfold rQ putK;rw[bR.any k h];split
 .show bR.map hv h
 .show bR.app (show bR F [(k,d)] [(k,v)] from#[v,[],rfl,hv,rfl]) h
def rR (m k v:DE W):aB:=λenv bx=>bC (v env bx) λz bx1=>bC (m env bx1) λx bx2=>bC (k env bx2) λy bS=>match x,y,z with
 | .b n,.d (.tup d),.d u=>(match bS[n]?,uw d with
   |some (.dT l),ae k=>if l.length<sizeLine then .nx env (bS.set n (.dT (rQ l k u))) else .bad
   |_,_=>.bad)
 |_,_,_=>.bad
theorem JF {value:au}(hu:X.A.units+1<cLine) (ho:PD X T Z o ma) (hi:PD X T Z e mb) (hv:PD X T Z value mc) (hs:swapsWith value (ae (.Subscript o e pos')) pos.line X.env=pure af) :
 cM X T Z (.Assign [.Subscript o e pos'] value pos) (rR ma mb mc):=by
 refine PS.imp (Gc hu ho hi hv hs) λD σ H=>x4 λF r env bx R h=>?_;refine#[F,r,env,bx,R,End.bC h λz bx1 F1 r1 t H1 g1 R1 d1 h1=>#[F1,r1,env,bx1,R1,End.bC h1 λx bx2 F2 r2 v H2 g2 R2 d2 h2=>#[F2,r2,env,bx2,R2,End.bC h2 λy bS F3 r3 u H3 g3 R3 d3 h3=>?_]]];split at h3
 .ext n d w;let#[a,rfl,ha]:=(g3.den (w:=.b n) d2:bN F3 r3 (.b n) v);let#[c,hc,kc]:=R3.eU ha;rw[hc]at h3;split at h3
  .ext l k e1 e2;cases e1;split at h3
   .ext hl;let#[hF,ao,k1,k2]:=kc;let#[b,us,rfl,f1,f2]:=d3;cases Gj e2 f2;have dz:Den F3 w t:=g3.den (w:=.d w) (g2.den (w:=.d w) d1);show#[a,_,rfl,.inr #[ao,k,b,k1,rfl,R3.fh _ _ f1,by rw[<-k2.length];show hl,rfl],h3 F3 r3 _ _ (.refl F3 r3) (R3.write ha hF #[hF,_,fw,k2.put2 dz])]
   .show h3.elim
  .show h3.elim
 .show h3.elim
def bV (m:DE W) (k:Str):DE W:=λenv bx=>fA zC λx bx1=>match x with
 |.m l=>(match l.lookup k with|some n=>.val (.b n) bx1|none=>.bad)
 |_=>.bad
theorem Go {k:Str}{n:Nat}:∀ {l:List (Str×Nat)}{as:List aj},uZ r (l.map (·.2)) as->l.lookup k=ae n->∃ a,r[n]?=ae a /\ eu (List.zipWith (λk a=>((.inr k.1:Key),V.ref a)) l as) (.inr k)=ae (.ref a)
 |[],_,_,e=>by cases e
 | (x,m)::l,_,h,e=>by
   let#[a,t,rfl,h1,h2]:=h;rw[List.zipWith_cons_cons];rw[kD]at e;cases q:k==x with
   |true=>
     rw[q]at e;cases e;have:k=x:=by simpa using q
     subst this;show#[a,h1,jA zc]
   |false=>
     rw[q]at e;let#[b,e1,e2]:=Go h2 e;refine#[b,e1,?_];rw[iZ (λz=>by cases z;simp at q)];show e2
theorem Uf {k:Str}{q:aL}(hu:X.A.units+1<cLine) (ho:PD X T Z o ma):PD X T Z (.Subscript o (.Constant (.str k) j q) pos) (bV ma k):=by
 refine PE.imp (Gb hu ho Aw (λ_ _=>rfl)) λσ H Q=>x4 λF r env bx R h=>#[F,r,env,bx,R,End.bind h λx bx1 F1 r1 v H1 g1 R1 d1 h1=>?_];split at h1
 .ext l;split at h1
  .ext n e;let#[c,as,rfl,f1,ad]:=d1;let#[a,e1,e2]:=Go ad e;show#[c,.ref a,rfl,.inl #[_,.inr k,.inl (R1.fh _ _ f1),rfl,e2.symm],h1 F1 r1 _ H1 zS R1 #[a,rfl,e1]]
  .show h1.elim
 .show h1.elim
end
noncomputable def qz:Nat->Bx
 |0=>.lst []
 |1=>.aA []
 |_=>.dT []
noncomputable def adT:Nat->HO
 |0=>.lst []
 |1=>.dK []
 |_=>.dT []
def ahX (n:Nat):TE:=λ_ H Q=>∀ p,H p=ag->Q (.ref p) (upd H p (adT n))
noncomputable def YH (q:Str×Nat):TE×TE:=(λ_ H Q=>Q (.str q.1) H,ahX q.2)
noncomputable def Ki:List (Str×Nat)->Nat->List (Str×Nat)
 |[],_=>[]
 |q::l,n=>(q.1,n)::Ki l (n+1)
def ym (l:List (Str×Nat)):DE W:=λ_ bx=>if (l.map (·.1)).Nodup /\ l.length<=15 then .val (.m (Ki l bx.length)) (bx++l.map λq=>qz q.2) else .bad
noncomputable abbrev yn (l:List (Str×Nat)) (as:List aj):List (Key×V):=List.zipWith (λk a=>(.inr k.1,V.ref a)) l as
theorem BO {p:aj}:∀ {l:List (Str×Nat)}{r:List aj}{H:Hp}{bx:List Bx}{Q:List (V×V)->Hp->zu},Rel T F r σ H env bx->H p=ae (.dK [])->p∉r ->
 (∀ as H2,Rel T F (r++as) σ H2 env (bx++l.map λq=>qz q.2)->H2 p=ae (.dK [])->p∉r++as->as.length=l.length->Q ((yn l as).map λkv=>(kV kv.1,kv.2)) H2)->IL (l.map YH) σ H Q
 |[],r,H,bx,Q,R,hp,hn,h=>h [] H (by simpa using R) hp (by simpa using hn) zc
 | (k,n)::l,r,H,bx,Q,R,hp,hn,h=>λq hq=>by
   have c:sM F (upd H q (adT n)) q (qz n):=by
    match n with
    |0=>show#[R.qZ hq,[],fw,rfl]
    |1=>show#[R.qZ hq,[],fw,rfl]
    |_+2=>show#[R.qZ hq,[],fw,rfl]
   have ne:=f7 hp hq;refine BO (l:=l) (R.Iy hq c) (by rw[fB ne];show hp) (by simp[hn,ne]) λas H2 R2 h2 n2 hl=>?_;show h (q::as) H2 (by simpa using R2) h2 (by simpa using n2) (by simp[hl])
theorem JG:∀ {l:List (Key×V)}{acc:List (Key×V)},((acc++l).map (·.1)).Nodup->v8 acc l=acc++l:=by
 intro l_;induction l_ with
 |nil=>(intro acc _;show(uJ acc).symm)
 |cons q l az=>
   intro acc h;have e:putK acc q.1 q.2=acc++[q]:=by
    unfold putK;rw[if_neg];intro z;let#[x,m,e]:=kM.mp z;rw[vE,vG]at h;show h.2.2 x.1 (uM m) q.1 zi (of_decide_eq_true e)
   change v8 (putK acc q.1 q.2) l=_;rw[e,az (by simpa using h)];simp
theorem Dc:∀ {l:List (Str×Nat)}{as r:List aj},as.length=l.length->uZ (r++as) ((Ki l r.length).map (·.2)) as /\ List.zipWith (λk a=>((.inr k.1:Key),V.ref a)) (Ki l r.length) as=yn l as
 |[],[],_,_=>#[rfl,rfl]
 |[],_::_,_,h=>by cases h
 |q::l,[],_,h=>by cases h
 | q::l,a::as,r,h=>by
   let#[h1,h2]:=Dc (l:=l) (as:=as) (r:=r++[a]) (by simpa using h);rw[cZ,se]at h1;rw[cZ]at h2;refine#[#[a,as,rfl,?_,h1],?_]
   .rw[dU (aD _),tH];rfl
   .change _::_=_::_;show congrArg _ h2
theorem Gp:∀ {l:List (Str×Nat)}{as:List aj},as.length=l.length->(yn l as).map (·.1)=l.map λq=>.inr q.1
 |[],_,_=>rfl
 |q::l,[],h=>by cases h
 |q::l,a::as,h=>congrArg _ (Gp (l:=l) (as:=as) (by simpa using h))
theorem Rel.own (R:Rel T F r σ H env bx) {u:HO}(hf:F p=ag) (hn:p∉r) (hT:T.H₀ p=ag):Rel T (upd F p u) r σ (upd H p u) env bx:=by
 have s:=iB (o:=u) hf;refine#[λa v e=>?_,λi w e=>?_,R.len,R.nd,λn c a e1 e2=>?_,λa v e m=>?_,R.new,R.n0,R.sl,λa v e=>?_]
 .by_cases z:a=p
  .subst z;rw[fw]at e ⊢;show e
  .rw[fB z]at e ⊢;show R.fh a v e
 .let#[v,e1,e2]:=R.slot i w e;show#[v,e1,e2.mono s (pI r)]
 .have ne:a≠p:=λz=>hn (by rw[<-z];show List.mem_iff_getElem?.mpr #[n,e2]);show(R.box n c a e1 e2).grow s (λz=>by rw[fB ne];show z) λu z=>by rw[fB ne];show z
 .rw[fB (λz=>by rw[z,hT]at e;cases e)];show R.keep a v e m
 .by_cases z:a=p
  .subst z;show .inr (.inr (.inl hT))
  .rw[fB z]at e;show R.fs a v e
theorem Ms {l:List (Str×Nat)}{ks:List (Option au)}{vs:List au}(h:xY X pos ks vs (l.map YH)) (Eb:ks.all (·.isSome)=ah) (hl:ks.length=vs.length) (h0:ks≠[]) (Yq:ks.length<=15):PD X T Z (.Dict ks vs pos) (ym l):=by
 refine PE.imp (OF h Eb hl h0 Yq) λσ H Q=>x4 λF r env bx R h=>λp hp=>?_;unfold ym at h;split at h
 case isFalse=>show h.elim
 ext nd;have hn:=R.xO hp;have hT:T.H₀ p=ag:=by
  cases q:T.H₀ p with
  |none=>rfl
  |some u=>rw[R.keep p u q hn]at hp;cases hp
 refine BO (R.adg hp) fw hn λas H2 R2 h2 n2 hl=>#[h2,yn l as,rfl,by simp[List.length_zipWith];lia,?_];have nk:((yn l as).map (·.1)).Nodup:=by
  rw[Gp hl,List.Nodup,tM];show(tM.mp nd.1).imp λh z=>h (Sum.inr.inj z)
 rw[JG (acc:=[]) nk,kL];let#[a1,a2]:=Dc (l:=l) (as:=as) (r:=r) hl;have g:bf F r (upd F p (.dK (yn l as))) (r++as):=#[iB (R.qZ hp),xf r as];rw[R.len]at a1 a2;show h _ (r++as) _ _ g (R2.own (R.qZ hp) n2 hT) #[p,as,rfl,by rw[a2];show fw,a1]
noncomputable def adU:Option au->Option Str
 |some (.Constant (.str k) _ _)=>ae k
 |_=>ag
noncomputable def adV:au->Option Bool
 |.Dict [] [] _=>ae ah
 |.List [] _=>ae af
 |_=>ag
theorem Pl {k:Option au}(h:adU k=ae x):∃ j p,k=ae (.Constant (.str x) j p):=by
 rcases k with _|e<;>try cases h
 cases e<;>try cases h
 rename_i v _ _;cases v<;>cases h;show#[_,_,rfl]
theorem Pm {v:au}{b:Bool}(h:adV v=ae b):∃ p,v=if b then .Dict [] [] p else .List [] p:=by
 cases v<;>try cases h
 .ext ks vs p;cases ks<;>cases vs<;>cases h;show#[p,rfl]
 .ext es p;cases es<;>cases h;show#[p,rfl]
def YI (kd:Str->Bool):List (Option au)->List au->Option (List (Str×Nat))
 |[],[]=>ae []
 |k::ks,v::vs=>(adU k).bind λk=>(adV v).bind λb=>(YI kd ks vs).map ((k,if b then if kd k then 2 else 1 else 0)::·)
 |_,_=>ag
theorem Gq {kd:Str->Bool}:∀ {ks:List (Option au)}{vs:List au}{l:List (Str×Nat)},YI kd ks vs=ae l->xY X pos ks vs (l.map YH) /\ ks.all (·.isSome)=ah /\ ks.length=vs.length /\ ks.length=l.length
 |[],[],_,h=>by cases h;show#[OE,rfl,rfl,rfl]
 | k::ks,v::vs,l,h=>by
   let#[x,e1,h]:=Option.bind_eq_some_iff.mp h;let#[t,e2,h]:=Option.bind_eq_some_iff.mp h;let#[m,e,rfl]:=Option.map_eq_some_iff.mp h;let#[_,_,rfl]:=Pl e1;let#[_,rfl]:=Pm e2;let#[a,b,c,d]:=Gq e;refine#[?_,b,by simp[c],by simp[d]];cases t
   .show AL Aw (PE.imp (Li lh) λσ H Q h=>#[eS _,h]) a
   cases kd x
   .show AL Aw CY a
   .show AL Aw CZ a
end L2.DL
namespace HT
open PySem.W
theorem Pn (A:eE) (s:aq) {v:ai}{a b:aS}(p:ny h v a) (q:ny h u b) (hl:a.pV b=ah):∃ e,SeqAt.EqAt A s v u e /\ (e=ah ↔ a=b):=by
 cases a with
 |i n=>
   cases b with
   |i m=>let#[t,rfl]:=p;let#[t',rfl]:=q;show#[_,acd n t m t',by simp]
   |_=>cases hl
 |s x=>
   cases b with
   |s y=>let#[t,rfl]:=p;let#[t',rfl]:=q;show#[_,Xv x t y t',by simp]
   |_=>cases hl
theorem Po (A:eE) (s:aq) {v:ai}{a b:aS}(p:ny h v a) (q:ny h u b) (hl:a.pV b=ah) (prog:dg) (w:cn) (E:ai->aq->zu) (Q:ai->aq->zu) (k:Q (.bool (a.lt b)) s) :
 wpAny zh A (richCompare .Lt v u) Q E s:=by
 cases a with
 |i n=>
   cases b with
   |i m=>let#[t,rfl]:=p;let#[t',rfl]:=q;show(abJ k:wpAny zh A (compareOp .Lt _ _) Q E s)
   |_=>cases hl
 |s x=>
   cases b with
   |s y=>let#[t,rfl]:=p;let#[t',rfl]:=q;show(lt_str k:wpAny zh A (compareOp .Lt _ _) Q E s)
   |_=>cases hl
section
open PySem.SeqAt
open PySem.AutoSeq1 (wpAny_loadPart')
open PySem.MeetsSeq PySem.MeetsSeq2 PySem.MeetsSeq3
theorem Bt (l b:aj) (items items2:Array ai) (n n2:Nat) (dd uV:Option aj) (sl sD:Array (Option ai)) (h0:aI) (x y:List aS) (hi:eO h0 items.toList x) (hj:eO h0 items2.toList y) (hl:eN x y=ah) :
 Meets (Builtin.«tuple.__lt__» #[[.ref l,.ref b],[]])
  (λ_ R s=>s.heap.get? l=ae { cls:=.type "tuple",dict:=dd,data:=.seq items n,slots:=sl } /\ s.heap.get? b=ae { cls:=.type "tuple",dict:=uV,data:=.seq items2 n2,slots:=sD } /\
   R (.ok (.ret (.bool (cw x y)))) s):=
 .of_wp λprog w A R s h=>by
  let#[hp,g,d,tk,os]:=s;let#[eV,hb,h]:=h;have f2:=afe;have z1:items.size=x.length:=by rw[<-hi.length];simp
  have z2:items2.size=y.length:=by rw[<-hj.length];simp
  wp_walk using wpAny_loadPart' eV,wpAny_loadPart' hb,wpAny_forIn_list _ (λrest b s'=>b.1=ag /\ s'=#[hp,g,d,tk,os] /\ ∃ (vs ws:List ai) (p q:List aS),rest=vs.zip ws /\
   eO h0 vs p /\ eO h0 ws q /\ eN p q=ah /\ p.length+items2.size=q.length+items.size /\ R (.ok (.ret (.bool (cw p q)))) #[hp,g,d,tk,os]) _
  case turn=>
   rintro⟨v,u⟩ rest b s' ⟨EM,rfl,vs,ws,p,q,hz,hv,hw,hk,hlen,hR⟩;cases hv with
   |nil=>rw[Q6]at hz;cases hz
   |@cons v' a vs p ha ahY=>
     cases hw with
     |nil=>rw[abh]at hz;cases hz
     |@cons u' c ws q hc ahZ=>
       rw[vD]at hz;injection hz with ah0 ah1;injection ah0 with hy hx;subst hy hx;erw[bw]at hlen;have sL:(a.pV c&&eN p q)=ah:=hk;rw[aG]at sL;unfold cw at hR;let#[e,he,adW]:=Pn A.in1 #[hp,g,d,tk,os] ha hc sL.1;refine ak (he prog w _ _ ?_);cases e with
       |true=>
         rw[if_pos (adW.mp rfl)]at hR
         wp_walk
         show#[rfl,rfl,_,_,_,_,ah1,ahY,ahZ,sL.2,by lia,hR]
       |false=>
         rw[if_neg (λq=>absurd (adW.mpr q) c9)]at hR;have ah2:=Po A.in1 #[hp,g,d,tk,os] ha hc sL.1 prog w
         wp_walk using ah2
         show#[_,rfl,by simpa using hR]
  case fin=>
   rintro⟨b1,b2⟩ s' ⟨EM,rfl,vs,ws,p,q,hz,hv,hw,hk,hlen,hR⟩;simp only at EM;subst EM;have hx:cw p q=decide (items.size<items2.size):=by
    cases hv with
    |nil=>
      cases hw with
      |nil=>erw[nS]at hlen;unfold cw;show(decide_eq_false zd).symm
      |cons c hw=>erw[nS,bw]at hlen;unfold cw;show(decide_eq_true zd).symm
    |cons a hv=>
      cases hw with
      |nil=>erw[nS,bw]at hlen;unfold cw;show(decide_eq_false zd).symm
      |cons c hw=>rw[vD]at hz;cases hz
   rw[hx]at hR
   wp_walk
   show#[_,rfl,by simpa[Builtin.Tuple.tupleCompareSizes] using hR]
  case h=>show⟨rfl,rfl,items.toList,items2.toList,x,y,rfl,hi,hj,hl,by lia,h⟩
end
theorem Pp {s:aq}{l b:aj}{items2:Array ai}{x y:List aS}(hl:IsTup s.heap l items) (hb:IsTup s.heap b items2) (hi:eO s.heap items.toList x) (hj:eO s.heap items2.toList y)
 (hk:eN x y=ah) (hu:A.units<cLine) (h:Q (.bool (cw x y)) s):wpAny zh A (compareOp .Lt (.ref l) (.ref b)) Q E s:=by
 let#[#[cls,dd,data,sl],ho,hc,n,hd]:=id hl;let#[#[acO,uV,data2,sD],sF,eT,n2,hd2]:=id hb;simp only at hc hd eT hd2;subst hc hd eT hd2;show richCompare_meets_room (op:=.Lt) #[_,ho,rfl] #[_,sF,rfl] PySem.F.slot_tuple_lt PySem.F.entry_tuple_lt (PySem.F.args_tuple_lt_2 _ _) (Bt l b items items2 n n2 dd uV sl sD s.heap x y hi hj hk)
  #[ho,sF,show Value.bool (cw x y)≠Value.notImplemented /\ Q (.bool (cw x y)) s from#[(λx=>nomatch x),h]] hu
end HT
namespace L2.DL
open PySem.W
open HT (aS eN cw)
def YJ:R2:=λx y H Q=>∃ F a b vs us l m,x=.ref a /\ y=.ref b /\ Sub F H /\ F a=ae (.tup vs) /\ F b=ae (.tup us) /\ aE F (l.map kX) vs /\ aE F (m.map kX) us /\ eN l m=ah /\ Q (.bl (cw l m)) H
theorem Ug (hu:X.A.units<cLine):bp X (compareOp .Lt) YJ:=by
 intro pins s σ H x y v u Q I rx ry h;let#[F,a,b,vs,us,l,m,rfl,rfl,sub,fa,fb,da,db,k,q]:=h;cases rx;cases ry;let#[_,its,r1,p1]:=(show bG X.prog X.w H s.heap a (.tup vs) from I.aC a _ (sub _ _ fa));let#[_,qW,r2,p2]:=(show bG X.prog X.w H s.heap b (.tup us) from I.aC b _ (sub _ _ fb));show HT.Pp p1 p2 (by simpa using Fk I sub da r1) (by simpa using Fk I sub db r2) k hu #[.bl (cw l m),H,I,rfl,q]
def cY:D->D->Option Res
 |.int i,.int j=>ae (.old (.bl (decide (i<j))))
 | .tup a,.tup b=>(match sV a,sV b with
   |some l,ae m=>if eN l m=ah then ae (.old (.bl (cw l m))) else ag
   |_,_=>ag)
 |_,_=>ag
theorem Uh (hu:X.A.units<cLine):bp X (compareOp .Lt) (λx y H Q=>kP (λi j=>.bl (decide (i<j))) x y H Q \/ YJ x y H Q):=Vu.or (Ug hu)
theorem ah3:cD (λx y H Q=>kP (λi j=>.bl (decide (i<j))) x y H Q \/ YJ x y H Q) cY:=by
 intro F H x y v w Q s sub rx ry e k;unfold cY at e;split at e
 .cases e;show .inl #[_,_,rx,ry,k _ _ #[rfl,rfl]]
 .split at e
  .ext l m e1 e2;split at e
   .ext c;cases e;rw[AO e1]at rx;rw[AO e2]at ry;let#[p,vs,rfl,h1,h2]:=rx;let#[q,us,rfl,h3,h4]:=ry;show .inr #[F,p,q,vs,us,l,m,rfl,rfl,sub,h1,h3,h2,h4,c,k _ _ #[rfl,rfl]]
   .cases e
  .cases e
 .cases e
noncomputable def forL (k:Nat) (g:DG) (body:aB):Nat->Nat->aB
 |0,_,_,_=>.bad
 | f+1,i,env,bx=>match bx[k]? with
   | some (.lst l)=>(match l[i]? with
     |none=>.nx env bx
     | some x=>match g (.d x) env bx with
       |none=>.bad
       | some (env1,bx1)=>match body env1 bx1 with
         |.nx bq bx2=>forL k g body f (i+1) bq bx2
         |.ct bq bx2=>forL k g body f (i+1) bq bx2
         |.bk bq bx2=>.nx bq bx2
         |o=>o)
   |_=>.bad
def yo (m:DE W) (g:DG) (body:aB):aB:=λenv bx=>bC zC λw bx1=>match w with
 |.b k=>forL k g body (YE bx1 k+1) 0 env bx1
 |_=>.bad
section
variable {body:List cj} {mi:DE W} {g:DG} {m:aB}
theorem Ui {D:Ends}(h:tS T Z (yo mi g m) D σ H):HZ (acF K (tD T Z mi)) (tG T g) (tS T Z m) D σ H:=by
 let#[F,r,env,bx,R,h]:=h;refine#[F,r,env,bx,R,End.bC h λw bx1 F1 r1 v H1 g1 R1 d1 h1=>?_];split at h1
 case h_2=>show h1.elim
 ext k;let#[a,rfl,ha]:=d1;have at_:∀ {F':Hp}{r':List aj}{σ':St}{H':Hp}{aN:aP}{bx':List Bx}{T':Fr}{l:List L2.DL.D},bf F1 r1 F' r'->Rel T' F' r' σ' H' aN bx'->bx'[k]?=ae zaZ->∃ vs,H' a=ae (.lst vs) /\ aE F' l vs:=λ{F' r' σ' H' aN bx' T' l} g' R' e=>by
  let#[t,et]:=g'.p;have ah4:r'[k]?=ae a:=by rw[<-et,eD (List.getElem?_eq_some_iff.mp ha).1];show ha
  let#[_,vs,k1,k2]:=R'.box k _ a e ah4;show#[vs,k1,k2]
 have q0:∃ xs,bX K H1 a xs:=by
  unfold forL at h1;split at h1
  .ext l e;let#[vs,k1,_]:=at_ zS R1 e;show#[vs,.of k1]
  .show h1.elim
 refine#[a,rfl,q0,λi n σ' H'=>∃ F' r' aN bx',bf F1 r1 F' r' /\ Rel T F' r' σ' H' aN bx' /\ cR T Z F' r' D (forL k g m n i aN bx'),#[_,F1,r1,env,bx1,.refl F1 r1,R1,h1],?_];rintro i n σ' H' ⟨F',r',aN,bx',g',R',h'⟩;cases n with
 |zero=>show h'.elim
 |succ n=>
 unfold forL at h';split at h'
 case h_2=>show h'.elim
 ext l el;let#[ws,k1,k2]:=at_ g' R' el;split at h'
 .ext ei;show .inl #[#[ws,.of k1,by rw[<-k2.length];show List.getElem?_eq_none_iff.mp ei],h' F' r' σ' H' (.refl F' r') R']
 .ext x ei;let#[u,e2,du]:=k2.get ei;refine .inr #[#[ws,u,.of k1,e2],λσ2 H2=>∃ F2 r2 bq bx2,bf F1 r1 F2 r2 /\ Rel T F2 r2 σ2 H2 bq bx2 /\ cR T Z F2 r2 D (forL k g m n (i+1) bq bx2),λσ2 H2 ⟨F2,r2,bq,bx2,g2,R2,h2⟩=>#[n,nF _,F2,r2,bq,bx2,g2,R2,h2],λy H2 hy=>?_];let#[rfl,hy]:=hy;have e4:ws[i]?=ae y:=hy ws (.of k1);rw[e2]at e4;cases e4;refine#[F',r',aN,bx',.d x,R',du,?_];cases eg:g (.d x) aN bx' with
  |none=>erw[eg]at h';show h'.elim
  |some o=>
    let#[pQ,bS]:=o;erw[eg]at h';intro F3 r3 σ3 H3 g3 R3;refine#[F3,r3,pQ,bS,R3,?_];have gg:=g'.trans g3;cases em:m pQ bS with
    |nx ue cK=>erw[em]at h';show λF4 r4 σ4 H4 g4 R4=>#[F4,r4,ue,cK,gg.trans g4,R4,cR.weak (g3.trans g4) h']
    |ct ue cK=>erw[em]at h';show λF4 r4 σ4 H4 g4 R4=>#[F4,r4,ue,cK,gg.trans g4,R4,cR.weak (g3.trans g4) h']
    |bk ue cK=>erw[em]at h';show λF4 r4 σ4 H4 g4 R4=>h' F4 r4 σ4 H4 (g3.trans g4) R4
    |rt w cK=>erw[em]at h';show cR.weak g3 (o:=.rt w cK) h'
    |exc c cK=>erw[em]at h';show cR.weak g3 (o:=.exc c cK) h'
    |bad=>erw[em]at h';show h'
theorem Mt (hp:PassesOwn zg X.A X.env X.xe) (hc:X.calm=ah) (hi:PD X T Z iter mi) (hg:kS X T tg g) (hb:qt X T Z body m)
 (hs:∀ x,foldedSetIterable iter X.env x=pure x:=by intro _;rfl):cM X T Z (.For tg iter body [] pos) (yo mi g m):=
 PS.imp (D5 hp hc (N0 hi) hg hb hs) λD σ H h=>Ui h
end
end L2.DL
namespace L2
open PySem.W
end L2
namespace L2.DL
open PySem.W
section
variable {o:au} 
def wB (k m:DE W):DE W:=λenv bx=>fA (k env bx) λy bx1=>fA (m env bx1) λx bx2=>match y,x with
 | .d (.tup d),.b n=>(match bx2[n]?,uw d with
   |some (.dT l),ae k=>.val (.d (.bl (eZ l k).isSome)) bx2
   |_,_=>.bad)
 |_,_=>.bad
theorem VU {Q:VK}(h:tD T Z (wB mb ma) σ H Q):Yp (tD T Z mb) (tD T Z ma) σ H Q:=by
 let#[F,r,env,bx,R,h]:=h;refine#[F,r,env,bx,R,End.bind h λy bx1 F1 r1 u H1 g1 R1 d1 h1=>#[F1,r1,env,bx1,R1,End.bind h1 λx bx2 F2 r2 v H2 g2 R2 d2 h2=>?_]];split at h2
 .ext d n;let#[a,rfl,ha]:=d2;let#[c,hc,kc]:=R2.eU ha;rw[hc]at h2;split at h2
  .ext l k e1 e2;cases e1;let#[hF,ao,k1,k2]:=kc;let#[b,us,rfl,f1,f2]:=(g2.den (w:=.d (.tup d)) d1:bN F2 r2 (.d (.tup d)) u);cases Gj e2 f2;refine#[a,_,rfl,.inr #[ao,k,b,.inl k1,rfl,R2.fh _ _ f1,rfl],?_];have e:(eu ao k).isSome=(eZ l k).isSome:=by
    cases q:eZ l k with
    |none=>rw[k2.get.2 q];rfl
    |some w=>let#[v2,e3,_]:=k2.get.1 _ q;rw[e3];rfl
   rw[e];show h2 F2 r2 _ H2 (.refl F2 r2) R2 zc
  .show h2.elim
 .show h2.elim
theorem Uj (hu:X.A.units+1<cLine) (hi:PD X T Z e mb) (ho:PD X T Z o ma) (hm:behindInMarks .In o=af):PD X T Z (.Compare e [.In] [o] pos) (wB mb ma):=
 PE.imp (Ax (Fd hu hi ho) hm) λσ H Q h=>VU h
end
def sX (sub:Bool) (i:Nat) (m:DE W):aB:=λenv bx=>match env[i]? with
 |some (ae (.d (.int a)))=>bC zC λw bx1=>(match w with|.d (.int b)=>.nx (env.set i (ae (.d (.int (if sub then a-b else a+b))))) bx1|_=>.bad)
 |_=>.bad
theorem Sd {i:Nat}{D:Ends}(sub:Bool) (h:tS T Z (sX sub i ma) D σ H):acE i (tD T Z ma) (XG λa b=>if sub then a-b else a+b) D σ H:=by
 let#[F,r,env,bx,R,h]:=h;unfold sX at h;split at h
 .ext a q;let#[v,e1,e2]:=R.slot i _ q;cases (show v=.int a from e2);refine#[.int a,e1,F,r,env,bx,R,End.bC h λw bx1 F1 r1 u H1 g1 R1 d1 h1=>?_];split at h1
  .ext b;cases (show u=.int b from d1);show#[a,b,rfl,rfl,h1 F1 r1 _ H1 zS (R1.set (w:=.d (.int (if sub then a-b else a+b))) zc i)]
  .show h1.elim
 .show h.elim
theorem Pq (i:Nat) (he:PD X T Z e ma) (hN:X.N.Nodup) (hi:X.N[i]?=ae x) (hx:Loc X.env.scope x) (hf:X.fn x=ah \/ X.env.scope.names.lookup x=ae .local):cM X T Z (.AugAssign (.Name x pos') .Add e pos) (sX af i ma):=
 PS.imp (J9 hN hi hx he SW hf) λD σ H h=>Sd af h
theorem Pr (i:Nat) (he:PD X T Z e ma) (hN:X.N.Nodup) (hi:X.N[i]?=ae x) (hx:Loc X.env.scope x) (hf:X.fn x=ah \/ X.env.scope.names.lookup x=ae .local):cM X T Z (.AugAssign (.Name x pos') .Sub e pos) (sX ah i ma):=
 PS.imp (J9 hN hi hx he SX hf) λD σ H h=>Sd ah h
end L2.DL
namespace K1
open L2 L2.DL
def AY:aB:=(fG (gz (ls "int" (dV 0)) (Iz (ls "bool" (dV 0)))))
def jj:List W->List Bx->O W:=a5 1 (aQ AY)
def o9:aB:=(fG (gz (fq K1.jj 1 zaW) (d3 eW eW (dV 1) (dV 0) (dV 2))))
def fX:List W->List Bx->O W:=a5 3 (aQ o9)
def AZ:aB:=(fG (gz (ls "tuple" (dV 0)) (d3 eW eW (dV 1) (dN af cz zaW) (dV 2))))
def f8:List W->List Bx->O W:=a5 3 (aQ AZ)
def Aa:aB:=(fG (dN af dt (fc (fQ af [ag,ae 0] (rj (fc zf (fc (dN af cz zaW) fg))) (fe 0) fS (d2 af cY (d2 af ax (dV 1) (d2 af cX (dV 0) zf)) (d2 af ax (dV 1) (dV 0)))) fg)))
def g6:List W->List Bx->O W:=a5 1 (aQ Aa)
def Dd:aB:=(fG (gz (fq K1.f8 3 (fc (dV 0) (fc zf (fc (dC (.int 5)) fg)))) (dN af dt (fc (fQ af [ag] (bD (dV 0)) (fe 0) fS (fq K1.fX 3 (fc (dV 0) (fc zj (fc zp fg))))) fg))))
def jO:List W->List Bx->O W:=a5 1 (aQ Dd)
def De:aB:=(fv (aM (nL (kH (dB (fq K1.f8 3 (fc (dV 0) (fc (d2 af fK zp zf) (fc (d2 af fK zp zf) fg)))))) (kH (dB (dN af dt (fc (fQ af [ag] (bD (dV 0)) (fe 0) fS (fq K1.fX 3 (fc (dV 0) (fc zj (fc (dC (.int 9)) fg))))) fg))))) (fG (dC (.bl af))) aV) (fG (dN af dt (fc (fQ af [ag,ag] (uj (fc (dV 0) (fc (kJ af (dV 0) (kI zf) kT) fg))) (fP 2 zal) fS (d2 af eW (dV 1) (dV 0))) fg))))
def jP:List W->List Bx->O W:=a5 1 (aQ De)
def JH:aB:=(fG (gz (fq K1.f8 3 (fc (dV 0) (fc zr (fc zr fg)))) (gz (fq K1.fX 3 (fc zaC (fc zf (fc (dC (.int 999)) fg)))) (fq K1.jP 1 (fc zaL fg)))))
def mD:List W->List Bx->O W:=a5 1 (aQ JH)
def Df:aB:=(fG (gz (fq K1.f8 3 (fc (dV 0) (fc zf zz))) (dN af dt (fc (fQ af [ag] (bD (dV 0)) (fe 0) fS (fq K1.mD 1 zaW)) fg))))
def jQ:List W->List Bx->O W:=a5 1 (aQ Df)
def Aj:aB:=(fv (aM (kH (dB (fq K1.f8 3 (fc (dV 0) (fc zr (fc zr fg)))))) (fG (dC (.bl af))) aV) (fG (gz (dN af dt (fc (fQ af [ag,ae 1] (bD (dV 0)) (fe 0) fS (fq K1.fX 3 (fc (dV 0) (fc zj (fc (d2 af cX (dV 1) zf) fg))))) fg)) (d2 af cY zaC zaL))))
def iz:List W->List Bx->O W:=a5 2 (aQ Aj)
def Dg:aB:=(fv (aM (kH (dB (ls "tuple" (dV 0)))) (fG (dC (.bl af))) aV) (fG (gz (dN af dt (fc (fQ af [ag,ae 1] (bD (dV 0)) (fe 0) fS (fq K1.iz 2 (fc (dV 0) zF))) fg)) (fq K1.g6 1 zaW))))
def jR:List W->List Bx->O W:=a5 2 (aQ Dg)
def Fv:aB:=(fv (aM (kH (dB (fq K1.f8 3 (fc (dV 0) (fc (dC (.int 4)) zz))))) (fG (dC (.bl af))) aV) (fv (fC (dV 0) (fP 4 (fr (fe 1) (fr (fe 2) zaR)))) (fG (gz (fq K1.jO 1 zF) (gz (fq K1.jQ 1 zL) (gz (fq K1.jR 2 (fc (dV 3) (fc (dN af cz zL) fg))) (fq K1.fX 3 (fc (dV 4) (fc zf (fc (dC (.int 9)) fg))))))))))
def lA:List W->List Bx->O W:=a5 5 (aQ Fv)
def jw:aB:=(fv (aM (dB (d2 af cY (dV 1) (ui (dV 0)))) (fG (Ep (dV 0) (dV 1))) aV) (fG zj))
def g9:List W->List Bx->O W:=a5 2 (aQ jw)
def jD:aB:=(fv (aM (dB (d2 af ug (dV 0) (d2 af uf (dC (.int 10)) (dC (.int 18))))) (fG (gq ah (fc (d2 af cX (dV 0) (d2 af uf (dC (.int 10)) (dC (.int 18)))) fg))) aV) (fv (fC zj (fe 1)) (fv (gZ (cS (fc (dC (.int 64)) fg)) (fe 2) zB) (fG (gq ah zF)))))
def jS:List W->List Bx->O W:=a5 4 (aQ jD)
def A0:aB:=(fv (fC (d2 af ph zaC (dV 1)) (fe 2)) (fv (fC (d2 af pR zaC (dV 1)) (Eo (dV 0) zj)) (fG (dV 2))))
def fm:List W->List Bx->O W:=a5 3 (aQ A0)
def l6:aB:=(fv (fC (d2 af ax (gq af (fc (dC (.int 9)) (fc zp (fc zf (fc (dC (.int 9)) fg))))) (fq K1.fm 2 (fc (dV 0) zz))) (fe 1)) (fv (fC (II af (dN af dQ (fc (fQ af [ag,ae 0,ae 1] (cS zz) (fe 0) fS (fq K1.fm 2 (fc (dV 1) (fc (d2 af fK (dV 2) zf) fg)))) fg))) (fe 2)) (fG (fN (fc (d2 af ax (gq af (fc (dC (.int 30)) (fc (d2 af fK zf (fq K1.fm 2 (fc (dV 0) (fc (dC (.int 20)) fg)))) (fc (dC (.int 999)) (fc (dC (.int 8)) fg))))) (fq K1.fm 2 (fc (dV 0) zz))) (fc (dN af pU zL) fg))))))
def gH:List W->List Bx->O W:=a5 3 (aQ l6)
end K1
namespace K2
open L2 L2.DL
def JI:aB:=(fv (fC (d2 af ax (gq af (fc zj (fc zj (fc (d2 af uf (dC (.int 10)) (dC (.int 6))) (fc (d2 af uf (dC (.int 10)) (dC (.int 39))) fg))))) (fq K1.fm 2 (fc (dV 0) zz))) (fe 3)) (fv (fC (dN af pU (fc (fQ af [ag,ag,ae 3] (bD (dV 1)) (fP 2 zal) fS (fN (fc (d2 af fK (dV 0) (dV 2)) (fc (d2 af fK (dV 1) (dV 2)) fg)))) fg)) (fe 4)) (fG (fN (fc (dV 4) (fc (fQ af [ag,ae 3] (bD (dV 2)) (fe 0) fS (d2 af fK (fN (fc (d2 af fK zaC (dV 1)) fg)) (kJ af (dV 0) (kI zf) kT))) zaK))))))
def jT:List W->List Bx->O W:=a5 5 (aQ JI)
def Fw:aB:=(fv (ku 2 3 (fc (gq ah fg) (fc (fq K1.fm 2 (fc (dV 0) zF)) fg))) (fv (gZ (cS (fc (d2 af ax (gq af (fc zj (fc zf (fc zr zz)))) (fq K1.fm 2 (fc (dV 0) zz))) fg)) (fe 4) zax) (fG (dN af pU zL))))
def jk:List W->List Bx->O W:=a5 5 (aQ Fw)
def jm:aB:=(fG (dN af dt (fc (fQ af [ag,ag] (uj (fc (dV 0) (fc (kJ af (dV 0) (kI zf) kT) fg))) (fP 2 zal) fS (d2 af cY zaL (d2 af ax (dV 1) zj))) fg)))
def jU:List W->List Bx->O W:=a5 1 (aQ jm)
def BP:aB:=(fG (gz (fq K1.jj 1 zaW) (d2 af ug (dV 0) zj)))
def iA:List W->List Bx->O W:=a5 1 (aQ BP)
def Mu:aB:=(fG (gz (fq K1.f8 3 (fc (dV 0) (fc zr (fc zr fg)))) (gz (fq K2.iA 1 (fc zaC fg)) (gz (fq K2.iA 1 (fc zaL fg)) (d2 af cY zaC zaL)))))
def oM:List W->List Bx->O W:=a5 1 (aQ Mu)
def ja:aB:=(fv (fC (d2 af ax zaC (dV 2)) (fe 4)) (fv (gZ (bD (dV 1)) (fP 2 (fr (fe 5) (fr (fe 6) fR))) (aM (dB (d3 eW cY (dV 5) (dV 3) (dV 6))) (fG (dN af maxD (fc zj (fc zar fg)))) aV)) (fG (dV 4))))
def iL:List W->List Bx->O W:=a5 7 (aQ ja)
def mE:aB:=(fv (fC (d2 af ax zaC (dV 2)) (fe 4)) (fv (gZ (bD (dV 1)) (fP 2 (fr (fe 5) (fr (fe 6) fR))) (aM (dB (d3 eW cY (dV 5) (dV 3) (dV 6))) (fG (dN af maxD (fc zar (fc zj fg)))) aV)) (fG (dV 4))))
def jn:List W->List Bx->O W:=a5 7 (aQ mE)
end K2
namespace bP
open L2 L2.DL
def jV:aB:=(aM (kH (dB (fq K1.lA 1 zaW))) dD aV)
def iE:List W->List Bx->O W:=a5 1 (aQ jV)
end bP
namespace aH
open L2 L2.DL
def lB:aB:=(fv (fC (dN af pU (fc (fQ af [ag,ae 0] (cS (fc (d2 af fK zf (fq K1.fm 2 (fc (dV 0) (fc (dC (.int 5)) fg)))) fg)) (fe 0) fS (fq K1.fm 2 (fc (dV 1) zz))) fg)) (fe 1)) (fv (fC (dN af pU (fc (fQ af [ag,ae 0] (cS (fc (d2 af fK zf (fq K1.fm 2 (fc (dV 0) zz))) fg)) (fe 0) fS (fq K1.gH 1 zF)) fg)) (fe 2)) (fv (fC (gq af fg) (fe 3)) (fv (gZ (cS (fc (dN af cz zL) fg)) (fe 4) (fC (d2 af fK (dV 3) (fQ af [ag,ae 0,ae 4] (cS zZ) (fe 0) (dB (d2 af aT (fq K1.fm 2 (fc (dV 1) (fc zp fg))) zj)) (fN (fc (dV 0) zL)))) (fe 3))) (fG (fN (fc (dV 1) (fc (dV 2) (fc (dN af pU (fc (dN af dQ zaK) fg)) (fc (d2 af ax (gq af (fc zf (fc zr (fc (dC (.int 9)) (fc (d2 af fK zf (fq K1.fm 2 (fc (dV 0) (fc (dC (.int 9)) fg)))) fg))))) (fq K1.fm 2 (fc (dV 0) zz))) fg))))))))))
def iP:List W->List Bx->O W:=a5 5 (aQ lB)
def lC:aB:=(fv (fC (dN ah xV zF) (fe 2)) (fG (fQ af [ag,ae 0,ae 2] (bD (dV 1)) (fe 0) fS (wq (dV 2) (fq K1.fm 2 (fc (dV 1) (fc (dN af cz zL) fg)))))))
def jW:List W->List Bx->O W:=a5 3 (aQ lC)
def A3:aB:=(fv (ku 3 4 (fc (fq K1.fm 2 (fc (dV 0) zL)) (fc (fq K1.fm 2 (fc (dV 0) (fc (d2 af ax (gq af (fc zp (fc (dC (.int 10)) fg))) (fq K1.fm 2 (fc (dV 0) (fc zr fg)))) fg))) fg))) (fv (ku 5 6 (fc (fq K1.fm 2 (fc (dV 0) (fc (dN af cz (fc (d2 af ax (dV 1) zj) fg)) fg))) (fc (fq K1.fm 2 (fc (dV 0) (fc (dC (.int 5)) fg))) fg))) (fv (aM (dB (d2 af aT (dV 6) zj)) (fG (fN (fc (dV 3) (fc (dC (.str "out")) zZ)))) aV) (fv (aM (dB (d2 af cY (dV 6) zp)) (fG (fN (fc (dV 3) (fc (dC (.str "to")) (fc (dV 4) (fc (dV 5) fg)))))) aV) (fv (fC (d2 af ax (gq af (fc zj (fc (fq K1.fm 2 (fc (dV 0) (fc (dC (.int 9)) fg))) (fc (fq K1.fm 2 (fc (dV 0) (fc (dC (.int 40)) fg))) (fc (dC (.int 999)) fg))))) (fq K1.fm 2 (fc (dV 0) zz))) (fe 7)) (fG (fN (fc (dV 3) (fc (dC (.str "in")) (fc (dV 4) (fc (fq K1.fm 2 (fc (dV 0) (fc (dN af cz (fc (d2 af ax (dV 1) zf) fg)) fg))) (fc (dV 5) (fc (dV 7) (fc (fq K1.fm 2 (fc (dV 0) (fc (dC (.int 100)) fg))) fg))))))))))))))
def gW:List W->List Bx->O W:=a5 8 (aQ A3)
def Ab:aB:=(fv (fC yi (fe 4)) (fv (gZ (cS (fc (fq K1.fm 2 (fc (dV 0) (fc (d2 af fK (dV 2) zf) fg))) fg)) (fe 5) zO) (fG (fq aH.jW 2 (fc (dV 0) (fc (EL af (dV 4)) fg))))))
def iQ:List W->List Bx->O W:=a5 7 (aQ Ab)
def Ac:aB:=(fv (fC (gq ah fg) (fe 3)) (fv (wx 1 (fe 4) zab) (fG (sR 3))))
def gm:List W->List Bx->O W:=a5 6 (aQ Ac)
def ia:aB:=(fv (fC (kJ af (dV 2) kT (kI zp)) (fP 3 (fr (fe 3) (fr (fe 4) (fr (fe 5) fR))))) (fv (fC (bV (dV 1) "there") (fe 6)) (fv (aM zU (fv (aM (dB (c8 af (dV 5) (bV (dV 1) "came"))) (fG (dC (.str "there"))) aV) (fv (aM (dB (d2 af (inD af) (d2 af ax (dV 2) (dC (.int 4))) (fQ af [ag,ag] (bD (fq aH.gm 3 (fc (dV 0) (fc (dV 6) (fc (d2 af ax (dV 2) zp) fg))))) (fP 2 zal) fS (dV 1)))) (fG (dC (.str "apart"))) aV) (fv (k5 (bV (dV 1) "came") (dV 5) (dV 2)) (fv (k5 (dV 6) (dV 5) (fN (fc (d2 af ax (dV 2) zp) (fc (d2 af ax (dV 2) (dC (.int 4))) fg)))) (fv (rR (bV (dV 1) "doors") (fN (fc (dV 3) (fc (d2 af ax (dV 2) (dC (.int 4))) fg))) (dC (.bl ah))) (fG (dC (.str "takes")))))))) aV) (fv (aM (dB (c8 ah (dV 5) (dV 6))) (fG (dC (.str "none"))) aV) (fv (fC (cg (dV 6) (dV 5)) (fP 2 (fr (fe 7) (fr (fe 8) fR)))) (fv (aM (dB (d2 af aT (dV 4) (dC (.str "out")))) (fv (gf (yj (dV 6) (dV 5))) (k5 (bV (dV 1) "gone") (dV 5) (dV 3))) (aM (dB (d2 af aT (dV 8) (d2 af ax (dV 2) zp))) (fG (dC (.str "same"))) (aM (dB (d2 af (inD af) (d2 af ax (dV 2) zp) (fQ af [ag,ag,ae 5] (bD (fq aH.gm 3 (fc (dV 0) (fc (dV 6) (fc (dV 7) fg))))) (fP 2 zal) (dB (d2 af dO (dV 0) (dV 2))) (dV 1)))) (fG (dC (.str "apart"))) (fv (k5 (dV 6) (dV 5) (fN (fc (dV 7) (fc (d2 af ax (dV 2) zp) fg)))) (rR (bV (dV 1) "doors") (fN (fc (dV 3) (fc (d2 af ax (dV 2) zp) fg))) (dC (.bl ah))))))) (fv (rR (bV (dV 1) "doors") (fN (fc (dV 3) (fc (dV 8) fg))) (dC (.bl ah))) (fG (dC (.str "takes"))))))))))
def gF:List W->List Bx->O W:=a5 9 (aQ ia)
def mF:aB:=(fv (fC (ym [("there",1),("came",1),("gone",1),("doors",2),("at",0),("words",0)]) (fe 2)) (fv (gZ (bD (dN af dQ zF)) (fe 3) zaE) (fG (dV 2))))
def jo:List W->List Bx->O W:=a5 4 (aQ mF)
def jE:aB:=(fv (ku 2 3 (fc (d2 af cX (dN af cz (fc zaL fg)) zf) (fc (d2 af cX (dN af cz (fc zaC fg)) zf) fg))) (fv (aM (dB (d2 af aT (dV 1) (dC (.str "in")))) (fG (fN (fc (dC (.int 9)) (fc (dV 2) (fc (dV 3) (fc (dC (.int 999)) (fc (dC (.int 99)) fg))))))) aV) (fv (aM (dB (d2 af aT (dV 1) (dC (.str "out")))) (fG (fN (fc (dC (.int 9)) fg))) aV) (fv (aM (dB (d2 af aT (dV 1) (dC (.str "to")))) (fG (fN (fc (dC (.int 9)) zaK))) aV) (fG (fN fg))))))
def ic:List W->List Bx->O W:=a5 4 (aQ jE)
def JJ:aB:=(fv (aM (nL (kH (dB (ls "tuple" (dV 1)))) (nL (dB (d2 af cY (dN af cz zF) zp)) (kH (dB (fq K2.iA 1 (fc (d2 af ax (dV 1) zj) fg)))))) (fG (dC (.bl af))) aV) (fv (fC (fq aH.ic 2 (fc (dV 0) (fc (d2 af ax (dV 1) zf) fg))) (fe 2)) (fv (aM (dB (d2 af dO (dN af cz zL) (d2 af cX (dN af cz zF) zr))) (fG (dC (.bl af))) aV) (fG (dN af dt (fc (fQ af [ag,ag] (uj (fc (kJ af (dV 1) (kI zr) kT) zL)) (fP 2 zal) fS (fq K1.fX 3 (fc (dV 0) (fc zj zF)))) fg))))))
def jX:List W->List Bx->O W:=a5 3 (aQ JJ)
def lD:aB:=(fv (aM (nL (kH (dB (ls "list" (dV 1)))) (dB (d2 af eK (dN af cz zF) (dC (.int 16))))) (fG (dC (.bl af))) aV) (fG (gz (dN af dt (fc (fQ af [ag,ae 0] (bD (dV 1)) (fe 0) fS (fq aH.jX 2 (fc (dV 1) zaW))) fg)) (fq K1.g6 1 (fc (dN af dQ zF) fg)))))
def jY:List W->List Bx->O W:=a5 2 (aQ lD)
def iS:aB:=(fv (gf (fq bP.iE 1 zaW)) (aM (kH (dB (fq aH.jY 2 (fc (dV 0) zF)))) dD aV))
def jx:List W->List Bx->O W:=a5 2 (aQ iS)
def lE:aB:=(fv (aM (dB (d2 af aT zaL (dC (.str "in")))) (fG (d2 af ax (dV 0) (dC (.int 4)))) aV) (fv (aM (dB (d2 af aT zaL (dC (.str "to")))) (fG (d2 af ax (dV 0) zp)) aV) (fG (dC .non))))
def fL:List W->List Bx->O W:=a5 1 (aQ lE)
def Dh:aB:=(fG (d2 af (inD ah) (fN (fc (dN af minD (fc (dV 1) zL)) (fc (dN af maxD (fc (dV 1) zL)) fg))) (d2 af ax (dV 0) zr)))
def iT:List W->List Bx->O W:=a5 3 (aQ Dh)
def mG:aB:=(fv (ku 4 5 (fc (d2 af ax (dV 3) zf) (fc (d2 af ax (dV 3) zr) fg))) (fv (aM (kG zU (dB (c8 af (dV 5) (dV 1)))) (fG (dC (.str "there"))) aV) (fv (aM (kG (dB (d2 af dO (dV 4) (dC (.str "in")))) (dB (c8 ah (dV 5) (dV 2)))) (fG (dC (.str "none"))) aV) (fv (aM (dB (d2 af aT (dV 4) (dC (.str "out")))) (fG (dC (.str "takes"))) aV) (fv (fC (fq aH.fL 1 zaK) (fe 6)) (fv (aM (kG (dB (d2 af aT (dV 4) (dC (.str "to")))) (dB (d2 af aT (cg (dV 2) (dV 5)) (dV 6)))) (fG (dC (.str "same"))) aV) (fv (fC (nu zU (d2 af ax (dV 3) zp) (cg (dV 1) (dV 5))) (fe 7)) (fv (fC (wy af [ag,ae 2,ae 6] 2 (fe 0) (dB (d2 af aT (cg (dV 1) (dV 0)) (dV 2))) (dV 0)) (fe 8)) (fv (aM (dB (dN af dt (fc (fQ af [ag,ae 0,ae 1,ae 7] (bD (dV 8)) (fe 0) fS (fq aH.iT 3 (fc (dV 1) (fc (dV 3) (fc (cg (dV 2) (dV 0)) fg))))) fg))) (fG (dC (.str "takes"))) aV) (fG (dC (.str "apart"))))))))))))
def iH:List W->List Bx->O W:=a5 9 (aQ mG)
def Mv:aB:=(fv (fC (gq ah fg) (fe 2)) (fv (fC (nP ah []) (fe 3)) (fv (fC (nP ah []) (fe 4)) (fv (gZ (bD (dN af dQ zF)) (fe 5) (fv (fC (d2 af ax (dV 5) zr) (fe 6)) (fv (fC (fq aH.iH 4 (fc (dV 0) (fc (dV 3) (fc (dV 4) (fc (dV 5) fg))))) (fe 7)) zD))) (fG (sR 2))))))
def Cg:List W->List Bx->O W:=a5 8 (aQ Mv)
end aH
namespace cT
open L2 L2.DL
def lF:aB:=(fv (fC (nP af []) (fe 2)) (fv (yo (bV (dV 0) "at") (fP 2 zaR) (aM (dB (d2 af eW (dV 3) (dV 1))) (fC (dV 4) (fe 2)) aV)) (fG (dV 2))))
def gG:List W->List Bx->O W:=a5 5 (aQ lF)
def lG:aB:=(fv (fC (nP ah []) (fe 2)) (fv (gZ (bD (dV 0)) (fP 3 (fr (fe 3) (fr (fe 4) (fr (fe 5) fR)))) (fv (aM (dB (d2 af eK (d2 af ax (dV 3) zj) (dV 1))) IC aV) (aM (dB (eX af (dV 5))) (uz (dV 2) (d2 af ax (dV 3) zr)) (k5 (dV 2) (d2 af ax (dV 3) zr) (dV 5))))) (fG (sR 2))))
def iM:List W->List Bx->O W:=a5 6 (aQ lG)
def Bu:aB:=(fG (fQ af [ag,ag,ag,ag] (bD (fq aH.Cg 2 (fc (dV 0) zF))) (fP 4 (fr (fe 0) (fr (fe 1) (fr (fe 2) (fr (fe 3) fR))))) (dB (d2 af aT (dV 1) (dC (.str "takes")))) (fN (fc (dV 0) (fc (dV 2) zaK)))))
def gJ:List W->List Bx->O W:=a5 2 (aQ Bu)
end cT
namespace a9
open L2 L2.DL
noncomputable section
def Fx:aB:=(fv (fC (fq K2.jn 4 (fc (dV 0) (fc (dV 1) (fc (dV 4) (fc (dV 5) fg))))) (fe 6)) (fG (d2 af ax (d2 af ax (d2 af ax zaL (dV 3)) zf) (dN af maxD (fc zj (fc (d2 af cX (dV 6) (dN af intD (fc (wB (fN (fc (dV 5) zZ)) (bV (dV 2) "doors")) fg))) fg))))))
def jp:List W->List Bx->O W:=a5 7 (aQ Fx)
def A4:aB:=(fv (gf (fq bP.iE 1 zaW)) (fG (gz (fq K1.f8 3 (fc (dV 1) (fc zj zz))) (gz (dN af dt (fc (fQ af [ag] (bD (dV 1)) (fe 0) fS (fq K2.oM 1 zaW)) fg)) (fq K2.jU 1 zF)))))
def lH:List W->List Bx->O W:=a5 2 (aQ A4)
def Ad:aB:=(aM (kH (dB (fq a9.lH 2 (fc (dV 0) zF)))) dD aV)
def jZ:List W->List Bx->O W:=a5 2 (aQ Ad)
def l7:aB:=(fv (gf (fq a9.jZ 2 (fc (dV 0) zF))) (fv (gf (fq aH.jx 2 (fc (dV 0) zL))) (aM (kH (dB (fq K1.fX 3 (fc (dV 3) (fc zj (fc (dC (.int 9)) fg)))))) dD aV)))
def ie:List W->List Bx->O W:=a5 4 (aQ l7)
def Ae:aB:=(aM (kH (dB (fq K2.iA 1 zaW))) dD aV)
def iU:List W->List Bx->O W:=a5 1 (aQ Ae)
def Di:aB:=(fv (gZ (bD (dV 0)) (fP 3 (fr (fe 2) zaR)) (aM zaH (fG (dV 2)) aV)) (fG (dC .non)))
def gK:List W->List Bx->O W:=a5 5 (aQ Di)
def ig:aB:=(fv (fC (gq ah fg) (fe 2)) (fv (gZ (bD (dV 1)) (fP 2 zaR) zaP) (fG (dV 2))))
def gR:List W->List Bx->O W:=a5 5 (aQ ig)
def Dj:aB:=(fG (dN af EH (fc (fQ af [ag,ag,ag,ae 1,ae 2] (bD (dV 0)) (fP 3 (fr (fe 0) (fr (fe 1) (fr (fe 2) fR)))) fS (gz (d2 af aT zaC (dV 4)) (d2 af (inD af) (dV 3) (fN (fc (dV 1) zL))))) fg)))
def iV:List W->List Bx->O W:=a5 3 (aQ Dj)
def Dk:aB:=(fv (fC (fq cT.iM 2 (fc (dV 2) zZ)) (fe 5)) (fv (aM (dB (c8 ah (d2 af ax (dV 3) zr) (dV 5))) (fG zj) aV) (fv (fC (cg (dV 5) (d2 af ax (dV 3) zr)) (fe 6)) (fv (fC (fq K2.iL 4 (fc (dV 0) (fc (dV 1) (fc (dV 6) zZ)))) (fe 7)) (fv (aM (dB (fq a9.iV 3 (fc (dV 2) (fc (dV 6) zZ)))) (fC (dN af maxD (fc zj (fc (d2 af cX (dV 7) zf) fg))) (fe 7)) aV) (fG (d2 af ax (d2 af ax (d2 af ax zaL (d2 af ax (dV 3) zp)) zf) (dV 7))))))))
def iW:List W->List Bx->O W:=a5 8 (aQ Dk)
def Dl:aB:=(fv (fC (fq a9.gR 2 (fc (dV 0) zF)) (fe 4)) (fv (gZ (bD (dV 2)) (fP 3 (fr (fe 5) (fr (fe 6) (fr (fe 7) fR)))) (gf (rN (dV 4) (gq af (fc (d2 af ax (dV 5) zj) (fc (d2 af fK (d2 af ax (dV 5) zj) zf) fg)))))) (fv (fC (fQ af [ag,ae 3] (bD (dN af wu zZ)) (fe 0) (dB (d2 af ug (dV 0) (d2 af ax (dV 1) zj))) (dV 0)) (fe 8)) (fv (fC (d2 af fK (kJ af (dV 8) (kI zf) kT) (gq af (fc (dC .non) fg))) (fe 9)) (fG (fQ af [ag,ag,ae 0,ae 1,ae 2,ae 3] (uj (fc (dV 8) (fc (dV 9) fg))) (fP 2 zal) fS (fN (fc (dV 0) (fc (dV 1) (fc (fq a9.iW 5 (fc (dV 2) (fc (dV 3) (fc (dV 4) (fc (dV 5) zaW))))) fg))))))))))
def j0:List W->List Bx->O W:=a5 10 (aQ Dl)
def JK:aB:=(fv (fC (d2 af ax (dV 3) (dC (.int 5))) (fe 5)) (fv (gZ (bD (fq a9.j0 4 (fc (dV 0) (fc (dV 1) (fc (dV 2) zaK))))) (fP 3 (fr (fe 6) (fr (fe 7) (fr (fe 8) fR)))) (fv (fC (nu (dB (eX af (dV 7))) (dV 4) (dN af minD (fc (dV 7) zZ))) (fe 9)) (sX af 5 (d2 af c6 (dV 8) (dN af maxD (fc zj (fc (d2 af cX (dV 9) (dV 6)) fg))))))) (fG (dV 5))))
def mH:List W->List Bx->O W:=a5 10 (aQ JK)
def Fy:aB:=(fv (gf (fq a9.ie 4 (fc (dV 0) (fc (dV 1) (fc (dV 2) zaK))))) (fv (gf (fq a9.iU 1 zZ)) (fv (fC (fq cT.gJ 2 (fc (dV 0) zL)) (fe 5)) (fv (fC (fq a9.gK 2 (fc (dV 5) zaK)) (fe 6)) (fv (aM (nL (dB (eX af (dV 6))) (dB (d2 af eK (d2 af ax (dV 6) zj) (dV 4)))) (fG (dC .non)) aV) (fG (fq a9.mH 5 (fc (dV 0) (fc (dV 1) (fc (dV 5) (fc (dV 6) zZ)))))))))))
def jq:List W->List Bx->O W:=a5 7 (aQ Fy)
end
end a9
namespace L2.DL
section
variable {β:Type}
@[simp] theorem fM {a:α}{k:α->List Bx->O β}:fA (.val a bx) k=k a bx:=rfl
@[simp] theorem WW {k:α->List Bx->O β}:fA .bad k=.bad:=rfl
@[simp] theorem gX {a:α}{k:α->List Bx->OS}:bC (.val a bx) k=k a bx:=rfl
@[simp] theorem WX {k:α->List Bx->OS}:bC (.bad:O α) k=.bad:=rfl
@[simp] theorem m7 {a:α}{k:α->List Bx->O β}:bindB (.val a bx) k=k a bx:=rfl
end
@[simp] theorem Ak {i:Nat}:dV i env bx=match env[i]? with|some (ae w)=>.val w bx|_=>.bad:=rfl
@[simp] theorem VW {d:D}:dC d env bx=.val (.d d) bx:=rfl
@[simp] theorem Fz:fg env bx=.val [] bx:=rfl
@[simp] theorem As {k:DE zam}:fc m k env bx=fA zC λw bx1=>fA (k env bx1) λl bx2=>.val (w::l) bx2:=rfl
@[simp] theorem Ps {k:DE zam}:fq fn n k env bx=fA (k env bx) λws bx1=>if ws.length=n then fn ws bx1 else .bad:=rfl
@[simp] theorem WL:dB m env bx=fA zC λw bx1=>match w with|.d (.bl k)=>.val k bx1|_=>.bad:=rfl
@[simp] theorem Mw {m k:DE Bool}:kG m k env bx=fA zC λb bx1=>match b with|true=>k env bx1|false=>.val af bx1:=rfl
@[simp] theorem Se {m k:DE Bool}:nL m k env bx=fA zC λb bx1=>match b with|true=>.val ah bx1|false=>k env bx1:=rfl
@[simp] theorem Uk {m:DE Bool}:kH m env bx=fA zC λb bx1=>.val (!b) bx1:=rfl
@[simp] theorem Pt {k:DE W}:gz m k env bx=fA zC λw bx1=>match w with|.d (.bl ah)=>k env bx1|.d (.bl af)=>.val (.d (.bl af)) bx1|_=>.bad:=rfl
@[simp] theorem WF:Iz m env bx=fA zC λw bx1=>match w with|.d (.bl k)=>.val (.d (.bl (!k))) bx1|_=>.bad:=rfl
@[simp] theorem Gr:fS env bx=.val ah bx:=rfl
@[simp] theorem WG {n:String}:ls n m env bx=fA zC λw bx1=>match bY bx1 w with|some d=>.val (.d (.bl (u6 (rn d) n))) bx1|none=>.bad:=rfl
@[simp] theorem Mx {b:Bool}:d2 b g ma mb env bx=fA (ma env bx) λx bx1=>fA (mb env bx1) λy bx2=>cu b ((bY bx2 x).bind λp=>(bY bx2 y).bind λq=>g p q) bx2:=rfl
@[simp] theorem Dm {b:Bool}{g:List D->Option Res}{k:DE zam}:dN b g k env bx=fA (k env bx) λws bx1=>cu b ((kr bx1 ws).bind g) bx1:=rfl
@[simp] theorem WY {g':D->D->Option Res}{mc:DE W}:d3 g g' ma mb mc env bx=fA (ma env bx) λx bx1=>fA (mb env bx1) λy bx2=>
 fA (cu af ((bY bx2 x).bind λp=>(bY bx2 y).bind λq=>g p q) bx2) λz bS=>match z with
  |.d (.bl ah)=>fA (mc env bS) λw cK=>cu af ((bY cK y).bind λp=>(bY cK w).bind λq=>g' p q) cK
  |.d (.bl af)=>.val (.d (.bl af)) bS
  |_=>.bad:=rfl
@[simp] theorem Af {d:D}:bY bx (.d d)=ae d:=rfl
@[simp] theorem A5:kr bx []=ae []:=rfl
@[simp] theorem Ch {d:D}{l:List W}:kr bx (.d d::l)=(kr bx l).map λt=>d::t:=by
 erw[kr,Af];cases kr bx l<;>rfl
@[simp] theorem Vm {b:Bool}:cu b ag bx=.bad:=rfl
@[simp] theorem gT {q:Res}:cu af (ae q) bx=.val (.d q.toD) bx:=by cases q<;>rfl
@[simp] theorem WM {l:List D}:cu ah (ae zaZ) bx=.val zaM (bx++[.lst l]):=rfl
@[simp] theorem Gu {d:D}:(Res.old d).toD=d:=rfl
@[simp] theorem Ci {l:List D}:(Res.tup l).toD=.tup l:=rfl
@[simp] theorem j5 {l:List D}:(Res.lst l).toD=.lst l:=rfl
@[simp] theorem WH {l:List (Key×D)}:(Res.aA l).toD=.aA l:=rfl
@[simp] theorem WN:aV env bx=.nx env bx:=rfl
@[simp] theorem lI {m k:aB}:fv m k env bx=match m env bx with|.nx env1 bx1=>k env1 bx1|o=>o:=rfl
@[simp] theorem Pu:gf m env bx=bC zC λ_ bx1=>.nx env bx1:=rfl
@[simp] theorem My:fG m env bx=bC zC λw bx1=>.rt w bx1:=rfl
@[simp] theorem Sf {t:DE Bool}{m k:aB}:aM t m k env bx=bC (t env bx) λb bx1=>match b with|true=>m env bx1|false=>k env bx1:=rfl
@[simp] theorem oN {g:DG}:fC m g env bx=bC zC λw bx1=>match g w env bx1 with|some (env1,bx2)=>.nx env1 bx2|none=>.bad:=rfl
@[simp] theorem Mz {m:DE zam}{g:DG}{body:aB}:gZ m g body env bx=bC zC λds bx1=>bT g body ds env bx1:=rfl
@[simp] theorem m8 {i:Nat}{w:W}:fe i w env bx=ae (env.set i (ae w),bx):=rfl
@[simp] theorem WI:fR [] env bx=ae (env,bx):=rfl
@[simp] theorem VX {g:DG}{k:n8}{w:W}{l:List W}:fr g k (w::l) env bx=(g w env bx).bind λ(env1,bx1)=>k l env1 bx1:=rfl
@[simp] theorem WJ {k:n8}{l:List D}:fP n k (.d (.tup l)) env bx=if l.length=n then k (l.map W.d) env bx else ag:=rfl
@[simp] theorem m9 {src:List zaI}{g:DG}:fQ bo src mi g tf te env bx=fA (mi env bx) λds bx1=>fA (bH g tf te ds (dM src env) bx1 []) λl bx2=>cu bo (ae zaZ) bx2:=rfl
@[simp] theorem FA:dM [] env=[]:=rfl
@[simp] theorem Do {l:List zaI}:dM (ag::l) env=ag::dM l env:=rfl
@[simp] theorem Dp {i:Nat}{l:List zaI}:dM (ae i::l) env=((env[i]?).bind id)::dM l env:=rfl
@[simp] theorem Gv:bD m env bx=fA zC λw bx1=>match w with|.d (.lst l)=>.val (l.map W.d) bx1|.d (.tup l)=>.val (l.map W.d) bx1|_=>.bad:=rfl
@[simp] theorem Ul {k:DE zam}:fN k env bx=fA (k env bx) λws bx1=>cu af ((n6 ws).bind λl=>if l.length<=sizeLine then ae (.tup l) else ag) bx1:=rfl
@[simp] theorem MA {k:DE zam}:gq bo k env bx=fA (k env bx) λws bx1=>cu bo ((n6 ws).bind λl=>if l.length<=sizeLine then ae zaZ else ag) bx1:=rfl
@[simp] theorem VY:n6 []=ae []:=rfl
@[simp] theorem Um {d:D}{l:List W}:n6 (.d d::l)=(n6 l).map λt=>d::t:=rfl
@[simp] theorem Uo:xW m env bx=fA zC λw bx1=>match w with|.d (.int i)=>.val (.d (.int (-i))) bx1|_=>.bad:=rfl
@[simp] theorem VZ {l u:DE (Option Int)}:kJ bo m l u env bx=fA zC λx bx1=>fA (l env bx1) λi bx2=>fA (u env bx2) λj bS=>cu bo ((bY bS x).bind λd=>sP d i j) bS:=rfl
@[simp] theorem WV:kT env bx=.val ag bx:=rfl
@[simp] theorem Pv:kI m env bx=fA zC λw bx1=>match w with|.d (.int i)=>.val (ae i) bx1|_=>.bad:=rfl
@[simp] theorem WO:II bo m env bx=fA zC λx bx1=>cu bo ((bY bx1 x).bind λd=>match d with|.lst l=>ae (.lst l.reverse)|_=>ag) bx1:=rfl
theorem fT {m:aB}{ws:List W}{d:D}(h:m zaA bx=.rt (.d d) bx):a5 n (aQ m) ws bx=.val (.d d) bx:=by
 erw[a5,aQ,DL.envOf,h,n9,pd,Hr]
end L2.DL
namespace K1
open L2 L2.DL
noncomputable def wh:D->Bool
 |.int _=>ah
 |_=>af
noncomputable def wi (d:D) (lo hi:Int):Bool:=match d with
 |.int i=>decide (lo<=i)&&decide (i<=hi)
 |_=>af
noncomputable def tl (d:D) (lo hi:Int):Bool:=match d with
 |.tup l=>decide (lo<=(l.length:Int))&&decide ((l.length:Int)<=hi)
 |_=>af
theorem Uq (d:D):u6 (rn d) "int"=(match d with|.int _=>ah|.bl _=>ah|_=>af):=by cases d<;>rfl
theorem Pw (d:D):u6 (rn d) "bool"=(match d with|.bl _=>ah|_=>af):=by cases d<;>rfl
theorem Ur (d:D):u6 (rn d) "tuple"=(match d with|.tup _=>ah|_=>af):=by cases d<;>rfl
theorem Dq (d:D) (bx:List Bx):jj [.d d] bx=.val (.d (.bl (wh d))) bx:=
 fT (by cases d<;>simp[AY,Uq,Pw,wh])
theorem oO (d:D) (lo hi:Int) (bx:List Bx):fX [.d d,.d (.int lo),.d (.int hi)] bx=.val (.d (.bl (wi d lo hi))) bx:=
 fT (by
  cases d<;>simp[o9,Dq,wh,wi,eW];ext i;by_cases h:lo<=i<;>simp[h])
theorem MB (d:D) (lo hi:Int) (bx:List Bx):f8 [.d d,.d (.int lo),.d (.int hi)] bx=.val (.d (.bl (tl d lo hi))) bx:=
 fT (by
  cases d<;>simp[AZ,Ur,tl,eW,cz];ext l;by_cases h:lo<=(l.length:Int)<;>simp[h])
theorem Px {g:DG}(J:aP->zu) (p:D->Bool) (f:D->D):∀ (l:List D) (env:aP) (acc:List D),J env ->
 (∀ d∈l,∀ env,J env->∃ aN,g (.d d) env bx=ae (aN,bx) /\ J aN /\ tf aN bx=.val (p d) bx /\ (p d=ah->te aN bx=.val (.d (f d)) bx))->acc.length+l.length<=sizeLine ->
 bH g tf te (l.map W.d) env bx acc=.val (acc++(l.filter p).map f) bx:=by
 intro l_;induction l_ with
 |nil=>(intro env acc _ _ _;simp[bH])
 |cons d l az=>
   intro env acc j h n;let#[aN,e1,j',e2,e3]:=h d (bE ..) env j;have n':acc.length<sizeLine:=by erw[bw]at n;lia
   erw[aO,bH,e1,e2,m7];have h':=λx (m:x∈l)=>h x (bB _ m);cases q:p d with
   |false=>
     erw[Ht,q];show az aN acc j' h' (by erw[bw]at n;lia)
   |true=>
     erw[Ht,q,e3 q,m7,if_pos n'];rw[az aN (acc++[f d]) j' h' (by erw[cZ,bw,nS]at n ⊢;lia)];simp
theorem A6 {g:DG}(J:aP->zu) (f:D->D) {l:List D}(j:J env) (h:∀ d∈l,∀ env,J env->∃ aN,g (.d d) env bx=ae (aN,bx) /\ J aN /\ te aN bx=.val (.d (f d)) bx) (n:l.length<=sizeLine) :
 bH g fS te (l.map W.d) env bx []=.val (l.map f) bx:=by
 rw[Px (tf:=fS) J (λ_=>ah) f l env [] j (λd m e je=>let ⟨e',a,b,c⟩:=h d m e je;#[e',a,b,rfl,λ_=>c]) (by simpa using n)];rw[List.filter_eq_self.mpr (λ_ _=>rfl)];rfl
theorem MC (l:List D) (p:D->Bool):pT (l.map λd=>D.bl (p d))=ae (l.map p):=by
 induction l with
 |nil=>rfl
 |cons d l ih=>simp[pT,ih]
@[simp] theorem all_map (l:List D) (p:D->Bool):dt [.lst (l.map λd=>D.bl (p d))]=ae (.old (.bl (l.all p))):=by
 simp[dt,MC,tL]
def rooms (d:D):Bool:=match d with
 |.tup l=>tl (.tup l) 1 5&&l.all λx=>wi x 0 3
 |_=>af
theorem adX:(5:Nat)<=sizeLine:=by decide
theorem lJ {l:List D}{lo hi:Int}(h:tl (.tup l) lo hi=ah):lo<=(l.length:Int) /\ (l.length:Int)<=hi:=by simpa[tl] using h
noncomputable def vh:List D->Bool
 |x::y::l=>(match x,y with|.int i,.int j=>decide (j<=i)|_,_=>af)&&vh (y::l)
 |_=>ah
def yp (d:D):Bool:=match d with
 |.tup l=>tl (.tup l) 4 4&&(l.all (λx=>wi x 0 9)&&vh l)
 |_=>af
theorem adY {l:List D}(h:tl (.tup l) 2 2=ah):∃ a b,l=[a,b]:=by
 have n:=lJ h;obtain⟨a,l,rfl⟩:∃ a t,l=a::t:=xk zd;obtain⟨b,l,rfl⟩:∃ a t,l=a::t:=xk (by simp at n;lia);have:l.length=0:=by simp at n;lia
 show#[a,b,by rw[xj this]]
theorem ah5 {l:List D}(h:tl (.tup l) 4 4=ah):∃ a b c e,l=[a,b,c,e]:=by
 have n:=lJ h;obtain⟨a,l,rfl⟩:∃ a t,l=a::t:=xk zd;obtain⟨b,l,rfl⟩:∃ a t,l=a::t:=xk (by simp at n;lia);obtain⟨c,l,rfl⟩:∃ a t,l=a::t:=xk (by simp at n;lia);obtain⟨e,l,rfl⟩:∃ a t,l=a::t:=xk (by simp at n;lia);have:l.length=0:=by simp at n;lia
 show#[a,b,c,e,by rw[xj this]]
theorem mI {x:D}{lo hi:Int}(h:wi x lo hi=ah):∃ i,x=.int i /\ lo<=i /\ i<=hi:=by
 cases x<;>simp[wi]at h;show#[_,rfl,h]
def kind (d:D):Bool:=match d with
 |.tup l=>tl (.tup l) 2 2&&(match l with|[a,b]=>wi a 1 999&&yp b|_=>af)
 |_=>af
def kinds (d:D):Bool:=match d with
 |.tup l=>tl (.tup l) 1 4&&l.all kind
 |_=>af
def sY (n:Int) (d:D):Bool:=match d with
 |.tup l=>tl (.tup l) 2 2&&(match l with|[.int a,.int b]=>decide (0<=a)&&decide (a<b)&&decide (b<=n-1)|_=>af)
 |_=>af
noncomputable abbrev dP (p:Int×Int):D:=.tup [.int p.1,.int p.2]
abbrev xP (l:List (Int×Int)):Option W:=ae (.d (.lst (l.map dP)))
def pE (p q:Int×Int):Bool:=HT.lexLt [p.1,p.2] [q.1,q.2]
noncomputable def rP (p:Int×Int):List HT.aS:=[.i p.1,.i p.2]
theorem Sg (p q:Int×Int):HT.cw (rP p) (rP q)=pE p q:=by simp[rP,pE,HT.cw,HT.lexLt,HT.aS.lt]
theorem V0 (p q:Int×Int):cY (dP p) (dP q)=ae (.old (.bl (pE p q))):=by
 rw[<-Sg];change (if HT.eN (rP p) (rP q)=ah then ae (Res.old (.bl (HT.cw (rP p) (rP q)))) else ag)=_;show if_pos zc
theorem MD {n:Int}{d:D}(h:sY n d=ah):∃ p:Int×Int,d=dP p /\ 0<=p.1 /\ p.1<p.2 /\ p.2<=n-1:=by
 cases d with
 |tup l=>
   erw[sY,aG]at h;let#[a,b,rfl]:=adY h.1;have h2:=h.2;cases a<;>cases b<;>simp at h2;show#[(_,_),rfl,h2.1.1,h2.1.2,h2.2]
 |_=>simp[sY]at h
theorem ME {n:Int}:∀ {l:List D},l.all (sY n)=ah->∃ ps:List (Int×Int),l=ps.map dP /\ ∀ p∈ps,0<=p.1 /\ p.1<p.2 /\ p.2<=n-1:=by
 intro l_;induction l_ with
 |nil=>show λ_=>#[[],rfl,λp m=>by cases m]
 |cons d l az=>
   intro h;erw[tK,aG]at h;let#[p,rfl,hp]:=MD h.1;let#[ps,rfl,hs]:=az h.2;show#[p::ps,rfl,λq m=>by
    rcases bz.mp m with rfl|m
    .show hp
    .show hs q m]
def uA:List (Int×Int)->Bool
 |p::q::r=>pE p q&&uA (q::r)
 |_=>ah
theorem A7:∀ ps:List (Int×Int),uA ps=(List.range (ps.length-1)).all λi=>pE (ps.getD i (0,0)) (ps.getD (i+1) (0,0))
 |[]=>rfl
 |[p]=>rfl
 | p::q::r=>by
   rw[uA,A7 (q::r)];erw[bw,aa3];rw[abl,tK,tL];rfl
theorem Gw {i:Nat}(h:i<ps.length):bu zI (i:Int)=ae (dP (ps.getD i (0,0))):=by
 unfold bu bQ;simp[h,List.getD]
theorem Cj {k:DE zam}{i j:Int}(e:k env bx=.val [.d (.int i),.d (.int j)] bx1):rj k env bx=.val (fJ i (j-i).toNat) bx1:=by
 unfold rj;rw[e,fM]
theorem j6 {k:DE zam}{j:Int}(e:k env bx=.val [.d (.int j)] bx1) (h:-(2 ^ 62)<=j /\ j<2 ^ 62):cS k env bx=.val (fJ 0 j.toNat) bx1:=by
 unfold cS;rw[e,fM];show if_pos h
theorem Py (lo:Int) (n:Nat):fJ lo n=((List.range n).map λ(i:Nat)=>D.int (lo+(i:Int))).map W.d:=by
 unfold fJ;rw[bO];rfl
theorem JL (ps:List (Int×Int)) (n:ps.length<=sizeLine) (bx:List Bx):g6 [.d (.tup zI)] bx=.val (.d (.bl (uA ps))) bx:=
 fT (by
  have s2:sizeLine=16777216:=br;have r:rj (fc zf (fc (dN af cz zaW) fg)) [ae (.d (.tup zI))] bx=.val (fJ 1 (((ps.length:Nat):Int)-1).toNat) bx:=Cj (by simp[cz]);erw[Aa,My,Dm,As,m9,aO,xb,bw,nS,tH,List.replicate_zero,uJ,r,fM,Py,Do,Dp,FA,abm,cb,id];rw[A6 (λe=>∃ w,e=[w,ae (.d (.tup zI))]) (λx=>.bl (match x with|.int i=>pE (ps.getD (i.toNat-1) (0,0)) (ps.getD i.toNat (0,0))|_=>af)) #[ag,rfl] ?_ (by rw[a6,xg];lia)]
  .erw[fM,Fz,gT,j5,Ch,A5,nG,cb];rw[all_map,gT,Gu,gX,tL,show ((ps.length:Int)-1).toNat=ps.length-1 by lia];have z:((λx:D=>match x with|.int i=>pE (ps.getD (i.toNat-1) (0,0)) (ps.getD i.toNat (0,0))|_=>af)∘λ(i:Nat)=>D.int (1+(i:Int)))=λi=>pE (ps.getD i (0,0)) (ps.getD (i+1) (0,0)):=by
    funext i;change pE (ps.getD ((1+(i:Int)).toNat-1) (0,0)) (ps.getD (1+(i:Int)).toNat (0,0))=_;rw[show (1+(i:Int)).toNat=i+1 by lia,aa3]
   rw[z,<-A7]
  .intro x m e ⟨w,je⟩;let#[i,mi,rfl]:=bA.mp m;have hi:i<((ps.length:Int)-1).toNat:=List.mem_range.mp mi;refine#[[xN (1+(i:Int)),ae (.d (.tup zI))],by simp[je],#[_,rfl],?_];have a1:=Gw (ps:=ps) (i:=i) zd;have a2:=Gw (ps:=ps) (i:=i+1) zd;rw[show ((i+1:Nat):Int)=1+(i:Int) by lia]at a2;erw[Mx,Ak,VW,abm,List.getElem?_cons_succ,fM,Af,cb,ax,cX,gT,Gu,show 1+(i:Int)-1=(i:Int) by lia,a1,a2,nG,V0];rw[show (1+(i:Int)).toNat=i+1 by lia];rfl)
noncomputable def YK:D->Option (Int×Int)
 |.tup [.int a,.int b]=>ae (a,b)
 |_=>ag
theorem Gx (ps:List (Int×Int)):(ps.map dP).filterMap YK=ps:=by
 induction ps with
 |nil=>rfl
 |cons p ps ih=>rw[aO,pH,ih];rfl
def apart (n:Int) (d:D):Bool:=match d with
 |.tup l=>l.all (sY n)&&uA (l.filterMap YK)
 |_=>af
noncomputable def lenOf:D->Int
 |.tup l=>l.length
 |_=>0
def house (d:D):Bool:=match d with
 |.tup [r,k,p,h]=>rooms r&&(kinds k&&(apart (lenOf k) p&&wi h 1 9))
 |_=>af
end K1
namespace L2.DL
noncomputable def adZ:Key->Nat
 |.inl _=>1921
 |.inr x=>(reprText x).length
mutual
noncomputable def wt:D->Nat
 |.non=>4
 |.bl _=>5
 |.int _=>1921
 |.str x=>(reprText x).length
 |.tup l=>3+vi l
 |.lst l=>3+vi l
 |.aA l=>3+EN l
noncomputable def vi:List D->Nat
 |[]=>0
 |d::l=>wt d+2+vi l
noncomputable def EN:List (Key×D)->Nat
 |[]=>0
 |(k,d)::l=>adZ k+wt d+4+EN l
end
theorem Gy (ts:List Str):(Str.join ", " ts).length<=piled ts:=by
 by_cases h:ts=[]
 .subst h;show aD _
 .have:=join_length_add ts h;lia
theorem Ck (ts:List Str):(tupleText ts).length<=3+piled ts:=by
 unfold tupleText;have h:=Gy ts;have e1:(("(":String):Str).length=1:=rfl;have e2:((",)":String):Str).length=2:=rfl;have e3:((")":String):Str).length=1:=rfl;rw[pG,pG];split<;>lia
theorem Ds:∀ (ts:List Str) (k:Nat) (acc:Str),(textFrom k acc ts).length<=acc.length+piled ts:=by
 intro l_;induction l_ with
 |nil=>(intro k acc;change acc.length<=_;lia)
 |cons t r az=>
   intro k acc;have h:=az (k+1) (acc++(if k>0 then ", " else "":String)++t);have e1:((", ":String):Str).length=2:=rfl;have e2:(("":String):Str).length=0:=rfl;rw[pG,pG]at h;rw[QV];change (textFrom (k+1) (acc++(if k>0 then ", " else "":String)++t) r).length<=_;split at h<;>ext hk<;>erw[hk,if_true,if_false]at h ⊢<;>lia
theorem Dt (ts:List Str):(listText ts).length<=3+piled ts:=by
 unfold listText;have h:=Ds ts 0 "[";have e1:(("[":String):Str).length=1:=rfl;have e2:(("]":String):Str).length=1:=rfl;rw[pG];lia
theorem Du (ts:List Str):(dictText ts).length<=3+piled ts:=by
 unfold dictText;have h:=Gy ts;have e1:(("{":String):Str).length=1:=rfl;have e2:(("}":String):Str).length=1:=rfl;rw[pG,pG];lia
theorem Dv {i:Int}(h:i.natAbs.log2<1920):(Str.ofString (toString i)).length<=1921:=by
 have:=int_text_length_le (a:=i) (k:=1920) ze h;rw[PySem.ofString_length];show this
mutual
theorem A8:∀ (d:D),(toPy d).showable=ah->(toPy d).shown.length<=wt d
 |.non,_=>by erw[toPy,PyData.shown,wt];decide
 |.bl b,_=>by cases b<;>erw[toPy,PyData.shown,wt]<;>decide
 | .int i,h=>by
   erw[toPy,PyData.shown,wt];show Dv (by simpa[toPy,PyData.showable] using h)
 |.str x,_=>by erw[toPy,PyData.shown,wt];show aD _
 | .tup l,h=>by
   erw[toPy,PyData.shown,wt];have:=oP l (by simpa[toPy,PyData.showable] using h);have:=Ck za2;lia
 | .lst l,h=>by
   erw[toPy,PyData.shown,wt];have:=oP l (by simpa[toPy,PyData.showable] using h);have:=Dt za2;lia
 | .aA l,h=>by
   erw[toPy,PyData.shown,wt];have:=Dw l (by simpa[toPy,PyData.showable] using h);have:=Du (PyData.shownKv (bZ l));lia
theorem oP:∀ (l:List D),PyData.showableAll (bJ l)=ah->piled za2<=vi l
 |[],_=>by erw[bJ,PyData.shownAll,vi];show aD _
 | d::l,h=>by
   erw[bJ,PyData.showableAll,aG]at h;have h1:=A8 d h.1;have h2:=oP l h.2;erw[bJ,PyData.shownAll,vi,QV];lia
theorem Dw:∀ (l:List (Key×D)),PyData.showableKv (bZ l)=ah->piled (PyData.shownKv (bZ l))<=EN l
 |[],_=>by erw[bZ,PyData.shownKv,EN];show aD _
 | (k,d)::l,h=>by
   erw[bZ,PyData.showableKv,aG]at h;have h1:=A8 d h.1.2;have h2:=Dw l h.2;have e1:((": ":String):Str).length=2:=rfl;have hk:(PyData.shown (dA k)).length<=adZ k:=by
    cases k with
    |inl i=>show Dv (by simpa[dA,PyData.showable] using h.1.1)
    |inr x=>show aD _
   erw[bZ,PyData.shownKv,EN,QV];rw[pG,pG];lia
end
mutual
noncomputable def ib (B:Nat):D->Bool
 |.int i=>decide (i.natAbs<=B)
 |.tup l=>wC B l
 |.lst l=>wC B l
 |.aA l=>Kj B l
 |_=>ah
noncomputable def wC (B:Nat):List D->Bool
 |[]=>ah
 |d::l=>ib B d&&wC B l
noncomputable def Kj (B:Nat):List (Key×D)->Bool
 |[]=>ah
 |(k,d)::l=>(match k with|.inl i=>decide (i.natAbs<=B)|_=>ah)&&ib B d&&Kj B l
end
theorem MF {B:Nat}(hB:B<2 ^ 1900) {i:Int}(h:i.natAbs<=B):i.natAbs.log2<1920:=by
 by_cases h0:i.natAbs=0
 .rw[h0];decide
 .show(Nat.log2_lt h0).mpr (hZ (yH h hB) (Nat.pow_le_pow_right ze ze))
mutual
theorem Cn {B:Nat}(hB:B<2 ^ 1900):∀ (d:D),ib B d=ah->(toPy d).showable=ah
 |.non,_=>by simp[toPy,PyData.showable]
 |.bl b,_=>by simp[toPy,PyData.showable]
 | .int i,h=>by
   erw[toPy,PyData.showable,decide_eq_true_eq];show MF hB (by simpa[ib] using h)
 |.str x,_=>by simp[toPy,PyData.showable]
 | .tup l,h=>by
   erw[toPy,PyData.showable];show A9 hB l (by simpa[ib] using h)
 | .lst l,h=>by
   erw[toPy,PyData.showable];show A9 hB l (by simpa[ib] using h)
 | .aA l,h=>by
   erw[toPy,PyData.showable];show Dx hB l (by simpa[ib] using h)
theorem A9 {B:Nat}(hB:B<2 ^ 1900):∀ (l:List D),wC B l=ah->PyData.showableAll (bJ l)=ah
 |[],_=>by simp[bJ,PyData.showableAll]
 | d::l,h=>by
   erw[wC,aG]at h;erw[bJ,PyData.showableAll,Cn hB d h.1,A9 hB l h.2,yJ]
theorem Dx {B:Nat}(hB:B<2 ^ 1900):∀ (l:List (Key×D)),Kj B l=ah->PyData.showableKv (bZ l)=ah
 |[],_=>by simp[bZ,PyData.showableKv]
 | (k,d)::l,h=>by
   erw[Kj,aG]at h;have hk:(dA k).showable=ah:=by
    cases k with
    |inl i=>
      erw[dA,PyData.showable,decide_eq_true_eq];show MF hB (by simpa using h.1.1)
    |inr x=>simp[dA,PyData.showable]
   erw[bZ,PyData.showableKv,hk,Cn hB d h.1.2,Dx hB l h.2,yJ]
end
structure Sm (B a b:Nat) (d:D):zu where
 s:ib B d=ah
 e:(toPy d).depth<=a
 w:wt d<=b
structure bc (B a b:Nat) (l:List D):zu where
 s:wC B l=ah
 e:PyData.depthAll (bJ l)<=a
 w:vi l<=b
theorem mJ {B a b:Nat}{d:D}(h:Sm B a b d) (hB:B<2 ^ 1900) (ha:a<=60) (hb:b<=sizeLine):v9 d=ah:=by
 have hs:=Cn hB d h.s;have:=A8 d hs;have h1:=h.e;have h2:=h.w;unfold v9;rw[hs,decide_eq_true (by lia:(toPy d).depth<=60),decide_eq_true (by lia:(toPy d).shown.length<=sizeLine)];rfl
theorem Sm.mono {B a b a' b':Nat}{d:D}(h:Sm B a b d) (ha:a<=a') (hb:b<=b'):Sm B a' b' d:=#[h.s,cC h.e ha,cC h.w hb]
theorem bc.mono {B a b a' b':Nat}{l:List D}(h:bc B a b l) (ha:a<=a') (hb:b<=b'):bc B a' b' l:=#[h.s,cC h.e ha,cC h.w hb]
theorem bc.nil {B a:Nat}:bc B a 0 []:=#[rfl,by simp[bJ,PyData.depthAll],aD _]
theorem bc.cons {B a b c:Nat}{d:D}{l:List D}(h:Sm B a b d) (t:bc B a c l):bc B a (b+2+c) (d::l):=
 #[by simp[wC,h.s,t.s],by erw[bJ,PyData.depthAll];show Nat.max_le.mpr #[h.e,t.e],by erw[vi];have:=h.w;have:=t.w;lia]
theorem Sm.tup {B a b:Nat}{l:List D}(h:bc B a b l):Sm B (a+1) (3+b) (.tup l):=
 #[by simp[ib,h.s],by erw[toPy,PyData.depth];have:=h.e;lia,by erw[wt];have:=h.w;lia]
theorem Sm.lst {B a b:Nat}{l:List D}(h:bc B a b l):Sm B (a+1) (3+b) zaZ:=
 #[by simp[ib,h.s],by erw[toPy,PyData.depth];have:=h.e;lia,by erw[wt];have:=h.w;lia]
theorem Sm.int {B a:Nat}{i:Int}(h:i.natAbs<=B):Sm B a 1921 (.int i):=
 #[by simp[ib,h],by simp[toPy,PyData.depth],aD _]
theorem Sm.str {B a:Nat}{x:Str}:Sm B a (reprText x).length (.str x):=
 #[by simp[ib],by simp[toPy,PyData.depth],aD _]
theorem Sm.non {B a:Nat}:Sm B a 4 .non:=#[by simp[ib],by simp[toPy,PyData.depth],aD _]
theorem bc.of {B a b:Nat}:∀ {l:List D},(∀ d∈l,Sm B a b d)->bc B a (l.length*(b+2)) l:=by
 intro l_;induction l_ with
 |nil=>(intro _;simpa using bc.nil)
 |cons d l az=>
   intro h;have h1:=h d (bE ..);have h2:=az λx m=>h x (bB _ m);show(bc.cons h1 h2).mono (aD _) (by rw[bw,Nat.succ_mul];lia)
section
variable {env1 bq:aP} {bx2 bS:List Bx} {k:DE W} {ks:DE (List W)} {w u:W} {l:List W}
theorem fj (h1:m env bx=.val w bx1) (h2:ks env bx1=.val l bx2):fc m ks env bx=.val (w::l) bx2:=by rw[As,h1,fM,h2,fM]
theorem Pz:∀ {ds:List D},kr bx (ds.map W.d)=ae ds:=by
 intro l_;induction l_ with
 |nil=>show rfl
 |cons d ds az=>(rw[aO,Ch,az];rfl)
theorem Co:∀ {ds:List D},n6 (ds.map W.d)=ae ds:=by
 intro l_;induction l_ with
 |nil=>show rfl
 |cons d ds az=>(rw[aO,Um,az];rfl)
theorem jb {g:List D->Option Res}{r:Res}(ds:List D) (h:ks env bx=.val (ds.map W.d) bx1) (hg:g ds=ae r):dN af g ks env bx=.val (.d r.toD) bx1:=by rw[Dm,h,fM,Pz,cb,hg,gT]
theorem gk (ds:List D) (h:ks env bx=.val (ds.map W.d) bx1) (hl:ds.length<=sizeLine):fN ks env bx=.val (.d (.tup ds)) bx1:=by rw[Ul,h,fM,Co,cb,if_pos hl,gT,Ci]
theorem jy (ds:List D) (h:ks env bx=.val (ds.map W.d) bx1) (hl:ds.length<=sizeLine):gq af ks env bx=.val (.d (.lst ds)) bx1:=by rw[MA,h,fM,Co,cb,if_pos hl,gT,j5]
theorem oQ (ds:List D) (h:ks env bx=.val (ds.map W.d) bx1) (hl:ds.length<=sizeLine):gq ah ks env bx=.val (.b bx1.length) (bx1++[.lst ds]):=by rw[MA,h,fM,Co,cb,if_pos hl];rfl
theorem fE {r:Res}{x y:D}(h1:m env bx=.val (.d x) bx1) (h2:k env bx1=.val (.d y) bx2) (hg:g x y=ae r):d2 af g m k env bx=.val (.d r.toD) bx2:=by rw[Mx,h1,fM,h2,fM,Af,Af,cb,cb,hg,gT]
theorem fF (h:ks env bx=.val l bx1) (hn:l.length=n) (hf:fn l bx1=.val w bx2):fq fn n ks env bx=.val w bx2:=by rw[Ps,h,fM,if_pos hn,hf]
theorem fZ {b:Bool}(h:m env bx=.val (.d (.bl b)) bx1):dB m env bx=.val b bx1:=by rw[WL,h,fM]
theorem iN {t:DE Bool}{b:Bool}(h:t env bx=.val b bx1):kH t env bx=.val (!b) bx1:=by rw[Uk,h,fM]
theorem MG {t s:DE Bool}(h:t env bx=.val ah bx1):nL t s env bx=.val ah bx1:=by rw[Se,h,fM]
theorem lK {t s:DE Bool}{b:Bool}(h:t env bx=.val af bx1) (h2:s env bx1=.val b bx2):nL t s env bx=.val b bx2:=by rw[Se,h,fM,h2]
theorem oR {t s:DE Bool}(h:t env bx=.val af bx1):kG t s env bx=.val af bx1:=by rw[Mw,h,fM]
theorem oS {t s:DE Bool}{b:Bool}(h:t env bx=.val ah bx1) (h2:s env bx1=.val b bx2):kG t s env bx=.val b bx2:=by rw[Mw,h,fM,h2]
theorem Cp {b:Bool}(h:m env bx=.val (.d (.bl b)) bx1):gz m k env bx=if b then k env bx1 else .val (.d (.bl af)) bx1:=by rw[Pt,h];cases b<;>rfl
theorem gD {src:List zaI}{g:DG}{ds:List D}{e2:aP}(h1:mi env bx=.val l bx1) (he:dM src env=e2) (h2:bH g tf te l e2 bx1 []=.val ds bx2):fQ af src mi g tf te env bx=.val (.d (.lst ds)) bx2:=by
 subst he;rw[m9,h1,fM,h2,fM,gT,j5]
theorem MH {x:D}{r:Res}{lo hi:DE (Option Int)}{i j:Option Int}(h1:m env bx=.val (.d x) bx1) (h2:lo env bx1=.val i bx2) (h3:hi env bx2=.val j bS) (hs:sP x i j=ae r):kJ af m lo hi env bx=.val (.d r.toD) bS:=by
 rw[VZ,h1,fM,h2,fM,h3,fM,Af,cb,hs,gT]
theorem PB {i:Int}(h:m env bx=.val (.d (.int i)) bx1):kI m env bx=.val (ae i) bx1:=by rw[Pv,h,fM]
theorem gn {ds:List D}(h:m env bx=.val (.d (.lst ds)) bx1):bD m env bx=.val (ds.map W.d) bx1:=by rw[Gv,h,fM]
theorem gQ {ds:List D}(h:m env bx=.val (.d (.tup ds)) bx1):bD m env bx=.val (ds.map W.d) bx1:=by rw[Gv,h,fM]
theorem Us {i:Int}(h:m env bx=.val (.d (.int i)) bx1):xW m env bx=.val (.d (.int (-i))) bx1:=by rw[Uo,h,fM]
theorem Cq {d:D}(h:m env bx=.val (.d d) bx1) (c:v9 d=ah):rF m env bx=.val (.d (.str (toPy d).shown)) bx1:=by
 unfold rF;rw[h,fM];show if_pos c
theorem fu {a b:aB}(h:a env bx=.nx env1 bx1):fv a b env bx=b env1 bx1:=by rw[lI,h]
theorem gM {a b:aB}(h:a env bx=.rt w bx1):fv a b env bx=.rt w bx1:=by rw[lI,h]
theorem f9 {i:Nat}(h:m env bx=.val w bx1):fC m (fe i) env bx=.nx (env.set i (ae w)) bx1:=by rw[oN,h,gX,m8]
theorem fV (h:m env bx=.val w bx1):fG m env bx=.rt w bx1:=by rw[My,h,gX]
theorem ij (h:m env bx=.val w bx1):gf m env bx=.nx env bx1:=by rw[Pu,h,gX]
theorem iI {t:DE Bool}{a b:aB}(h:t env bx=.val ah bx1):aM t a b env bx=a env bx1:=by rw[Sf,h,gX]
theorem gx {t:DE Bool}{a b:aB}(h:t env bx=.val af bx1):aM t a b env bx=b env bx1:=by rw[Sf,h,gX]
theorem im {g:DG}{body:aB}(h:mi env bx=.val l bx1):gZ mi g body env bx=bT g body l env bx1:=by rw[Mz,h,gX]
theorem io {g:DG}{body:aB}(h1:g w env bx=ae (env1,bx1)) (h2:body env1 bx1=.nx bq bx2):bT g body (w::l) env bx=bT g body l bq bx2:=by
 rw[bT,h1];erw[h2]
theorem MI {g:DG}{body:aB}(h1:g w env bx=ae (env1,bx1)) (h2:body env1 bx1=.rt u bx2):bT g body (w::l) env bx=.rt u bx2:=by
 rw[bT,h1];erw[h2]
theorem j7 {g:DG}{body:aB}(I:Nat->aP->List Bx->zu):∀ (l:List W) (k:Nat) (env:aP) (bx:List Bx),I k env bx ->
 (∀ i w env bx,l[i]?=ae w->I (k+i) env bx->∃ env1 bx1 bq bx2,g w env bx=ae (env1,bx1) /\ body env1 bx1=.nx bq bx2 /\ I (k+i+1) bq bx2) ->
 ∃ aN bx',bT g body l env bx=.nx aN bx' /\ I (k+l.length) aN bx':=by
 intro l;induction l with
 |nil=>intro k env bx h _;show#[env,bx,rfl,h]
 |cons w l ih=>
   intro k env bx h st;let#[env1,bx1,bq,bx2,e1,e2,h2]:=st 0 w env bx zc h;let#[aN,bx',e3,h3]:=ih (k+1) bq bx2 h2 λi x env bx e hi=>by
    have:=st (i+1) x env bx (by simpa using e) (by rw[show k+(i+1)=k+1+i by lia];show hi);rw[show k+(i+1)+1=k+1+i+1 by lia]at this;show this
   show#[aN,bx',by rw[io e1 e2,e3],by rw[bw,show k+(l.length+1)=k+1+l.length by lia];show h3]
section
variable {b c:aB} {o:OS} {i:Nat} {t:DE Bool} {g:DG} 
theorem qS (h:m env bx=.val w bx1) (k:b (env.set i (ae w)) bx1=o):fv (fC m (fe i)) b env bx=o:=(fu (f9 h)).trans k
theorem qG (h:m env bx=.val w bx1) (hg:g w env bx1=ae (bq,bx2)) (k:b bq bx2=o):fv (fC m g) b env bx=o:=by
 rw[lI,oN,h,gX,hg];show k
theorem qF (h:t env bx=.val af bx1) (k:b env bx1=o):fv (aM t c aV) b env bx=o:=(fu ((gx h).trans zc)).trans k
theorem qR (h:t env bx=.val ah bx1) (k:m env bx1=.val w bx2):fv (aM t (fG m) aV) b env bx=.rt w bx2:=gM ((iI h).trans (fV k))
theorem qE (h:m env bx=.val w bx1) (k:b env bx1=o):fv (gf m) b env bx=o:=(fu (ij h)).trans k
theorem cV (hf:fn l bx1=.val w bx2) (h:ks env bx=.val l bx1:=by rfl) (hn:l.length=n:=by rfl):fq fn n ks env bx=.val w bx2:=fF h hn hf
end
end
theorem sZ {α:Type}{e:α->D}{g:DG}{tf:DE Bool}{te:DE W}{B:List Bx}{E:α->aP}{J:aP->zu}(p:α->Bool) (f:α->D) (hJ:∀ a,J (E a)):∀ (l:List α) (env:aP) (acc:List D),acc.length+l.length<=sizeLine->J env ->
 (∀ a∈l,∀ env,J env->g (.d (e a)) env B=ae (E a,B))->(∀ a∈l,tf (E a) B=.val (p a) B /\ (p a=ah->te (E a) B=.val (.d (f a)) B))->bH g tf te ((l.map e).map W.d) env B acc=.val (acc++(l.filter p).map f) B
 |[],_,_,_,_,_,_=>by simp[bH]
 | a::l,env,acc,n,j,hg,h=>by
   let#[h1,h2]:=h a (bE ..);rw[bw]at n;have n':acc.length<sizeLine:=by lia
   have e0:=hg a (bE ..) env j;cases c:p a with
   |false=>
     have ih:=sZ p f hJ l (E a) acc zd (hJ a) (λx m=>hg x (bB _ m)) λx m=>h x (bB _ m);rw[c]at h1;rw[uK (by simp[c]),<-ih];erw[aO,bH,e0,h1,m7]
   |true=>
     have ih:=sZ p f hJ l (E a) (acc++[f a]) zk (hJ a) (λx m=>hg x (bB _ m)) λx m=>h x (bB _ m);rw[c]at h1;rw[uL c];erw[aO,bH,e0,h1,h2 c,m7,if_pos n',ih];simp
end L2.DL
namespace aH
open L2 L2.DL K1
open HT (aS a7 eN cw lexLt)
inductive Pg where
 |aF (h l k r p w:Int)|to (h l r:Int)|out (h l:Int)
noncomputable def b9:Pg->List aS
 |.aF h l k r p w=>[.i h,.s "in",.i l,.i k,.i r,.i p,.i w]
 |.to h l r=>[.i h,.s "to",.i l,.i r]
 |.out h l=>[.i h,.s "out",.i l]
def enc (g:Pg):D:=eA (b9 g)
theorem Cr (g:Pg):rowOf (enc g)=ae (b9 g):=by cases g<;>rfl
theorem MJ:∀ gs:List Pg,rowsOf (gs.map enc)=ae (gs.map b9):=by
 intro l_;induction l_ with
 |nil=>show rfl
 |cons g gs az=>(simp[rowsOf,Cr,az])
theorem Gz {a b:Pg}(h:b9 a=b9 b):a=b:=by
 cases a<;>cases b<;>simp[b9]at h<;>simp_all
theorem PH {a b:Pg}(h:enc a=enc b):a=b:=by
 have:=Cr a;rw[h,Cr]at this;show(Gz (Option.some.inj this)).symm
theorem Au (a b:Pg):eN (b9 a) (b9 b)=ah:=by cases a<;>cases b<;>rfl
theorem Dy (gs:List Pg):wj (gs.map b9)=ah:=by
 erw[wj,c5,bA];rintro _ ⟨a,_,rfl⟩ _ ⟨b,_,rfl⟩;show Au a b
theorem MK {g:Pg}{gs:List Pg}(h:(g::gs).length<64):dQ [.lst ((g::gs).map enc)]=ae (.lst ((pw ((g::gs).map b9)).map eA)):=by
 have e:u7 [.lst ((g::gs).map enc)]=ag:=by cases g<;>rfl
 unfold dQ;rw[e];erw[MJ,cb,Dy,a6,and_true,if_pos h]
abbrev EO (gs:List Pg):zu:=gs.Pairwise λa b=>cw (b9 a) (b9 b)=ah
theorem Ut {gs:List Pg}(nd:gs.Nodup) (h:(gs.map b9).Pairwise λa b=>lexLt (a7 b) (a7 a)=af):EO gs:=by
 rw[tM]at h;refine List.Pairwise.imp₂ (λ{a b}(x:lexLt (a7 (b9 b)) (a7 (b9 a))=af) (y:a≠b)=>?_) h nd;rw[<-HT.An _ _ (Au a b)];cases e:lexLt (a7 (b9 a)) (a7 (b9 b)) with
 |true=>rfl
 |false=>show absurd (Gz (AR (Au a b) (HT.iY _ _ e x))) y
theorem GA {gs:List Pg}(nd:gs.Nodup) (h:gs.length<64):∃ qs:List Pg,qs.Perm gs /\ EO qs /\ ∀ g2:List Pg,g2.Perm gs->dQ [.lst (g2.map enc)]=ae (.lst (qs.map enc)):=by
 let#[qs,e,p]:=AS (iG (gs.map b9)) zc;refine#[qs,p,Ut (p.nodup_iff.mpr nd) (by rw[<-e];show iD _),λg2 p2=>?_];cases g2 with
 |nil=>
   have z:=p2.length_eq;have:gs=[]:=by cases gs with|nil=>rfl|cons=>simp at z
   subst this;have:qs=[]:=by have:=p.length_eq;cases qs with|nil=>rfl|cons=>simp at this
   subst this;simp[dQ,u7,intsOf,sortI]
 |cons g g2=>
   rw[MK (by rw[p2.length_eq];show h)];have:pw ((g::g2).map b9)=pw (gs.map b9):=o7 (Dy gs) ((iG _).trans (p2.map b9)) (iD _);rw[this,e,bO];rfl
theorem Uu (a b:Pg):cY (enc a) (enc b)=ae (.old (.bl (cw (b9 a) (b9 b)))):=by
 have:∀ g:Pg,∃ l,enc g=.tup l /\ sV l=ae (b9 g):=λg=>by cases g<;>show#[_,rfl,rfl]
 let#[l,e1,e3]:=this a;let#[m,f1,f3]:=this b;rw[e1,f1];unfold cY;erw[e3,f3,Au,if_true]
end aH
variable {gs qs:List aH.Pg}{ca:List (Int × aH.Pg)}
namespace K1
open L2 L2.DL
theorem Dz:∀ ns:List Int,intsOf (ns.map D.int)=ae ns:=by
 intro l_;induction l_ with
 |nil=>show rfl
 |cons n ns az=>(rw[aO,intsOf,az];rfl)
theorem GB:∀ ns:List Int,vh (ns.map D.int)=ah ↔ ns.Pairwise (λa b=>b<=a)
 |[]=>by simp[vh]
 |[x]=>by simp[vh]
 | x::y::l=>by
   have ih:=GB (y::l);erw[aO]at ih ⊢;erw[vh,aG,decide_eq_true_eq,ih];constructor
   .intro ⟨h,p⟩;refine List.pairwise_cons.mpr #[λz m=>?_,p];rcases bz.mp m with rfl|m
    .show h
    .show Int.le_trans ((List.pairwise_cons.mp p).1 z m) h
   .intro p;have q:=List.pairwise_cons.mp p;show#[q.1 y (bE ..),q.2]
theorem DA {lo hi:Int}:∀ {l:List D},(l.all λx=>wi x lo hi)=ah->∃ ns:List Int,l=ns.map D.int:=by
 intro l_;induction l_ with
 |nil=>show λ_=>#[[],rfl]
 |cons d l az=>
   intro h;erw[tK,aG]at h;let#[i,rfl,_]:=mI h.1;let#[ns,rfl]:=az h.2;show#[i::ns,rfl]
noncomputable def pt (bx:List Bx) (n:Nat) (p:Int):List Bx:=bx.set n (.lst [.int p])
theorem gp {p:Int}:(pt bx n p).length=bx.length:=qh ..
theorem Uv {p:Int}(h:n<bx.length):(pt bx n p)[n]?=ae (.lst [.int p]):=by simp[pt,h]
theorem BQ {m:aB}{ws:List W}{d:D}{bx':List Bx}(h:m zaA bx=.rt (.d d) bx') (l:bx'.length<=bx.length):a5 n (aQ m) ws bx=.val (.d d) bx':=by
 erw[a5,aQ,DL.envOf,h,n9,pd,Hv l]
theorem ip (h:n<bx.length) (p k:Int) (hk:0<k) (wc:k<1073741824):fm [.b n,.d (.int k)] zG=.val (.d (.int (p % k))) (pt bx n (p / k)):=by
 refine BQ ?_ (by rw[gp,gp];show aD _);have g:=Uv (p:=p) h;have c:uS p k:=#[hk,wc];simp[A0,bY,g,ax,bu,bQ,ph,pR,hk,c,Eo];rw[pt,pt,abn]
theorem lV {l:List α}{i:Int}(h0:0<=i) (h1:i<l.length):∃ d,bu l i=ae d /\ d∈l:=by
 have h2:i.toNat<l.length:=by lia
 refine#[l[i.toNat],?_,sj h2];simp[bu,bQ,h0,h1,h2]
def Dr (o:O W) (bx:List Bx) (n:Nat) (P:D->zu):zu:=∃ d p,o=.val (.d d) zG /\ P d
theorem jc (p:Int) {k:Int}(h:0<k):0<=p % k:=Xh _ zd
theorem jd (p:Int) {k:Int}(h:0<k):p % k<k:=Xi _ h
theorem ML (l:List D) (i:Nat) (h:i<=l.length):DL.cutD l (ae (i:Int)) ag=l.drop i:=by
 unfold DL.cutD;rw[HT.N7,HT.Lj,QW h];show Hv (by rw[Hj];show aD _)
theorem Uw (l:List α) (i:Nat) (h:i<l.length):bu l (i:Int)=ae l[i]:=by
 simp[bu,bQ,h]
theorem Cs {g:DG}(J:aP->zu) (P:D->zu):∀ (l:List W) (env:aP) (p:Int) (acc:List D),J env ->
 (∀ w∈l,∀ env p,J env->∃ aN,g w env zG=ae (aN,pt bx n p) /\ J aN /\ Dr (te aN zG) bx n P)->acc.length+l.length<=sizeLine ->
 ∃ ds p',bH g fS te l env zG acc=.val (acc++ds) (pt bx n p') /\ ds.length=l.length /\ ∀ d∈ds,P d:=by
 intro l_;induction l_ with
 |nil=>show λenv p acc _ _ _=>#[[],p,by simp[bH],rfl,λd m=>by cases m]
 |cons w l az=>
   intro env p acc j h z;let#[aN,e1,j',d,q,e2,hd]:=h w (bE ..) env p j;have z':acc.length<sizeLine:=by erw[bw]at z;lia
   let#[ds,p',e3,e4,e5]:=az aN q (acc++[d]) j' (λx m=>h x (bB _ m)) (by erw[cZ,bw,nS]at z ⊢;lia);refine#[d::ds,p',?_,by simp[e4],λx m=>?_]
   .erw[bH,e1,Gr,m7,e2,if_pos z',e3];simp
   .rcases bz.mp m with rfl|m
    .show hd
    .show e5 x m
theorem MM {g:DG}(J:aP->zu) (f:W->D):∀ (l:List W) (env:aP) (p:Int) (acc:List D),J env ->
 (∀ w∈l,∀ env p,J env->∃ aN b q,g w env zG=ae (aN,pt bx n p) /\ J aN /\ tf aN zG=.val b zaV /\ te aN zaV=.val (.d (f w)) zaV)->acc.length+l.length<=sizeLine ->
 ∃ l' p',bH g tf te l env zG acc=.val (acc++l'.map f) (pt bx n p') /\ List.Sublist l' l:=by
 intro l_;induction l_ with
 |nil=>show λenv p acc _ _ _=>#[[],p,by simp[bH],.slnil]
 |cons w l az=>
   intro env p acc j h z;let#[aN,b,q,e1,j',e2,e3]:=h w (bE ..) env p j;have z':acc.length<sizeLine:=by erw[bw]at z;lia
   cases b with
   |false=>
     let#[ds,p',e4,e5]:=az aN q acc j' (λx m=>h x (bB _ m)) (by erw[bw]at z;lia);show#[ds,p',by erw[bH,e1,e2,m7,e4],.cons _ e5]
   |true=>
     let#[ds,p',e4,e5]:=az aN q (acc++[f w]) j' (λx m=>h x (bB _ m)) (by erw[cZ,bw,nS]at z ⊢;lia);refine#[w::ds,p',?_,.cons_cons _ e5];erw[bH,e1,e2,m7,e3,if_pos z',e4];simp
def digit (d:D):zu:=∃ i:Int,d=.int i /\ 0<=i /\ i<=9
theorem JM:∀ {l:List D},(∀ d∈l,digit d)->∃ ns:List Int,l=ns.map D.int /\ ∀ i∈ns,0<=i /\ i<=9:=by
 intro l_;induction l_ with
 |nil=>show λ_=>#[[],rfl,λ_ m=>by cases m]
 |cons d l az=>
   intro h;let#[i,rfl,h1]:=h d (bE ..);let#[ns,rfl,h2]:=az λx m=>h x (bB _ m);show#[i::ns,rfl,λx m=>by
    rcases bz.mp m with rfl|m
    .show h1
    .show h2 x m]
theorem MN (h4:ns.length=4) (h:∀ i∈ns,0<=i /\ i<=9):yp (.tup ((sortI ns).map D.int).reverse)=ah:=by
 have l4:(sortI ns).length=4:=by rw[(gC ns).length_eq,h4]
 rw[<-List.map_reverse];have a1:tl (.tup ((sortI ns).reverse.map D.int)) 4 4=ah:=by simp[tl,l4]
 have a2:(((sortI ns).reverse.map D.int).all λx=>wi x 0 9)=ah:=by
  rw[tL,c5];intro i m;have:=h i ((gC ns).mem_iff.mp (List.mem_reverse.mp m));simp[wi,this.1,this.2]
 have a3:vh ((sortI ns).reverse.map D.int)=ah:=(GB _).mpr (List.pairwise_reverse.mpr (iO ns));erw[yp,a1,a2,a3,yJ]
theorem PJ (h:n<bx.length) (p:Int):Dr (gH [.b n] zG) bx n (λd=>kind d=ah):=by
 have t4:=ip h p 4 ze ze;let#[y,e,m]:=lV (l:=[D.int 9,.int 3,.int 1,.int 9]) (jc p (k:=4) ze) (by change _<(4:Int);show jd p ze);obtain⟨top,rfl,h0,h9⟩:∃ i:Int,y=.int i /\ 0<=i /\ i<=9:=by
  simp at m;rcases m with rfl|rfl|rfl|rfl<;>show#[_,rfl,by decide,by decide]
 have z4:(4:Nat)<=sizeLine:=by decide
 let#[ds,q,e1,e2,e3]:=Cs (g:=fe 0) (te:=fq fm 2 (fc (dV 1) (fc (d2 af fK (dV 2) zf) fg))) (λe=>∃ w,e=[w,xB n,xN top]) digit (bx:=bx) (n:=n) (fJ 0 4) [ag,xB n,xN top] (p / 4) [] #[ag,rfl] (by
  intro w _ env p ⟨w0,je⟩;refine#[[ae w,xB n,xN top],by simp[je],#[_,rfl],?_];have t:=ip h p (top+1) zd zd;show#[.int (p % (top+1)),p / (top+1),by simp[fK,t],_,rfl,jc _ zd,by have:=jd p (k:=top+1) zd;lia]) (by
  simp[fJ];show z4)
 let#[ns,rfl,eG]:=JM e3;have n4:ns.length=4:=by
  rw[a6]at e2;rw[e2];simp[fJ]
 have so:dQ [.lst (ns.map D.int)]=ae (.lst ((sortI ns).map D.int)):=by simp[dQ,u7,Dz,n4]
 have ad0:=ip h q 20 ze ze;have tx:=ip h (q / 20) 4 ze ze;have b0:=jc q (k:=20) ze;have b1:=jd q (k:=20) ze;let#[y,ey,my]:=lV (l:=[D.int 30,.int (1+q % 20),.int 999,.int 8]) (jc (q / 20) (k:=4) ze) (by change _<(4:Int);show jd _ ze);have hy:wi y 1 999=ah:=by
  simp at my;rcases my with rfl|rfl|rfl|rfl
  .rfl
  .simp[wi];lia
  .rfl
  .rfl
 have r:=MN n4 eG;refine#[.tup [y,.tup ((sortI ns).map D.int).reverse],q / 20 / 4,BQ ?_ (by rw[gp,gp];show aD _),by simp[kind,tl,hy,r]];have rg:∀ env bx,cS zz env bx=.val (fJ 0 4) bx:=λenv bx=>j6 (j:=4) (bx1:=bx) zi ze;have z2:(2:Nat)<=sizeLine:=by decide
 unfold l6;generalize fm=ft at t4 ad0 tx e1 ⊢;erw[kL]at e1;simp[z4,z2,t4,ax,e,rg,e1,so,ad0,tx,fK,ey,pU]
noncomputable def Kk:List HT.aS->Int×Int
 |[.i a,.i b]=>(a,b)
 |_=>(0,0)
theorem FB:∀ ps:List (Int×Int),rowsOf zI=ae (ps.map rP):=by
 intro l_;induction l_ with
 |nil=>show rfl
 |cons p ps az=>(simp[rowsOf,rowOf,sV,I0,az,rP])
theorem PK (ps:List (Int×Int)) (h:ps.length<64):∃ qs:List (Int×Int),qs.Perm ps /\ qs.Pairwise (λa b=>pE b a=af) /\ dQ [.lst zI]=ae (.lst (qs.map dP)):=by
 cases ps with
 |nil=>show#[[],.refl _,.nil,by simp[dQ,u7,intsOf,sortI]]
 |cons p ps=>
   have pe:=iG ((p::ps).map rP);have e:(pw ((p::ps).map rP)).map (rP∘Kk)=pw ((p::ps).map rP):=by
    conv=>rhs;rw[<-abo (pw ((p::ps).map rP))]
    refine qO λx m=>?_;let#[p,_,rfl]:=bA.mp (pe.mem_iff.mp m);rfl
   refine#[(pw ((p::ps).map rP)).map Kk,?_,?_,?_]
   .have:=pe.map Kk;rw[bO]at this
    rwa [show (Kk∘rP)=id from rfl,abo]at this
   .have so:=iD ((p::ps).map rP);rw[<-e,<-bO]at so;show(tM.mp so).imp λ{a b} h=>by rw[HT.An _ _ rfl,Sg]at h;show h
   .change ((rowsOf ((p::ps).map dP)).bind λrs=>if rs.length<64 /\ wj rs=ah then ae (Res.lst ((pw rs).map eA)) else ag)=_;rw[FB,cb,if_pos #[by rw[a6];show h,by erw[wj,c5,bA];rintro _ ⟨a,_,rfl⟩ _ ⟨b,_,rfl⟩;rfl],bO]
    conv=>lhs;rw[<-e]
    rw[bO];rfl
theorem V1 {p q:Int×Int}(h:pE q p=af) (n:p≠q):pE p q=ah:=by
 cases e:pE p q with
 |true=>rfl
 |false=>
   have:=HT.iY _ _ e h;erw[List.cons.injEq,and_true]at this;show absurd (Prod.ext this.1 this.2) n
theorem GC:∀ {qs:List (Int×Int)},qs.Pairwise (λa b=>pE b a=af)->qs.Nodup->uA qs=ah
 |[],_,_=>rfl
 |[p],_,_=>rfl
 | p::q::r,h,n=>by
   have h1:=List.pairwise_cons.mp h;have n1:=tO.mp n;erw[uA,aG];show#[V1 (h1.1 q (bE ..)) (λe=>n1.1 (by rw[e];show bE ..)),GC h1.2 n1.2]
structure ER (k:Nat) (ps:List (Int×Int)):zu where
 nd:ps.Nodup
 b:∀ p∈ps,0<=p.1 /\ p.1<p.2 /\ p.2<(k:Int)
 l:ps.length<=4*k
theorem ER.more {k:Nat}{is:List Nat}(s:ER k ps) (s1:is.Sublist (List.range k)) (hk:k<=4):ER (k+1) (ps++is.map λ(i:Nat)=>((i:Int),(k:Int))):=by
 have li:is.length<=k:=by have:=s1.length_le;simpa using this
 refine#[vG.mpr #[s.nd,?_,?_],?_,?_]
 .have nr:is.Nodup:=s1.nodup List.nodup_range;show tM.mpr (nr.imp λ{a b} h e=>h (by have z:(a:Int)=(b:Int):=congrArg Prod.fst e;lia))
 .intro a ma b mb e;subst e;let#[i,_,rfl]:=bA.mp mb;have:=(s.b _ ma).2.2;simp at this
 .intro a ma;rcases nT.mp ma with m|m
  .have:=s.b a m;lia
  .let#[i,mi,rfl]:=bA.mp m;have:=List.mem_range.mp (s1.subset mi);simp;lia
 .have:=s.l;simp;lia
theorem Av {k:Nat}{m:DE zam}(e:m env bx=.val [.d (.int (k:Int))] bx) (hk:k<=1000000):cS m env bx=.val (fJ 0 k) bx:=by
 rw[j6 e zd,kh]
theorem MO (h:n<bx.length) (p:Int) (x1 x2 x3 x4:Option W):∃ (ds:List D) (q:Int),rooms (.tup ds)=ah /\
 fC (dN af pU (fc (fQ af [ag,ae 0] (cS (fc (d2 af fK zf (fq fm 2 (fc (dV 0) (fc (dC (.int 5)) fg)))) fg)) (fe 0) fS (fq fm 2 (fc (dV 1) zz))) fg)) (fe 1) [xB n,x1,x2,x3,x4] zG=.nx [xB n,ae (.d (.tup ds)),x2,x3,x4] zaV:=by
 have t5:=ip h p 5 ze ze;have lo:=jc p (k:=5) ze;have hi:=jd p (k:=5) ze;let#[j,ej]:=yM lo;have sz:=br
 let#[ds,q,e1,e2,e3]:=Cs (g:=fe 0) (te:=fq fm 2 (fc (dV 1) zz)) (λe=>∃ w,e=[w,xB n]) (λd=>wi d 0 3=ah) (bx:=bx) (n:=n) (fJ 0 (1+j)) [ag,xB n] (p / 5) [] #[ag,rfl] (by
  intro w _ env p ⟨w0,je⟩;have t:=ip h p 4 ze ze;have b1:=jc p (k:=4) ze;have b2:=jd p (k:=4) ze;show#[[ae w,xB n],by simp[je],#[_,rfl],.int (p % 4),p / 4,by simp[t],by simp[wi];lia]) (by simp[fJ];lia)
 have n5:ds.length=1+j:=by rw[e2];simp[fJ]
 refine#[ds,q,?_,?_]
 .have a1:tl (.tup ds) 1 5=ah:=by simp[tl];lia
  have a2:(ds.all λx=>wi x 0 3)=ah:=c5.mpr e3;simp[rooms,a1,a2]
 .have rg:=Av (env:=[xB n,x1,x2,x3,x4]) (bx:=pt bx n (p / 5)) (k:=1+j) (m:=λ_ bx=>.val [.d (.int ((1+j:Nat):Int))] bx) zc zd;have r2:cS (fc (d2 af fK zf (fq fm 2 (fc (dV 0) (fc (dC (.int 5)) fg)))) fg) [xB n,x1,x2,x3,x4] zG=.val (fJ 0 (1+j)) (pt bx n (p / 5)):=by
   have a:(fc (d2 af fK zf (fq fm 2 (fc (dV 0) (fc (dC (.int 5)) fg)))) fg) [xB n,x1,x2,x3,x4] zG=.val [.d (.int ((1+j:Nat):Int))] (pt bx n (p / 5)):=by
    simp[t5,fK,ej]
   rw[j6 a zd,kh]
  erw[kL]at e1;rw[oN,Dm,As,m9,r2,fM,show dM [ag,ae 0] [ae (W.b n),x1,x2,x3,x4]=[ag,ae (W.b n)] from rfl,e1,fM,gT,fM,Fz,fM,fM,j5,Ch,A5,nG,cb,show pU [.lst ds]=ae (.tup ds) from rfl,gT,Ci,gX,m8];rfl
theorem MP (h:n<bx.length) (p:Int) (x1 x2 x3 x4:Option W):∃ (ds:List D) (q:Int),kinds (.tup ds)=ah /\ ds.length<=4 /\
 fC (dN af pU (fc (fQ af [ag,ae 0] (cS (fc (d2 af fK zf (fq fm 2 (fc (dV 0) zz))) fg)) (fe 0) fS (fq gH 1 zF)) fg)) (fe 2) [xB n,x1,x2,x3,x4] zG=.nx [xB n,x1,ae (.d (.tup ds)),x3,x4] zaV:=by
 have t5:=ip h p 4 ze ze;have lo:=jc p (k:=4) ze;have hi:=jd p (k:=4) ze;let#[j,ej]:=yM lo;have sz:=br
 let#[ds,q,e1,e2,e3]:=Cs (g:=fe 0) (te:=fq gH 1 zF) (λe=>∃ w,e=[w,xB n]) (λd=>kind d=ah) (bx:=bx) (n:=n) (fJ 0 (1+j)) [ag,xB n] (p / 4) [] #[ag,rfl] (by
  intro w _ env p ⟨w0,je⟩;let#[d,q,e,m]:=PJ h p;show#[[ae w,xB n],by simp[je],#[_,rfl],d,q,by simp[e],m]) (by simp[fJ];lia)
 have n5:ds.length=1+j:=by rw[e2];simp[fJ]
 refine#[ds,q,?_,by lia,?_]
 .have a1:tl (.tup ds) 1 4=ah:=by simp[tl];lia
  have a2:(ds.all kind)=ah:=c5.mpr e3;simp[kinds,a1,a2]
 .have r2:cS (fc (d2 af fK zf (fq fm 2 (fc (dV 0) zz))) fg) [xB n,x1,x2,x3,x4] zG=.val (fJ 0 (1+j)) (pt bx n (p / 4)):=by
   have a:(fc (d2 af fK zf (fq fm 2 (fc (dV 0) zz))) fg) [xB n,x1,x2,x3,x4] zG=.val [.d (.int ((1+j:Nat):Int))] (pt bx n (p / 4)):=by
    simp[t5,fK,ej]
   rw[j6 a zd,kh]
  erw[kL]at e1;rw[oN,Dm,As,m9,r2,fM,show dM [ag,ae 0] [ae (W.b n),x1,x2,x3,x4]=[ag,ae (W.b n)] from rfl,e1,fM,gT,fM,Fz,fM,fM,j5,Ch,A5,nG,cb,show pU [.lst ds]=ae (.tup ds) from rfl,gT,Ci,gX,m8];rfl
theorem PL (h:n<bx.length) (p:Int) (x1 x2 x3 x4:Option W):∃ (d:D) (q:Int),wi d 1 9=ah /\
 d2 af ax (gq af (fc zf (fc zr (fc (dC (.int 9)) (fc (d2 af fK zf (fq fm 2 (fc (dV 0) (fc (dC (.int 9)) fg)))) fg))))) (fq fm 2 (fc (dV 0) zz)) [xB n,x1,x2,x3,x4] zG=.val (.d d) zaV:=by
 have t9:=ip h p 9 ze ze;have t4:=ip h (p / 9) 4 ze ze;have lo:=jc p (k:=9) ze;have hi:=jd p (k:=9) ze;let#[y,ey,my]:=lV (l:=[D.int 1,.int 2,.int 9,.int (1+p % 9)]) (jc (p / 9) (k:=4) ze) (by change _<(4:Int);show jd _ ze);have z4:(4:Nat)<=sizeLine:=by decide
 refine#[y,p / 9 / 4,?_,?_]
 .simp at my;rcases my with rfl|rfl|rfl|rfl
  .rfl
  .rfl
  .rfl
  .simp[wi];lia
 .generalize fm=ft at t4 t9 ⊢;simp[t9,fK,z4,t4,ax,ey]
theorem BR {k:DE W}{bx2:List Bx}{i:Nat}{l l0:List D}{d:D}(h1:m env bx=.val (.b i) bx1) (ad1:bx1[i]?=ae (.lst l0)) (h2:k env bx1=.val (.d d) bx2) (hb:bx2[i]?=ae zaZ) (hl:l.length<sizeLine):kU m k env bx=.val (.d .non) (bx2.set i (.lst (l++[d]))):=by
 unfold kU;rw[h1,fM];erw[ad1,h2,fM,hb,if_pos hl]
section
variable {d lim rt:D} {ps:List D} {fo so fi tw th:Option W} 
end
section
variable {d lim rt:D} {ps:List D} {fo so fi tw th:Option W} 
end
theorem lL {m:aB}{ws:List W}{d:D}{bx':List Bx}(h:m zaA bx=.rt (.d d) bx'):a5 n (aQ m) ws bx=.val (.d d) (bx'.take bx.length):=by
 erw[a5,aQ,DL.envOf,h,n9,pd]
theorem Sh {i k:Nat}{l:List D}(h:env[k]?=ae (xB i)) (hb:bx[i]?=ae zaZ):sR k env bx=.val (.d zaZ) (bx.set i .dead):=by
 unfold sR;erw[h,hb]
theorem Ux (l:List Int) (k:Nat) (bx:List Bx):∃ c:Int,g9 [.s l,.d (.int (k:Int))] bx=.val (.d (.int c)) bx:=by
 by_cases h:k<l.length
 .have a:bu l (k:Int)=ae l[k]:=Uw l k h;refine#[l[k],fT ?_];have h':(k:Int)<(l.length:Int):=by lia
  simp[jw,ui,cY,h',Ep,a]
 .refine#[0,fT ?_];have h':¬ (k:Int)<(l.length:Int):=by lia
  simp[jw,ui,cY,h']
abbrev YL:aB:=zB
theorem MQ {i j:Int}(h1:-(2 ^ 64)<i) (h2:i<2 ^ 64):c6 (.int i) (.int j)=ae (.old (.int (i*j))):=if_pos (.inl #[h1,h2])
theorem Si {i j:Int}(h1:-(2 ^ 64)<j) (h2:j<2 ^ 64):c6 (.int i) (.int j)=ae (.old (.int (i*j))):=if_pos (.inr #[h1,h2])
theorem MR {i j:Int}(h1:0<j):ph (.int i) (.int j)=ae (.old (.int (i % j))):=if_pos h1
theorem MS {i j:Int}(h1:xE i j):uf (.int i) (.int j)=ae (.old (.int (i ^ j.toNat))):=if_pos h1
theorem JN (c x j:Int) (w:Option W) (bx:List Bx):∃ x' y,YL [xN c,xN x,xN j,w] bx=.nx [xN c,xN x',xN j,xN y] bx:=by
 let a:=(c % 2147483629+7919*j+1)*48271 % 2147483647
 let b:=(a*a+69621*j+7) % 2147483587
 have a0:0<=a:=jc _ ze;have a1:a<2147483647:=jd _ ze;have e1:fC (d2 af ph (d2 af c6 (d2 af fK (d2 af fK (d2 af ph (dV 0) (dC (.int 2147483629))) (d2 af c6 (dC (.int 7919)) (dV 2))) zf) (dC (.int 48271))) (dC (.int 2147483647))) (fe 3) [xN c,xN x,xN j,w] bx=.nx [xN c,xN x,xN j,xN a] bx:=
  f9 (fE (r:=.old _) (fE (r:=.old _) (fE (r:=.old _) (fE (r:=.old _) (fE (r:=.old _) zc zc (MR ze)) (fE (r:=.old _) zc zc (MQ ze ze)) zc) zc zc) zc (Si ze ze)) zc (MR ze))
 have e2:fC (d2 af ph (d2 af fK (d2 af fK (d2 af c6 (dV 3) (dV 3)) (d2 af c6 (dC (.int 69621)) (dV 2))) (dC (.int 7))) (dC (.int 2147483587))) (fe 3) [xN c,xN x,xN j,xN a] bx=.nx [xN c,xN x,xN j,xN b] bx:=
  f9 (fE (r:=.old _) (fE (r:=.old _) (fE (r:=.old _) (fE (r:=.old _) zc zc (MQ zd zd)) (fE (r:=.old _) zc zc (MQ ze ze)) zc) zc zc) zc (MR ze))
 have e3:fC (d2 af fK (d2 af c6 (dV 1) (dC (.int 2147483587))) (dV 3)) (fe 1) [xN c,xN x,xN j,xN b] bx=.nx [xN c,xN (x*2147483587+b),xN j,xN b] bx:=
  f9 (fE (r:=.old _) (fE (r:=.old _) zc zc (Si ze ze)) zc zc)
 show#[_,_,by unfold YL;rw[fu e1,fu e2,e3]]
theorem MT {m:aB}{ws:List W}{i:Nat}{bx':List Bx}(h:m zaA bx=.rt (.b i) bx'):a5 n (aQ m) ws bx=.val (.b i) bx':=by
 erw[a5,aQ,DL.envOf,h,n9,pd]
theorem V2 (c:Int) (bx:List Bx):∃ p:Int,jS [.d (.int c)] bx=.val zaM (bx++[.lst [.int p]]):=by
 have sz:=br;have ad2:∀ e b,d2 af uf (dC (.int 10)) (dC (.int 18)) e b=.val (.d (.int (10 ^ 18))) b:=λe b=>fE (r:=.old _) zc zc (MS ze);have t:dB (d2 af ug (dV 0) (d2 af uf (dC (.int 10)) (dC (.int 18)))) [xN c,ag,ag,ag] bx=.val (decide (10 ^ 18<=c)) bx:=fZ (fE (r:=.old _) zc (ad2 _ _) zc);by_cases h:10 ^ 18<=c
 .rw[decide_eq_true h]at t;refine#[c-10 ^ 18,MT ?_];change jD [xN c,ag,ag,ag] bx=_;unfold jD;refine(gM ((iI t).trans (fV (oQ [.int (c-10 ^ 18)] (fj (fE (r:=.old _) zc (ad2 _ _) zc) zc) (show (1:Nat)<=sizeLine by lia))))).trans zc
 .rw[decide_eq_false h]at t;have rg:=Av (env:=[xN c,xN 0,ag,ag]) (bx:=bx) (k:=64) (m:=fc (dC (.int 64)) fg) zc ze;let#[aN,bx',e,x,w2,w3,rfl,rfl]:=j7 (g:=fe 2) (body:=YL) (λ_ env b=>∃ (x:Int) (w2 w3:Option W),env=[xN c,xN x,w2,w3] /\ b=bx) (fJ 0 64) 0 [xN c,xN 0,ag,ag] bx #[0,ag,ag,rfl,rfl] (by
   rintro i w env b hw ⟨x,w2,w3,rfl,rfl⟩;let#[j,_,rfl]:=bA.mp (qN hw);let#[x',y,e]:=JN c x (0+(j:Int)) w3 b;show#[_,_,_,_,rfl,e,x',_,_,rfl,rfl])
  refine#[x,MT ?_];change jD [xN c,ag,ag,ag] bx'=_;unfold jD;refine(fu (gx t)).trans ?_;refine(fu (f9 zc)).trans ?_;refine(fu ((im rg).trans e)).trans ?_;show fV (oQ [.int x] zc (show (1:Nat)<=sizeLine by lia))
end K1
namespace K2
open L2 L2.DL K1
noncomputable def hr (d:D):Bool:=match d with
 |.int i=>decide (0<=i)
 |_=>af
noncomputable def eQ:List (Int×Int)->Bool
 |p::q::r=>decide (p.2<q.1)&&eQ (q::r)
 |_=>ah
theorem BS:∀ (p:Int×Int) (ps:List (Int×Int)),eL ((p::ps).map dP) zI=((p::ps).zip ps).map λx=>W.d (.tup [dP x.1,dP x.2])
 |p,[]=>rfl
 | p,q::ps=>by
   have:=BS q ps;erw[aO]at this ⊢;erw[eL,vD,aO,this]
theorem BU:∀ (p:Int×Int) (ps:List (Int×Int)),eQ (p::ps)=((p::ps).zip ps).all λx=>decide (x.1.2<x.2.1)
 |p,[]=>rfl
 | p,q::ps=>by
   rw[eQ,BU q ps];simp
theorem Uy (ps:List (Int×Int)) (n:ps.length<=1000) (bx:List Bx):jU [.d (.tup zI)] bx=.val (.d (.bl (eQ ps))) bx:=
 fT (by
  have sz:=br;have cut:DL.cutD zI (ae 1) ag=ps.tail.map dP:=by
   cases ps with
   |nil=>rfl
   |cons p ps=>
     have:=ML ((p::ps).map dP) 1 zi;simpa using this
  cases ps with
  |nil=>simp[jm,sP,cut,uj,eL,bH,dt,pT,eQ]
  |cons p ps=>
    have ez:=BS p ps;have c:=A6 (g:=fP 2 zal) (te:=d2 af cY zaL (d2 af ax (dV 1) zj)) (bx:=bx) (env:=[ag,ag]) (l:=((p::ps).zip ps).map λx=>D.tup [dP x.1,dP x.2]) (λe=>∃ a b,e=[a,b]) (λd=>.bl (match d with|.tup [.tup [_,.int i],.tup [.int j,_]]=>decide (i<j)|_=>af)) #[ag,ag,rfl] (by
     intro d m e ⟨a,b,je⟩;let#[x,_,rfl]:=bA.mp m;show#[[ae (.d (dP x.1)),ae (.d (dP x.2))],by simp[je],#[_,_,rfl],by simp[ax,bu,bQ,cY]]) (by
     rw[a6,abp];simp at n ⊢;lia)
    rw[bO]at c;have r:(uj (fc (dV 0) (fc (kJ af (dV 0) (kI zf) kT) fg))) [ae (.d (.tup ((p::ps).map dP)))] bx=.val (((p::ps).zip ps).map λx=>W.d (.tup [dP x.1,dP x.2])) bx:=by
     unfold uj;rw[fj (w:=.d (.tup ((p::ps).map dP))) (l:=[.d (.tup zI)]) rfl (fj (MH (r:=.tup zI) rfl (PB rfl) rfl (by rw[sP,cut];rfl)) rfl),fM,<-ez]
    change jm [ae (.d (.tup ((p::ps).map dP)))] bx=_;unfold jm;refine fV ?_;refine(jb (r:=.old (.bl (eQ (p::ps)))) [.lst _] (fj (gD r zc c) zc) ?_);rw[bO];have:=all_map (((p::ps).zip ps).map λx=>D.tup [dP x.1,dP x.2]) (λd=>match d with|.tup [.tup [_,.int i],.tup [.int j,_]]=>decide (i<j)|_=>af);rw[bO,tL]at this;rw[BU];show this)
noncomputable def dE (c hold hour:Int):List (Int×Int)->Int
 |[]=>c
 |p::ps=>if p.1<=hour /\ hour<p.2 then max 0 (c-(hour-p.1) / hold) else dE c hold hour ps
theorem Ba {c hold hour:Int}(h:0<=c):∀ ps,0<=dE c hold hour ps
 |[]=>h
 | p::ps=>by
   unfold dE;split
   .show Int.le_max_left ..
   .show Ba h ps
theorem Bb {c hold hour:Int}(h:0<=c) (hh:0<hold):∀ ps,dE c hold hour ps<=c
 |[]=>yN _
 | p::ps=>by
   unfold dE;split
   .ext q;have:0<=(hour-p.1) / hold:=abM zd zd;lia
   .show Bb h hh ps
theorem GD (x:Int):maxD [.int 0,.int x]=ae (.old (.int (max 0 x))):=by
 change ae (Res.old (.int (if x>0 then x else 0)))=_;congr 3;split<;>lia
theorem V3 (x:Int):maxD [.int x,.int 0]=ae (.old (.int (max 0 x))):=by
 change ae (Res.old (.int (if 0>x then 0 else x)))=_;congr 3;split<;>lia
theorem MU {i j:Int}(h:0<j) (h2:j<1073741824):pR (.int i) (.int j)=ae (.old (.int (i / j))):=if_pos #[h,h2]
theorem V4 {g':D->D->Option Res}{mc:DE W}{x y z:D}{r:Res}(h1:ma env bx=.val (.d x) bx) (h2:mb env bx=.val (.d y) bx) (h3:g x y=ae (.old (.bl ah))) (h4:mc env bx=.val (.d z) bx) (h5:g' y z=ae r):d3 g g' ma mb mc env bx=.val (.d r.toD) bx:=by
 simp[h1,h2,h3,h4,h5]
theorem WP {g':D->D->Option Res}{mc:DE W}{x y:D}(h1:ma env bx=.val (.d x) bx) (h2:mb env bx=.val (.d y) bx) (h3:g x y=ae (.old (.bl af))):d3 g g' ma mb mc env bx=.val (.d (.bl af)) bx:=by
 simp[h1,h2,h3]
section
variable {hs:List D} {c hour:Int} {x1 x2:Option W} 
abbrev Kl:DE Bool:=dB (d3 eW cY (dV 5) (dV 3) (dV 6))
theorem PM (p:Int×Int) (x0 x1 x2 x4:Option W):Kl [x0,x1,x2,xN hour,x4,xN p.1,xN p.2] bx=.val (decide (p.1<=hour /\ hour<p.2)) bx:=by
 by_cases h:p.1<=hour
 .by_cases h2:hour<p.2
  .rw[decide_eq_true #[h,h2]];show fZ (V4 (r:=.old (.bl ah)) zc zc (by simp[eW,h]) zc (by simp[cY,h2]))
  .rw[decide_eq_false (λz=>h2 z.2)];show fZ (V4 (r:=.old (.bl af)) zc zc (by simp[eW,h]) zc (by simp[cY,h2]))
 .rw[decide_eq_false (λz=>h z.1)];show fZ (WP zc zc (by simp[eW,h]))
theorem YM (x0 x1 x2:Option W) (rt:DE W) (hr:∀ p:Int×Int,rt [x0,x1,x2,xN hour,xN c,xN p.1,xN p.2] bx=.val (.d (.int (max 0 (c-(hour-p.1) / hold)))) bx) :
 ∀ (ps:List (Int×Int)) (x5 x6:Option W),(∃ y5 y6,bT (fP 2 (fr (fe 5) (fr (fe 6) fR))) (aM Kl (fG rt) aV) ((ps.map dP).map W.d) [x0,x1,x2,xN hour,xN c,x5,x6] bx=.nx [x0,x1,x2,xN hour,xN c,y5,y6] bx /\ dE c hold hour ps=c) \/
  bT (fP 2 (fr (fe 5) (fr (fe 6) fR))) (aM Kl (fG rt) aV) ((ps.map dP).map W.d) [x0,x1,x2,xN hour,xN c,x5,x6] bx=.rt (.d (.int (dE c hold hour ps))) bx
 |[],x5,x6=>.inl #[x5,x6,rfl,rfl]
 | p::ps,x5,x6=>by
   have g:fP 2 (fr (fe 5) (fr (fe 6) fR)) (W.d (dP p)) [x0,x1,x2,xN hour,xN c,x5,x6] bx=ae ([x0,x1,x2,xN hour,xN c,xN p.1,xN p.2],bx):=rfl;have t:=PM (hour:=hour) (bx:=bx) p x0 x1 x2 (xN c);erw[aO];by_cases h:p.1<=hour /\ hour<p.2
   .rw[decide_eq_true h]at t;have e:dE c hold hour (p::ps)=max 0 (c-(hour-p.1) / hold):=by rw[dE,if_pos h]
    show .inr (by rw[MI g ((iI t).trans (fV (hr p))),e])
   .rw[decide_eq_false h]at t;have e:dE c hold hour (p::ps)=dE c hold hour ps:=by rw[dE,if_neg h]
    have st:aM Kl (fG rt) aV [x0,x1,x2,xN hour,xN c,xN p.1,xN p.2] bx=.nx [x0,x1,x2,xN hour,xN c,xN p.1,xN p.2] bx:=gx t;rw[e];rcases YM x0 x1 x2 rt hr ps (xN p.1) (xN p.2) with⟨y5,y6,z,q⟩|z
    .show .inl #[y5,y6,by rw[io g st];show z,q]
    .show .inr (by rw[io g st];show z)
end
structure YN (d:D) (rs:List Int) (hold:Int):zu where
 e:∃ k p,d=.tup [.tup (rs.map D.int),k,p,.int hold]
 r:∀ c∈rs,0<=c /\ c<=3
 n:1<=rs.length /\ rs.length<=5
 h:1<=hold /\ hold<=9
section
variable {d:D} {rs:List Int} {hour:Int} 
theorem Uz (H:YN d rs hold) (j:Nat) (hj:j<rs.length) (ps:List (Int×Int)):iL [.d d,.d (.tup zI),.d (.int (j:Int)),.d (.int hour)] bx=.val (.d (.int (dE rs[j] hold hour ps))) bx:=by
 let#[#[k,p,rfl],_,_,h1,h2]:=H;refine fT ?_;change ja [ae (.d zaa),ae (.d (.tup zI)),xN (j:Int),xN hour,ag,ag,ag] bx=_;have e0:ax zaa (.int 0)=ae (.old (.tup (rs.map D.int))):=by simp[ax,bu,bQ]
 have e3:ax zaa (.int 3)=ae (.old (.int hold)):=by simp[ax,bu,bQ]
 have ej:ax (.tup (rs.map D.int)) (.int (j:Int))=ae (.old (.int rs[j])):=by simp[ax,bu,bQ,hj]
 unfold ja;refine(fu (f9 (fE (fE zc zc e0) zc ej))).trans ?_;have lp:=YM (c:=rs[j]) (hold:=hold) (hour:=hour) (bx:=bx) (ae (.d zaa)) (ae (.d (.tup zI))) (xN (j:Int)) (dN af maxD (fc zj (fc zar fg))) (λq=>jb (r:=.old _) [.int 0,.int (rs[j]-(hour-q.1) / hold)] (fj zc (fj (fE (r:=.old _) zc (fE (r:=.old _) (fE (r:=.old _) zc zc zc) (fE zc zc e3) (MU zd zd)) zc) zc)) (GD _)) ps ag ag;rcases lp with⟨y5,y6,z,q⟩|z
 .rw[q];show(fu ((im (gQ zc)).trans z)).trans (fV zc)
 .show gM ((im (gQ zc)).trans z)
theorem PN (H:YN d rs hold) (j:Nat) (hj:j<rs.length) (ps:List (Int×Int)):jn [.d d,.d (.tup zI),.d (.int (j:Int)),.d (.int hour)] bx=.val (.d (.int (dE rs[j] hold hour ps))) bx:=by
 let#[#[k,p,rfl],_,_,h1,h2]:=H;refine fT ?_;change mE [ae (.d zaa),ae (.d (.tup zI)),xN (j:Int),xN hour,ag,ag,ag] bx=_;have e0:ax zaa (.int 0)=ae (.old (.tup (rs.map D.int))):=by simp[ax,bu,bQ]
 have e3:ax zaa (.int 3)=ae (.old (.int hold)):=by simp[ax,bu,bQ]
 have ej:ax (.tup (rs.map D.int)) (.int (j:Int))=ae (.old (.int rs[j])):=by simp[ax,bu,bQ,hj]
 unfold mE;refine(fu (f9 (fE (fE zc zc e0) zc ej))).trans ?_;have lp:=YM (c:=rs[j]) (hold:=hold) (hour:=hour) (bx:=bx) (ae (.d zaa)) (ae (.d (.tup zI))) (xN (j:Int)) (dN af maxD (fc zar (fc zj fg))) (λq=>jb (r:=.old _) [.int (rs[j]-(hour-q.1) / hold),.int 0] (fj (fE (r:=.old _) zc (fE (r:=.old _) (fE (r:=.old _) zc zc zc) (fE zc zc e3) (MU zd zd)) zc) (fj zc zc)) (V3 _)) ps ag ag;rcases lp with⟨y5,y6,z,q⟩|z
 .rw[q];show(fu ((im (gQ zc)).trans z)).trans (fV zc)
 .show gM ((im (gQ zc)).trans z)
end
end K2
namespace L2.DL
section
variable {env1:aP} {bx2:List Bx} {ks:DE (List W)} {l:List W} {c:Nat}
theorem V5 {t:DE Bool}{k:DE W}{w:W}(h:t env bx=.val ah bx1) (h2:m env bx1=.val w bx2):nu t m k env bx=.val w bx2:=by unfold nu;rw[h,fM];show h2
theorem V6 {t:DE Bool}{k:DE W}{w:W}(h:t env bx=.val af bx1) (h2:k env bx1=.val w bx2):nu t m k env bx=.val w bx2:=by unfold nu;rw[h,fM];show h2
end
end L2.DL
namespace K2
open L2 L2.DL K1
section
variable {h:D} {rs:List Int} 
end
end K2
namespace K1
open L2 L2.DL
section
variable {p:Int} {x y:Bx} {E:List Bx}
theorem mK (h:n<bx.length):pt bx n p++E=pt (bx++E) n p:=by
 unfold pt;rw[Hw _ _ h]
theorem jr (h:n<bx.length):(pt (bx++[x]) n p)[bx.length]?=ae x:=by
 rw[<-mK h,<-gp (bx:=bx) (n:=n) (p:=p)];show List.getElem?_concat_length
theorem Ct (h:n<bx.length):(pt (bx++[x]) n p).set bx.length y=pt (bx++[y]) n p:=by
 rw[<-mK h,<-mK h,<-gp (bx:=bx) (n:=n) (p:=p),List.set_append_right _ _ (aD _),tH];rfl
theorem Bc (h:n<bx.length):(pt (bx++E) n p).take bx.length=pt bx n p:=by
 rw[<-mK h,<-gp (bx:=bx) (n:=n) (p:=p),List.take_left]
end
theorem GE (h:n<bx.length) (p k:Int) (hk:0<k) (wc:k<1073741824):∃ r q,fm [.b n,.d (.int k)] zG=.val (.d (.int r)) zaV /\ 0<=r /\ r<k:=
 #[_,_,ip h p k hk wc,jc p hk,jd p hk]
end K1
namespace K2
open L2 L2.DL K1
theorem Sj {m:Nat}{l:List D}(h:bx[m]?=ae zaZ):bY bx (.b m)=ae zaZ:=by erw[bY,h]
abbrev ad3:aB:=zax
end K2
namespace bP
open L2 L2.DL K1
section
variable {i:Nat}
theorem FC (h:n<bx.length) {p p1:Int}(he:env[i]?=ae (xB n)) {k:Int}(hm:m env zG=.val (.d (.int k)) (pt bx n p1)) (h0:0<k) (h1:k<1073741824) :
 ∃ r q,fq K1.fm 2 (fc (dV i) (fc m fg)) env zG=.val (.d (.int r)) zaV /\ 0<=r /\ r<k:=by
 let#[r,q,t,a,b]:=GE h p1 k h0 h1;refine#[r,q,?_,a,b];have e0:dV i env zG=.val (.b n) zG:=by unfold dV;rw[he]
 show fF (fj e0 (fj hm zc)) zc t
theorem ah6 (h:n<bx.length) (p:Int) (he:env[i]?=ae (xB n)) (k:Int) (h0:0<k) (h1:k<1073741824) :
 ∃ r q,fq K1.fm 2 (fc (dV i) (fc (dC (.int k)) fg)) env zG=.val (.d (.int r)) zaV /\ 0<=r /\ r<k:=
 FC h he (m:=dC (.int k)) zc h0 h1
theorem nC (h:n<bx.length) (p k:Int) (h0:0<k) (h1:k<1073741824):∃ r q,(∀ {env:aP}{i:Nat}{m:DE W}{p0:Int},env[i]?=ae (xB n)->m env (pt bx n p0)=.val (.d (.int k)) zG->fq K1.fm 2 (fc (dV i) (fc m fg)) env (pt bx n p0)=.val (.d (.int r)) zaV) /\ 0<=r /\ r<k:=by
 let#[r,q,t,a,b]:=GE h p k h0 h1;show#[r,q,λhe hm=>fF (l:=[.b n,.d (.int k)]) (fj (by rw[Ak,he]) (fj hm zc)) zc t,a,b]
theorem Km (h:n<bx.length) (p:Int) (l:List Int) (ks:DE zam) (hk:∀ e b,ks e b=.val ((l.map D.int).map W.d) b) {k:Int}(hl:(l.length:Int)=k) (h0:0<k) (h1:k<1000) :
 ∃ v q,(∀ (env:aP) (i:Nat),env[i]?=ae (xB n)->d2 af ax (gq af ks) (fq K1.fm 2 (fc (dV i) (fc (dC (.int k)) fg))) env zG=.val (.d (.int v)) zaV) /\ v∈l:=by
 let#[r,q,t,a,b]:=nC h p k h0 zd;let#[d,e,m]:=lV (l:=l.map D.int) a (by rw[a6,hl];show b);let#[v,mv,rfl]:=bA.mp m;have sz:=br;show#[v,q,λenv i he=>fE (r:=.old (.int v)) (jy (l.map D.int) (hk _ _) (by rw[a6];lia)) (t he zc) (by erw[ax,e,nG]),mv]
theorem UA {l:List D}(h:m env bx=.val (.b j) bx1) (g:bx1[j]?=ae zaZ):dN af cz (fc m fg) env bx=.val (.d (.int l.length)) bx1:=by
 rw[Dm,fj (w:=.b j) (l:=[]) h rfl,fM];have:kr bx1 [.b j]=ae [.lst l]:=by erw[kr,bY,g,cb,nG]
 rw[this];rfl
end
theorem Bd {lo:Int}{m:Nat}{w:W}(h:(fJ lo m)[j]?=ae w):w=.d (.int (lo+j)) /\ j<m:=by
 have hj:=(List.getElem?_eq_some_iff.mp h).1;have hm:j<m:=by simpa[fJ] using hj
 simp[fJ,hm]at h;show#[h.symm,hm]
section
variable {bx2:List Bx}
theorem oj {i:Nat}{x y:W}{a b:DE W}(h1:a env bx=.val x bx1) (h2:b env bx1=.val y bx2):ku i j (fc a (fc b fg)) env bx=.nx ((env.set i (ae x)).set j (ae y)) bx2:=by
 unfold ku;rw[fj h1 (fj h2 rfl),gX]
end
end bP
namespace K2
open L2 L2.DL K1
end K2
namespace bP
open L2 L2.DL K1
section
variable {bx2:List Bx}
theorem PP {k:DE W}{t:Nat}{i:Int}{l l0:List D}{d:D}(h1:m env bx=.val (.b j) bx1) (g0:bx1[j]?=ae (.lst l0)) (h2:k env bx1=.val (.d (.int i)) bx2) (g:bx2[j]?=ae zaZ) (hi:-(2 ^ 63)<=i /\ i<2 ^ 63) (hx:bQ l.length i=ae t) (hd:l[t]?=ae d) :
 wq m k env bx=.val (.d d) (bx2.set j (.lst (l.eraseIdx t))):=by
 unfold wq;rw[h1,fM];erw[g0,h2,fM,g,if_pos hi,hx,hd]
end
theorem PQ {m t:Nat}(h:t<m):bQ m (t:Int)=ae t:=by
 unfold bQ;simp;lia
open K2
theorem gU {k:DE W}{r:O W}(h:m env bx=.val zap bx1) (h2:k env bx1=r):gz m k env bx=r:=by rw[Cp h];show h2
theorem UB {k:DE W}(h:m env bx=.val (.d (.bl af)) bx1):gz m k env bx=.val (.d (.bl af)) bx1:=by rw[Cp h];rfl
section
variable {h:D} {k:Nat}
end
theorem MV (is:List Int) (b:Int):kZ (.int b) (is.map D.int)=is.any λz=>decide (z=b):=by
 unfold kZ;rw[yK];rfl
theorem JO (is:List Int):(is.map D.int).all kY=ah:=by rw[tL];show c5.mpr λ_ _=>rfl
end bP
namespace kB
open L2 L2.DL
open K1 bP
section
variable {enc:α -> D} {r:aP}
theorem ad4 (p:α->Bool) (f:α->D):∀ (l:List α) (w:Option W) (acc:List D),acc.length+l.length<=sizeLine->(∀ a∈l,tf (ae (.d (enc a))::r) bx=.val (p a) bx /\ (p a=ah->te (ae (.d (enc a))::r) bx=.val (.d (f a)) bx)) ->
 bH (fe 0) tf te ((l.map enc).map W.d) (w::r) bx acc=.val (acc++(l.filter p).map f) bx:=by
 intro l_;induction l_ with
 |nil=>(intro w acc _ _;simp[bH])
 |cons a l az=>
   intro w acc n h;let#[h1,h2]:=h a (bE ..);rw[bw]at n;have n':acc.length<sizeLine:=by lia
   have e0:fe 0 (W.d (enc a)) (w::r) bx=ae (ae (W.d (enc a))::r,bx):=rfl;cases c:p a with
   |false=>
     rw[uK (by simp[c]),<-az (ae (W.d (enc a))) acc zd λx m=>h x (bB _ m)];rw[c]at h1;erw[aO,bH,e0,h1,m7]
   |true=>
     rw[uL c];have ih:=az (ae (W.d (enc a))) (acc++[f a]) zk λx m=>h x (bB _ m);rw[c]at h1;erw[aO,bH,e0,h1,h2 c,m7,if_pos n',ih];simp
theorem ah7 {src:List zaI}{qz:List Bx}{l:List α}(p:α->Bool) (f:α->D) (h1:mi env qz=.val ((l.map enc).map W.d) bx) (he:dM src env=ag::r) (n:l.length<=sizeLine)
 (h:∀ a∈l,tf (ae (.d (enc a))::r) bx=.val (p a) bx /\ (p a=ah->te (ae (.d (enc a))::r) bx=.val (.d (f a)) bx)):fQ af src mi (fe 0) tf te env qz=.val (.d (.lst ((l.filter p).map f))) bx:=
 gD h1 he (by rw[ad4 p f l ag [] (by simpa using n) h];rfl)
theorem ad5 {src:List zaI}{qz:List Bx}{l:List α}(f:α->D) (h1:mi env qz=.val ((l.map enc).map W.d) bx) (he:dM src env=ag::r) (n:l.length<=sizeLine)
 (h:∀ a∈l,te (ae (.d (enc a))::r) bx=.val (.d (f a)) bx):fQ af src mi (fe 0) fS te env qz=.val (.d (.lst (l.map f))) bx:=by
 have:=ah7 (tf:=fS) (λ_=>ah) f h1 he n λa m=>#[rfl,λ_=>h a m]
 rwa [List.filter_eq_self.mpr λ_ _=>rfl]at this
theorem BV (l:List α) (p:α->Bool):pT (l.map λd=>D.bl (p d))=ae (l.map p):=by
 induction l with
 |nil=>rfl
 |cons d l ih=>simp[pT,ih]
theorem YO {src:List zaI}{qz:List Bx}{l:List α}(p:α->Bool) (h1:mi env qz=.val ((l.map enc).map W.d) bx) (he:dM src env=ag::r) (n:l.length<=sizeLine)
 (h:∀ a∈l,te (ae (.d (enc a))::r) bx=.val (.d (.bl (p a))) bx):dN af dt (fc (fQ af src mi (fe 0) fS te) fg) env qz=.val (.d (.bl (l.all p))) bx:=
 jb (r:=.old (.bl (l.all p))) [.lst (l.map λa=>.bl (p a))] (fj (ad5 _ h1 he n h) zc) (by simp[dt,BV,tL])
end
noncomputable abbrev tupI (l:List Int):D:=.tup (l.map D.int)
abbrev xU (l:List Int):Option W:=ae (.d (tupI l))
theorem DB:∀ l:List Int,PyData.canLayAll0 (bJ (l.map D.int))=ah /\ PyData.depthAll (bJ (l.map D.int))=0:=by
 intro l_;induction l_ with
 |nil=>show#[rfl,rfl]
 |cons i l az=>
   let#[a,b]:=az;simp[bJ,toPy,PyData.canLayAll0,PyData.canLay0,PyData.depthAll,PyData.depth,a,b]
theorem MW:∀ l:List (List Int),PyData.canLayAll0 (bJ (l.map tupI))=ah /\ PyData.depthAll (bJ (l.map tupI))<=1:=by
 intro l_;induction l_ with
 |nil=>show#[rfl,eS _]
 |cons i l az=>
   let#[a,b]:=az;let#[c,d]:=DB i;erw[aO,bJ,toPy,PyData.canLayAll0,PyData.canLay0,PyData.depthAll,PyData.depth,a,c,d];show#[rfl,by lia]
theorem PR (l:List Int):kz (tupI l)=ah:=by
 let#[c,d]:=DB l;simp[kz,toPy,PyData.canLay0,PyData.depth,c,d]
theorem MX (l:List (List Int)):kz (.lst (l.map tupI))=ah:=by
 let#[c,d]:=MW l;unfold kz;erw[toPy,PyData.canLay0,PyData.depth,c,QZ,decide_eq_true_eq];lia
theorem FD (ps:List (Int×Int)):ps.map dP=(ps.map λq=>[q.1,q.2]).map tupI:=by rw[bO];rfl
theorem MY (a b:Int×Int):eqv (dP a) (dP b)=decide (a=b):=by
 rw[k9];let#[a1,a2]:=a;let#[b1,b2]:=b;simp[eqv,toPy,bJ,PyData.eqv,PyData.eqvAll]
theorem UC (ps:List (Int×Int)) (q:Int×Int):((ps.map dP).any λz=>eqv z (dP q))=decide (q∈ps):=by
 rw[k9,kM,decide_eq_true_eq];constructor
 .rintro⟨z,m,e⟩;let#[x,mx,rfl]:=bA.mp m;rw[MY,decide_eq_true_eq]at e;show e▸mx
 .intro m;show#[dP q,bA.mpr #[q,m,rfl],by rw[MY,decide_eq_true_eq]]
end kB
namespace aH
open L2 L2.DL K1 kB
open HT (cw)
abbrev hs (rs ks:List D) (ps:List (Int×Int)) (hd:D):D:=.tup [.tup rs,.tup ks,.tup zI,hd]
structure Hs (rs ks:List D) (ps:List (Int×Int)) (hd:D):zu where
 r1:1<=rs.length
 r5:rs.length<=5
 k1:1<=ks.length
 k4:ks.length<=4
 b:∀ p∈ps,p.1<p.2
 l:ps.length<=1000
 hh:house za=ah
noncomputable def qA (nr nk:Nat):Pg->zu
 |.aF h l k r p w=>0<=h /\ (0<=l /\ l<=9) /\ (0<=k /\ k<(nk:Int)) /\ (0<=r /\ r<(nr:Int)) /\ (0<=p /\ p<=999) /\ 0<=w /\ w<=99
 |.to h l r=>0<=h /\ (0<=l /\ l<=9) /\ 0<=r /\ r<(nr:Int)
 |.out h l=>0<=h /\ 0<=l /\ l<=9
theorem eq_str (a b:Str):aT (.str a) (.str b)=ae (.old (.bl (decide (a=b)))):=by
 simp[aT]
theorem ne_str (a b:Str):dO (.str a) (.str b)=ae (.old (.bl (!decide (a=b)))):=by
 simp[dO]
theorem UD:(("in":Str)="out")=False:=eq_false ze
theorem V7:(("in":Str)="to")=False:=eq_false ze
theorem JP:(("out":Str)="in")=False:=eq_false ze
theorem V8:(("out":Str)="to")=False:=eq_false ze
theorem FE:(("to":Str)="in")=False:=eq_false ze
theorem PU:(("to":Str)="out")=False:=eq_false ze
noncomputable def ad6 (rs ks:List D):Pg->List D
 |.aF ..=>[.int 9,.int ((ks.length:Int)-1),.int ((rs.length:Int)-1),.int 999,.int 99]
 |.to ..=>[.int 9,.int ((rs.length:Int)-1)]
 |.out ..=>[.int 9]
noncomputable def bK:Pg->Str
 |.aF ..=>"in"
 |.to ..=>"to"
 |.out ..=>"out"
theorem Cu (g:Pg):ic [.d za,.d (.str (bK g))] bx=.val (.d (.tup (ad6 rs ks g))) bx:=
 fT (by
  have s5:(5:Nat)<=sizeLine:=by decide
  have s1:(1:Nat)<=sizeLine:=by decide
  have s2:(2:Nat)<=sizeLine:=by decide
  cases g<;>simp[jE,ku,cz,ax,bu,bQ,cX,eq_str,bK,ad6,UD,V7,JP,V8,FE,PU,s5,s1,s2])
theorem oT {i:Int}(h:0<=i):K2.iA [.d (.int i)] bx=.val zap bx:=
 fT (by simp[K2.BP,Dq,wh,ug,h])
theorem UE (g:Pg) (ok:qA rs.length ks.length g):jX [.d za,.d (enc g)] bx=.val zap bx:=by
 have z:sizeLine=16777216:=br;have fin:∀ (l:List (Int×Int)) {env:aP}{k:DE zam},l.length<=5->(∀ a∈l,0<=a.1 /\ a.1<=a.2)->k env bx=.val ((l.map λa=>D.tup [.int a.1,.int a.2]).map W.d) bx->dN af dt (fc (fQ af [ag,ag] k (fP 2 zal) fS (fq K1.fX 3 (fc (dV 0) (fc zj zF)))) fg) env bx=.val zap bx:=λl env k n h e=>by
  refine(jb (bx1:=bx) (r:=.old _) [.lst ((l.map λa=>D.int a.1).map λd=>.bl ((λ_=>ah) d))] (fj (gD e zc ((sZ (E:=λa=>[xN a.1,xN a.2]) (J:=λe=>∃ a b,e=[a,b]) (λ_=>ah) (λ_=>.bl ah) (λ_=>#[_,_,rfl]) l [ag,ag] [] zk #[_,_,rfl] (λx _ env ⟨a,b,e⟩=>by subst e;rfl) λx m=>#[rfl,λ_=>(cV (oO (.int x.1) 0 x.2 bx)).trans (by rw[show wi (.int x.1) 0 x.2=ah by simp[wi];show h x m])]).trans (by rw[List.filter_eq_self.mpr λ_ _=>rfl,bO];rfl))) zc) (all_map (l.map λa=>D.int a.1) λ_=>ah)).trans zi
 cases g with
 |aF h l k r p w=>
   let#[a,b,c,d,e,f]:=ok;show fT (qF (lK (bx1:=bx) zc (lK (bx1:=bx) zc (iN (fZ (cV (oT a)))))) (qS (cV (Cu (.aF h l k r p w))) (qF (bx1:=bx) zc (fV (fin [(l,9),(k,(ks.length:Int)-1),(r,(rs.length:Int)-1),(p,999),(w,99)] zi zk zc)))))
 |to h l r=>
   let#[a,b,c]:=ok;show fT (qF (lK (bx1:=bx) zc (lK (bx1:=bx) zc (iN (fZ (cV (oT a)))))) (qS (cV (Cu (.to h l r))) (qF (bx1:=bx) zc (fV (fin [(l,9),(r,(rs.length:Int)-1)] zi zk zc)))))
 |out h l=>
   let#[a,b]:=ok;show fT (qF (lK (bx1:=bx) zc (lK (bx1:=bx) zc (iN (fZ (cV (oT a)))))) (qS (cV (Cu (.out h l))) (qF (bx1:=bx) zc (fV (fin [(l,9)] zi zk zc)))))
theorem V9 {i:Nat}{g:Pg}(h:qs[i]?=ae g):bu (qs.map enc) (i:Int)=ae (enc g):=B5 (by rw[kK,h];rfl)
theorem Wa (h:EO qs) (hl:qs.length<=16):K1.g6 [.d (.lst (qs.map enc))] bx=.val zap bx:=by
 have z:sizeLine=16777216:=br;refine fT (fV ?_);have rg:rj (fc zf (fc (dN af cz zaW) fg)) [ae (.d (.lst (qs.map enc)))] bx=.val (((List.range (qs.length-1)).map λ(i:Nat)=>D.int (1+(i:Int))).map W.d) bx:=by
  rw[Cj (i:=1) (j:=(qs.length:Int)) (bx1:=bx) (by simp[cz]),show ((qs.length:Int)-1).toNat=qs.length-1 by lia,bO];rfl
 have:=YO (l:=List.range (qs.length-1)) (enc:=λ(i:Nat)=>D.int (1+(i:Int))) (r:=[ae (.d (.lst (qs.map enc)))]) (te:=d2 af cY (d2 af ax (dV 1) (d2 af cX (dV 0) zf)) (d2 af ax (dV 1) (dV 0))) (src:=[ag,ae 0]) (λ_=>ah) rg zc (by simp;lia) λi m=>by
  have hi:=List.mem_range.mp m;have e1:qs[i]?=ae qs[i]:=dq zd;have e2:qs[i+1]?=ae qs[i+1]:=dq zd;have lt:=List.pairwise_iff_getElem.mp h i (i+1) zd zd zd;refine fE (r:=.old (.bl ah)) (x:=enc qs[i]) (y:=enc qs[i+1]) (fE (r:=.old (enc qs[i])) (x:=.lst (qs.map enc)) (y:=.int (i:Int)) zc (fE (r:=.old (.int (i:Int))) (x:=.int (1+(i:Int))) (y:=.int 1) zc zc ?_) ?_) (fE (r:=.old (enc qs[i+1])) (x:=.lst (qs.map enc)) (y:=.int (1+(i:Int))) zc zc ?_) ?_
  .simp[cX];lia
  .simp[ax,V9 e1]
  .have:=V9 e2;rw[show ((i+1:Nat):Int)=1+(i:Int) by lia]at this;simp[ax,this]
  .rw[Uu,lt]
 rw[c5.mpr λ_ _=>rfl]at this;show this
theorem BW {e2:aP}{s:List zaI}{l:List D}(hm:mi env bx=.val (l.map W.d) bx) (he:dM s env=ag::e2) (n:l.length<=1000) (h:∀ x∈l,te (ae (.d x)::e2) bx=.val zap bx):dN af dt (fc (fQ af s mi (fe 0) fS te) fg) env bx=.val zap bx:=by
 have z:sizeLine=16777216:=br;show(jb (bx1:=bx) (r:=.old _) [.lst (l.map λd=>.bl ((λ_=>ah) d))] (fj (gD hm he (A6 (λe=>∃ w,e=w::e2) (λ_=>.bl ah) #[_,rfl] (λx m e ⟨w,je⟩=>#[ae (.d x)::e2,by rw[je];rfl,#[_,rfl],h x m]) zd)) zc) (all_map l λ_=>ah)).trans zi
theorem Be {d:D}{lo hi:Int}(h:wi d lo hi=ah):K1.fX [.d d,.d (.int lo),.d (.int hi)] bx=.val zap bx:=by rw[oO,h]
theorem Ag {l:List D}{lo hi:Int}(h:tl (.tup l) lo hi=ah):K1.f8 [.d (.tup l),.d (.int lo),.d (.int hi)] bx=.val zap bx:=by rw[MB,h]
theorem PV {d:D}(h:yp d=ah):K1.jP [.d d] bx=.val zap bx:=by
 have z:sizeLine=16777216:=br;cases d with
 |tup l=>
   erw[yp,aG,c5]at h;let#[t,a,f]:=h;refine fT (qF (lK (iN (fZ (cV (Ag t)))) (iN (fZ (BW (gQ zc) zc (by have:=lJ t;lia) λx m=>cV (Be (a x m)))))) (fV ?_));let#[p,q,r,s,rfl]:=ah5 t;let#[p,rfl,_]:=mI (a p zi);let#[q,rfl,_]:=mI (a q zi);let#[r,rfl,_]:=mI (a r zi);let#[s,rfl,_]:=mI (a s zi);erw[vh,aG,decide_eq_true_eq]at f;refine(jb (bx1:=bx) (r:=.old (.bl ah)) [.lst [.bl ah,.bl ah,.bl ah]] (fj (gD (bx1:=bx) (l:=([(p,q),(q,r),(r,s)].map λa:Int×Int=>D.tup [.int a.1,.int a.2]).map W.d) zc zc ((sZ (E:=λa=>[xN a.1,xN a.2]) (J:=λe=>∃ a b,e=[a,b]) (λ_=>ah) (λ_=>.bl ah) (λ_=>#[_,_,rfl]) _ [ag,ag] [] zk #[_,_,rfl] (λx _ env ⟨a,b,e⟩=>by subst e;rfl) λx m=>#[rfl,λ_=>(fE (x:=.int x.2) (y:=.int x.1) (r:=.old (.bl ah)) zc zc (by simp at m;simp[eW];rcases m with rfl|rfl|rfl<;>lia))]).trans zc)) zc) zc)
 |_=>cases h
theorem UF {d:D}(h:kind d=ah):K1.mD [.d d] bx=.val zap bx:=by
 cases d with
 |tup l=>
   erw[kind,aG]at h;let#[t,h]:=h;let#[a,b,rfl]:=adY t;erw[aG]at h;show fT (fV (bP.gU (cV (Ag t)) (bP.gU (cV (Be h.1)) (cV (PV h.2)))))
 |_=>cases h
theorem UG {d:D}{n:Int}(h:sY n d=ah):K1.iz [.d d,.d (.int n)] bx=.val zap bx:=by
 cases d with
 |tup l=>
   erw[sY,aG]at h;let#[t,h]:=h;split at h
   .ext a b;erw[aG,decide_eq_true_eq]at h;show fT (qF (iN (fZ (cV (Ag t)))) (fV (bP.gU (BW (gQ zc) zc (by simp) λx m=>cV (Be (d:=x) (lo:=0) (hi:=n-1) (by simp at m;rcases m with rfl|rfl<;>(erw[wi,aG,decide_eq_true_eq];lia)))) (fE (x:=.int a) (y:=.int b) (r:=.old (.bl ah)) zc zc (by simp[cY];show h.1.2)))))
   .cases h
 |_=>cases h
theorem PY (h:Hs rs ks ps hd):K1.lA [.d za] bx=.val zap bx:=by
 have z:sizeLine=16777216:=br;have l:=h.l;have q:=h.hh;erw[house,aG,rooms,kinds,apart,c5]at q;let#[#[t1,q1],#[t2,q2],#[q3,i],q4]:=q;rw[Gx]at i;have ri:=JL ps zd bx;rw[i]at ri;have e1:K1.jO [.d (.tup rs)] bx=.val zap bx:=fT (fV (bP.gU (cV (Ag t1)) (BW (gQ zc) zc (by have:=lJ t1;lia) λx m=>cV (Be (q1 x m)))));have e2:K1.jQ [.d (.tup ks)] bx=.val zap bx:=fT (fV (bP.gU (cV (Ag t2)) (BW (gQ zc) zc (by have:=lJ t2;lia) λx m=>cV (UF (q2 x m)))));have e3:K1.jR [.d (.tup zI),.d (.int ks.length)] bx=.val zap bx:=fT (qF (bx1:=bx) zc (fV (bP.gU (BW (gQ zc) zc (by rw[a6];lia) λx m=>cV (UG (q3 x m))) (cV ri))));show fT (qF (iN (fZ (cV (Ag (l:=[.tup rs,.tup ks,.tup zI,hd]) (lo:=4) (hi:=4) zc)))) (qG zc zc (fV (bP.gU (cV e1) (bP.gU (cV e2) (bP.gU (cV e3) (cV (Be q4))))))))
theorem om (h:Hs rs ks ps hd):bP.iE [.d za] bx=.val (.d .non) bx:=by
 have e:=PY (bx:=bx) h;have b:bP.jV [ae (.d za)] bx=.nx [ae (.d za)] bx:=
  (gx (iN (fZ (fF (l:=[.d za]) zc zc e)))).trans zc
 change pd bx.length (n9 (aQ bP.jV [ae (.d za)] bx))=_;unfold aQ;rw[b];simp[n9,pd]
theorem MZ (l:List D):u6 (rn zaZ) "list"=ah:=rfl
structure Gs (nr nk:Nat) (gs:List Pg):zu where
 ok:∀ g∈gs,qA nr nk g
 nd:gs.Nodup
 l:gs.length<=16
theorem Gs.perm {nr nk:Nat}{g2:List Pg}(G:Gs nr nk gs) (p:g2.Perm gs):Gs nr nk g2:=#[λg m=>G.ok g (p.mem_iff.mp m),p.nodup_iff.mpr G.nd,by rw[p.length_eq];show G.l]
theorem PZ (G:Gs rs.length ks.length gs):jY [.d za,.d zo] bx=.val zap bx:=by
 have z:sizeLine=16777216:=br;have gl:=G.l;let#[qs,p,r,e]:=GA G.nd zd;have ql:=p.length_eq;refine fT ?_;change lD [ae (.d za),ae (.d zo)] bx=_;unfold lD;have t:nL (kH (dB (ls "list" (dV 1)))) (dB (d2 af eK (dN af cz zF) (dC (.int 16)))) [ae (.d za),ae (.d zo)] bx=.val af bx:=by
  simp[MZ,cz,eK];lia
 have a:dN af dt (fc (fQ af [ag,ae 0] (bD (dV 1)) (fe 0) fS (fq aH.jX 2 (fc (dV 1) zaW))) fg) [ae (.d za),ae (.d zo)] bx=.val (.d (.bl (gs.all λ_=>ah))) bx:=
  YO (enc:=enc) (r:=[ae (.d za)]) _ (gn zc) zc (by lia) λg m=>fF (l:=[.d za,.d (enc g)]) zc zc (UE g (G.ok g m))
 rw[c5.mpr λ_ _=>rfl]at a;refine(fu (gx t)).trans (fV ?_);rw[Cp a,if_pos rfl];show fF (l:=[.d (.lst (qs.map enc))]) (fj (jb (r:=.lst (qs.map enc)) [.lst (gs.map enc)] (fj zc zc) (e gs (.refl _))) zc) zc (Wa r zd)
theorem Cv (h:Hs rs ks ps hd) (G:Gs rs.length ks.length gs):jx [.d za,.d zo] bx=.val (.d .non) bx:=by
 have b:iS [ae (.d za),ae (.d zo)] bx=.nx [ae (.d za),ae (.d zo)] bx:=by
  unfold iS;refine(fu (ij (fF (l:=[.d za]) zc zc (om h)))).trans ?_;show(gx (iN (fZ (fF (l:=[.d za,.d zo]) zc zc (PZ G))))).trans zc
 change pd bx.length (n9 (aQ iS [ae (.d za),ae (.d zo)] bx))=_;unfold aQ;rw[b];simp[n9,pd]
noncomputable abbrev Al:=List (Int×Int)
noncomputable def look (l:Al) (x:Int):Option Int:=(l.find? λq=>decide (q.1=x)).map (·.2)
noncomputable def put (l:List (Int×α)) (x:Int) (v:α):List (Int×α):=if (l.any λq=>decide (q.1=x))=ah then l.map (λq=>if q.1=x then (q.1,v) else q) else l++[(x,v)]
noncomputable def pX (l:List (Int×α)) (x:Int):List (Int×α):=l.filter λq=>decide (q.1≠x)
def kk (K:Al) (l:Int):Int:=(look K l).getD 0
noncomputable def dj (ps:Al) (a b:Int):Bool:=decide ((a,b)∈ps)||decide ((b,a)∈ps)
def k6 (ps K R:Al) (k r:Int):Bool:=R.any λq=>decide (q.2=r)&&dj ps k zas
def word (ps K R:Al):Pg->Str
 |.aF _ l k r _ _=>if (look K l).isSome then "there" else if k6 ps K R k r then "apart" else "takes"
 | .to _ l r=>match look R l with
   |none=>"none"
   |some r0=>if r0=r then "same" else if k6 ps K R (kk K l) r then "apart" else "takes"
 | .out _ l=>match look R l with
   |none=>"none"
   |some _=>"takes"
noncomputable def aZ:Pg->Int
 |.aF _ l ..=>l
 |.to _ l _=>l
 |.out _ l=>l
def stK (K:Al):Pg->Al
 |.aF _ l k ..=>put K l k
 |_=>K
def nD (R:Al):Pg->Al
 |.aF _ l _ r ..=>put R l r
 |.to _ l r=>put R l r
 |.out _ l=>pX R l
def wordsOf (ps:Al):Al->Al->List Pg->List Str
 |_,_,[]=>[]
 |K,R,g::gs=>word ps K R g::(if word ps K R g="takes" then wordsOf ps (stK K g) (nD R g) gs else wordsOf ps K R gs)
structure dF (K R:Al) (n:Nat):zu where
 nd:(R.map (·.1)).Nodup
 sub:∀ q∈R,(look K q.1).isSome=ah
 lk:K.length<=n
 lr:R.length<=n
section
variable {e:α -> D}
noncomputable def aW (e:α->D) (l:List (Int×α)):List (Key×D):=l.map λq=>(.inl q.1,e q.2)
abbrev bh (l:Al):List (Key×D):=aW D.int l
theorem GF (a b:Int):decide ((Sum.inl a:Key)=Sum.inl b)=decide (a=b):=by
 by_cases h:a=b
 .simp[h]
 .rw[decide_eq_false h];show decide_eq_false (λz=>h (Sum.inl.inj z))
theorem j8 (l:List (Int×α)) (x:Int):c7 (aW e l) (.inl x)=((l.find? λq=>decide (q.1=x)).map (·.2)).map e:=by
 unfold c7 aW;rw[abq];have:((λkv:Key×D=>decide (kv.1=Sum.inl x))∘λq:Int×α=>((Sum.inl q.1:Key),e q.2))=λq=>decide (q.1=x):=by
  funext q;show GF q.1 x
 rw[this];cases l.find? λq=>decide (q.1=x)<;>rfl
theorem P0 (l:List (Int×α)) (x:Int):((aW e l).any λkv=>decide (kv.1=Sum.inl x))=l.any λq=>decide (q.1=x):=by
 unfold aW;rw[yK];congr 1;funext q;show GF q.1 x
theorem GG (l:List (Int×α)) (x:Int) (v:α):EG (aW e l) (.inl x) (e v)=aW e (put l x v):=by
 unfold EG put;rw[P0];split
 .unfold aW;rw[bO,bO];refine qO λq _=>?_;by_cases h:q.1=x
  .simp[h]
  .simp[h]
 .unfold aW;simp
theorem DC (l:List (Int×α)) (x:Int):ux (aW e l) (.inl x)=aW e (pX l x):=by
 unfold ux pX aW;rw[abr];congr 1;congr 1;funext q;by_cases h:q.1=x<;>simp[h]
theorem ou (l:List (Int×α)) (x:Int) (v:α):(put l x v).length<=l.length+1:=by
 unfold put;split<;>simp
end
theorem DD {R:Al}(nd:(R.map (·.1)).Nodup) {q:Int×Int}(m:q∈R):look R q.1=ae q.2:=by
 induction R with
 |nil=>cases m
 |cons a R ih=>
   rw[aO,tO]at nd;unfold look;rw[ng];rcases bz.mp m with rfl|m
   .simp
   .have:¬ a.1=q.1:=λz=>nd.1 (by rw[z];show uM m);rw[decide_eq_false this];show ih nd.2 m
theorem FF (ps:Al):kz (.tup zI)=ah:=by
 have h:=MX (ps.map λq=>[q.1,q.2]);rw[<-FD]at h;unfold kz at h ⊢;simpa[toPy,PyData.canLay0,PyData.depth] using h
theorem DH (neg:Bool) (q:Int×Int) (ps:Al):inD neg (dP q) (.tup zI)=ae (.old (.bl (if neg then !decide (q∈ps) else decide (q∈ps)))):=by
 change (if kY (dP q)=ah /\ (ps.map dP).all kY=ah then ae (Res.old (.bl (if neg then !kZ (dP q) zI else kZ (dP q) zI))) else wo neg (dP q) (.tup zI) zI)=_;rw[if_neg (λz=>by cases z.1)];unfold wo;rw[show kz (dP q)=ah from PR [q.1,q.2],FF,UC];rfl
theorem P3 (h:Hs rs ks ps hd) (a b:Int):iT [.d za,.d (.int a),.d (.int b)] bx=.val (.d (.bl (!dj ps a b))) bx:=by
 have z:(2:Nat)<=sizeLine:=by decide
 refine fT (fV ?_);have e1:fN (fc (dN af minD (fc (dV 1) zL)) (fc (dN af maxD (fc (dV 1) zL)) fg)) [ae (.d za),xN a,xN b] bx=.val (.d (dP (if b<a then b else a,if b>a then b else a))) bx:=by
  simp[minD,maxD,z]
 have e2:d2 af ax (dV 0) zr [ae (.d za),xN a,xN b] bx=.val (.d (.tup zI)) bx:=by
  simp[ax,bu,bQ]
 refine(fE (r:=.old (.bl (!decide ((if b<a then b else a,if b>a then b else a)∈ps)))) e1 e2 (DH ah _ ps)).trans ?_;have:decide ((if b<a then b else a,if b>a then b else a)∈ps)=dj ps a b:=by
  unfold dj;rw[k9];erw[wZ,decide_eq_true_eq];by_cases c:b<a
  .rw[if_pos c,if_neg zd];show#[.inr,λz=>z.elim (λz=>absurd (h.b _ z) zk) id]
  .rw[if_neg c];by_cases d:b>a
   .rw[if_pos d];show#[.inl,λz=>z.elim id (λz=>absurd (h.b _ z) zk)]
   .rw[if_neg d];have:a=b:=by lia
    subst this;show#[.inl,λz=>z.elim id id]
 rw[this];rfl
theorem Cw (g:Pg):fL [.d (enc g)] bx=.val (.d (match g with|.aF _ _ _ r _ _=>.int r|.to _ _ r=>.int r|.out ..=>.non)) bx:=
 fT (by cases g<;>simp[lE,enc,eA,b9,kX,ax,bu,bQ,eq_str,FE,JP,V8])
section
variable {e:α -> D} {L:List (Int × α)} {k:DE W} {i:Nat} {l:Int}
theorem DI (neg:Bool) (hk:k env bx=.val (.d (.int l)) bx) (hm:m env bx=.val (.b i) bx) (hb:rL bx (.b i)=ae (aW e L)) :
 c8 neg k m env bx=.val (.d (.bl (if neg then !((L.find? λq=>decide (q.1=l)).map (·.2)).isSome else ((L.find? λq=>decide (q.1=l)).map (·.2)).isSome))) bx:=by
 unfold c8;rw[hk,fM,hm,fM,hb];change O.val (W.d (.bl (if neg then !(c7 (aW e L) (.inl l)).isSome else (c7 (aW e L) (.inl l)).isSome))) bx=_;rw[j8,pK]
theorem mL {v:α}(hk:k env bx=.val (.d (.int l)) bx) (hm:m env bx=.val (.b i) bx) (hb:rL bx (.b i)=ae (aW e L)) (hf:(L.find? λq=>decide (q.1=l)).map (·.2)=ae v):cg m k env bx=.val (.d (e v)) bx:=by
 unfold cg;rw[hm,fM,hk,fM,hb];change (match c7 (aW e L) (.inl l) with|some u=>O.val (W.d u) bx|none=>.bad)=_;rw[j8,hf];rfl
theorem lM {l:List (Key×D)}(h:bx[i]?=ae (.aA l)):rL bx (.b i)=ae l:=by unfold rL;erw[h]
theorem Sk {l:List (Key×D)}(h:bx[i]?=ae (.fD l)):rL bx (.b i)=ae l:=by unfold rL;erw[h]
theorem DJ:rO (aW e L)=(L.map λq=>D.int q.1).map W.d:=by
 unfold rO aW;rw[bO,bO];rfl
end
theorem DM {x y:Bx}(h:bx[j]?=ae x):(bx.set j y).set j x=bx:=by
 rw[abn];apply xh;intro n;by_cases e:j=n
 .subst e;rw[qf (List.getElem?_eq_some_iff.mp h).1,h]
 .rw[tJ e]
theorem Wb {l:List (Key×D)}(h:bx[j]?=ae (.aA l)):pD j (bx.set j (.fD l))=ae bx:=by
 unfold pD;rw[qf (List.getElem?_eq_some_iff.mp h).1];erw[DM h]
section
variable {K R:List (Int × Int)} {i:Nat} 
abbrev YQ:DE W:=wy af [ag,ae 2,ae 6] 2 (fe 0) (dB (d2 af aT (cg (dV 1) (dV 0)) (dV 2))) (dV 0)
theorem WQ (J:dF K R n) (hn:n<=100) (hj:bx[j]?=ae (.aA (bh R))) {r:Int}(h2:env[2]?=ae (xB j)) (h6:env[6]?=ae (xN r)) :
 YQ env bx=.val (.d (.lst ((R.filter λq=>decide (q.2=r)).map λq=>D.int q.1))) bx:=by
 have z:sizeLine=16777216:=br;have lr:=J.lr;have hb:=qf (a:=.fD (bh R)) (List.getElem?_eq_some_iff.mp hj).1;have c:=ad4 (enc:=λq:Int×Int=>D.int q.1) (tf:=dB (d2 af aT (cg (dV 1) (dV 0)) (dV 2))) (te:=dV 0) (bx:=bx.set j (.fD (bh R))) (r:=[xB j,xN r]) (λq=>decide (q.2=r)) (λq=>.int q.1) R ag [] zk λq m=>
  #[fZ (fE (r:=.old (.bl (decide (q.2=r)))) (x:=.int q.2) (y:=.int r) (mL (e:=D.int) (L:=R) zc zc (Sk hb) (DD J.nd m)) zc (by simp[aT])),λ_=>rfl]
 unfold YQ wy;erw[h2,hj];have s:dM [ag,ae 2,ae 6] env=[ag,xB j,xN r]:=by simp[h2,h6]
 rw[s,show rO (bh R)=(R.map λq=>D.int q.1).map W.d from DJ,c,fM];change yk j (.val _ _)=_;unfold yk;erw[Wb hj];rfl
abbrev ad7:DE W:=dN af dt (fc (fQ af [ag,ae 0,ae 1,ae 7] (bD (dV 8)) (fe 0) fS (fq aH.iT 3 (fc (dV 1) (fc (dV 3) (fc (cg (dV 2) (dV 0)) fg))))) fg)
theorem WR (h:Hs rs ks ps hd) (J:dF K R n) (hn:n<=100) (hi:bx[i]?=ae (.aA (bh K))) {r k:Int}(h0:env[0]?=ae (ae (.d za))) (h1:env[1]?=ae (xB i)) (h7:env[7]?=ae (xN k))
 (h8:env[8]?=ae (ae (.d (.lst ((R.filter λq=>decide (q.2=r)).map λq=>D.int q.1))))):ad7 env bx=.val (.d (.bl (!k6 ps K R k r))) bx:=by
 have z:sizeLine=16777216:=br;have lr:=J.lr;have fl:=xi (λq:Int×Int=>decide (q.2=r)) R;have it:bD (dV 8) env bx=.val (((R.filter λq=>decide (q.2=r)).map λq=>D.int q.1).map W.d) bx:=gn (by unfold dV;rw[h8]);have s:dM [ag,ae 0,ae 1,ae 7] env=ag::[ae (.d za),xB i,xN k]:=by simp[h0,h1,h7]
 refine(YO (enc:=λq:Int×Int=>D.int q.1) (λq=>!dj ps k zas) it s zd λq m=>?_).trans ?_
 .have mq:=(sk.mp m).1;let#[v,hv]:=Option.isSome_iff_exists.mp (J.sub q mq);have e:kk K q.1=v:=by unfold kk;rw[hv];rfl
  rw[e];show fF (l:=[.d za,.d (.int k),.d (.int v)]) (fj zc (fj zc (fj (mL (e:=D.int) (L:=K) zc zc (lM hi) hv) zc))) zc (P3 h k v)
 .congr 3;unfold k6;rw[k9];erw[c5,sk,rZ,Hi,aG,decide_eq_true_eq,not_and,Bool.not_eq_true];show#[λa q m c=>a q #[m,c],λa q m=>a q m.1 m.2]
def ad8:aB:=(fv (fC YQ (fe 8)) (fv (aM (dB ad7) (fG (dC (.str "takes"))) aV) (fG (dC (.str "apart")))))
theorem Wc (h:Hs rs ks ps hd) (J:dF K R n) (hn:n<=100) (hi:bx[i]?=ae (.aA (bh K))) (hj:bx[j]?=ae (.aA (bh R))) (x3 x4 x5 x8:Option W) (k r:Int) :
 ad8 [ae (.d za),xB i,xB j,x3,x4,x5,xN r,xN k,x8] bx=.rt (.d (.str (if k6 ps K R k r then "apart" else "takes"))) bx:=by
 have a:=WQ (env:=[ae (.d za),xB i,xB j,x3,x4,x5,xN r,xN k,x8]) J hn hj zc zc;have b:=WR (env:=[ae (.d za),xB i,xB j,x3,x4,x5,xN r,xN k,ae (.d (.lst ((R.filter λq=>decide (q.2=r)).map λq=>D.int q.1)))]) h J hn hi zc zc zc zc;refine(fu (f9 a)).trans ?_;cases c:k6 ps K R k r with
 |true=>
   rw[c]at b;show(fu (gx (fZ b))).trans zc
 |false=>
   rw[c]at b;show gM ((iI (fZ b)).trans zc)
theorem UH (h:Hs rs ks ps hd) (J:dF K R n) (hn:n<=100) (hi:bx[i]?=ae (.aA (bh K))) (hj:bx[j]?=ae (.aA (bh R))) (g:Pg) :
 iH [.d za,.b i,.b j,.d (enc g)] bx=.val zae bx:=by
 refine fT ?_;change mG [ae (.d za),xB i,xB j,ae zt,ag,ag,ag,ag,ag] bx=_;have eM:mG=(fv (ku 4 5 (fc (d2 af ax (dV 3) zf) (fc (d2 af ax (dV 3) zr) fg))) (fv (aM (kG zU (dB (c8 af (dV 5) (dV 1)))) (fG (dC (.str "there"))) aV) (fv (aM (kG (dB (d2 af dO (dV 4) (dC (.str "in")))) (dB (c8 ah (dV 5) (dV 2)))) (fG (dC (.str "none"))) aV) (fv (aM (dB (d2 af aT (dV 4) (dC (.str "out")))) (fG (dC (.str "takes"))) aV) (fv (fC (fq aH.fL 1 zaK) (fe 6)) (fv (aM (kG (dB (d2 af aT (dV 4) (dC (.str "to")))) (dB (d2 af aT (cg (dV 2) (dV 5)) (dV 6)))) (fG (dC (.str "same"))) aV) (fv (fC (nu zU (d2 af ax (dV 3) zp) (cg (dV 1) (dV 5))) (fe 7)) ad8))))))):=rfl;rw[eM];have p1:ku 4 5 (fc (d2 af ax (dV 3) zf) (fc (d2 af ax (dV 3) zr) fg)) [ae (.d za),xB i,xB j,ae zt,ag,ag,ag,ag,ag] bx=.nx [ae (.d za),xB i,xB j,ae zt,ae (.d (.str (bK g))),xN (aZ g),ag,ag,ag] bx:=by
  cases g<;>simp[ku,enc,eA,b9,kX,ax,bu,bQ,bK,aZ]
 refine(fu p1).trans ?_;have tE:∀ (w:Str) (x6 x7:Option W),dB (d2 af aT (dV 4) (dC (.str w))) [ae (.d za),xB i,xB j,ae zt,ae (.d (.str (bK g))),xN (aZ g),x6,x7,ag] bx=.val (decide (bK g=w)) bx:=λw x6 x7=>fZ (fE (r:=.old (.bl (decide (bK g=w)))) zc zc (eq_str _ _));have tN:dB (d2 af dO (dV 4) (dC (.str "in"))) [ae (.d za),xB i,xB j,ae zt,ae (.d (.str (bK g))),xN (aZ g),ag,ag,ag] bx=.val (!decide (bK g="in")) bx:=fZ (fE (r:=.old (.bl (!decide (bK g="in")))) zc zc (ne_str _ _));have iK:dB (c8 af (dV 5) (dV 1)) [ae (.d za),xB i,xB j,ae zt,ae (.d (.str (bK g))),xN (aZ g),ag,ag,ag] bx=.val (look K (aZ g)).isSome bx:=fZ (DI (e:=D.int) (L:=K) af zc zc (lM hi));have iR:dB (c8 ah (dV 5) (dV 2)) [ae (.d za),xB i,xB j,ae zt,ae (.d (.str (bK g))),xN (aZ g),ag,ag,ag] bx=.val (!(look R (aZ g)).isSome) bx:=fZ (DI (e:=D.int) (L:=R) ah zc zc (lM hj));cases g with
 |aF h' l k r p w=>
   change _=OS.rt (W.d (.str (if (look K l).isSome then "there" else if k6 ps K R k r then "apart" else "takes"))) bx;have t1:=oS (tE "in" ag ag) iK;cases c:(look K l).isSome with
   |true=>
     rw[show (look K (aZ zV)).isSome=ah from c]at t1;show gM ((iI t1).trans zc)
   |false=>
     rw[show (look K (aZ zV)).isSome=af from c]at t1;refine(fu ((gx t1).trans zc)).trans ?_;refine(fu ((gx (oR tN)).trans zc)).trans ?_;have t3:=tE "out" ag ag;rw[decide_eq_false (show ¬ bK zV="out" by change ¬ ("in":Str)="out";rw[UD];show id)]at t3;refine(fu ((gx t3).trans zc)).trans ?_;refine(fu (f9 (fF (l:=[.d (enc zV)]) zc zc (Cw _)))).trans ?_;have t4:=tE "to" (xN r) ag;rw[decide_eq_false (show ¬ bK zV="to" by change ¬ ("in":Str)="to";rw[V7];show id)]at t4;refine(fu ((gx (oR t4)).trans zc)).trans ?_;have t5:=tE "in" (xN r) ag;have kv:nu zU (d2 af ax (dV 3) zp) (cg (dV 1) (dV 5)) [ae (.d za),xB i,xB j,ae (.d (enc zV)),ae (.d (.str (bK zV))),xN (aZ zV),xN r,ag,ag] bx=.val (.d (.int k)) bx:=by
      unfold nu;rw[t5,fM];rfl
     show(fu (f9 kv)).trans (Wc h J hn hi hj _ _ _ _ k r)
 |to h' l r=>
   have t1:=tE "in" ag ag;rw[decide_eq_false (show ¬ bK zaU="in" by change ¬ ("to":Str)="in";rw[FE];show id)]at t1 tN;refine(fu ((gx (oR t1)).trans zc)).trans ?_;have t2:=oS tN iR;change _=OS.rt (W.d (.str (match look R l with|none=>"none"|some r0=>if r0=r then "same" else if k6 ps K R (kk K l) r then "apart" else "takes"))) bx;cases c:look R l with
   |none=>
     rw[show look R (aZ zaU)=ag from c]at t2;show gM ((iI t2).trans zc)
   |some r0=>
     rw[show look R (aZ zaU)=ae r0 from c]at t2;refine(fu ((gx t2).trans zc)).trans ?_;have t3:=tE "out" ag ag;rw[decide_eq_false (show ¬ bK zaU="out" by change ¬ ("to":Str)="out";rw[PU];show id)]at t3;refine(fu ((gx t3).trans zc)).trans ?_;refine(fu (f9 (fF (l:=[.d (enc zaU)]) zc zc (Cw _)))).trans ?_;have t4:kG (dB (d2 af aT (dV 4) (dC (.str "to")))) (dB (d2 af aT (cg (dV 2) (dV 5)) (dV 6))) [ae (.d za),xB i,xB j,ae (.d (enc zaU)),ae (.d (.str (bK zaU))),xN (aZ zaU),xN r,ag,ag] bx=.val (decide (r0=r)) bx:=
      oS (tE "to" (xN r) ag) (fZ (fE (r:=.old (.bl (decide (r0=r)))) (x:=.int r0) (y:=.int r) (mL (e:=D.int) (L:=R) zc zc (lM hj) c) zc (by simp[aT])))
     by_cases d:r0=r
     .rw[decide_eq_true d]at t4;change _=OS.rt (W.d (.str (if r0=r then "same" else if k6 ps K R (kk K l) r then "apart" else "takes"))) bx;rw[if_pos d];show gM ((iI t4).trans zc)
     .rw[decide_eq_false d]at t4;change _=OS.rt (W.d (.str (if r0=r then "same" else if k6 ps K R (kk K l) r then "apart" else "takes"))) bx;rw[if_neg d];refine(fu ((gx t4).trans zc)).trans ?_;obtain⟨q,mq,eq⟩:∃ q∈R,q.1=l:=by
       unfold look at c;cases f:R.find? λq=>decide (q.1=l) with
       |none=>rw[f]at c;cases c
       |some q=>show#[q,Hx f,by have:=Q8 f;simpa using this]
      let#[v,hv]:=Option.isSome_iff_exists.mp (J.sub q mq);rw[eq]at hv;have ev:kk K l=v:=by unfold kk;rw[hv];rfl
      have t5:=tE "in" (xN r) ag;rw[decide_eq_false (show ¬ bK zaU="in" by change ¬ ("to":Str)="in";rw[FE];show id)]at t5;have kv:nu zU (d2 af ax (dV 3) zp) (cg (dV 1) (dV 5)) [ae (.d za),xB i,xB j,ae (.d (enc zaU)),ae (.d (.str (bK zaU))),xN (aZ zaU),xN r,ag,ag] bx=.val (.d (.int (kk K l))) bx:=by
       unfold nu;rw[t5,fM,ev];show mL (e:=D.int) (L:=K) zc zc (lM hi) hv
      show(fu (f9 kv)).trans (Wc h J hn hi hj _ _ _ _ (kk K l) r)
 |out h' l=>
   have t1:=tE "in" ag ag;rw[decide_eq_false (show ¬ bK (.out h' l)="in" by change ¬ ("out":Str)="in";rw[JP];show id)]at t1 tN;refine(fu ((gx (oR t1)).trans zc)).trans ?_;have t2:=oS tN iR;change _=OS.rt (W.d (.str (match look R l with|none=>"none"|some _=>"takes"))) bx;cases c:look R l with
   |none=>
     rw[show look R (aZ (.out h' l))=ag from c]at t2;show gM ((iI t2).trans zc)
   |some r0=>
     rw[show look R (aZ (.out h' l))=ae r0 from c]at t2;refine(fu ((gx t2).trans zc)).trans ?_;show gM ((iI (tE "out" ag ag)).trans zc)
end
open bP
theorem oz {L:List (Int×α)}{x:Int}{v:α}{q:Int×α}(m:q∈put L x v):(q.1=x /\ q.2=v) \/ q∈L:=by
 unfold put at m;split at m
 .let#[p,mp,rfl]:=bA.mp m;by_cases h:p.1=x
  .rw[if_pos h];show .inl #[h,rfl]
  .rw[if_neg h];show .inr mp
 .rcases nT.mp m with m|m
  .show .inr m
  .cases kN.mp m;show .inl #[rfl,rfl]
theorem M0 {L:List (Int×α)}{x:Int}{v:α}(nd:(L.map (·.1)).Nodup):((put L x v).map (·.1)).Nodup:=by
 unfold put;split
 .rw[bO];have:((λq:Int×α=>q.1)∘λq=>if q.1=x then (q.1,v) else q)=λq=>q.1:=by
   funext q;by_cases h:q.1=x<;>simp[h]
  rw[this];show nd
 .ext h;rw[vE,vG];refine#[nd,by simp,λa ma b mb=>?_];cases (kN.mp mb:b=x);let#[q,mq,rfl]:=bA.mp ma;show λz=>h (kM.mpr #[q,mq,decide_eq_true z])
theorem UI {L:List (Int×α)}{x:Int}(nd:(L.map (·.1)).Nodup):((pX L x).map (·.1)).Nodup:=nd.sublist ((List.filter_sublist).map _)
theorem oU {L:Al}{x v:Int}(h:look L x=ae v):∃ q∈L,q.1=x:=by
 unfold look at h;cases f:L.find? λq=>decide (q.1=x) with
 |none=>rw[f]at h;cases h
 |some q=>show#[q,Hx f,by have:=Q8 f;simpa using this]
theorem lW {L:Al}{x:Int}:(look L x).isSome=ah ↔ ∃ q∈L,q.1=x:=by
 constructor
 .intro h;let#[v,h]:=Option.isSome_iff_exists.mp h;show oU h
 .rintro⟨q,m,rfl⟩;unfold look;rw[pK,Hy];show#[q,m,by simp]
theorem M2 {L:Al}{x v y:Int}(h:y=x \/ (look L y).isSome=ah):(look (put L x v) y).isSome=ah:=by
 rw[lW];have key:∀ z,(∃ q∈L,q.1=z)->∃ q∈put L x v,q.1=z:=λz ⟨q,m,e⟩=>by
  unfold put;split
  .refine#[if q.1=x then (q.1,v) else q,uM m,?_];split<;>show e
  .show#[q,qM _ m,e]
 rcases h with rfl|h
 .by_cases c:(look L y).isSome=ah
  .show key y (lW.mp c)
  .unfold put;rw[if_neg]
   .show#[(y,v),by simp,rfl]
   .intro z;let#[q,m,e]:=kM.mp z;show c (lW.mpr #[q,m,of_decide_eq_true e])
 .show key y (lW.mp h)
theorem dF.step {ps K R:Al}(J:dF K R n) {g:Pg}(h:word ps K R g="takes"):dF (stK K g) (nD R g) (n+1):=by
 have lk:=J.lk;have lr:=J.lr;cases g with
 |aF h' l k r p w=>
   have a:=ou K l k;have b:=ou R l r;refine#[M0 J.nd,λq m=>?_,by change (put K l k).length<=_;lia,by change (put R l r).length<=_;lia];rcases oz m with m|m
   .show M2 (.inl m.1)
   .show M2 (.inr (J.sub q m))
 |to h' l r=>
   have b:=ou R l r;refine#[M0 J.nd,λq m=>?_,by change K.length<=_;lia,by change (put R l r).length<=_;lia];rcases oz m with m|m
   .change (look K q.1).isSome=ah;rw[m.1];cases c:look R l with
    |none=>
      erw[word,c]at h;show absurd h ze
    |some v=>
      let#[q0,m0,e0]:=oU c;rw[<-e0];show J.sub q0 m0
   .show J.sub q m
 |out h' l=>
   refine#[UI J.nd,λq m=>J.sub q (sk.mp m).1,by change K.length<=_;lia,?_];have:=xi (λq:Int×Int=>decide (q.1≠l)) R;change (pX R l).length<=_;unfold pX;lia
def tq (x:Pg×Str×D×D):D:=.tup [enc x.1,.str x.2.1,x.2.2.1,x.2.2.2]
section
def Bk (bx:List Bx) (T:List (Pg×Str×D×D)) (K R:Al):List Bx:=bx++[.lst (T.map tq),.aA (bh K),.aA (bh R)]
variable {T T':List (Pg × Str × D × D)} {K R K' R':Al}
theorem ES:(Bk bx T K R)[bx.length]?=ae (.lst (T.map tq)):=by simp[Bk]
theorem ad9:(Bk bx T K R)[bx.length+1]?=ae (.aA (bh K)):=by simp[Bk,dU]
theorem ET:(Bk bx T K R)[bx.length+2]?=ae (.aA (bh R)):=by simp[Bk,dU]
theorem aea:(Bk bx T K R).set bx.length (.lst (T'.map tq))=Bk bx T' K R:=by simp[Bk]
theorem ah8:(Bk bx T K R).set (bx.length+1) (.aA (bh K'))=Bk bx T K' R:=by simp[Bk,vF]
theorem YR:(Bk bx T K R).set (bx.length+2) (.aA (bh R'))=Bk bx T K R':=by simp[Bk,vF]
abbrev rB:aB:=(fv (fC (d2 af ax (dV 5) zr) (fe 6)) (fv (fC (fq aH.iH 4 (fc (dV 0) (fc (dV 3) (fc (dV 4) (fc (dV 5) fg))))) (fe 7)) zD))
theorem UJ {env1 bq:aP}{bx2:List Bx}{w:W}{l:List W}{g:DG}{body:aB}(h1:g w env bx=ae (env1,bx1)) (h2:body env1 bx1=.ct bq bx2):bT g body (w::l) env bx=bT g body l bq bx2:=by
 rw[bT,h1];erw[h2]
noncomputable abbrev rE (H P:D) (t:Nat) (x5 x6 x7:Option W):aP:=[ae (.d H),ae (.d P),ae (.b t),ae (.b (t+1)),ae (.b (t+2)),x5,x6,x7]
variable {P:D}
theorem M3 (g:Pg) (h:env[5]?=ae (ae zt)):d2 af ax (dV 5) zr env B=.val (.d (.int (aZ g))) B:=by
 cases g<;>simp[h,enc,eA,b9,kX,ax,bu,bQ,aZ]
theorem Sl (g:Pg) (w:Str) (h:env[5]?=ae (ae zt)):dB (d2 af aT (d2 af ax (dV 5) zf) (dC (.str w))) env B=.val (decide (bK g=w)) B:=by
 refine fZ (fE (r:=.old (.bl (decide (bK g=w)))) (x:=.str (bK g)) (y:=.str w) ?_ zc (eq_str _ _));cases g<;>simp[h,enc,eA,b9,kX,ax,bu,bQ,bK]
theorem M4 (h:Hs rs ks ps hd) (J:dF K R n) (hn:n<=100) (g:Pg) (x6 x7:Option W) {k:aB} :
 fv (fC (d2 af ax (dV 5) zr) (fe 6)) (fv (fC (fq aH.iH 4 (fc (dV 0) (fc (dV 3) (fc (dV 4) (fc (dV 5) fg))))) (fe 7)) k) (rE za P bx.length (ae zt) x6 x7) (Bk bx T K R) =
  k (rE za P bx.length (ae zt) (xN (aZ g)) (ae zae)) (Bk bx T K R):=
 (fu (f9 (M3 g zc))).trans (fu (f9 (fF (l:=[.d za,.b (bx.length+1),.b (bx.length+2),.d (enc g)]) zc zc (UH h J hn ad9 ET g))))
theorem Sn (w:Str) (h:env[7]?=ae (ae (.d (.str w)))):dB (d2 af dO (dV 7) (dC (.str "takes"))) env B=.val (!decide (w="takes")) B:=
 fZ (fE (r:=.old (.bl (!decide (w="takes")))) (x:=.str w) (y:=.str "takes") (by unfold dV;rw[h]) zc (ne_str _ _))
theorem Wd (h:Hs rs ks ps hd) (J:dF K R n) (hn:n<=100) (hT:T.length<=100) (g:Pg) (x6 x7:Option W) (c:¬ word ps K R g="takes") :
 rB (rE za P bx.length (ae zt) x6 x7) (Bk bx T K R)=.ct (rE za P bx.length (ae zt) (xN (aZ g)) (ae zae)) (Bk bx (T++[(g,word ps K R g,.non,.non)]) K R):=by
 have z:sizeLine=16777216:=br;refine(M4 h J hn g x6 x7).trans ?_;have t:=Sn (word ps K R g) (env:=rE za P bx.length (ae zt) (xN (aZ g)) (ae zae)) (B:=Bk bx T K R) zc;rw[decide_eq_false c]at t;have a:=BR (m:=dV 2) (k:=fN (fc (dV 5) (fc (dV 7) (fc (dC .non) (fc (dC .non) fg))))) (env:=rE za P bx.length (ae zt) (xN (aZ g)) (ae zae)) (i:=bx.length) (l:=T.map tq) (bx:=Bk bx T K R) (d:=tq (g,word ps K R g,.non,.non)) zc ES (gk [enc g,.str (word ps K R g),.non,.non] zc zk) ES zk;rw[show T.map tq++[tq (g,word ps K R g,D.non,D.non)]=(T++[(g,word ps K R g,D.non,D.non)]).map tq by simp,aea]at a;rw[lI,iI t,fu (ij a)];rfl
noncomputable def dG:Pg->D
 |.aF _ _ _ r _ _=>.int r
 |.to _ _ r=>.int r
 |.out ..=>.non
theorem DN {L:Al}{k v:DE W}{i:Nat}{l x:Int}(hv:v env B=.val (.d (.int x)) B) (hm:m env B=.val (.b i) B) (hk:k env B=.val (.d (.int l)) B) (hb:B[i]?=ae (.aA (bh L))) (hl:L.length<=1000):k5 m k v env B=.nx env (B.set i (.aA (bh (put L l x)))):=by
 have z:sizeLine=16777216:=br;unfold k5;rw[hv,gX,hm,gX,hk,gX];erw[hb,nz];rw[if_pos (by unfold bh aW;simp;lia),GG]
theorem So {L:Al}{k:DE W}{i:Nat}{l:Int}(hm:m env B=.val (.b i) B) (hk:k env B=.val (.d (.int l)) B) (hb:B[i]?=ae (.aA (bh L))) (hs:(look L l).isSome=ah):uz m k env B=.nx env (B.set i (.aA (bh (pX L l)))):=by
 unfold uz;rw[hm,gX,hk,gX];erw[hb,nz];rw[if_pos (by rw[j8,pK];show hs),DC]
theorem UK {L:Al}{k:DE W}{i:Nat}{l:Int}(hm:m env B=.val (.b i) B) (hk:k env B=.val (.d (.int l)) B) (hb:B[i]?=ae (.aA (bh L))):vc m k env B=.val (.d (((look L l).map D.int).getD .non)) B:=by
 unfold vc;rw[hm,fM];erw[hb,hk,fM,nz];rw[j8];rfl
theorem DO {h' l:Int}(c:word ps K R (.out h' l)="takes"):(look R l).isSome=ah:=by
 erw[word]at c;cases e:look R l with
 |none=>rw[e]at c;show absurd c ze
 |some v=>rfl
theorem UL (h:Hs rs ks ps hd) (J:dF K R n) (hn:n<=100) (hT:T.length<=100) (g:Pg) (x6 x7:Option W) (c:word ps K R g="takes") :
 rB (rE za P bx.length (ae zt) x6 x7) (Bk bx T K R)=.nx (rE za P bx.length (ae zt) (xN (aZ g)) (ae zae)) (Bk bx (T++[zan]) (stK K g) (nD R g)):=by
 have z:sizeLine=16777216:=br;have lk:=J.lk;have lr:=J.lr;refine(M4 h J hn g x6 x7).trans ?_;generalize hE:rE za P bx.length (ae zt) (xN (aZ g)) (ae zae)=E;have e2:∀ B,dV 2 E B=.val zaM B:=λB=>by subst hE;rfl
 have e3:∀ B,dV 3 E B=.val (.b (bx.length+1)) B:=λB=>by subst hE;rfl
 have e4:∀ B,dV 4 E B=.val (.b (bx.length+2)) B:=λB=>by subst hE;rfl
 have e5:E[5]?=ae (ae zt):=by subst hE;rfl
 have v5:∀ B,dV 5 E B=.val zt B:=λB=>by subst hE;rfl
 have e6:∀ B,dV 6 E B=.val (.d (.int (aZ g))) B:=λB=>by subst hE;rfl
 have e7:∀ B,dV 7 E B=.val zae B:=λB=>by subst hE;rfl
 have t:=Sn (word ps K R g) (env:=E) (B:=Bk bx T K R) (by subst hE;rfl);rw[decide_eq_true c]at t;refine(fu ((gx t).trans zc)).trans ?_;have en:∀ B,fq aH.fL 1 (fc (dV 5) fg) E B=.val (.d (dG g)) B:=λB=>(fF (l:=[.d (enc g)]) (fj (v5 B) zc) zc (Cw g)).trans (by cases g<;>rfl);have a:=BR (m:=dV 2) (k:=fN (fc (dV 5) (fc (dV 7) (fc (vc (dV 4) (dV 6)) (fc (fq aH.fL 1 (fc (dV 5) fg)) fg))))) (env:=E) (i:=bx.length) (l:=T.map tq) (bx:=Bk bx T K R) (d:=tq zan) (e2 _) ES
  (gk [enc g,.str (word ps K R g),((look R (aZ g)).map D.int).getD .non,dG g] (fj (v5 _) (fj (e7 _) (fj (UK (e4 _) (e6 _) ET) (fj (en _) zc)))) zk) ES zk
 rw[show T.map tq++[tq zan]=(T++[zan]).map tq by simp,aea]at a;refine(fu (ij a)).trans ?_;generalize T++[zan]=T2;have ti:=Sl g "in" (B:=Bk bx T2 K R) e5;have to:=λK2=>Sl g "out" (B:=Bk bx T2 K2 R) e5;cases g with
 |aF h' l k r p w=>
   have p1:=DN (v:=d2 af ax (dV 5) zp) (x:=k) (B:=Bk bx T2 K R) (env:=E) (by rw[Mx,v5];rfl) (e3 _) (e6 _) ad9 zd;rw[ah8]at p1;refine(fu ((iI ti).trans p1)).trans ?_;have to:=to (put K l k);rw[decide_eq_false (show ¬ bK zV="out" by change ¬ ("in":Str)="out";rw[UD];show id)]at to;have p2:=DN (v:=fq aH.fL 1 (fc (dV 5) fg)) (x:=r) (B:=Bk bx T2 (put K l k) R) (env:=E) (en _) (e4 _) (e6 _) ET zd;rw[YR]at p2;show(gx to).trans p2
 |to h' l r=>
   rw[decide_eq_false (show ¬ bK zaU="in" by change ¬ ("to":Str)="in";rw[FE];show id)]at ti;refine(fu ((gx ti).trans zc)).trans ?_;have to:=to K;rw[decide_eq_false (show ¬ bK zaU="out" by change ¬ ("to":Str)="out";rw[PU];show id)]at to;have p2:=DN (v:=fq aH.fL 1 (fc (dV 5) fg)) (x:=r) (B:=Bk bx T2 K R) (env:=E) (en _) (e4 _) (e6 _) ET zd;rw[YR]at p2;show(gx to).trans p2
 |out h' l=>
   rw[decide_eq_false (show ¬ bK (.out h' l)="in" by change ¬ ("out":Str)="in";rw[JP];show id)]at ti;refine(fu ((gx ti).trans zc)).trans ?_;have p2:=So (B:=Bk bx T2 K R) (env:=E) (e4 _) (e6 _) ET (DO c);rw[show aZ (.out h' l)=l from rfl,YR]at p2;show(iI (to K)).trans p2
def EU (ps:Al) (qs:List Pg):List D:=(qs.zip (wordsOf ps [] [] qs)).map λp=>.tup [enc p.1,.str p.2]
theorem YS:dF [] [] 0:=#[by simp,(λq m=>nomatch m),aD _,aD _]
abbrev g4:DG:=fP 4 (fr (fe 0) (fr (fe 1) (fr (fe 2) (fr (fe 3) fR))))
end
noncomputable abbrev At:=List (Int×(Int×Int))
def aK (K R:Al):At:=R.map λq=>(q.1,(kk K q.1,q.2))
theorem M5 {L:List (Int×α)}(nd:(L.map (·.1)).Nodup) {q:Int×α}(m:q∈L):(L.find? λp=>decide (p.1=q.1)).map (·.2)=ae q.2:=by
 induction L with
 |nil=>cases m
 |cons a L ih=>
   rw[aO,tO]at nd;rw[ng];rcases bz.mp m with rfl|m
   .simp
   .have:¬ a.1=q.1:=λz=>nd.1 (by rw[z];show uM m);rw[decide_eq_false this];show ih nd.2 m
theorem DP {K R:Al}:(aK K R).map (·.1)=R.map (·.1):=by unfold aK;rw[bO];rfl
theorem lN {K R:Al}{l:Int}:((aK K R).find? λp=>decide (p.1=l)).map (·.2)=(look R l).map λr=>(kk K l,r):=by
 unfold aK look;induction R with
 |nil=>rfl
 |cons a R ih=>
   rw[aO,ng,ng];by_cases h:a.1=l
   .simp[h]
   .rw[decide_eq_false h];show ih
theorem lO {β:Type}{L:List (Int×α)}{M:List (Int×β)}(h:L.map (·.1)=M.map (·.1)) (x:Int):(L.any λq=>decide (q.1=x))=M.any λq=>decide (q.1=x):=by
 have:∀ {γ:Type}(N:List (Int×γ)),(N.any λq=>decide (q.1=x))=(N.map (·.1)).any λy=>decide (y=x):=λN=>by rw[yK];rfl
 rw[this,this,h]
theorem M6 {β:Type}{L:List (Int×α)}{M:List (Int×β)}(h:L.map (·.1)=M.map (·.1)) (x:Int) (v:α) (w:β):(put L x v).map (·.1)=(put M x w).map (·.1):=by
 unfold put;rw[lO h];split
 .have:∀ {γ:Type}(N:List (Int×γ)) (u:γ),(N.map λq=>if q.1=x then (q.1,u) else q).map (·.1)=N.map (·.1):=λN u=>by
   rw[bO];refine qO λq _=>?_;by_cases c:q.1=x<;>simp[c]
  rw[this,this,h]
 .rw[vE,vE,h];rfl
theorem JQ {β:Type}{L:List (Int×α)}{M:List (Int×β)}(h:L.map (·.1)=M.map (·.1)) (x:Int):((L.find? λq=>decide (q.1=x)).map (·.2)).isSome=((M.find? λq=>decide (q.1=x)).map (·.2)).isSome:=by
 rw[pK,pK,k9,Hy,Hy];have:=lO h x;rw[k9,kM,kM]at this;show this
theorem GH {K R:Al}{l r:Int}:put (aK K R) l (kk K l,r)=aK K (put R l r):=by
 unfold put;rw[lO DP];split
 .unfold aK;rw[bO,bO];refine qO λq _=>?_;by_cases c:q.1=l<;>simp[c]
 .unfold aK;simp
theorem P4 {K R:Al}{l:Int}:pX (aK K R) l=aK K (pX R l):=by
 unfold pX aK;rw[abr];rfl
theorem Cy {K:Al}{l k x:Int}(h:look K l=ag):kk (put K l k) x=if x=l then k else kk K x:=by
 have na:¬ (K.any λq=>decide (q.1=l))=ah:=λz=>by
  let#[q,m,e]:=kM.mp z;have:(look K l).isSome=ah:=lW.mpr #[q,m,of_decide_eq_true e];rw[h]at this;cases this
 unfold kk put;rw[if_neg na];unfold look at h ⊢;rw[Hz];by_cases c:x=l
 .subst c;rw[Option.map_eq_none_iff]at h;simp[h]
 .rw[if_neg c];have c':¬ l=x:=λz=>c z.symm;cases K.find? λq=>decide (q.1=x)<;>simp[c']
theorem P5 {K R:Al}{l k r:Int}(J:dF K R n) (h:look K l=ag):put (aK K R) l (k,r)=aK (put K l k) (put R l r):=by
 have e:aK (put K l k) R=aK K R:=by
  unfold aK;refine qO λq m=>?_;have:q.1≠l:=λz=>by
   have:=J.sub q m;rw[z,h]at this;cases this
  rw[Cy h,if_neg this]
 have:kk (put K l k) l=k:=by rw[Cy h,if_pos rfl]
 rw[<-GH,e,this]
section
variable {K R:List (Int × Int)} {b:Nat} {k:Int}
theorem Sq {C:List Bx}{x y:DE W}{k v:Int}(h0:env[0]?=ae (ae (.d za))) (hx:x env C=.val (.d (.int k)) C) (hy:y env C=.val (.d (.int v)) C) :
 dB (d2 af (inD af) (fN (fc x (fc y fg))) (d2 af ax (dV 0) zr)) env C=.val (decide ((k,v)∈ps)) C:=by
 have z:(2:Nat)<=sizeLine:=by decide
 refine fZ (fE (r:=.old (.bl (decide ((k,v)∈ps)))) (x:=dP (k,v)) (y:=.tup zI) (gk [.int k,.int v] (fj hx (fj hy zc)) z) ?_ (DH af (k,v) ps));simp[h0,ax,bu,bQ]
abbrev Kn:aB:=zab
theorem P6 (hb:B[b]?=ae (.fD (aW dP (aK K R)))) (nd:(R.map (·.1)).Nodup):∀ (L:Al) (acc:List D) (x4 x5:Option W),(∀ q∈L,q∈R)->acc.length+L.length<=1000 ->
 ∃ y4 y5,bT (fe 4) Kn ((L.map λq=>D.int q.1).map W.d) [ae (.d za),xB b,xN k,xB B.length,x4,x5] (B++[.lst acc])=.nx [ae (.d za),xB b,xN k,xB B.length,y4,y5] (B++[.lst (acc++(L.filter λq=>dj ps k zas).map dP)]):=by
 intro l_;induction l_ with
 |nil=>show λacc x4 x5 _ _=>#[x4,x5,by simp[bT]]
 |cons q L az=>
   intro acc x4 x5 hm hl;have z:sizeLine=16777216:=br;rw[bw]at hl;have mq:=hm q (bE ..);have nt:((aK K R).map (·.1)).Nodup:=by rw[DP];show nd
   have mt:(q.1,(kk K q.1,q.2))∈aK K R:=bA.mpr #[q,mq,rfl];have bl:=(List.getElem?_eq_some_iff.mp hb).1;have EM:∀ a,(B++[Bx.lst a])[b]?=ae (.fD (aW dP (aK K R))):=λa=>by rw[eD bl];show hb
   have g1:∀ (x5:Option W) (a:List D),cg (dV 1) (dV 4) [ae (.d za),xB b,xN k,xB B.length,xN q.1,x5] (B++[.lst a])=.val (.d (dP (kk K q.1,q.2))) (B++[.lst a]):=λx5 a=>mL (e:=dP) (L:=aK K R) zc zc (Sk (EM a)) (M5 nt mt);have s1:fC (d2 af ax (cg (dV 1) (dV 4)) zj) (fe 5) [ae (.d za),xB b,xN k,xB B.length,xN q.1,x5] (B++[.lst acc])=.nx [ae (.d za),xB b,xN k,xB B.length,xN q.1,xN zas] (B++[.lst acc]):=
    f9 (fE (r:=.old (.int zas)) (g1 _ _) zc zc)
   have t1:=Sq (env:=[ae (.d za),xB b,xN k,xB B.length,xN q.1,xN zas]) (C:=B++[.lst acc]) (x:=dV 2) (y:=dV 5) (k:=k) (v:=kk K q.1) zc zc zc;have t2:=Sq (env:=[ae (.d za),xB b,xN k,xB B.length,xN q.1,xN zas]) (C:=B++[.lst acc]) (x:=dV 5) (y:=dV 2) (k:=kk K q.1) (v:=k) zc zc zc;have t:nL (dB (d2 af (inD af) (fN (fc (dV 2) (fc (dV 5) fg))) (d2 af ax (dV 0) zr))) (dB (d2 af (inD af) (fN (fc (dV 5) zL)) (d2 af ax (dV 0) zr))) [ae (.d za),xB b,xN k,xB B.length,xN q.1,xN zas] (B++[.lst acc])=.val (dj ps k zas) (B++[.lst acc]):=by
    unfold dj;by_cases c:(k,kk K q.1)∈ps
    .rw[decide_eq_true c]at t1 ⊢;show MG t1
    .rw[decide_eq_false c]at t1 ⊢;rw[QY];show lK t1 t2
   have f1:fe 4 (W.d (.int q.1)) [ae (.d za),xB b,xN k,xB B.length,x4,x5] (B++[.lst acc])=ae ([ae (.d za),xB b,xN k,xB B.length,xN q.1,x5],B++[.lst acc]):=rfl;cases c:dj ps k zas with
   |false=>
     rw[c]at t;let#[y4,y5,e]:=az acc (xN q.1) (xN zas) (λq m=>hm q (bB _ m)) zd;refine#[y4,y5,?_];have bd:Kn [ae (.d za),xB b,xN k,xB B.length,xN q.1,x5] (B++[.lst acc])=.nx [ae (.d za),xB b,xN k,xB B.length,xN q.1,xN zas] (B++[.lst acc]):=(fu s1).trans ((gx t).trans zc);rw[aO,aO,io f1 bd,e,uK (by simp[c])]
   |true=>
     rw[c]at t;let#[y4,y5,e]:=az (acc++[dP q]) (xN q.1) (xN zas) (λq m=>hm q (bB _ m)) zk;have b0:(B++[Bx.lst acc])[B.length]?=ae (.lst acc):=by simp
     have a:=BR (m:=dV 3) (k:=fN (fc (dV 4) (fc (d2 af ax (cg (dV 1) (dV 4)) zf) fg))) (env:=[ae (.d za),xB b,xN k,xB B.length,xN q.1,xN zas]) (bx:=B++[.lst acc]) (i:=B.length) (d:=dP q) zc b0 (gk [.int q.1,.int q.2] (fj zc (fj (fE (r:=.old (.int q.2)) (g1 _ _) zc zc) zc)) zk) b0 zd;rw[show (B++[Bx.lst acc]).set B.length (.lst (acc++[dP q]))=B++[.lst (acc++[dP q])] by simp]at a;refine#[y4,y5,?_];have bd:Kn [ae (.d za),xB b,xN k,xB B.length,xN q.1,x5] (B++[.lst acc])=.nx [ae (.d za),xB b,xN k,xB B.length,xN q.1,xN zas] (B++[.lst (acc++[dP q])]):=(fu s1).trans ((iI t).trans (ij a));rw[aO,aO,io f1 bd,e,uL (by simp[c])];simp
theorem GI (J:dF K R n) (hn:n<=100) (hb:B[b]?=ae (.aA (aW dP (aK K R)))):gm [.d za,.b b,.d (.int k)] B=.val (.d (.lst ((R.filter λq=>dj ps k zas).map dP))) B:=by
 have z:sizeLine=16777216:=br;have lr:=J.lr;have bl:=(List.getElem?_eq_some_iff.mp hb).1;have hf:(B.set b (.fD (aW dP (aK K R))))[b]?=ae (.fD (aW dP (aK K R))):=qf bl;let#[y4,y5,e]:=P6 (rs:=rs) (ks:=ks) (ps:=ps) (hd:=hd) (k:=k) (B:=B.set b (.fD (aW dP (aK K R)))) hf J.nd R [] ag ag (λq m=>m) zk;rw[qh,kL]at e;have kw:rO (aW dP (aK K R))=(R.map λq=>D.int q.1).map W.d:=by
  rw[DJ];simp[aK,aci]
 have b1:(B++[Bx.lst []])[b]?=ae (.aA (aW dP (aK K R))):=by rw[eD bl];show hb
 have fk:wx 1 (fe 4) Kn [ae (.d za),xB b,xN k,xB B.length,ag,ag] (B++[.lst []])=.nx [ae (.d za),xB b,xN k,xB B.length,y4,y5] (B++[.lst ((R.filter λq=>dj ps k zas).map dP)]):=by
  unfold wx;erw[show ([ae (.d (hs rs ks ps hd)),xB b,xN k,xB B.length,ag,ag]:aP)[1]?=ae (ae (W.b b)) from rfl,b1];rw[kw,Hw _ _ bl,e];change vf b (.nx _ _)=_;unfold vf;have th:pD b (B.set b (.fD (aW dP (aK K R)))++[.lst ((R.filter λq=>dj ps k zas).map dP)])=ae (B++[.lst ((R.filter λq=>dj ps k zas).map dP)]):=by
   unfold pD;rw[eD (by rw[qh];show bl),hf];simp only;rw[Hw _ _ (by rw[qh];show bl),DM hb]
  erw[th]
 have m:Ac [ae (.d za),xB b,xN k,ag,ag,ag] B=.rt (.d (.lst ((R.filter λq=>dj ps k zas).map dP))) ((B++[Bx.lst ((R.filter λq=>dj ps k zas).map dP)]).set B.length .dead):=by
  refine(fu (f9 (oQ [] zc (eS _)))).trans ((fu fk).trans ?_);show fV (Sh zc zi)
 refine(lL (ws:=[.d za,.b b,.d (.int k)]) m).trans ?_;simp
end
def Bl (bx:List Bx) (th:At) (ca:List (Int×Pg)) (go:Al) (dr:List zaJ) (av wd:List D):List Bx:=bx++[.aA (aW dP th),.aA (aW enc ca),.aA (bh go),.dT dr,.lst av,.lst wd]
noncomputable abbrev ml (n:Nat):List (Str×Nat):=[("there",n),("came",n+1),("gone",n+2),("doors",n+3),("at",n+4),("words",n+5)]
section
variable {th aeb:At} {aec:List (Int × Pg)} {go go':Al} {cy:List (List Key × D)} {av aed wd aee:List D}
theorem vj:(Bl bx th ca go dr av wd)[bx.length]?=ae (.aA (aW dP th)):=by simp[Bl]
theorem YT:(Bl bx th ca go dr av wd)[bx.length+1]?=ae (.aA (aW enc ca)):=by simp[Bl,dU]
theorem ah9:(Bl bx th ca go dr av wd)[bx.length+2]?=ae (.aA (bh go)):=by simp[Bl,dU]
theorem aef:(Bl bx th ca go dr av wd)[bx.length+3]?=ae (.dT dr):=by simp[Bl,dU]
theorem YU:(Bl bx th ca go dr av wd)[bx.length+4]?=ae (.lst av):=by simp[Bl,dU]
theorem aeg:(Bl bx th ca go dr av wd)[bx.length+5]?=ae (.lst wd):=by simp[Bl,dU]
theorem YV:(Bl bx th ca go dr av wd).set bx.length (.aA (aW dP aeb))=Bl bx aeb ca go dr av wd:=by simp[Bl]
theorem YW:(Bl bx th ca go dr av wd).set (bx.length+1) (.aA (aW enc aec))=Bl bx th aec go dr av wd:=by simp[Bl,vF]
theorem sD:(Bl bx th ca go dr av wd).set (bx.length+2) (.aA (bh go'))=Bl bx th ca go' dr av wd:=by simp[Bl,vF]
theorem aia:(Bl bx th ca go dr av wd).set (bx.length+3) (.dT cy)=Bl bx th ca go cy av wd:=by simp[Bl,vF]
theorem aib:(Bl bx th ca go dr av wd).set (bx.length+4) (.lst aed)=Bl bx th ca go dr aed wd:=by simp[Bl,vF]
theorem adX:(Bl bx th ca go dr av wd).set (bx.length+5) (.lst aee)=Bl bx th ca go dr av aee:=by simp[Bl,vF]
theorem M7:(Bl bx th ca go dr av wd).length=bx.length+6:=by simp[Bl]
end
theorem lc {k:Str}(h:m env B=.val (.m (ml n)) B) (hk:(ml n).lookup k=ae j):bV m k env B=.val (.b j) B:=by
 unfold bV;rw[h,fM];erw[hk]
theorem aeh:(ml n).lookup ("there":Str)=ae n:=rfl
theorem Ko:(ml n).lookup ("came":Str)=ae (n+1):=by rfl
theorem aic:(ml n).lookup ("gone":Str)=ae (n+2):=by rfl
theorem aei:(ml n).lookup ("doors":Str)=ae (n+3):=by rfl
theorem aej:(ml n).lookup ("at":Str)=ae (n+4):=by rfl
theorem aid:(ml n).lookup ("words":Str)=ae (n+5):=by rfl
noncomputable def aJ:Pg->Int
 |.aF h ..=>h
 |.to h ..=>h
 |.out h _=>h
section
variable {e:α -> D} {L:List (Int × α)} {k v:DE W} {i:Nat} {l:Int}
theorem Cz {x:α}(hv:v env B=.val (.d (e x)) B) (hm:m env B=.val (.b i) B) (hk:k env B=.val (.d (.int l)) B) (hb:B[i]?=ae (.aA (aW e L))) (hl:L.length<=1000):k5 m k v env B=.nx env (B.set i (.aA (aW e (put L l x)))):=by
 have z:sizeLine=16777216:=br;unfold k5;rw[hv,gX,hm,gX,hk,gX];erw[hb,nz];rw[if_pos (by unfold aW;simp;lia),GG]
theorem UM {x:α}(hm:m env B=.val (.b i) B) (hk:k env B=.val (.d (.int l)) B) (hb:B[i]?=ae (.aA (aW e L))) (hs:(L.find? λq=>decide (q.1=l)).map (·.2)=ae x):yj m k env B=.val (.d (e x)) (B.set i (.aA (aW e (pX L l)))):=by
 unfold yj;rw[hm,fM];erw[hb,hk,fM,nz];rw[j8,hs,DC];rfl
end
end aH
namespace bP
open L2 L2.DL K1 K2
section
variable {bx2 bS:List Bx}
end
end bP
namespace K2
open L2 L2.DL K1
section
variable {h:D} {rs:List Int} {x0 x1 x2 x4 x5 x6 x7 x8 x9 vk tj qB qC pY:Option W}
end
section
variable {h:D} {rs:List Int} {x0 x1 x4 x5 x6 x7 x8 qB qC pY:Option W}
end
end K2
namespace K1
open L2 L2.DL
end K1
namespace K2
open L2 L2.DL K1
end K2
namespace bP
open L2 L2.DL K1 K2
section
variable {x0 x1 x2 x5 x7 x8 x9 vk:Option W}
end
section
variable {bx2:List Bx}
end
section
variable {x0 x1 x3 x5 x6 x7 tj qB qC:Option W}
end
section
variable {x0 x1 x5:Option W}
end
end bP
namespace kB
open L2 L2.DL K1 bP
section
variable {r:aP}
abbrev gP:DG:=fP 2 zal
theorem aek (p:Int×Int->Bool) (f:Int×Int->D):∀ (l:List (Int×Int)) (w v:Option W) (acc:List D),acc.length+l.length<=sizeLine->(∀ a∈l,tf (xN a.1::xN a.2::r) bx=.val (p a) bx /\ (p a=ah->te (xN a.1::xN a.2::r) bx=.val (.d (f a)) bx)) ->
 bH gP tf te ((l.map dP).map W.d) (w::v::r) bx acc=.val (acc++(l.filter p).map f) bx:=by
 intro l_;induction l_ with
 |nil=>(intro w v acc _ _;simp[bH])
 |cons a l az=>
   intro w v acc n h;let#[h1,h2]:=h a (bE ..);rw[bw]at n;have n':acc.length<sizeLine:=by lia
   have e0:gP (W.d (dP a)) (w::v::r) bx=ae (ae (W.d (.int a.1))::ae (W.d (.int a.2))::r,bx):=rfl;cases c:p a with
   |false=>
     rw[uK (by simp[c]),<-az (ae (W.d (.int a.1))) (ae (W.d (.int a.2))) acc zd λx m=>h x (bB _ m)];rw[c]at h1;erw[aO,bH,e0,h1,m7]
   |true=>
     rw[uL c];have ih:=az (ae (W.d (.int a.1))) (ae (W.d (.int a.2))) (acc++[f a]) zk λx m=>h x (bB _ m);rw[c]at h1;erw[aO,bH,e0,h1,h2 c,m7,if_pos n',ih];simp
end
section
variable {bx2:List Bx}
end
theorem M8 (neg:Bool) (is:List Int) (b:Int):inD neg (.int b) (.lst (is.map D.int))=ae (.old (.bl (if neg then !decide (b∈is) else decide (b∈is)))):=by
 change (if kY (.int b)=ah /\ (is.map D.int).all kY=ah then ae (Res.old (.bl (if neg then !kZ (.int b) (is.map D.int) else kZ (.int b) (is.map D.int)))) else wo neg _ _ _)=_;rw[if_pos #[rfl,JO is],MV];have:(is.any λz=>decide (z=b))=decide (b∈is):=by
  rw[k9];simp
 rw[this]
end kB
namespace aH
open L2 L2.DL K1 kB bP
def ck (ps K R:Al) (g:Pg):Al:=if word ps K R g="takes" then stK K g else K
def cE (ps K R:Al) (g:Pg):Al:=if word ps K R g="takes" then nD R g else R
theorem ael (L:Al) (r:Int):inD af (.int r) (.lst (L.map λq=>.int q.2))=ae (.old (.bl (decide (r∈L.map (·.2))))):=by
 have:=M8 af (L.map (·.2)) r;rw[bO]at this;show this
theorem iJ {ps K R:Al}{g:Pg}(h:¬ word ps K R g="takes"):ck ps K R g=K /\ cE ps K R g=R:=#[if_neg h,if_neg h]
theorem gu {ps K R:Al}{g:Pg}(h:word ps K R g="takes"):ck ps K R g=stK K g /\ cE ps K R g=nD R g:=#[if_pos h,if_pos h]
section
variable {K R:List (Int × Int)} 
theorem Sr (k r:Int):decide (r∈(R.filter λq=>dj ps k zas).map (·.2))=k6 ps K R k r:=by
 unfold k6;rw[k9,decide_eq_true_eq,kM];erw[bA,sk,aG,decide_eq_true_eq];show#[λ⟨q,m,e⟩=>#[q,m.1,e,m.2],λ⟨q,m,e,a⟩=>#[q,#[m,a],e]]
theorem We {l r0 r:Int}(nd:(R.map (·.1)).Nodup) (h:look R l=ae r0) (d:¬ r0=r) (k:Int):decide (r∈(((R.filter λq=>dj ps k zas).filter λq=>!decide (q.1=l))).map (·.2))=k6 ps K R k r:=by
 rw[<-Sr,k9,decide_eq_true_eq,decide_eq_true_eq];erw[bA,sk,rZ,decide_eq_false_iff_not];refine#[λ⟨q,m,e⟩=>#[q,m.1,e],λ⟨q,m,e⟩=>#[q,#[m,λz=>?_],e]];have:=DD nd m.1;rw[z,h]at this;show d ((Option.some.inj this).trans e)
abbrev oE (H:D) (n:Nat) (g:Pg) (x6 x7 x8:Option W):aP:=[ae (.d H),ae (.m (ml n)),ae zt,ae (.d (.int (aJ g))),ae (.d (.str (bK g))),ae (.d (.int (aZ g))),x6,x7,x8]
theorem Wf (J:dF K R n) (hn:n<=100) (hb:B[bx.length]?=ae (.aA (aW dP (aK K R)))) {mk mr:DE W}{k r:Int}(h0:env[0]?=ae (ae (.d za))) (h6:env[6]?=ae (xB bx.length)) (hk:mk env B=.val (.d (.int k)) B) (hr:mr env B=.val (.d (.int r)) B) :
 dB (d2 af (inD af) mr (fQ af [ag,ag] (bD (fq aH.gm 3 (fc (dV 0) (fc (dV 6) (fc mk fg))))) gP fS (dV 1))) env B=.val (k6 ps K R k r) B:=by
 have z:sizeLine=16777216:=br;have lr:=J.lr;have fl:=xi (λq:Int×Int=>dj ps k zas) R;have v0:dV 0 env B=.val (.d za) B:=by unfold dV;rw[h0]
 have v6:dV 6 env B=.val zaM B:=by unfold dV;rw[h6]
 have it:bD (fq aH.gm 3 (fc (dV 0) (fc (dV 6) (fc mk fg)))) env B=.val (((R.filter λq=>dj ps k zas).map dP).map W.d) B:=
  gn (fF (l:=[.d za,.b bx.length,.d (.int k)]) (fj v0 (fj v6 (fj hk zc))) zc (GI J hn hb))
 have c:=aek (tf:=fS) (te:=dV 1) (bx:=B) (r:=[]) (λ_=>ah) (λq=>.int q.2) (R.filter λq=>dj ps k zas) ag ag [] zk λq _=>#[rfl,λ_=>rfl];rw[kL,List.filter_eq_self.mpr λ_ _=>rfl]at c;rw[<-Sr];refine fZ (fE (r:=.old (.bl (decide (r∈(R.filter λq=>dj ps k zas).map (·.2))))) hr (gD it zc c) ?_);show ael _ r
theorem Wg (J:dF K R n) (hn:n<=100) (hb:B[bx.length]?=ae (.aA (aW dP (aK K R)))) {mk mr:DE W}{k r l r0:Int}(h0:env[0]?=ae (ae (.d za))) (h5:env[5]?=ae (xN l)) (h6:env[6]?=ae (xB bx.length)) (hk:mk env B=.val (.d (.int k)) B) (hr:mr env B=.val (.d (.int r)) B) (hl:look R l=ae r0) (d:¬ r0=r) :
 dB (d2 af (inD af) mr (fQ af [ag,ag,ae 5] (bD (fq aH.gm 3 (fc (dV 0) (fc (dV 6) (fc mk fg))))) gP (dB (d2 af dO (dV 0) (dV 2))) (dV 1))) env B=.val (k6 ps K R k r) B:=by
 have z:sizeLine=16777216:=br;have lr:=J.lr;have fl:=xi (λq:Int×Int=>dj ps k zas) R;have v0:dV 0 env B=.val (.d za) B:=by unfold dV;rw[h0]
 have v6:dV 6 env B=.val zaM B:=by unfold dV;rw[h6]
 have it:bD (fq aH.gm 3 (fc (dV 0) (fc (dV 6) (fc mk fg)))) env B=.val (((R.filter λq=>dj ps k zas).map dP).map W.d) B:=
  gn (fF (l:=[.d za,.b bx.length,.d (.int k)]) (fj v0 (fj v6 (fj hk zc))) zc (GI J hn hb))
 have c:=aek (tf:=dB (d2 af dO (dV 0) (dV 2))) (te:=dV 1) (bx:=B) (r:=[xN l]) (λq=>!decide (q.1=l)) (λq=>.int q.2) (R.filter λq=>dj ps k zas) ag ag [] zk λq _=>#[fZ (fE (r:=.old (.bl (!decide (q.1=l)))) (x:=.int q.1) (y:=.int l) zc zc (by simp[dO])),λ_=>rfl];rw[kL]at c;rw[<-We J.nd hl d];refine fZ (fE (r:=.old (.bl (decide (r∈(((R.filter λq=>dj ps k zas).filter λq=>!decide (q.1=l))).map (·.2))))) hr (gD it (by simp[h5]) c) ?_);show ael _ r
variable {go:Al} {av wd:List D}
noncomputable def aem:Pg->Int
 |.aF _ _ k ..=>k
 |_=>0
noncomputable def isIn:Pg->Bool
 |.aF ..=>ah
 |_=>af
abbrev vm (ca:List (Int×Pg)):Al:=ca.map λq=>(q.1,aem q.2)
theorem UN {l:Int}{g:Pg}:vm (put ca l g)=put (vm ca) l (aem g):=by
 have e:(vm ca).map (·.1)=ca.map (·.1):=by unfold vm;rw[bO];rfl
 unfold put;rw[lO e];split
 .unfold vm;rw[bO,bO];refine qO λq _=>?_;by_cases c:q.1=l<;>simp[c]
 .unfold vm;simp
structure Lb (K:Al) (ca:List (Int×Pg)) (go:Al) (dr:List (List Key×D)) (m:Nat):zu where
 k:vm ca=K
 i:∀ q∈ca,isIn q.2=ah
 c:ca.length<=m
 g:go.length<=m
 d:dr.length<=2*m
theorem Lb.keys {m:Nat}(Q:Lb K ca go dr m):ca.map (·.1)=K.map (·.1):=by rw[<-Q.k,bO];rfl
end
theorem dF.nx {ps K R:Al}(J:dF K R n) (g:Pg):dF zR zW (n+1):=by
 by_cases c:word ps K R g="takes"
 .rw[(gu c).1,(gu c).2];show J.step c
 .rw[(iJ c).1,(iJ c).2];show#[J.nd,J.sub,Hg J.lk,Hg J.lr]
theorem FG {ps K R:Al}{g:Pg}:wordsOf ps K R (g::gs)=word ps K R g::wordsOf ps zR zW gs:=by
 change word ps K R g::_=_;by_cases c:word ps K R g="takes"
 .rw[(gu c).1,(gu c).2,if_pos c]
 .rw[(iJ c).1,(iJ c).2,if_neg c]
abbrev wD (p:Pg×Str):D:=.tup [enc p.1,.str p.2]
abbrev aen:aB:=zaE
def wF (ps:Al):Al->Al->List Pg->Al
 |K,_,[]=>K
 |K,R,g::gs=>wF ps zR zW gs
def rT (ps:Al):Al->Al->List Pg->List D
 |_,_,[]=>[]
 |K,R,g::gs=>.tup [.int (aJ g),.aA (aW dP zP)]::rT ps zR zW gs
section
variable {P:D} 
theorem UO (g:Pg) (h:env[3]?=ae (ae zt)):d2 af ax (dV 3) zj env B=.val (.d (.int (aJ g))) B:=by
 cases g<;>simp[h,enc,eA,b9,kX,ax,bu,bQ,aJ]
end
abbrev Kq (ft:List W->List Bx->O W):aB:=(fC (d2 af fK (dV 3) (fQ af [ag,ae 0,ae 4] (cS zZ) (fe 0) (dB (d2 af aT (fq ft 2 (fc (dV 1) (fc zp fg))) zj)) (fN (fc (dV 0) zL)))) (fe 3))
theorem JR (h:n<bx.length) (k:Nat) (hk:k<=4) (p:Int):∃ is:List Nat,∃ q,is.Sublist (List.range k) /\
 bH (fe 0) (dB (d2 af aT (fq K1.fm 2 (fc (dV 1) (fc zp fg))) zj)) (fN (fc (dV 0) zL)) (fJ 0 k) [ag,xB n,xN k] zG []=.val (is.map λ(i:Nat)=>dP ((i:Int),(k:Int))) zaV:=by
 have z2:(2:Nat)<=sizeLine:=by decide
 have sz:=br
 let#[l',q,e,s]:=MM (g:=fe 0) (tf:=dB (d2 af aT (fq K1.fm 2 (fc (dV 1) (fc zp fg))) zj)) (te:=fN (fc (dV 0) zL)) (λe=>∃ w,e=[w,xB n,xN k]) (λw=>.tup [match w with|.d x=>x|_=>.non,.int k]) (bx:=bx) (n:=n) (fJ 0 k) [ag,xB n,xN k] p [] #[ag,rfl] (by
  intro w mw env p ⟨w0,je⟩;let#[i,_,rfl]:=bA.mp mw;have t:=ip h p 3 ze ze;show#[[xN (0+(i:Int)),xB n,xN k],decide (p % 3=0),p / 3,by simp[je],#[_,rfl],by simp[t,aT],by simp[z2]]) (by simp[fJ];lia)
 unfold fJ at s;let#[is,s1,rfl]:=List.sublist_map_iff.mp s;refine#[is,q,s1,?_];rw[e,kL,bO];congr 1;refine qO λi _=>?_;simp[dP]
theorem M9 {ft:List W->List Bx->O W}{k:Nat}{p q:Int}(x1 x2:Option W) {is:List Nat}(hk:k<=4) (y:ps.length+is.length<=sizeLine)
 (e:bH (fe 0) (dB (d2 af aT (fq ft 2 (fc (dV 1) (fc zp fg))) zj)) (fN (fc (dV 0) zL)) (fJ 0 k) [ag,xB n,xN k] zG []=.val (is.map λ(i:Nat)=>dP ((i:Int),(k:Int))) zaV) :
 Kq ft [xB n,x1,x2,xP ps,xN (k:Int)] zG=.nx [xB n,x1,x2,xP (ps++is.map λ(i:Nat)=>((i:Int),(k:Int))),xN (k:Int)] zaV:=by
 have rg:=Av (env:=[xB n,x1,x2,xP ps,xN (k:Int)]) (bx:=pt bx n p) (k:=k) (m:=fc (dV 4) fg) zi zd;have ad:fK (.lst zI) (.lst (is.map λ(i:Nat)=>dP ((i:Int),(k:Int))))=ae (.lst ((ps++is.map λ(i:Nat)=>((i:Int),(k:Int))).map dP)):=by
  refine(if_pos (by rw[a6,a6];show y)).trans ?_;rw[vE,bO];rfl
 unfold Kq;rw[oN,Mx,show dV 3 [xB n,x1,x2,xP ps,xN (k:Int)] zG=.val (.d (.lst zI)) zG from rfl,fM,m9,rg,fM,
  show dM [ag,ae 0,ae 4] [ae (W.b n),x1,x2,ae (W.d (.lst zI)),ae (W.d (.int (k:Int)))]=[ag,xB n,xN k] from rfl,e,fM,gT,fM,j5,Af,Af,cb,cb,ad,gT,j5,gX,m8]
 rfl
theorem Na (h:n<bx.length) (x1 x2:Option W):∀ (c k:Nat) (p:Int) (ps:List (Int×Int)) (w:Option W),k+c<=4->ER k ps ->
 ∃ qy w' q,bT (fe 4) (Kq K1.fm) ((List.range' k c).map λ(i:Nat)=>W.d (.int (0+(i:Int)))) [xB n,x1,x2,xP ps,w] zG=.nx [xB n,x1,x2,xP qy,w'] zaV /\ ER (k+c) qy:=by
 intro c;induction c with
 |zero=>intro k p ps w _ s;show#[ps,w,p,rfl,s]
 |succ c ih=>
   intro k p ps w hk s;let#[is,q,s1,e]:=JR h k zd p;have li:is.length<=k:=by have:=s1.length_le;simpa using this
   have s':=s.more s1 zd;let#[qy,w',q',e2,s2]:=ih (k+1) q _ (xN (k:Int)) zd s';refine#[qy,w',q',?_,by rw[show k+(c+1)=k+1+c by lia];show s2];have sz:=br;have pl:=s.l;have st:=M9 x1 x2 (ps:=ps) (is:=is) zd zd e;have g1:fe 4 (W.d (.int (0+(k:Int)))) [xB n,x1,x2,xP ps,w] zG=ae ([xB n,x1,x2,xP ps,xN (k:Int)],pt bx n p):=by
    rw[abN];rfl
   rw[List.range'_succ,aO,io g1 st];show e2
theorem Nb (h:n<bx.length) (p:Int):∃ rs ks ps hd q,iP [.b n] zG=.val (.d za) zaV /\ Hs rs ks ps hd:=by
 let#[rs,q1,hr,e1]:=MO h p ag ag ag ag;let#[ks,q2,hk,lk,e2]:=MP h q1 (ae (.d (.tup rs))) ag ag ag;let#[ps,w',q3,e3,s3]:=Na h (ae (.d (.tup rs))) (ae (.d (.tup ks))) ks.length 0 q2 [] ag zd #[.nil,(λp m=>nomatch m),aD _];rw[Hf]at s3;have pl:=s3.l;let#[qs,pq,so,e4]:=PK ps zd;let#[hd,q4,hh,e5]:=PL h q3 (ae (.d (.tup rs))) (ae (.d (.tup ks))) (xP ps) w';have hb:∀ p∈qs,0<=p.1 /\ p.1<p.2 /\ p.2<(ks.length:Int):=λp m=>s3.b p (pq.mem_iff.mp m);have lq:qs.length<=16:=by rw[pq.length_eq];lia
 erw[rooms,aG]at hr;have n1:=lJ hr.1;have sL:=hk;erw[kinds,aG]at sL;have n2:=lJ sL.1;refine#[rs,ks,qs,hd,q4,BQ ?_ (by rw[gp,gp];show aD _),#[by lia,by lia,by lia,by lia,λp m=>(hb p m).2.1,by lia,?_]]
 .have sz:=br;have z4:(4:Nat)<=sizeLine:=by lia
  have z0:(0:Nat)<=sizeLine:=by lia
  change lB [xB n,ag,ag,ag,ag] zG=_;have e0:fC (gq af fg) (fe 3) [xB n,ae (.d (.tup rs)),ae (.d (.tup ks)),ag,ag] (pt bx n q2)=.nx [xB n,ae (.d (.tup rs)),ae (.d (.tup ks)),xP ([]:List (Int×Int)),ag] (pt bx n q2):=by
   show f9 (jy [] zc z0)
  have rg:=Av (env:=[xB n,ae (.d (.tup rs)),ae (.d (.tup ks)),xP ([]:List (Int×Int)),ag]) (bx:=pt bx n q2) (k:=ks.length) (m:=fc (dN af cz zL) fg) (by simp[cz]) zd;have e6:gZ (cS (fc (dN af cz zL) fg)) (fe 4) (Kq K1.fm) [xB n,ae (.d (.tup rs)),ae (.d (.tup ks)),xP ([]:List (Int×Int)),ag] (pt bx n q2)=.nx [xB n,ae (.d (.tup rs)),ae (.d (.tup ks)),xP ps,w'] (pt bx n q3):=by
   rw[Mz,rg,gX];unfold fJ;rw[List.range_eq_range'];show e3
  unfold lB;have e7:dN af pU (fc (dN af dQ zaK) fg) [xB n,ae (.d (.tup rs)),ae (.d (.tup ks)),xP ps,w'] (pt bx n q3)=.val (.d (.tup (qs.map dP))) (pt bx n q3):=
   jb (r:=.tup (qs.map dP)) [.lst (qs.map dP)] (fj (jb (r:=.lst (qs.map dP)) [.lst zI] (fj zc zc) e4) zc) zc
  rw[fu e1,fu e2,fu e0,fu e6];show fV (gk [.tup rs,.tup ks,.tup (qs.map dP),hd] (fj zc (fj zc (fj e7 (fj e5 zc)))) z4)
 .have a:apart (ks.length:Int) (.tup (qs.map dP))=ah:=by
   have b1:(qs.map dP).all (sY (ks.length:Int))=ah:=by
    rw[tL,c5];intro p m;have:=hb p m;simp[sY,tl];lia
   have b2:uA qs=ah:=GC so (pq.nodup_iff.mpr s3.nd);change (((qs.map dP).all (sY (ks.length:Int)))&&uA ((qs.map dP).filterMap YK))=ah;rw[Gx,b1,b2];rfl
  have aie:rooms (.tup rs)=ah:=by erw[rooms,hr,yJ]
  erw[house,lenOf,aie,hk,a,hh,yJ]
theorem Bf {α:Type}:∀ {l:List α}{c:Nat}(h:c<l.length),(l[c]::l.eraseIdx c).Perm l
 |a::l,0,_=>.refl _
 | a::l,c+1,h=>by
   have h':c<l.length:=aa1 h;change (l[c]::a::l.eraseIdx c).Perm (a::l);show(List.Perm.swap _ _ _).trans ((Bf h').cons a)
abbrev aif:DE W:=wq (dV 2) (fq K1.fm 2 (fc (dV 1) (fc (dN af cz zL) fg)))
theorem FH (h:n<bx.length):∀ (l:List W) (left:List D) (w:Option W) (p:Int) (acc:List D),left.length=l.length->left.length<=1000->acc.length+l.length<=sizeLine ->
 ∃ ds q,bH (fe 0) fS aif l [w,xB n,xB bx.length] (pt (bx++[.lst left]) n p) acc=.val (acc++ds) (pt (bx++[.lst []]) n q) /\ ds.Perm left:=by
 intro l_;induction l_ with
 |nil=>
   intro left w p acc hl _ _;cases left with
   |nil=>show#[[],p,by simp[bH],.refl _]
   |cons a b=>simp at hl
 |cons u l az=>
   intro left w p acc hl akh z;have h1:n<(bx++[Bx.lst left]).length:=by simp;lia
   have b0:=jr (p:=p) (x:=.lst left) h;have ln:dN af cz zL [ae u,xB n,xB bx.length] (pt (bx++[.lst left]) n p)=.val (.d (.int left.length)) (pt (bx++[.lst left]) n p):=UA zc b0;have lp:0<left.length:=by rw[hl];simp
   let#[r,q,t,r0,r1]:=FC h1 (env:=[ae u,xB n,xB bx.length]) (i:=1) zc ln zd zd;let#[c,rfl]:=yM r0;have hc:c<left.length:=by lia
   have b1:=jr (p:=q) (x:=.lst left) h;have pv:=PP (m:=dV 2) zc b0 t b1 #[by lia,by lia] (PQ hc) (dq hc);rw[Ct h]at pv;have z':acc.length<sizeLine:=by erw[bw]at z;lia
   have el:(left.eraseIdx c).length=l.length:=by rw[Q7 hc,hl];simp
   let#[ds,q',e3,e4]:=az (left.eraseIdx c) (ae u) q (acc++[left[c]]) el (by rw[el];simp at hl;lia) (by erw[cZ,bw,nS]at z ⊢;lia);refine#[left[c]::ds,q',?_,?_]
   .have g0:fe 0 u [w,xB n,xB bx.length] (pt (bx++[.lst left]) n p)=ae ([ae u,xB n,xB bx.length],pt (bx++[.lst left]) n p):=rfl;erw[bH,g0,Gr,m7,pv,if_pos z',e3];simp
   .show(e4.cons _).trans (Bf hc)
theorem P7 (h:n<bx.length) (p:Int) (l:List D) (hl:l.length<=1000):∃ ds q,jW [.b n,.d zaZ] zG=.val (.d (.lst ds)) zaV /\ ds.Perm l:=by
 have sz:=br;let#[ds,q,e1,e2]:=FH h (l.map W.d) l ag p [] zi hl zk;rw[kL]at e1;have s1:fC (dN ah xV zF) (fe 2) [xB n,ae (.d zaZ),ag] zG=.nx [xB n,ae (.d zaZ),xB bx.length] (pt (bx++[.lst l]) n p):=by
  have a:dN ah xV zF [xB n,ae (.d zaZ),ag] zG=.val zaM (pt (bx++[.lst l]) n p):=by
   rw[Dm,fj (w:=.d zaZ) (l:=[]) rfl rfl,fM,<-mK h];have:=gp (bx:=bx) (n:=n) (p:=p);change O.val (W.b (pt bx n p).length) _=_;rw[this]
  show f9 a
 have M:lC [xB n,ae (.d zaZ),ag] zG=.rt (.d (.lst ds)) (pt (bx++[.lst []]) n q):=by
  unfold lC;show(fu s1).trans (fV (gD (gn zc) zc e1))
 refine#[ds,q,(lL M).trans ?_,e2];rw[gp,Bc h]
theorem FJ {i:Nat}(h:env[i]?=ae (ae (.d za))):dN af cz (fc (d2 af ax (dV i) zj) fg) env B=.val (.d (.int (rs.length:Int))) B:=by
 have v:dV i env B=.val (.d za) B:=by unfold dV;rw[h]
 show jb (r:=.old (.int (rs.length:Int))) [.tup rs] (fj (fE (r:=.old (.tup rs)) v zc zc) zc) (by simp[cz])
theorem UP {i:Nat}(h:env[i]?=ae (ae (.d za))):dN af cz (fc (d2 af ax (dV i) zf) fg) env B=.val (.d (.int (ks.length:Int))) B:=by
 have v:dV i env B=.val (.d za) B:=by unfold dV;rw[h]
 show jb (r:=.old (.int (ks.length:Int))) [.tup ks] (fj (fE (r:=.old (.tup ks)) v zc zc) zc) (by simp[cz])
theorem P8 (h:n<bx.length) (H:Hs rs ks ps hd) (p near:Int) (h0:0<near) (h1:near<=40):∃ g q,gW [.b n,.d za,.d (.int near)] zG=.val zt zaV /\ qA rs.length ks.length g /\ aJ g<near:=by
 have sz:=br;have r1:=H.r1;have r5:=H.r5;have k1:=H.k1;have k4:=H.k4;let#[a,q1,t1,a0,a1]:=nC h p near h0 zd;let#[v,q2,t2,mv]:=Km h q1 [3,10] (fc zp (fc (dC (.int 10)) fg)) (λ_ _=>rfl) (k:=2) zc (by decide) ze;have hv:0<v /\ v<=10:=by simp at mv;lia
 let#[l,q3,t3,l0,l1]:=nC h q2 v hv.1 zd;let#[r,q4,t4,c0,c1]:=nC h q3 rs.length zd zd;let#[w,q5,t5,w0,w1]:=nC h q4 5 ze ze;have fin:∀ {g:Pg}{q:Int},A3 [xB n,ae (.d za),xN near,ag,ag,ag,ag,ag] zG=.rt zt zaV->gW [.b n,.d za,.d (.int near)] zG=.val zt zaV:=λe=>BQ e (by rw[gp,gp];show aD _);have tz:∀ {e:aP},e[6]?=ae (xN w)->dB (d2 af aT (dV 6) zj) e (pt bx n q5)=.val (decide (w=0)) (pt bx n q5):=λe=>fZ (fE (r:=.old (.bl (decide (w=0)))) (x:=.int w) (y:=.int 0) (by rw[Ak,e]) zc (by simp[aT]));have tt:∀ {e:aP},e[6]?=ae (xN w)->dB (d2 af cY (dV 6) zp) e (pt bx n q5)=.val (decide (w<3)) (pt bx n q5):=λe=>fZ (fE (r:=.old (.bl (decide (w<3)))) (x:=.int w) (y:=.int 3) (by rw[Ak,e]) zc (by simp[cY]));by_cases aeo:w=0
 .rw[decide_eq_true aeo]at tz;show#[.out a l,q5,fin ((fu (oj (t1 zc zc) (t3 zc (t2 _ _ zc)))).trans ((fu (oj (t4 zc (FJ zc)) (t5 zc zc))).trans (qR (tz zc) (gk [.int a,.str "out",.int l] zc zk)))),#[a0,l0,by lia],a1]
 .rw[decide_eq_false aeo]at tz;by_cases c2:w<3
  .rw[decide_eq_true c2]at tt;show#[.to a l r,q5,fin ((fu (oj (t1 zc zc) (t3 zc (t2 _ _ zc)))).trans ((fu (oj (t4 zc (FJ zc)) (t5 zc zc))).trans (qF (tz zc) (qR (tt zc) (gk [.int a,.str "to",.int l,.int r] zc zk))))),#[a0,#[l0,by lia],c0,c1],a1]
  .rw[decide_eq_false c2]at tt;let#[x,q6,t6,x0,x1]:=nC h q5 9 ze ze;let#[y,q7,t7,y0,y1]:=nC h q6 40 ze ze;let#[c,q8,t8,e0,e1]:=nC h q7 4 ze ze;let#[d,ed,md]:=lV (l:=[D.int 0,.int x,.int y,.int 999]) e0 (by simpa using e1);obtain⟨z,rfl,z0,z1⟩:∃ z,d=.int z /\ 0<=z /\ z<=999:=by
    simp at md;rcases md with rfl|rfl|rfl|rfl<;>show#[_,rfl,by lia,by lia]
   let#[k,q9,t9,f0,f1]:=nC h q8 ks.length zd zd;let#[u,qa,ta,u0,u1]:=nC h q9 100 ze ze;show#[.aF a l k r z u,qa,fin ((fu (oj (t1 zc zc) (t3 zc (t2 _ _ zc)))).trans ((fu (oj (t4 zc (FJ zc)) (t5 zc zc))).trans (qF (tz zc) (qF (tt zc) (qS (fE (r:=.old (.int z)) (jy [.int 0,.int x,.int y,.int 999] (fj zc (fj (t6 zc zc) (fj (t7 zc zc) (fj zc zc)))) zk) (t8 zc zc) (by erw[ax,ed,nG])) (fV (gk [.int a,.str "in",.int l,.int k,.int r,.int z,.int u] (fj zc (fj zc (fj zc (fj (t9 zc (UP zc)) (fj zc (fj zc (fj (ta zc zc) zc))))))) zk))))))),#[a0,#[l0,by lia],#[f0,f1],#[c0,c1],#[z0,z1],u0,by lia],a1]
noncomputable def dA:Pg->List Key
 |.aF h l k r p w=>[.inl h,.inr "in",.inl l,.inl k,.inl r,.inl p,.inl w]
 |.to h l r=>[.inl h,.inr "to",.inl l,.inl r]
 |.out h l=>[.inl h,.inr "out",.inl l]
def ke (g:Pg):List Key×D:=(dA g,.bl ah)
theorem CA (g:Pg):D.tup ((dA g).map Kg)=enc g:=by cases g<;>rfl
theorem Nc (g:Pg):∃ l,enc g=.tup l /\ uw l=ae (dA g):=by cases g<;>show#[_,rfl,rfl]
theorem Nd {a b:Pg}(h:dA a=dA b):a=b:=PH (by rw[<-CA,<-CA,h])
theorem P9 (gs:List Pg):Kh (gs.map ke)=gs.map enc:=by
 unfold Kh;rw[bO];show qO λg _=>CA g
theorem UQ {g:Pg}:∃ g2:List Pg,rQ (gs.map ke) (dA g) (.bl ah)=g2.map ke /\ (gs.Nodup->g2.Nodup) /\ (∀ x∈g2,x∈gs \/ x=g) /\ g2.length<=gs.length+1:=by
 by_cases m:g∈gs
 .refine#[gs,?_,id,λx m=>.inl m,by lia];unfold rQ;rw[if_pos]
  .rw[bO];refine qO λx _=>?_;change (if dA x=dA g then (dA x,D.bl ah) else ke x)=ke x;split<;>rfl
  .show kM.mpr #[ke g,uM m,by simp[ke]]
 .refine#[gs++[g],?_,λnd=>?_,λx mx=>?_,by simp]
  .unfold rQ;rw[if_neg]
   .simp[ke]
   .intro z;let#[x,mx,e]:=kM.mp z;let#[y,my,rfl]:=bA.mp mx;show m (Nd (of_decide_eq_true e)▸my)
  .rw[vG];show#[nd,by simp,λa ma b mb=>by cases kN.mp mb;show λz=>m (z▸ma)]
  .rcases nT.mp mx with z|z
   .show .inl z
   .show .inr (kN.mp z)
abbrev gB:aB:=zO
noncomputable abbrev gE (n b:Nat) (H:D) (mo near:Int) (x5 x6:Option W):aP:=[ae (.b n),ae (.d H),ae (.d (.int mo)),ae (.d (.int near)),ae (.b b),x5,x6]
def Gd (nr nk:Nat) (near:Int) (g:Pg):zu:=qA nr nk g /\ aJ g<near
theorem WS (g:Pg) (near:Int) (h:env[6]?=ae (ae zt)):dB (d2 af aT (d2 af ax (dV 6) zf) (dC (.str "in"))) env B=.val (decide (bK g="in")) B:=by
 refine fZ (fE (r:=.old (.bl (decide (bK g="in")))) (x:=.str (bK g)) (y:=.str "in") ?_ zc (eq_str _ _));cases g<;>simp[h,enc,eA,b9,kX,ax,bu,bQ,bK]
theorem Ra {h' l k r p w:Int}{mo near:Int}(x5:Option W) {H:D}{b:Nat}:fC (d2 af fK (fN (fc (d2 af pR (d2 af ax (dV 6) zj) zp) fg)) (kJ af (dV 6) (kI zf) kT)) (fe 6) (gE n b H mo near x5 (ae (.d (enc zV)))) B=.nx (gE n b H mo near x5 (ae (.d (enc (.aF (h' / 3) l k r p w))))) B:=by
 have z:sizeLine=16777216:=br;have c:uS h' 3:=by unfold uS;lia
 simp[enc,eA,b9,kX,ax,bu,bQ,pR,c,sP,DL.cutD,HT.aU,fK,z]
theorem WT {mo:Int}(h:n<bx.length) (H:Hs rs ks ps hd) (near:Int) (h0:0<near) (h1:near<=40) (nd:gs.Nodup) (ok:∀ g∈gs,Gd rs.length ks.length near g) (hl:gs.length<=100) (q:Int) (x5 x6:Option W) :
 ∃ (g2:List Pg) (q':Int) (y6:Option W),gB (gE n bx.length za mo near x5 x6) (pt zX n q)=.nx (gE n bx.length za mo near x5 y6) (pt (bx++[.dT (g2.map ke)]) n q') /\ g2.Nodup /\ (∀ g∈g2,Gd rs.length ks.length near g) /\ g2.length<=gs.length+1:=by
 have sz:=br;have hn:n<(bx++[Bx.dT (gs.map ke)]).length:=by simp;lia
 let#[g,q1,e,og,hg]:=P8 hn H q near h0 h1;have s1:fC (fq aH.gW 3 (fc (dV 0) (fc (dV 1) zaK))) (fe 6) (gE n bx.length za mo near x5 x6) (pt zX n q)=.nx (gE n bx.length za mo near x5 (ae zt)) (pt zX n q1):=
  f9 (fF (l:=[.b n,.d za,.d (.int near)]) zc zc e)
 have pu:∀ (g:Pg) (q2:Int),Gd rs.length ks.length near g->∃ g2:List Pg,rR (dV 4) (dV 6) (dC (.bl ah)) (gE n bx.length za mo near x5 (ae zt)) (pt zX n q2)=.nx (gE n bx.length za mo near x5 (ae zt)) (pt (bx++[.dT (g2.map ke)]) n q2) /\ g2.Nodup /\ (∀ g∈g2,Gd rs.length ks.length near g) /\ g2.length<=gs.length+1:=λg q2 og=>by
  let#[g2,e2,n2,m2,l2]:=UQ (gs:=gs) (g:=g);let#[l,el,kl]:=Nc g;refine#[g2,?_,n2 nd,λx mx=>(m2 x mx).elim (ok x) (λz=>z▸og),l2];have b1:=jr (p:=q2) (x:=.dT (gs.map ke)) h;unfold rR;have v6:dV 6 (gE n bx.length za mo near x5 (ae zt)) (pt zX n q2)=.val (.d (.tup l)) (pt zX n q2):=by rw[<-el];rfl
  have v4:dV 4 (gE n bx.length za mo near x5 (ae zt)) (pt zX n q2)=.val zaM (pt zX n q2):=rfl;rw[VW,gX,v4,gX,v6,gX];erw[b1,kl];rw[if_pos zk,e2,Ct h]
 have tg:=WS g near (env:=gE n bx.length za mo near x5 (ae zt)) (B:=pt zX n q1) zc;by_cases c:bK g="in"
 .rw[decide_eq_true c]at tg;let#[r,q2,t,r0,r1]:=ah6 hn q1 (env:=gE n bx.length za mo near x5 (ae zt)) (i:=0) zc 3 ze ze;have tt:=oS tg (fZ (fE (g:=eK) (r:=.old (.bl (decide (0<r)))) (x:=.int r) (y:=.int 0) (m:=fq K1.fm 2 (fc (dV 0) (fc zp fg))) (k:=dC (.int 0)) t zc (by simp[eK])));by_cases d:0<r
  .rw[decide_eq_true d]at tt;cases g with
   |aF h' l k r' p w=>
     let#[o1,o2]:=og;have xQ:h'<near:=hg;let#[g2,e2,n2,m2,l2]:=pu (.aF (h' / 3) l k r' p w) q2 #[#[by lia,o2],by change h' / 3<near;lia];show#[g2,q2,_,(fu s1).trans ((fu ((iI tt).trans (Ra x5))).trans e2),n2,m2,l2]
   |to _ _ _=>show absurd c (by change ¬ ("to":Str)="in";rw[FE];show id)
   |out _ _=>show absurd c (by change ¬ ("out":Str)="in";rw[JP];show id)
  .rw[decide_eq_false d]at tt;let#[g2,e2,n2,m2,l2]:=pu g q2 #[og,hg];show#[g2,q2,_,(fu s1).trans ((fu ((gx tt).trans zc)).trans e2),n2,m2,l2]
 .rw[decide_eq_false c]at tg;let#[g2,e2,n2,m2,l2]:=pu g q1 #[og,hg];show#[g2,q1,_,(fu s1).trans ((fu ((gx (oR tg)).trans zc)).trans e2),n2,m2,l2]
theorem Nf {mo:Int}(h:n<bx.length) (H:Hs rs ks ps hd) (p near:Int) (h0:0<near) (h1:near<=40) (m0:0<=mo) (m1:mo<=16):∃ (gs:List Pg) (q:Int),iQ [.b n,.d za,.d (.int mo),.d (.int near)] zG=.val (.d zo) zaV /\ gs.Nodup /\ (∀ g∈gs,Gd rs.length ks.length near g) /\ gs.length<=16:=by
 have sz:=br;have hn:n<(bx++[Bx.dT []]).length:=by simp;lia
 have s1:fC yi (fe 4) [xB n,ae (.d za),xN mo,xN near,ag,ag,ag] zG=.nx (gE n bx.length za mo near ag ag) (pt (bx++[.dT (([]:List Pg).map ke)]) n p):=by
  have:yi [xB n,ae (.d za),xN mo,xN near,ag,ag,ag] zG=.val zaM (pt (bx++[.dT []]) n p):=by
   unfold yi;rw[gp,mK h]
  show f9 this
 let#[c,q1,t,c0,c1]:=FC hn (p:=p) (p1:=p) (env:=gE n bx.length za mo near ag ag) (i:=0) (m:=d2 af fK (dV 2) zf) (k:=mo+1) zc (fE (r:=.old (.int (mo+1))) (x:=.int mo) (y:=.int 1) zc zc (by simp[fK])) zd zd;let#[c,rfl]:=yM c0;have rg:cS (fc (fq K1.fm 2 (fc (dV 0) (fc (d2 af fK (dV 2) zf) fg))) fg) (gE n bx.length za mo near ag ag) (pt (bx++[.dT []]) n p)=.val (fJ 0 c) (pt (bx++[.dT []]) n q1):=by
  rw[j6 (fj t rfl) zd,kh]
 let#[aN,bx',e,gs,q,w5,w6,rfl,rfl,nd,ok,l]:=j7 (g:=fe 5) (body:=gB) (λi env b=>∃ (gs:List Pg) (q:Int) (w5 w6:Option W),env=gE n bx.length za mo near w5 w6 /\ b=pt zX n q /\ gs.Nodup /\ (∀ g∈gs,Gd rs.length ks.length near g) /\ gs.length<=i) (fJ 0 c) 0 (gE n bx.length za mo near ag ag) (pt (bx++[.dT (([]:List Pg).map ke)]) n q1) #[[],q1,ag,ag,rfl,rfl,.nil,(λg m=>nomatch m),aD _] (by
  rintro i w env b hw ⟨gs,q,w5,w6,rfl,rfl,nd,ok,l⟩;let#[_,hi]:=Bd hw;let#[g2,q',y6,e2,n2,m2,l2]:=WT h H near h0 h1 nd ok zd q (ae w) w6;show#[gE n bx.length za mo near (ae w) w6,_,gE n bx.length za mo near (ae w) y6,_,rfl,e2,g2,q',_,y6,rfl,rfl,n2,m2,by lia])
 have lr:(fJ 0 c).length=c:=by simp[fJ]
 rw[lr]at l;let#[ds,q2,e3,pm]:=P7 (bx:=bx++[.dT (gs.map ke)]) (n:=n) zk q (gs.map enc) zk;let#[g2,rfl,pg]:=AS pm zc;have lt:EL af (dV 4) (gE n bx.length za mo near w5 w6) (pt zX n q)=.val (.d zo) (pt zX n q):=by
  have b1:=jr (p:=q) (x:=.dT (gs.map ke)) h;have v4:dV 4 (gE n bx.length za mo near w5 w6) (pt zX n q)=.val zaM (pt zX n q):=rfl;unfold EL;rw[v4,fM];erw[b1,P9];rfl
 refine#[g2,q2,?_,pg.nodup_iff.mpr nd,λg m=>ok g (pg.mem_iff.mp m),by rw[pg.length_eq];lia];have M:Ab [xB n,ae (.d za),xN mo,xN near,ag,ag,ag] zG=.rt (.d (.lst (g2.map enc))) (pt zX n q2):=
  (fu s1).trans ((fu ((im rg).trans e)).trans (fV (fF (l:=[.b n,.d zo]) (fj zc (fj lt zc)) zc e3)))
 refine(lL (ws:=[.b n,.d za,.d (.int mo),.d (.int near)]) M).trans ?_;rw[gp,Bc h]
noncomputable def sh (c:Int):Pg->Pg
 |.aF h l k r p w=>.aF (h+c) l k r p w
 |.to h l r=>.to (h+c) l r
 |.out h l=>.out (h+c) l
theorem UR {c:Int}{a b:Pg}(h:sh c a=sh c b):a=b:=by
 cases a<;>cases b<;>simp[sh]at h<;>simp_all
def Lt (nr nk:Nat) (g:Pg):zu:=qA nr nk g /\ (aJ g).natAbs<=10 ^ 40
theorem Wh {nr nk:Nat}{c near:Int}{g:Pg}(h:Gd nr nk near g) (c0:0<=c) (c1:c<=10 ^ 39) (hn:near<=40):Lt nr nk (sh c g):=by
 let#[o,t]:=h;cases g with
 |aF h l k r p w=>
   let#[o1,o2]:=o;have t':h<near:=t;show#[#[by lia,o2],by change (h+c).natAbs<=_;lia]
 |to h l r=>
   let#[o1,o2]:=o;have t':h<near:=t;show#[#[by lia,o2],by change (h+c).natAbs<=_;lia]
 |out h l=>
   let#[o1,o2]:=o;have t':h<near:=t;show#[#[by lia,o2],by change (h+c).natAbs<=_;lia]
theorem Wi (c:Int) (g:Pg) (B:List Bx):d2 af fK (fN (fc (d2 af fK zaC (dV 1)) fg)) (kJ af (dV 0) (kI zf) kT) [ae zt,xN c] B=.val (.d (enc (sh c g))) B:=by
 have z:sizeLine=16777216:=br;cases g<;>simp[enc,eA,b9,kX,ax,bu,bQ,sP,DL.cutD,HT.aU,fK,z,sh]
theorem Rb {B nr nk:Nat}(hB:999<=B) (r5:nr<=5) (k4:nk<=4) {g:Pg}(o:qA nr nk g) (t:(aJ g).natAbs<=B):Sm B 1 14000 (enc g):=by
 have li:(reprText ("in":Str)).length<=20:=by decide +kernel
 have lt:(reprText ("to":Str)).length<=20:=by decide +kernel
 have lo:(reprText ("out":Str)).length<=20:=by decide +kernel
 have si:=Sm.str (B:=B) (a:=0) (x:="in");have st:=Sm.str (B:=B) (a:=0) (x:="to");have so:=Sm.str (B:=B) (a:=0) (x:="out");have it:∀ {i:Int},i.natAbs<=B->Sm B 0 1921 (.int i):=λh=>Sm.int h;generalize (reprText ("in":Str)).length=L1 at li si;generalize (reprText ("to":Str)).length=L2 at lt st;generalize (reprText ("out":Str)).length=L3 at lo so;cases g with
 |aF h l k r p w=>
   let#[o1,o2,o3,o4,o5,o6]:=o;have z:=Sm.tup (bc.cons (it t) (bc.cons si (bc.cons (it (i:=l) zd) (bc.cons (it (i:=k) zd) (bc.cons (it (i:=r) zd) (bc.cons (it (i:=p) zd) (bc.cons (it (i:=w) zd) bc.nil)))))));show z.mono (aD _) zd
 |to h l r=>
   let#[o1,o2,o3]:=o;have z:=Sm.tup (bc.cons (it t) (bc.cons st (bc.cons (it (i:=l) zd) (bc.cons (it (i:=r) zd) bc.nil))));show z.mono (aD _) zd
 |out h l=>
   let#[o1,o2]:=o;have z:=Sm.tup (bc.cons (it t) (bc.cons so (bc.cons (it (i:=l) zd) bc.nil)));show z.mono (aD _) zd
end aH
namespace cT
open L2 L2.DL K1 kB bP aH
def pre (h:Int) (ps:Al):Al->Al->List Pg->Al×Al
 |K,R,[]=>(K,R)
 |K,R,g::gs=>if aJ g<=h then pre h ps zR zW gs else (K,R)
abbrev qD (gs:List Pg):zu:=gs.Pairwise λa b=>aJ a<=aJ b
theorem US (r:EO gs):qD gs:=by
 refine r.imp λ{a b} h=>?_;have:∀ {l m:List HT.aS}{i j:Int},HT.cw (.i i::l) (.i j::m)=ah->i<=j:=λ{l m i j} h=>by
  unfold HT.cw at h;split at h
  .ext e;cases e;show yN _
  .have:decide (i<j)=ah:=h;simp at this;lia
 cases a<;>cases b<;>show this h
theorem DQ {h:Int}{ps K R:Al}:∀ {gs:List Pg},(∀ g∈gs,¬ aJ g<=h)->pre h ps K R gs=(K,R)
 |[],_=>rfl
 |g::gs,l=>by unfold pre;rw[if_neg (l g (bE ..))]
def wG (ps:Al):Al->Al->List Pg->List (Int×At)
 |_,_,[]=>[]
 |K,R,g::gs=>(aJ g,aK zR zW)::wG ps zR zW gs
abbrev aep (e:Int×At):D:=.tup [.int e.1,.aA (aW dP e.2)]
theorem GJ (ps:Al):∀ (K R:Al) (gs:List Pg),rT ps K R gs=(wG ps K R gs).map aep
 |_,_,[]=>rfl
 |K,R,g::gs=>by unfold rT wG;rw[aO,GJ ps _ _ gs]
theorem DR {ps:Al}{e:Int×At}:∀ {K R:Al}{gs:List Pg},e∈wG ps K R gs->∃ g∈gs,aJ g=e.1
 |_,_,[],m=>nomatch m
 | K,R,g::gs,m=>by
   unfold wG at m;rcases bz.mp m with rfl|m
   .show#[g,bE ..,rfl]
   .let#[g',m',e']:=DR m;show#[g',bB _ m',e']
noncomputable abbrev pZ (h:Int) (acc:At) (e:Int×At):At:=if e.1<=h then e.2 else acc
theorem JS {h:Int}{acc:At}:∀ {l:List (Int×At)},(∀ e∈l,¬ e.1<=h)->l.foldl (pZ h) acc=acc:=by
 intro l_;induction l_ with
 |nil=>show λ_=>rfl
 |cons e l az=>
   intro q;rw[HC];change l.foldl (pZ h) (if e.1<=h then e.2 else acc)=acc;rw[if_neg (q e (bE ..))];show az λe m=>q e (bB _ m)
theorem DS {h:Int}{ps:Al}:∀ {K R:Al}{gs:List Pg},qD gs->(wG ps K R gs).foldl (pZ h) (aK K R)=aK (pre h ps K R gs).1 (pre h ps K R gs).2
 |_,_,[],_=>rfl
 | K,R,g::gs,s=>by
   let#[s1,s2]:=List.pairwise_cons.mp s;unfold wG pre;rw[HC];by_cases c:aJ g<=h
   .rw[if_pos c,show pZ h (aK K R) (aJ g,aK zR zW)=aK zR zW from if_pos c];show DS s2
   .rw[if_neg c,show pZ h (aK K R) (aJ g,aK zR zW)=aK K R from if_neg c];refine JS λe m=>?_;let#[g',m',e']:=DR m;have:=s1 g' m';lia
def taken (ps:Al):Al->Al->List Pg->List Pg
 |_,_,[]=>[]
 |K,R,g::gs=>if word ps K R g="takes" then g::taken ps (stK K g) (nD R g) gs else taken ps K R gs
theorem jF {a:Int×Int}{K:Al}{x:Int}:look (a::K) x=if a.1=x then ae a.2 else look K x:=by
 unfold look;rw[ng];by_cases h:a.1=x
 .rw[decide_eq_true h,if_pos h];rfl
 .rw[decide_eq_false h,if_neg h]
theorem Ng {l k x:Int}:∀ {K:Al},look (K.map λq=>if q.1=l then (q.1,k) else q) x=if x=l /\ (K.any λq=>decide (q.1=l))=ah then ae k else look K x:=by
 intro l_;induction l_ with
 |nil=>(simp[look])
 |cons a K az=>
   rw[aO,jF,az,jF,qi];by_cases h:a.1=l
   .rw[if_pos h,decide_eq_true h,aa4];by_cases e:a.1=x
    .rw[if_pos e,if_pos #[by lia,rfl]]
    .rw[if_neg e,if_neg (λz=>e zd),if_neg (λz=>e zd),if_neg e]
   .rw[if_neg h,decide_eq_false h,QY];by_cases e:a.1=x
    .rw[if_pos e,if_pos e,if_neg (λz=>h zd)]
    .rw[if_neg e,if_neg e]
theorem Nh {k l x:Int}:∀ {K:Al},(K.any λq=>decide (q.1=l))=af->look (K++[(l,k)]) x=if x=l then ae k else look K x:=by
 intro l_;induction l_ with
 |nil=>
   intro _;rw[kL,jF];by_cases e:x=l
   .rw[if_pos e,if_pos e.symm]
   .rw[if_neg e,if_neg (λz=>e z.symm)]
 |cons a K az=>
   intro h;rw[qi,Bool.or_eq_false_iff,decide_eq_false_iff_not]at h;rw[Hq,jF,az h.2,jF];by_cases e:a.1=x
   .rw[if_pos e,if_pos e,if_neg (λz=>h.1 zd)]
   .rw[if_neg e,if_neg e]
theorem Bg {K:Al}{l k x:Int}:look (put K l k) x=if x=l then ae k else look K x:=by
 unfold put;split
 .ext c;rw[Ng];by_cases e:x=l
  .rw[if_pos #[e,c],if_pos e]
  .rw[if_neg (λz=>e z.1),if_neg e]
 .ext c;show Nh (Bool.eq_false_iff.mpr c)
theorem Cy {K:Al}{l k x:Int}:kk (put K l k) x=if x=l then k else kk K x:=by
 unfold kk;rw[Bg];split<;>rfl
theorem Ss {ps K R:Al}{g:Pg}{x:Int}(h:(look K x).isSome=ah):kk zR x=kk K x /\ (look zR x).isSome=ah:=by
 by_cases c:word ps K R g="takes"
 .rw[(gu c).1];cases g with
  |aF h' l k r p w=>
    have hl:(look K l).isSome=af:=by
     erw[word]at c;split at c
     .show absurd c ze
     .ext z;simpa using z
    have ne:x≠l:=λz=>by rw[z,hl]at h;cases h
    change kk (put K l k) x=_ /\ (look (put K l k) x).isSome=ah;rw[Cy,Bg,if_neg ne,if_neg ne];show#[rfl,h]
  |to h' l r=>show#[rfl,h]
  |out h' l=>show#[rfl,h]
 .rw[(iJ c).1];show#[rfl,h]
theorem DT {k:Nat}{g:DG}{body:aB}{B:List Bx}{l:List D}(hb:B[k]?=ae zaZ) (P:Nat->aP->zu)
 (step:∀ i x env,l[i]?=ae x->P i env->∃ env1 bq,g (.d x) env B=ae (env1,B) /\ body env1 B=.nx bq B /\ P (i+1) bq) :
 ∀ (f i:Nat) (env:aP),P i env->i<=l.length->l.length<i+f->∃ aN,forL k g body f i env B=.nx aN B /\ P l.length aN
 |0,i,env,_,h1,h2=>by lia
 | f+1,i,env,p,h1,h2=>by
   unfold forL;erw[hb];cases e:l[i]? with
   |none=>
     have:=List.getElem?_eq_none_iff.mp e;have:i=l.length:=by lia
     subst this;show#[env,rfl,p]
   |some x=>
     have:=(List.getElem?_eq_some_iff.mp e).1;let#[env1,bq,a,b,p2]:=step i x env e p;let#[aN,c,d]:=DT hb P step f (i+1) bq p2 zd zd;erw[a,b];show#[aN,c,d]
theorem UT {g:DG}{body:aB}{B0:List Bx}{k:Nat}{l:List D}(hm:m env B0=.val (.b k) B) (hb:B[k]?=ae zaZ) (P:Nat->aP->zu) (p0:P 0 env)
 (step:∀ i x env,l[i]?=ae x->P i env->∃ env1 bq,g (.d x) env B=ae (env1,B) /\ body env1 B=.nx bq B /\ P (i+1) bq):∃ aN,yo m g body env B0=.nx aN B /\ P l.length aN:=by
 unfold yo;rw[hm,gX];have:YE B k=l.length:=by unfold YE;rw[hb]
 erw[this];show DT hb P step (l.length+1) 0 env p0 (eS _) zd
abbrev pD:aB:=(aM (dB (d2 af eW (dV 3) (dV 1))) (fC (dV 4) (fe 2)) aV)
theorem Rc {h:Int}{E:List (Int×At)}(hb:B[n+4]?=ae (.lst (E.map aep))) :
 gG [.m (ml n),.d (.int h)] B=.val (.d (.aA (aW dP (E.foldl (pZ h) [])))) B:=by
 refine fT ?_;change lF [ae (.m (ml n)),xN h,ag,ag,ag] B=_;refine(fu (f9 (w:=.d (.aA (aW dP []))) zc)).trans ?_;let#[aN,e,y3,y4,rfl]:=UT (m:=bV (dV 0) "at") (g:=fP 2 zaR) (body:=pD) (env:=[ae (.m (ml n)),xN h,ae (.d (.aA (aW dP []))),ag,ag]) (lc zc aej) hb
  (λi env=>∃ y3 y4,env=[ae (.m (ml n)),xN h,ae (.d (.aA (aW dP ((E.take i).foldl (pZ h) [])))),y3,y4]) #[ag,ag,rfl] (by
  rintro i x env hx ⟨y3,y4,rfl⟩;rw[kK]at hx;let#[e,he,rfl]:=Option.map_eq_some_iff.mp hx;have tk:E.take (i+1)=E.take i++[e]:=by rw[List.take_add_one,he];rfl
  have t:dB (d2 af eW (dV 3) (dV 1)) [ae (.m (ml n)),xN h,ae (.d (.aA (aW dP ((E.take i).foldl (pZ h) [])))),xN e.1,ae (.d (.aA (aW dP e.2)))] B=.val (decide (e.1<=h)) B:=fZ (fE (r:=.old (.bl (decide (e.1<=h)))) zc zc (by simp[eW]));rw[tk,List.foldl_append];by_cases c:e.1<=h
  .rw[decide_eq_true c]at t;show#[_,_,rfl,(iI t).trans (f9 zc),xN e.1,ae (.d (.aA (aW dP e.2))),by rw[show ([e].foldl (pZ h) ((E.take i).foldl (pZ h) []))=e.2 from if_pos c];rfl]
  .rw[decide_eq_false c]at t;show#[_,_,rfl,(gx t).trans zc,xN e.1,ae (.d (.aA (aW dP e.2))),by rw[show ([e].foldl (pZ h) ((E.take i).foldl (pZ h) []))=(E.take i).foldl (pZ h) [] from if_neg c]])
 rw[a6,Hr]at e;show(fu e).trans (fV zc)
abbrev uB:aB:=(fv (aM (dB (d2 af eK (d2 af ax (dV 3) zj) (dV 1))) IC aV) (aM (dB (eX af (dV 5))) (uz (dV 2) (d2 af ax (dV 3) zr)) (k5 (dV 2) (d2 af ax (dV 3) zr) (dV 5))))
abbrev qH (q:Pg×D):D:=.tup [enc q.1,q.2,dG q.1]
abbrev g3:DG:=fP 3 (fr (fe 3) (fr (fe 4) (fr (fe 5) fR)))
theorem YX (g:Pg) (h:env[3]?=ae (ae zt)):d2 af ax (dV 3) zr env B=.val (.d (.int (aZ g))) B:=by
 cases g<;>simp[h,enc,eA,b9,kX,ax,bu,bQ,aZ]
theorem UU {env1 bq:aP}{bx2:List Bx}{w:W}{l:List W}{g:DG}{body:aB}(h1:g w env bx=ae (env1,bx1)) (h2:body env1 bx1=.bk bq bx2):bT g body (w::l) env bx=.nx bq bx2:=by
 rw[bT,h1];erw[h2]
theorem UV {a b:aB}{env1:aP}(h:a env bx=.bk env1 bx1):fv a b env bx=.bk env1 bx1:=by rw[lI,h]
section
variable {ps:Al} {h:Int} {x0:Option W}
theorem UW {K R:Al}(J:dF K R n) (hn:n<=100) {g:Pg}(c:word ps K R g="takes") (t:aJ g<=h) (x:D) :
 uB [x0,xN h,xB bx.length,ae zt,ae (.d x),ae (.d (dG g))] (bx++[.aA (bh R)])=.nx [x0,xN h,xB bx.length,ae zt,ae (.d x),ae (.d (dG g))] (bx++[.aA (bh (nD R g))]):=by
 have lr:=J.lr;have tt:dB (d2 af eK (d2 af ax (dV 3) zj) (dV 1)) [x0,xN h,xB bx.length,ae zt,ae (.d x),ae (.d (dG g))] (bx++[.aA (bh R)])=.val af (bx++[.aA (bh R)]):=
  fZ (fE (r:=.old (.bl af)) (x:=.int (aJ g)) (y:=.int h) (UO g zc) zc (by simp[eK];lia))
 refine(fu ((gx tt).trans zc)).trans ?_;have b0:(bx++[Bx.aA (bh R)])[bx.length]?=ae (.aA (bh R)):=by simp
 have st:∀ L:Al,(bx++[Bx.aA (bh R)]).set bx.length (.aA (bh L))=bx++[.aA (bh L)]:=λL=>by simp
 cases g with
 |aF h' l k r p w=>
   have p2:=DN (L:=R) (m:=dV 2) (k:=d2 af ax (dV 3) zr) (v:=dV 5) (x:=r) (l:=l) (i:=bx.length) (B:=bx++[.aA (bh R)]) (env:=[x0,xN h,xB bx.length,ae (.d (enc zV)),ae (.d x),ae (.d (dG zV))]) zc zc (YX zV zc) b0 zd;rw[st]at p2;show(gx (t:=dB (eX af (dV 5))) zc).trans p2
 |to h' l r=>
   have p2:=DN (L:=R) (m:=dV 2) (k:=d2 af ax (dV 3) zr) (v:=dV 5) (x:=r) (l:=l) (i:=bx.length) (B:=bx++[.aA (bh R)]) (env:=[x0,xN h,xB bx.length,ae (.d (enc zaU)),ae (.d x),ae (.d (dG zaU))]) zc zc (YX zaU zc) b0 zd;rw[st]at p2;show(gx (t:=dB (eX af (dV 5))) zc).trans p2
 |out h' l=>
   have p2:=So (L:=R) (m:=dV 2) (k:=d2 af ax (dV 3) zr) (l:=l) (i:=bx.length) (B:=bx++[.aA (bh R)]) (env:=[x0,xN h,xB bx.length,ae (.d (enc (.out h' l))),ae (.d x),ae (.d (dG (.out h' l)))]) zc (YX (.out h' l) zc) b0 (DO c);rw[st]at p2;show(iI (t:=dB (eX af (dV 5))) zc).trans p2
theorem Re:∀ (gs:List Pg) (K R:Al) (n:Nat) (S:List (Pg×D)) (y3 y4 y5:Option W),qD gs->dF K R n->n+gs.length<=100->S.map (·.1)=taken ps K R gs ->
 ∃ z3 z4 z5,bT g3 uB ((S.map qH).map W.d) [x0,xN h,xB bx.length,y3,y4,y5] (bx++[.aA (bh R)])=.nx [x0,xN h,xB bx.length,z3,z4,z5] (bx++[.aA (bh (pre h ps K R gs).2)]):=by
 intro l_;induction l_ with
 |nil=>
   intro K R n S y3 y4 y5 _ _ _ e;have:S=[]:=List.map_eq_nil_iff.mp e;subst this;show#[y3,y4,y5,rfl]
 |cons g gs az=>
   intro K R n S y3 y4 y5 s J hn e;let#[s1,s2]:=List.pairwise_cons.mp s;rw[bw]at hn;by_cases c:word ps K R g="takes"
   .rw[show taken ps K R (g::gs)=g::taken ps (stK K g) (nD R g) gs from if_pos c]at e;cases S with
    |nil=>cases e
    |cons q S=>
      let#[q1,x]:=q;rw[aO]at e;injection e with e1 e2;have ua:q1=g:=e1;subst ua;have g1:g3 (W.d (qH (q1,x))) [x0,xN h,xB bx.length,y3,y4,y5] (bx++[.aA (bh R)])=ae (zaN,bx++[.aA (bh R)]):=rfl;by_cases t:aJ q1<=h
      .let#[z3,z4,z5,ih]:=az (stK K q1) (nD R q1) (n+1) S (ae (.d (enc q1))) (ae (.d x)) (ae (.d (dG q1))) s2 (J.step c) zd e2;refine#[z3,z4,z5,?_];rw[aO,aO,io g1 (UW J zd c t x),ih,show pre h ps K R (q1::gs)=pre h ps (ck ps K R q1) (cE ps K R q1) gs from if_pos t,(gu c).1,(gu c).2]
      .have tt:dB (d2 af eK (d2 af ax (dV 3) zj) (dV 1)) zaN (bx++[.aA (bh R)])=.val ah (bx++[.aA (bh R)]):=
        fZ (fE (r:=.old (.bl ah)) (x:=.int (aJ q1)) (y:=.int h) (UO q1 zc) zc (by simp[eK];lia))
       refine#[ae (.d (enc q1)),ae (.d x),ae (.d (dG q1)),?_];have bk:uB zaN (bx++[.aA (bh R)])=.bk zaN (bx++[.aA (bh R)]):=UV ((iI tt).trans zc);rw[aO,aO,UU g1 bk,show pre h ps K R (q1::gs)=(K,R) from if_neg t]
   .rw[show taken ps K R (g::gs)=taken ps K R gs from if_neg c]at e;let#[z3,z4,z5,ih]:=az K R n S y3 y4 y5 s2 J zd e;refine#[z3,z4,z5,ih.trans ?_];by_cases t:aJ g<=h
    .rw[show pre h ps K R (g::gs)=pre h ps zR zW gs from if_pos t,(iJ c).1,(iJ c).2]
    .rw[show pre h ps K R (g::gs)=(K,R) from if_neg t,DQ λg' m=>by have:=s1 g' m;lia]
end
theorem Wj {i k:Nat}{l:List (Key×D)}(h:env[k]?=ae (xB i)) (hb:bx[i]?=ae (.aA l)):sR k env bx=.val (.d (.aA l)) (bx.set i .dead):=by
 unfold sR;erw[h,hb]
theorem Rf {h:Int}{S:List (Pg×D)}(s:qD qs) (hl:qs.length<=16) (e:S.map (·.1)=taken ps [] [] qs) :
 iM [.d (.lst (S.map qH)),.d (.int h)] bx=.val zaD bx:=by
 let#[z3,z4,z5,f]:=Re (ps:=ps) (bx:=bx) (h:=h) (x0:=ae (.d (.lst (S.map qH)))) qs [] [] 0 S ag ag ag s YS zd e;have s1:fC (nP ah []) (fe 2) [ae (.d (.lst (S.map qH))),xN h,ag,ag,ag,ag] bx=.nx [ae (.d (.lst (S.map qH))),xN h,xB bx.length,ag,ag,ag] (bx++[.aA (bh [])]):=by
  have:nP ah [] [ae (.d (.lst (S.map qH))),xN h,ag,ag,ag,ag] bx=.val zaM (bx++[.aA (bh [])]):=by simp[nP,cu,aW]
  show f9 this
 have b:lG [ae (.d (.lst (S.map qH))),xN h,ag,ag,ag,ag] bx=.rt zaD ((bx++[Bx.aA (bh (pre h ps [] [] qs).2)]).set bx.length .dead):=
  (fu s1).trans ((fu ((im (gn zc)).trans f)).trans (fV (Wj zc zi)))
 refine(lL (ws:=[.d (.lst (S.map qH)),.d (.int h)]) b).trans ?_;simp[Q9]
theorem aih:∀ (T:List (Pg×Str×D×D)) (w0 w1 w2 w3:Option W) (acc:List D),acc.length+T.length<=1000 ->
 bH g4 (dB (d2 af aT (dV 1) (dC (.str "takes")))) (fN (fc (dV 0) (fc (dV 2) zaK))) ((T.map tq).map W.d) [w0,w1,w2,w3] B acc=.val (acc++(T.filter λx=>decide (x.2.1=("takes":Str))).map λx=>.tup [enc x.1,x.2.2.1,x.2.2.2]) B:=by
 intro l_;induction l_ with
 |nil=>(intro _ _ _ _ acc _;simp[bH])
 |cons x T az=>
   intro w0 w1 w2 w3 acc hl;have z:sizeLine=16777216:=br;rw[bw]at hl;have e0:g4 (W.d (tq x)) [w0,w1,w2,w3] B=ae ([ae (.d (enc x.1)),ae (.d (.str x.2.1)),ae (.d x.2.2.1),ae (.d x.2.2.2)],B):=rfl;have t:dB (d2 af aT (dV 1) (dC (.str "takes"))) [ae (.d (enc x.1)),ae (.d (.str x.2.1)),ae (.d x.2.2.1),ae (.d x.2.2.2)] B=.val (decide (x.2.1="takes")) B:=fZ (fE (r:=.old (.bl (decide (x.2.1="takes")))) zc zc (eq_str _ _));have e1:fN (fc (dV 0) (fc (dV 2) zaK)) [ae (.d (enc x.1)),ae (.d (.str x.2.1)),ae (.d x.2.2.1),ae (.d x.2.2.2)] B=.val (.d (.tup [enc x.1,x.2.2.1,x.2.2.2])) B:=gk [enc x.1,x.2.2.1,x.2.2.2] zc zk;by_cases c:x.2.1=("takes":Str)
   .have ih:=az (ae (.d (enc x.1))) (ae (.d (.str x.2.1))) (ae (.d x.2.2.1)) (ae (.d x.2.2.2)) (acc++[.tup [enc x.1,x.2.2.1,x.2.2.2]]) zk;rw[decide_eq_true c]at t;erw[aO,bH,e0,t,m7,e1];rw[if_pos zd,ih,uL (by simpa using c)];simp
   .have ih:=az (ae (.d (enc x.1))) (ae (.d (.str x.2.1))) (ae (.d x.2.2.1)) (ae (.d x.2.2.2)) acc zd;rw[decide_eq_false c]at t;erw[aO,bH,e0,t,m7];rw[ih,uK (by simpa using c)]
end cT
namespace a9
noncomputable def sm (f:Int->Int) (a:Int):Nat->Int
 |0=>0
 |n+1=>sm f a n+f (a+n)
theorem Ni (f:Int->Int) (a:Int) (m:Nat):∀ n,sm f a (m+n)=sm f a m+sm f (a+m) n
 |0=>by simp[sm]
 | n+1=>by
   change sm f a (m+n)+f (a+((m+n:Nat):Int))=sm f a m+(sm f (a+m) n+f (a+m+n));rw[Ni f a m n,show a+((m+n:Nat):Int)=a+m+n by lia];lia
theorem Bh {f:Int->Int}{a c:Int}:∀ {n:Nat},(∀ h,a<=h->h<a+n->f h=c)->sm f a n=c*n:=by
 intro l_;induction l_ with
 |zero=>(intro _;simp[sm])
 |succ n az=>
   intro h;change sm f a n+f (a+n)=_;rw[az (λx h1 h2=>h x h1 zd),h (a+n) zd zd,Int.natCast_succ,abO,HK]
noncomputable abbrev Sx:=Int×Option Int×Int
noncomputable def vn (f:Int->Int):List Int->List Sx
 |[]=>[]
 |[b]=>[(b,ag,f b)]
 |b::c::r=>(b,ae c,f b)::vn f (c::r)
noncomputable def Kr (f:Int->Int):List Int->zu
 |[]=>True
 |[b]=>∀ h,b<=h->f h=f b
 |b::c::r=>b<c /\ (∀ h,b<=h->h<c->f h=f b) /\ Kr f (c::r)
noncomputable def gN (h:Int):Option Int->Int
 |none=>h
 |some e=>min e h
def Ks (h:Int):Int->List Sx->Int
 |r,[]=>r
 |r,q::t=>Ks h (r+q.2.2*max 0 (gN h q.2.1-q.1)) t
theorem DU {f:Int->Int}{h:Int}:∀ {r:List Int}{b x:Int},Kr f (b::r)->Ks h x (vn f (b::r))=x+sm f b (h-b).toNat
 | [],b,x,c=>by
   change x+f b*max 0 (h-b)=_;rw[Bh λy h1 _=>c y h1];congr 1;congr 1;lia
 | c::r,b,x,⟨l,k,t⟩=>by
   change Ks h (x+f b*max 0 (min c h-b)) (vn f (c::r))=_;rw[DU t];by_cases q:h<=c
   .rw[show (h-c).toNat=0 by lia,show min c h=h by lia,Bh (n:=(h-b).toNat) (c:=f b) λy h1 h2=>k y h1 zd];change _+(0:Int)=_;rw[show max 0 (h-b)=(((h-b).toNat:Nat):Int) by lia];lia
   .rw[show (h-b).toNat=(c-b).toNat+(h-c).toNat by lia,Ni,Bh (n:=(c-b).toNat) (c:=f b) λy h1 h2=>k y h1 zd,show min c h=c by lia,show max 0 (c-b)=(((c-b).toNat:Nat):Int) by lia,show b+(((c-b).toNat:Nat):Int)=c by lia];lia
open L2 L2.DL K2 aH cT
noncomputable def yq:Pg->List Int
 |.aF _ _ _ r _ _=>[r]
 |.to _ _ r=>[r]
 |.out ..=>[]
def rV (R:Al) (g:Pg):Al:=(yq g++(look R (aZ g)).toList).map λr=>(aJ g,r)
def ops (ps:Al):Al->Al->List Pg->Al
 |_,_,[]=>[]
 |K,R,g::gs=>if word ps K R g="takes" then rV R g++ops ps (stK K g) (nD R g) gs else ops ps K R gs
theorem DV {ps:Al}{q:Int×Int}:∀ {gs:List Pg}{K R:Al},q∈ops ps K R gs->∃ g∈taken ps K R gs,aJ g=q.1:=by
 intro l_;induction l_ with
 |nil=>(intro _ _ m;show nomatch m)
 |cons g gs az=>
   intro K R m;unfold ops at m;unfold taken;split at m
   .ext c;rw[if_pos c];rcases nT.mp m with m|m
    .let#[r,_,rfl]:=bA.mp m;show#[g,bE ..,rfl]
    .let#[x,mx,e]:=az m;show#[x,bB _ mx,e]
   .ext c;rw[if_neg c];show az m
theorem FK {ps:Al}{b h:Int}(hb:b<=h):∀ {gs:List Pg}{K R:Al},qD gs->(∀ g∈taken ps K R gs,¬ (b<aJ g /\ aJ g<=h))->pre h ps K R gs=pre b ps K R gs
 |[],_,_,_,_=>rfl
 | g::gs,K,R,s,t=>by
   have s2:=(List.pairwise_cons.mp s).2;unfold pre;by_cases c:word ps K R g="takes"
   .unfold taken at t;rw[if_pos c]at t;have tg:=t g (bE ..);have ih:=FK hb (K:=stK K g) (R:=nD R g) s2 λx m=>t x (bB _ m);rw[(gu c).1,(gu c).2];by_cases q:aJ g<=b
    .rw[if_pos q,if_pos zd,ih]
    .rw[if_neg q,if_neg zd]
   .unfold taken at t;rw[if_neg c]at t;have ih:=FK hb (K:=K) (R:=R) s2 t;rw[(iJ c).1,(iJ c).2];by_cases q:aJ g<=b
    .rw[if_pos q,if_pos zd,ih]
    .rw[if_neg q];by_cases q2:aJ g<=h
     .rw[if_pos q2,ih];show DQ λx m=>by have:=(List.pairwise_cons.mp s).1 x m;lia
     .rw[if_neg q2]
theorem Rg {c b h:Int}(hc:c<=3) (hh:1<=hold) (hb:b<=h):∀ {ps:Al},(∀ p∈ps,∀ x∈[p.1,p.2,p.1+1*hold,p.1+2*hold,p.1+3*hold],¬ (b<x /\ x<=h))->dE c hold h ps=dE c hold b ps:=by
 intro l_;induction l_ with
 |nil=>show λ_=>rfl
 |cons p ps az=>
   intro t;have ih:=az λx m=>t x (bB _ m);have tp:=t p (bE ..);erw[bz,pJ,or_false,forall_eq_or_imp,forall_eq]at tp;let#[t1,t2,t3,t4,t5]:=tp;unfold dE;by_cases q:p.1<=b /\ b<p.2
   .rw[if_pos q,if_pos zd];have eb:=abP (b-p.1) hold;have b0:=Xh (b-p.1) (show hold≠0 by lia);have b1:=Xi (b-p.1) (show 0<hold by lia);have eh:=abP (h-p.1) hold;have h0:=Xh (h-p.1) (show hold≠0 by lia);have h1:=Xi (h-p.1) (show 0<hold by lia);have le:(b-p.1) / hold<=(h-p.1) / hold:=Int.ediv_le_ediv zd zd;have nn:0<=(b-p.1) / hold:=abM zd zd;generalize (b-p.1) / hold=u at *;generalize (h-p.1) / hold=v at *;by_cases u3:3<=u
    .rw[show max 0 (c-v)=0 by lia,show max 0 (c-u)=0 by lia]
    .have:v=u:=by
      rcases Int.lt_or_le u v with lt|ge
      .have m1:hold*(u+1)<=hold*v:=Int.mul_le_mul_of_nonneg_left zd zd;rw[abO,HK]at m1;have:u=0 \/ u=1 \/ u=2:=by lia
       rcases this with rfl|rfl|rfl<;>lia
      .lia
     rw[this]
   .rw[if_neg q,if_neg zd,ih]
def yr (rl:List Int) (hold:Int) (outs:Al) (rt:List Int) (D:Al) (h:Int):Option Int->Int
 |none=>0
 |some r=>rt.getD (max 0 (dE (rl.getD r.toNat 0) hold h outs-if (h,r)∈D then 1 else 0)).toNat 0
abbrev uB (ps:Al) (qs:List Pg) (l h:Int):Option Int:=look (pre h ps [] [] qs).2 l
abbrev cP (rl:List Int) (hold:Int) (outs:Al) (rt:List Int) (ps:Al) (qs:List Pg) (l h:Int):Int:=yr rl hold outs rt (ops ps [] [] qs) h (uB ps qs l h)
abbrev chg (hold:Int) (outs:Al) (tk:List Pg):List Int:=(outs.map λp=>[p.1,p.2,p.1+1*hold,p.1+2*hold,p.1+3*hold]).flatten++(tk.map λg=>[aJ g,aJ g+1]).flatten
theorem Rh {outs:Al}{rt:List Int}{ps:Al}{l:Int}(s:qD qs) (hr:∀ c∈rl,c<=3) (hh:1<=hold) {b h:Int}(hb:b<=h)
 (t:∀ x∈chg hold outs (taken ps [] [] qs),¬ (b<x /\ x<=h)) :
 cP rl hold outs rt ps qs l h=cP rl hold outs rt ps qs l b:=by
 have t1:∀ p∈outs,∀ x∈[p.1,p.2,p.1+1*hold,p.1+2*hold,p.1+3*hold],¬ (b<x /\ x<=h):=λp m x mx=>t x (qM _ (List.mem_flatten.mpr #[_,bA.mpr #[p,m,rfl],mx]));have t2:∀ g∈taken ps [] [] qs,¬ (b<aJ g /\ aJ g<=h) /\ ¬ (b<aJ g+1 /\ aJ g+1<=h):=λg m=>
  #[t _ (kg _ (List.mem_flatten.mpr #[_,bA.mpr #[g,m,rfl],by simp])),t _ (kg _ (List.mem_flatten.mpr #[_,bA.mpr #[g,m,rfl],by simp]))]
 rcases Int.lt_or_eq_of_le hb with lt|rfl
 .unfold cP uB;rw[FK hb s λg m=>(t2 g m).1];cases look (pre b ps [] [] qs).2 l with
  |none=>rfl
  |some r=>
    have c3:rl.getD r.toNat 0<=3:=by
     rw[yL];cases q:rl[r.toNat]? with
     |none=>simp
     |some v=>show hr v (qN q)
    erw[yr];rw[Rg c3 hh hb t1,if_neg λm=>?_,if_neg λm=>?_]
    .let#[g,mg,e]:=DV m;have:=(t2 g mg).2;simp only at e;lia
    .let#[g,mg,e]:=DV m;have:=(t2 g mg).1;simp only at e;lia
 .rfl
theorem Nj {f:Int->Int}{C:List Int}(k:∀ b h,b<=h->(∀ x∈C,¬ (b<x /\ x<=h))->f h=f b):∀ {L:List Int},L.Pairwise (·<·)->(∀ x∈C,∀ b,L.head?=ae b->b<x->x∈L)->Kr f L
 |[],_,_=>True.intro
 | [b],_,t=>λh hb=>k b h hb λx m q=>by
   have:=t x m b zc q.1;cases kN.mp this;lia
 | b::c::r,s,t=>by
   have s1:=List.pairwise_cons.mp s;have lt:=s1.1 c (bE ..);refine#[lt,λh h1 h2=>k b h h1 λx m q=>?_,Nj k s1.2 λx m b' e q=>?_]
   .have:=t x m b zc q.1;rcases bz.mp this with rfl|this
    .lia
    .rcases bz.mp this with rfl|this
     .lia
     .have:=(List.pairwise_cons.mp s1.2).1 x this;lia
   .cases e;have:=t x m b zc zd;rcases bz.mp this with rfl|this
    .lia
    .show this
open K1
abbrev yt (R:Al) (g:Pg):D:=((look R (aZ g)).map D.int).getD .non
def p5 (ps:Al):Al->Al->List Pg->List (Pg×Str×D×D)
 |_,_,[]=>[]
 |K,R,g::gs=>if word ps K R g="takes" then (g,word ps K R g,yt R g,dG g)::p5 ps (stK K g) (nD R g) gs else (g,word ps K R g,.non,.non)::p5 ps K R gs
def tm (ps:Al):Al->Al->List Pg->List (Pg×D)
 |_,_,[]=>[]
 |K,R,g::gs=>if word ps K R g="takes" then (g,yt R g)::tm ps (stK K g) (nD R g) gs else tm ps K R gs
theorem JT {ps:Al}:∀ {gs:List Pg}{K R:Al},(tm ps K R gs).map (·.1)=taken ps K R gs:=by
 intro l_;induction l_ with
 |nil=>(intro _ _;show rfl)
 |cons g gs az=>
   intro K R;unfold tm taken;split
   .rw[aO,az]
   .show az
theorem Ri {ps:Al}:∀ {gs:List Pg}{K R:Al},(p5 ps K R gs).length=gs.length:=by
 intro l_;induction l_ with
 |nil=>(intro _ _;show rfl)
 |cons g gs az=>
   intro K R;unfold p5;split<;>rw[bw,az,bw]
theorem Rj {ps:Al}:∀ {gs:List Pg}{K R:Al},((p5 ps K R gs).filter λx=>decide (x.2.1=("takes":Str))).map (λx=>D.tup [enc x.1,x.2.2.1,x.2.2.2])=(tm ps K R gs).map qH:=by
 intro l_;induction l_ with
 |nil=>(intro _ _;show rfl)
 |cons g gs az=>
   intro K R;unfold p5 tm;by_cases c:word ps K R g="takes"
   .rw[if_pos c,if_pos c,uL (by simpa using c),aO,aO,az]
   .rw[if_neg c,if_neg c,uK (by simpa using c),az]
section
variable {P:D} 
theorem JU (h:Hs rs ks ps hd):∀ (gs:List Pg) (T:List (Pg×Str×D×D)) (K R:Al) (n:Nat) (x5 x6 x7:Option W),dF K R n->n+gs.length<=100->T.length+gs.length<=100 ->
 ∃ K' R' y5 y6 y7,bT (fe 5) rB ((gs.map enc).map W.d) (rE za P bx.length x5 x6 x7) (Bk bx T K R)=.nx (rE za P bx.length y5 y6 y7) (Bk bx (T++p5 ps K R gs) K' R'):=by
 intro l_;induction l_ with
 |nil=>show λT K R n x5 x6 x7 _ _ _=>#[K,R,x5,x6,x7,by simp[bT,p5]]
 |cons g gs az=>
   intro T K R n x5 x6 x7 J hn hT;rw[bw]at hn hT;have g1:fe 5 (W.d (enc g)) (rE za P bx.length x5 x6 x7) (Bk bx T K R)=ae (rE za P bx.length (ae zt) x6 x7,Bk bx T K R):=rfl;unfold p5;by_cases c:word ps K R g="takes"
   .have e:=UL (P:=P) (bx:=bx) (T:=T) h J zd zd g x6 x7 c;let#[K',R',y5,y6,y7,e2]:=az (T++[(g,word ps K R g,yt R g,dG g)]) (stK K g) (nD R g) (n+1) (ae zt) (xN (aZ g)) (ae zae) (J.step c) zd zk;refine#[K',R',y5,y6,y7,?_];rw[if_pos c,aO,aO,io g1 e,e2,se];rfl
   .have e:=Wd (P:=P) (bx:=bx) h J zd zd (T:=T) g x6 x7 c;let#[K',R',y5,y6,y7,e2]:=az (T++[(g,word ps K R g,.non,.non)]) K R n (ae zt) (xN (aZ g)) (ae zae) J zd zk;refine#[K',R',y5,y6,y7,?_];rw[if_neg c,aO,aO,UJ g1 e,e2,se];rfl
theorem UX (h:Hs rs ks ps hd) (hl:qs.length<=16) (so:dQ [.lst (gs.map enc)]=ae (.lst (qs.map enc))) :
 aH.Cg [.d za,.d zo] bx=.val (.d (.lst ((p5 ps [] [] qs).map tq))) bx:=by
 let#[K',R',y5,y6,y7,e]:=JU (P:=.lst (gs.map enc)) (bx:=bx) h qs [] [] [] 0 ag ag ag YS zd zk;have s1:fC (gq ah fg) (fe 2) [ae (.d za),ae (.d zo),ag,ag,ag,ag,ag,ag] bx=.nx [ae (.d za),ae (.d zo),xB bx.length,ag,ag,ag,ag,ag] (bx++[.lst []]):=f9 (oQ [] zc (eS _));have s2:fC (nP ah []) (fe 3) [ae (.d za),ae (.d zo),xB bx.length,ag,ag,ag,ag,ag] (bx++[.lst []])=.nx [ae (.d za),ae (.d zo),xB bx.length,xB (bx.length+1),ag,ag,ag,ag] (bx++[.lst [],.aA []]):=by
  have:nP ah [] [ae (.d za),ae (.d zo),xB bx.length,ag,ag,ag,ag,ag] (bx++[.lst []])=.val (.b (bx.length+1)) (bx++[.lst [],.aA []]):=by
   simp[nP,cu]
  show f9 this
 have s3:fC (nP ah []) (fe 4) [ae (.d za),ae (.d zo),xB bx.length,xB (bx.length+1),ag,ag,ag,ag] (bx++[.lst [],.aA []])=.nx (rE za zo bx.length ag ag ag) (Bk bx [] [] []):=by
  have:nP ah [] [ae (.d za),ae (.d zo),xB bx.length,xB (bx.length+1),ag,ag,ag,ag] (bx++[.lst [],.aA []])=.val (.b (bx.length+2)) (Bk bx [] [] []):=by
   simp[nP,cu,Bk,aW]
  show f9 this
 have it:bD (dN af dQ zF) (rE za zo bx.length ag ag ag) (Bk bx [] [] [])=.val ((qs.map enc).map W.d) (Bk bx [] [] []):=
  gn (jb (r:=.lst (qs.map enc)) [.lst (gs.map enc)] (fj zc zc) so)
 have b:Mv [ae (.d za),ae (.d zo),ag,ag,ag,ag,ag,ag] bx=.rt (.d (.lst ((p5 ps [] [] qs).map tq))) ((Bk bx (p5 ps [] [] qs) K' R').set bx.length .dead):=by
  refine(fu s1).trans ((fu s2).trans ((fu s3).trans ((fu ((im it).trans e)).trans ?_)));rw[kL];show fV (Sh zc ES)
 refine(lL (ws:=[.d za,.d zo]) b).trans ?_;simp[Bk,Q9]
theorem Rm (H:Hs rs ks ps hd) (hl:qs.length<=16) (so:dQ [.lst (gs.map enc)]=ae (.lst (qs.map enc))) :
 cT.gJ [.d za,.d zo] bx=.val (.d (.lst ((tm ps [] [] qs).map qH))) bx:=by
 have c:=aih (B:=bx) (p5 ps [] [] qs) ag ag ag ag [] (by rw[Ri];simp;lia);rw[Rj,kL]at c;show fT (fV (gD (gn (fF (l:=[.d za,.d zo]) zc zc (UX H hl so))) zc c))
end
def stC (ca:List (Int×Pg)):Pg->List (Int×Pg)
 |.aF h l k r p w=>put ca l (.aF h l k r p w)
 |_=>ca
def p6 (ps K R:Al) (ca:List (Int×Pg)) (g:Pg):List (Int×Pg):=if word ps K R g="takes" then stC ca g else ca
def EV (ps K R:Al) (g:Pg):Al:=if word ps K R g="takes" then rV R g else []
theorem oV {ps K R:Al}{g:Pg}(h:¬ word ps K R g="takes"):p6 ps K R ca g=ca /\ EV ps K R g=[]:=#[if_neg h,if_neg h]
theorem iF {ps K R:Al}{g:Pg}(h:word ps K R g="takes"):p6 ps K R ca g=stC ca g /\ EV ps K R g=rV R g:=#[if_pos h,if_pos h]
noncomputable abbrev k2 (q:Int×Int):List Key:=[.inl q.1,.inl q.2]
def rW (dr cy:List zaJ) (l:Al):zu:=∀ q:Int×Int,(eZ cy (k2 q)).isSome=((eZ dr (k2 q)).isSome||decide (q∈l))
theorem rW.refl:rW dr dr []:=λq=>by simp
theorem rW.trans {a b c:List zaJ}{l m:Al}(h:rW a b l) (k:rW b c m):rW a c (l++m):=λq=>by
 simp[k q,h q,Bool.or_assoc,nT]
theorem JV {k k':List Key}{d:D}:(eZ (rQ dr k d) k').isSome=((eZ dr k').isSome||decide (k'=k)):=by
 unfold eZ rQ;rw[pK,pK];split
 .ext h;rw[abq,pK,show ((λx:List Key×D=>decide (x.1=k'))∘λkv=>if kv.1=k then (kv.1,d) else kv)=λx=>decide (x.1=k') from funext λx=>by change decide ((if x.1=k then (x.1,d) else x).1=k')=_;split<;>rfl];by_cases e:k'=k
  .subst e;have:(dr.find? λx=>decide (x.1=k')).isSome=ah:=by rw[Hy];simpa using h
   rw[this];rfl
  .simp[e]
 .ext h;rw[Hz,Option.isSome_or];congr 1;by_cases e:k'=k
  .subst e;simp
  .simp[e,Ne.symm e]
section
variable {K R:List (Int × Int)} 
variable {go:Al} {av wd:List D}
theorem Rn {th:At}{mk:DE W}{a b:Int}(e1:env[1]?=ae (ae zac)) (hk:∀ B,mk env B=.val (.d (dP (a,b))) B) (hl:dr.length<=1000):∃ cy,cy.length<=dr.length+1 /\ rW dr cy [(a,b)] /\ rR (bV (dV 1) "doors") mk (dC (.bl ah)) env (Bl bx th ca go dr av wd)=.nx env (Bl bx th ca go cy av wd):=by
 have z:sizeLine=16777216:=br;refine#[rQ dr [.inl a,.inl b] (.bl ah),?_,λq=>?_,?_]
 .unfold rQ;split<;>simp
 .rw[JV];congr 1;simp[Prod.ext_iff]
 .unfold rR;rw[show dC (.bl ah) env (Bl bx th ca go dr av wd)=.val zap (Bl bx th ca go dr av wd) from rfl,gX,lc (by rw[Ak,e1]) aei,gX,hk,gX];change (match (Bl bx th ca go dr av wd)[bx.length+3]?,uw [D.int a,D.int b] with|some (.dT l),ae k=>if l.length<sizeLine then OS.nx env ((Bl bx th ca go dr av wd).set (bx.length+3) (.dT (rQ l k (.bl ah)))) else .bad|_,_=>.bad)=_;rw[aef];show(if_pos zd).trans (by rw[aia])
theorem aii (h:Hs rs ks ps hd) (J:dF K R n) (hn:n<=100) {m:Nat}(Q:Lb K ca go dr m) (hm:m<=100) (g:Pg) :
 ∃ go' cy,ia [ae (.d za),ae zac,ae zt,ag,ag,ag,ag,ag,ag] (Bl bx (aK K R) ca go dr av wd)=.rt zae (Bl bx zP (p6 ps K R ca g) go' cy av wd) /\ Lb zR (p6 ps K R ca g) go' cy (m+1) /\ rW dr cy (EV ps K R g):=by
 have z:sizeLine=16777216:=br;have qc:=Q.c;have qg:=Q.g;have qd:=Q.d
 let E:=λx7 x8=>oE za bx.length g (xB bx.length) x7 x8
 let B0:=Bl bx (aK K R) ca go dr av wd
 have pf:∀ {k:aB}{o:OS},k (E ag ag) B0=o->fv (fC (kJ af (dV 2) kT (kI zp)) (fP 3 (fr (fe 3) (fr (fe 4) (fr (fe 5) fR))))) (fv (fC (bV (dV 1) "there") (fe 6)) k) [ae (.d za),ae zac,ae zt,ag,ag,ag,ag,ag,ag] B0=o:=λq=>(fu (env1:=oE za bx.length g ag ag ag) (by cases g<;>simp[enc,eA,b9,kX,sP,DL.cutD,HT.aU,aJ,bK,aZ])).trans (qS (lc zc aeh) q)
 suffices H:∀ P:zu,(∀ s:Str,word ps K R g=s->¬ s="takes"->ia [ae (.d za),ae zac,ae zt,ag,ag,ag,ag,ag,ag] B0=.rt (.d (.str s)) B0->P)->(word ps K R g="takes"->∀ go' cy,ia [ae (.d za),ae zac,ae zt,ag,ag,ag,ag,ag,ag] B0=.rt (.d (.str "takes")) (Bl bx (aK (stK K g) (nD R g)) (stC ca g) go' cy av wd)->Lb (stK K g) (stC ca g) go' cy (m+1)->rW dr cy (rV R g)->P)->P from H _ (λs e d q=>by
  subst e;show#[go,dr,by rw[(iJ d).1,(iJ d).2,(oV d).1];show q,by rw[(iJ d).1,(oV d).1];show#[Q.k,Q.i,by lia,by lia,by lia],by rw[(oV (ca:=ca) d).2];show .refl]) λe go' cy a b c=>#[go',cy,by rw[(gu e).1,(gu e).2,(iF e).1,e];show a,by rw[(gu e).1,(iF e).1];show b,by rw[(iF (ca:=ca) e).2];show c]
 intro P no ys;have tw:∀ (w:Str) (x7 x8:Option W) (B:List Bx),dB (d2 af aT (dV 4) (dC (.str w))) (E x7 x8) B=.val (decide (bK g=w)) B:=λw x7 x8 B=>fZ (fE (r:=.old (.bl (decide (bK g=w)))) zc zc (eq_str _ _));have ni:=fZ (DI (e:=dP) (L:=aK K R) (k:=dV 5) (m:=dV 6) (env:=E ag ag) (bx:=B0) (l:=aZ g) ah zc zc (lM vj));rw[lN,pK]at ni;have g2:∀ {r0:Int}{k:aB}{o:OS},look R (aZ g)=ae r0->k (E (xN (kk K (aZ g))) (xN r0)) B0=o->fv (fC (cg (dV 6) (dV 5)) (fP 2 (fr (fe 7) (fr (fe 8) fR)))) k (E ag ag) B0=o:=λ{r0} _ _ c q=>qG (mL (e:=dP) (L:=aK K R) (l:=aZ g) (v:=(kk K (aZ g),r0)) zc zc (lM vj) (by rw[lN,c];rfl)) zc q;have dk:∀ {r0:Int}{x7:Option W}{B:List Bx},fN (fc (dV 3) (fc (dV 8) fg)) (E x7 (xN r0)) B=.val (.d (dP (aJ g,r0))) B:=λ{r0 _ _}=>gk [.int (aJ g),.int r0] zc zk;cases g with
 |aF h' l k r p w=>
   have t1:=fZ (DI (e:=enc) (L:=ca) (k:=dV 5) (m:=bV (dV 1) "came") (env:=E ag ag) (bx:=B0) (l:=l) af zc (lc zc Ko) (lM YT));rw[JQ Q.keys]at t1;have t2:=Wf (rs:=rs) (ks:=ks) (ps:=ps) (hd:=hd) (bx:=bx) (B:=B0) (env:=E ag ag) (mk:=d2 af ax (dV 2) zp) (mr:=d2 af ax (dV 2) (dC (.int 4))) (k:=k) (r:=r) J hn vj zc zc zc zc;cases c:(look K l).isSome with
   |true=>show no _ (by erw[word,c,if_true]) ze (pf (gM ((iI (tw "in" ag ag _)).trans (qR (t1.trans (congrArg (O.val · B0) c)) zc))))
   |false=>
     have t1:=t1.trans (congrArg (O.val · B0) c);have hl:look K l=ag:=by cases q:look K l with|none=>rfl|some v=>rw[q]at c;cases c
     cases cc:k6 ps K R k r with
     |true=>show no "apart" (by simp[word,c,cc]) ze (pf (gM ((iI (tw "in" ag ag _)).trans (qF t1 (qR (t2.trans (congrArg (O.val · B0) cc)) zc)))))
     |false=>
       have p1:=Cz (e:=enc) (L:=ca) (x:=.aF h' l k r p w) (v:=dV 2) (m:=bV (dV 1) "came") (k:=dV 5) (env:=E ag ag) (B:=B0) zc (lc zc Ko) zc YT zd;rw[YW]at p1;have p2:=Cz (e:=dP) (L:=aK K R) (x:=(k,r)) (v:=fN (fc (d2 af ax (dV 2) zp) (fc (d2 af ax (dV 2) (dC (.int 4))) fg))) (m:=dV 6) (k:=dV 5) (env:=E ag ag) (B:=Bl bx (aK K R) (put ca l zV) go dr av wd) (gk [.int k,.int r] zc zk) zc zc vj (by unfold aK;rw[a6];have:=J.lr;lia);rw[show aZ zV=l from rfl,P5 J hl,YV]at p2;let#[cy,ld,o1,p3]:=Rn (go:=go) (ca:=put ca l zV) (dr:=dr) (av:=av) (wd:=wd) (th:=aK (put K l k) (put R l r)) (mk:=fN (fc (dV 3) (fc (d2 af ax (dV 2) (dC (.int 4))) fg))) (a:=h') (b:=r) (env:=E ag ag) zc (λ_=>gk [.int h',.int r] zc zk) zd;refine ys (by simp[word,c,cc]) go cy (pf (gM ((iI (tw "in" ag ag _)).trans (qF t1 (qF (t2.trans (congrArg (O.val · B0) cc)) ((fu p1).trans ((fu p2).trans ((fu p3).trans zc)))))))) ?_ ?_
       .have:=ou ca l zV;show#[by change vm (put ca l zV)=_;rw[UN,Q.k];rfl,λq m=>(oz m).elim (λz=>by rw[z.2];rfl) (Q.i q),by change (put ca l zV).length<=_;lia,by lia,by lia]
       .have hR:look R l=ag:=by
         cases q:look R l with
         |none=>rfl
         |some v=>let#[x,mx,ex]:=oU q;have:=J.sub x mx;rw[ex,hl]at this;cases this
        rw[show rV R zV=[(h',r)] by simp[rV,yq,aZ,aJ,hR]];show o1
 |to h' l r=>
   have ti:∀ {k:aB}{o:OS}{a:aB},k (E ag ag) B0=o->fv (aM zU a aV) k (E ag ag) B0=o:=λq=>qF ((tw "in" ag ag B0).trans (congrArg (O.val · B0) (decide_eq_false (show ¬ ("to":Str)="in" by rw[FE];show id)))) q;cases c:look R l with
   |none=>show no "none" (by erw[word,c]) ze (pf (ti (qR (ni.trans (by rw[show look R (aZ zaU)=ag from c];rfl)) zc)))
   |some r0=>
     have ni:dB (c8 ah (dV 5) (dV 6)) (E ag ag) B0=.val af B0:=ni.trans (by rw[show look R (aZ zaU)=ae r0 from c];rfl);have to:∀ {a b:aB}{x7 x8:Option W},aM (dB (d2 af aT (dV 4) (dC (.str "out")))) a b (E x7 x8) B0=b (E x7 x8) B0:=gx ((tw "out" _ _ B0).trans (congrArg (O.val · B0) (decide_eq_false (show ¬ ("to":Str)="out" by rw[PU];show id))));have ts:dB (d2 af aT (dV 8) (d2 af ax (dV 2) zp)) (E (xN (kk K l)) (xN r0)) B0=.val (decide (r0=r)) B0:=
      fZ (fE (r:=.old (.bl (decide (r0=r)))) (x:=.int r0) (y:=.int r) zc zc (by simp[aT]))
     by_cases d:r0=r
     .show no "same" (by erw[word,c,if_pos d]) ze (pf (ti (qF ni (g2 c (gM (to.trans ((iI (ts.trans (congrArg (O.val · B0) (decide_eq_true d)))).trans zc)))))))
     .have ts:=ts.trans (congrArg (O.val · B0) (decide_eq_false d));have tc:=Wg (rs:=rs) (ks:=ks) (ps:=ps) (hd:=hd) (bx:=bx) (B:=B0) (env:=E (xN (kk K l)) (xN r0)) (mk:=dV 7) (mr:=d2 af ax (dV 2) zp) (k:=kk K l) (r:=r) (l:=l) (r0:=r0) J hn vj zc zc zc zc zc c d;cases cc:k6 ps K R (kk K l) r with
      |true=>show no "apart" (by simp[word,c,d,cc]) ze (pf (ti (qF ni (g2 c (gM (to.trans ((gx ts).trans ((iI (tc.trans (congrArg (O.val · B0) cc))).trans zc))))))))
      |false=>
        have p2:=Cz (e:=dP) (L:=aK K R) (x:=(kk K l,r)) (v:=fN (fc (dV 7) (fc (d2 af ax (dV 2) zp) fg))) (m:=dV 6) (k:=dV 5) (env:=E (xN (kk K l)) (xN r0)) (B:=B0) (gk [.int (kk K l),.int r] zc zk) zc zc vj (by unfold aK;rw[a6];have:=J.lr;lia);rw[show aZ zaU=l from rfl,GH,YV]at p2;let#[d1,l1,o1,p3]:=Rn (go:=go) (ca:=ca) (dr:=dr) (av:=av) (wd:=wd) (th:=aK K (put R l r)) (mk:=fN (fc (dV 3) (fc (d2 af ax (dV 2) zp) fg))) (a:=h') (b:=r) (env:=E (xN (kk K l)) (xN r0)) zc (λ_=>gk [.int h',.int r] zc zk) zd;let#[Yj,l2,o2,p4]:=Rn (go:=go) (ca:=ca) (dr:=d1) (av:=av) (wd:=wd) (th:=aK K (put R l r)) (env:=E (xN (kk K l)) (xN r0)) zc (λ_=>dk) zd;refine ys (by simp[word,c,d,cc]) go Yj (pf (ti (qF ni (g2 c ((fu (to.trans ((gx ts).trans ((gx (tc.trans (congrArg (O.val · B0) cc))).trans ((fu p2).trans p3))))).trans ((fu p4).trans zc)))))) #[Q.k,Q.i,by change ca.length<=_;lia,by lia,by lia] ?_;rw[show rV R zaU=[(h',r)]++[(h',r0)] by simp[rV,yq,aZ,aJ,c]];show o1.trans o2
 |out h' l=>
   have ti:∀ {k:aB}{o:OS}{a:aB},k (E ag ag) B0=o->fv (aM zU a aV) k (E ag ag) B0=o:=λq=>qF ((tw "in" ag ag B0).trans (congrArg (O.val · B0) (decide_eq_false (show ¬ ("out":Str)="in" by rw[JP];show id)))) q;cases c:look R l with
   |none=>show no "none" (by erw[word,c]) ze (pf (ti (qR (ni.trans (by rw[show look R (aZ (.out h' l))=ag from c];rfl)) zc)))
   |some r0=>
     have ff:((aK K R).find? λp=>decide (p.1=l)).map (·.2)=ae (kk K l,r0):=by rw[lN,c];rfl
     have p1:=UM (e:=dP) (L:=aK K R) (m:=dV 6) (k:=dV 5) (env:=E (xN (kk K l)) (xN r0)) (B:=B0) (l:=l) zc zc vj ff;rw[P4,YV]at p1;have p2:=Cz (e:=D.int) (L:=go) (x:=h') (v:=dV 3) (m:=bV (dV 1) "gone") (k:=dV 5) (env:=E (xN (kk K l)) (xN r0)) (B:=Bl bx (aK K (pX R l)) ca go dr av wd) zc (lc zc aic) zc ah9 zd;rw[show aZ (.out h' l)=l from rfl,sD]at p2;let#[d1,l1,o1,p3]:=Rn (go:=put go l h') (ca:=ca) (dr:=dr) (av:=av) (wd:=wd) (th:=aK K (pX R l)) (env:=E (xN (kk K l)) (xN r0)) zc (λ_=>dk) zd;have:=ou go l h';refine ys (by erw[word,c]) (put go l h') d1 (pf (ti (qF (ni.trans (by rw[show look R (aZ (.out h' l))=ae r0 from c];rfl)) (g2 c ((fu ((iI (tw "out" _ _ _)).trans ((fu (ij p1)).trans p2))).trans ((fu p3).trans zc)))))) #[Q.k,Q.i,by change ca.length<=_;lia,by lia,by lia] ?_;rw[show rV R (.out h' l)=[(h',r0)] by simp[rV,yq,aZ,aJ,c]];show o1
theorem Wk (h:Hs rs ks ps hd) (J:dF K R n) (hn:n<=100) {m:Nat}(Q:Lb K ca go dr m) (hm:m<=100) (g:Pg) :
 ∃ go' cy,gF [.d za,.m (ml bx.length),.d (enc g)] (Bl bx (aK K R) ca go dr av wd)=.val zae (Bl bx zP (p6 ps K R ca g) go' cy av wd) /\ Lb zR (p6 ps K R ca g) go' cy (m+1) /\ rW dr cy (EV ps K R g):=by
 let#[go',cy,e,q]:=aii (bx:=bx) (av:=av) (wd:=wd) h J hn Q hm g;show#[go',cy,BQ e (by rw[M7,M7];show aD _),q]
end
def nE (ps:Al):Al->Al->List (Int×Pg)->List Pg->List (Int×Pg)
 |_,_,ca,[]=>ca
 |K,R,ca,g::gs=>nE ps zR zW (p6 ps K R ca g) gs
theorem Nk {ps K R:Al}{g:Pg}:ops ps K R (g::gs)=EV ps K R g++ops ps zR zW gs:=by
 by_cases c:word ps K R g="takes"
 .rw[(gu c).1,(gu c).2,(iF (ca:=[]) c).2];show if_pos c
 .rw[(iJ c).1,(iJ c).2,(oV (ca:=[]) c).2];show if_neg c
theorem Bi {ps K R:Al}{g:Pg}:taken ps K R (g::gs)=(if word ps K R g="takes" then [g] else [])++taken ps zR zW gs:=by
 by_cases c:word ps K R g="takes"
 .rw[(gu c).1,(gu c).2,if_pos c];show if_pos c
 .rw[(iJ c).1,(iJ c).2,if_neg c];show if_neg c
abbrev e9 (l:Int) (g:Pg):Bool:=isIn g&&decide (aZ g=l)
theorem Nl {l l':Int}{g:Pg}(h:(ca.any λq=>decide (q.1=l))=af):((put ca l g).find? λq=>decide (q.1=l')).map (·.2)=if l=l' then ae g else (ca.find? λq=>decide (q.1=l')).map (·.2):=by
 unfold put;rw[h];erw[yI,if_false];rw[Hz];by_cases e:l=l'
 .subst e;have:ca.find? (λq=>decide (q.1=l))=ag:=by
   rw[abt];intro q m;rw[Hi]at h;show h q m
  rw[this,if_pos rfl];simp
 .rw[if_neg e];simp[e]
theorem UY {ps:Al}{l:Int}:∀ {gs:List Pg}{K R:Al}{ca:List (Int×Pg)},ca.map (·.1)=K.map (·.1)->((nE ps K R ca gs).find? λq=>decide (q.1=l)).map (·.2)=((ca.find? λq=>decide (q.1=l)).map (·.2)).or ((taken ps K R gs).find? (e9 l)):=by
 intro l_;induction l_ with
 |nil=>
   intro K R ca _;change _=Option.or _ ag;rw[Option.or_none];rfl
 |cons g gs az=>
   intro K R ca hk;rw[Bi];change ((nE ps zR zW (p6 ps K R ca g) gs).find? λq=>decide (q.1=l)).map (·.2)=_;by_cases c:word ps K R g="takes"
   .rw[if_pos c];cases g with
    |aF h' l' k r p w=>
      have nk:(look K l').isSome=af:=by
       cases q:(look K l').isSome with
       |false=>rfl
       |true=>rw[show word ps K R (.aF h' l' k r p w)="there" by erw[word,q,if_true]]at c;show absurd c ze
      have na:(K.any λq=>decide (q.1=l'))=af:=by
       cases q:K.any λq=>decide (q.1=l') with
       |false=>rfl
       |true=>
         let#[x,mx,ex]:=kM.mp q;have:=lW.mpr #[x,mx,of_decide_eq_true ex];rw[this]at nk;cases nk
      have YY:(ca.any λq=>decide (q.1=l'))=af:=by rw[lO hk];show na
      rw[az (by rw[(gu c).1,(iF (ca:=ca) c).1];show M6 hk _ _ _),(iF (ca:=ca) c).1];rw[show stC ca (.aF h' l' k r p w)=put ca l' (.aF h' l' k r p w) from rfl,Nl YY,Hz];by_cases e:l'=l
      .subst e;have f0:ca.find? (λq=>decide (q.1=l'))=ag:=by
        rw[abt];intro q m;rw[Hi]at YY;show YY q m
       rw[if_pos rfl,f0];simp[e9,isIn,aZ]
      .rw[if_neg e];simp[e9,isIn,aZ,e]
    |to h' l' r=>
      rw[az (by rw[(gu c).1,(iF (ca:=ca) c).1];show hk),(iF (ca:=ca) c).1];rfl
    |out h' l'=>
      rw[az (by rw[(gu c).1,(iF (ca:=ca) c).1];show hk),(iF (ca:=ca) c).1];rfl
   .rw[if_neg c,az (by rw[(iJ c).1,(oV (ca:=ca) c).1];show hk),(oV (ca:=ca) c).1];rfl
section
variable {P:D} 
theorem Ro (h:Hs rs ks ps hd):∀ (gs:List Pg) (K R:Al) (ca:List (Int×Pg)) (go:Al) (dr:List zaJ) (av wd:List D) (n m:Nat) (x3:Option W),dF K R n->Lb K ca go dr m->n+gs.length<=100->m+gs.length<=100->av.length+gs.length<=100->wd.length+gs.length<=100 ->
 ∃ R' go' cy y3,bT (fe 3) aen ((gs.map enc).map W.d) [ae (.d za),ae (.d P),ae zac,x3] (Bl bx (aK K R) ca go dr av wd)=.nx [ae (.d za),ae (.d P),ae zac,y3] (Bl bx (aK (wF ps K R gs) R') (nE ps K R ca gs) go' cy (av++rT ps K R gs) (wd++(gs.zip (wordsOf ps K R gs)).map wD)) /\ Lb (wF ps K R gs) (nE ps K R ca gs) go' cy (m+gs.length) /\ rW dr cy (ops ps K R gs):=by
 intro l_;induction l_ with
 |nil=>show λK R ca go dr av wd n m x3 _ Q _ _ _ _=>#[R,go,dr,x3,by simp[bT,rT,wF,nE],Q,.refl]
 |cons g gs az=>
   intro K R ca go dr av wd n m x3 J Q hn hm ha hw;have z:sizeLine=16777216:=br;rw[bw]at hn hm ha hw;let#[EW,EX,e,Q1,O1]:=a9.Wk (bx:=bx) (av:=av) (wd:=wd) h J zd Q zd g;have a:=BR (m:=bV (dV 2) "words") (k:=fN (fc (dV 3) (fc (fq aH.gF 3 (fc (dV 0) (fc (dV 2) zaK))) fg))) (env:=[ae (.d za),ae (.d P),ae zac,ae zt]) (bx:=Bl bx (aK K R) ca go dr av wd) (i:=bx.length+5) (d:=wD (g,word ps K R g)) (lc zc aid) aeg (gk [enc g,.str (word ps K R g)] (fj zc (fj (fF (l:=[.d za,.m (ml bx.length),.d (enc g)]) zc zc e) zc)) zk) aeg zd;rw[aH.adX]at a;have dc:wz af (bV (dV 2) "there") [ae (.d za),ae (.d P),ae zac,ae zt] (Bl bx zP (p6 ps K R ca g) EW EX av (wd++[wD (g,word ps K R g)]))=.val (.d (.aA (aW dP zP))) (Bl bx zP (p6 ps K R ca g) EW EX av (wd++[wD (g,word ps K R g)])):=by
    unfold wz;rw[lc rfl aeh,fM,lM vj];rfl
   have b:=BR (m:=bV (dV 2) "at") (k:=fN (fc (d2 af ax (dV 3) zj) (fc (wz af (bV (dV 2) "there")) fg))) (env:=[ae (.d za),ae (.d P),ae zac,ae zt]) (bx:=Bl bx zP (p6 ps K R ca g) EW EX av (wd++[wD (g,word ps K R g)])) (i:=bx.length+4) (d:=.tup [.int (aJ g),.aA (aW dP zP)]) (lc zc aej) YU (gk [.int (aJ g),.aA (aW dP zP)] (fj (UO g zc) (fj dc zc)) zk) YU zd;rw[aH.aib]at b;have bd:aen [ae (.d za),ae (.d P),ae zac,ae zt] (Bl bx (aK K R) ca go dr av wd)=.nx [ae (.d za),ae (.d P),ae zac,ae zt] (Bl bx zP (p6 ps K R ca g) EW EX (av++[.tup [.int (aJ g),.aA (aW dP zP)]]) (wd++[wD (g,word ps K R g)])):=(fu (ij a)).trans (ij b);have g1:fe 3 (W.d (enc g)) [ae (.d za),ae (.d P),ae zac,x3] (Bl bx (aK K R) ca go dr av wd)=ae ([ae (.d za),ae (.d P),ae zac,ae zt],Bl bx (aK K R) ca go dr av wd):=rfl;let#[R',go',cy,y3,e2,Q2,O2]:=az zR zW (p6 ps K R ca g) EW EX (av++[.tup [.int (aJ g),.aA (aW dP zP)]]) (wd++[wD (g,word ps K R g)]) (n+1) (m+1) (ae zt) (J.nx g) Q1 zd zd zk zk;refine#[R',go',cy,y3,?_,by rw[bw,show m+(gs.length+1)=m+1+gs.length by lia];show Q2,by rw[Nk];show O1.trans O2];rw[aO,aO,io g1 bd,e2,FG,vD,aO,se,se];rfl
theorem Rp (h:Hs rs ks ps hd) (hl:qs.length<=16) (so:dQ [.lst (gs.map enc)]=ae (.lst (qs.map enc))) :
 ∃ th go dr,jo [.d za,.d zo] bx=.val zac (Bl bx th (nE ps [] [] [] qs) go dr (rT ps [] [] qs) (EU ps qs)) /\ Lb (wF ps [] [] qs) (nE ps [] [] [] qs) go dr (0+qs.length) /\ ∀ q:Int×Int,(eZ dr (k2 q)).isSome=decide (q∈ops ps [] [] qs):=by
 let#[R',go',cy,y3,e,QQ,OO]:=Ro (P:=.lst (gs.map enc)) (bx:=bx) h qs [] [] [] [] [] [] [] 0 0 ag YS #[rfl,(λ_ m=>nomatch m),aD _,aD _,aD _] zd zd zk zk;refine#[aK (wF ps [] [] qs) R',go',cy,?_,QQ,λq=>by rw[OO q];rfl];have b0:ym [("there",1),("came",1),("gone",1),("doors",2),("at",0),("words",0)] [ae (.d za),ae (.d zo),ag,ag] bx=.val zac (Bl bx (aK [] []) [] [] [] [] []):=by
  unfold ym;rw[if_pos #[by decide,by decide]];rfl
 have it:bD (dN af dQ zF) [ae (.d za),ae (.d zo),ae zac,ag] (Bl bx (aK [] []) [] [] [] [] [])=.val ((qs.map enc).map W.d) (Bl bx (aK [] []) [] [] [] [] []):=
  gn (jb (r:=.lst (qs.map enc)) [.lst (gs.map enc)] (fj zc zc) so)
 have b:mF [ae (.d za),ae (.d zo),ag,ag] bx=.rt zac (Bl bx (aK (wF ps [] [] qs) R') (nE ps [] [] [] qs) go' cy (rT ps [] [] qs) (EU ps qs)):=by
  refine(fu (f9 b0)).trans ((fu ((im it).trans e)).trans ?_);rw[kL,kL];rfl
 change pd bx.length (n9 (aQ mF [ae (.d za),ae (.d zo),ag,ag] bx))=_;unfold aQ;rw[b];rfl
end
open kB bP
noncomputable abbrev oI:Option Int->D
 |none=>.non
 |some r=>.int r
noncomputable def dR:Pg->Option Int
 |.aF _ _ _ r _ _=>ae r
 |.to _ _ r=>ae r
 |.out ..=>ag
theorem Wl (g:Pg):dG g=oI (dR g):=by cases g<;>rfl
theorem Wm (R:Al) (g:Pg):yt R g=oI (look R (aZ g)):=by unfold yt;cases look R (aZ g)<;>rfl
theorem Wn (a b:Int):Ka (.int a) (.int b)=decide (a=b):=by rw[k9];simp[Ka,wm,sJ]
theorem Wo (b:Int):Ka .non (.int b)=af:=rfl
theorem UZ (r:Int) (a b:Option Int):inD af (.int r) (.tup [oI a,oI b])=ae (.old (.bl (decide (a=ae r \/ b=ae r)))):=by
 cases a<;>cases b<;>simp[inD,kY,kZ,oI,Wn,Wo]
abbrev cL (q:Pg×Option Int):D:=.tup [enc q.1,oI q.2,oI (dR q.1)]
def dS (ps:Al):Al->Al->List Pg->List (Pg×Option Int)
 |_,_,[]=>[]
 |K,R,g::gs=>if word ps K R g="takes" then (g,look R (aZ g))::dS ps (stK K g) (nD R g) gs else dS ps K R gs
theorem Su {ps:Al}:∀ {gs:List Pg}{K R:Al},(tm ps K R gs).map qH=(dS ps K R gs).map cL:=by
 intro l_;induction l_ with
 |nil=>(intro _ _;show rfl)
 |cons g gs az=>
   intro K R;unfold tm dS;split
   .rw[aO,aO,az];change D.tup [enc g,yt R g,dG g]::_=D.tup [enc g,oI (look R (aZ g)),oI (dR g)]::_;rw[Wm,Wl]
   .show az
theorem BX {ps:Al}:∀ {gs:List Pg}{K R:Al},(dS ps K R gs).map (·.1)=taken ps K R gs:=by
 intro l_;induction l_ with
 |nil=>(intro _ _;show rfl)
 |cons g gs az=>
   intro K R;unfold dS taken;split
   .rw[aO,az]
   .show az
theorem CB {ps:Al}:∀ {gs:List Pg}{K R:Al},(dS ps K R gs).length<=gs.length:=by
 intro l_;induction l_ with
 |nil=>(intro _ _;show aD _)
 |cons g gs az=>
   intro K R;unfold dS;split
   .rw[bw,bw];show aaZ az
   .rw[bw];show Hg az
theorem Rq {ps:Al}{h r:Int}:∀ {gs:List Pg}{K R:Al},((dS ps K R gs).any λq=>decide (aJ q.1=h)&&decide (q.2=ae r \/ dR q.1=ae r))=decide ((h,r)∈ops ps K R gs):=by
 intro l_;induction l_ with
 |nil=>(intro _ _;show rfl)
 |cons g gs az=>
   intro K R;unfold dS ops;split
   .rw[qi,az,k9];erw[wZ,aG,decide_eq_true_eq,nT];refine or_congr ?_ Iff.rfl;unfold rV;rw[bA];constructor
    .rintro⟨rfl,e|e⟩
     .show#[r,by rw[e];simp,rfl]
     .show#[r,qM _ (by cases g<;>simp_all[dR,yq]),rfl]
    .rintro⟨x,m,e⟩;let#[rfl,rfl]:=Prod.mk.inj e;refine#[rfl,?_];rcases nT.mp m with m|m
     .show .inr (by cases g<;>simp_all[dR,yq])
     .show .inl (by simpa using m)
   .show az
section
variable {S:List (Pg × Option Int)}
theorem wH (g:Pg) {i:Nat}(h:env[i]?=ae (ae zt)):d2 af ax (dV i) zj env B=.val (.d (.int (aJ g))) B:=
 fE (x:=enc g) (y:=.int 0) (r:=.old (.int (aJ g))) (by rw[Ak,h]) zc (by cases g<;>rfl)
theorem Nm (g:Pg) {i:Nat}(h:env[i]?=ae (ae zt)):d2 af ax (dV i) zr env B=.val (.d (.int (aZ g))) B:=
 fE (x:=enc g) (y:=.int 2) (r:=.old (.int (aZ g))) (by rw[Ak,h]) zc (by cases g<;>rfl)
theorem Wp (g:Pg) {i:Nat}(h:env[i]?=ae (ae zt)) (w:Str):dB (d2 af aT (d2 af ax (dV i) zf) (dC (.str w))) env B=.val (decide (bK g=w)) B:=
 fZ (fE (x:=.str (bK g)) (y:=.str w) (r:=.old (.bl (decide (bK g=w)))) (fE (x:=enc g) (y:=.int 1) (r:=.old (.str (bK g))) (by rw[Ak,h]) zc (by cases g<;>rfl)) zc (eq_str _ _))
theorem Nn (hl:S.length<=16) (r h:Int):iV [.d zau,.d (.int r),.d (.int h)] bx=.val (.d (.bl (S.any λq=>decide (aJ q.1=h)&&decide (q.2=ae r \/ dR q.1=ae r)))) bx:=by
 have z:sizeLine=16777216:=br;refine fT (fV (jb (r:=.old (.bl _)) [.lst ((S.filter λ_=>ah).map λq=>D.bl (decide (aJ q.1=h)&&decide (q.2=ae r \/ dR q.1=ae r)))] (fj (gD (gn zc) zc ?_) zc) ?_))
 .refine sZ (E:=λq=>[ae (.d (enc q.1)),ae (.d (oI q.2)),ae za4,xN r,xN h]) (J:=λenv=>∃ a b c,env=[a,b,c,xN r,xN h]) (λ_=>ah) (λq=>D.bl (decide (aJ q.1=h)&&decide (q.2=ae r \/ dR q.1=ae r))) (λq=>#[_,_,_,rfl]) S _ [] zk #[_,_,_,rfl] (λq _ env ⟨a,b,c,e⟩=>by subst e;rfl) λq _=>#[rfl,λ_=>?_];have t1:d2 af aT zaC (dV 4) [ae (.d (enc q.1)),ae (.d (oI q.2)),ae za4,xN r,xN h] bx=.val (.d (.bl (decide (aJ q.1=h)))) bx:=fE (x:=.int (aJ q.1)) (y:=.int h) (r:=.old (.bl (decide (aJ q.1=h)))) (wH q.1 zc) zc (by simp[aT]);cases c:decide (aJ q.1=h) with
  |false=>rw[c]at t1;show UB t1
  |true=>
    rw[c]at t1;show gU t1 (fE (x:=.int r) (y:=.tup [oI q.2,oI (dR q.1)]) zc (gk [oI q.2,oI (dR q.1)] zc zk) (UZ _ _ _))
 .rw[List.filter_eq_self.mpr λ_ _=>rfl];simp[EH,BV,yK]
theorem No (hl:S.length<=16) (l:Int):gK [.d zau,.d (.int l)] bx=.val (.d (match (S.map (·.1)).find? (e9 l) with|some g=>enc g|none=>.non)) bx:=by
 have go:∀ (T:List (Pg×Option Int)) (w2 w3 w4:Option W),(fv (λenv bx=>bT (fP 3 (fr (fe 2) zaR)) (aM zaH (fG (dV 2)) aV) ((T.map cL).map W.d) env bx) (fG (dC .non))) [ae zao,xN l,w2,w3,w4] bx=.rt (.d (match (T.map (·.1)).find? (e9 l) with|some g=>enc g|none=>.non)) bx:=by
  intro T;induction T with
  |nil=>intro w2 w3 w4;rfl
  |cons q T ih=>
    intro w2 w3 w4;have g0:fP 3 (fr (fe 2) zaR) (.d (cL q)) [ae zao,xN l,w2,w3,w4] bx=ae ([ae zao,xN l,ae (.d (enc q.1)),ae (.d (oI q.2)),ae za4],bx):=rfl;have t:kG (dB (d2 af aT (d2 af ax (dV 2) zf) (dC (.str "in")))) (dB (d2 af aT (d2 af ax (dV 2) zr) (dV 1))) [ae zao,xN l,ae (.d (enc q.1)),ae (.d (oI q.2)),ae za4] bx=.val (e9 l q.1) bx:=by
     have a:=Wp q.1 (env:=[ae zao,xN l,ae (.d (enc q.1)),ae (.d (oI q.2)),ae za4]) (B:=bx) (i:=2) zc "in";have b:dB (d2 af aT (d2 af ax (dV 2) zr) (dV 1)) [ae zao,xN l,ae (.d (enc q.1)),ae (.d (oI q.2)),ae za4] bx=.val (decide (aZ q.1=l)) bx:=fZ (fE (x:=.int (aZ q.1)) (y:=.int l) (r:=.old (.bl (decide (aZ q.1=l)))) (Nm q.1 zc) zc (by simp[aT]));have w:decide (bK q.1="in")=isIn q.1:=by cases q.1<;>rfl
     rw[w]at a;unfold e9;cases c:isIn q.1 with
     |false=>rw[c]at a;show oR a
     |true=>rw[c]at a;show oS a b
    rw[aO,aO,aO,ng];cases c:e9 l q.1 with
    |true=>
      rw[c]at t;show gM (MI g0 ((iI t).trans zc))
    |false=>
      rw[c]at t;have e:=ih (ae (.d (enc q.1))) (ae (.d (oI q.2))) (ae za4);have bd:aM zaH (fG (dV 2)) aV [ae zao,xN l,ae (.d (enc q.1)),ae (.d (oI q.2)),ae za4] bx=.nx [ae zao,xN l,ae (.d (enc q.1)),ae (.d (oI q.2)),ae za4] bx:=(gx t).trans zc;rw[lI]at e ⊢;rw[io g0 bd];show e
 refine fT ?_;have:=go S ag ag ag;rw[lI]at this;change fv (gZ (bD (dV 0)) _ _) _ _ _=_;rw[lI,im (gn rfl)];show this
end
noncomputable abbrev tu (q:Int×List Int):D:=.tup [.int q.1,.tup (q.2.map D.int)]
structure Hk (rs ks:List D) (ps:Al) (hd:D) (rl:List Int) (hold:Int) (kl:List (Int×List Int)):zu where
 H:Hs rs ks ps hd
 er:rs=rl.map D.int
 eh:hd=.int hold
 ek:ks=kl.map tu
 r:∀ c∈rl,0<=c /\ c<=3
 h:1<=hold /\ hold<=9
 k:∀ q∈kl,1<=q.1 /\ q.1<=999 /\ q.2.length=4 /\ ∀ x∈q.2,0<=x /\ x<=9
theorem Rr {d:D}(h:kind d=ah):∃ q:Int×List Int,d=tu q /\ 1<=q.1 /\ q.1<=999 /\ q.2.length=4 /\ ∀ x∈q.2,0<=x /\ x<=9:=by
 unfold kind at h;split at h
 .ext l;rw[aG]at h;let#[_,h]:=h;split at h
  .ext a b;rw[aG]at h;let#[h1,h2]:=h;let#[i,rfl,i1,i2]:=mI h1;unfold yp at h2;split at h2
   .ext m;erw[aG]at h2;let#[h3,h4,_]:=h2;let#[rt,rfl]:=DA h4;have n:=lJ h3;rw[a6]at n;refine#[(i,rt),rfl,i1,i2,by change rt.length=4;lia,λx m=>?_];have:=c5.mp h4 (.int x) (uM m);simpa[wi] using this
   .cases h2
  .cases h
 .cases h
theorem Np:∀ {l:List D},l.all kind=ah->∃ kl:List (Int×List Int),l=kl.map tu /\ ∀ q∈kl,1<=q.1 /\ q.1<=999 /\ q.2.length=4 /\ ∀ x∈q.2,0<=x /\ x<=9:=by
 intro l_;induction l_ with
 |nil=>show λ_=>#[[],rfl,λ_ m=>nomatch m]
 |cons d l az=>
   intro h;rw[tK,aG]at h;let#[q,rfl,a]:=Rr h.1;let#[kl,rfl,b]:=az h.2;show#[q::kl,rfl,λx m=>(bz.mp m).elim (λe=>e▸a) (b x)]
theorem Wq {ps:Al}(H:Hs rs ks ps hd):∃ rl hold kl,Hk rs ks ps hd rl hold kl:=by
 have h:=H.hh;erw[house,aG]at h;let#[h1,h2,_,h4]:=h;erw[rooms,aG]at h1;let#[rl,e1]:=DA h1.2;let#[i,e2,i1,i2]:=mI h4;erw[kinds,aG]at h2;let#[kl,e3,k3]:=Np h2.2;refine#[rl,i,kl,H,e1,e2,e3,λc m=>?_,#[i1,i2],k3];have:=c5.mp h1.2 (.int c) (by rw[e1];show uM m);simpa[wi] using this
section
variable {ps op:Al} 
theorem Hk.i (X:Hk rs ks ps hd rl hold kl):YN za rl hold:=by
 have a:=X.H.r1;have b:=X.H.r5;rw[X.er,a6]at a b;show#[#[_,_,by rw[X.er,X.eh]],X.r,#[a,b],X.h]
theorem Wr {l:List Int}{i:Int}(h0:0<=i) (h1:i<l.length):ax (.tup (l.map D.int)) (.int i)=ae (.old (.int (l.getD i.toNat 0))):=by
 have e:bu (l.map D.int) ((i.toNat:Nat):Int)=ae (.int (l.getD i.toNat 0)):=B5 (by rw[kK,yL,dq zd];rfl);rw[show ((i.toNat:Nat):Int)=i by lia]at e;change (bu (l.map D.int) i).map Res.old=_;rw[e];rfl
theorem Sv (X:Hk rs ks ps hd rl hold kl) {k:Int}(h0:0<=k) (hq:kl[k.toNat]?=ae q):ax (.tup ks) (.int k)=ae (.old (tu q)):=by
 have e:bu ks ((k.toNat:Nat):Int)=ae (tu q):=B5 (by rw[X.ek,kK,hq];rfl);rw[show ((k.toNat:Nat):Int)=k by lia]at e;change (bu ks k).map Res.old=_;rw[e];rfl
theorem C6 {e:α->D}{L:List (Int×α)}{k:DE W}{l:Int}(neg:Bool) (hk:k env bx=.val (.d (.int l)) bx) (hm:m env bx=.val (.d (.aA (aW e L))) bx) :
 c8 neg k m env bx=.val (.d (.bl (if neg then !((L.find? λq=>decide (q.1=l)).map (·.2)).isSome else ((L.find? λq=>decide (q.1=l)).map (·.2)).isSome))) bx:=by
 unfold c8;rw[hk,fM,hm,fM];change (match nz (.int l) with|some k=>O.val (W.d (.bl (if neg then !(c7 (aW e L) k).isSome else (c7 (aW e L) k).isSome))) bx|none=>.bad)=_;change O.val (W.d (.bl (if neg then !(c7 (aW e L) (.inl l)).isSome else (c7 (aW e L) (.inl l)).isSome))) bx=_;rw[j8,pK]
theorem Cc {e:α->D}{L:List (Int×α)}{k:DE W}{l:Int}{v:α}(hk:k env bx=.val (.d (.int l)) bx) (hm:m env bx=.val (.d (.aA (aW e L))) bx) (hf:(L.find? λq=>decide (q.1=l)).map (·.2)=ae v):cg m k env bx=.val (.d (e v)) bx:=by
 unfold cg;rw[hm,fM,hk,fM];change (match (nz (.int l)).bind (c7 (aW e L)) with|some u=>O.val (W.d u) bx|none=>.bad)=_;change (match c7 (aW e L) (.inl l) with|some u=>O.val (W.d u) bx|none=>.bad)=_;rw[j8,hf];rfl
def Rk (n:Nat) (R:Al):zu:=∀ q∈R,0<=q.2 /\ q.2<(n:Int)
theorem Ws {nr nk:Nat}{ps K R:Al}{g:Pg}(ok:qA nr nk g) (h:Rk nr R):Rk nr zW:=by
 unfold cE;split
 .cases g with
  |aF h' l k r p w=>show λq m=>(oz m).elim (λz=>by rw[z.2];show ok.2.2.2.1) (h q)
  |to h' l r=>show λq m=>(oz m).elim (λz=>by rw[z.2];show ok.2.2) (h q)
  |out h' l=>show λq m=>h q (sk.mp m).1
 .show h
theorem Nq {nr nk:Nat}{ps:Al}{h:Int}:∀ {gs:List Pg}{K R:Al},(∀ g∈gs,qA nr nk g)->Rk nr R->Rk nr (pre h ps K R gs).2:=by
 intro l_;induction l_ with
 |nil=>(intro _ _ _ r;show r)
 |cons g gs az=>
   intro K R o r;unfold pre;split
   .show az (λx m=>o x (bB _ m)) (Ws (o g (bE ..)) r)
   .show r
theorem GK {R:Al}(h:Rk n R) {l r:Int}(e:look R l=ae r):0<=r /\ r<(n:Int):=by
 unfold look at e;let#[q,e1,rfl]:=Option.map_eq_some_iff.mp e;show h q (Hx e1)
theorem Nr (X:Hk rs ks ps hd rl hold kl) (s:qD qs) (ok:∀ g∈qs,qA rs.length ks.length g) (hl:qs.length<=16) {h0 l k r p w:Int}(k0:0<=k) (hq:kl[k.toNat]?=ae q) (h:Int) :
 iW [.d za,.d zm,.d zak,.d (enc zA),.d (.int h)] bx=.val (.d (.int (cP rl hold op q.2 ps qs l h))) bx:=by
 have z:sizeLine=16777216:=br;have sl:=CB (ps:=ps) (gs:=qs) (K:=[]) (R:=[]);have rv:=cT.Rf (bx:=bx) (h:=h) (ps:=ps) (S:=tm ps [] [] qs) s hl JT;rw[Su]at rv;generalize hS:(dS ps [] [] qs)=S at rv sl;have c4:=(X.k q (qN hq)).2.2.1
 let E:=λx5 x6 x7=>([ae (.d za),ae (.d zm),ae zao,ae (.d (enc zA)),xN h,x5,x6,x7]:aP)
 have rk:=Nq (h:=h) (ps:=ps) ok (K:=[]) (R:=[]) (λq m=>nomatch m);have t1:=C6 (bx:=bx) (e:=D.int) (L:=(pre h ps [] [] qs).2) (k:=d2 af ax (dV 3) zr) (m:=dV 5) (env:=(E (ae zaD) ag ag)) (l:=l) ah (Nm zA zc) zc;have g1:=λv=>Cc (bx:=bx) (e:=D.int) (L:=(pre h ps [] [] qs).2) (k:=d2 af ax (dV 3) zr) (m:=dV 5) (env:=(E (ae zaD) ag ag)) (l:=l) (v:=v) (Nm zA zc) zc;refine fT (qS (cV rv) ?_);unfold cP uB
 change c8 ah _ _ _ _=.val (.d (.bl (!(look (pre h ps [] [] qs).2 l).isSome))) bx at t1
 change ∀ v,look (pre h ps [] [] qs).2 l=ae v->_ at g1
 cases c:look (pre h ps [] [] qs).2 l with
 |none=>
   rw[c]at t1;show qR (fZ t1) zc
 |some r'=>
   rw[c]at t1;let#[r0,r1]:=GK rk c;rw[X.er,a6]at r1;refine qF (fZ t1) (qS (g1 r' c) ?_);have cd:=Uz (bx:=bx) (hour:=h) X.i r'.toNat zd op;rw[show ((r'.toNat:Nat):Int)=r' by lia]at cd;have eg:rl[r'.toNat]'(by lia)=rl.getD r'.toNat 0:=by rw[yL,dq zd];rfl
   rw[eg]at cd;have rb:=X.r (rl.getD r'.toNat 0) (by rw[<-eg];show sj _);have lo:=Ba (hold:=hold) (hour:=h) rb.1 op;have hi:=Bb (hour:=h) rb.1 (show 0<hold by have:=X.h;lia) op;refine qS (cV cd) ?_;change fv _ _ (E (ae zaD) (xN r') (xN (dE (rl.getD r'.toNat 0) hold h op))) bx=.rt (.d (.int (q.2.getD (max 0 (dE (rl.getD r'.toNat 0) hold h op-if (h,r')∈ops ps [] [] qs then 1 else 0)).toNat 0))) bx;generalize dE (rl.getD r'.toNat 0) hold h op=cc at *;have o:=Nn (bx:=bx) (S:=S) zd r' h;rw[<-hS,Rq,hS]at o;have t2:dB (fq a9.iV 3 (fc (dV 2) (fc (dV 6) zZ))) (E (ae zaD) (xN r') (xN cc)) bx=.val (decide ((h,r')∈ops ps [] [] qs)) bx:=fZ (cV o);have fin:∀ x:Int,0<=x->x<=3->fG (d2 af ax (d2 af ax (d2 af ax zaL (d2 af ax (dV 3) zp)) zf) (dV 7)) (E (ae zaD) (xN r') (xN x)) bx=.rt (.d (.int (q.2.getD x.toNat 0))) bx:=λx x0 x3=>
    fV (fE (x:=.tup (q.2.map D.int)) (y:=.int x) (r:=.old _) (fE (x:=tu q) (y:=.int 1) (r:=.old (.tup (q.2.map D.int))) (fE (x:=.tup ks) (y:=.int k) (r:=.old (tu q)) (fE (x:=hs rs ks ps hd) (y:=.int 1) (r:=.old (.tup ks)) zc zc zc) (fE (x:=enc zA) (y:=.int 3) (r:=.old (.int k)) zc zc zc) (Sv X k0 hq)) zc zc) zc (Wr x0 zd))
   by_cases d:(h,r')∈ops ps [] [] qs
   .rw[decide_eq_true d]at t2;rw[if_pos d];refine(fu ((iI t2).trans (f9 (jb (r:=.old (.int (max 0 (cc-1)))) [.int 0,.int (cc-1)] (fj zc (fj (fE (x:=.int cc) (y:=.int 1) (r:=.old (.int (cc-1))) zc zc zc) zc)) (GD _))))).trans ?_;show fin (max 0 (cc-1)) zd zd
   .rw[decide_eq_false d]at t2;rw[if_neg d];rw[Int.sub_zero,show max 0 cc=cc by lia];show qF t2 (fin cc lo zd)
end
end a9
namespace tF
open L2 L2.DL bP kB
noncomputable def dd (l:List Int):List Int:=l.foldl nh []
theorem Nt (a:List Int) (i x:Int):x∈nh a i ↔ x∈a \/ x=i:=by
 unfold nh;split
 .ext h;let#[y,m,e]:=kM.mp h;have e':y=i:=by simpa using e
  subst e';show#[.inl,λz=>z.elim id λz=>z▸m]
 .simp
theorem FL {a:List Int}(h:a.Nodup) (i:Int):(nh a i).Nodup:=by
 unfold nh;split
 .show h
 .ext q;rw[vG];refine#[h,by simp,λx hx y hy e=>q ?_];cases kN.mp hy;subst e;show kM.mpr #[x,hx,by simp]
theorem Nu (a:List Int) (i:Int):(nh a i).length<=a.length+1:=by
 unfold nh;split<;>simp
theorem Nv (x:Int):∀ (l a:List Int),x∈l.foldl nh a ↔ x∈a \/ x∈l:=by
 intro l_;induction l_ with
 |nil=>(intro a;simp)
 |cons i l az=>(intro a;rw[HC,az,Nt,bz];show or_assoc)
theorem Bj:∀ (l:List Int) {a:List Int},a.Nodup->(l.foldl nh a).Nodup
 |[],_,h=>h
 |i::l,_,h=>Bj l (FL h i)
theorem Nw:∀ (l a:List Int),(l.foldl nh a).length<=a.length+l.length:=by
 intro l_;induction l_ with
 |nil=>(intro a;simp)
 |cons i l az=>
   intro a;have h1:=az (nh a i);have h2:=Nu a i;rw[HC,bw];lia
theorem U0 {x:Int}{l:List Int}:x∈dd l ↔ x∈l:=by rw[dd,Nv];simp
theorem Nx (l:List Int):(dd l).Nodup:=Bj l abe
theorem U1 (l:List Int):(dd l).length<=l.length:=by have:=Nw l [];rw[dd];simpa using this
theorem lX (l:List Int):HT.dist l=dd l:=by
 unfold HT.dist firstMet dd;congr 1;apply xh;intro j;by_cases h:j<l.length
 .simp[h]
 .simp[h]
theorem JW {x:Int}{l:List Int}:x∈sortI l ↔ x∈l:=(gC l).mem_iff
theorem DW {l:List Int}(h:l.Nodup):(sortI l).Nodup:=(gC l).nodup_iff.mpr h
end tF
namespace a9
open L2 L2.DL K1 K2 kB bP aH cT
noncomputable abbrev wI (hold:Int) (p:Int×Int):List Int:=[p.1,p.2,p.1+1*hold,p.1+2*hold,p.1+3*hold]
section
variable {ps op:Al} 
theorem Ny {k:DE W}{i:Nat}{l r:List D}(h1:m env B=.val (.b i) B) (hb:B[i]?=ae zaZ) (h2:k env B=.val (.d (.lst r)) B) (hl:l.length+r.length<=sizeLine):rN m k env B=.val (.d .non) (B.set i (.lst (l++r))):=by
 unfold rN;rw[h1,fM];erw[hb,h2,fM];show if_pos hl
theorem Kt {x:Bx}:(bx++[x])[bx.length]?=ae x:=by simp
theorem YZ {x y:Bx}:(bx++[x]).set bx.length y=bx++[y]:=by simp
abbrev aij:aB:=zaP
theorem Rs (X:Hk rs ks ps hd rl hold kl) {o w2:Option W}{b e:Int}:fQ af [ag,ae 0,ae 3] (rj (fc zf (fc (d2 af fK zp zf) fg))) (fe 0) fS (d2 af fK (dV 2) (d2 af c6 (dV 0) (d2 af ax (dV 1) zp))) [ae (.d za),o,w2,xN b,xN e] B=.val (.d (.lst ([b+1*hold,b+2*hold,b+3*hold].map D.int))) B:=by
 have z:sizeLine=16777216:=br;have eh:=X.eh;subst eh;refine gD (l:=([1,2,3].map D.int).map W.d) (e2:=[ag,ae (.d (hs rs ks ps (.int hold))),xN b]) (Cj (i:=1) (j:=4) (fj zc (fj (fE (x:=.int 3) (y:=.int 1) (r:=.old (.int 4)) zc zc zc) zc))) zc ?_;refine(sZ (E:=λi:Int=>[xN i,ae (.d (hs rs ks ps (.int hold))),xN b]) (J:=λenv=>∃ a,env=[a,ae (.d (hs rs ks ps (.int hold))),xN b]) (λ_=>ah) (λi:Int=>D.int (b+i*hold)) (λ_=>#[_,rfl]) [1,2,3] _ [] zk #[_,rfl] (λi _ env ⟨a,e⟩=>by subst e;rfl) λi m=>#[rfl,λ_=>?_]).trans ?_
 .refine fE (x:=.int b) (y:=.int (i*hold)) (r:=.old (.int (b+i*hold))) zc (fE (x:=.int i) (y:=.int hold) (r:=.old (.int (i*hold))) zc (fE (x:=hs rs ks ps (.int hold)) (y:=.int 3) (r:=.old (.int hold)) zc zc zc) (if_pos (.inr ?_))) zc;have:=X.h;lia
 .rfl
theorem Rt (X:Hk rs ks ps hd rl hold kl) (o:Option W):∀ (l:Al) (acc:List Int) (w3 w4:Option W),acc.length+l.length*5<=1000->∃ y3 y4,
 bT (fP 2 zaR) aij ((l.map dP).map W.d) [ae (.d za),o,xB bx.length,w3,w4] (bx++[.lst (acc.map D.int)])=.nx [ae (.d za),o,xB bx.length,y3,y4] (bx++[.lst ((acc++(l.map (wI hold)).flatten).map D.int)]):=by
 intro l_;induction l_ with
 |nil=>show λacc w3 w4 _=>#[w3,w4,by simp[bT]]
 |cons p l az=>
   intro acc w3 w4 n;have z:sizeLine=16777216:=br;rw[bw]at n;let#[y3,y4,e]:=az (acc++wI hold p) (xN p.1) (xN p.2) zk;refine#[y3,y4,?_];have g0:fP 2 zaR (.d (dP p)) [ae (.d za),o,xB bx.length,w3,w4] (bx++[.lst (acc.map D.int)])=ae ([ae (.d za),o,xB bx.length,xN p.1,xN p.2],bx++[.lst (acc.map D.int)]):=rfl;have e1:=Ny (m:=dV 2) (k:=gq af (fc (dV 3) zZ)) (env:=[ae (.d za),o,xB bx.length,xN p.1,xN p.2]) (B:=bx++[.lst (acc.map D.int)]) (i:=bx.length) (r:=[.int p.1,.int p.2]) zc Kt (jy [.int p.1,.int p.2] zc zk) zk;rw[YZ]at e1;have e2:=Ny (m:=dV 2) (env:=[ae (.d za),o,xB bx.length,xN p.1,xN p.2]) (B:=bx++[.lst (acc.map D.int++[.int p.1,.int p.2])]) (i:=bx.length) zc Kt (Rs X) zk;rw[YZ]at e2;rw[aO,aO,io g0 ((fu (ij e1)).trans (ij e2))];have:acc.map D.int++[.int p.1,.int p.2]++[p.1+1*hold,p.1+2*hold,p.1+3*hold].map D.int=(acc++wI hold p).map D.int:=by simp
   rw[this,e];simp
theorem Ru (X:Hk rs ks ps hd rl hold kl) (ho:op.length<=4):gR [.d za,.d zm] bx=.val zaM (bx++[.lst (((op.map (wI hold)).flatten).map D.int)]):=by
 let#[y3,y4,e]:=Rt (bx:=bx) X (ae (.d zm)) op [] ag ag zk;have s1:fC (gq ah fg) (fe 2) [ae (.d za),ae (.d zm),ag,ag,ag] bx=.nx [ae (.d za),ae (.d zm),xB bx.length,ag,ag] (bx++[.lst []]):=f9 (oQ [] zc (eS _));have b:ig [ae (.d za),ae (.d zm),ag,ag,ag] bx=.rt zaM (bx++[.lst (((op.map (wI hold)).flatten).map D.int)]):=
  (fu s1).trans ((fu ((im (gQ zc)).trans e)).trans zc)
 change pd bx.length (n9 (aQ ig [ae (.d za),ae (.d zm),ag,ag,ag] bx))=_;unfold aQ;rw[b];rfl
end
abbrev Ku (q:Sx):D:=.tup [.int q.1,oI q.2.1,.int q.2.2]
noncomputable abbrev ends (bs:List Int):List (Option Int):=bs.tail.map ae++[ag]
theorem GL (f:Int->Int):∀ bs:List Int,vn f bs=(bs.zip (ends bs)).map λq=>(q.1,q.2,f q.1)
 |[]=>rfl
 |[b]=>rfl
 | b::c::r=>by
   change (b,ae c,f b)::vn f (c::r)=_;rw[GL f (c::r)];rfl
theorem Sw:∀ (l:List Int) (r:List (Option Int)),eL (l.map D.int) (r.map oI)=((l.zip r).map λq=>D.tup [.int q.1,oI q.2]).map W.d
 |[],_=>by simp[eL]
 |_::_,[]=>by simp[eL]
 | x::l,y::r=>by
   change W.d (.tup [.int x,oI y])::eL (l.map D.int) (r.map oI)=_;rw[Sw l r];rfl
def qI (C:List Int) (h0:Int):List Int:=(sortI (HT.dist C)).filter λh=>decide (h0<=h)
theorem DX (C:List Int) (h0:Int):(qI C h0).Pairwise (·<·):=by
 unfold qI;refine List.Pairwise.filter _ ?_;have nd:(sortI (HT.dist C)).Nodup:=tF.DW (by rw[tF.lX];show tF.Nx C);show(List.pairwise_and_iff.mpr #[iO (HT.dist C),nd]).imp λ{a b} h=>by have:=h.1;have:=h.2;lia
theorem CC {C:List Int}{h0 x:Int}:x∈qI C h0 ↔ x∈C /\ h0<=x:=by
 unfold qI;rw[sk,tF.JW,tF.lX,tF.U0,decide_eq_true_eq]
theorem Nz {C:List Int}{h0:Int}(m:h0∈C):∃ r,qI C h0=h0::r:=by
 have r:=DX C h0;have mh:h0∈qI C h0:=CC.mpr #[m,yN _];cases e:qI C h0 with
 |nil=>rw[e]at mh;cases mh
 |cons b l=>
   rw[e]at r mh;have hb:h0<=b:=(CC.mp (by rw[e];show bE ..)).2;rcases bz.mp mh with rfl|mh
   .show#[l,rfl]
   .have:=(List.pairwise_cons.mp r).1 h0 mh;lia
section
variable {ps op:Al} 
abbrev aik:aB:=(gf (rN (dV 4) (gq af (fc (d2 af ax (dV 5) zj) (fc (d2 af fK (d2 af ax (dV 5) zj) zf) fg)))))
theorem Rv (x0 x1 x2 x3 x8 x9:Option W):∀ (S:List (Pg×Option Int)) (acc:List Int) (w5 w6 w7:Option W),acc.length+S.length*2<=1000->∃ y5 y6 y7,
 bT (fP 3 (fr (fe 5) (fr (fe 6) (fr (fe 7) fR)))) aik ((S.map cL).map W.d) [x0,x1,x2,x3,xB bx.length,w5,w6,w7,x8,x9] (bx++[.lst (acc.map D.int)])=.nx [x0,x1,x2,x3,xB bx.length,y5,y6,y7,x8,x9] (bx++[.lst ((acc++((S.map (·.1)).map λg=>[aJ g,aJ g+1]).flatten).map D.int)]):=by
 intro l_;induction l_ with
 |nil=>show λacc w5 w6 w7 _=>#[w5,w6,w7,by simp[bT]]
 |cons q S az=>
   intro acc w5 w6 w7 n;have z:sizeLine=16777216:=br;rw[bw]at n;let#[y5,y6,y7,e]:=az (acc++[aJ q.1,aJ q.1+1]) (ae (.d (enc q.1))) (ae (.d (oI q.2))) (ae za4) zk;refine#[y5,y6,y7,?_];have g0:fP 3 (fr (fe 5) (fr (fe 6) (fr (fe 7) fR))) (.d (cL q)) [x0,x1,x2,x3,xB bx.length,w5,w6,w7,x8,x9] (bx++[.lst (acc.map D.int)])=ae ([x0,x1,x2,x3,xB bx.length,ae (.d (enc q.1)),ae (.d (oI q.2)),ae za4,x8,x9],bx++[.lst (acc.map D.int)]):=rfl;have e1:=Ny (m:=dV 4) (k:=gq af (fc (d2 af ax (dV 5) zj) (fc (d2 af fK (d2 af ax (dV 5) zj) zf) fg))) (env:=[x0,x1,x2,x3,xB bx.length,ae (.d (enc q.1)),ae (.d (oI q.2)),ae za4,x8,x9]) (B:=bx++[.lst (acc.map D.int)]) (i:=bx.length) (r:=[.int (aJ q.1),.int (aJ q.1+1)]) zc Kt (jy [.int (aJ q.1),.int (aJ q.1+1)] (fj (wH q.1 zc) (fj (fE (x:=.int (aJ q.1)) (y:=.int 1) (r:=.old (.int (aJ q.1+1))) (wH q.1 zc) zc zc) zc)) zk) zk;rw[YZ]at e1;rw[aO,aO,io g0 (ij e1)];have:acc.map D.int++[.int (aJ q.1),.int (aJ q.1+1)]=(acc++[aJ q.1,aJ q.1+1]).map D.int:=by simp
   rw[this,e];simp
theorem Rw {tk:List Pg}(h1:op.length<=4) (h2:tk.length<=16):(chg hold op tk).length<64:=by
 unfold chg;rw[cZ,abu,abu,bO,bO];have a:((op.map (List.length∘λp=>[p.1,p.2,p.1+1*hold,p.1+2*hold,p.1+3*hold]))).sum=op.length*5:=by
  clear h1;induction op with
  |nil=>rfl
  |cons p l ih=>rw[aO,abv,ih,bw];change 5+_=_;lia
 have b:((tk.map (List.length∘λg=>[aJ g,aJ g+1]))).sum=tk.length*2:=by
  clear h2;induction tk with
  |nil=>rfl
  |cons p l ih=>rw[aO,abv,ih,bw];change 2+_=_;lia
 lia
theorem DY (X:Hk rs ks ps hd rl hold kl) (ho:op.length<=4) (s:qD qs) (ok:∀ g∈qs,qA rs.length ks.length g) (hl:qs.length<=16) {h0 l k r p w:Int}(k0:0<=k) (hq:kl[k.toNat]?=ae q) :
 j0 [.d za,.d zm,.d zak,.d (enc zA)] bx=.val (.d (.lst ((vn zaj (qI (chg hold op (taken ps [] [] qs)) h0)).map Ku))) bx:=by
 have z:sizeLine=16777216:=br;have sl:=CB (ps:=ps) (gs:=qs) (K:=[]) (R:=[]);have st:=BX (ps:=ps) (gs:=qs) (K:=[]) (R:=[]);have pv:=λB h=>Nr (bx:=B) (op:=op) X s ok hl (h0:=h0) (l:=l) (k:=k) (r:=r) (p:=p) (w:=w) k0 hq h;generalize (dS ps [] [] qs)=S at sl st pv ⊢;have tl:(taken ps [] [] qs).length<=16:=by rw[<-st,a6];lia
 have cl:=Rw (hold:=hold) ho tl;let#[y5,y6,y7,lp]:=Rv (bx:=bx) (ae (.d za)) (ae (.d zm)) (ae zao) (ae (.d (enc zA))) ag ag S ((op.map (wI hold)).flatten) ag ag ag (by
  have c2:=cl;rw[show chg hold op (taken ps [] [] qs)=(op.map (wI hold)).flatten++((taken ps [] [] qs).map λg=>[aJ g,aJ g+1]).flatten from rfl,cZ]at c2;lia)
 rw[st]at lp
 change _=OS.nx _ (bx++[.lst ((chg hold op (taken ps [] [] qs)).map D.int)]) at lp
 generalize chg hold op (taken ps [] [] qs)=C at *;have dl:=tF.U1 C;have so:∀ {e:aP},e[4]?=ae (xB bx.length)->dN af wu zZ e (bx++[.lst (C.map D.int)])=.val (.d (.lst ((sortI (HT.dist C)).map D.int))) (bx++[.lst (C.map D.int)]):=λh=>by
  rw[Dm,fj (w:=.b bx.length) (l:=[]) (by rw[Ak,h]) rfl,fM,show kr (bx++[.lst (C.map D.int)]) [.b bx.length]=ae [.lst (C.map D.int)] by erw[kr,bY,Kt,cb,nG]];have:wu [.lst (C.map D.int)]=ae (.lst ((sortI (HT.dist C)).map D.int)):=by
   change ((intsOf (C.map D.int)).bind λns=>if ns.length<4000 /\ (HT.dist ns).length<64 then ae (Res.lst ((sortI (HT.dist ns)).map D.int)) else ag)=_;rw[K1.Dz];show if_pos #[by lia,by rw[tF.lX];lia]
  rw[cb,this];rfl
 have sz:(sortI (HT.dist C)).length<64:=by rw[(gC _).length_eq,tF.lX];lia
 have bl:(qI C h0).length<64:=yH (xi ..) sz;have b1:=sZ (g:=fe 0) (tf:=dB (d2 af ug (dV 0) (d2 af ax (dV 1) zj))) (te:=dV 0) (B:=bx++[.lst (C.map D.int)]) (e:=D.int) (E:=λi:Int=>[xN i,ae (.d (enc zA))]) (J:=λenv=>∃ a,env=[a,ae (.d (enc zA))]) (λh=>decide (h0<=h)) (λi:Int=>D.int i) (λ_=>#[_,rfl]) (sortI (HT.dist C)) _ [] zk #[ag,rfl] (λi _ env ⟨a,e⟩=>by subst e;rfl) λi m=>#[fZ (fE (x:=.int i) (y:=.int h0) (r:=.old (.bl (decide (h0<=i)))) zc (wH zA zc) (by simp[ug])),λ_=>rfl]
 change _=O.val ((qI C h0).map D.int) _ at b1
 generalize qI C h0=bs at *;have YW:DL.cutD (bs.map D.int) (ae 1) ag=bs.tail.map D.int:=by
  cases bs with
  |nil=>rfl
  |cons b t=>simp[DL.cutD,HT.aU];show Hv zi
 have e2:bs.tail.map D.int++[.non]=(ends bs).map oI:=by
  unfold ends;rw[vE,bO];rfl
 have b3:=sZ (g:=fP 2 zal) (tf:=fS) (te:=fN (fc (dV 0) (fc (dV 1) (fc (fq a9.iW 5 (fc (dV 2) (fc (dV 3) (fc (dV 4) (fc (dV 5) zaW))))) fg)))) (B:=bx++[.lst (C.map D.int)]) (e:=λa:Int×Option Int=>D.tup [.int a.1,oI a.2]) (E:=λa:Int×Option Int=>[xN a.1,ae (.d (oI a.2)),ae (.d za),ae (.d zm),ae zao,ae (.d (enc zA))]) (J:=λenv=>∃ a b,env=[a,b,ae (.d za),ae (.d zm),ae zao,ae (.d (enc zA))]) (λ_=>ah) (λa=>Ku (a.1,a.2,cP rl hold op q.2 ps qs l a.1)) (λ_=>#[_,_,rfl]) (bs.zip (ends bs)) [ag,ag,ae (.d za),ae (.d zm),ae zao,ae (.d (enc zA))] [] (by rw[abp];simp;lia) #[_,_,rfl] (λi _ env ⟨a,b,e⟩=>by subst e;rfl) λa m=>#[rfl,λ_=>gk [.int a.1,oI a.2,.int (cP rl hold op q.2 ps qs l a.1)] (fj zc (fj zc (fj (cV (pv _ a.1)) zc))) zk];refine(lL (ws:=[.d za,.d zm,.d zau,.d (enc zA)]) (bx':=bx++[.lst (C.map D.int)]) (qS (cV (Ru X ho)) ((fu ((im (gn zc)).trans lp)).trans (qS (gD (gn (so zc)) zc b1) (qS (fE (x:=.lst (bs.tail.map D.int)) (y:=.lst [.non]) (r:=.lst ((ends bs).map oI)) (MH (x:=.lst (bs.map D.int)) (i:=ae 1) (j:=ag) (r:=.lst (bs.tail.map D.int)) zc zc zc (by rw[<-YW];rfl)) (jy [.non] zc zk) (by rw[<-e2];show if_pos zk)) (fV (gD (bx1:=bx++[.lst (C.map D.int)]) (congrArg (O.val · _) (Sw bs (ends bs))) zc b3))))))).trans ?_;rw[List.filter_eq_self.mpr λ_ _=>rfl,GL,bO,kL];simp[Q9,aci]
end
theorem Wt {B1:List Bx}{o:Option Int}(neg:Bool) (h:m env B=.val (.d (oI o)) B1):eX neg m env B=.val (.d (.bl (if neg then o.isSome else !o.isSome))) B1:=by
 unfold eX;rw[h,fM];cases o<;>cases neg<;>rfl
theorem Sy (i j:Int):minD [.int i,.int j]=ae (.old (.int (min i j))):=by
 change ae (Res.old (.int (if j<i then j else i)))=_;congr 3;split<;>lia
section
variable {ps op:Al} 
abbrev ail:aB:=(fv (fC (nu (dB (eX af (dV 7))) (dV 4) (dN af minD (fc (dV 7) zZ))) (fe 9)) (sX af 5 (d2 af c6 (dV 8) (dN af maxD (fc zj (fc (d2 af cX (dV 9) (dV 6)) fg))))))
theorem Rx (x0 x1 x2 x3:Option W) (h:Int):∀ (T:List Sx) (x:Int) (w6 w7 w8 w9:Option W),(∀ q∈T,0<=q.2.2 /\ q.2.2<=9)->∃ y6 y7 y8 y9,
 bT (fP 3 (fr (fe 6) (fr (fe 7) (fr (fe 8) fR)))) ail ((T.map Ku).map W.d) [x0,x1,x2,x3,xN h,xN x,w6,w7,w8,w9] bx=.nx [x0,x1,x2,x3,xN h,xN (Ks h x T),y6,y7,y8,y9] bx:=by
 intro l_;induction l_ with
 |nil=>show λx w6 w7 w8 w9 _=>#[w6,w7,w8,w9,rfl]
 |cons q T az=>
   intro x w6 w7 w8 w9 b;let#[b1,b2]:=b q (bE ..);let#[y6,y7,y8,y9,e]:=az (x+q.2.2*max 0 (gN h q.2.1-q.1)) (xN q.1) (ae (.d (oI q.2.1))) (xN q.2.2) (xN (gN h q.2.1)) λy m=>b y (bB _ m);refine#[y6,y7,y8,y9,?_];have g0:fP 3 (fr (fe 6) (fr (fe 7) (fr (fe 8) fR))) (.d (Ku q)) [x0,x1,x2,x3,xN h,xN x,w6,w7,w8,w9] bx=ae (zaX,bx):=rfl;have u:nu (dB (eX af (dV 7))) (dV 4) (dN af minD (fc (dV 7) zZ)) zaX bx=.val (.d (.int (gN h q.2.1))) bx:=by
    have t:=fZ (Wt (m:=dV 7) (env:=zaX) (B:=bx) (o:=q.2.1) af zc);cases c:q.2.1 with
    |none=>rw[c]at t;show V5 t zc
    |some e=>rw[c]at t;show V6 t (jb (r:=.old (.int (min e h))) [.int e,.int h] zc (Sy e h))
   have s1:fC (nu (dB (eX af (dV 7))) (dV 4) (dN af minD (fc (dV 7) zZ))) (fe 9) zaX bx=.nx [x0,x1,x2,x3,xN h,xN x,xN q.1,ae (.d (oI q.2.1)),xN q.2.2,xN (gN h q.2.1)] bx:=f9 u;have m1:d2 af c6 (dV 8) (dN af maxD (fc zj (fc (d2 af cX (dV 9) (dV 6)) fg))) [x0,x1,x2,x3,xN h,xN x,xN q.1,ae (.d (oI q.2.1)),xN q.2.2,xN (gN h q.2.1)] bx=.val (.d (.int (q.2.2*max 0 (gN h q.2.1-q.1)))) bx:=
    fE (x:=.int q.2.2) (y:=.int (max 0 (gN h q.2.1-q.1))) (r:=.old (.int (q.2.2*max 0 (gN h q.2.1-q.1)))) zc (jb (r:=.old (.int (max 0 (gN h q.2.1-q.1)))) [.int 0,.int (gN h q.2.1-q.1)] (fj zc (fj (fE (x:=.int (gN h q.2.1)) (y:=.int q.1) (r:=.old (.int (gN h q.2.1-q.1))) zc zc zc) zc)) (GD _)) (if_pos (.inl zd))
   have s2:sX af 5 (d2 af c6 (dV 8) (dN af maxD (fc zj (fc (d2 af cX (dV 9) (dV 6)) fg)))) [x0,x1,x2,x3,xN h,xN x,xN q.1,ae (.d (oI q.2.1)),xN q.2.2,xN (gN h q.2.1)] bx=.nx [x0,x1,x2,x3,xN h,xN (x+q.2.2*max 0 (gN h q.2.1-q.1)),xN q.1,ae (.d (oI q.2.1)),xN q.2.2,xN (gN h q.2.1)] bx:=by
    unfold sX;change bC _ _=_;rw[m1,gX];rfl
   rw[aO,aO,io g0 ((fu s1).trans s2),e];rfl
theorem NA (X:Hk rs ks ps hd rl hold kl) (hq:q∈kl) (qs:List Pg) (l h:Int):0<=cP rl hold op q.2 ps qs l h /\ cP rl hold op q.2 ps qs l h<=9:=by
 unfold cP yr;split
 .lia
 .rename_i r _;rw[yL];cases c:q.2[(max 0 (dE (rl.getD r.toNat 0) hold h op-if (h,r)∈ops ps [] [] qs then 1 else 0)).toNat]? with
  |none=>simp
  |some v=>show(X.k q hq).2.2.2 v (qN c)
theorem Sz {f:Int->Int}(p:∀ h,0<=f h /\ f h<=9):∀ {bs:List Int},∀ q∈vn f bs,0<=q.2.2 /\ q.2.2<=9
 |[],_,m=>nomatch m
 |[b],q,m=>by cases kN.mp m;show p b
 | b::c::r,q,m=>by
   rcases bz.mp m with rfl|m
   .show p b
   .show Sz p q m
structure Cm (rs ks:List D) (ps:Al) (qs:List Pg) (kl:List (Int×List Int)) (h0 l k r p w:Int) (q:Int×List Int):zu where
 m:Pg.aF h0 l k r p w∈taken ps [] [] qs
 k0:0<=k
 hq:kl[k.toNat]?=ae q
theorem Wu (X:Hk rs ks ps hd rl hold kl) (s:qD qs) {h0 l k r p w:Int}(Y:Cm rs ks ps qs kl h0 l k r p w q):∃ t,qI (chg hold op (taken ps [] [] qs)) h0=h0::t /\ Kr zaj (h0::t):=by
 have m0:h0∈chg hold op (taken ps [] [] qs):=kg _ (List.mem_flatten.mpr #[_,bA.mpr #[_,Y.m,rfl],bE ..]);let#[t,e]:=Nz m0;refine#[t,e,?_];rw[<-e];refine Nj (λb h hb tt=>Rh s (λc m=>(X.r c m).2) X.h.1 hb tt) (DX _ _) λx m b eb hb=>CC.mpr #[m,?_];rw[e]at eb;cases eb;lia
theorem U2 (X:Hk rs ks ps hd rl hold kl) (ho:op.length<=4) (s:qD qs) (ok:∀ g∈qs,qA rs.length ks.length g) (hl:qs.length<=16) {h0 l k r p w:Int}(Y:Cm rs ks ps qs kl h0 l k r p w q) (h:Int) :
 mH [.d za,.d zm,.d zak,.d (enc zA),.d (.int h)] bx=.val (.d (.int (p+sm zaj h0 (h-h0).toNat))) bx:=by
 let#[t,e,c]:=Wu (op:=op) X s Y;have sv:=DY (bx:=bx) X ho s ok hl (h0:=h0) (l:=l) (r:=r) (p:=p) (w:=w) Y.k0 Y.hq;rw[e]at sv;let#[y6,y7,y8,y9,lp]:=Rx (bx:=bx) (ae (.d za)) (ae (.d zm)) (ae (.d zak)) (ae (.d (enc zA))) h (vn zaj (h0::t)) p ag ag ag ag (Sz λx=>NA X (qN Y.hq) qs l x);rw[DU c]at lp;have s1:fC (d2 af ax (dV 3) (dC (.int 5))) (fe 5) [ae (.d za),ae (.d zm),ae (.d zak),ae (.d (enc zA)),xN h,ag,ag,ag,ag,ag] bx=.nx [ae (.d za),ae (.d zm),ae (.d zak),ae (.d (enc zA)),xN h,xN p,ag,ag,ag,ag] bx:=f9 (fE (x:=enc zA) (y:=.int 5) (r:=.old (.int p)) zc zc zc);show fT ((fu s1).trans ((fu ((im (gn (fF (l:=[.d za,.d zm,.d zak,.d (enc zA)]) zc zc sv))).trans lp)).trans zc))
end
structure Sc (rs ks:List D) (ps:Al) (hd:D) (rl:List Int) (hold:Int) (kl:List (Int×List Int)) (op:Al) (gs qs:List Pg):zu where
 X:Hk rs ks ps hd rl hold kl
 G:Gs rs.length ks.length gs
 so:dQ [.lst (gs.map enc)]=ae (.lst (qs.map enc))
 pm:qs.Perm gs
 ri:EO qs
 ol:op.length<=4
 ob:∀ p∈op,0<=p.1 /\ p.1<p.2
 oa:eQ op=ah
section
variable {ps op:Al} 
theorem Sc.s (Z:Sc rs ks ps hd rl hold kl op gs qs):qD qs:=US Z.ri
theorem Sc.l (Z:Sc rs ks ps hd rl hold kl op gs qs):qs.length<=16:=by rw[Z.pm.length_eq];show Z.G.l
theorem Sc.ok (Z:Sc rs ks ps hd rl hold kl op gs qs):∀ g∈qs,qA rs.length ks.length g:=(Z.G.perm Z.pm).ok
theorem U3 {m:aB}{ws:List W}{e:aP}(h:m zaA bx=.nx e bx):a5 n (aQ m) ws bx=.val (.d .non) bx:=by
 change pd bx.length (n9 (aQ m zaA bx))=_;unfold aQ;rw[h];simp[n9,pd]
theorem U4 (Z:Sc rs ks ps hd rl hold kl op gs qs):jZ [.d za,.d zm] bx=.val (.d .non) bx:=by
 have sz:=br;have ol:=Z.ol;have lv:=Uy op zd bx;rw[Z.oa]at lv;have o:∀ x∈op.map dP,K2.oM [.d x] bx=.val zap bx:=λx m=>by
  let#[p,mp,rfl]:=bA.mp m;have:=Z.ob p mp;show fT (fV (gU (cV (Ag (l:=[.int p.1,.int p.2]) (lo:=2) (hi:=2) zc)) (gU (cV (aH.oT (i:=p.1) zd)) (gU (cV (aH.oT (i:=p.2) zd)) (fE (x:=.int p.1) (y:=.int p.2) (r:=.old (.bl ah)) zc zc (by simp[cY];lia))))))
 have m:A4 [ae (.d za),ae (.d zm)] bx=.rt zap bx:=qE (cV (aH.om Z.X.H)) (fV (gU (cV (Ag (l:=op.map dP) (lo:=0) (hi:=4) (by simp[tl];lia))) (gU (BW (gQ zc) zc (by rw[a6];lia) λx m=>cV (o x m)) (cV lv))));show U3 (n:=2) (ws:=[.d za,.d zm]) (m:=Ad) ((gx (iN (fZ (cV (fn:=lH) (l:=[.d za,.d zm]) (fT m))))).trans zc)
theorem M3 (Z:Sc rs ks ps hd rl hold kl op gs qs) {l:Int}(l0:0<=l) (l9:l<=9):ie [.d za,.d zm,.d zo,.d (.int l)] bx=.val (.d .non) bx:=by
 have w:=oO (.int l) 0 9 bx;rw[show wi (.int l) 0 9=ah by simp[wi];lia]at w;show U3 (n:=4) (m:=l7) ((fu (ij (fF (l:=[.d za,.d zm]) zc zc (U4 Z)))).trans ((fu (ij (fF (l:=[.d za,.d zo]) zc zc (aH.Cv Z.X.H Z.G)))).trans ((gx (iN (fZ (fF (l:=[.d (.int l),.d (.int 0),.d (.int 9)]) zc zc w)))).trans zc)))
theorem Ry {h:Int}(h0:0<=h):a9.iU [.d (.int h)] bx=.val (.d .non) bx:=
 U3 (n:=1) (m:=Ae) ((gx (iN (fZ (fF (l:=[.d (.int h)]) zc zc (aH.oT h0))))).trans zc)
theorem aeq {ps:Al}{g:Pg}:∀ {gs:List Pg}{K R:Al},g∈taken ps K R gs->g∈gs:=by
 intro l_;induction l_ with
 |nil=>(intro _ _ m;show nomatch m)
 |cons x gs az=>
   intro K R m;unfold taken at m;split at m
   .rcases bz.mp m with rfl|m
    .show bE ..
    .show bB _ (az m)
   .show bB _ (az m)
abbrev wJ (ps:Al) (qs:List Pg) (l:Int):Option Pg:=(taken ps [] [] qs).find? (e9 l)
theorem NB (Z:Sc rs ks ps hd rl hold kl op gs qs) {l:Int}{g:Pg}(h:wJ ps qs l=ae g):∃ h0 k r p w q,g=.aF h0 l k r p w /\ Cm rs ks ps qs kl h0 l k r p w q /\ 0<=h0 /\ (0<=p /\ p<=999) /\ (1<=q.1 /\ q.1<=999) /\ g∈qs:=by
 have m:=Hx h;have c:=Q8 h;have mm:=aeq m;have o:=Z.ok g mm;cases g with
 |aF h0 l' k r p w=>
   have el:l'=l:=by erw[e9,isIn,aZ,QZ]at c;show of_decide_eq_true c
   subst el;let#[o1,o2,#[k0,k1],o4,o5,o6]:=o;have Y0:k.toNat<kl.length:=by rw[Z.X.ek,a6]at k1;lia
   show#[h0,k,r,p,w,kl[k.toNat],rfl,#[m,k0,dq Y0],o1,o5,#[(Z.X.k _ (sj Y0)).1,(Z.X.k _ (sj Y0)).2.1],mm]
 |to h' l' r=>simp[e9,isIn]at c
 |out h' l'=>simp[e9,isIn]at c
theorem U5 (Z:Sc rs ks ps hd rl hold kl op gs qs) (l:Int):gK [.d zak,.d (.int l)] bx=.val (.d (match wJ ps qs l with|some g=>enc g|none=>.non)) bx:=by
 have sl:=CB (ps:=ps) (gs:=qs) (K:=[]) (R:=[]);have:=No (bx:=bx) (S:=dS ps [] [] qs) (by have:=Z.l;lia) l;rw[BX]at this;show this
theorem Rz (Z:Sc rs ks ps hd rl hold kl op gs qs):cT.gJ [.d za,.d zo] bx=.val (.d zak) bx:=by
 rw[<-Su];show a9.Rm Z.X.H Z.l Z.so
end
section
variable {ps op:Al} 
end
end a9
namespace cT
open L2 L2.DL K1 kB bP aH
section
variable {K':Al}
end
end cT
namespace a9
open L2 L2.DL K1 K2 kB bP aH cT
structure La (ps:Al) (qs:List Pg) (B:List Bx) (N:Nat) (dr:List (List Key×D)):zu where
 c:B[N+1]?=ae (.aA (aW enc (nE ps [] [] [] qs)))
 d:B[N+3]?=ae (.dT dr)
 o:∀ q:Int×Int,(eZ dr (k2 q)).isSome=decide (q∈ops ps [] [] qs)
 a:B[N+4]?=ae (.lst (rT ps [] [] qs))
section
variable {ps op:Al} {N:Nat} 
theorem RC (Z:Sc rs ks ps hd rl hold kl op gs qs) (A:La ps qs B N dr) (h:Int):cT.gG [.m (ml N),.d (.int h)] B=.val (.d (.aA (aW dP (aK (pre h ps [] [] qs).1 (pre h ps [] [] qs).2)))) B:=by
 have ha:=A.a;rw[GJ]at ha;have th:=Rc (h:=h) ha;rw[show ([]:At)=aK [] [] from rfl,DS Z.s]at th;show th
theorem RD (Z:Sc rs ks ps hd rl hold kl op gs qs) (A:La ps qs B N dr) {k r h:Int}(k0:0<=k) (hq:kl[k.toNat]?=ae q) (r0:0<=r) (r1:r<(rl.length:Int)) :
 jp [.d za,.d zm,.m (ml N),.d (.int k),.d (.int r),.d (.int h)] B=.val (.d (.int (yr rl hold op q.2 (ops ps [] [] qs) h (ae r)))) B:=by
 have z:sizeLine=16777216:=br;have cd:=PN (bx:=B) (hour:=h) Z.X.i r.toNat zd op;rw[show ((r.toNat:Nat):Int)=r by lia]at cd;have eg:rl[r.toNat]'(by lia)=rl.getD r.toNat 0:=by rw[yL,dq zd];rfl
 rw[eg]at cd;have rb:=Z.X.r (rl.getD r.toNat 0) (by rw[<-eg];show sj _);have lo:=Ba (hold:=hold) (hour:=h) rb.1 op;have hi:=Bb (hour:=h) rb.1 (show 0<hold by have:=Z.X.h;lia) op;have c4:=(Z.X.k q (qN hq)).2.2.1;erw[yr];have s1:fC (fq K2.jn 4 (fc (dV 0) (fc (dV 1) (fc (dV 4) (fc (dV 5) fg))))) (fe 6) [ae (.d za),ae (.d zm),ae (.m (ml N)),xN k,xN r,xN h,ag] B=.nx [ae (.d za),ae (.d zm),ae (.m (ml N)),xN k,xN r,xN h,xN (dE (rl.getD r.toNat 0) hold h op)] B:=f9 (fF (l:=[.d za,.d zm,.d (.int r),.d (.int h)]) zc zc cd);generalize dE (rl.getD r.toNat 0) hold h op=cc at *;generalize hE:([ae (.d za),ae (.d zm),ae (.m (ml N)),xN k,xN r,xN h,xN cc]:aP)=E at s1;have tn:wB (fN (fc (dV 5) zZ)) (bV (dV 2) "doors") E B=.val (.d (.bl (decide ((h,r)∈ops ps [] [] qs)))) B:=by
  have t1:fN (fc (dV 5) zZ) E B=.val (.d (.tup [.int h,.int r])) B:=by subst hE;show gk [.int h,.int r] zc zk
  have t2:bV (dV 2) "doors" E B=.val (.b (N+3)) B:=by subst hE;show lc zc aei
  unfold wB;rw[t1,fM,t2,fM];change (match B[N+3]?,uw [D.int h,D.int r] with|some (.dT l),ae k=>O.val (W.d (.bl (eZ l k).isSome)) B|_,_=>.bad)=_;rw[A.d];change O.val (W.d (.bl (eZ dr (k2 (h,r))).isSome)) B=_;rw[A.o]
 have mx:dN af maxD (fc zj (fc (d2 af cX (dV 6) (dN af intD (fc (wB (fN (fc (dV 5) zZ)) (bV (dV 2) "doors")) fg))) fg)) E B=.val (.d (.int (max 0 (cc-if (h,r)∈ops ps [] [] qs then 1 else 0)))) B:=by
  refine jb (r:=.old (.int (max 0 (cc-if (h,r)∈ops ps [] [] qs then 1 else 0)))) [.int 0,.int (cc-if (h,r)∈ops ps [] [] qs then 1 else 0)] (fj zc (fj (fE (x:=.int cc) (y:=.int (if (h,r)∈ops ps [] [] qs then 1 else 0)) (r:=.old (.int (cc-if (h,r)∈ops ps [] [] qs then 1 else 0))) (by subst hE;rfl) (jb (r:=.old (.int (if (h,r)∈ops ps [] [] qs then 1 else 0))) [.bl (decide ((h,r)∈ops ps [] [] qs))] (fj tn zc) ?_) zc) zc)) (GD _);change ae (Res.old (.int (if decide ((h,r)∈ops ps [] [] qs)=ah then 1 else 0)))=_;congr 3;simp
 refine fT ((fu s1).trans (fV (fE (x:=.tup (q.2.map D.int)) (r:=.old _) (fE (x:=tu q) (y:=.int 1) (r:=.old (.tup (q.2.map D.int))) (fE (x:=.tup ks) (y:=.int k) (r:=.old (tu q)) (fE (x:=hs rs ks ps hd) (y:=.int 1) (r:=.old (.tup ks)) (by subst hE;rfl) zc zc) (by subst hE;rfl) (Sv Z.X k0 hq)) zc zc) mx (Wr zd ?_))));split<;>lia
theorem FM (a:Int) (n:Nat):fJ a (n+1)=.d (.int a)::fJ (a+1) n:=by
 unfold fJ;rw[abl,aO,bO];congr 1
 .simp
 .refine qO λi _=>?_;change W.d (.int (a+((i+1:Nat):Int)))=W.d (.int (a+1+(i:Int)));congr 2;lia
variable {h0 l k r p w last:Int} 
end
end a9
namespace aH
open L2 L2.DL K1 kB bP
theorem WU (j:Nat) (hj:j<=100) (env:aP) (b:List Bx):cS (fc (dC (.int (j:Nat))) fg) env b=.val (fJ 0 j) b:=j6 (j:=j) (bx1:=b) zi zd
end aH
namespace cT
open L2 L2.DL K1 kB bP aH
theorem oj {i:Nat}{m:DE zam}{B1:List Bx}{x y:W}(h:m env B=.val [x,y] B1):ku i j m env B=.nx ((env.set i (ae x)).set j (ae y)) B1:=by
 unfold ku;rw[h,gX]
section
variable {N:Nat}
end
end cT
namespace a9
open L2 L2.DL K1 K2 kB bP aH cT
section
variable {ps op:Al} {N:Nat} {l last:Int}
theorem GM:((nE ps [] [] [] qs).find? λq=>decide (q.1=l)).map (·.2)=wJ ps qs l:=UY zc
end
theorem BY {b e:Int}:∀ {ps:Al},eQ ps=ah->(∀ x∈ps,x.2<b)->eQ (ps++[(b,e)])=ah
 |[],_,_=>rfl
 | [p],_,h=>by
   change eQ [p,(b,e)]=ah;simp[eQ,h p (bE ..)]
 | p::q::r,a,h=>by
   erw[eQ,aG]at a;change eQ (p::q::(r++[(b,e)]))=ah;have:=BY (b:=b) (e:=e) a.2 λx m=>h x (bB _ m);erw[eQ,aG];show#[a.1,this]
theorem RE {nr:Int}(n0:0<nr) (n1:nr<=30) (h:n<bx.length) (p b:Int) (ps:Al) (hl:ps.length<=1000) (w:Option W) :
 ∃ e b' q,ad3 [xB n,xN nr,xB bx.length,xN b,w] (pt (bx++[.lst zI]) n p)=.nx [xB n,xN nr,xB bx.length,xN b',w] (pt (bx++[.lst ((ps++[(b,e)]).map dP)]) n q) /\ b<e /\ e<=b+30 /\ e<b' /\ b'<=e+30:=by
 have sz:=br;let#[r1,p1,t1,m0,m1]:=nC (bx:=bx++[Bx.lst zI]) (n:=n) zk p nr n0 zd;have ap:=BR (m:=dV 2) (k:=fN (fc (dV 3) (fc (d2 af fK (d2 af fK (dV 3) zf) (fq K1.fm 2 (fc (dV 0) zF))) fg))) (env:=[xB n,xN nr,xB bx.length,xN b,w]) zc (jr (p:=p) (x:=.lst zI) h) (gk [.int b,.int (b+1+r1)] (fj zc (fj (fE (r:=.old (.int (b+1+r1))) (fE (x:=.int b) (y:=.int 1) (r:=.old (.int (b+1))) zc zc zc) (t1 zc zc) zc) zc)) (show (2:Nat)<=sizeLine by lia)) (jr (p:=p1) (x:=.lst zI) h) (by rw[a6];lia);rw[Ct h,show ps.map dP++[D.tup [.int b,.int (b+1+r1)]]=(ps++[(b,b+1+r1)]).map dP by simp]at ap;let#[r2,p2,t2,k0,k1]:=nC (bx:=bx++[Bx.lst ((ps++[(b,b+1+r1)]).map dP)]) (n:=n) zk p1 nr n0 zd;have b3:=jr (p:=p1) (x:=.lst ((ps++[(b,b+1+r1)]).map dP)) h;have la:bu ((ps++[(b,b+1+r1)]).map dP) (-1)=ae (dP (b,b+1+r1)):=by
  unfold bu bQ;simp;rw[if_pos zd];simp;have:(-1+((ps.length:Int)+1)).toNat=ps.length:=by lia
  rw[this,<-a6 (f:=dP) (as:=ps)];simp
 refine#[b+1+r1,b+1+r1+1+r2,p2,(fu (ij ap)).trans (f9 (fE (x:=.int (b+1+r1+1)) (y:=.int r2) (r:=.old (.int (b+1+r1+1+r2))) (fE (x:=.int (b+1+r1)) (y:=.int 1) (r:=.old (.int (b+1+r1+1))) (fE (x:=dP (b,b+1+r1)) (y:=.int 1) (r:=.old (.int (b+1+r1))) ?_ zc zc) zc zc) (t2 zc zc) zc)),by lia,by lia,by lia,by lia];generalize pt (bx++[.lst ((ps++[(b,b+1+r1)]).map dP)]) n p1=B at b3 ⊢;rw[Mx,show dV 2 [xB n,xN nr,xB bx.length,xN b,w] B=.val zaM B from rfl,fM,Us rfl,fM,Sj b3,Af,cb,cb];change cu af (Option.map Res.old (bu _ (-1))) _=_;rw[la];rfl
structure Ot (op:Al) (m:Int):zu where
 l:op.length<=4
 b:∀ x∈op,0<=x.1 /\ x.1<x.2 /\ x.2<=m
 a:eQ op=ah
theorem RF {nr:Int}(n0:0<nr) (n1:nr<=30) (h:n<bx.length) (p:Int):∃ ps q,K2.jk [.b n,.d (.int nr)] zG=.val (.d (.tup zI)) zaV /\ Ot ps 1000:=by
 have sz:=br;have h0:n<(bx++[Bx.lst []]).length:=by simp;lia
 let#[r0,p1,t0,m0,m1]:=nC h0 p nr n0 zd;let#[y,p2,t4,my]:=Km h0 p1 [0,1,2,4] (fc zj (fc zf (fc zr zz))) (λ_ _=>rfl) (k:=4) zc (by decide) ze;let#[c,rfl]:=yM (show 0<=y by simp at my;lia);have hc:c<=4:=by simp at my;lia
 let#[aN,bx',e2,ps,b,w,q,rfl,rfl,hl,_,_,Y1,ha,_]:=j7 (g:=fe 4) (body:=ad3) (λi env bb=>∃ ps b w q,env=[xB n,xN nr,xB bx.length,xN b,w] /\ bb=pt (bx++[.lst zI]) n q /\ ps.length=i /\ 0<=b /\ b<=30+60*(i:Int) /\ (∀ x∈ps,0<=x.1 /\ x.1<x.2 /\ x.2<=1000) /\ eQ ps=ah /\ ∀ x∈ps,x.2<b) (fJ 0 c) 0 [xB n,xN nr,xB bx.length,xN (r0),ag] (pt (bx++[.lst (([]:Al).map dP)]) n (p2)) #[[],_,_,_,rfl,rfl,rfl,m0,by lia,(λx m=>by cases m),rfl,λx m=>by cases m] (by
  rintro i w env bb hw ⟨ps,b,w',q,rfl,rfl,hl,ad1,aki,Y1,ha,hb⟩;have hi:i<c:=by
   have:=(List.getElem?_eq_some_iff.mp hw).1;simpa[fJ] using this
  let#[e,b',q',ee,o1,o2,o3,o4]:=RE n0 n1 h q b ps zd (ae w);refine#[_,_,_,_,rfl,ee,ps++[(b,e)],b',_,q',rfl,rfl,by simp[hl],by lia,by lia,λx m=>?_,BY ha hb,λx m=>?_]
  .rcases nT.mp m with m|m
   .show Y1 x m
   .rw[kN.mp m];show#[by change 0<=b;lia,o1,by change e<=1000;lia]
  .rcases nT.mp m with m|m
   .have:=hb x m;lia
   .rw[kN.mp m];show o3)
 refine#[ps,q,?_,by simp[fJ]at hl;lia,Y1,ha];have bg:=jr (p:=q) (x:=.lst zI) h;refine(lL (ws:=[.b n,.d (.int nr)]) (d:=.tup zI) (bx':=pt (bx++[.lst zI]) n q) ((fu (cT.oj (fj (w:=.b bx.length) (bx1:=pt (bx++[.lst []]) n p) (by rw[<-mK h,<-gp (bx:=bx) (n:=n) (p:=p)];show oQ [] zc (eS _)) (fj (t0 zc zc) zc)))).trans ((fu ((im (l:=fJ 0 c) (j6 (fj (t4 _ 0 zc) zc) zd)).trans e2)).trans (fV ?_)))).trans ?_
 .rw[Dm,fj (w:=.b bx.length) (l:=[]) rfl rfl,fM];have:kr (pt (bx++[.lst zI]) n q) [.b bx.length]=ae [.lst zI]:=by erw[kr,Sj bg,cb,nG]
  rw[this];rfl
 .rw[gp,Bc h]
noncomputable abbrev rX (c:Int) (x:Int×Int):Int×Int:=(x.1+c,x.2+c)
theorem DZ {c:Int}:∀ {ps:Al},eQ ps=ah->eQ (ps.map (rX c))=ah
 |[],_=>rfl
 |[p],_=>rfl
 | p::q::r,a=>by
   erw[eQ,aG,decide_eq_true_eq]at a;change eQ (rX c p::rX c q::r.map (rX c))=ah;have:=DZ (c:=c) a.2;erw[eQ,aG,decide_eq_true_eq];show#[by change p.2+c<q.1+c;lia,this]
theorem Wv (h:n<bx.length) (p:Int) {op:Al}(ho:op.length<=4) (hl:gs.length<=100):∃ c q,K2.jT [.b n,.d zm,.d zo] zG=.val (.d (.tup [.tup ((op.map (rX c)).map dP),.lst ((gs.map (sh c)).map enc),.int c])) zaV /\ 0<=c /\ c<=10 ^ 39:=by
 have sz:=br;let#[r4,q,t4,k0,k1]:=nC h p 4 ze ze;let#[y,ey,my]:=lV (l:=[D.int 0,.int 0,.int (10 ^ 6),.int (10 ^ 39)]) k0 (by change _<(4:Int);show k1);obtain⟨c,rfl,c0,c1⟩:∃ c:Int,y=.int c /\ 0<=c /\ c<=10 ^ 39:=by
  erw[bz,pJ,or_false]at my;rcases my with rfl|rfl|rfl|rfl<;>show#[_,rfl,by decide,by decide]
 refine#[c,q,BQ ?_ (by rw[gp,gp];show aD _),c0,c1];rw[show (gs.map (sh c)).map enc=gs.map λg=>enc (sh c g) by rw[bO];rfl,bO];show qS (fE (r:=.old (.int c)) (jy [.int 0,.int 0,.int (10 ^ 6),.int (10 ^ 39)] (fj zc (fj zc (fj (fE (r:=.old _) zc zc (MS ze)) (fj (fE (r:=.old _) zc zc (MS ze)) zc)))) (show (4:Nat)<=sizeLine by lia)) (t4 zc zc) (by erw[ax,ey,nG])) (qS (jb (r:=.tup (op.map λx=>dP (rX c x))) [.lst (op.map λx=>dP (rX c x))] (fj (gD (gQ zc) zc ((sZ (E:=λx=>[xN x.1,xN x.2,xN c]) (J:=λe=>∃ a b,e=[a,b,xN c]) (λ_=>ah) (λx=>dP (rX c x)) (λ_=>#[_,_,rfl]) op [ag,ag,xN c] [] zk #[_,_,rfl] (λx _ env ⟨a,b,e⟩=>by subst e;rfl) λx _=>#[rfl,λ_=>gk [.int (x.1+c),.int (x.2+c)] (fj (fE (x:=.int x.1) (y:=.int c) (r:=.old (.int (x.1+c))) zc zc zc) (fj (fE (x:=.int x.2) (y:=.int c) (r:=.old (.int (x.2+c))) zc zc zc) zc)) zk]).trans (by rw[List.filter_eq_self.mpr λ_ _=>rfl,kL]))) zc) zc) (fV (gk [.tup (op.map λx=>dP (rX c x)),.lst (gs.map λg=>enc (sh c g)),.int c] (fj zc (fj (ad5 (enc:=enc) (r:=[xN c]) _ (gn zc) zc (by lia) λg _=>Wi c g _) (fj zc zc))) (show (3:Nat)<=sizeLine by lia))))
end a9
namespace K21
open L2 L2.DL
noncomputable section
def FN:aB:=(fv (aM (nL (dB (c8 ah (dV 3) (bV (dV 2) "came"))) (dB (d2 af eK (d2 af ax (cg (bV (dV 2) "came") (dV 3)) zj) (dV 4)))) (fG (dC .non)) aV) (fv (fC (d2 af ax (cg (bV (dV 2) "came") (dV 3)) (dC (.int 5))) (fe 5)) (fv (gZ (rj (fc (d2 af ax (cg (bV (dV 2) "came") (dV 3)) zj) zZ)) (fe 6) zad) (fG (dV 5)))))
def jt:List W->List Bx->O W:=a5 10 (aQ FN)
def NC:aB:=(fv (gZ (cS (fc (dN af maxD (fc zf (fc (dN af minD (fc (ui (dV 0)) zz)) fg))) fg)) (fe 1) (fv (fC (fq K1.jS 1 (fc (fq K1.g9 2 (fc (dV 0) zF)) fg)) (fe 2)) (fv (fC (fq aH.iP 1 zL) (fe 3)) (fv zaY (fv zat (fv (ku 8 9 (fc (fq aH.jo 2 (fc (dV 3) (fc (dV 6) fg))) (fc (rF (fN (fc (dV 3) (fc (dV 5) (fc (dV 6) fg))))) fg))) (fv (fC (gq af (fc (dV 7) (fc (d2 af fK (dV 7) (fq K1.fm 2 (fc (dV 2) (fc (dC (.int 90)) fg)))) (fc (d2 af fK (dV 7) (dC (.int 60))) fg)))) (fe 10)) (fv (gZ (bD (kJ af (dV 6) kT (kI (dC (.int 4))))) (fe 11) za3) (fv (gZ (cS (fc (dC (.int 10)) fg)) (fe 12) (gZ (bD (dV 10)) (fe 13) zM)) (aM (dB (d2 af dO (rF (fN (fc (dV 3) (fc (dV 5) (fc (dV 6) fg))))) (dV 9))) (fG (dC (.bl af))) aV)))))))))) (fG (dC (.bl ah))))
def CD:List W->List Bx->O W:=a5 15 (aQ NC)
end
open K1 K2 kB bP aH cT a9
theorem aim {ps:Al}{x l:Int}:∀ {gs:List Pg}{K R:Al},(look K l).isSome=ah->kk (pre x ps K R gs).1 l=kk K l:=by
 intro l_;induction l_ with
 |nil=>(intro _ _ _;show rfl)
 |cons g gs az=>
   intro K R k;unfold pre;split
   .rw[az (Ss k).2];show(Ss k).1
   .rfl
theorem ain {ps:Al}{x h0 l k r p w:Int}(hx:h0<=x):∀ {gs:List Pg}{K R:Al},qD gs->Pg.aF h0 l k r p w∈taken ps K R gs->kk (pre x ps K R gs).1 l=k:=by
 intro l_;induction l_ with
 |nil=>(intro _ _ _ m;show nomatch m)
 |cons g gs az=>
   intro K R s m;have s2:=List.pairwise_cons.mp s;rw[Bi]at m;unfold pre;rcases nT.mp m with m|m
   .split at m
    .ext c;cases kN.mp m;rw[if_pos (show aJ zA<=x from hx)];have e:look (ck ps K R zA) l=ae k:=by
      rw[(gu c).1];change look (put K l k) l=ae k;rw[Bg,if_pos rfl]
     rw[aim (by rw[e];rfl)];unfold kk;rw[e];rfl
    .cases m
   .rw[if_pos (show aJ g<=x by have:=s2.1 _ (aeq m);have e:aJ zA=h0:=rfl;lia)];show az s2.2 m
section
variable {ps op:Al} {N:Nat} {h0 l k r p w h:Int} 
abbrev aer:aB:=zad
abbrev rS (H O:D) (N:Nat) (l h x:Int) (w6 w7 w8 w9:Option W):aP:=[ae (.d H),ae (.d O),ae (.m (ml N)),ae (.d (.int l)),ae (.d (.int h)),ae (.d (.int x)),w6,w7,w8,w9]
theorem JX (Z:Sc rs ks ps hd rl hold kl op gs qs) (A:La ps qs B N dr) (Y:Cm rs ks ps qs kl h0 l k r p w q):∀ (m i:Nat) (w6 w7 w8 w9:Option W),
 ∃ y6 y7 y8 y9,bT (fe 6) aer (fJ (h0+i) m) (rS za zm N l h (p+sm zaj h0 i) w6 w7 w8 w9) B=.nx (rS za zm N l h (p+sm zaj h0 (i+m)) y6 y7 y8 y9) B:=by
 intro l_;induction l_ with
 |zero=>show λi w6 w7 w8 w9=>#[w6,w7,w8,w9,rfl]
 |succ m az=>
   intro i w6 w7 w8 w9;obtain⟨x,hx⟩:∃ x,x=p+sm zaj h0 i:=#[_,rfl];have ex:p+sm zaj h0 (i+1)=x+cP rl hold op q.2 ps qs l (h0+i):=by rw[hx];change p+(_+_)=_;lia
   have th:=RC Z A (h0+i);have bd:∃ y7 y8 y9,aer (rS za zm N l h x (xN (h0+i)) w7 w8 w9) B=.nx (rS za zm N l h (x+cP rl hold op q.2 ps qs l (h0+i)) (xN (h0+i)) y7 y8 y9) B:=by
    have t2:=C6 (bx:=B) (e:=dP) (L:=aK (pre (h0+i) ps [] [] qs).1 (pre (h0+i) ps [] [] qs).2) (k:=dV 3) (m:=dV 7) (env:=(rS za zm N l h x (xN (h0+i)) w7 w8 w9).set 7 (ae (.d (.aA (aW dP (aK (pre (h0+i) ps [] [] qs).1 (pre (h0+i) ps [] [] qs).2)))))) (l:=l) af zc zc;rw[lN]at t2;have kc:=ain (x:=h0+i) zd Z.s Y.m;cases d:look (pre (h0+i) ps [] [] qs).2 l with
    |none=>
      rw[d]at t2;have ge:cP rl hold op q.2 ps qs l (h0+i)=0:=by unfold cP a9.uB;rw[d];rfl
      rw[ge,Int.add_zero];show#[_,_,_,qS (fF (l:=[.m (ml N),.d (.int (h0+i))]) zc zc th) ((gx (fZ t2)).trans zc)]
    |some r'=>
      rw[d]at t2;let#[r0,r1]:=GK (Nq (h:=h0+i) (ps:=ps) Z.ok (K:=[]) (R:=[]) (λq m=>nomatch m)) d;rw[Z.X.er,a6]at r1;have gv:=RD (h:=h0+i) Z A Y.k0 Y.hq r0 r1;rw[show yr rl hold op q.2 (ops ps [] [] qs) (h0+i) (ae r')=cP rl hold op q.2 ps qs l (h0+i) by unfold cP a9.uB;rw[d]]at gv;have gt:=Cc (bx:=B) (e:=dP) (L:=aK (pre (h0+i) ps [] [] qs).1 (pre (h0+i) ps [] [] qs).2) (k:=dV 3) (m:=dV 7) (env:=(rS za zm N l h x (xN (h0+i)) w7 w8 w9).set 7 (ae (.d (.aA (aW dP (aK (pre (h0+i) ps [] [] qs).1 (pre (h0+i) ps [] [] qs).2)))))) (l:=l) (v:=(k,r')) zc zc (by rw[lN,d,kc];rfl);refine#[_,_,_,qS (fF (l:=[.m (ml N),.d (.int (h0+i))]) zc zc th) ((iI (fZ t2)).trans ((fu (env1:=rS za zm N l h x (xN (h0+i)) (ae (.d (.aA (aW dP (aK (pre (h0+i) ps [] [] qs).1 (pre (h0+i) ps [] [] qs).2))))) (xN k) (xN r')) (bx1:=B) ?_).trans (f9 (fE (x:=.int x) (y:=.int (cP rl hold op q.2 ps qs l (h0+i))) (r:=.old (.int (x+cP rl hold op q.2 ps qs l (h0+i)))) zc (fF (l:=[.d za,.d zm,.m (ml N),.d (.int k),.d (.int r'),.d (.int (h0+i))]) zc zc gv) zc))))];rw[oN,gt];rfl
   let#[y7,y8,y9,b]:=bd;let#[z6,z7,z8,z9,e]:=az (i+1) (xN (h0+i)) y7 y8 y9;refine#[z6,z7,z8,z9,?_];rw[ex,show h0+((i+1:Nat):Int)=h0+i+1 by lia,show i+1+m=i+(m+1) by lia]at e;rw[FM,<-hx,io rfl b];show e
def wK (rl:List Int) (hold:Int) (op:Al) (kl:List (Int×List Int)) (ps:Al) (qs:List Pg) (l h:Int):Option Int:=match wJ ps qs l with
 |some (.aF h0 _ k _ p _)=>if h<h0 then ag else ae (p+sm (cP rl hold op ((kl[k.toNat]?).getD (0,[])).2 ps qs l) h0 (h-h0).toNat)
 |_=>ag
theorem RG (Z:Sc rs ks ps hd rl hold kl op gs qs) (A:La ps qs B N dr):K21.jt [.d za,.d zm,.m (ml N),.d (.int l),.d (.int h)] B=.val (.d (oI (wK rl hold op kl ps qs l h))) B:=by
 have t0:=DI (e:=enc) (L:=nE ps [] [] [] qs) (k:=dV 3) (m:=bV (dV 2) "came") (env:=[ae (.d za),ae (.d zm),ae (.m (ml N)),xN l,xN h,ag,ag,ag,ag,ag]) (bx:=B) (l:=l) ah zc (lc zc Ko) (lM A.c);rw[GM]at t0;unfold wK;cases c:wJ ps qs l with
 |none=>
   rw[c]at t0;show fT (qR (MG (fZ t0)) zc)
 |some g=>
   rw[c]at t0;let#[h0,k,r,p,w,q,rfl,Y,aes,_]:=NB Z c;have ca:∀ {e:aP},e[2]?=ae (ae (.m (ml N)))->e[3]?=ae (xN l)->cg (bV (dV 2) "came") (dV 3) e B=.val (.d (enc zA)) B:=λa b=>mL (e:=enc) (L:=nE ps [] [] [] qs) (l:=l) (v:=.aF h0 l k r p w) (by rw[Ak,b]) (lc (by rw[Ak,a]) Ko) (lM A.c) (by rw[GM,c]);have cx:∀ {e:aP}{j:Int}{y:D},e[2]?=ae (ae (.m (ml N)))->e[3]?=ae (xN l)->ax (enc zA) (.int j)=ae (.old y)->d2 af ax (cg (bV (dV 2) "came") (dV 3)) (dC (.int j)) e B=.val (.d y) B:=λa b c=>fE (ca a b) zc c;have t1:=lK (fZ t0) (fZ (fE (g:=eK) (k:=dV 4) (r:=.old (.bl (decide (h<h0)))) (cx (j:=0) (y:=.int h0) zc zc zc) (y:=.int h) zc (by simp[eK])));erw[Y.hq,vH];by_cases y:h<h0
   .rw[decide_eq_true y]at t1;rw[if_pos y];show fT (qR t1 zc)
   .rw[decide_eq_false y]at t1;rw[if_neg y];let#[y6,y7,y8,y9,e]:=JX (h:=h) Z A Y (h-h0).toNat 0 ag ag ag ag;rw[show h0+((0:Nat):Int)=h0 by lia,show p+sm zaj h0 0=p by change p+(0:Int)=p;lia,Hf]at e;show fT (qF t1 (qS (cx (y:=.int p) zc zc zc) ((fu ((im (Cj (i:=h0) (j:=h) (fj (cx (y:=.int h0) zc zc zc) (fj zc zc)))).trans e)).trans (fV zc))))
theorem U6 (Z:Sc rs ks ps hd rl hold kl op gs qs) (l0:0<=l) (l9:l<=9) (hh:0<=h):jq [.d za,.d zm,.d zo,.d (.int l),.d (.int h)] B=.val (.d (oI (wK rl hold op kl ps qs l h))) B:=by
 have cv:=U5 (bx:=B) Z l;have sv:=Rz (bx:=B) Z;obtain⟨S,hS⟩:∃ S,S=D.lst ((dS ps [] [] qs).map cL):=#[_,rfl];rw[<-hS]at cv sv;have f:∀ {b:aB}{o:OS}{x:D},gK [.d S,.d (.int l)] B=.val (.d x) B->b [ae (.d za),ae (.d zm),ae (.d zo),xN l,xN h,ae (.d S),ae (.d x)] B=o->fv (gf (fq a9.ie 4 (fc (dV 0) (fc (dV 1) (fc (dV 2) zaK))))) (fv (gf (fq a9.iU 1 zZ)) (fv (fC (fq cT.gJ 2 (fc (dV 0) zL)) (fe 5)) (fv (fC (fq a9.gK 2 (fc (dV 5) zaK)) (fe 6)) b))) [ae (.d za),ae (.d zm),ae (.d zo),xN l,xN h,ag,ag] B=o:=λc k=>
  qE (fF (l:=[.d za,.d zm,.d zo,.d (.int l)]) zc zc (M3 Z l0 l9)) (qE (fF (l:=[.d (.int h)]) zc zc (Ry hh)) (qS (fF (l:=[.d za,.d zo]) zc zc sv) (qS (fF (l:=[.d S,.d (.int l)]) zc zc c) k)))
 unfold wK;cases c:wJ ps qs l with
 |none=>
   rw[c]at cv;show fT (f cv (qR (w:=.d .non) (bx2:=B) (MG (bx1:=B) zc) zc))
 |some g=>
   rw[c]at cv;let#[h0,k,r,p,w,q,rfl,Y,aes,_]:=NB Z c;have rv:=U2 (bx:=B) Z.X Z.ol Z.s Z.ok Z.l Y h;rw[<-hS]at rv;have n2:=λ(e:aP) (a:e[6]?=ae (ae (.d (enc zA)))) (b:e[4]?=ae (xN h))=>fZ (fE (g:=eK) (x:=.int h0) (y:=.int h) (r:=.old (.bl (decide (h<h0)))) (bx:=B) (wH zA a) (k:=dV 4) (by rw[Ak,b]) (by simp[eK]));erw[Y.hq,vH];by_cases y:h<h0
   .rw[decide_eq_true y]at n2;rw[if_pos y];show fT (f cv (qR (w:=.d .non) (bx2:=B) (lK (bx1:=B) zc (n2 _ zc zc)) zc))
   .rw[decide_eq_false y]at n2;rw[if_neg y];show fT (f cv (qF (lK (bx1:=B) zc (n2 _ zc zc)) (fV (fF (l:=[.d za,.d zm,.d S,.d (enc zA),.d (.int h)]) zc zc rv))))
theorem Ww (Z:Sc rs ks ps hd rl hold kl op gs qs) {t:Int}(e:wK rl hold op kl ps qs l h=ae t) (hh:0<=h):0<=t /\ t<=999+9*h:=by
 unfold wK at e;cases c:wJ ps qs l with
 |none=>rw[c]at e;cases e
 |some g=>
   let#[h0,k,r,p,w,q,rfl,Y,aes,#[p0,p9],_]:=NB Z c;rw[c]at e;erw[Y.hq,vH]at e;split at e
   .cases e
   .have gb:=λx=>NA (op:=op) Z.X (qN Y.hq) qs l x;have s:∀ n:Nat,0<=sm zaj h0 n /\ sm zaj h0 n<=9*n:=by
     intro n;induction n with
     |zero=>show#[yN _,yN _]
     |succ n ih=>have:=gb (h0+n);constructor<;>(erw[sm];lia)
    have:=s (h-h0).toNat
    cases e;lia
end
theorem GN (s:String):PyData.strOk (Str.ofString s)=ah:=by
 unfold PyData.strOk;rw[Str.ofString_eq_toList];erw[List.all_toArray,tL,c5];intro c _;have:=c.valid;change decide (c.toNat<0x110000)=ah;erw[decide_eq_true_eq];rcases this with h|h
 .change c.val.toNat<_;lia
 .change c.val.toNat<_;lia
theorem ND (t:Option Int):PyData.strOk (toPy (oI t)).shown=ah:=by
 cases t with
 |none=>show GN "None"
 |some i=>show GN (toString i)
theorem U7 (h:PyData.strOk x=ah):dO (.lst [.str x,.str x]) (.lst [.str x,.str x])=ae (.old (.bl af)):=by
 have o:kz (.lst [.str x,.str x])=ah:=by
  unfold kz;rw[show (toPy (.lst [.str x,.str x])).canLay0=ah by simp[toPy,bJ,PyData.canLay0,PyData.canLayAll0,h]];rw[QZ,decide_eq_true_eq];simp[toPy,bJ,PyData.depth,PyData.depthAll]
 have v:eqv (.lst [.str x,.str x]) (.lst [.str x,.str x])=ah:=afl _ (mj o).1;change xZ ah (.lst [.str x,.str x]) (.lst [.str x,.str x])=_;unfold xZ;rw[o,v];rfl
theorem RH (x:Str):dO (.str x) (.str x)=ae (.old (.bl af)):=by
 change ae (Res.old (.bl (!decide (x=x))))=_;rw[decide_eq_true rfl];rfl
section
variable {ps op:Al} {N:Nat} 
abbrev ltB:aB:=zM
abbrev wE (a b c:Option W) (H:D) (x4:Option W) (O P:D) (x7:Option W) (N:Nat) (x9 vk tj qB qC pY:Option W):aP:=[a,b,c,ae (.d H),x4,ae (.d O),ae (.d P),x7,ae (.m (ml N)),x9,vk,tj,qB,qC,pY]
theorem U8 (Z:Sc rs ks ps hd rl hold kl op gs qs) (A:La ps qs B N dr) {l h:Int}(l0:0<=l) (l9:l<=9) (h0:0<=h) (h1:h<=10 ^ 41) (a b c x4 x7 x9 vk tj pY:Option W) :
 ∃ y,ltB (wE a b c za x4 zm zo x7 N x9 vk tj (xN l) (xN h) pY) B=.nx (wE a b c za x4 zm zo x7 N x9 vk tj (xN l) (xN h) y) B:=by
 have sz:=br;have e1:=RG (l:=l) (h:=h) Z A;have e2:=U6 (B:=B) Z l0 l9 h0;have bd:=λt e=>Ww (l:=l) (t:=t) Z e h0;generalize wK rl hold op kl ps qs l h=u at *;have cs:v9 (oI u)=ah:=by
  cases u with
  |none=>show mJ (B:=0) (a:=0) (b:=4) Sm.non ze ze zd
  |some i=>
    have:=bd i zc;show mJ (B:=10 ^ 43) (a:=0) (b:=1921) (Sm.int zd) ze ze zd
 refine#[ae (.d (.str (toPy (oI u)).shown)),qS (Cq (fF (l:=[.d za,.d zm,.m (ml N),.d (.int l),.d (.int h)]) zc zc e1) cs) ((gx (fZ (fE (r:=.old (.bl af)) ?_ (jy [.str (toPy (oI u)).shown,.str (toPy (oI u)).shown] zc zk) (U7 (ND u))))).trans zc)];refine gD (l:=([0,1].map D.int).map W.d) (e2:=[ag,ae (.d za),ae (.d zm),ae (.d zo),xN l,xN h]) (j6 (j:=2) zc ze) zc ?_;show(sZ (E:=λi:Int=>[xN i,ae (.d za),ae (.d zm),ae (.d zo),xN l,xN h]) (J:=λenv=>∃ a,env=[a,ae (.d za),ae (.d zm),ae (.d zo),xN l,xN h]) (λ_=>ah) (λ_:Int=>D.str (toPy (oI u)).shown) (λ_=>#[_,rfl]) [0,1] _ [] zk #[_,rfl] (λi _ env ⟨a,e⟩=>by subst e;rfl) λi m=>#[rfl,λ_=>Cq (fF (l:=[.d za,.d zm,.d zo,.d (.int l),.d (.int h)]) zc zc e2) cs])
theorem RI (X:Hk rs ks ps hd rl hold kl):∀ p∈ps,p.1.natAbs<=9 /\ p.2.natAbs<=9:=by
 have h:=X.H.hh;have k4:=X.H.k4;erw[house,aG]at h;let#[_,_,h3,_]:=h;erw[apart,aG]at h3;let#[qy,e,b]:=ME h3.1;intro p m;have:dP p∈qy.map dP:=by rw[<-e];show uM m
 let#[p',m',e']:=bA.mp this;have ee:p'=p:=by
  cases p;cases p';injection e' with e1;injection e1 with a1 a2;injection a2 with a3 _;injection a1 with a1;injection a3 with a3;show Prod.ext a1 a3
 subst ee;have:=b p' m';have lk:lenOf (.tup ks)=(ks.length:Int):=rfl;rw[lk]at this;lia
theorem Wx (X:Hk rs ks ps hd rl hold kl):Sm (10 ^ 41) 4 4000000 za:=by
 have it:∀ {i:Int}{a:Nat},i.natAbs<=10 ^ 41->Sm (10 ^ 41) a 1921 (.int i):=λh=>Sm.int h;have pb:=RI X;have pl:=X.H.l;have r5:=X.H.r5;have k4:=X.H.k4;have rm:=bc.of (B:=10 ^ 41) (a:=2) (b:=1921) (l:=rl.map D.int) λd m=>by
  let#[c,mc,rfl]:=bA.mp m;show it (by have:=X.r c mc;lia)
 have pm:=bc.of (B:=10 ^ 41) (a:=2) (b:=3849) (l:=ps.map dP) λd m=>by
  let#[p,mp,rfl]:=bA.mp m;have:=pb p mp;show(Sm.tup (bc.cons (it (a:=0) zd) (bc.cons (it zd) bc.nil))).mono ze ze
 have km:=bc.of (B:=10 ^ 41) (a:=2) (b:=9625) (l:=kl.map tu) λd m=>by
  let#[q,mq,rfl]:=bA.mp m;have kq:=X.k q mq;have rr:=bc.of (B:=10 ^ 41) (a:=0) (b:=1921) (l:=q.2.map D.int) λd m=>by
   let#[c,mc,rfl]:=bA.mp m;show it (by have:=kq.2.2.2 c mc;lia)
  rw[a6,kq.2.2.1]at rr;show(Sm.tup (bc.cons (it (i:=q.1) zd) (bc.cons (Sm.tup rr) bc.nil))).mono ze ze
 rw[X.er]at r5;rw[X.ek]at k4;have all:=Sm.tup (bc.cons (Sm.tup rm) (bc.cons (Sm.tup km) (bc.cons (Sm.tup pm) (bc.cons (it (i:=hold) (by have:=X.h;lia)) bc.nil))));rw[X.er,X.ek,X.eh];refine all.mono (aD _) ?_;rw[a6]at r5 k4;rw[a6,a6,a6];lia
end
abbrev Y2:DE W:=rF (fN (fc (dV 3) (fc (dV 5) (fc (dV 6) fg))))
abbrev aet:aB:=za3
abbrev aeu:aB:=gZ (bD (dV 10)) (fe 13) ltB
abbrev Y3:aB:=(fv (fC (fq K1.jS 1 (fc (fq K1.g9 2 (fc (dV 0) zF)) fg)) (fe 2)) (fv (fC (fq aH.iP 1 zL) (fe 3)) (fv zaY (fv zat (fv (ku 8 9 (fc (fq aH.jo 2 (fc (dV 3) (fc (dV 6) fg))) (fc Y2 fg))) (fv (fC (gq af (fc (dV 7) (fc (d2 af fK (dV 7) (fq K1.fm 2 (fc (dV 2) (fc (dC (.int 90)) fg)))) (fc (d2 af fK (dV 7) (dC (.int 60))) fg)))) (fe 10)) (fv (gZ (bD (kJ af (dV 6) kT (kI (dC (.int 4))))) (fe 11) aet) (fv (gZ (cS (fc (dC (.int 10)) fg)) (fe 12) aeu) (aM (dB (d2 af dO Y2 (dV 9))) (fG (dC (.bl af))) aV)))))))))
theorem U9:NC=(fv (gZ (cS (fc (dN af maxD (fc zf (fc (dN af minD (fc (ui (dV 0)) zz)) fg))) fg)) (fe 1) Y3) (fG (dC (.bl ah)))):=rfl
theorem aio (l:List Int) (bx:List Bx) (xs:aP):∃ c:Nat,cS (fc (dN af maxD (fc zf (fc (dN af minD (fc (ui (dV 0)) zz)) fg))) fg) (ae (.s l)::xs) bx=.val (fJ 0 c) bx:=by
 have e2:=jb (env:=ae (.s l)::xs) (bx:=bx) (r:=.old _) [.int l.length,.int 4] (fj (m:=ui (dV 0)) zc (fj (m:=dC (.int 4)) (ks:=fg) zc zc)) (Sy _ _);have e3:=jb (env:=ae (.s l)::xs) (bx:=bx) (r:=.old (.int (if min (l.length:Int) 4>1 then min (l.length:Int) 4 else 1))) [.int 1,.int (min (l.length:Int) 4)] (g:=maxD) (fj (m:=dC (.int 1)) zc (fj e2 (ks:=fg) zc)) zc;generalize hz:(if min (l.length:Int) 4>1 then min (l.length:Int) 4 else 1)=z at e3;have zb:0<=z /\ z<=4:=by
  rw[<-hz];split<;>lia
 show#[z.toNat,j6 (fj e3 zc) zd]
theorem SA {A:List Bx}{q:Int}{th:At}{go:Al}{av wd:List D}(h:n<A.length):Bl (pt A n q) th ca go dr av wd=pt (Bl A th ca go dr av wd) n q:=by
 unfold Bl pt;rw[Hw _ _ h]
def Ho (hl:List Int):zu:=∀ h∈hl,0<=h /\ h<=10 ^ 41
theorem lY {l:List α}(h:l.length=n+1):∃ x t,l=x::t /\ t.length=n:=by
 cases l with
 |nil=>cases h
 |cons x t=>show#[x,t,rfl,Nat.succ.inj h]
theorem Wy (l:List Int) (k:Nat) (bx:List Bx) (xs:aP) (hx:xs.length=13):∃ (ys:aP) (bx':List Bx),ys.length=14 /\ Y3 (ae (.s l)::xN (k:Int)::xs) bx=.nx (ae (.s l)::ys) bx':=by
 iterate 9 (have h:=lY hx;clear hx;let#[_,xs,rfl,hx]:=h)
 have h:=lY hx;clear hx;let#[tj,xs,rfl,hx]:=h;have h:=lY hx;clear hx;let#[qB,xs,rfl,hx]:=h;have h:=lY hx;clear hx;let#[qC,xs,rfl,hx]:=h;have h:=lY hx;clear hx;let#[pY,xs,rfl,hx]:=h;cases xj hx;have sz:=br;let#[c,ec]:=Ux l k bx;let#[p,ep]:=V2 c bx;obtain⟨A,hn,pA⟩:∃ A:List Bx,bx.length<A.length /\ bx++[Bx.lst [D.int p]]=pt A bx.length p:=
  #[bx++[.lst [.int p]],by simp,by unfold pt;simp]
 rw[pA]at ep;generalize bx.length=n at *;let#[rs,ks,ps,hd,q,eh,H]:=aH.Nb hn p;let#[rl,hold,kl,X]:=Wq H;let#[near,q1,t1,mn]:=Km hn q [8,40] (fc (dC (.int 8)) (fc (dC (.int 40)) fg)) (λ_ _=>rfl) (k:=2) zc (by decide) ze;have Y4:0<near /\ near<=40:=by simp at mn;lia
 let#[gs,q2,e2,nd,ok,gl]:=Nf (mo:=16) hn H q1 near Y4.1 Y4.2 ze ze;let#[nr,q3,t3,mr]:=Km hn q2 [9,25] (fc (dC (.int 9)) (fc (dC (.int 25)) fg)) (λ_ _=>rfl) (k:=2) zc (by decide) ze;have aev:0<nr /\ nr<=30:=by simp at mr;lia
 let#[op,q4,e4,O]:=RF aev.1 aev.2 hn q3;let#[eC,q5,e5,c0,c1]:=Wv hn q4 O.l (gs:=gs) zd;have O2:Ot (op.map (rX eC)) (10 ^ 40):=#[by rw[a6];show O.l,λx m=>by
  let#[y,my,rfl]:=bA.mp m;have:=O.b y my;show#[by change 0<=y.1+eC;lia,by change y.1+eC<y.2+eC;lia,by change y.2+eC<=_;lia],DZ O.a]
 have l1:(gs.map (sh eC)).length<=16:=by rw[a6];show gl
 have o1:∀ g∈gs.map (sh eC),Lt rs.length ks.length g:=λg m=>by
  let#[g0,m0,rfl]:=bA.mp m;show Wh (ok g0 m0) c0 c1 Y4.2
 have n1:(gs.map (sh eC)).Nodup:=tM.mpr (nd.imp λh z=>h (UR z));generalize gs.map (sh eC)=g1 at *;generalize op.map (rX eC)=oo at *;let#[qs,pq,aip,so]:=GA n1 zd;have Z:Sc rs ks ps hd rl hold kl oo g1 qs:=#[X,#[λg m=>(o1 g m).1,n1,l1],so g1 (.refl _),pq,aip,O2.l,λx m=>#[(O2.b x m).1,(O2.b x m).2.1],O2.a];let#[th,go,dr,e6,Q,oq]:=a9.Rp (bx:=pt A n q5) H Z.l Z.so;rw[SA hn,gp]at e6;have LA:∀ q,La ps qs (pt (Bl A th (nE ps [] [] [] qs) go dr (rT ps [] [] qs) (EU ps qs)) n q) A.length dr:=λq=>by
  rw[<-SA hn,<-gp (bx:=A) (n:=n) (p:=q)];show#[YT,aef,oq,YU]
 have hB:n<(Bl A th (nE ps [] [] [] qs) go dr (rT ps [] [] qs) (EU ps qs)).length:=by simp[Bl];lia
 generalize Bl A th (nE ps [] [] [] qs) go dr (rT ps [] [] qs) (EU ps qs)=B at *;generalize A.length=N at *;have aiq:v9 (.tup [hs rs ks ps hd,.tup (oo.map dP),.lst (g1.map enc)])=ah:=by
  have a:=Wx X;have b:=bc.of (B:=10 ^ 41) (a:=1) (b:=3849) (l:=oo.map dP) λd m=>by
   let#[x,mx,rfl]:=bA.mp m;have:=O2.b x mx;show(Sm.tup (bc.cons (Sm.int zd) (bc.cons (Sm.int zd) bc.nil)))
  have cc:=bc.of (B:=10 ^ 41) (a:=1) (b:=14000) (l:=g1.map enc) λd m=>by
   let#[g,mg,rfl]:=bA.mp m;show Rb ze H.r5 H.k4 (o1 g mg).1 (cC (o1 g mg).2 ze)
  rw[a6]at b cc;have ol:=O2.l;refine mJ (Sm.tup (bc.cons a (bc.cons ((Sm.tup b).mono (show _<=4 by decide) (aD _)) (bc.cons ((Sm.lst cc).mono (show _<=4 by decide) (aD _)) bc.nil)))) ze ze zd
 have rp:∀ (env:aP) (C:List Bx),fc (dV 3) (fc (dV 5) (fc (dV 6) fg)) env C=.val ([hs rs ks ps hd,.tup (oo.map dP),.lst (g1.map enc)].map W.d) C->Y2 env C=.val (.d (.str (toPy (.tup [hs rs ks ps hd,.tup (oo.map dP),.lst (g1.map enc)])).shown)) C:=λenv C e=>Cq (gk [hs rs ks ps hd,.tup (oo.map dP),.lst (g1.map enc)] e zk) aiq;generalize (toPy (.tup [hs rs ks ps hd,.tup (oo.map dP),.lst (g1.map enc)])).shown=kept at *;let#[r6,q6,t6,akj,akk]:=nC hB q5 90 ze ze;obtain⟨mm,hm⟩:∃ m,DL.cutD (g1.map enc) ag (ae 4)=(g1.map enc).take m:=#[_,rfl]
 let E:=λ(vk tj qB qC pY:Option W)=>wE (ae (.s l)) (xN (k:Int)) (xB n) za (ae (.d zo)) (.tup (oo.map dP)) (.lst (g1.map enc)) (xN eC) N (ae (.d (.str kept))) vk tj qB qC pY
 let#[env1,b1,f1,hl,vo,q7,rfl,rfl,ho,eV]:=j7 (g:=fe 11) (body:=aet) (λi env b=>∃ (hl:List Int) (y:Option W) (q:Int),env=E (xJ hl) y qB qC pY /\ b=pt B n q /\ Ho hl /\ hl.length=3+2*i) (((g1.map enc).take mm).map W.d) 0 (E (xJ [eC,eC+r6,eC+60]) tj qB qC pY) (pt B n q6) #[_,_,_,rfl,rfl,λh m=>by simp at m;lia,rfl] (by
  rintro i w env b hw ⟨hl,y,q,rfl,rfl,ho,eV⟩;let#[d,md,rfl]:=bA.mp (qN hw);let#[g,mg,rfl]:=bA.mp (List.mem_of_mem_take md);have og:=o1 g mg;have ol:(oo.map dP).length<=4:=by rw[a6];show O2.l
  have ii:i<16:=by
   have:=(List.getElem?_eq_some_iff.mp hw).1;rw[a6,xa,a6]at this;lia
  let#[r,q',t,r0,r1]:=nC hB q 20 ze ze;have oh:0<=aJ g /\ aJ g<=10 ^ 40:=#[(by have:=og.1;cases g<;>show this.1),by have:=og.2;lia];refine#[E (xJ hl) (ae zt) qB qC pY,pt B n q,E (xJ (hl++[aJ g,aJ g+1+r])) (ae zt) qB qC pY,pt B n q',rfl,?_,_,_,_,rfl,rfl,λh m=>?_,by rw[cZ,eV];simp;lia]
  .refine(f9 (fE (x:=.lst (hl.map D.int)) (y:=.lst [.int (aJ g),.int (aJ g+1+r)]) (r:=.lst ((hl++[aJ g,aJ g+1+r]).map D.int)) zc (jy [.int (aJ g),.int (aJ g+1+r)] (fj (wH g zc) (fj (fE (x:=.int (aJ g+1)) (y:=.int r) (r:=.old (.int (aJ g+1+r))) (fE (x:=.int (aJ g)) (y:=.int 1) (r:=.old (.int (aJ g+1))) (wH g zc) zc zc) (t zc zc) zc) zc)) zk) ?_)).trans zc;rw[vE];show if_pos (by rw[a6,eV];simp;lia)
  .rcases nT.mp m with m|m
   .show ho h m
   .simp at m;lia)
 let#[bq,b2,f2,akl,Y5,vp,uC,rfl,rfl]:=j7 (g:=fe 12) (body:=aeu) (λ_ env b=>∃ vo Y5 vp uC,env=E (xJ hl) vo Y5 vp uC /\ b=pt B n q7) (fJ 0 10) 0 (E (xJ hl) vo qB qC pY) (pt B n q7) #[_,_,_,_,rfl,rfl] (by
  rintro i w env b hw ⟨vo,Y5,vp,uC,rfl,rfl⟩;let#[rfl,hi]:=Bd hw;let#[pQ,b3,f3,akm,akn,rfl,rfl]:=j7 (g:=fe 13) (body:=ltB) (λ_ env b=>∃ vp uC,env=E (xJ hl) vo (xN (0+(i:Int))) vp uC /\ b=pt B n q7) ((hl.map D.int).map W.d) 0 (E (xJ hl) vo (xN (0+(i:Int))) vp uC) (pt B n q7) #[_,_,rfl,rfl] (by
   rintro j w env b hw ⟨vp,uC,rfl,rfl⟩;let#[d,md,rfl]:=bA.mp (qN hw);let#[h,mh,rfl]:=bA.mp md;let#[z,e]:=U8 (l:=0+(i:Int)) (h:=h) Z (LA q7) zd zd (ho h mh).1 (ho h mh).2 (ae (.s l)) (xN (k:Int)) (xB n) (ae (.d zo)) (xN eC) (ae (.d (.str kept))) (xJ hl) vo uC;show#[_,_,_,_,rfl,e,_,_,rfl,rfl])
  show#[E (xJ hl) vo (xN (0+(i:Int))) vp uC,_,_,_,rfl,(im (gn zc)).trans f3,_,_,_,_,rfl,rfl])
 refine#[_,_,?_,qS (fF (fj (fF (fj zc (fj zc zc)) zc ec) zc) zc ep) (qS (fF (fj zc zc) zc eh) (qS (fF (l:=[.b n,.d za,.d (.int 16),.d (.int near)]) (fj zc (fj zc (fj zc (fj (t1 _ 2 zc) zc)))) zc e2) (qG (fF (l:=[.b n,.d zm,.d zo]) (fj zc (fj (fF (l:=[.b n,.d (.int nr)]) (fj zc (fj (t3 _ 2 zc) zc)) zc e4) (fj zc zc))) zc e5) zc ((fu (cT.oj (fj (fF (l:=[.d za,.d (.lst (g1.map enc))]) zc zc e6) (fj (rp _ _ zc) zc)))).trans (qS (jy [.int eC,.int (eC+r6),.int (eC+60)] (fj zc (fj (fE (x:=.int eC) (y:=.int r6) (r:=.old (.int (eC+r6))) zc (t6 zc zc) zc) (fj (fE (x:=.int eC) (y:=.int 60) (r:=.old (.int (eC+60))) zc zc zc) zc))) zk) ((fu ((im (gn (MH (x:=.lst (g1.map enc)) (i:=ag) (j:=ae 4) (r:=.lst ((g1.map enc).take mm)) zc zc zc (by rw[<-hm];rfl)))).trans f1)).trans ((fu ((im (aH.WU 10 ze _ _)).trans f2)).trans ((gx (fZ (fE (x:=.str kept) (y:=.str kept) (r:=.old (.bl af)) (rp _ _ zc) zc (RH kept)))).trans zc))))))))];rfl
theorem law_true (l:List Int) (hl:l.length<=1000):∃ bx',CD [.s l] []=.val zap bx':=by
 let#[c,ec]:=aio l [] (List.replicate 14 ag);let#[aN,bx',e,ys,rfl,hy]:=j7 (g:=fe 1) (body:=Y3) (λ_ env b=>∃ ys:aP,env=ae (.s l)::ys /\ ys.length=14) (fJ 0 c) 0 (ae (.s l)::List.replicate 14 ag) [] #[_,rfl,rfl] (by
  rintro i w env b hw ⟨ys,rfl,hy⟩;let#[k,_,rfl]:=bA.mp (qN hw);let#[x,ys,rfl,h]:=lY hy;let#[zs,bx',hz,e]:=Wy l k b ys h;show#[ae (.s l)::xN (k:Int)::ys,b,_,_,by rw[abN];rfl,e,zs,rfl,hz])
 refine#[_,lL (bx':=bx') ?_];change NC (ae (.s l)::List.replicate 14 ag) []=_;rw[U9];show(fu ((im ec).trans e)).trans (fV zc)
end K21
namespace L2.DL
open PySem.W
structure Cf where
 N:List Str
 nm:List (Str×NameKind)
 f:Bool
 bx:List Str
 dc:List Str
 wk:List (Str×Nat)   -- 1: a tuple of ako,2: a box that is walked,3: a dict with tuple keys
 Kv:Str
 fs:List (Str×(Nat×(List W->List Bx->O W)))
 gl:List (Str×Int)
 bl:List Str
 rb:Bool
 ow:List Str
structure cH (c:Cf) (k:Nat) (X:Cx) (Z:Xs):zu where
 N:X.N=c.N
 nm:X.env.scope.names=c.nm
 kd:X.env.scope.kind=.function
 calm:X.calm=ah
 fn:c.f=ah->∀ x,X.fn x=ah
 ow:∀ x,x∈c.ow->X.fn x=ah
 nd:c.N.Nodup
 room:di k X.A
 fs:∀ x n fn,c.fs.lookup x=ae (n,fn)->∃ kk ps,rJ X.prog X.w X.K X.mg X.base Z.cl kk x ps fn /\ ps.length=n /\ kk<=k
 gl:∀ x v,c.gl.lookup x=ae v->∃ t,X.mg x=ae (.int v t)
 bl:∀ x,x∈c.bl->X.mg x=ag
 air:Passes (qr X.prog X.w) X Z.E
 ti:pS X.K "int"
 tb:pS X.K "bool"
 tt:pS X.K "tuple"
 tl:pS X.K "list"
 own:PassesOwn zg X.A X.env X.xe
noncomputable def a4:DE α:=λ_ _=>.bad
section
variable {o:Option au}
theorem fH:PD X T Z e a4:=λ_ _ _ _ _ _ h=>by
 let#[_,_,_,_,_,h]:=h;show h.elim
theorem iq:eJ X T Z e a4:=λ_ _ _ _ _ _ h=>by
 let#[_,_,_,_,_,h]:=h;show h.elim
theorem GO:sO X T Z e a4:=λ_ _ _ _ _ _ _ h=>by
 let#[_,_,_,_,_,h]:=h;show h.elim
theorem RJ:dJ X T Z es a4:=λ_ _ _ _ _ _ _ h=>by
 let#[_,_,_,_,_,h]:=h;show h.elim
theorem CF:ud X T Z tg e a4:=λ_ _ _ _ _ _ h=>by
 let#[_,_,_,_,_,h]:=h;show h.elim
noncomputable def wL:DG:=λ_ _ _=>ag
noncomputable def aew:n8:=λ_ _ _=>ag
theorem lZ:kS X T e wL:=λ_ _ _ _ _ _ _ _ _ h=>by
 let#[_,_,_,_,_,_,_,h]:=h;show h.elim
theorem NE:uc X T es aew:=λ_ _ _ _ _ _ _ _ _ h=>by
 let#[_,_,_,_,_,_,_,h]:=h;show h.elim
end
noncomputable def Cf.kd (c:Cf) (x:Str) (n:Nat):Bool:=match c.wk.lookup x with|some k=>k==n|none=>af
def Kw (c:Cf) (n:Nat):au->Bool
 |.Name x _=>c.kd x n
 |.Subscript _ (.Constant (.str x) _ _) _=>c.kd x n
 |_=>af
noncomputable def wM (c:Cf):au->Bool
 |.Name x _=>c.dc.contains x
 |.Subscript _ (.Constant (.str x) _ _) _=>c.dc.contains x
 |.Call (.Name x _) _ _ _=>c.dc.contains x
 |_=>af
noncomputable def Cf.ix (c:Cf) (x:Str):Option Nat:=c.N.findIdx? λy=>decide (y=x)
theorem Cf.Y6 {c:Cf}{i:Nat}(h:c.ix x=ae i):c.N[i]?=ae x:=by
 let#[h1,h2,_]:=List.findIdx?_eq_some_iff_getElem.mp h;rw[dq h1,of_decide_eq_true h2]
noncomputable def Cf.Kx (c:Cf) (x:Str):Bool:=(decide (c.nm.lookup x=ae .local)||decide (c.nm.lookup x=ae .cell)||decide (c.nm.lookup x=ae .free))&&!(x==("__debug__":Str))&&!(x==("__classdict__":Str))
noncomputable def Cf.EY (c:Cf) (x:Str):Bool:=decide (c.nm.lookup x=ae .globalImplicit)&&!(x==("__debug__":Str))&&decide (x≠("__name__":Str))
noncomputable def Cf.wN (c:Cf) (x:Str):Bool:=(decide (c.nm.lookup x=ae .local)||decide (c.nm.lookup x=ae .cell))&&(c.f||decide (x∈c.ow)||decide (c.nm.lookup x=ae .local))
def Cf.pF (c:Cf) (x:Str):Bool:=c.EY x&&decide (x∈c.bl)
section
variable {c:Cf} {k:Nat} {i:Nat} 
theorem cH.HW (O:cH c k X Z) (h:c.Kx x=ah):vJ X.env.scope x /\ (x==("__debug__":Str))=af /\ (x==("__classdict__":Str))=af:=by
 erw[Cf.Kx,aG,wZ,decide_eq_true_eq,rZ]at h;unfold vJ;rw[O.nm];show#[or_assoc.mp h.1.1,h.1.2,h.2]
theorem cH.gb (O:cH c k X Z) (h:c.EY x=ah):Gl X x /\ (x==("__debug__":Str))=af /\ x≠("__name__":Str):=by
 erw[Cf.EY,aG,decide_eq_true_eq,rZ]at h;unfold Gl Env.kindOf;rw[O.nm];show#[h.1.1,h.1.2,h.2]
theorem cH.lo (O:cH c k X Z) (h:c.wN x=ah):Loc X.env.scope x /\ (X.fn x=ah \/ X.env.scope.names.lookup x=ae .local):=by
 erw[Cf.wN,aG,wZ,decide_eq_true_eq]at h;unfold Loc;rw[O.nm];show#[h.1,h.2.imp (λz=>z.elim (λz=>O.fn z x) (O.ow x)) id]
theorem cH.blt (O:cH c k X Z) (h:c.pF x=ah):Gl X x /\ (x==("__debug__":Str))=af /\ x≠("__name__":Str) /\ X.mg x=ag:=by
 erw[Cf.pF,aG,decide_eq_true_eq]at h;let#[a,b,d]:=O.gb h.1;show#[a,b,d,O.bl x h.2]
theorem cH.at (O:cH c k X Z) (h:c.ix x=ae i):X.N[i]?=ae x:=by rw[O.N];show c.Y6 h
theorem cH.vq (O:cH c k X Z):X.N.Nodup:=by rw[O.N];show O.nd
theorem cH.u0 (O:cH c k X Z):X.A.units+100<cLine:=by have:=O.room.un;lia
theorem cH.u1 (O:cH c k X Z):X.A.units+1<cLine:=by have:=O.room.un;lia
def Y7 (c:Cf) (fz:Bool) (x:Str):DE W:=match c.ix x with
 |some i=>if c.Kx x then (if fz&&c.bx.contains x then sR i else dV i) else a4
 | none=>match c.gl.lookup x with
   |some v=>if c.EY x then dC (.int v) else a4
   |none=>a4
theorem NG (O:cH c k X Z) (fz:Bool):PD X T Z (.Name x pos) (Y7 c fz x):=by
 unfold Y7;split
 .ext i e;split
  .ext h;let#[a,b,d]:=O.HW h;split
   .show TU i (O.at e) a b d
   .show Ls i (O.at e) a b d
  .show fH
 .split
  .ext v e;split
   .ext h;let#[a,b,_]:=O.gb h;show ON a (O.gl x v e) b
   .show fH
  .show fH
end
section
variable {c:Cf} {k:Nat} {f:au -> DE W} {t:au -> DE Bool} {g:au -> DG}
def wO (f:au->DE W):List au->DE zam
 |[]=>fg
 |e::es=>if bU e then fc (f e) (wO f es) else a4
theorem oW (h:∀ e,PD X T Z e (f e)):∀ es,dJ X T Z es (wO f es)
 |[]=>lQ
 | e::es=>by
   unfold wO;split
   .ext n;show mY (h e) (oW h es) n
   .show RJ
def Y8 (f:au->DE W):List au->DE W
 |[]=>a4
 |[a]=>f a
 |a::r=>gz (f a) (Y8 f r)
theorem GP (h:∀ e,PD X T Z e (f e)):∀ es,PD X T Z (.BoolOp .And es pos) (Y8 f es)
 |[]=>fH
 |[a]=>Tp (h a)
 |a::b::r=>Tq (h a) (GP h (b::r))
def Y9 (f:au->DE Bool):List au->DE Bool
 |[]=>a4
 |[a]=>f a
 |a::r=>kG (f a) (Y9 f r)
theorem D0 (h:∀ e,eJ X T Z e (t e)):∀ es,sO X T Z (.BoolOp .And es pos) (Y9 t es)
 |[]=>GO
 |[a]=>Ly (h a)
 |a::b::r=>Og (h a) (D0 h (b::r))
def Za (f:au->DE Bool):List au->DE Bool
 |[]=>a4
 |[a]=>f a
 |a::r=>nL (f a) (Za f r)
theorem GQ (h:∀ e,eJ X T Z e (t e)):∀ es,sO X T Z (.BoolOp .Or es pos) (Za t es)
 |[]=>GO
 |[a]=>Of (h a)
 |a::b::r=>To (h a) (GQ h (b::r))
def Ky (g:au->DG):List au->n8
 |[]=>fR
 |e::es=>if bU e then fr (g e) (Ky g es) else aew
theorem NH (h:∀ e,kS X T e (g e)):∀ es,uc X T es (Ky g es)
 |[]=>LG
 | e::es=>by
   unfold Ky;split
   .ext n;show T4 (h e) (NH h es) n
   .show NE
end
def aex:Operator->Option (D->D->Option Res)
 |.Add=>ae fK|.Sub=>ae cX|.Mult=>ae c6|.FloorDiv=>ae pR|.Mod=>ae ph|.Pow=>ae uf
 |_=>ag
def vt:CmpOp->Option (D->D->Option Res)
 |.Eq=>ae aT|.NotEq=>ae dO|.Lt=>ae cY|.LtE=>ae eW|.Gt=>ae eK|.GtE=>ae ug|.In=>ae (inD af)|.NotIn=>ae (inD ah)
 |_=>ag
theorem RK {op:Operator}(h:aex op=ae g):∃ q,bp X (binaryOp op) q /\ cD q g:=by
 cases op<;>cases h
 .show#[_,Ox,agD]
 .show#[_,SZ,agE]
 .show#[_,OI,ag6]
 .show#[_,S5,agG]
 .show#[_,S6,agH]
 .show#[_,N1,agF]
theorem l5 (hu:X.A.units+100<cLine) (h:vt op=ae g):∃ q,bp X (compareOp op) q /\ cD q g:=by
 cases op<;>cases h
 .show#[_,TN hu,ag4]
 .show#[_,TQ hu,ag5]
 .show#[_,Uh zd,ah3]
 .show#[_,TR zd,ag7]
 .show#[_,Vw,agI]
 .show#[_,Vx,agJ]
 .show#[_,G4.or (T5 hu),okIn af]
 .show#[_,B7.or (Jv hu),okIn ah]
def Zb:List (Str×(Bool×(String×(List D->Option Res)))):=
 [("len",af, "len",cz),("all",af, "all",dt),("any",af, "any",EH),("sorted",af, "sorted",dQ),("max",af, "max",maxD),("min",af, "min",minD),
  ("tuple",ah, "tuple",pU),("list",ah, "list",xV),("int",ah, "int",intD)]
def aey (X:Cx) (x:Str) (p:Bool×(String×(List D->Option Res))):zu:=
 match p with
 |(af,id,g)=>bootBuiltins x=ae (.builtin id) /\ ∃ q,eF X (.builtin id) q /\ kF q g
 |(ah,id,g)=>bootBuiltins x=ae (.type id) /\ ∃ q,eF X (.type id) q /\ kF q g
theorem jf {α:Type}{P:Str->α->zu}:∀ {l:List (Str×α)}{x:Str}{a:α},(∀ p∈l,P p.1 p.2)->l.lookup x=ae a->P x a
 |[],_,_,_,e=>by cases e
 | (y,b)::r,x,a,h,e=>by
   rw[kD]at e;cases hx:x==y with
   |true=>
     rw[hx]at e;cases e;have:x=y:=by simpa using hx
     subst this;show h _ (bE ..)
   |false=>
     rw[hx]at e;show jf (λp m=>h p (bB _ m)) e
theorem RL (hc:X.calm=ah) (hu:X.A.units+100<cLine) {p:Bool×(String×(List D->Option Res))}(h:Zb.lookup x=ae p):aey X x p:=by
 refine jf (P:=aey X) (λp m=>?_) h;erw[Zb,bz,pJ,or_false]at m;rcases m with rfl|rfl|rfl|rfl|rfl|rfl|rfl|rfl|rfl
 .show#[by decide +kernel,_,mQ,agL]
 .show#[by decide +kernel,_,Jf hc,agO]
 .show#[by decide +kernel,_,Jw hc,ahA]
 .show#[by decide +kernel,_,Fm hu,ahu]
 .show#[by decide +kernel,_,GX hc,agR]
 .show#[by decide +kernel,_,GY hc,agS]
 .show#[by decide +kernel,_,Bo,agP]
 .show#[by decide +kernel,_,B8,agQ]
 .show#[by decide +kernel,_,GZ,ahx]
noncomputable def Zc:List (Str×String):=[("int","int"),("bool","bool"),("tuple","tuple"),("list","list")]
theorem NI {c:Cf}{k:Nat}(O:cH c k X Z) {n:String}(h:Zc.lookup x=ae n):pS X.K n /\ bootBuiltins x=ae (.type n):=by
 refine jf (P:=λx n=>pS X.K n /\ bootBuiltins x=ae (.type n)) (λp m=>?_) h;erw[Zc,bz,pJ,or_false]at m;rcases m with rfl|rfl|rfl|rfl
 .show#[O.ti,by decide +kernel]
 .show#[O.tb,by decide +kernel]
 .show#[O.tt,by decide +kernel]
 .show#[O.tl,by decide +kernel]
end L2.DL
variable {c:L2.DL.Cf}
namespace L2.DL
open PySem.W
noncomputable def Zd:au->Bool
 |.Call ..=>af
 |_=>ah
theorem ju {o:au}{a:Str}{env:Env}{whole:Sem ai}(h:Zd o=ah):attributeBase o a env whole=whole:=by
 cases o<;>first|rfl|cases h
noncomputable def plainT:au->Bool
 |.BoolOp ..|.UnaryOp ..|.IfExp ..|.Compare ..=>af
 |_=>ah
theorem JY {env:Env}(h:plainT e=ah) (whole:Sem ai):PySem.isTrue e env whole=(do let v <-whole;standAt e.pos;holding [v] (truthy v)):=by
 cases e<;>first|rfl|cases h
noncomputable def Kz:au->Bool
 |.Set ..=>af
 |_=>ah
theorem jG {env:Env}(h:Kz e=ah) (x:ai):foldedSetIterable e env x=pure x:=by
 cases e<;>first|rfl|cases h
noncomputable def e9:au->Bool
 |.ListComp ..|.SetComp ..|.DictComp ..=>ah
 |_=>af
theorem lP {t:Option au}{l:Nat}{env:Env}(h:e9 e=af):swapsWith e t l env=pure af:=by
 cases e<;>first|rfl|cases h
noncomputable def EZ:au->Bool
 |.Slice ..=>af
 |_=>ah
section
variable {a b o:au} {mc:DE W} {p:aL}
theorem Bm (h:EZ b=ah):Il b:=λ_ _=>by
 cases b<;>first|rfl|cases h
theorem RM (h:EZ b=ah):IK b:=λ_ _=>by
 cases b<;>first|rfl|cases h
theorem E2 {env:Env}(h:bU e=ah):((backTo pos (starEach [e] env)).all (λx=>!x.1)&&(backToKw pos (keywordEach [] env)).all (λx=>x.1.isSome)&&decide zaf)=ah:=by
 rw[fI h];rfl
theorem Wz {Q:VK}(h:tD T Z (eX af ma) σ H Q):acx (tD T Z ma) σ H Q:=by
 let#[F,r,env,bx,R,h]:=h;refine#[F,r,env,bx,R,End.bind h λx bx1 F1 r1 v H1 g1 R1 d1 h1=>?_];cases x with
 |d d=>
   rw[Ao (show Den F1 d v from d1)];cases d<;>show h1 F1 r1 _ H1 zS R1 zc
 |_=>show h1.elim
theorem Va {Q:VK}(h:tD T Z (eX ah ma) σ H Q):acy (tD T Z ma) σ H Q:=by
 let#[F,r,env,bx,R,h]:=h;refine#[F,r,env,bx,R,End.bind h λx bx1 F1 r1 v H1 g1 R1 d1 h1=>?_];cases x with
 |d d=>
   rw[Ao (show Den F1 d v from d1)];cases d<;>show h1 F1 r1 _ H1 zS R1 zc
 |_=>show h1.elim
theorem RN (hu:X.A.units+1<cLine) (hi:PD X T Z e mb) (ho:PD X T Z o ma) (hm:behindInMarks .In o=af):eJ X T Z (.Compare e [.In] [o] pos) (dB (c8 af mb ma)):=
 PT.imp (BZ (Fd hu hi ho) hm) λσ H Q h=>C6 (Lw h)
theorem NJ (hu:X.A.units+1<cLine) (hi:PD X T Z e mb) (ho:PD X T Z o ma) (hm:behindInMarks .NotIn o=af):eJ X T Z (.Compare e [.NotIn] [o] pos) (dB (c8 ah mb ma)):=
 PT.imp (BZ (BF hu hi ho) hm) λσ H Q h=>L9 (Lw h)
end
section
variable {k:Nat} {p:aL} {f:au -> DE W} {o:au}
def E3 (c:Cf) (f:au->DE W) (bo:Bool) (x:Str) (es:List au):DE W:=
 match c.fs.lookup x with
 | some (n,fn)=>(match es with
   |[]=>a4
   |e::es=>if c.EY x&&pz (e::es) then fq fn n (wO f (e::es)) else a4)
 | none=>match Zb.lookup x with
   | some (_,_,g)=>(match es with
     |[]=>a4
     |e::es=>if c.pF x&&pz (e::es) then dN bo g (wO f (e::es)) else a4)
   |none=>a4
theorem CG (O:cH c k X Z) (h:∀ e,PD X T Z e (f e)) (bo:Bool) (es:List au):PD X T Z (.Call (.Name x p) es [] pos) (E3 c f bo x es):=by
 unfold E3;split
 .ext n fn e;split
  .show fH
  .split
   .ext a as q;rw[aG]at q;let#[g1,g2,_]:=O.gb q.1;let#[kk,ps,hh,hn,hk]:=O.fs x n fn e;show VO hh O.room hk g1 O.air (oW h _) q.2 hn g2
   .show fH
 .split
  .ext ty id g e;split
   .show fH
   .split
    .ext a as q;rw[aG]at q;let#[g1,g2,g3,g4]:=O.blt q.1;have b:=RL O.calm O.u0 e;cases ty with
     |false=>
       let#[b1,qq,b2,b3]:=b;show VN bo b2 b3 g1 g4 b1 (oW h _) q.2 g3 g2
     |true=>
       let#[b1,qq,b2,b3]:=b;show T3 bo b2 b3 g1 g4 b1 (oW h _) q.2 g3 g2
    .show fH
  .show fH
noncomputable def Ze (c:Cf):au->Bool
 |.Name x _=>decide (x=c.Kv)
 |_=>af
def Zf (c:Cf) (f:au->DE W) (bo:Bool) (x:Str) (es:List au):DE W:=
 if x="isinstance" then (match es with
  | [a,.Name t _]=>(match Zc.lookup t with
    |some n=>if c.pF "isinstance"&&c.pF t&&bU a then ls n (f a) else a4
    |none=>a4)
  |_=>a4)
 else if x="repr" then (match es with
  |[a]=>if c.pF "repr"&&bU a then rF (f a) else a4
  |_=>a4)
 else match es with
  |[.Call (.Name y _) [a] [] _]=>if x="sorted" /\ y="set" then (if c.pF "sorted"&&c.pF "set"&&bU a then dN bo wu (fc (f a) fg) else a4) else E3 c f bo x es
  | [a]=>if x="len" /\ Ze c a=ah then (if c.pF "len"&&bU a then ui (f a) else a4)
    else if x="list" /\ Kw c 3 a=ah then (if c.pF "list"&&bU a then EL bo (f a) else a4) else if x="dict" then (if c.pF "dict"&&bU a then wz bo (f a) else a4) else E3 c f bo x es
  |_=>E3 c f bo x es
theorem NK (O:cH c k X Z) (h:∀ e,PD X T Z e (f e)) (bo:Bool) (es:List au):PD X T Z (.Call (.Name x p) es [] pos) (Zf c f bo x es):=by
 unfold Zf;split
 .ext hx;subst hx;split
  .ext a t tp;split
   .ext n e;split
    .ext q;erw[aG]at q;let#[g1,g2,g3,g4]:=O.blt q.1.1;let#[j1,j2,j3,j4]:=O.blt q.1.2;let#[y1,y2]:=NI O e;show VP y1 g1 g4 j1 j4 y2 (h a) q.2 j3 j2
    .show fH
   .show fH
  .show fH
 .split
  .ext hx;subst hx;split
   .ext a;split
    .ext q;rw[aG]at q;let#[g1,g2,g3,g4]:=O.blt q.1;show OH O.room g1 g4 (h a) (fI q.2 _ _)
    .show fH
   .show fH
  .split
   .ext y q1 a q2;split
    .ext hx;let#[rfl,rfl]:=hx;split
     .ext q;erw[aG]at q;let#[g1,g2,g3,g4]:=O.blt q.1.1;let#[j1,j2,j3,j4]:=O.blt q.1.2;show Ft bo O.calm g1 g4 j1 j4 (mY (h a) lQ q.2) q.2
     .show fH
    .show CG O h bo _
   .rename_i a _;split
    .ext hx;let#[rfl,_]:=hx;split
     .ext q;rw[aG]at q;let#[g1,g2,g3,g4]:=O.blt q.1;show OK g1 g4 (h a) (fI q.2 _ _)
     .show fH
    .split
     .ext hx;let#[rfl,_]:=hx;split
      .ext q;rw[aG]at q;let#[g1,g2,g3,g4]:=O.blt q.1;show Mr bo O.calm g1 g4 (h a) q.2
      .show fH
     .split
      .ext hx;subst hx;split
       .ext q;rw[aG]at q;let#[g1,g2,g3,g4]:=O.blt q.1;show JE bo g1 g4 (h a) q.2
       .show fH
      .show CG O h bo _
   .show CG O h bo _
def Zg (dd:Bool) (f:au->DE W) (o:au) (m:Str) (es:List au):DE W:=match es with
 |[e]=>if bU e then (if dd then (if m="get" then vc (f o) (f e) else if m="pop" then yj (f o) (f e) else a4) else if m="extend" then rN (f o) (f e) else if m="append" then kU (f o) (f e) else if m="pop" then wq (f o) (f e) else a4) else a4
 |_=>a4
theorem RP (hu:X.A.units+1<cLine) (dd:Bool) (h:∀ e,PD X T Z e (f e)) {m:Str}(es:List au) (hb:Zd o=ah) (hl:(apos.endLine==pos.line)=ah):PD X T Z (.Call (.Attribute o m apos) es [] pos) (Zg dd f o m es):=by
 unfold Zg;split
 .ext e;split
  .ext n;split
   .split
    .ext z;subst z;show Ml hu (h o) (h e) #[ju hb,E2 n,hl,by rw[fI n];rfl]
    .split
     .ext z;subst z;show Pb (h o) (h e) #[ju hb,E2 n,hl,by rw[fI n];rfl]
     .show fH
   .split
    .ext z;subst z;show Jz (h o) (h e) (ju hb) (E2 n) hl (fI n _ _)
    .split
     .ext z;subst z;show Jm (h o) (h e) (ju hb) (E2 n) hl (fI n _ _)
     .split
      .ext z;subst z;show L7 (h o) (h e) n (ju hb) (E2 n) hl
      .show fH
  .show fH
 .show fH
end
noncomputable def Zh (on names:List (Str×NameKind)):List (Str×NameKind):=names.map λ(n,k)=>if k==NameKind.free&&on.lookup n==ae .cell then (n,NameKind.cell) else (n,k)
noncomputable def KA:Nat->au->List Str
 |_,.Name x _=>[x]
 |n+1,.Tuple es _ _=>es.flatMap (KA n)
 |_,_=>[]
def Cf.cN (c:Cf) (tg:au) (sc:bW):List Str:=KA 4 tg++c.N.filter λx=>decide (sc.names.lookup x=ae .free)
def Cf.src (c:Cf) (tg:au) (sc:bW):List zaI:=(KA 4 tg).map (λ_=>ag)++(c.N.filter λx=>decide (sc.names.lookup x=ae .free)).map c.ix
def Cf.inner (c:Cf) (tg:au) (sc:bW):Cf:={ c with N:=c.cN tg sc,nm:=Zh c.nm sc.names,f:=af,bx:=[],ow:=(KA 4 tg).filter λx=>decide (sc.names.lookup x=ae .cell) }
def Cf.KC (c:Cf) (tg:au) (sc:bW):Bool:=Yx c.N { kind:=.function,names:=c.nm,isGenerator:=af,isCoroutine:=af } sc (c.cN tg sc) (c.src tg sc)&&decide (c.cN tg sc).Nodup
section
variable {k:Nat} {sc:bW}
theorem cH.inner (O:cH c k X Z) (h:c.KC tg sc=ah):qY X (c.cN tg sc) (c.src tg sc) sc /\ ∀ cl s H C fp,cH (c.inner tg sc) k (X.comp (c.cN tg sc) sc cl s H C fp) #[E0,Z.cl]:=by
 unfold Cf.KC at h;rw[aG,decide_eq_true_eq]at h;have S:qY X (c.cN tg sc) (c.src tg sc) sc:=Fi (XN:=c.N) (sc:={ kind:=.function,names:=c.nm,isGenerator:=af,isCoroutine:=af }) (λx=>by unfold Env.kindOf;rw[O.nm]) O.N h.1;refine#[S,λcl s H C fp=>#[rfl,?_,S.kind,O.calm,λz=>(by cases z),λx m=>(sk.mp m).2,h.2,O.room,O.fs,O.gl,O.bl,F7,O.ti,O.tb,O.tt,O.tl,PassesOwn.never]];change (relabel sc X.env).names=Zh c.nm sc.names;unfold relabel Zh Env.kindOf;rw[O.kd,O.nm];simp
end
structure Cm where
 e:Cf->Bool->Bool->au->DE W
 t:Cf->au->DE Bool
 g:Cf->au->DG
 s:Cf->cj->aB
structure Good (m:Cm):zu where
 e:∀ {c:Cf}{k:Nat}{X:Cx}{Z:Xs},cH c k X Z->∀ {T:Fr}(bo fz:Bool) (e:au),PD X T Z e (m.e c bo fz e)
 t:∀ {c:Cf}{k:Nat}{X:Cx}{Z:Xs},cH c k X Z->∀ {T:Fr}(e:au),eJ X T Z e (m.t c e)
 g:∀ {c:Cf}{k:Nat}{X:Cx}{Z:Xs},cH c k X Z->∀ {T:Fr}(e:au),kS X T e (m.g c e)
 s:∀ {c:Cf}{k:Nat}{X:Cx}{Z:Xs},cH c k X Z->∀ {T:Fr}(st:cj),cM X T Z st (m.s c st)
section
variable (m:Cm) (c:Cf)
def cI (tg it:au):DE zam:=match it with
 |.Call (.Name x _) [a] [] _=>
   if x="range" then (if c.pF "range"&&bU a then cS (fc zN fg) else a4)
   else bD (m.e c af ah it)
 |.Call (.Name x _) [a,b] [] _=>
   if x="range" then (if c.pF "range"&&bU a&&bU b then rj (fc zN (fc zaB fg)) else a4)
   else if x="zip" then (if c.pF "zip"&&bU a&&bU b then uj (fc zN (fc zaB fg)) else a4)
   else bD (m.e c af ah it)
 |_=>bD (m.e c af ah it)
def cF (ifs:List au):DE Bool:=match ifs with
 |[]=>fS
 |[t]=>m.t c t
 |_=>a4
def KD (e:au):Option Nat:=match e with
 |.Name x _=>if c.dc.contains x&&c.Kx x then c.ix x else ag
 |_=>ag
def Zi (bo:Bool) (elt tg it:au) (ifs:List au) (sc:bW):DE W:=
 if c.KC tg sc&&Kz it then fQ bo (c.src tg sc) (cI m c tg it) (m.g (c.inner tg sc) tg) (cF m (c.inner tg sc) ifs) (m.e (c.inner tg sc) af af elt) else a4
def cO (o:Option au):DE (Option Int):=match o with
 |none=>kT
 |some e=>kI (m.e c af af e)
def E4 (a:au) (op:CmpOp) (b:au):DE W:=
 if wM c b then (match op with
  |.In=>if behindInMarks .In b=af then c8 af zN zaB else a4
  |.NotIn=>if behindInMarks .NotIn b=af then c8 ah zN zaB else a4
  |_=>a4)
 else if Kw c 3 b then (match op with
  |.In=>if behindInMarks .In b=af then wB zN zaB else a4
  |_=>a4)
 else match op,b with
  |.Is,.Constant .none _ _=>eX af zN
  |.IsNot,.Constant .none _ _=>eX ah zN
  | _,_=>match vt op with
    |some g=>if behindInMarks op b=af then d2 af g zN zaB else a4
    |none=>a4
def Zj (a:au) (op cU:CmpOp) (b d:au):DE W:=match vt op,vt cU with
 |some g,ae g'=>if lastMarks [op,cU] [b,d]=af then d3 g g' zN zaB (m.e c af af d) else a4
 |_,_=>a4
def Zk (bo:Bool) (a b:au):DE W:=match b with
 |.Slice lo hi ag _=>kJ bo zN (cO m c lo) (cO m c hi)
 |.Slice ag ag (ae (.UnaryOp .USub (.Constant (.int i) _ _) _)) _=>if i=1 then II bo zN else a4
 |.Constant (.str k) _ _=>bV zN k
 |b=>if EZ b then (if Ze c a then Ep zN zaB else if wM c a then cg zN zaB else d2 af ax zN zaB) else a4
def Zl (bo:Bool) (ks:List (Option au)) (vs:List au):DE W:=match ks,vs with
 |[],[]=>nP bo []
 | ks,vs=>match YI (λk=>c.kd k 3) ks vs with
   |some l=>if !ks.isEmpty&&decide (ks.length<=15) then ym l else a4
   |none=>a4
def Zm (v:Const):DE W:=match v with
 |.int i=>dC (.int i)
 |.bool b=>dC (.bl b)
 |.none=>dC .non
 |.str x=>dC (.str x)
 |_=>a4
def Zn (op:UnaryOp) (a:au):DE W:=match op with
 |.USub=>xW zN
 |.Not=>Iz zN
 |_=>a4
def Zo (op:BoolOp) (es:List au):DE W:=match op with
 |.And=>Y8 (m.e c af af) es
 |.Or=>a4
def aez (a:au) (ops:List CmpOp) (bs:List au):DE W:=match ops,bs with
 |[op],[b]=>E4 m c a op b
 |[op,cU],[b,d]=>Zj m c a op cU b d
 |_,_=>a4
def Zp (bo:Bool) (f:au) (es:List au) (ks:List Keyword) (pos:aL):DE W:=match f with
 | .Name x _=>(match ks with
   |[]=>Zf c (m.e c af af) bo x es
   |_::_=>a4)
 | .Attribute o n apos=>(match ks with
   |[]=>if Zd o&&(apos.endLine==pos.line) then Zg (wM c o) (m.e c af af) o n es else a4
   |_::_=>a4)
 |_=>a4
def Zq (bo:Bool) (elt:au) (gs:List Comprehension) (sc:bW):DE W:=match gs with
 |[⟨tg,it,ifs,0⟩]=>Zi m c bo elt tg it ifs sc
 |_=>a4
def sE (bo fz:Bool) (e:au):DE W:=match e with
 |.Constant v _ _=>Zm v
 |.Name x _=>Y7 c fz x
 |.Tuple es _ _=>fN (wO (m.e c af af) es)
 |.List es _=>gq bo (wO (m.e c af af) es)
 |.Dict ks vs _=>Zl c bo ks vs
 | .BinOp a op b _=>(match aex op with
   |some g=>d2 bo g zN zaB
   |none=>a4)
 |.UnaryOp op a _=>Zn m c op a
 |.BoolOp op es _=>Zo m c op es
 |.Compare a ops bs _=>aez m c a ops bs
 |.IfExp t a b _=>nu (m.t c t) zN zaB
 |.Subscript a b _=>Zk m c bo a b
 |.Call f es ks pos=>Zp m c bo f es ks pos
 |.ListComp elt gs sc _=>Zq m c bo elt gs sc
 |_=>a4
def sT (e:au):DE Bool:=match e with
 |.BoolOp .And es _=>Y9 (m.t c) es
 |.BoolOp .Or es _=>Za (m.t c) es
 |.UnaryOp .Not a _=>kH (m.t c a)
 | .Compare a [op] [b] _=>if wM c b then dB (E4 m c a op b) else (match op,b with
   |.Is,.Constant .none _ _=>dB (eX af zN)
   |.IsNot,.Constant .none _ _=>dB (eX ah zN)
   | _,_=>match vt op with
     |some g=>if behindInMarks op b=af then dB (d2 af g zN zaB) else a4
     |none=>a4)
 | .Compare a [op,cU] [b,d] _=>(match vt op,vt cU with
   |some g,ae g'=>if lastMarks [op,cU] [b,d]=af then dB (d3 g g' zN zaB (m.e c af af d)) else a4
   |_,_=>a4)
 |e=>if plainT e then dB (m.e c af af e) else a4
def sG (tg:au):DG:=match tg with
 | .Name x _=>(match c.ix x with
   |some i=>if c.wN x then fe i else wL
   |none=>wL)
 |.Tuple es _ _=>if pz es then fP es.length (Ky (m.g c) es) else wL
 |.Subscript o i _=>if EZ i then Eo (m.e c af af o) (m.e c af af i) else wL
 |_=>wL
end
section
variable {m:Cm} {k:Nat} (G:Good m) (O:cH c k X Z)
include G O
theorem NL (tg it:au):ud X T Z tg it (cI m c tg it):=by
 cases it<;>try show mW zE
 ext f es ks pos;cases f<;>try show mW zE
 ext x p;rcases es with _|⟨a,_|⟨b,_|_⟩⟩<;>cases ks<;>try show mW zE
 .unfold cI;dsimp only;split
  .ext z;subst z;split
   .ext q;rw[aG]at q;let#[g1,g2,g3,g4]:=O.blt q.1;show Fb g1 g4 (mY zaT lQ q.2) (fI q.2 _ _)
   .show CF
  .show mW zE
 .unfold cI;dsimp only;split
  .ext z;subst z;split
   .ext q;erw[aG]at q;let#[#[q,n1],n2]:=q;let#[g1,g2,g3,g4]:=O.blt q;show Fc g1 g4 (mY zaT (mY (G.e O _ _ b) lQ n2) n1) (by rw[fI n1,fI n2];rfl) (fI n2 _ _)
   .show CF
  .split
   .ext z;subst z;split
    .ext q;erw[aG]at q;let#[#[q,n1],n2]:=q;let#[g1,g2,g3,g4]:=O.blt q;show OM g1 g4 (mY zaT (mY (G.e O _ _ b) lQ n2) n1) (by rw[fI n1,fI n2];rfl) (fI n2 _ _)
    .show CF
   .show mW zE
theorem NM (ifs:List au):PF X ifs (sN T Z (cF m c ifs)):=by
 unfold cF;split
 .show Ov
 .show Ow (G.t O _)
 .show λ_ _ _ _ _ _ h=>by let#[_,_,_,_,_,h]:=h;show h.elim
omit G in
theorem GR {i:Nat}(h:KD c e=ae i):PD X T Z e (dV i):=by
 unfold KD at h;split at h
 .split at h
  .ext q;rw[aG]at q;let#[a,b,d]:=O.HW q.2;show Ls i (O.at h) a b d
  .cases h
 .cases h
theorem NO (bo:Bool) (elt tg it:au) (ifs:List au) (sc:bW) (pos:aL):PD X T Z (.ListComp elt [#[tg,it,ifs,0]] sc pos) (Zi m c bo elt tg it ifs sc):=by
 unfold Zi;split
 .ext q;rw[aG]at q;let#[S,OO]:=O.inner q.1;show Ou bo O.calm S (NL G O tg it) (λ_ _ _ _ _ _=>G.g (OO _ _ _ _ _) tg) (λ_ _ _ _ _ _=>NM G (OO _ _ _ _ _) ifs) (λ_ _ _ _ _ _=>G.e (OO _ _ _ _ _) _ _ elt) (λx=>jG q.2 x)
 .show fH
theorem NP (a:au) (op:CmpOp) (b:au) (pos:aL):PD X T Z (.Compare a [op] [b] pos) (E4 m c a op b):=by
 unfold E4;split
 .split
  .split
   .ext q;show T6 O.u1 zaT (G.e O _ _ b) q
   .show fH
  .split
   .ext q;show OY O.u1 zaT (G.e O _ _ b) q
   .show fH
  .show fH
 split
 .split
  .split
   .ext q;show Uj O.u1 zaT (G.e O _ _ b) q
   .show fH
  .show fH
 .split
  .show T7 zaT
  .show OZ zaT
  .split
   .ext g e;let#[q,h1,h2]:=l5 O.u0 e;split
    .ext z;show Tn h1 h2 zaT (G.e O _ _ b) z
    .show fH
   .show fH
theorem NQ (a:au) (op cU:CmpOp) (b d:au) (pos:aL):PD X T Z (.Compare a [op,cU] [b,d] pos) (Zj m c a op cU b d):=by
 unfold Zj;split
 .ext g g' e e';let#[q,h1,h2]:=l5 O.u0 e;let#[q',Zr,Zs]:=l5 O.u0 e';split
  .ext z;show Lx h1 Zr h2 Zs zaT (G.e O _ _ b) (G.e O _ _ d) z
  .show fH
 .show fH
theorem SC (o:Option au):El X T Z o (cO m c o):=by
 unfold cO;split
 .show TC
 .show LL zE
theorem RQ (bo:Bool) (a b:au) (pos:aL):PD X T Z (.Subscript a b pos) (Zk m c bo a b):=by
 have aeA:∀ b,EZ b=ah->PD X T Z (.Subscript a b pos) (if Ze c a then Ep zN zaB else if wM c a then cg zN zaB else d2 af ax zN zaB):=λb n=>by
  split
  .show TV zaT zE (Bm n)
  .split
   .show OX O.u1 zaT zE (RM n)
   .show VA Tc agK zaT zE (Bm n)
 cases b<;>try show aeA _ zc
 .rename_i v _ _;cases v<;>try show aeA _ zc
  show Uf O.u1 zaT
 rename_i lo hi st _;rcases st with _|st
 .show LM bo zaT (SC G O _) (SC G O _)
 cases st<;>try show fH
 rename_i op e _;cases op<;>try show fH
 cases e<;>try show fH
 rename_i v _ _;cases v<;>try show fH
 cases lo<;>cases hi<;>try show fH
 unfold Zk;try dsimp only
 split
 .ext z;subst z;show TF bo zaT
 .show fH
omit G O in
theorem RR (bo:Bool) (ks:List (Option au)) (vs:List au) (pos:aL):PD X T Z (.Dict ks vs pos) (Zl c bo ks vs):=by
 unfold Zl;split
 .show OL bo
 .split
  .ext l e;split
   .ext q;rw[aG,decide_eq_true_eq]at q;let#[a,b,d,_]:=Gq (X:=X) (pos:=pos) e;show Ms a b d (λz=>by rw[z]at q;show absurd q.1 ze) q.2
   .show fH
  .show fH
omit G O in
theorem RS (v:Const) (k:Nat) (pos:aL):PD X T Z (.Constant v k pos) (Zm v):=by
 unfold Zm;split
 .show Ti
 .show Vz
 .show Tj
 .show Tk
 .show fH
theorem Vb (op:UnaryOp) (a:au) (pos:aL):PD X T Z (.UnaryOp op a pos) (Zn m c op a):=by
 unfold Zn;split
 .show TH zE
 .show Tr zE
 .show fH
theorem Vc (op:BoolOp) (es:List au) (pos:aL):PD X T Z (.BoolOp op es pos) (Zo m c op es):=by
 unfold Zo;split
 .show GP (G.e O _ _) _
 .show fH
theorem Vd (a:au) (ops:List CmpOp) (bs:List au) (pos:aL):PD X T Z (.Compare a ops bs pos) (aez m c a ops bs):=by
 rcases ops with _|⟨op,_|⟨cU,_|_⟩⟩<;>rcases bs with _|⟨b,_|⟨d,_|_⟩⟩<;>try show fH
 .show NP G O _ _ _ _
 .show NQ G O _ _ _ _ _ _
theorem Ve (bo:Bool) (f:au) (es:List au) (ks:List Keyword) (pos:aL):PD X T Z (.Call f es ks pos) (Zp m c bo f es ks pos):=by
 unfold Zp;split
 .split
  .show NK O (G.e O _ _) bo _
  .show fH
 .split
  .split
   .ext q;rw[aG]at q;show RP O.u1 _ (G.e O _ _) _ q.1 q.2
   .show fH
  .show fH
 .show fH
theorem Vf (bo:Bool) (elt:au) (gs:List Comprehension) (sc:bW) (pos:aL):PD X T Z (.ListComp elt gs sc pos) (Zq m c bo elt gs sc):=by
 unfold Zq;split
 .show NO G O bo _ _ _ _ _ _
 .show fH
theorem WA (bo fz:Bool) (e:au):PD X T Z e (sE m c bo fz e):=by
 cases e<;>try show fH
 .show Vc G O _ _ _
 .unfold sE;dsimp only;split
  .ext g e;let#[q,h1,h2]:=RK (X:=X) e;show Tl bo h1 h2 zE zE
  .show fH
 .show Vb G O _ _ _
 .show Ts (G.t O _) zE zE
 .show RR bo _ _ _
 .show Vf G O bo _ _ _ _
 .show Vd G O _ _ _ _
 .show Ve G O bo _ _ _ _
 .show RS _ _ _
 .show RQ G O bo _ _ _
 .show NG O fz
 .show Tu bo (oW (G.e O _ _) _)
 .show Tt (oW (G.e O _ _) _)
theorem WB (e:au):eJ X T Z e (sT m c e):=by
 cases e<;>try show Od zE (λw=>JY zc w)
 .rename_i op _ _;cases op
  .show R9 (D0 (G.t O) _)
  .show R9 (GQ (G.t O) _)
 .rename_i op _ _;cases op<;>try show iq
  show Oh (G.t O _)
 .show iq
 .ext a ops bs pos;rcases ops with _|⟨op,_|⟨cU,_|_⟩⟩<;>rcases bs with _|⟨b,_|⟨d,_|_⟩⟩<;>try show iq
  .unfold sT;dsimp only;split
   .ext h;unfold E4;rw[if_pos h];cases op<;>try show iq
    .dsimp only;split
     .ext q;show RN O.u1 zaT (G.e O _ _ b) q
     .show iq
    .dsimp only;split
     .ext q;show NJ O.u1 zaT (G.e O _ _ b) q
     .show iq
   .have dflt:∀ op b,eJ X T Z (.Compare a [op] [b] pos) (match vt op with
     |some g=>if behindInMarks op b=af then dB (d2 af g zN zaB) else a4
     |none=>a4):=λop b=>by
     split
     .ext g e;let#[q,h1,h2]:=l5 O.u0 e;split
      .ext z;show Oe h1 h2 zE zE z
      .show iq
     .show iq
    cases op<;>try show dflt _ _
    all_goals (cases b<;>try show dflt _ _)
    all_goals (rename_i v _ _ _;cases v<;>try show dflt _ _)
    .show PT.imp (BZ (J3 zE) zc) λσ H Q h=>Wz (Lw h)
    .show PT.imp (BZ (FR zE) zc) λσ H Q h=>Va (Lw h)
  .unfold sT;dsimp only;split
   .ext g g' e e';let#[q,h1,h2]:=l5 O.u0 e;let#[q',Zr,Zs]:=l5 O.u0 e';split
    .ext z;show G9 h1 Zr h2 Zs zE zE zE z
    .show iq
   .show iq
theorem WC (tg:au):kS X T tg (sG m c tg):=by
 unfold sG;split
 .split
  .ext i e;split
   .ext h;let#[a,b]:=O.lo h;show LF i O.vq (O.at e) a b
   .show lZ
  .show lZ
 .split
  .ext h;show VQ O.calm (NH (G.g O) _) h zc
  .show lZ
 .split
  .ext o i pos h;show OJ (Z:=Z) (G.e O _ _ o) (G.e O _ _ i) (λv=>by cases i<;>first|rfl|cases h)
  .show lZ
 .show lZ
end
end L2.DL
namespace L2
end L2
namespace L2.DL
open PySem.W
section
variable {env:Env} {y:Str} {px py pt nj:aL} {kt k2:Nat} {a b:au}
theorem RT (hk:env.blockKind=.function) (hx:env.kindOf x=ae .local) (hy:env.kindOf y=ae .local) (hl:(px.line==py.line)=ah) (kW:x≠y) (na:bU a=ah) (nb:bU b=ah)
 (nf:([a,b].all (foldedForSure 8))=af) (nc:([a,b].all (constantsAlone 8))=af) :
 swappedStores [.Tuple [.Name x px,.Name y py] kt pt] (.Tuple [a,b] k2 nj) env=pure (ae [x,y]):=by
 have eV:px.line=py.line:=by simpa using hl
 have hd:([x,y]:List Str).eraseDups.length=2:=by
  have:(y==x)=af:=by simpa using Ne.symm kW
  simp[List.eraseDups_cons,this]
 have hp:∀ (x:Str) (p:aL),(Expr.Name x p).pos=p:=λ_ _=>rfl;unfold swappedStores;erw[hk,hx,hy,eV,qi,abw,pH,WZ,bw,nS,abx,nG,vH,hp,nf,nc];simp[eV,hd,pH,hx,hy,nf,nc];rintro(h|h)
 .cases a<;>first|(cases h;done)|cases na
 .cases b<;>first|(cases h;done)|cases nb
theorem RU (hk:env.blockKind=.function) (na:bU a=ah) (nb:bU b=ah) (h:(env.kindOf x==ae .local&&env.kindOf y==ae .local)=af) :
 swappedStores [.Tuple [.Name x px,.Name y py] kt pt] (.Tuple [a,b] k2 nj) env=pure ag:=by
 have hp:∀ (x:Str) (p:aL),(Expr.Name x p).pos=p:=λ_ _=>rfl;unfold swappedStores;erw[hk,qi,abw,bw,nS,abx,nG,vH,hp];rw[Bool.and_eq_false_iff]at h;rcases h with h|h
 .erw[pH,WZ,h,Hh];by_cases q:(env.kindOf y==ae .local&&py.line==px.line)=ah
  .simp[q]
  .simp[q]
 .erw[pH,WZ,h,Hh];by_cases z:env.kindOf x=ae .local<;>simp[z]
end
def vv (f:cj->aB):List cj->aB
 |[]=>aV
 |[s]=>f s
 |s::r=>fv (f s) (vv f r)
theorem mM {X:Cx}{Z:Xs}{T:Fr}{f:cj->aB}(h:∀ s,cM X T Z s (f s)):∀ b,qt X T Z b (vv f b)
 |[]=>Oj
 |[s]=>Ol (h s)
 |s::a::r=>LB (h s) (mM h (a::r))
noncomputable def Zt:au->au->Bool
 |.Tuple ..,.Tuple ..|.List ..,.Tuple ..=>af
 |_,_=>ah
theorem SD {env:Env}(h:Zt tg e=ah):swappedStores [tg] e env=pure ag:=by
 cases tg with
 |Tuple es n p=>cases e<;>first|rfl|cases h
 |List es p=>cases e<;>first|rfl|cases h
 |_=>rfl
noncomputable def Zu (c:Cf) (x:Str) (tp cp:aL) (sc:bW):Bool:=c.nm.lookup x==ae .local&&tp.line==cp.line&&!(sc.names.any λ(n,k)=>n==x&&(k==.local||k==.cell))
section
variable {k:Nat} 
theorem cH.block (O:cH c k X Z):X.env.blockKind=.function:=by unfold Env.blockKind;rw[O.kd];rfl
theorem RV (O:cH c k X Z) {elt:au}{gs:List Comprehension}{sc:bW}{cp tp:aL}{l:Nat}:swapsWith (.ListComp elt gs sc cp) (ae (.Name x tp)) l X.env=pure (Zu c x tp cp sc):=by
 have h:swapsWith (.ListComp elt gs sc cp) (ae (.Name x tp)) l X.env=pure (X.env.blockKind==.function&&X.env.kindOf x==ae .local&&tp.line==cp.line&&!(sc.names.any λ(n,k)=>n==x&&(k==.local||k==.cell))):=rfl;rw[h,O.block];unfold Env.kindOf Zu;rw[O.nm];rfl
end
theorem j9 {t:au}{l:Nat}{env:Env}(h:e9 e=af):swapsWithSole [t] e l env=pure af:=lP (t:=ae t) h
section
variable (m:Cm) (c:Cf)
noncomputable def Zv:au->Bool
 |.Dict [] [] _=>ah
 |_=>af
def Zw (x:Str) (tp:aL) (e:au):aB:=match c.ix x with
 | some i=>if c.wN x then (match e with
   | .ListComp elt [⟨tg,it,ifs,0⟩] sc cp=>if c.KC tg sc&&Kz it&&Zu c x tp cp sc then (match KD c it with
     |some j=>fC (wy (c.bx.contains x) (c.src tg sc) j (m.g (c.inner tg sc) tg) (cF m (c.inner tg sc) ifs) (m.e (c.inner tg sc) af af elt)) (fe i)
     |none=>fC (fQ (c.bx.contains x) (c.src tg sc) (cI m c tg it) (m.g (c.inner tg sc) tg) (cF m (c.inner tg sc) ifs) (m.e (c.inner tg sc) af af elt)) (fe i)) else dD
   |e=>if e9 e then dD else fC (if c.kd x 3&&Zv e then yi else m.e c (c.bx.contains x) af e) (fe i)) else dD
 |none=>dD
def aeB (c:Cf) (x y:Str) (px py:aL) (a b:au):Bool:=bU a&&bU b&&decide (x≠y)&&c.wN x&&c.wN y&&(if c.nm.lookup x==ae .local&&c.nm.lookup y==ae .local then px.line==py.line&&!([a,b].all (foldedForSure 8))&&!([a,b].all (constantsAlone 8)) else ah)
def Zx (x y:Str) (px py:aL) (a b:au):aB:=match c.ix x,c.ix y with
 |some i,ae j=>if aeB c x y px py a b then ku i j (fc (m.e c (c.bx.contains x) af a) (fc (m.e c (c.bx.contains y) af b) fg)) else dD
 |_,_=>dD
def Zy (tg e:au):aB:=match tg,e with
 |.Name x tp,e=>Zw m c x tp e
 |.Tuple [.Name x px,.Name y py] _ _,.Tuple [a,b] _ _=>Zx m c x y px py a b
 |.Subscript o i p,e=>if e9 e then dD else if Kw c 3 o then rR (m.e c af af o) (m.e c af af i) (m.e c af af e) else if wM c o then k5 (m.e c af af o) (m.e c af af i) (m.e c af af e) else fC (m.e c af af e) (m.g c (.Subscript o i p))
 |tg,e=>if !e9 e&&bU tg&&Zt tg e then fC (m.e c af af e) (m.g c tg) else dD
def Zz (t:au) (op:Operator) (e:au):aB:=match t with
 | .Name x _=>(match c.ix x with
   | some i=>if c.wN x then (match op with
     |.Add=>sX af i (m.e c af af e)
     |.Sub=>sX ah i (m.e c af af e)
     |_=>dD) else dD
   |none=>dD)
 |_=>dD
def sS (st:cj):aB:=match st with
 |.Assign [tg] e _=>Zy m c tg e
 |.Return (ae e) _=>fG (m.e c c.rb (!c.rb) e)
 |.Expr e _=>if e9 e then dD else gf (m.e c af af e)
 |.If t a b _=>aM (m.t c t) (vv (m.s c) a) (vv (m.s c) b)
 | .For tg it body [] _=>if Kz it then (match KD c it with
   |some j=>wx j (m.g c tg) (vv (m.s c) body)
   |none=>if Kw c 2 it then yo (m.e c af af it) (m.g c tg) (vv (m.s c) body) else gZ (cI m c tg it) (m.g c tg) (vv (m.s c) body)) else dD
 |.AugAssign t op e _=>Zz m c t op e
 |.Delete [.Subscript o i _] _=>if wM c o then uz (m.e c af af o) (m.e c af af i) else dD
 |.Break _=>IC
 |.Continue _=>ID
 |_=>dD
end
section
variable {m:Cm} {k:Nat} (G:Good m) (O:cH c k X Z)
include G O
theorem RW (x:Str) (e:au) (tp pos:aL):cM X T Z (.Assign [.Name x tp] e pos) (Zw m c x tp e):=by
 unfold Zw;split
 .ext i hi;split
  .ext hl;let#[l1,l2]:=O.lo hl;split
   .ext elt tg it ifs sc cp;split
    .ext q;rw[aG,aG]at q;let#[S,OO]:=O.inner q.1.1;have sw:=RV O (elt:=elt) (gs:=[#[tg,it,ifs,0]]) (sc:=sc) (cp:=cp) (tp:=tp) (x:=x) (l:=pos.line);rw[q.2]at sw;split
     .show JB i _ O.calm S (GR O (by assumption)) (λ_ _ _ _ _ _=>G.g (OO _ _ _ _ _) tg) (λ_ _ _ _ _ _=>NM G (OO _ _ _ _ _) ifs) (λ_ _ _ _ _ _=>G.e (OO _ _ _ _ _) _ _ elt) O.vq (O.at hi) l1 sw l2 (λx=>jG q.1.2 x)
     .show L6 i _ O.calm S (NL G O tg it) (λ_ _ _ _ _ _=>G.g (OO _ _ _ _ _) tg) (λ_ _ _ _ _ _=>NM G (OO _ _ _ _ _) ifs) (λ_ _ _ _ _ _=>G.e (OO _ _ _ _ _) _ _ elt) O.vq (O.at hi) l1 sw l2 (λx=>jG q.1.2 x)
    .show fW
   .split
    .show fW
    .ext h;refine Oo i ?_ O.vq (O.at hi) l1 (lP (by simpa using h)) l2;split
     .ext q;rw[aG]at q;revert q;cases e with
      |Dict ks vs p=>cases ks<;>cases vs<;>first|(intro _;show O9)|(intro q;show absurd q.2 (by simp[Zv]))
      |_=>intro q;show absurd q.2 (by simp[Zv])
     .show G.e O _ _ _
  .show fW
 .show fW
theorem RX (x y:Str) (a b:au) (px py pt nj pos:aL) (kt k2:Nat):cM X T Z zav (Zx m c x y px py a b):=by
 unfold Zx;split
 .ext i j hi hj;split
  .ext q;unfold aeB at q;rw[aG,aG,aG,aG,aG,decide_eq_true_eq]at q;let#[#[#[#[#[na,nb],kW],hx],hy],q]:=q;have ps:dJ X T Z [a,b] (fc (m.e c (c.bx.contains x) af a) (fc (m.e c (c.bx.contains y) af b) fg)):=mY zaT (mY (G.e O _ _ b) lQ nb) na;have kx:X.env.kindOf x=c.nm.lookup x:=by unfold Env.kindOf;rw[O.nm]
   have ky:X.env.kindOf y=c.nm.lookup y:=by unfold Env.kindOf;rw[O.nm]
   by_cases h:(c.nm.lookup x==ae NameKind.local&&c.nm.lookup y==ae NameKind.local)=ah
   .rw[if_pos h]at q;erw[aG,rZ]at q;rw[aG]at h;have h1:c.nm.lookup x=ae .local:=by simpa using h.1
    have h2:c.nm.lookup y=ae .local:=by simpa using h.2
    refine OV i j O.calm O.vq ps (O.at hi) (O.at hj) (λz=>?_) (by rw[O.nm];show h1) (by rw[O.nm];show h2) (RT O.block (kx.trans h1) (ky.trans h2) q.1.1 kW na nb q.1.2 q.2) (j9 zc);subst z;have:=(c.Y6 hi).symm.trans (c.Y6 hj);show kW (Option.some.inj this)
   .let#[l1,l2]:=O.lo hx;let#[l3,l4]:=O.lo hy;refine Mb i j O.calm O.vq ps (O.at hi) (O.at hj) l1 l3 l2 l4 (j9 zc) (RU O.block na nb ?_) zc zc zc zc zc;rw[kx,ky];simpa using h
  .show fW
 .show fW
theorem RY (tg e:au) (pos:aL):cM X T Z (.Assign [tg] e pos) (Zy m c tg e):=by
 have dflt:∀ tg e,cM X T Z (.Assign [tg] e pos) (if !e9 e&&bU tg&&Zt tg e then fC (m.e c af af e) (m.g c tg) else dD):=λtg e=>by
  split
  .ext q;erw[aG,rZ]at q;show F6 zE (G.g O _) (j9 q.1.1) (SD q.2) (by rw[ly q.1.2];rfl)
  .show fW
 cases tg<;>try show dflt _ _
 .unfold Zy;try dsimp only
  split
  .show fW
  .ext h;split
   .show JF O.u1 zE zE zE (lP (by simpa using h))
   split
   .show Ma O.u1 zE zE zE (lP (by simpa using h))
   .show F6 zE (G.g O _) (j9 (by simpa using h)) (SD zc) zc
 .show RW G O _ _ _ _
 .rename_i es _ _;rcases es with _|⟨x,_|⟨y,es⟩⟩<;>try show dflt _ _
  all_goals (cases x<;>try show dflt _ _)
  all_goals (cases y<;>try show dflt _ _)
  all_goals (cases es<;>try show dflt _ _)
  cases e<;>try show dflt _ _
  rename_i vs _ _;rcases vs with _|⟨a,_|⟨b,vs⟩⟩<;>try show dflt _ _
  cases vs<;>try show dflt _ _
  show RX G O _ _ _ _ _ _ _ _ _ _ _
theorem RZ (t:au) (op:Operator) (e:au) (pos:aL):cM X T Z (.AugAssign t op e pos) (Zz m c t op e):=by
 unfold Zz;split
 .split
  .ext i hi;split
   .ext hl;let#[l1,l2]:=O.lo hl;split
    .show Pq i zE O.vq (O.at hi) l1 l2
    .show Pr i zE O.vq (O.at hi) l1 l2
    .show fW
   .show fW
  .show fW
 .show fW
theorem WD (st:cj):cM X T Z st (sS m c st):=by
 cases st<;>try show fW
 .rename_i v _;cases v<;>try show fW
  show Om zE
 .rename_i ts _;rcases ts with _|⟨t,ts⟩<;>try show fW
  cases t<;>try show fW
  cases ts<;>try show fW
  unfold sS;dsimp only;split
  .show Pc zE zE
  .show fW
 .rename_i ts _ _;rcases ts with _|⟨_,_|_⟩<;>try show fW
  show RY G O _ _ _
 .show RZ G O _ _ _ _
 .rename_i tg it bd oe _;cases oe<;>try show fW
  unfold sS;dsimp only;split
  .ext h;split
   .show Mo O.own O.calm (GR O (by assumption)) (G.g O _) (mM (G.s O) _) (λx=>jG h x)
   .split
    .show Mt O.own O.calm zE (G.g O _) (mM (G.s O) _) (λx=>jG h x)
    .show Op O.own O.calm (NL G O _ _) (G.g O _) (mM (G.s O) _) (λx=>jG h x)
  .show fW
 .show Tw (G.t O _) (mM (G.s O) _) (mM (G.s O) _)
 .unfold sS;dsimp only;split
  .show fW
  .ext h;show LD zE (lP (by simpa using h))
 .show Jb
 .show LC
end
def ais (m:Cm):Cm:=#[λc bo fz e=>sE m c bo fz e,λc e=>sT m c e,λc e=>sG m c e,λc st=>sS m c st]
def cm:Nat->Cm
 |0=>#[λ_ _ _ _=>a4,λ_ _=>a4,λ_ _=>wL,λ_ _=>dD]
 |n+1=>ais (cm n)
theorem oA:∀ n,Good (cm n)
 |0=>#[λ_ _ _ _ _=>fH,λ_ _ _=>iq,λ_ _ _=>lZ,λ_ _ _=>fW]
 |n+1=>#[λO _ bo fz e=>WA (oA n) O bo fz e,λO _ e=>WB (oA n) O e,λO _ e=>WC (oA n) O e,λO _ st=>WD (oA n) O st]
structure FI where
 x:Str
 ps:List Str
 N:List Str
 bx:List Str
 dc:List Str
 wk:List (Str×Nat)
 fl:Nat   -- 1: its list is a box as it is returned,2: may raise,4: has a try,8: calls itself
 st:cj
 fn:List W->List Bx->O W
structure Tx where
 Kv:Str
 gl:List (Str×Int)
 bl:List Str
noncomputable def FI.b (f:FI) (i:Nat):Bool:=f.fl / i % 2==1
noncomputable def a8 (r:List FI):List (Str×(Nat×(List W->List Bx->O W))):=r.map λg=>(g.x,(g.ps.length,g.fn))
def FI.cf (t:Tx) (fs:List (Str×(Nat×(List W->List Bx->O W)))) (f:FI):Cf:=
 { N:=f.N,nm:=(fO f.st).names,f:=ah,bx:=f.bx,dc:=f.dc,wk:=f.wk,Kv:=t.Kv,fs:=fs,gl:=t.gl,bl:=t.bl,rb:=f.b 1,ow:=[] }
def FI.body (t:Tx) (fs:List (Str×(Nat×(List W->List Bx->O W)))) (f:FI):List W->List Bx->O W:=
 let m:=vv ((cm 40).s (f.cf t fs)) (gY f.st)
 a5 f.N.length (aQ m)
def FI.ok (f:FI):Bool:=decide ((fO f.st).kind=.function)&&!(fO f.st).isCoroutine&&!(fO f.st).isGenerator&&decide f.N.Nodup&&decide (f.N.take f.ps.length=f.ps) &&
 f.ps.all (λx=>decide ((fO f.st).names.lookup x=ae .local)||decide ((fO f.st).names.lookup x=ae .cell))&&(fO f.st).names.all λy=>decide (y.2≠.free)
theorem FI.scope {f:FI}(h:f.ok=ah):xF f.N f.ps (fO f.st):=by
 erw[FI.ok,aG,decide_eq_true_eq,c5,wZ,rZ]at h;let#[#[#[#[#[#[h1,h2],h3],h4],h5],h6],h7]:=h;show#[h1,h2,h3,h4,h5,h6,λy m=>h7 y m]
def FI.Is (t:Tx) (r:List FI) (f:FI):zu:=f.fn=f.body t (a8 r)
noncomputable def ZA (t:Tx):List FI->zu
 |[]=>True
 |f::r=>f.Is t r /\ ZA t r
noncomputable def E5:List FI->Nat
 |[]=>0
 |_::r=>E5 r+1
structure ZC (K:PySem.W.Frag) (mg:Str->Option ai) (t:Tx):zu where
 gl:∀ x v,t.gl.lookup x=ae v->∃ u,mg x=ae (.int v u)
 bl:∀ x,x∈t.bl->mg x=ag
 ti:pS K "int"
 tb:pS K "bool"
 tt:pS K "tuple"
 tl:pS K "list"
theorem NR {t:Tx}(B:ZC K mg t) {f:FI}(d:Def K mg f.x f.st f.ps) (ho:f.ok=ah) {k:Nat}
 {fs:List (Str×(Nat×(List W->List Bx->O W)))}(F:∀ x n fn,fs.lookup x=ae (n,fn)->∃ kk ps,rJ P w K mg base cl kk x ps fn /\ ps.length=n /\ kk<=k):rJ P w K mg base cl (k+1) f.x f.ps (f.body t fs):=by
 have S:=FI.scope ho;unfold FI.body;refine TZ (k:=k) d S (λfa bM A outer s H E n F0 hr=>mM ((oA 40).s (k:=k) ?_) _);show#[rfl,rfl,S.kind,rfl,λ_ _=>rfl,(λx m=>nomatch m),S.nd,hr,F,B.gl,B.bl,F7,B.ti,B.tb,B.tt,B.tl,PassesOwn.never]
def KG:List FI->Bool
 |[]=>ah
 |f::r=>f.ok&&KG r
theorem R0 {t:Tx}(B:ZC K mg t):∀ (l:List FI),ZA t l->KG l=ah->(∀ f∈l,Def K mg f.x f.st f.ps)->∀ f∈l,∃ kk,rJ P w K mg base cl kk f.x f.ps f.fn /\ kk<=E5 l:=by
 intro l_;induction l_ with
 |nil=>show λ_ _ _=>λf m=>nomatch m
 |cons f r az=>
   intro A C D;let#[A1,A2]:=A;have C':(f.ok&&KG r)=ah:=C;rw[aG]at C';have ih:=az A2 C'.2 λg m=>D g (bB _ m);have F:∀ x n fn,(a8 r).lookup x=ae (n,fn)->∃ kk ps,rJ P w K mg base cl kk x ps fn /\ ps.length=n /\ kk<=E5 r:=λx n fn e=>by
    refine jf (P:=λx (p:Nat×(List W->List Bx->O W))=>∃ kk ps,rJ P w K mg base cl kk x ps p.2 /\ ps.length=p.1 /\ kk<=E5 r) (l:=a8 r) (λp m=>?_) e;let#[g,ait,rfl]:=bA.mp m;let#[kk,h1,h2]:=ih g ait;show#[kk,g.ps,h1,rfl,h2]
   intro g m;rcases bz.mp m with rfl|m
   .rw[A1];show#[E5 r+1,NR B (D g (bE ..)) C'.1 F,aD _]
   .let#[kk,h1,h2]:=ih g m;show#[kk,h1,Hg h2]
noncomputable def aeC (o:aY):Bool:=match o.cls with|.type n=>n == "list"|_=>af
def KH (K:PySem.W.Frag):Bool:=K.all λp=>!aeC p.2
theorem JZ (h:KH K=ah) (e:K.lookup a=ae o):o.cls≠.type "list":=by
 intro c;unfold KH at h;rw[c5]at h;have m:(a,o)∈K:=by
  clear h;induction K with
  |nil=>cases e
  |cons p K ih=>
    rw[kD]at e;cases q:a==p.1 with
    |true=>
      rw[q]at e;cases e;have:a=p.1:=by simpa using q
      subst this;show bE ..
    |false=>
      rw[q]at e;show bB _ (ih e)
 have:=h _ m;simp[aeC,c]at this
theorem Vg (nl:KH K=ah) (hO:X5 H) (hS:bX K H a (ns.map V.int)) (hf:∃ bx',fn [.s ns] []=.val zap bx') :
 ub cl 1 fn [.ref a] H (λv _=>v=.bl ah) λ_ _ _=>False:=by
 rcases hS with hS|⟨o,its,n,e1,e2,_⟩
 .rcases hS with hS|⟨o,hS⟩
  .rcases hO a with z|⟨o,xs,z⟩
   .rw[hS]at z;cases z
   .rw[hS]at z;cases z
  .let#[bx',hf]:=hf;refine#[H,[],[.s ns],[],#[Sub.refl H,λi w e=>by simp at e,rfl,.nil,λn c a e=>by simp at e,λa u e _=>e,λn a _ e=>by simp at e,aD _,aD _,λa u e=>.inr (.inl e)],#[.ref a,[],rfl,#[a,o,rfl,hS],rfl],rfl,?_];rw[hf];intro F' r' v H' _ _ d;show d
 .show absurd e2 (JZ nl e1)
noncomputable def tys:List String:=["NoneType","bool","int","str","tuple","list","dict"]
def KI (K:PySem.W.Frag):Bool:=tys.all λS=>["int","bool","tuple","list"].all λT=>PySem.W.kitOne K (.type S) (.type T)==ae (u6 S T)
theorem CH (h:KI K=ah) {T:String}(m:T∈["int","bool","tuple","list"]):pS K T:=by
 intro d;unfold KI at h;rw[c5]at h;have m1:rn d∈tys:=by cases d<;>simp[rn,tys]
 have z:=h _ m1;rw[c5]at z;show beq_iff_eq.mp (z _ m)
theorem Vh {ps:List Str}{f:aj}{oc:ai}{od an:Option aj}{kV doc pm bM ct:ai}(X:K.In h) (G:h.Ns mainGlobals mg)
 (a:PySem.W.nsIn K mainGlobals x=ae (ae (.ref f))) (l:K.lookup f=ae #[oc,od,.func (PySem.W.fnOf x x (jh st) (gY st) (fO st) .none kV doc pm an bM ct),qJ])
 (c:PySem.W.codeIn K bM x=ah) (k:PySem.W.keepIn K (.ref f)=ah) (hb:∀ fd,qp K x x st f fd->Binds K fd ps []):Def K mg x st ps:=
 #[f,_,Lr l c k,PySem.W.mg_of X G a,hb _ (Lr l c k)]
theorem Vi {l:PySem.W.OpenLaw}{fa:aj}{k:Nat}(cl:Nat->aj) (yu:mg "law"=ae (.ref fa)) (D:Def K mg "law" st ["_law_script"])
 (hB:∀ (fd:FuncData) (f:aj),qp K "law" "law" st f fd->∀ (s:aq) (u:ai),BindsTo s fd #[[u],[]] [("_law_script",u)])
 (H:∀ base:aI,K.In base->base.Ns mainGlobals mg->rJ l.prog w K mg base cl k "law" ["_law_script"] fn) :
 ∃ (cl:Nat->aj) (fd:FuncData),zaO /\ ∀ base:aI,K.In base->base.Ns mainGlobals mg->kQ l.prog w K mg base (qr l.prog w) k fa fd ["_law_script"] (ub cl 1 fn):=by
 let#[f,fd,F,hm,_]:=D;rw[yu]at hm;cases hm;refine#[cl,fd,hB fd fa F,λbase hK hN=>?_];let#[f',akp,ok,aeD,_,_,o,hl,hd]:=H base hK hN;rw[yu]at aeD;cases aeD;let#[o2,qX,hd2]:=F.obj;rw[hl]at qX;cases qX;rw[hd]at hd2;cases hd2;show ok
theorem walk_d {l:PySem.W.OpenLaw}{q:dg}{loose:List Str}{XP:(Str->Option ai)->aI->zu}{YP:cn->aI->zu}{d:DefRec}{K:Params->PySem.W.Frag}{k:Nat}{fn:List W->List Bx->O W}(hk:di k callerA) (hn:l.most=ae 63) (X3:d.params.defaults=[])
 (hY:∀ (w:cn) (h:aI),YP w h->(K w.params).In h) (nl:∀ w:cn,KH (K w.params)=ah) (hf:∀ ns:List Int,ns.length<=63->∃ bx',fn [.s ns] []=.val zap bx')
 (F:∀ (w:cn) (mg:Str->Option ai) (fa:aj) (h:aI),(K w.params).In h->h.Ns mainGlobals mg->mg d.name=ae (.ref fa) ->
  ∃ (cl:Nat->aj) (fd:FuncData),zaO /\ ∀ base:aI,(K w.params).In base->base.Ns mainGlobals mg->kQ l.prog w (K w.params) mg base (qr l.prog w) k fa fd ["_law_script"] (ub cl 1 fn)) :
 PySem.W.WalkO q loose XP YP l.row.toRowW d [] (λf vs=>PySem.call f vs):=by
 refine ac1.agd hn X3 λw s0 s1 mg mb fa o pm cd doc a vs ns G Y ho hd pO hmg X4 hints hlen hg=>?_;have KX:=hY w _ Y;let#[cl,fd,hb,hF]:=F w mg fa _ KX G.T.g hmg;show Lq KX G.T.g G.T.b G.T.builtins G.T.nolimit hg X4 hints (cC hlen ze) hk hF hb (λH hO hS=>Vg (nl w) hO hS (hf ns hlen)) λH e s' z=>by
  let#[_,_,_,_,_,_,_,_,_,_,_,_,_,z]:=z;show z
noncomputable def KJ (K:Frag) (bl:List Str):Bool:=bl.all λx=>match nsIn K mainGlobals x with|some ag=>ah|_=>af
noncomputable def KL (K:Frag) (gl:List (Str×Int)):Bool:=gl.all λp=>match nsIn K mainGlobals p.1 with|some (ae (.int v _))=>v==p.2|_=>af
theorem FO {bl:List Str}(X:K.In h) (G:h.Ns mainGlobals mg) (c:KJ K bl=ah):∀ x,x∈bl->mg x=ag:=λx m=>by
 unfold KJ at c;rw[c5]at c;have z:=c x m;split at z
 .next e=>show mg_none_of X G e
 .cases z
theorem NS {gl:List (Str×Int)}(X:K.In h) (G:h.Ns mainGlobals mg) (c:KL K gl=ah):∀ x v,gl.lookup x=ae v->∃ u,mg x=ae (.int v u):=λx v e=>by
 unfold KL at c;rw[c5]at c;refine jf (P:=λx (v:Int)=>∃ u,mg x=ae (.int v u)) (l:=gl) (λp m=>?_) e;have z:=c p m;split at z
 .next v u e=>
  have:v=p.2:=by simpa using z
  subst this;show#[u,mg_of X G e]
 .cases z
theorem WE {t:Tx}(X:K.In h) (G:h.Ns mainGlobals mg) (z:KJ K t.bl=ah) (g:KL K t.gl=ah) (y:KI K=ah):ZC K mg t:=
 #[NS X G g,FO X G z,CH y zi,CH y zi,CH y zi,CH y zi]
theorem R6 {l:PySem.W.OpenLaw}{fa:aj}{k:Nat}(cl:Nat->aj) (yu:mg "law"=ae (.ref fa)) (D:Def K mg "law" st ["_law_script"])
 (hB:∀ (fd:FuncData) (f:aj),qp K "law" "law" st f fd->∀ (s:aq) (u:ai),BindsTo s fd #[[u],[]] [("_law_script",u)])
 (H:∀ base:aI,K.In base->base.Ns mainGlobals mg->∃ kk,rJ l.prog w K mg base cl kk "law" ["_law_script"] fn /\ kk<=k) :
 ∃ (cl:Nat->aj) (fd:FuncData),zaO /\ ∀ base:aI,K.In base->base.Ns mainGlobals mg->kQ l.prog w K mg base (qr l.prog w) k fa fd ["_law_script"] (ub cl 1 fn):=
 Vi cl yu D hB λbase a b=>by
  let#[kk,#[f,fd,ok,r],le]:=H base a b;show#[f,fd,ok.mono le,r]
def ba (K:Frag) (x:Str) (st:cj):zu:=∃ (f:aj) (oc:ai) (od:Option aj) (kV dc pm:ai) (an:Option aj) (cd ct:ai) (sl:Array (Option ai)),nsIn K mainGlobals x=ae (ae (.ref f)) /\
 K.lookup f=ae #[oc,od,.func (fnOf x x (jh st) (gY st) (fO st) .none kV dc pm an cd ct),sl] /\ codeIn K cd x=ah /\ keepIn K (.ref f)=ah
theorem dIn_mk {K:Frag}{x:Str}{st:cj}{f:aj}{oc:ai}{od:Option aj}{kV dc pm:ai}{an:Option aj}{cd ct:ai}{sl:Array (Option ai)}(a:nsIn K mainGlobals x=ae (ae (.ref f)))
 (l:K.lookup f=ae #[oc,od,.func (fnOf x x (jh st) (gY st) (fO st) .none kV dc pm an cd ct),sl]) (c:codeIn K cd x=ah) (k:keepIn K (.ref f)=ah):ba K x st:=#[f,oc,od,kV,dc,pm,an,cd,ct,sl,a,l,c,k]
noncomputable def ZD (a:Arguments) (ps:List Str):Bool:=a.posonlyargs.isEmpty&&a.vararg.isNone&&a.kwonlyargs.isEmpty&&a.kwarg.isNone&&decide (a.args.map (·.arg)=ps)&&decide ps.Nodup
theorem AG {β:Type}{f g:Str->Option β}:∀ {l:List Str},(∀ n∈l,f n=g n)->l.filterMap f=l.filterMap g:=by
 intro l_;induction l_ with
 |nil=>show λ_=>rfl
 |cons n l az=>(intro h;rw[pH,pH,h n (bE ..),az λm q=>h m (bB _ q)])
theorem D3:∀ {ps:List Str}{us:List ai},us.length=ps.length->ps.Nodup->(∀ n∈ps,((ps.zip us).lookup n).isNone=af) /\ ps.filterMap (λn=>((ps.zip us).lookup n).map (n,·))=ps.zip us
 |[],_,_,_=>#[(λ_ h=>nomatch h),rfl]
 |p::ps,[],h,_=>by cases h
 | p::ps,u::us,h,nd=>by
   let#[n1,n2]:=tO.mp nd;let#[a,b]:=D3 (ps:=ps) (us:=us) (by simpa using h) n2;have ne:∀ n∈ps,(n==p)=af:=λn m=>beq_eq_false_iff_ne.mpr λz=>n1 (z▸m);refine#[λn m=>?_,?_]
   .rw[vD,kD];cases q:n==p with
    |true=>rfl
    |false=>
      rcases bz.mp m with z|z
      .rw[z]at q;simp at q
      .show a n z
   .rw[vD,List.filterMap_cons_some (b:=(p,u)) (by simp[kD])];congr 1;refine Eq.trans ?_ b;show AG λn m=>by rw[kD,ne n m]
theorem FP {a:Arguments}{b:List cj}{sc:bW}{ps:List Str}(h:ZD a ps=ah) (kV doc pm:ai) (an:Option aj) (bM ct:ai) (us:List ai) (hl:us.length=ps.length) :
 bindArgs (fnOf x x a b sc .none kV doc pm an bM ct) #[us,[]]=pure (ps.zip us):=by
 let#[po,ar,va,ko,kd,kw,df]:=a;erw[ZD,aG,decide_eq_true_eq,List.isEmpty_iff,Option.isNone_iff_eq_none]at h;let#[#[#[#[#[rfl,rfl],rfl],rfl],rfl],nd]:=h;let#[z1,z2]:=D3 hl nd;erw[bindArgs,fnOf];have m0:∀ l:List Str,(∀ n∈l,n∈ar.map (·.arg))->l.filter (λn=>(((ar.map (·.arg)).zip us).lookup n).isNone)=[]:=λl h=>List.filter_eq_nil_iff.mpr λn m=>by rw[z1 n (h n m)];decide
 have n0:(do notAStandIn Value.none;pure (ag:Option (Array ai)))=pure ag:=rfl;erw[xb,kL,uJ,vC,pure_bind,seqItems?,n0,hl,gt_iff_lt,kC,decide_false,Hh,yI,if_false,W2,List.drop_nil,nS,He,Hr,List.drop_length,Q6,m0 _ λ_ h=>h,List.isEmpty_nil,Bool.not_true,z2]
noncomputable def AllIn (K:Frag):List FI->zu
 |[]=>True
 |f::r=>ba K f.x f.st /\ AllIn K r
theorem aeE {K:Frag}{h:aI}{mg:Str->Option ai}(X:K.In h) (G:h.Ns mainGlobals mg):∀ {l:List FI},AllIn K l->(l.all λf=>ZD (jh f.st) f.ps)=ah->∀ f∈l,Def K mg f.x f.st f.ps
 |[],_,_=>λ_ m=>nomatch m
 | g::r,d,q=>λf m=>by
   rw[tK,aG]at q;rcases bz.mp m with rfl|m
   .let#[f,oc,od,kV,dc,pm,an,cd,ct,sl,a,l,c,k]:=d.1;show Vh X G a l c k λfd F=>F.binds (FP q.1)
   .show aeE X G d.2 q.2 f m
end L2.DL
namespace K21
open L2 L2.DL
noncomputable section
def top (i:Nat):cj:=PySem.Challenge.pw_rimehold_k21_ripeness_hour_by_hour.main.body.getD i (.Pass #[0,0,0,0])
noncomputable def tx:L2.DL.Tx:=#["_law_script",[("COLDEST",3),("MOST_OUTS",4),("MOST_PAGES",16),("LAST_LOT",9)],["all","any","bool","dict","int","isinstance","len","list","max","min","range","repr","set","sorted","tuple","zip"]]
def i0:FI:=#["_law_pot",["_law_cell"],["_law_cell","_law_number","_law_j","_law_more"],[],[],[],1,top 54,K1.jS]
def i1:FI:=#["_law_take",["_law_pot_here","_law_far_here"],["_law_pot_here","_law_far_here","_law_found"],[],[],[],0,top 55,K1.fm]
def i2:FI:=#["_law_kind_of",["_law_pot_here"],["_law_pot_here","_law_top","_law_rates"],[],[],[],0,top 57,K1.gH]
def i3:FI:=#["_law_house",["_law_pot_here"],["_law_pot_here","_law_rooms","_law_kinds","_law_pairs","_law_other"],[],[],[],0,top 58,aH.iP]
def i4:FI:=#["_law_mixed",["_law_pot_here","_law_some"],["_law_pot_here","_law_some","_law_left"],["_law_left"],[],[],0,top 56,aH.jW]
def i5:FI:=#["_law_page",["_law_pot_here","_law_house_here","_law_near"],["_law_pot_here","_law_house_here","_law_near","_law_hour","_law_lot","_law_room","_law_way","_law_ripe_here"],[],[],[],0,top 60,aH.gW]
def i6:FI:=#["_law_pages",["_law_pot_here","_law_house_here","_law_most","_law_near"],["_law_pot_here","_law_house_here","_law_most","_law_near","_law_found","_law_turn","_law_page_here"],["_law_found"],[],[("_law_found",3)],0,top 61,aH.iQ]
def i7:FI:=#["_law_far",["_law_pot_here","_law_outs_here","_law_pages_here"],["_law_pot_here","_law_outs_here","_law_pages_here","_law_by","_law_later"],[],[],[],0,top 62,K2.jT]
def i8:FI:=#["_law_cell_at",["_law_script","_law_k"],["_law_script","_law_k"],[],[],[],0,top 53,K1.g9]
def i9:FI:=#["_law_outs",["_law_pot_here","_law_near"],["_law_pot_here","_law_near","_law_found","_law_begin","_law_turn"],["_law_found"],[],[],0,top 59,K2.jk]
def KN:FI:=#["_law_mates",["_law_house_here","_law_there","_law_kind"],["_law_house_here","_law_there","_law_kind","_law_found","_law_lot","_law_other"],["_law_found"],["_law_there"],[],0,top 64,aH.gm]
def KO:FI:=#["_law_read_one",["_law_house_here","_law_box","_law_page_here"],["_law_house_here","_law_box","_law_page_here","_law_hour","_law_word","_law_lot","_law_there","_law_kind","_law_room"],["_law_there"],["_law_there","came","gone","there"],[("doors",3)],0,top 65,aH.gF]
def i12:FI:=#["_law_read",["_law_house_here","_law_pages_here"],["_law_house_here","_law_pages_here","_law_box","_law_page_here"],[],["_law_box"],[("doors",3)],0,top 66,aH.jo]
def KR:FI:=#["_law_there_at",["_law_box","_law_hour"],["_law_box","_law_hour","_law_found","_law_when","_law_there"],[],["_law_found"],[("at",2)],0,top 67,cT.gG]
def KS:FI:=#["_law_cold",["_law_house_here","_law_outs_here","_law_room","_law_hour"],["_law_house_here","_law_outs_here","_law_room","_law_hour","_law_cold_here","_law_begin","_law_end"],[],[],[],0,top 63,K2.jn]
def KU:FI:=#["_law_gain",["_law_house_here","_law_outs_here","_law_box","_law_kind","_law_room","_law_hour"],["_law_house_here","_law_outs_here","_law_box","_law_kind","_law_room","_law_hour","_law_cold_here"],[],[],[("doors",3)],0,top 68,a9.jp]
def KW:FI:=#["_law_ripe",["_law_house_here","_law_outs_here","_law_box","_law_lot","_law_hour"],["_law_house_here","_law_outs_here","_law_box","_law_lot","_law_hour","_law_found","_law_when","_law_there","_law_kind","_law_room"],[],["_law_there","_law_there_at","came"],[],0,top 69,K21.jt]
def KY:FI:=#["is_tuple",["thing","fewest","most"],["thing","fewest","most"],[],[],[],0,top 11,K1.f8]
def KZ:FI:=#["is_whole",["thing"],["thing"],[],[],[],0,top 8,K1.jj]
def K0:FI:=#["is_within",["thing","least","greatest"],["thing","least","greatest"],[],[],[],0,top 9,K1.fX]
def K3:FI:=#["are_rooms",["thing"],["thing"],[],[],[],0,top 18,K1.jO]
def K4:FI:=#["are_rates",["thing"],["thing"],[],[],[],0,top 21,K1.jP]
def K5:FI:=#["is_kind",["thing"],["thing"],[],[],[],0,top 20,K1.mD]
def K6:FI:=#["are_kinds",["thing"],["thing"],[],[],[],0,top 19,K1.jQ]
def K7:FI:=#["is_rising",["things"],["things"],[],[],[],0,top 12,K1.g6]
def K8:FI:=#["is_pair_apart",["thing","many"],["thing","many"],[],[],[],0,top 23,K1.iz]
def K9:FI:=#["are_apart",["thing","many"],["thing","many"],[],[],[],0,top 22,K1.jR]
def Qa:FI:=#["is_house",["thing"],["thing","rooms","kinds","apart","hold"],[],[],[],0,top 17,K1.lA]
def Qb:FI:=#["need_house",["thing"],["thing"],[],[],[],0,top 24,bP.iE]
def Qc:FI:=#["lie_apart",["outs"],["outs"],[],[],[],0,top 27,K2.jU]
def Qd:FI:=#["is_hour",["thing"],["thing"],[],[],[],0,top 10,K2.iA]
def Qe:FI:=#["is_out",["thing"],["thing"],[],[],[],0,top 26,K2.oM]
def Qf:FI:=#["are_outs",["house","thing"],["house","thing"],[],[],[],0,top 25,a9.lH]
def Qg:FI:=#["need_outs",["house","thing"],["house","thing"],[],[],[],0,top 28,a9.jZ]
def Qh:FI:=#["greatest_parts",["house","word"],["house","word","last_kind","last_room"],[],[],[],0,top 35,aH.ic]
def Qi:FI:=#["is_page",["house","thing"],["house","thing","greatest"],[],[],[],0,top 36,aH.jX]
def Qj:FI:=#["are_pages",["house","thing"],["house","thing"],[],[],[],0,top 37,aH.jY]
def Qk:FI:=#["need_pages",["house","thing"],["house","thing"],[],[],[],0,top 38,aH.jx]
def Ql:FI:=#["need_lot_of",["house","outs","pages","lot"],["house","outs","pages","lot"],[],[],[],0,top 47,a9.ie]
def Qm:FI:=#["need_hour",["thing"],["thing"],[],[],[],0,top 13,a9.iU]
def Qn:FI:=#["room_entered",["page"],["page"],[],[],[],0,top 40,aH.fL]
def Qo:FI:=#["may_share",["house","kind","other"],["house","kind","other"],[],[],[],0,top 31,aH.iT]
def Qp:FI:=#["word_for",["house","kinds","rooms","page"],["house","kinds","rooms","page","deed","lot","room","kind","neighbours"],[],["kinds","rooms"],[],0,top 41,aH.iH]
def Qq:FI:=#["read",["house","pages"],["house","pages","told","kinds","rooms","page","lot","word"],["kinds","rooms","told"],["kinds","rooms"],[],0,top 39,aH.Cg]
def Qr:FI:=#["steps_taken",["house","pages"],["house","pages"],[],[],[],0,top 42,cT.gJ]
def Qs:FI:=#["coming_of",["steps","lot"],["steps","lot","page","left","entered"],[],[],[],0,top 48,a9.gK]
def Qt:FI:=#["hours_of_change",["house","outs"],["house","outs","hours","begin","end"],["hours"],[],[],1,top 30,a9.gR]
def Qu:FI:=#["rooms_behind",["steps","hour"],["steps","hour","rooms","page","left","entered"],["rooms"],["rooms"],[],0,top 43,cT.iM]
def Qv:FI:=#["cold_by_outs",["house","outs","room","hour"],["house","outs","room","hour","cold","begin","end"],[],[],[],0,top 29,K2.iL]
def Qw:FI:=#["is_opened",["steps","room","hour"],["steps","room","hour"],[],[],[],0,top 44,a9.iV]
def Qx:FI:=#["points_in",["house","outs","steps","coming","hour"],["house","outs","steps","coming","hour","rooms","room","cold"],[],["rooms"],[],0,top 49,a9.iW]
def Qy:FI:=#["stretches",["house","outs","steps","coming"],["house","outs","steps","coming","hours","page","left","entered","begins","ends"],["hours"],[],[],0,top 50,a9.j0]
def Qz:FI:=#["ripe_at",["house","outs","steps","coming","hour"],["house","outs","steps","coming","hour","ripe","begin","end","points","until"],[],[],[],0,top 51,a9.mH]
def QA:FI:=#["ripeness",["house","outs","pages","lot","hour"],["house","outs","pages","lot","hour","steps","coming"],[],[],[],0,top 46,a9.jq]
def yw:FI:=#["law",["_law_script"],["_law_script","_law_k","_law_pot_here","_law_house_here","_law_some","_law_outs_here","_law_pages_here","_law_by","_law_box","_law_kept","_law_hours","_law_page_here","_law_lot","_law_hour","_law_due"],[],[],[],0,top 70,K21.CD]
noncomputable def r0:List FI:=[]
def r1:List FI:=i0::r0
def r2:List FI:=i1::r1
def r3:List FI:=i2::r2
def r4:List FI:=i3::r3
def r5:List FI:=i4::r4
def r6:List FI:=i5::r5
def r7:List FI:=i6::r6
def r8:List FI:=i7::r7
def r9:List FI:=i8::r8
def Et:List FI:=i9::r9
def ZE:List FI:=KN::Et
def ZF:List FI:=KO::ZE
def ZG:List FI:=i12::ZF
def ZH:List FI:=KR::ZG
def ZI:List FI:=KS::ZH
def ZJ:List FI:=KU::ZI
def ZK:List FI:=KW::ZJ
def ZL:List FI:=KY::ZK
def ZM:List FI:=KZ::ZL
def ZN:List FI:=K0::ZM
def ZO:List FI:=K3::ZN
def ZP:List FI:=K4::ZO
def ZQ:List FI:=K5::ZP
def ZR:List FI:=K6::ZQ
def ZS:List FI:=K7::ZR
def ZT:List FI:=K8::ZS
def ZU:List FI:=K9::ZT
def ZV:List FI:=Qa::ZU
def ZW:List FI:=Qb::ZV
def ZX:List FI:=Qc::ZW
def ZY:List FI:=Qd::ZX
def ZZ:List FI:=Qe::ZY
def Z0:List FI:=Qf::ZZ
def Z1:List FI:=Qg::Z0
def Z2:List FI:=Qh::Z1
def Z3:List FI:=Qi::Z2
def Z4:List FI:=Qj::Z3
def Z5:List FI:=Qk::Z4
def Z6:List FI:=Ql::Z5
def Z7:List FI:=Qm::Z6
def Z8:List FI:=Qn::Z7
def Z9:List FI:=Qo::Z8
def aaa:List FI:=Qp::Z9
def aab:List FI:=Qq::aaa
def aac:List FI:=Qr::aab
def aad:List FI:=Qs::aac
def aae:List FI:=Qt::aad
def aaf:List FI:=Qu::aae
def aag:List FI:=Qv::aaf
def aah:List FI:=Qw::aag
def aai:List FI:=Qx::aah
def aaj:List FI:=Qy::aai
def aak:List FI:=Qz::aaj
def aal:List FI:=QA::aak
def QB:List FI:=yw::aal
theorem q0:i0.Is tx r0:=(by kernel_rfl:i0.fn=i0.body tx (a8 r0))
theorem q1:i1.Is tx r1:=(by kernel_rfl:i1.fn=i1.body tx (a8 r1))
theorem q2:i2.Is tx r2:=(by kernel_rfl:i2.fn=i2.body tx (a8 r2))
theorem q3:i3.Is tx r3:=(by kernel_rfl:i3.fn=i3.body tx (a8 r3))
theorem q4:i4.Is tx r4:=(by kernel_rfl:i4.fn=i4.body tx (a8 r4))
theorem q5:i5.Is tx r5:=(by kernel_rfl:i5.fn=i5.body tx (a8 r5))
theorem q6:i6.Is tx r6:=(by kernel_rfl:i6.fn=i6.body tx (a8 r6))
theorem q7:i7.Is tx r7:=(by kernel_rfl:i7.fn=i7.body tx (a8 r7))
theorem q8:i8.Is tx r8:=(by kernel_rfl:i8.fn=i8.body tx (a8 r8))
theorem q9:i9.Is tx r9:=(by kernel_rfl:i9.fn=i9.body tx (a8 r9))
theorem aiu:KN.Is tx Et:=(by kernel_rfl:KN.fn=KN.body tx (a8 Et))
theorem aiv:KO.Is tx ZE:=(by kernel_rfl:KO.fn=KO.body tx (a8 ZE))
theorem aiw:i12.Is tx ZF:=(by kernel_rfl:i12.fn=i12.body tx (a8 ZF))
theorem aix:KR.Is tx ZG:=(by kernel_rfl:KR.fn=KR.body tx (a8 ZG))
theorem aiy:KS.Is tx ZH:=(by kernel_rfl:KS.fn=KS.body tx (a8 ZH))
theorem aiz:KU.Is tx ZI:=(by kernel_rfl:KU.fn=KU.body tx (a8 ZI))
theorem aiA:KW.Is tx ZJ:=(by kernel_rfl:KW.fn=KW.body tx (a8 ZJ))
theorem aiB:KY.Is tx ZK:=(by kernel_rfl:KY.fn=KY.body tx (a8 ZK))
theorem aiC:KZ.Is tx ZL:=(by kernel_rfl:KZ.fn=KZ.body tx (a8 ZL))
theorem aiD:K0.Is tx ZM:=(by kernel_rfl:K0.fn=K0.body tx (a8 ZM))
theorem aiE:K3.Is tx ZN:=(by kernel_rfl:K3.fn=K3.body tx (a8 ZN))
theorem aiF:K4.Is tx ZO:=(by kernel_rfl:K4.fn=K4.body tx (a8 ZO))
theorem aiG:K5.Is tx ZP:=(by kernel_rfl:K5.fn=K5.body tx (a8 ZP))
theorem aiH:K6.Is tx ZQ:=(by kernel_rfl:K6.fn=K6.body tx (a8 ZQ))
theorem aiI:K7.Is tx ZR:=(by kernel_rfl:K7.fn=K7.body tx (a8 ZR))
theorem aiJ:K8.Is tx ZS:=(by kernel_rfl:K8.fn=K8.body tx (a8 ZS))
theorem aiK:K9.Is tx ZT:=(by kernel_rfl:K9.fn=K9.body tx (a8 ZT))
theorem aiL:Qa.Is tx ZU:=(by kernel_rfl:Qa.fn=Qa.body tx (a8 ZU))
theorem aiM:Qb.Is tx ZV:=(by kernel_rfl:Qb.fn=Qb.body tx (a8 ZV))
theorem aiN:Qc.Is tx ZW:=(by kernel_rfl:Qc.fn=Qc.body tx (a8 ZW))
theorem aiO:Qd.Is tx ZX:=(by kernel_rfl:Qd.fn=Qd.body tx (a8 ZX))
theorem aiP:Qe.Is tx ZY:=(by kernel_rfl:Qe.fn=Qe.body tx (a8 ZY))
theorem aiQ:Qf.Is tx ZZ:=(by kernel_rfl:Qf.fn=Qf.body tx (a8 ZZ))
theorem aiR:Qg.Is tx Z0:=(by kernel_rfl:Qg.fn=Qg.body tx (a8 Z0))
theorem aiS:Qh.Is tx Z1:=(by kernel_rfl:Qh.fn=Qh.body tx (a8 Z1))
theorem aiT:Qi.Is tx Z2:=(by kernel_rfl:Qi.fn=Qi.body tx (a8 Z2))
theorem aiU:Qj.Is tx Z3:=(by kernel_rfl:Qj.fn=Qj.body tx (a8 Z3))
theorem aiV:Qk.Is tx Z4:=(by kernel_rfl:Qk.fn=Qk.body tx (a8 Z4))
theorem aiW:Ql.Is tx Z5:=(by kernel_rfl:Ql.fn=Ql.body tx (a8 Z5))
theorem aiX:Qm.Is tx Z6:=(by kernel_rfl:Qm.fn=Qm.body tx (a8 Z6))
theorem aiY:Qn.Is tx Z7:=(by kernel_rfl:Qn.fn=Qn.body tx (a8 Z7))
theorem aiZ:Qo.Is tx Z8:=(by kernel_rfl:Qo.fn=Qo.body tx (a8 Z8))
theorem ai0:Qp.Is tx Z9:=(by kernel_rfl:Qp.fn=Qp.body tx (a8 Z9))
theorem ai1:Qq.Is tx aaa:=(by kernel_rfl:Qq.fn=Qq.body tx (a8 aaa))
theorem ai2:Qr.Is tx aab:=(by kernel_rfl:Qr.fn=Qr.body tx (a8 aab))
theorem ai3:Qs.Is tx aac:=(by kernel_rfl:Qs.fn=Qs.body tx (a8 aac))
theorem ai4:Qt.Is tx aad:=(by kernel_rfl:Qt.fn=Qt.body tx (a8 aad))
theorem ai5:Qu.Is tx aae:=(by kernel_rfl:Qu.fn=Qu.body tx (a8 aae))
theorem ai6:Qv.Is tx aaf:=(by kernel_rfl:Qv.fn=Qv.body tx (a8 aaf))
theorem ai7:Qw.Is tx aag:=(by kernel_rfl:Qw.fn=Qw.body tx (a8 aag))
theorem ai8:Qx.Is tx aah:=(by kernel_rfl:Qx.fn=Qx.body tx (a8 aah))
theorem ai9:Qy.Is tx aai:=(by kernel_rfl:Qy.fn=Qy.body tx (a8 aai))
theorem aja:Qz.Is tx aaj:=(by kernel_rfl:Qz.fn=Qz.body tx (a8 aaj))
theorem ajb:QA.Is tx aak:=(by kernel_rfl:QA.fn=QA.body tx (a8 aak))
theorem ajc:yw.Is tx aal:=(by kernel_rfl:yw.fn=yw.body tx (a8 aal))
theorem Vj:ZA tx QB:=#[ajc,#[ajb,#[aja,#[ai9,#[ai8,#[ai7,#[ai6,#[ai5,#[ai4,#[ai3,#[ai2,#[ai1,#[ai0,#[aiZ,#[aiY,#[aiX,#[aiW,#[aiV,#[aiU,#[aiT,#[aiS,#[aiR,#[aiQ,#[aiP,#[aiO,#[aiN,#[aiM,#[aiL,#[aiK,#[aiJ,#[aiI,#[aiH,#[aiG,#[aiF,#[aiE,#[aiD,#[aiC,#[aiB,#[aiA,#[aiz,#[aiy,#[aix,#[aiw,#[aiv,#[aiu,#[q9,#[q8,#[q7,#[q6,#[q5,#[q4,#[q3,#[q2,#[q1,#[q0,trivial]]]]]]]]]]]]]]]]]]]]]]]]]]]]]]]]]]]]]]]]]]]]]]]]]]]]]]]
theorem Vk:KG QB=ah:=by kernel_rfl
end
open PySem.W
theorem Vl {l:PySem.W.OpenLaw}{w:cn}{K:Frag}{h:aI}{mg:Str->Option ai}{fa:aj}(X:K.In h) (G:h.Ns mainGlobals mg) (yu:mg "law"=ae (.ref fa))
 (z0:KJ K tx.bl=ah) (g0:KL K tx.gl=ah) (y1:KI K=ah)
 (d0:ba K "_law_pot" (top 54))
 (d1:ba K "_law_take" (top 55))
 (d2:ba K "_law_kind_of" (top 57))
 (d3:ba K "_law_house" (top 58))
 (d4:ba K "_law_mixed" (top 56))
 (d5:ba K "_law_page" (top 60))
 (d6:ba K "_law_pages" (top 61))
 (d7:ba K "_law_far" (top 62))
 (d8:ba K "_law_cell_at" (top 53))
 (d9:ba K "_law_outs" (top 59))
 (ajd:ba K "_law_mates" (top 64))
 (aje:ba K "_law_read_one" (top 65))
 (ajf:ba K "_law_read" (top 66))
 (ajg:ba K "_law_there_at" (top 67))
 (ajh:ba K "_law_cold" (top 63))
 (aji:ba K "_law_gain" (top 68))
 (ajj:ba K "_law_ripe" (top 69))
 (ajk:ba K "is_tuple" (top 11))
 (ajl:ba K "is_whole" (top 8))
 (ajm:ba K "is_within" (top 9))
 (ajn:ba K "are_rooms" (top 18))
 (ajo:ba K "are_rates" (top 21))
 (ajp:ba K "is_kind" (top 20))
 (ajq:ba K "are_kinds" (top 19))
 (ajr:ba K "is_rising" (top 12))
 (ajs:ba K "is_pair_apart" (top 23))
 (ajt:ba K "are_apart" (top 22))
 (aju:ba K "is_house" (top 17))
 (ajv:ba K "need_house" (top 24))
 (ajw:ba K "lie_apart" (top 27))
 (ajx:ba K "is_hour" (top 10))
 (ajy:ba K "is_out" (top 26))
 (ajz:ba K "are_outs" (top 25))
 (ajA:ba K "need_outs" (top 28))
 (ajB:ba K "greatest_parts" (top 35))
 (ajC:ba K "is_page" (top 36))
 (ajD:ba K "are_pages" (top 37))
 (ajE:ba K "need_pages" (top 38))
 (ajF:ba K "need_lot_of" (top 47))
 (ajG:ba K "need_hour" (top 13))
 (ajH:ba K "room_entered" (top 40))
 (ajI:ba K "may_share" (top 31))
 (ajJ:ba K "word_for" (top 41))
 (ajK:ba K "read" (top 39))
 (ajL:ba K "steps_taken" (top 42))
 (ajM:ba K "coming_of" (top 48))
 (ajN:ba K "hours_of_change" (top 30))
 (ajO:ba K "rooms_behind" (top 43))
 (ajP:ba K "cold_by_outs" (top 29))
 (ajQ:ba K "is_opened" (top 44))
 (ajR:ba K "points_in" (top 49))
 (ajS:ba K "stretches" (top 50))
 (ajT:ba K "ripe_at" (top 51))
 (ajU:ba K "ripeness" (top 46))
 (ajV:ba K "law" (top 70)) :
 ∃ (cl:Nat->aj) (fd:FuncData),zaO /\ ∀ base:aI,K.In base->base.Ns mainGlobals mg->kQ l.prog w K mg base (qr l.prog w) 55 fa fd ["_law_script"] (ub cl 1 K21.CD):=by
 have DF:=aeE X G (l:=QB) #[ajV,ajU,ajT,ajS,ajR,ajQ,ajP,ajO,ajN,ajM,ajL,ajK,ajJ,ajI,ajH,ajG,ajF,ajE,ajD,ajC,ajB,ajA,ajz,ajy,ajx,ajw,ajv,aju,ajt,ajs,ajr,ajq,ajp,ajo,ajn,ajm,ajl,ajk,ajj,aji,ajh,ajg,ajf,aje,ajd,d9,d8,d7,d6,d5,d4,d3,d2,d1,d0,trivial] (by kernel_rfl);refine R6 (λ_=>0) yu (DF yw (bE ..)) (λfd f F s u=>?_) λbase _ _=>?_
 .let#[#[oc,od,kV,doc,pm,an,bM,ct,qJ,rfl,_,_],_]:=F;show .of_eq zc
 .show R0 (WE X G z0 g0 y1) QB Vj Vk DF yw (bE ..)
end K21
end
structure PySem.W.Fast:Prop where(tw18170070509327785807 tw7175215476952812721 tw3314087816150018300 tw17980346545270003404 tw7691645074813626004 tw2239852331459988060 tw13940724851830672235 tw11369655273059061323 tw9964064942760296695 tw5277079758896179695 tw6573233476285009767 tw9330732551459562253 tw13483944217776299435 tw3725801382684404290 tw6159792338573278366 tw3346309467956208628 tw4145235672760316439 tw4343029492098081052 tw7972376308542928913 tw11139826218163817895 tw10068440724278038245 tw16509572752098202556 tw9960108848067688744 tw15976634113795942362 tw14891343840578514651 tw13978137010858658802 tw8269028923748170537 tw18301115608304682204 tw15979178887618378577 tw3517329376766112985 tw6168542253398158947 tw13478030840917095713 tw4910794186524435659 tw15575093627117385803 tw16685317156352264148 tw2988221497525559083 tw16862983282333014594 tw8608427686062303105 tw11590804628157675091 tw13963245320106649112 tw15036101327324644140 tw14588090636546274097 tw1960532032731238296 tw7765435685284677652 tw12298930462646515010 tw12880513445297807394 tw17130223876730681708 tw15051546715661545562 tw15991787752090932420 tw17944208448089973341 tw4191220595970053444 tw16538301233806107036 tw586145751380892461 tw13707740655578971247 tw18022113270808749905 tw303937170270303269 tw15000947002923188331 tw3629896649166510833 tw2864101975608678558 tw3558025903239079783 tw12679728615814662163 tw1332246543838104328 tw4361370123400394085 tw6412804902311665103 tw14757021235500103900 tw15117050409826989030 tw13369902922384897831 tw15695874794404437605 tw16569218678398963727 tw11026934778027780563 tw17159448304032785869 tw2098171845916155656 tw7100906483708925074 tw7846579359751014536 tw17214531517207482213 tw13042701667331011390 tw15846979868125952808 tw2271354741297059137 tw13337874335594499698 tw57584235551420079 tw18439037594514363120 tw14441091017230927026 tw4845366298422198737 tw3093227464031692657 tw15432661133170277712 tw10949932790005578421 tw6263776840975763522 tw1545838157487957628 tw354853621971415370 tw10868848246042398702 tw13986282801653141063 tw6367217722367499272 tw14437811440516270836 tw882539122802136909 tw17388281178118609266 tw10441685097633999390 tw1177158891420132300 tw12980094224317812294 tw8407913850205785218 tw2449200261798685145 tw2572654356960735233 tw1823944735125358750 tw1427427409673747941 tw17442780896259991298 tw15718733344835623534 tw6858492849913287874 tw1301296731274899142 tw16154910006356524172 tw10161816681641844086 tw3808415908667742097 tw12137300798854011949 tw16202448275561907855 tw2962087013435064070 tw7593864901428084671 tw16210004899048088501 tw5470578746733560222 tw6257237536121722080 tw12705840903858330780 tw8301279338133574172 tw16282130647607965893 tw4000721871880179325 tw3227741643191279897 tw11549559666070722312 tw847651677491266785 tw15464483660462765904 tw8088504447872903546 tw9332089188729640680 tw8043014323363483676 tw15325726039407182144 tw16053752094629861255 tw17239390507295677565 tw8269424746735388604 tw2628885131703324934 tw14549237798634472536 tw1481117363889225654 tw1692583367594179840 tw4377199150648392932 tw6025402720254531851 tw10265016145661273061 tw10702635571867666148 tw18333772940590671516 tw9321892896123430452 tw2691567233852465373 tw9628237490724947725 tw9265997763759635193 tw10066788874448466543 tw1822792445059976097 tw15349532840416329664 tw10419035704354327623 tw10361505450884550089 tw11460406873918516725 tw1144002512400326427 tw15912541719980947433 tw12423959551686672318 tw9813705028772266946 tw7707499739736735861 tw2882915979212845365 tw14664988507860880993 tw11063685257959110018 tw8394750028484380231 tw5492669888229457325 tw9085467405062206082 tw9744142445351473952 tw15917763070379600487 tw12762256119763376544 tw302277246916095920 tw3267900938791996524 tw17230662667594909308 tw17723446331574022936 tw6608692514861019765 tw15162515661410034226 tw8565530324704957057 tw11905293621887225532 tw8942924008908930178 tw5768791446140472516 tw4840867205401157439 tw17506457849337756616 tw13094384100000492920 tw8820761286221211437 tw6769243063790427157 tw5666602496270708262 tw17729798111912408507 tw1882676326662328777 tw9649554415237125300 tw3609210895315138235 tw18361942545580071292 tw1863330250761115885 tw18332186371368146561 tw14805380363578712750 tw11458217298059847393 tw5264504277176859490 tw15223173799088127932 tw2799638690114777419 tw7492109008803910734 tw4377092586680131609 tw17972340756179223438 tw6526546812043205238 tw2086804902065307865 tw8902229205493450139 tw16161738155944209029 tw234470633233784072 tw7673962768842217803 tw6316021293139329377 tw4803218587814000466 tw3993987263451150310 tw15448416893845708356 tw15186150492300735814 tw14129823365153037711 tw6905836131032466180 tw5245442350719725105 tw12775671236784048471 tw11007022177054459709 tw4848743277526104039 tw11584022383500474412 tw5621521954650389048 tw17414323794324306636 tw16718668570474154272 tw12880990679236554778 tw10835883641033211053 tw10198410618351579948 tw8672445586802340808 tw4133336882628074213 tw14657646458381325196 tw13660388513373195719 tw7240139078062588899 tw5889600288018596065 tw16066481792907368001 tw10122033532070397976 tw8386347902056504143 tw15035043049407229034 tw1839028262339704374 tw15639255035544322187 tw7131678400341486728 tw3432951778553141678 tw1929935020329245694 tw70899417490597148 tw6313369320374617550 tw15599692991303346175 tw3296736429714250190 tw7605651859440853271 tw16179025623826039742 tw14819328476845969349 tw6556462303869156260 tw17796638747299749013 tw2194537354890583809 tw2172128338870800386 tw9701659375054411150 tw7061612467619326213 tw6647823159346885202 tw11170113732860361988 tw8764176367494770186 tw10076779678948845721 tw9347989060013813025 tw14569417849323000112 tw1268574916202098472 tw849154732480503856 tw7694744107737239765 tw6711063973195356508 tw4266195685065452403 tw2774236592830927327 tw17166208082774049434 tw16748144356360553092 tw16713384175826196041 tw2845299410001432177 tw13292105096461430871 tw5835018944890492593 tw13786898583098860539 tw3947144901546229652 tw3903715911497082856 tw2891737480192881159 tw1698617114800467071 tw16919477319716195478 tw10854753762569202006 tw18062334619505655959 tw5565660754924753388 tw5413980127434770015 tw4234445066860412115 tw4025555068106790397 tw12168716700689551453 tw11527024155200080887 tw14468975406652021567 tw6738330786854643602 tw5241566051839879217 tw247396050701048828 tw17839301538412857443 tw16735873089277695741 tw10347777726715356651 tw16857184521190634345:True)
open_top hdk21 for PySem.Challenge.rw_rimehold_k21_ripeness_hour_by_hour

set_option maxRecDepth 100000 in
set_option maxHeartbeats 0 in
theorem PySem.Challenge.cw_rimehold_k21_ripeness_hour_by_hour_holds : PySem.Challenge.rw_rimehold_k21_ripeness_hour_by_hour.Holds :=
 hdk21 (by
 k_fill
 refine L2.DL.walk_d (l:=PySem.Challenge.rw_rimehold_k21_ripeness_hour_by_hour) (k:=55) (fn:=K21.CD) ⟨rfl,by decide,by decide,rfl⟩ rfl rfl (λw h Y=>PySem.W.kIn_of Y) ?kq_nl (λns h=>K21.law_true ns (by lia)) ?kq_F
 case kq_nl =>
  intro w;kernel_rfl
 case kq_F =>
  intro w mg fa h KX G hmg
  refine' K21.Vl KX G hmg ?kq_z0 ?kq_g0 ?kq_y1 ?_ ?_ ?_ ?_ ?_ ?_ ?_ ?_ ?_ ?_ ?_ ?_ ?_ ?_ ?_ ?_ ?_ ?_ ?_ ?_ ?_ ?_ ?_ ?_ ?_ ?_ ?_ ?_ ?_ ?_ ?_ ?_ ?_ ?_ ?_ ?_ ?_ ?_ ?_ ?_ ?_ ?_ ?_ ?_ ?_ ?_ ?_ ?_ ?_ ?_ ?_ ?_ ?_ ?_ ?_
  (case kq_z0=>kernel_rfl)
  (case kq_g0=>kernel_rfl)
  (case kq_y1=>kernel_rfl)
  any_goals exact L2.DL.dIn_mk (by k_is) (by k_is) (by k_is) (by k_is)
 )
