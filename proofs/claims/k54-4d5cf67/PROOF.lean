import PyProof.Rows.All
import Wide.All
import OpenK.AllK
import Wide.FinOn
import Lean
import PyProof.EqAt
import PyProof.EqKinds
import PyProof.TupleCall
import PyProof.Walks
import PyProof.ListMulRoad
import PyProof.ReprRoads
import PyProof.NeData
import PyProof.P3In
import PyProof.ZipIter
import PyProof.Draws
import PyProof.TupleIter
import PyProof.Rows.StrRules
import PyProof.CompUse
import PyProof.ListRange
import KE.KDictLaws
import PyProof.EnumFor
import PyProof.EnumMake
import PyProof.EnumStmt
import PyProof.ConsumeWalk
import KE.KMinKey
import PyProof.ListNew
import PyProof.Rows.SetFrom
import PyProof.WalksMore
import KE.KDictList
import PySem.Challenge.RW_rimehold_k54_moves_refused
set_option Elab.async false
set_option linter.all false
set_option maxRecDepth 100000
set_option maxHeartbeats 4000000
set_option exponentiation.threshold 3000
set_option hygiene false
set_option compiler.extract_closed false
local macro_rules|`(zc3)=>`((.Call (.Attribute o "setdefault" apos) [e,f] [] aV))
local macro_rules|`(zc2)=>`((.bl true))
local macro_rules|`(zc1)=>`((aG (dB (dN false bj (fc (fI false [none] (ax zL) (fg 0) fG (fj fw 3 (fc (dV 0) (fc zd zbx)))) ff)))))
local macro_rules|`(zc0)=>`((dB (dN false bj (fc (fI false [none,some 0] (ax (dV 1)) (fg 0) fG (fj aJ.mD 2 (fc (dV 1) zq))) ff))))
local macro_rules|`(zcZ)=>`((gH (r:=.old (.int (l.length:Nat))) [.lst l] zo rfl))
local macro_rules|`(zcY)=>`((k env bx))
local macro_rules|`(zcX)=>`((n,NameKind.cell))
local macro_rules|`(zcW)=>`([x0,x1,some zbA,x3,x4,some (.d (dP r)),xB bx.length])
local macro_rules|`(zcV)=>`((.tup [a,b]))
local macro_rules|`(zcU)=>`((fc (dV 3) ff))
local macro_rules|`(zcT)=>`((fc (fI false [none,some 0,some 1] (ax (dV 3)) (fg 0) fG (fj K54.jU 3 (fc (dV 1) (fc (dV 2) zq)))) ff))
local macro_rules|`(zcS)=>`((start N vs))
local macro_rules|`(zcR)=>`((x∈di ps zT))
local macro_rules|`(zcQ)=>`([some (.d h),xP ps,xN 0,some (.d d)])
local macro_rules|`(zcP)=>`((.Attribute o "values" apos))
local macro_rules|`(zcO)=>`((.d zag))
local macro_rules|`(zcN)=>`((List Key×D))
local macro_rules|`(zcM)=>`((c.inner (cq tg pS) sc))
local macro_rules|`(zcL)=>`((cD _ (cD _ (iI hb e))))
local macro_rules|`(zcK)=>`([some (.d h),w1,some (.d x)])
local macro_rules|`(zcJ)=>`((nY CX P w K mg base N qual scope f cdv A outer s H E))
local macro_rules|`(zcI)=>`((yP CX P w K mg base N qual scope f cdv A outer s H E))
local macro_rules|`(zcH)=>`((·.setIfInBounds 0 (rawInt ((dZ w t (i+1):Nat):Int))))
local macro_rules|`(zcG)=>`([xP ps,xB B0.length,w2,xB z8,xU p,w5])
local macro_rules|`(zcF)=>`((.int (if j<i then j else i)))
local macro_rules|`(zcE)=>`((.int (if j>i then j else i)))
local macro_rules|`(zcD)=>`(((bZ ps j).map ek))
local macro_rules|`(zcC)=>`((.builtin "getset_descriptor.__get__"))
local macro_rules|`(zcB)=>`((.dK af))
local macro_rules|`(zcA)=>`((.ref D))
local macro_rules|`(zcz)=>`((apos.endLine==pos.line))
local macro_rules|`(zcy)=>`((by rw[lD];exact⟨.bl _,H,I,rfl,q⟩))
local macro_rules|`(zcx)=>`((b∈X.ex \/ X.s₀.heap.objs.size<=b))
local macro_rules|`(zcw)=>`((dB (f7 "tuple" (dV 5))))
local macro_rules|`(zcv)=>`((w.params.setOrder a ep))
local macro_rules|`(zcu)=>`((10 ^ 30))
local macro_rules|`(zct)=>`((Obj.mapFields (·.setIfInBounds 1 (rawInt ((i:Int)+1)))))
local macro_rules|`(zcs)=>`(((intKind prog w).hash i))
local macro_rules|`(zcr)=>`((.Compare a [op] [b] pos))
local macro_rules|`(zcq)=>`((.Name x pos))
local macro_rules|`(zcp)=>`((all_map _ _))
local macro_rules|`(zco)=>`((dC (.int 10)))
local macro_rules|`(zcn)=>`((by simpa[toPy,PyData.showable] using h))
local macro_rules|`(zcm)=>`((fc zc (fc (dC (.int 999)) ff)))
local macro_rules|`(zcl)=>`((dj (aN e) I.ok.above))
local macro_rules|`(zck)=>`((fc (d2 false ak (dV 5) zd) (fc zc (fc (dC (.int 999)) ff))))
local macro_rules|`(zcj)=>`((some (.d (enc a))::r))
local macro_rules|`(zci)=>`((by simp only[bf]<;>lia))
local macro_rules|`(zch)=>`((.Tuple [a,b] k2 kQ))
local macro_rules|`(zcg)=>`((false,eval b X.env))
local macro_rules|`(zcf)=>`((.builtin id))
local macro_rules|`(zce)=>`((.type "BaseException"))
local macro_rules|`(zcd)=>`((Builtin.SmallTypes.nextOf (.ref i2) >>= _))
local macro_rules|`(zcc)=>`((d2 false ak (dV 3) zd))
local macro_rules|`(zcb)=>`((iV 2 (fT (fg 0) (fT (fg 1) jm))))
local macro_rules|`(zca)=>`((.b bx.length))
local macro_rules|`(zb9)=>`((by size_fits))
local macro_rules|`(zb8)=>`((fK (fV (fc (d2 false ak (d2 false ak (dV 3) zd) zc) (fc (d2 false ak (d2 false ak (dV 3) zd) zd) ff))) (tH (dV 3) (eE zc))))
local macro_rules|`(zb7)=>`((fc (dV 0) zr))
local macro_rules|`(zb6)=>`((ns.map D.int))
local macro_rules|`(zb5)=>`((ns.map V.int))
local macro_rules|`(zb4)=>`((∀ x c,X.env.cells.lookup x=some c->c≠b))
local macro_rules|`(zb3)=>`((fK (d2 false kC (d2 false fR (d2 false fR (dV 5) zc) (fj K1.fk 2 (fc (dV 0) (fc (d2 false eD (dV 2) zc) ff)))) (dV 2)) (fg 6)))
local macro_rules|`(zb2)=>`([some (.d h),xP ps,none,none,none])
local macro_rules|`(zb1)=>`((.ref f))
local macro_rules|`(zb0)=>`((.lst xs))
local macro_rules|`(zbZ)=>`((i=j \/ (if j<i then j else i)<0 \/ (k:Int)<=if j>i then j else i))
local macro_rules|`(zbY)=>`((m.e c false false e))
local macro_rules|`(zbX)=>`((ax (dV 0)))
local macro_rules|`(zbW)=>`((.old (.bl (if neg then !k6 x l else k6 x l))))
local macro_rules|`(zbV)=>`((G.e O _ _ a))
local macro_rules|`(zbU)=>`((dN false ay zu))
local macro_rules|`(zbT)=>`((.d (.tup rs)))
local macro_rules|`(zbS)=>`((.lst zt))
local macro_rules|`(zbR)=>`((Str×(Nat×(List W->List Bx->O W))))
local macro_rules|`(zbQ)=>`([some (.d h),some (.d d)])
local macro_rules|`(zbP)=>`([x0,x1,x2,x3,x4,x5,x6,x7,x8,x9,some (.d m),some (.d h),some (.d (.str zbt)),some (.d (.str (toPy (.tup [h,m])).shown)),some (.d x),x15])
local macro_rules|`(zbO)=>`((fc zc (fc (dN false minD (fc (qN (dV 0)) (fc (dC (.int 6)) ff))) ff)))
local macro_rules|`(zbN)=>`((I.ok.hd hc))
local macro_rules|`(zbM)=>`((fO true ff))
local macro_rules|`(zbL)=>`((PySem.W.fnOf x qual (ja st) (gK st) (fH st) .none kV doc pm an cdv ct))
local macro_rules|`(zbK)=>`((fc (dC (.str "house")) (fc (rR (fV (fc (dV 11) (fc (dV 10) ff)))) ff)))
local macro_rules|`(zbJ)=>`((fc (dN false nK zr) (fc (d2 false fR (dV 1) (fV (fc (fj K1.fY 1 zq) ff))) (fc (d2 false fR (dV 1) (cx false (dV 1) (cc (eE zc)) cS)) ff))))
local macro_rules|`(zbI)=>`((.lst vs))
local macro_rules|`(zbH)=>`((PyData.shownKv (bB l)))
local macro_rules|`(zbG)=>`((aC (dB (fj K54.gO 1 (fc (dV 11) ff))) (fK (kq (dB (fj K54.gn 2 (fc (dV 11) (fc (dV 10) ff)))) (dC (.str "")) (dC (.str "moves"))) (fg 12)) aF))
local macro_rules|`(zbF)=>`((dS X.env.cells scope.names []))
local macro_rules|`(zbE)=>`((cw (fc (d2 false fR zc (fj K1.fk 2 (fc (dV 0) (fc (d2 false ak (fO false (fc zc (fc zbc (fc zai ff)))) (fj K1.fk 2 (fc (dV 0) zK))) ff)))) ff)))
local macro_rules|`(zbD)=>`([x0,x1,xB n,some (.d h),x4,x5,x6,x7,x8,x9,some (.d m),some (.d o),some (.d (.str (due o m))),some (.d (.str (toPy (.tup [o,m])).shown)),x14,x15])
local macro_rules|`(zbC)=>`((d2 false bc (dN false nK (fc zL ff)) (rQ false (dN false kE (fc zL ff)))))
local macro_rules|`(zbB)=>`([x0,x1,xB n,some (.d h),x4,x5,x6,x7,x8,x9,some (.d m),x11,x12,x13,x14,x15])
local macro_rules|`(zbA)=>`((.d (.tup ks)))
local macro_rules|`(zbz)=>`(((bZ ps j').map ek))
local macro_rules|`(zby)=>`((HT.aD xs.length xs.length hi-HT.aD xs.length 0 lo))
local macro_rules|`(zbx)=>`((fc (dC (.int 9)) ff))
local macro_rules|`(zbw)=>`((Heap.SameBut.update ..))
local macro_rules|`(zbv)=>`((aZ (dB (d2 false pf (d2 false ak (dV 5) zd) zL)) (qG (dB (d2 false bc (dV 6) (fO false ff))) (dB (d2 false b9 (dV 5) (d2 false ak (dV 6) (eE zc)))))))
local macro_rules|`(zbu)=>`((gH (r:=.old (.int (l.length:Nat))) [.tup l] zo rfl))
local macro_rules|`(zbt)=>`((due h m))
local macro_rules|`(zbs)=>`((.inl rfl))
local macro_rules|`(zbr)=>`((10 ^ 30+10 ^ 4))
local macro_rules|`(zbq)=>`((B0.length+1+g))
local macro_rules|`(zbp)=>`((.ref C))
local macro_rules|`(zbo)=>`((bx.length+1))
local macro_rules|`(zbn)=>`((qD prog w A env R))
local macro_rules|`(zbm)=>`((starEach es X.env))
local macro_rules|`(zbl)=>`((iV 4 (fT (fg 1) (fT (fg 2) (fT (fg 3) (fT (fg 4) jm))))))
local macro_rules|`(zbk)=>`([xB n,some (.d d),xN (k:Nat),xB bx.length,none,none,none])
local macro_rules|`(zbj)=>`(([e].length+([]:List Keyword).length+(if ([]:List Keyword).isEmpty then 0 else 1)<30))
local macro_rules|`(zbi)=>`((.builtin "min.loop" ⟨[.ref I,.builtin nm,.ref S],[]⟩))
local macro_rules|`(zbh)=>`((cx false (d2 false fR (d2 false fR (cx false (dV 4) cS (cc (dV 6))) (fO false (fc (dV 9) ff))) (cx false (dV 4) (cc (d2 false fR (dV 6) zc)) cS)) cS (cc (dC (.int 10)))))
local macro_rules|`(zbg)=>`((PyData.shownAll (a6 l)))
local macro_rules|`(zbf)=>`((SetTable.grown cn.size))
local macro_rules|`(zbe)=>`((f9 I q zf))
local macro_rules|`(zbd)=>`((l.map W.d))
local macro_rules|`(zbc)=>`((dC (.int 2)))
local macro_rules|`(zbb)=>`((Tx bx told))
local macro_rules|`(zba)=>`((sub _ _ h1))
local macro_rules|`(za9)=>`((∀ b∈fp,H' b=none))
local macro_rules|`(za8)=>`((aZ (aG (dB (f7 "tuple" (dV 2)))) (aZ (dB (d2 false bc (dN false ay zu) (dC (.int 2)))) (aG (dB (dN false bj (fc (fI false [none] (ax (dV 2)) (fg 0) fG (fj K1.gz 1 zq)) ff)))))))
local macro_rules|`(za7)=>`((aZ (dB (d2 false ck (d2 false ak (dV 2) zd) (d2 false ak (dV 2) zc))) (aZ (dB (d2 false kD (dN false Et zu) zd)) (dB (d2 false pf (dN false Eu zu) (dN false ay (fc zaA ff)))))))
local macro_rules|`(za6)=>`((fc (dV 0) (fc zd (fc (d2 false eD (dN false ay zr) zc) ff))))
local macro_rules|`(za5)=>`((fK (dN false ph (fc (fI false [none,some 0] (cw (fc (d2 false fR zc (fj K1.fk 2 (fc (dV 0) (fc (dC (.int 5)) ff)))) ff)) (fg 0) fG (fj K1.fk 2 (fc (dV 1) (fc zai ff)))) ff)) (fg 1)))
local macro_rules|`(za4)=>`((ha pos pins s σ H _ I h))
local macro_rules|`(za3)=>`((.ref a))
local macro_rules|`(za2)=>`((PySem.W.fnOf name qual params body scope dV kV doc pm an cdv ct))
local macro_rules|`(za1)=>`([some (.ref a),some (.ref l),none])
local macro_rules|`(za0)=>`((.lst (rs.map tupI)))
local macro_rules|`(zaZ)=>`((OO _ _ _ _ _))
local macro_rules|`(zaY)=>`((X.comp N scope cl s3 H3 C fp))
local macro_rules|`(zaX)=>`((ha pins s σ H _ I h))
local macro_rules|`(zaW)=>`((.SetComp elt (⟨tg,iter,ifs,0⟩::rest) scope aV))
local macro_rules|`(zaV)=>`((pt bx n p))
local macro_rules|`(zaU)=>`([xB n,some (.d d),xN (k:Nat),xB bx.length,x4,x5,x6])
local macro_rules|`(zaT)=>`((fc (fI false [none] (ax (cx false (dV 0) cS (cc (dC (.int 3))))) (fg 0) fG (f7 "tuple" (dV 0))) ff))
local macro_rules|`(zaS)=>`((.int i))
local macro_rules|`(zaR)=>`((EP X pins σ Q))
local macro_rules|`(zaQ)=>`((dB (dN false bj (fc (fI false [none,some 0] (ax (dV 2)) (fg 0) fG (fj K2.gX 2 (fc (dV 1) zq))) ff))))
local macro_rules|`(zaP)=>`((Builtin.SmallTypes.nextOf (.ref i1) >>= _))
local macro_rules|`(zaO)=>`((d2 false fR (dV 8) (fO false (fc (fV (fc zd (fc (dC .non) ff))) (fc (fj K1.fY 1 zu) (fc (fV (fc zd (fc (dC (.str "1")) ff))) (fc (fV (fc (d2 false pM (dC (.int 10)) (dC (.int 30))) (fc zd ff))) ff)))))))
local macro_rules|`(zaN)=>`((aZ (aG (dB (f7 "tuple" (dV 0)))) (aZ (dB (d2 false bc (dN false ay zq) zai)) (aG (dB (dN false bj (fc (fI false [none] (ax (cx false (dV 0) cS (cc (dC (.int 3))))) (fg 0) fG (f7 "tuple" (dV 0))) ff)))))))
local macro_rules|`(zaM)=>`((List Int×List Int))
local macro_rules|`(zaL)=>`((∀ (s:Shared) (u:Value),BindsTo s fd ⟨[u],[]⟩ [("_law_script",u)]))
local macro_rules|`(zaK)=>`((.builtin "object.__class__"))
local macro_rules|`(zaJ)=>`((A.deeper (envOfC qual (fH st) s.heap.objs.size f cdv)))
local macro_rules|`(zaI)=>`((.Assign [.Tuple [.Name x px,.Name y py] kt pt] (.Tuple [a,b] k2 kQ) pos))
local macro_rules|`(zaF)=>`((XW P w K mg base f cdv A outer s Hx E))
local macro_rules|`(zaE)=>`((fe rfl zo))
local macro_rules|`(zaD)=>`((gy (kU (dV 2) (fV (fc (d2 false ak (fO false (fc (dC (.int 5)) (fc (dC (.int 40)) (fc (dC (.int 300)) (fc (dC (.int 999)) ff))))) (fj K1.fk 2 (fc (dV 0) (fc zai ff)))) (fc (dN false ph (fc (rQ false (dV 4)) ff)) ff))))))
local macro_rules|`(zaC)=>`((fK (dN false kE (fc (fI false [none,some 0] (cw (fc zai ff)) (fg 0) fG (fj K1.fk 2 (fc (dV 1) (fc (d2 false ak (fO false (fc (dC (.int 2)) (fc zai (fc (dC (.int 10)) ff)))) (fj K1.fk 2 (fc (dV 1) zK))) ff)))) ff)) (fg 4)))
local macro_rules|`(zaB)=>`((.d (.bl (wi d lo hi))))
local macro_rules|`(zaA)=>`((d2 false ak (dV 0) zd))
local macro_rules|`(zaz)=>`((false,eval a X.env))
local macro_rules|`(zay)=>`((.ref it))
local macro_rules|`(zax)=>`((fc (fO false ff) (fc (fO false (fc zd (fc zc ff))) (fc (fj K1.fY 1 zu) ff))))
local macro_rules|`(zaw)=>`((Option Nat))
local macro_rules|`(zav)=>`((.tup [.int i,.int j]))
local macro_rules|`(zau)=>`((∀ c o,c≠z->c≠TO->c≠i1->c≠i2->s.heap.get? c=some o->h'.get? c=some o))
local macro_rules|`(zat)=>`((aC (dB (d2 false ck (dV 0) zd)) (fK (fj K54.ie 2 (fc (dV 1) zu)) (fg 4)) (fK (kq (dB (d2 false ck (dV 0) zc)) (fj K54.im 3 (fc (dV 1) (fc (dV 2) (fc (dV 3) ff)))) (fj K54.gQ 4 (fc (dV 1) (fc (dV 2) (fc zd (fc (dV 3) ff)))))) (fg 4))))
local macro_rules|`(zas)=>`((fm (aC (dB (d2 false (inD false) (d2 false ak (dV 4) zd) (dV 5))) (gy (uE (dV 1) (dN false ph (fc (dN false kE (fc (dV 4) ff)) ff)) (dV 4))) aF) (gy (tO (dV 3) (fI false [none,some 4] (ax (dV 5)) (fg 0) zH (d2 false fR (dV 1) (fV zq)))))))
local macro_rules|`(zar)=>`((s.heap.push { cls:=.type "dict",data:=.dict #[] }))
local macro_rules|`(zaq)=>`((!t.plain&&decide (es.size>1)))
local macro_rules|`(zap)=>`((fc (dV 3) (fc (fj (K1.gF 12) 2 (fc (dV 2) (fc (dV 3) ff))) ff)))
local macro_rules|`(zao)=>`([xN i,some (.d h),some (.d m),some (.d x),none,none])
local macro_rules|`(zan)=>`((List W))
local macro_rules|`(zal)=>`((fO false (fc (dV 3) (fc (dV 3) (fc (fj (K1.gF 12) 2 (fc (dV 2) (fc (dV 3) ff))) ff)))))
local macro_rules|`(zak)=>`((m.e c false false b))
local macro_rules|`(zaj)=>`((.ref s.heap.objs.size))
local macro_rules|`(zai)=>`((dC (.int 4)))
local macro_rules|`(zag)=>`((.bl false))
local macro_rules|`(zaf)=>`((bx++[.lst zt]))
local macro_rules|`(zae)=>`((d2 false bc (dN false ay (fc (dV 5) ff)) (dC (.int 2))))
local macro_rules|`(zad)=>`((ws.map some++List.replicate (n-ws.length) none))
local macro_rules|`(zac)=>`((false,eval e X.env))
local macro_rules|`(zaa)=>`((.refl F1 r1))
local macro_rules|`(z9)=>`((fO true (fc (dV 4) (fc (dN false ph (fc (dV 4) ff)) (fc (El false 0 4) (fc (dC .non) (fc (fj K1.fY 1 zu) (fc (fO false ff) (fc (d2 false bX (fO false (fc (fV (fc zd (fc zc ff))) ff)) (dC (.int 10))) (fc (d2 false bX (fO false (fc (fV (fc zd (fc zc ff))) ff)) (dC (.int 11))) ff))))))))))
local macro_rules|`(z8)=>`((B0.length+1+G.length))
local macro_rules|`(z7)=>`((by decide +kernel))
local macro_rules|`(zZ)=>`((fm (fK (fI false [none,some 10,some 11,some 14] (cw zK) (fg 0) fG (fj K54.fX 4 (fc (dV 0) (fc (dV 2) (fc (dV 1) (fc (dV 3) ff)))))) (fg 15)) (aC (aZ (dB (d2 false bc (dV 15) (d2 false bX (fO false (fc (dV 12) ff)) (dC (.int 3))))) (dB (d2 false bc (rR (fV (fc (dV 11) (fc (dV 10) ff)))) (dV 13)))) zj aF)))
local macro_rules|`(zY)=>`((G.e O _ _ _))
local macro_rules|`(zX)=>`((((aD items.size 0 lo:Nat):Int)==0&&(1:Int)==1&&(aD items.size items.size hi-aD items.size 0 lo)==items.size))
local macro_rules|`(zW)=>`((.tup [.tup rl,.tup kl,.tup pl,hh]))
local macro_rules|`(zV)=>`((.tup l))
local macro_rules|`(zU)=>`((s.heap.objs.size+1))
local macro_rules|`(zT)=>`((a8 rooms told))
local macro_rules|`(zS)=>`((by simp;lia))
local macro_rules|`(zR)=>`((.d (.tup [.tup rl,.tup kl,.tup pl,hh])))
local macro_rules|`(zQ)=>`((.lst l))
local macro_rules|`(zP)=>`((.Call (.Name x p) (e::es) [] pos))
local macro_rules|`(zN)=>`((d2 false (inD true) (dV 0) (dV 1)))
local macro_rules|`(zM)=>`((fO false (fc (fV (fc zd (fc (dV 5) ff))) (fc (fV (fc zd (fc (d2 false eD (dV 5) zc) ff))) (fc (fV (fc (d2 false eD (dV 5) zc) (fc zd ff))) (fc (fV (fc zd (fc zd ff))) (fc (fV (fc (eE zc) (fc zd ff))) (fc (fV (fc zd ff)) (fc (fV (fc zd (fc zc (fc (dC (.int 2)) ff)))) (fc (fO false (fc zd (fc zc ff))) (fc (fV (fc (dC (.bl true)) (fc zd ff))) ff)))))))))))
local macro_rules|`(zL)=>`((d2 false ak (dV 5) zc))
local macro_rules|`(zK)=>`((fc (dC (.int 3)) ff))
local macro_rules|`(zJ)=>`((.SetComp elt gens scope pos))
local macro_rules|`(zI)=>`((m env bx))
local macro_rules|`(zH)=>`((dB (d2 false (inD true) (dV 0) (dV 1))))
local macro_rules|`(zG)=>`([.d d,.d (.int lo),.d (.int hi)])
local macro_rules|`(zF)=>`((m.e c false false a))
local macro_rules|`(zE)=>`((.ListComp elt [⟨tg,iter,ifs,0⟩] scope pos))
local macro_rules|`(zD)=>`((d2 false bc (fI false [none,some 3] (cw (fc (dC (.int 3)) ff)) (fg 0) fG (fj K54.fX 4 (fc (dV 0) (fc (dN false nK zr) (fc (dC .non) (fc (dC .non) ff)))))) (d2 false bX (fO false (fc (dC (.str "house")) ff)) (dC (.int 3)))))
local macro_rules|`(zC)=>`([x0,x1,x2,x3,x4,x5,x6,x7,x8,x9,some (.d m),some (.d h),some (.d (.str (due h m))),some (.d (.str (toPy (.tup [h,m])).shown)),some (.d x),some (.d (.lst [.str (due h m),.str (due h m),.str (due h m)]))])
local macro_rules|`(zB)=>`([x0,x1,xB n,some (.d h),x4,x5,x6,x7,x8,x9,some (.d m),some (.d o),some (.d (.str "house")),some (.d (.str (toPy (.tup [o,m])).shown)),x14,x15])
local macro_rules|`(zA)=>`((fm (fK (d2 false kC (d2 false bX (d2 false fR (d2 false fR (d2 false kC (dV 0) (dC (.int 2147483629))) (d2 false bX (dC (.int 7919)) (dV 2))) zc) (dC (.int 48271))) (dC (.int 2147483647))) (fg 3)) (fm (fK (d2 false kC (d2 false fR (d2 false fR (d2 false bX (dV 3) (dV 3)) (d2 false bX (dC (.int 69621)) (dV 2))) (dC (.int 7))) (dC (.int 2147483587))) (fg 3)) (fK (d2 false fR (d2 false bX (dV 1) (dC (.int 2147483587))) (dV 3)) (fg 1)))))
local macro_rules|`(zz)=>`([x0,x1,some (.d (.tup ks)),x3,x4,some (.d (.tup [.int i,.int j])),xB bx.length])
local macro_rules|`(zx)=>`((.SetComp elt [⟨tg,it,ifs,0⟩,⟨cq,bG,kF,0⟩] scope pos))
local macro_rules|`(zu)=>`((fc (dV 2) ff))
local macro_rules|`(zt)=>`((ps.map dP))
local macro_rules|`(zr)=>`((fc (dV 1) ff))
local macro_rules|`(zq)=>`((fc (dV 0) ff))
local macro_rules|`(zp)=>`((k==NameKind.free&&env.scope.kind==.function&&env.kindOf n==some .cell))
local macro_rules|`(zo)=>`((fe rfl rfl))
local macro_rules|`(zm)=>`((.int 0))
local macro_rules|`(zk)=>`((X.comp N scope cl s H C fp))
local macro_rules|`(zj)=>`((fN (dC (.bl false))))
local macro_rules|`(zh)=>`((.int 1))
local macro_rules|`(zg)=>`((model prog w))
local macro_rules|`(zf)=>`((by simp))
local macro_rules|`(ze)=>`((model X.prog X.w))
local macro_rules|`(zd)=>`((dC (.int 0)))
local macro_rules|`(zc)=>`((dC (.int 1)))
local macro_rules|`(zb)=>`((by lia))
local macro_rules|`(za)=>`((by decide))
local macro_rules|`(zw)=>`(false)
local macro_rules|`(zy)=>`(none)
local macro_rules|`(zO)=>`(true)
local macro_rules|`(bz)=>`(rfl)
local macro_rules|`(kz)=>`(Value)
local macro_rules|`(uu)=>`(Prop)
open Lean Parser.Tactic in
def gp0:Nat->Syntax->MacroM (TSyntax `rcasesPat)
|0,_=>Macro.throwUnsupported
|n+1,s=>match s with
|`(#[$xs,*])=>do
  let ys<-xs.getElems.mapM fun x=>do`(rcasesPatLo|$(<-gp0 n x):rcasesPat)
  `(rcasesPat|⟨$ys,*⟩)
|`(_)=>`(rcasesPat|_)
|`($i:ident)=>if i.getId==`rfl then`(rcasesPat|rfl)else`(rcasesPat|$i:ident)
|_=>Macro.throwUnsupported
local macro_rules|`(tactic|let#[$xs,*]:=$e)=>do let p<-gp0 9 (<-`(#[$xs,*]));`(tactic|obtain $p:rcasesPat:=$e)
local macro_rules|`(#[$x,$xs,*])=>`(⟨$x,$xs,*⟩)
local macro_rules|`(tactic|erw[$[$r:term],*]$[$l:location]?)=>`(tactic|simp only[$[$r:term],*]$[$l]?)
local macro_rules|`(tactic|ext $[$r:ident]*)=>`(tactic|rename_i $[$r:ident]*)
set_option hygiene true
noncomputable section
variable {a it:PySem.Addr}{o:PySem.Obj}{u:PySem.Value}{P prog:PySem.Program}{w:PySem.World}{h' base:PySem.Heap}{x qual:PySem.Str}{e c tg iter elt:PySem.Expr}{pins:List (PySem.Addr × PySem.Obj)}{s:PySem.Shared}{t' i j n ep:Nat}{ch fp r:List PySem.Addr}{N:List PySem.Str}{M:PySem.Model}{A:PySem.Around}{E Q:PySem.Value -> PySem.Shared -> uu}{t:PySem.SetTable}{α:Type}{R:PySem.Result -> PySem.Shared -> uu}{pos pos' apos:PySem.Pos}{op:PySem.CmpOp}{K:PySem.W.Frag}{st:PySem.Stmt}{es ifs:List PySem.Expr}{p ns row:List Int}{f:PySem.Value -> PySem.Value -> PySem.Sem PySem.Value}{us:List PySem.Value}{mA mg:PySem.Str -> Option PySem.Value}{fd:PySem.FuncData}{ps:List (Int × Int)}{outer:List PySem.Env}{pE:Array (Option PySem.Value)}{items:Array PySem.Value}{cl:Nat -> PySem.Addr}{bo:Bool}{gens:List PySem.Comprehension}{rs:List (List Int)}
open PySem renaming wpAny_bind->ae,wpAny_pure->ag,sizeLine_eq->bH,wpAny_mono->cC,wpAny_holding->dI,wpAny_newObj_type->dJ,wpAny_call_entry->eI,wpAny_field->eV,mem_of_lookup->nS,strLen_append->pF,wpAny_truthy_bool->pV,wpAny_rule->pW,wpAny_callSpecial?_slot->qp,wpAny_seqItems->qZ,wpAny_setField->q0,wpAny_standAt->sk,wpAny_Call_Name_kw->sq,wpAny_askSetting->sr,wpAny_attempt->tX,wpAny_setField_rec->tY,wpAny_passesOwn->uN,codeAny_builtin->uO,wpAny_letGo->uP,wpAny_setState_of->uQ,wpAny_load->wb,wpAny_typeOf->wc,call_meets->we,not_mem_of_deeper->wg,wpAny_of_eq->wj,plainId_quiet->wm,wpAny_fieldsOf->wo,wpAny_execs_nil->xR,codeAny_mono->xS,wpAny_onRaise->xT,wpAny_pyIter_slot->xV,wpAny_isInstance->xW,wpAny_updateSeq->xX,intKind_is->xY,wpAny_setEntries_of->xZ,pushCells_keeps->EJ,wpAny_pyIter_list->EK,wpAny_newList->EL,tupleKind_room_in1->EM,wpAny_handled->EN,wpAny_throw->EO,isSubtype_stop->ER,wpAny_pyIter_tuple->ES,wpAny_tryCatch->ET,wpAny_isOneOf_valiter->EU,wpAny_Name->IQ,concat_meets->IS,noFill_tuple_add->IU,seq_tuple_add->IV,evalPart_none->IW,seqIndex_of->IZ,typeIs_int->Ka,call_repr_slot->Kb,wpAny_updateSeq_pair->Kc,wpAny_Call_method->Kd,call_meetsIn->Ke,fits_of_scanBound->Kf,wpAny_dictEntries->Kg,wpAny_typeNameOfWhole_valiter->Kh,wpAny_typeNameOf_valiter->Ki,storedH_new->Kj,piled_cons->Kk,wpAny_Compare1->XG,wpAny_isTrue_Compare1->XH,wpAny_execs_cons->XI,wpAny_assign_Name->XJ,wpAny_bindName->XM,intBits_le_64->XO,name_of_addr->XQ,codeAny_call_function->XR,wpAny_newFunctionEnv_cells->XS,codeAny_func->XT,wpAny_forIn_list->XU,richCompare_meets_room->XX,wpAny_sequenceKey->XY,evalPart_some->XZ,wpAny_Slice->X0,wpAny_getItem_list_slice->X1,call_list_seq->X2,codeAny_loop->X3,wpAny_noted->X4,wpAny_comprehension_free->X5,codeAny_call_builtin->X6,wpAny_runValue->X7,wpAny_specialOf->X8,wpAny_Dict_empty->X9,tupleText_mem_le->Ya,listText_mem_le->Yb,listText_nil->Yc,dictText_mem_le->Yd,boot_len->Ye,wpAny_newTuple->Yf,wpAny_pyIter_enum->Yg,wpAny_storeSet_of->Yh,typeLookup_type->Yi,builtinLookup_eq_fast->Yj,isSubtype_type->Yk,entryFor_alias->Yl,wpAny_setEpoch_of->Ym,wpAny_dictEpoch->Yn,wpAny_notOrdered_dict->Yo
open Bool renaming and_eq_true->ao,false_ne_true->bY,not_eq_true'->qr,false_and->sv,eq_iff_iff->sy,or_eq_true->uR,true_and->uS,false_eq_true->wu,and_true->Kl,and_self->Yp,and_eq_false_iff->Km
open Nat renaming le_refl->au,le_trans->br,ne_of_lt->bT,lt_of_lt_of_le->dj,lt_irrefl->eJ,lt_succ_self->kJ,zero_le->nT,sub_self->pX,le_of_lt->rf,lt_succ_of_lt->rh,ne_of_gt->tZ,le_succ->t8,le_of_not_lt->uT,le_of_eq->uU,le_add_right->uV,succ_mul->ya,lt_of_le_of_lt->EV,lt_trans->EW,lt_or_ge->EX,sub_zero->Kn,zero_add->Ko,not_lt_zero->Kq,pow_le_pow_right->Kr,add_sub_cancel->Ks,succ_ne_self->Yq,mod_lt->Yr,lt_of_lt_of_eq->Ys,pow_succ->Yt,succ_pos->Yu
open PySem.Heap renaming get?_push_of_some->aK,lt_size->aN,get?_push_size->bw,get?_update_self->qt,size_push->rj,get?_none_of_le->yb,get?_update_other->EY
open List renaming length_map->aS,size_toArray->bf,map_cons->bh,length_cons->bp,mem_cons_self->bK,mem_cons_of_mem->bL,mem_append_right->cD,mem_cons->aH,length_append->cJ,getElem?_eq_getElem->cU,getElem?_append_right->dk,getElem?_append_left->dn,not_mem_nil->dq,mem_append_left->dM,all_cons->eK,lookup_cons->eW,append_nil->hZ,getElem?_map->ke,length_nil->kK,append_assoc->kL,filterMap_cons->ng,length_set->nj,all_eq_true->cK,map_append->pG,getElem?_set_self->qu,getElem?_set_ne->qv,find?_cons->qw,getElem?_eq_none->rq,prefix_refl->rB,any_cons->sC,cons_append->sD,exists_cons_of_ne_nil->sF,replicate_succ->t9,take_length->ua,flatten_cons->uW,nodup_append->ub,getElem_mem->uX,length_take->wx,zip_cons_cons->wy,map_nil->wz,mem_singleton->bu,length_range->wC,all_map->wD,exists_cons_of_length_pos->wF,mem_filter->kh,mem_of_getElem?->yc,forIn_cons->yd,prefix_append->ye,ext_getElem?->yf,forIn_nil->yh,map_map->yi,mem_map->bU,of_mem_zip->EZ,length_drop->E2,reverse_cons->E3,nil_append->E4,any_eq_true->sH,eq_nil_of_length_eq_zero->E5,append_of_mem->E6,length_filter_le->E7,set_comm->Kt,length_replicate->Ku,zip_nil_left->Kv,any_map->Kw,all_nil->Kx,getElem?_cons_succ->Ky,set_append_right->Kz,filter_cons_of_neg->KA,filter_cons_of_pos->KC,mem_append->cZ,filterMap_nil->KD,getElem?_replicate->Yv,getElem?_take_of_lt->Yw,take_sublist->Yx,zip_nil_right->Yy,filterMap_map->Yz,foldl_cons->YA,length_singleton->YB,nodup_cons->sI,countP_cons->YC,take_zero->YD,getElem?_inj->YE,map_congr_left->YF,drop_zero->YG,length_reverse->YH,nodup_nil->YI,zipIdx_cons->YJ,zipIdx_nil->YK,forIn_toArray->YL,take_of_length_le->YM,getElem_of_mem->YN,pairwise_append->KG,pairwise_lt_range->YO,length_eraseIdx_of_lt->YQ,isEmpty_nil->YR,take_append_drop->YS,filter_cons->YT,getElem?_cons_zero->YU,set_set->YV,set_append_left->YW,getElem?_concat_length->YX,take_left->YY,nil_sublist->YZ,map_set->Y0,any_nil->Y1,head?_cons->Y2
open Option renaming bind_some->bD,map_some->kM,getD_some->E8,getD_none->KH,isSome_map->Y3
open Int renaming le_refl->bP,toNat_natCast->kN,zero_add->KI,ediv_one->Y4,emod_nonneg->Y5,emod_lt_of_pos->Y6
open PyProof.Rows renaming step_dedup->cL,size_push'->uY,callWith_type1->yj,slot_tuple_getitem->wG,assignInOrder_cons->KJ,tail_any->KL,boot_isinstance->KN,isTrue_plain->Y7,assignInOrder_nil->Y8,slicePart_none->Y9,entry_tuple_getitem->Za,args_tuple_getitem->Zb,tupleItemsOf_->Zc,subscriptTail_builtinR->Zd,listItems_at->Ze,get?_update_seq->Zf,kind_sorted->Zg,plain_sorted->Zh,entry_sorted->Zi,args_sorted1->Zj,slot_list_sort->Zk,entry_list_sort->Zl,list_sort_tree->Zm,args_list_sort->Zn,callWith_builtin1->acE,lt_int->acF,le_int->acG,evalArgs_empty->acH
open Array renaming length_toList->nq,getElem?_toList->rC,toList_push->KO,getElem?_eq_none->KR,toList_extract->Zo
open PySem.W renaming kia_one->pY,cellsFrom_some->KS,looks_findIn->KU,looks_mroIn->KW,mg_none_of->KY,kitx_bool->Zp,kitx_list->Zq,kitx_tuple->Zr,kitx_dict->Zs,callWith_K->Zt,codeRec_of->Zu,kia_tup->Zv
open PySem.Obj renaming data_mapFields->pZ,isFreed_of_fields->wH,cls_mapFields->yk,data_mapDictKeys->Zw
open PySem.Calls renaming spliced_cons->uZ,spliced_nil->ym,callWith_builtin->E9,evalArgs_plain->Ha,call_function_entry->Zx
open PySem.F renaming plain_min_loop->wI,plainAttrs_list->yn,slot_tuple_iterator_next->Hb,slot_zip_next->yo,slot_dict_setdefault->Hc,slot_tuple_add->KZ,entry_tuple_add->K0,args_tuple_add_2->K3,plainAttrs_dict->K4,slot_int_rmul->Zy,slot_list_append->Zz,type_list_append->ZA,entry_tuple_iterator_next->ZC,args_tuple_iterator_next_1->ZD,slot_zip_iter->ZE,entry_zip_next->ZF,args_zip_next_1->ZG,type_dict_setdefault->ZH,entry_dict_setdefault->ZI,args_dict_setdefault_3->ZJ,entry_min_loop->ZK,slot_set_iter->ZL,plain_list_iadd->ZM,slot_dict_values_iter->ZN,slot_dict_valueiterator_next->K5,slot_dict_values->ZO
open PySem.Around renaming under_plainId->He,frames_deeper->ZP
open PySem.PyData renaming shownKv_eq->K6
open PySem.SeqAt.EqAt renaming int_str->ZQ,str_int->ZR,int_int->ZS,none_bool->acI,none_int->acJ,none_str->acK,bool_none->acL,bool_bool->acM,bool_int->acN,bool_str->acO,int_none->acP,int_bool->acQ,str_none->acR,str_bool->acS,str_str->acT
open PySem.AutoSeq1 renaming sub_tuple_tuple->ZT,list_extend_list_list_0->acU
open PySem.Code renaming quiet_builtin->ZU
open PyProof.Rows.LSm renaming kept_iter->ZV
open PySem.ReprEntriesK renaming of_two->ZW
open PySem.EqNone renaming eq_none_none->acV,eq_none_bool->acW,eq_none_int->acX,eq_none_str->acY,eq_bool_none->acZ,eq_int_none->ac0,eq_str_none->ac1,ne_none_none->ac2,ne_none_bool->ac3,ne_none_int->ac4,ne_none_str->ac5,ne_bool_none->ac6,ne_int_none->ac7,ne_str_none->ac8
open PySem.EqMixed renaming eq_bool_str->ac9,eq_int_str->ada,eq_str_bool->adb,eq_str_int->ade,ne_bool_str->adf,ne_int_str->adg,ne_str_bool->adh,ne_str_int->adi
open PySem.AutoListH renaming list___mul___list_int_3->adj
open PySem.SeqAt.RcNeAt renaming lists_lengths->adk
open PySem.SetTable renaming fits_plain_off->adl
open List.Perm renaming append_left->adm,of_eq->adn
open PySem PySem.Spec PyProof.Rows
namespace L2
noncomputable abbrev Key:=Sum Int Str
noncomputable def sJ:Key->kz->Bool
 |.inl k,v=>Value.isInt k v
 |.inr x,v=>Value.isStrOf x v
noncomputable def ado (w:World):Key->Int
 |.inl k=>hashInt k
 |.inr x=>hashStr w x
theorem gq:∀ {k:Key}{v:kz},sJ k v=zO->(∃ i t,k=Sum.inl i /\ v=Value.int i t) \/ (∃ x t,k=Sum.inr x /\ v=Value.str x t)
 | .inl i,v,h=>by
   let#[t,e]:=Value.isInt_shape (k:=i) (v:=v) h;exact .inl #[i,t,rfl,e]
 | .inr x,v,h=>by
   let#[t,e]:=Value.isStrOf_shape (x:=x) (v:=v) h;exact .inr #[x,t,rfl,e]
theorem Jb (i:Int) (t:Tok):sJ (.inl i) (.int i t)=zO:=by simp[sJ,Value.isInt]
theorem Jc (x:Str) (t:Tok):sJ (.inr x) (.str x t)=zO:=by simp[sJ,Value.isStrOf]
theorem RZ (a b:Int):decide ((Sum.inl a:Key)=Sum.inl b)=(a==b):=by
 by_cases e:a=b
 .subst e;simp
 .have h:¬ (Sum.inl a:Key)=Sum.inl b:=λq=>e (Sum.inl.inj q);rw[decide_eq_false h];exact(beq_eq_false_iff_ne.mpr e).symm
theorem R6 (a b:Str):decide ((Sum.inr a:Key)=Sum.inr b)=decide (a=b):=by
 by_cases e:a=b
 .subst e;simp
 .have h:¬ (Sum.inr a:Key)=Sum.inr b:=λq=>e (Sum.inr.inj q);rw[decide_eq_false h,decide_eq_false e]
theorem R7 (a:Int) (b:Str):decide ((Sum.inl a:Key)=Sum.inr b)=zw:=decide_eq_false (λq=>nomatch q)
theorem R8 (a:Str) (b:Int):decide ((Sum.inr a:Key)=Sum.inl b)=zw:=decide_eq_false (λq=>nomatch q)
def dt (prog:Program) (w:World):PySem.KeyKind prog w Key where
 is:=sJ
 hash:=ado w
 inj:=λv a b ha hb=>by
  rcases gq ha with⟨i,t,rfl,rfl⟩|⟨x,t,rfl,rfl⟩
  .rcases gq hb with⟨j,u,rfl,e⟩|⟨y,u,rfl,e⟩
   .injection e with e1 _;rw[e1]
   .exact nomatch e
  .rcases gq hb with⟨j,u,rfl,e⟩|⟨y,u,rfl,e⟩
   .exact nomatch e
   .injection e with e1 _;rw[e1]
 byValue:=λk v h=>by
  rcases gq h with⟨i,t,rfl,rfl⟩|⟨x,t,rfl,rfl⟩<;>rfl
 pyHash:=λhv h=>by
  rcases gq hv with⟨i,t,rfl,rfl⟩|⟨x,t,rfl,rfl⟩
  .exact wpAny_pyHash_int h
  .exact wpAny_pyHash_str h
 eqBool:=λhu hv h=>by
  rcases gq hu with⟨i,t,rfl,rfl⟩|⟨x,t,rfl,rfl⟩
  .rcases gq hv with⟨j,u,rfl,rfl⟩|⟨y,u,rfl,rfl⟩
   .rw[RZ]at h;exact wpAny_eqBool_int h
   .rw[R7]at h;exact ZQ i t y u _ _ _ _ h
  .rcases gq hv with⟨j,u,rfl,rfl⟩|⟨y,u,rfl,rfl⟩
   .rw[R8]at h;exact ZR x t j u _ _ _ _ h
   .rw[R6]at h;exact wpAny_eqBool_str h
 «strs»:=λk x t v h=>by
  rcases gq h with⟨i,u,rfl,e⟩|⟨y,u,rfl,e⟩
  .exact nomatch e
  .injection e with e1 _;subst e1;cases v<;>rfl
theorem Cb (prog:Program) (w:World) (i:Int) (t:Tok):(dt prog w).is (.inl i) (.int i t)=zO:=Jb i t
theorem Cc (prog:Program) (w:World) (x:Str) (t:Tok):(dt prog w).is (.inr x) (.str x t)=zO:=Jc x t
end L2
variable {xs:List (List L2.Key × PySem.Addr × PySem.Value)}
namespace L2
inductive V where
 |non|bl (b:Bool)|int (i:Int)|str (x:Str)|nu (b:Array UInt8)|uc (b:UInt64)|ref (a:Addr)|ty (n:String)
 deriving DecidableEq
noncomputable def RelV:V->kz->uu
 |.non,u=>u=Value.none
 |.bl b,u=>u=Value.bool b
 |.int i,u=>∃ t,u=Value.int i t
 |.str x,u=>∃ t,u=Value.str x t
 |.nu b,u=>∃ t,u=Value.bytes b t
 |.uc b,u=>∃ t,u=Value.float b t
 |.ref a,u=>u=Value.ref a
 |.ty n,u=>u=Value.type n
abbrev Vals:List V->List kz->uu:=Paired RelV
theorem Vals.length {xs:List V}{us:List kz}(r:Vals xs us):xs.length=us.length:=Paired.length r
theorem Vals.get:∀ {xs:List V}{us:List kz}{i:Nat}{x:V},Vals xs us->xs[i]?=some x->∃ u,us[i]?=some u /\ RelV x u
 |_,_,_,_,.nil,e=>by simp at e
 |_,_,0,_,.cons r _,e=>by simp at e;subst e;exact#[_,rfl,r]
 | _,_,i+1,x,.cons _ t,e=>by
   let#[u,h1,h2]:=Vals.get (i:=i) (x:=x) t (by simpa using e);exact#[u,by simpa using h1,h2]
theorem Vals.set {x:V}{u:kz}(r:RelV x u):∀ {xs:List V}{us:List kz}(i:Nat),Vals xs us->Vals (xs.set i x) (us.set i u)
 |_,_,_,.nil=>.nil
 |_,_,0,.cons _ t=>.cons r t
 |_,_,i+1,.cons q t=>.cons q (Vals.set r i t)
theorem Vals.append:∀ {xs ys:List V}{us ws:List kz},Vals xs us->Vals ys ws->Vals (xs++ys) (us++ws)
 |_,_,_,_,.nil,s=>s
 |_,_,_,_,.cons r t,s=>.cons r (Vals.append t s)
theorem Vals.take:∀ {xs:List V}{us:List kz}(n:Nat),Vals xs us->Vals (xs.take n) (us.take n)
 |_,_,0,_=>.nil
 |_,_,_+1,.nil=>.nil
 |_,_,n+1,.cons r t=>.cons r (Vals.take n t)
theorem Vals.drop:∀ {xs:List V}{us:List kz}(n:Nat),Vals xs us->Vals (xs.drop n) (us.drop n)
 |_,_,0,r=>r
 |_,_,_+1,.nil=>.nil
 |_,_,n+1,.cons _ t=>Vals.drop n t
def kO:Option V->Option kz->uu
 |some v,some u=>RelV v u
 |none,none=>True
 |_,_=>False
def KV {κ:Type}:List (κ×V)->List (κ×kz)->uu:=Paired λ(p:κ×V) (q:κ×Value)=>p.1=q.1 /\ RelV p.2 q.2
noncomputable def kV:Key->V
 |.inl i=>.int i
 |.inr x=>.str x
inductive HO where
 /-- a list -/
 |lst (xs:List V)
 /-- a tuple (never changes) -/
 |tup (xs:List V)
 /-- a dict whose keys are ints and texts;one whose keys are tuples of ints and texts (the empty one is both) -/
 |dK (af:List (Key×V))|dT (af:List (List Key×V))
 /-- a set of ints: its members,its size -/
 |set (S:Int->Bool) (n:Nat)
 /-- an instance of the class at C,its dict at dx,its attributes -/
 |ins (C dx:Addr) (fs:List (Str×V))
 /-- the dict of the instance at x -/
 |own (x:Addr)
 /-- the dict of an exception -/
 |xd (fs:List (Str×V))
 /-- a bound method,f of x -/
 |met (f x:Addr)
 /-- a range object lo,lo+1,.. below hi -/
 |yq (lo hi:Int)
 /-- a thing that is known to the object (the aih;a dict while a loop walks it): read,never written while it is so -/
 |eX (o:Obj) (u:HO)
 /-- a code aii table -/
 |sL (ps:Array kz)
 /-- any other thing,by what is zO of its one object (a def of aij own: aik a S n:=HO.ext λh=>..) -/
 |ext (φ:Heap->uu)
noncomputable abbrev Hp:=Addr->Option HO
noncomputable def upd (H:Hp) (a:Addr) (o:HO):Hp:=λb=>if b=a then some o else H b
theorem fE {H:Hp}{o:HO}:upd H a o a=some o:=by unfold upd;rw[if_pos rfl]
theorem fA {H:Hp}{b:Addr}{o:HO}(h:b≠a):upd H a o b=H b:=by unfold upd;rw[if_neg h]
theorem FX {H:Hp}{o u:HO}:upd (upd H a o) a u=upd H a u:=by
 funext b;unfold upd;split<;>rfl
theorem Ry {H:Hp}{b:Addr}{o u:HO}(h:H a=some o) (h':H b=some u) (d:o≠u):a≠b:=by
 intro e;subst e;rw[h]at h';exact d (Option.some.inj h')
theorem fQ {H:Hp}{b:Addr}{o:HO}(h:H a=some o) (h':H b=zy):a≠b:=by
 intro e;subst e;rw[h]at h';cases h'
section
variable (P:Program) (w:World)
noncomputable def a9 (H:Hp) (h:Heap) (a:Addr):HO->uu
 |.lst xs=>xs.length<=sizeLine /\ ∃ (its:List kz) (n:Nat),Vals xs its /\ h.get? a=some { cls:=.type "list",data:=.seq its.toArray n }
 |.tup xs=>xs.length<=sizeLine /\ ∃ its:List kz,Vals xs its /\ IsTup h a its.toArray
 |.dK af=>af.length<=sizeLine /\ (a==sysModules)=zw /\ ∃ vs,KV af vs /\ h.DictOf (dt P w) a vs
 |.dT af=>af.length<=sizeLine /\ (a==sysModules)=zw /\ ∃ xs:List (List Key×Addr×kz),
  Paired (λ(p:List Key×V) (q:List Key×Addr×Value)=>p.1=q.1 /\ H q.2.1=some (.tup (p.1.map kV)) /\ RelV p.2 q.2.2) af xs /\
  ∃ o es ep,h.get? a=some o /\ o.ExactDict /\ o.data=.dict es ep /\ es.toList=xs.map (entryOfKey (tupleKind (dt P w))) /\ (xs.map (·.1)).Nodup
 |.set S n=>h.SetOf (intKind P w) a S n
 |.ins C dx fs=>H dx=some (.own a) /\ fs.length<=1000 /\ dx≠a /\ h.get? a=some (PySem.W.instObj C dx) /\
  ∃ mA,h.Ns1 dx mA /\ (∀ f,kO (fs.lookup f) (mA f)) /\ PySem.Within mA (fs.map (·.1))
 |.own _=>∃ o,h.get? a=some o
 |.xd fs=>∃ mA,h.Ns1 a mA /\ ∀ f,kO (fs.lookup f) (mA f)
 |.yq lo hi=>∃ t u v,h.get? a=some { cls:=.type "range",data:=.fields (List.toArray [.int lo t,.int hi u,.int 1 v]) }
 |.eX o u=>h.get? a=some o /\ a9 H h a u
 |.sL ps=>h.get? a=some { cls:=.none,data:=.fields ps }
 |.met f x=>h.get? a=some (PySem.W.methodObj zb1 (.ref x))
 |.ext φ=>φ h /\ (∃ o,h.get? a=some o) /\ ∀ h1 h2:Heap,φ h1->(∀ o,h1.get? a=some o->h2.get? a=some o)->φ h2
def bQ (H:Hp) (h:Heap):uu:=∀ a o,H a=some o->a9 P w H h a o
end
section
variable {H H':Hp} {h:Heap} {o:HO}
theorem a9.lt (x:a9 P w H h a o):a<h.objs.size:=by
 cases o with
 |lst xs=>let#[_,_,_,_,e]:=x;exact aN e
 |tup xs=>let#[_,_,_,p]:=x;exact p.lt
 |dK af=>let#[_,_,_,_,o,_,_,e,_]:=x;exact aN e
 |dT af=>let#[_,_,_,_,o,_,_,e,_]:=x;exact aN e
 |set S n=>let#[o,_,_,_,e,_]:=x;exact aN e
 |ins C dx fs=>let#[_,_,_,e,_]:=x;exact aN e
 |own y=>let#[_,e]:=x;exact aN e
 |xd fs=>let#[_,#[_,_,_,e,_],_]:=x;exact aN e
 |yq lo hi=>let#[_,_,_,e]:=x;exact aN e
 |eX ob u=>let#[e,_]:=x;exact aN e
 |sL ps=>exact aN (show h.get? a=some _ from x)
 |met f y=>exact aN (show h.get? a=some _ from x)
 |ext φ=>let#[_,#[_,e],_]:=x;exact aN e
theorem Paired.K7 {α β:Type}{F G:α->β->uu}:∀ {l₁:List α}{l₂:List β},Paired F l₁ l₂->(∀ a b,F a b->G a b)->Paired G l₁ l₂
 |_,_,.nil,_=>.nil
 |_,_,.cons r t,f=>.cons (f _ _ r) (Paired.K7 t f)
theorem a9.eY (x:a9 P w H h a o) (k:∀ b u,(b=a \/ H b=some (.own a))->h.get? b=some u->h'.get? b=some u)
 (ho:∀ b,H b=some (.own a)->H' b=some (.own a)) (ht:∀ b xs,H b=some (.tup xs)->H' b=some (.tup xs)):a9 P w H' h' a o:=by
 induction o with
 |lst xs=>let#[z,its,n,r,e]:=x;exact#[z,its,n,r,k _ _ zbs e]
 |tup xs=>let#[z,its,r,ob,e,c]:=x;exact#[z,its,r,ob,k _ _ zbs e,c]
 |dK af=>let#[z,y,vs,r,ob,es,ep,e,c]:=x;exact#[z,y,vs,r,ob,es,ep,k _ _ zbs e,c]
 |dT af=>
   let#[z,y,xs,r,ob,es,ep,e,c]:=x;exact#[z,y,xs,Paired.K7 r λp q z=>#[z.1,ht _ _ z.2.1,z.2.2],ob,es,ep,k _ _ zbs e,c]
 |set S n=>let#[ob,es,ep,t,e,c]:=x;exact#[ob,es,ep,t,k _ _ zbs e,c]
 |ins C dx fs=>
   let#[d,z,ne,e,mA,#[od,es,ep,e2,c],r]:=x;exact#[ho _ d,z,ne,k _ _ zbs e,mA,#[od,es,ep,k _ _ (.inr d) e2,c],r]
 |own y=>let#[ob,e]:=x;exact#[ob,k _ _ zbs e]
 |xd fs=>let#[mA,#[od,es,ep,e,c],r]:=x;exact#[mA,#[od,es,ep,k _ _ zbs e,c],r]
 |yq lo hi=>let#[t,u,v,e]:=x;exact#[t,u,v,k _ _ zbs e]
 |eX ob u ih=>let#[e,q]:=x;exact#[k _ _ zbs e,ih q]
 |sL ps=>
   have e:h.get? a=some { cls:=.none,data:=.fields ps }:=x;show h'.get? a=some { cls:=.none,data:=.fields ps };exact k a _ zbs e
 |met f y=>
   have e:h.get? a=some (PySem.W.methodObj zb1 (.ref y)):=x;show h'.get? a=some (PySem.W.methodObj zb1 (.ref y));exact k a _ zbs e
 |ext φ=>let#[p,#[o,e],st]:=x;exact#[st _ _ p λo q=>k _ _ zbs q,#[o,k _ _ zbs e],st]
theorem bQ.lt (x:bQ P w H h) (e:H a=some o):a<h.objs.size:=(x a o e).lt
theorem bQ.fresh (x:bQ P w H h) (e:h.objs.size<=a):H a=zy:=by
 cases q:H a with
 |none=>rfl
 |some u=>exact absurd (dj (x.lt q) e) (eJ _)
theorem bQ.kept (x:bQ P w H h) (k:∀ b u,h.get? b=some u->h'.get? b=some u):bQ P w H h':=λa o e=>
 (x a o e).eY (λb u _ q=>k b u q) (λ_ q=>q) λ_ _ q=>q
theorem bQ.laid (x:bQ P w H h) (k:∀ b u,h.get? b=some u->h'.get? b=some u) (hp:h.objs.size<=a) (new:a9 P w (upd H a o) h' a o):bQ P w (upd H a o) h':=λb u e=>by
 have hn:=x.fresh hp;by_cases hb:b=a
 .subst hb;rw[fE]at e;cases e;exact new
 .rw[fA hb]at e;exact(x b u e).eY (λc v _ q=>k c v q) (λc q=>by rw[fA (fQ q hn)];exact q) λc xs q=>by rw[fA (fQ q hn)];exact q
end
def Rd (H:Hp) (a:Addr) (u:HO):uu:=H a=some u \/ ∃ o,H a=some (.eX o u)
theorem Rd.ok {H:Hp}{h:Heap}{u:HO}(r:Rd H a u) (x:bQ P w H h):a9 P w H h a u:=by
 rcases r with r|⟨o,r⟩
 .exact x a u r
 .let#[_,q]:=x a _ r;exact q
noncomputable def yr:Option HO->uu
 |some (.lst _)=>True
 |some (.dK _)=>True
 |some (.dT _)=>True
 |some (.set _ _)=>True
 |some (.ins _ _ _)=>True
 |some (.ext _)=>True
 |_=>False
section
variable {H:Hp} {h:Heap} {x e:Addr} {o':HO}
theorem bQ.write (ok:bQ P w H h) (mu:yr (H x)) (he:e=x \/ H e=some (.own x)) (k:∀ b u,b≠e->h.get? b=some u->h'.get? b=some u) (wJ:∃ u,h'.get? e=some u)
 (new:a9 P w (upd H x o') h' x o'):bQ P w (upd H x o') h':=λb u q=>by
 have ZX:∀ c y,H c=some (.own y)->c≠x:=λc y r z=>by subst z;rw[r]at mu;exact mu
 have adp:∀ c xs,H c=some (.tup xs)->c≠x:=λc xs r z=>by subst z;rw[r]at mu;exact mu
 by_cases hb:b=x
 .subst hb;rw[fE]at q;cases q;exact new
 .rw[fA hb]at q;by_cases u9:b=e
  .have q':H b=some (.own x):=by
    rcases he with z|z
    .exact absurd (u9.trans z) hb
    .rw[u9];exact z
   rw[q]at q';cases q';let#[v,hv]:=wJ;exact#[v,by rw[u9];exact hv]
  .refine(ok b u q).eY (λc v hc r=>k c v ?_ r) (λc r=>by rw[fA (ZX c b r)];exact r) λc xs r=>by rw[fA (adp c xs r)];exact r
   rcases hc with rfl|hc
   .exact u9
   .rintro rfl;rcases he with z|z
    .exact ZX c b hc z
    .rw[hc]at z;cases z;exact hb bz
end
structure Un (fs ex:List Addr) (H H':Hp) (h h':Heap):uu where
 keep:∀ b o,h.get? b=some o->H b=zy->b∉fs->b∉ex->h'.get? b=some o
 slot:∀ b o,h.get? b=some o->H b=zy->b∈fs->b∉ex->∃ sl,h'.get? b=some { o with slots:=sl }
 free:∀ b o,h.get? b=some o->H b=zy->b∉ex->H' b=zy
 there:∀ b o,h.get? b=some o->b∉ex->∃ o',h'.get? b=some o'
 nU:∀ b xs,H b=some (.tup xs)->H' b=some (.tup xs)
 nv:∀ b o u,H b=some (.eX o u)->H' b=some (.eX o u)
 nV:∀ b ps,H b=some (.sL ps)->∃ more,H' b=some (.sL (ps++more))
section
variable {fs adq ex ZY:List Addr} {H H1 H2:Hp} {h h1 h2:Heap} {x e:Addr} {o:HO}
theorem Un.any (u:Un fs ex H H1 h h1) {b:Addr}{ob:Obj}(q:h.get? b=some ob) (n:H b=zy) (hx:b∉ex):∃ sl,h1.get? b=some { ob with slots:=sl }:=by
 by_cases hb:b∈fs
 .exact u.slot b ob q n hb hx
 .exact#[ob.slots,u.keep b ob q n hb hx]
theorem Un.kept (k:∀ b u,h.get? b=some u->h'.get? b=some u):Un fs ex H H h h' :=
 #[λb ob q _ _ _=>k b ob q,λb ob q _ _ _=>#[ob.slots,k b ob q],λ_ _ _ n _=>n,λb ob q _=>#[ob,k b ob q],λ_ _ q=>q,λ_ _ _ q=>q,λ_ ps q=>#[#[],by rw[q];simp]]
theorem Un.refl:Un fs ex H H h h:=Un.kept λ_ _ q=>q
theorem Un.laid (k:∀ b u,h.get? b=some u->h'.get? b=some u) (hp:h.objs.size<=a) (hn:H a=zy):Un fs ex H (upd H a o) h h' where
 keep:=λb u q _ _ _=>k b u q
 slot:=λb u q _ _ _=>#[u.slots,k b u q]
 free:=λb u q n _=>by rw[fA (bT (dj (aN q) hp))];exact n
 there:=λb u q _=>#[u,k b u q]
 nU:=λb xs q=>by rw[fA (fQ q hn)];exact q
 nv:=λb u xs q=>by rw[fA (fQ q hn)];exact q
 nV:=λb ps q=>#[#[],by rw[fA (fQ q hn),q];simp]
theorem Un.write (mu:yr (H x)) (he:e=x \/ H e=some (.own x)) (k:∀ b u,b≠e->h.get? b=some u->h'.get? b=some u) (wJ:∃ u,h'.get? e=some u):Un fs ex H (upd H x o) h h':=by
 have hx:∀ b,H b=zy->b≠x:=λb n z=>by subst z;rw[n]at mu;exact mu
 have hb:∀ b,H b=zy->b≠e:=λb n z=>by
  subst z;rcases he with r|r
  .exact hx b n r
  .rw[n]at r;cases r
 have hm:∀ b u,H b=some u->¬ yr (some u)->b≠x:=λb u q nm z=>by subst z;rw[q]at mu;exact nm mu
 refine#[λb u q n _ _=>k b u (hb b n) q,λb u q n _ _=>#[u.slots,k b u (hb b n) q],λb u q n _=>by rw[fA (hx b n)];exact n,λb u q _=>?_,
  λb xs q=>by rw[fA (hm b _ q λz=>z)];exact q,λb u xs q=>by rw[fA (hm b _ q λz=>z)];exact q,λb ps q=>#[#[],by rw[fA (hm b _ q λz=>z),q];simp]]
 by_cases u9:b=e
 .subst u9;exact wJ
 .exact#[u,k b u u9 q]
end
noncomputable def Hf (h:Heap) (H:Hp):List Addr:=(List.range h.objs.size).filter λa=>(H a).isSome
def sM (h:Heap) (H:Hp):Heap:=PySem.W.hideAll h (Hf h H)
theorem Jd (h:Heap) (H:Hp):(sM h H).objs.size=h.objs.size:=PySem.W.hideAll_size _ _
theorem Ll {h:Heap}{H:Hp}{b:Addr}(e:h.get? b=some o) (n:H b=zy):(sM h H).get? b=some o:=
 PySem.W.hideAll_get _ e λhm=>by
  have q:(H b).isSome=zO:=(kh.mp hm).2;rw[n]at q;simp at q
theorem NX {h:Heap}{H:Hp}{b:Addr}(e:(sM h H).get? b=some o):h.get? b=some o /\ H b=zy:=by
 have e':h.get? b=some o:=PySem.W.of_hideAll (Hf h H) e;refine#[e',?_];cases q:H b with
 |none=>rfl
 |some x=>
   have hm:b∈Hf h H:=kh.mpr #[List.mem_range.mpr (aN e'),by simp[q]];have z:(sM h H).get? b=zy:=PySem.W.hideAll_none (Hf h H) hm;rw[z]at e;cases e
end L2
variable {H H' F:L2.Hp}{v:L2.V}{vs:List L2.V}{af:List (List L2.Key × L2.V)}
namespace L2
structure Mod (K:PySem.W.Frag) (mg:Str->Option kz) (base:Heap):uu where
 wK:K.In base
 glob:base.Ns mainGlobals mg
 blt:∃ mb,base.Ns builtinsNs mb /\ ∀ x:Str,x ≠ "__name__"->mb x=bootBuiltins x
 nolimit:base.NoLimit
structure Cx where
 prog:Program
 w:World
 K:PySem.W.Frag
 mg:Str->Option kz
 base:Heap
 A:Around
 N:List Str
 s₀:Shared
 H₀:Hp
 env:Env
 outer:List Env
 stack:List Env
 ex:List Addr
 fn:Str->Bool
 calm:Bool
 pn:List (Addr×Obj)
 xe:kz->Shared->uu
noncomputable def dO (l:List Env):List Addr:=l.filterMap (·.frame)
abbrev Cx.fs (X:Cx):List Addr:=dO X.outer
def rD (sc:Scope) (x:Str):uu:=sc.names.lookup x=some .local \/ sc.names.lookup x=some .cell \/ sc.names.lookup x=some .free
def Loc (sc:Scope) (x:Str):uu:=sc.names.lookup x=some .local \/ sc.names.lookup x=some .cell
def Look (env:Env) (h:Heap) (m:Str->Option kz) (x:Str) (u:kz):uu:=
 (env.kindOf x=some .local /\ m x=some u) \/ ((env.kindOf x=some .cell \/ env.kindOf x=some .free) /\ ∃ c,env.cells.lookup x=some c /\ h.IsCell c (some u))
structure Cx.Ok (X:Cx):uu where
 mod:Mod X.K X.mg X.base
 kind:X.env.scope.kind=.function
 glob:X.env.globals=mainGlobals
 blt:X.env.builtins=builtinsNs
 above:X.s₀.heap.objs.size<=X.env.locals
 inj:∀ x y c,X.env.cells.lookup x=some c->X.env.cells.lookup y=some c->x=y
 has:∀ x,(X.env.kindOf x=some .cell \/ X.env.kindOf x=some .free)->∃ c,X.env.cells.lookup x=some c
 wL:∀ x c,X.fn x=zO->X.env.cells.lookup x=some c->X.s₀.heap.objs.size<=c
 hd:X.calm=zO->X.A.handled=zy
 frames:X.A.frames=some X.stack
 yt:X.stack=X.outer \/ (X.stack=X.env::X.outer /\ X.env.frame=some X.env.locals)
 vc:∀ b∈X.ex,b≠X.env.locals /\ ∀ x c,X.env.cells.lookup x=some c->c≠b
 bs:∀ b o,X.base.get? b=some o->X.s₀.heap.get? b=some o /\ X.H₀ b=zy
 sN:X.base.objs.size<=X.s₀.heap.objs.size
 wM:∀ b o,X.base.get? b=some o->b∉X.ex
 vd:∀ b∈X.ex,b∉X.fs
 kP:X.s₀.heap.FunFrames X.base X.outer
 rE:∀ b∈X.fs,X.H₀ b=zy
structure Inv (X:Cx) (pins:List (Addr×Obj)) (σ:List (Option V)) (H:Hp) (s:Shared):uu where
 ok:X.Ok
 os:s.os=X.s₀.os
 bare:AllBare s.gens
 base:Un X.fs X.ex X.H₀ H X.s₀.heap s.heap
 loc:∃ m,s.heap.Ns X.env.locals m /\ ∀ (i:Nat) (x:Str) (v:V),X.N[i]?=some x->σ[i]?=some (some v)->rD X.env.scope x->∃ u,RelV v u /\ Look X.env s.heap m x u
 cell:∀ x c,X.env.cells.lookup x=some c->∃ v,s.heap.IsCell c v
 free:H X.env.locals=zy
 ny:∀ x c,X.env.cells.lookup x=some c->H c=zy
 pin:∀ p∈X.pn++pins,s.heap.get? p.1=some p.2 /\ H p.1=zy /\ p.1≠X.env.locals /\ p.1∉X.fs /\ ∀ v,p.2.data≠.cell v
 aj:bQ X.prog X.w H s.heap
 len:σ.length=X.N.length
section
variable {X:Cx} {σ:List (Option V)} 
theorem Cx.Ok.ads (ok:X.Ok) {b:Addr}(e:X.base.get? b=some o):b∉X.fs:=λhb=>by
 have:=(ok.kP.mem hb).1;rw[e]at this;cases this
theorem Inv.bs (I:Inv X pins σ H s):∀ b o,X.base.get? b=some o->s.heap.get? b=some o /\ H b=zy:=λb o e=>
 #[I.base.keep b o (I.ok.bs b o e).1 (I.ok.bs b o e).2 (I.ok.ads e) (I.ok.wM b o e),I.base.free b o (I.ok.bs b o e).1 (I.ok.bs b o e).2 (I.ok.wM b o e)]
theorem Inv.bk (I:Inv X pins σ H s):∀ b o,X.base.get? b=some o->s.heap.get? b=some o:=λb o e=>(I.bs b o e).1
theorem Inv.mod (I:Inv X pins σ H s):Mod X.K X.mg X.base:=I.ok.mod
theorem Inv.cE (I:Inv X pins σ H s):X.K.In s.heap:=I.ok.mod.wK.keeps I.bk
theorem Inv.lt (I:Inv X pins σ H s):X.env.locals<s.heap.objs.size:=let ⟨_,hn,_⟩:=I.loc;hn.lt
theorem Inv.sz (I:Inv X pins σ H s):X.s₀.heap.objs.size<=s.heap.objs.size:=br I.ok.above (rf I.lt)
theorem Inv.adt (I:Inv X pins σ H s) (h:s.heap.objs.size<=a):a∉X.fs:=λhb=>by
 let#[_,o,ho,_]:=I.ok.kP.mem hb;exact absurd (dj (aN ho) (br I.sz h)) (eJ _)
theorem Inv.sO (I:Inv X pins σ H s):∀ x c,X.env.cells.lookup x=some c->c≠X.env.locals:=λx c e z=>by
 let#[v,o,ho,hd]:=I.cell x c e;let#[m,#[o',es,ep,nz,adu,_],_]:=I.loc;rw[z,nz]at ho;cases ho;rw[adu]at hd;cases hd
theorem Inv.kP (I:Inv X pins σ H s):s.heap.FunFrames X.base X.outer:=by
 have all:∀ (l:List Env),(∀ b∈dO l,b∈X.fs)->X.s₀.heap.FunFrames X.base l->s.heap.FunFrames X.base l:=by
  intro l;induction l with
  |nil=>intro _ _;trivial
  |cons env r ih=>
    intro hs hl;let#[hk,#[L,o,hf,hn,ho,hd],hr]:=hl;have hL:L∈X.fs:=hs L (by unfold dO;rw[ng,hf];exact bK);let#[sl,e]:=I.base.slot L o ho (I.ok.rE L hL) hL λz=>I.ok.vd L z hL;exact#[hk,#[L,_,hf,hn,e,hd],ih (λb hb=>hs b (by unfold dO;rw[ng,hf];exact bL _ hb)) hr]
 exact all X.outer (λ_ hb=>hb) I.ok.kP
theorem Inv.stack (I:Inv X pins σ H s):s.heap.FunFrames X.base X.stack:=by
 rcases I.ok.yt with e|⟨e,hf⟩
 .rw[e];exact I.kP
 .rw[e];let#[m,hn,_]:=I.loc;refine .cons (by rw[I.ok.kind];decide) hf hn ?_ I.kP;exact yb (br I.ok.sN I.ok.above)
theorem Inv.wN (I:Inv X pins σ H s):∀ b∈dO X.stack,b∈X.env.locals::X.fs:=λb hb=>by
 rcases I.ok.yt with e|⟨e,hf⟩
 .rw[e]at hb;exact bL _ hb
 .rw[e]at hb;unfold dO at hb;rw[ng,hf]at hb;exact hb
theorem Inv.K8 (I:Inv X pins σ H s):∀ b∈dO X.stack,H b=zy:=λb hb=>by
 rcases aH.mp (I.wN b hb) with e|hb
 .rw[e];exact I.free
 .let#[_,o,ho,_]:=I.ok.kP.mem hb;exact I.base.free b o ho (I.ok.rE b hb) λz=>I.ok.vd b z hb
theorem Inv.step {g':Array GenState}{d':Drawn}(I:Inv X pins σ H s)
 (rF:∀ b∈ch,zcx /\ b≠X.env.locals /\ zb4 /\ ∀ p∈X.pn++pins,p.1≠b)
 (keep:∀ b o,b≠X.env.locals->b∉X.fs->b∉ch->s.heap.get? b=some o->H b=zy->h'.get? b=some o)
 (slot:∀ b o,b≠X.env.locals->b∈X.fs->b∉ch->s.heap.get? b=some o->H b=zy->∃ sl,h'.get? b=some { o with slots:=sl }) (free:∀ b o,b∉ch->s.heap.get? b=some o->H b=zy->H' b=zy)
 (there:∀ b o,b∉ch->s.heap.get? b=some o->∃ o',h'.get? b=some o')
 (nU:∀ b xs,H b=some (.tup xs)->H' b=some (.tup xs)) (nv:∀ b o u,H b=some (.eX o u)->H' b=some (.eX o u)) (nV:∀ b ps,H b=some (.sL ps)->∃ more,H' b=some (.sL (ps++more)))
 (ns:∀ m,s.heap.Ns X.env.locals m->h'.Ns X.env.locals m) (aj:bQ X.prog X.w H' h') (hg:AllBare g') :
 Inv X pins σ H' { s with heap:=h',gens:=g',drawn:=d',toks:=t' }:=by
 have ZZ:∀ b o,X.s₀.heap.get? b=some o->b≠X.env.locals:=λb o e=>bT zcl;have p8:∀ b o,X.s₀.heap.get? b=some o->b∉X.ex->b∉ch:=λb o e hx hb=>by
  rcases(rF b hb).1 with z|z
  .exact hx z
  .exact absurd (dj (aN e) z) (eJ _)
 have cellK:∀ x c,X.env.cells.lookup x=some c->∀ v,s.heap.IsCell c v->h'.IsCell c v:=λx c e v ⟨o,ho,hd⟩=>by
  have qx:c∉ch:=λz=>(rF c z).2.2.1 x c e bz;by_cases hc:c∈X.fs
  .let#[sl,q]:=slot c o (I.sO x c e) hc qx ho (I.ny x c e);exact#[_,q,hd]
  .exact#[o,keep c o (I.sO x c e) hc qx ho (I.ny x c e),hd]
 refine#[I.ok,I.os,hg,#[λb o e n hb hx=>?_,λb o e n hb hx=>?_,λb o e n hx=>?_,λb o e hx=>?_,λb xs e=>nU b xs (I.base.nU b xs e),λb o xs e=>nv b o xs (I.base.nv b o xs e),λb ps e=>?_],?_,λx c e=>?_,?_,λx c e=>?_,λp hp=>?_,aj,I.len]
 .exact keep b o (ZZ b o e) hb (p8 b o e hx) (I.base.keep b o e n hb hx) (I.base.free b o e n hx)
 .let#[sl,e1]:=I.base.slot b o e n hb hx;let#[wO,e2]:=slot b _ (ZZ b o e) hb (p8 b o e hx) e1 (I.base.free b o e n hx);exact#[wO,e2]
 .let#[o',e1]:=I.base.there b o e hx;exact free b o' (p8 b o e hx) e1 (I.base.free b o e n hx)
 .let#[o',e1]:=I.base.there b o e hx;exact there b o' (p8 b o e hx) e1
 .let#[m1,e1]:=I.base.nV b ps e;let#[m2,e2]:=nV b _ e1;exact#[m1++m2,by rw[e2,Array.append_assoc]]
 .let#[m,hn,hl]:=I.loc;refine#[m,ns m hn,λi x v e1 e2 e3=>?_];let#[u,r,l]:=hl i x v e1 e2 e3;refine#[u,r,?_];rcases l with l|⟨k,c,e,z⟩
  .exact .inl l
  .exact .inr #[k,c,e,cellK x c e _ z]
 .let#[v,z]:=I.cell x c e;exact#[v,cellK x c e v z]
 .let#[m,#[o,_,_,ho,_],_]:=I.loc;exact free _ o (λz=>(rF _ z).2.1 bz) ho I.free
 .let#[v,o,ho,hd]:=I.cell x c e;exact free c o (λz=>(rF c z).2.2.1 x c e bz) ho (I.ny x c e)
 .let#[e,n,ne,nf,d]:=I.pin p hp;have qx:p.1∉ch:=λz=>(rF p.1 z).2.2.2 p hp bz;exact#[keep p.1 p.2 ne nf qx e n,free p.1 p.2 qx e n,ne,nf,d]
theorem Inv.un (I:Inv X pins σ H s) (u:Un X.fs [] H H' s.heap h') (aj:bQ X.prog X.w H' h'):Inv X pins σ H' { s with heap:=h',toks:=t' }:=by
 let#[m,#[o,es,ep,ho,r],_]:=id I.loc;let#[sl,hL]:=u.any ho I.free zf;exact I.step (g':=s.gens) (d':=s.drawn) (ch:=[]) (λ_ z=>nomatch z) (λb o _ hb _ e n=>u.keep b o e n hb zf) (λb o _ hb _ e n=>u.slot b o e n hb zf) (λb o _ e n=>u.free b o e n zf) (λb o _ e=>u.there b o e zf) u.nU u.nv u.nV (λm' hm=>by
  let#[o',es',sP,nz,r']:=hm;rw[ho]at nz;cases nz;exact#[_,es',sP,hL,r']) aj I.bare
theorem Inv.call {g':Array GenState}{d':Drawn}(I:Inv X pins σ H s) (u:Un (dO X.stack) ch H H' s.heap h') (aj:bQ X.prog X.w H' h') (hg:AllBare g')
 (rF:∀ b∈ch,zcx /\ b≠X.env.locals /\ zb4 /\ ∀ p∈X.pn++pins,p.1≠b) :
 Inv X pins σ H' { s with heap:=h',gens:=g',drawn:=d',toks:=t' }:=by
 let#[m,#[o,es,ep,ho,r],_]:=id I.loc;let#[sl,hL]:=u.any ho I.free λz=>(rF _ z).2.1 bz;exact I.step (ch:=ch) rF (λb o hL hb hc e n=>u.keep b o e n (λz=>(aH.mp (I.wN b z)).elim hL hb) hc) (λb o _ _ hc e n=>u.any e n hc) (λb o hc e n=>u.free b o e n hc) (λb o hc e=>u.there b o e hc) u.nU u.nv u.nV (λm' hm=>by
  let#[o',es',sP,nz,r']:=hm;rw[ho]at nz;cases nz;exact#[_,es',sP,hL,r']) aj hg
theorem Inv.turned (I:Inv X pins σ H s) (k:∀ b o,b≠it->s.heap.get? b=some o->h'.get? b=some o) (hn:H it=zy) (hL:it≠X.env.locals)
 (h1:it∈X.ex \/ X.s₀.heap.objs.size<=it) (h2:∀ x c,X.env.cells.lookup x=some c->c≠it) (h3:∀ p∈X.pn++pins,p.1≠it):Inv X pins σ H { s with heap:=h',toks:=t' }:=by
 have Z0:∀ b u,H b=some u->b≠it:=λb u e z=>by rw[z,hn]at e;cases e
 refine I.step (g':=s.gens) (d':=s.drawn) (ch:=[it]) (λb hb=>?_) (λb o _ _ hc e _=>k b o (λz=>hc (by simp[z])) e) (λb o _ _ hc e _=>#[o.slots,k b o (λz=>hc (by simp[z])) e]) (λ_ _ _ _ n=>n)
  (λb o hc e=>#[o,k b o (λz=>hc (by simp[z])) e]) (λ_ _ e=>e) (λ_ _ _ e=>e) (λb ps e=>#[#[],by rw[e];simp]) (λm hm=>?_) (λb u e=>?_) I.bare
 .have e:b=it:=by simpa using hb
  subst e;exact#[h1,hL,h2,h3]
 .let#[o,es,ep,ho,r]:=hm;exact#[o,es,ep,k _ o (Ne.symm hL) ho,r]
 .refine(I.aj b u e).eY (λc v hc q=>k c v ?_ q) (λ_ q=>q) λ_ _ q=>q;rcases hc with z|z
  .rw[z];exact Z0 b u e
  .exact Z0 c _ z
theorem Inv.tok (I:Inv X pins σ H s) (t:Nat):Inv X pins σ H { s with toks:=t }:=I.un (h':=s.heap) (t':=t) Un.refl I.aj
theorem Inv.kept {t':Nat}(I:Inv X pins σ H s) (k:∀ b u,s.heap.get? b=some u->h'.get? b=some u):Inv X pins σ H { s with heap:=h',toks:=t' }:=I.un (Un.kept k) (I.aj.kept k)
theorem Inv.laid {a:Addr}{o:HO}{t':Nat}(I:Inv X pins σ H s) (k:∀ b u,s.heap.get? b=some u->h'.get? b=some u) (hp:s.heap.objs.size<=a) (new:a9 X.prog X.w (upd H a o) h' a o) :
 Inv X pins σ (upd H a o) { s with heap:=h',toks:=t' }:=I.un (Un.laid k hp (I.aj.fresh hp)) (I.aj.laid k hp new)
theorem Inv.write {x e:Addr}{o:HO}{t':Nat}(I:Inv X pins σ H s) (mu:yr (H x)) (he:e=x \/ H e=some (.own x)) (k:∀ b u,b≠e->s.heap.get? b=some u->h'.get? b=some u) (wJ:∃ u,h'.get? e=some u)
 (new:a9 X.prog X.w (upd H x o) h' x o):Inv X pins σ (upd H x o) { s with heap:=h',toks:=t' }:=I.un (Un.write mu he k wJ) (I.aj.write mu he k wJ new)
theorem Inv.yu {ud:List (Addr×Obj)}(I:Inv X pins σ H s) (h:∀ p∈ud,s.heap.get? p.1=some p.2 /\ H p.1=zy /\ p.1≠X.env.locals /\ p.1∉X.fs /\ ∀ v,p.2.data≠.cell v):Inv X ud σ H s:=
 #[I.ok,I.os,I.bare,I.base,I.loc,I.cell,I.free,I.ny,λp hp=>(cZ.mp hp).elim (λz=>I.pin p (dM _ z)) (h p),I.aj,I.len]
theorem oY (hN:N.Nodup) (a:N[i]?=some x) (b:N[j]?=some x):i=j:=by
 let#[h1,e1]:=List.getElem?_eq_some_iff.mp a;let#[h2,e2]:=List.getElem?_eq_some_iff.mp b;exact(List.getElem_inj hN).mp (e1.trans e2.symm)
theorem A0 {Q:Unit->Shared->uu}(I:Inv X pins σ H s) (hN:X.N.Nodup) (hi:X.N[i]?=some x) (hx:Loc X.env.scope x) (r:RelV v u)
 (h:∀ s',Inv X pins (σ.set i (some v)) H s'->(∃ a,Heap.SameBut a s.heap s'.heap /\ (a=X.env.locals \/ X.env.cells.lookup x=some a))->Q () s') (hf:X.fn x=zO \/ X.env.scope.names.lookup x=some .local:=by first|exact .inl bz|exact .inr bz|assumption):wpAny M A (storeName X.env x u) Q E s:=by
 let#[m,hn,hl]:=id I.loc;have adv:(X.env.scope.kind==.class||(X.env.scope.kind==.module&&X.env.locals != X.env.globals))=zw:=by rw[I.ok.kind];rfl
 have Z1:i<σ.length:=by rw[I.len];exact(List.getElem?_eq_some_iff.mp hi).1
 have sO:=I.sO;have tracked:∀ {a:Addr}{h':Heap},(∃ o,s.heap.get? a=some o /\ H a=zy)->Heap.SameBut a s.heap h'->bQ X.prog X.w H h':=λ{a h'} ha hs b ob e=>by
  let#[_,_,Z2]:=ha;refine(I.aj b ob e).eY (λc w' hc q=>(hs.2 c ?_).trans q) (λ_ q=>q) λ_ _ q=>q;rintro rfl;rcases hc with rfl|hc
  .rw[Z2]at e;cases e
  .rw[Z2]at hc;cases hc
 rcases hx with hk|hk
 .refine wpAny_storeName_local hk hn (λh' wQ hs=>?_) adv;let#[oL,_,_,Hg,_]:=id hn;refine h _ #[I.ok,I.os,I.bare,#[λb o e n hb hx=>?_,λb o e n hb hx=>?_,I.base.free,λb o e hx=>?_,I.base.nU,I.base.nv,I.base.nV],#[_,wQ,λj y v' e1 e2 e3=>?_],λy c e=>?_,I.free,I.ny,λp hp=>?_,tracked #[oL,Hg,I.free] hs,by simpa using I.len] #[_,hs,.inl bz]
  .exact(hs.2 b (bT zcl)).trans (I.base.keep b o e n hb hx)
  .let#[sl,e1]:=I.base.slot b o e n hb hx;exact#[sl,(hs.2 b (bT zcl)).trans e1]
  .let#[o',e1]:=I.base.there b o e hx;exact#[o',(hs.2 b (bT zcl)).trans e1]
  .by_cases hj:j=i
   .subst hj;rw[hi]at e1;cases e1;rw[qu Z1]at e2;cases e2;exact#[u,r,.inl #[hk,by simp]]
   .rw[qv (Ne.symm hj)]at e2;let#[u',r',q]:=hl j y v' e1 e2 e3;refine#[u',r',?_];rcases q with⟨k,e⟩|⟨k,c,e,z⟩
    .refine .inl #[k,?_];have:y≠x:=λe=>hj (oY hN e1 (e▸hi));simp[this,e]
    .exact .inr #[k,c,e,z.sameBut hs (sO y c e)]
  .let#[w',z]:=I.cell y c e;exact#[w',z.sameBut hs (sO y c e)]
  .let#[e,n,ne,nf,d]:=I.pin p hp;exact#[(hs.2 p.1 ne).trans e,n,ne,nf,d]
 .have K9:X.fn x=zO:=by
   rcases hf with z|z
   .exact z
   .rw[z]at hk;cases hk
  let#[c,hc]:=I.ok.has x (.inl hk);let#[w',z]:=I.cell x c hc;refine wpAny_storeName_cell I.ok.kind hk hc z (λh' Z3 hs=>?_);let#[oc,Hh,adw]:=id z;refine h { s with heap:=h' } #[I.ok,I.os,I.bare,#[λb o e n hb hx=>?_,λb o e n hb hx=>?_,I.base.free,λb o e hx=>?_,I.base.nU,I.base.nv,I.base.nV],#[m,hn.sameBut hs (Ne.symm (sO x c hc)),λj y v' e1 e2 e3=>?_],λy c' e=>?_,I.free,I.ny,λp hp=>?_,tracked #[oc,Hh,I.ny x c hc] hs,by simpa using I.len] #[c,hs,.inr hc]
  .exact(hs.2 b (bT (dj (aN e) (I.ok.wL x c K9 hc)))).trans (I.base.keep b o e n hb hx)
  .let#[sl,e1]:=I.base.slot b o e n hb hx;exact#[sl,(hs.2 b (bT (dj (aN e) (I.ok.wL x c K9 hc)))).trans e1]
  .let#[o',e1]:=I.base.there b o e hx;exact#[o',(hs.2 b (bT (dj (aN e) (I.ok.wL x c K9 hc)))).trans e1]
  .by_cases hj:j=i
   .subst hj;rw[hi]at e1;cases e1;rw[qu Z1]at e2;cases e2;exact#[u,r,.inr #[.inl hk,c,hc,Z3]]
   .rw[qv (Ne.symm hj)]at e2;let#[u',r',q]:=hl j y v' e1 e2 e3;refine#[u',r',?_];rcases q with q|⟨k,c',e,z'⟩
    .exact .inl q
    .refine .inr #[k,c',e,z'.sameBut hs ?_];rintro rfl;exact hj (oY hN e1 (I.ok.inj _ _ _ e hc▸hi))
  .by_cases bM:c'=c
   .subst bM;exact#[_,Z3]
   .let#[w2,z2]:=I.cell y c' e;exact#[w2,z2.sameBut hs bM]
  .let#[e,n,ne,nf,d]:=I.pin p hp;refine#[(hs.2 p.1 ?_).trans e,n,ne,nf,d];intro q;rw[q,Hh]at e;have q':oc=p.2:=Option.some.inj e;exact d w' (by rw[<-q'];exact adw)
theorem j7 {Q:Unit->Shared->uu}(I:Inv X pins σ H s) (hN:X.N.Nodup) (hi:X.N[i]?=some x) (hx:Loc X.env.scope x) (r:RelV v u)
 (h:∀ s',Inv X pins (σ.set i (some v)) H s'->Q () s') (hf:X.fn x=zO \/ X.env.scope.names.lookup x=some .local:=by first|exact .inl bz|exact .inr bz|assumption):wpAny M A (storeName X.env x u) Q E s:=
 A0 I hN hi hx r (λs' I' _=>h s' I') hf
theorem Inv.Qa {s':Shared}(I:Inv X pins σ H s) (ho:s'.os=s.os) (u:Un (dO X.stack) ch H H' s.heap s'.heap) (aj:bQ X.prog X.w H' s'.heap) (hg:AllBare s'.gens)
 (rF:∀ b∈ch,zcx /\ b≠X.env.locals /\ zb4 /\ ∀ p∈X.pn++pins,p.1≠b):Inv X pins σ H' s':=by
 let#[h',g',d',t',o']:=s';have e:o'=s.os:=ho;subst e;exact I.call (g':=g') (t':=t') (d':=d') u aj hg rF
end
abbrev XK:=kz->Option Addr->Hp->uu
noncomputable abbrev St:=List (Option V)
abbrev VK:=V->Hp->uu
abbrev TE:=St->Hp->VK->uu
abbrev TT:=St->Hp->(Bool->Hp->uu)->uu
abbrev TA:=St->Hp->(List V->Hp->uu)->uu
structure Ends where
 nx:St->Hp->uu
 rt:VK
 bk:St->Hp->uu:=λ_ _=>False
 ct:St->Hp->uu:=λ_ _=>False
abbrev TS:=Ends->St->Hp->uu
def EP (X:Cx) (pins:List (Addr×Obj)) (σ:St) (Q:VK) (u:kz) (s':Shared):uu:=∃ v H',Inv X pins σ H' s' /\ RelV v u /\ Q v H'
def TP (X:Cx) (pins:List (Addr×Obj)) (σ:St) (Q:Bool->Hp->uu) (b:Bool) (s':Shared):uu:=∃ H',Inv X pins σ H' s' /\ Q b H'
def AP (X:Cx) (pins:List (Addr×Obj)) (σ:St) (Q:List V->Hp->uu) (us:List kz) (s':Shared):uu:=∃ vs H',Inv X pins σ H' s' /\ Vals vs us /\ Q vs H'
def SP (X:Cx) (pins:List (Addr×Obj)) (D:Ends) (f:Flow) (s':Shared):uu:=
 match f with
 |.next=>∃ σ' H',Inv X pins σ' H' s' /\ D.nx σ' H'
 |.brk=>∃ σ' H',Inv X pins σ' H' s' /\ D.bk σ' H'
 |.cont=>∃ σ' H',Inv X pins σ' H' s' /\ D.ct σ' H'
 |.ret u=>∃ v σ' H',Inv X pins σ' H' s' /\ RelV v u /\ D.rt v H'
def PE (X:Cx) (e:Expr) (t:TE):uu:=
 ∀ (pins:List (Addr×Obj)) (s:Shared) (σ:St) (H:Hp) (Q:VK),Inv X pins σ H s->t σ H Q->wpAny ze X.A (eval e X.env) zaR X.xe s
def PT (X:Cx) (e:Expr) (t:TT):uu:=
 ∀ (pins:List (Addr×Obj)) (s:Shared) (σ:St) (H:Hp) (Q:Bool->Hp->uu),Inv X pins σ H s->t σ H Q->wpAny ze X.A (isTrue e X.env (eval e X.env)) (TP X pins σ Q) X.xe s
def PW (X:Cx) (e:Expr) (t:TT):uu:=
 ∀ (whole:Sem kz) (pins:List (Addr×Obj)) (s:Shared) (σ:St) (H:Hp) (Q:Bool->Hp->uu),Inv X pins σ H s->t σ H Q->wpAny ze X.A (isTrue e X.env whole) (TP X pins σ Q) X.xe s
theorem PW.pt {X:Cx}{t:TT}(h:PW X e t):PT X e t:=h _
def PA (X:Cx) (es:List Expr) (t:TA):uu:=
 ∀ (pos:Pos) (pins:List (Addr×Obj)) (s:Shared) (σ:St) (H:Hp) (Q:List V->Hp->uu),Inv X pins σ H s->t σ H Q->wpAny ze X.A (spliced (backTo pos zbm)) (AP X pins σ Q) X.xe s
def PS (X:Cx) (st:Stmt) (t:TS):uu:=
 ∀ (pins:List (Addr×Obj)) (s:Shared) (σ:St) (H:Hp) (D:Ends),Inv X pins σ H s->t D σ H->wpAny ze X.A (exec st X.env) (SP X pins D) X.xe s
def cV (X:Cx) (st:List Stmt) (t:TS):uu:=
 ∀ (pins:List (Addr×Obj)) (s:Shared) (σ:St) (H:Hp) (D:Ends),Inv X pins σ H s->t D σ H->wpAny ze X.A (execs st X.env) (SP X pins D) X.xe s
theorem bE {t:Sem α}{Q Q':α->Shared->uu}(h:wpAny M A t Q E s) (hQ:∀ a s,Q a s->Q' a s):wpAny M A t Q' E s:=cC h hQ λ_ _ x=>x
theorem tE {X:Cx}{σ:St}{Q:VK}{t:Sem kz}{Q':kz->Shared->uu}(h:wpAny M A t zaR E s) (k:∀ v s x H,Inv X pins σ H s->RelV x v->Q x H->Q' v s):wpAny M A t Q' E s:=bE h λv s ⟨x,H,I,r,q⟩=>k v s x H I r q
theorem tA {X:Cx}{σ:St}{Q:List V->Hp->uu}{t:Sem (List kz)}{Q':List kz->Shared->uu}(h:wpAny M A t (AP X pins σ Q) E s) (k:∀ v s x H,Inv X pins σ H s->Vals x v->Q x H->Q' v s):wpAny M A t Q' E s:=bE h λv s ⟨x,H,I,r,q⟩=>k v s x H I r q
theorem tP {β:Type}{X:Cx}{σ:St}{Q:β->Hp->uu}{R:β->α->uu}{t:Sem α}{Q':α->Shared->uu}(h:wpAny M A t (λv s=>∃ x H,Inv X pins σ H s /\ R x v /\ Q x H) E s) (k:∀ v s x H,Inv X pins σ H s->R x v->Q x H->Q' v s):wpAny M A t Q' E s:=bE h λv s ⟨x,H,I,r,q⟩=>k v s x H I r q
theorem tT {X:Cx}{σ:St}{Q:Bool->Hp->uu}{t:Sem Bool}{Q':Bool->Shared->uu}(h:wpAny M A t (TP X pins σ Q) E s) (k:∀ v s H,Inv X pins σ H s->Q v H->Q' v s):wpAny M A t Q' E s:=bE h λv s ⟨H,I,q⟩=>k v s H I q
end L2
variable {X:L2.Cx}{σ:L2.St}{q:List L2.V -> L2.Hp -> L2.VK -> uu}
namespace L2
section
def Z4 (i:Nat):TE:=λσ H Q=>∃ v,σ[i]?=some (some v) /\ Q v H
def tC (v:V):TE:=λ_ H Q=>Q v H
theorem oZ (hN:X.N[i]?=some x) (hv:rD X.env.scope x) (hd:(x==("__debug__":Str))=zw:=by decide) (dg:(x==("__classdict__":Str))=zw:=by decide):PE X zcq (Z4 i):=by
 intro pins s σ H Q I h;let#[v,e,h]:=h;let#[m,hn,hl]:=I.loc;let#[u,r,l]:=hl i x v hN e hv;have fin:EP X pins σ Q u s:=#[v,H,I,r,h];rcases l with⟨hk,hm⟩|⟨hk,c,hc,Hi⟩
 .exact IQ (wpAny_loadName_local I.ok.kind hk hn hm fin) hd
 .rcases hk with hk|hk
  .exact IQ (wpAny_loadName_cell I.ok.kind hk hc Hi fin) hd
  .exact IQ (wpAny_loadName_free I.ok.kind hk hc Hi fin dg) hd
theorem mM {i j pos}:PE X (.Constant zaS j pos) (tC zaS):=λ_ _ _ H _ I h=>wpAny_Constant_int #[.int i,H,I.tok _,#[_,rfl],h]
theorem Lm {b j pos}:PE X (.Constant (.bool b) j pos) (tC (.bl b)):=λ_ _ _ H _ I h=>Constant_bool #[.bl b,H,I,rfl,h]
theorem R9 {j pos}:PE X (.Constant .none j pos) (tC .non):=λ_ _ _ H _ I h=>Constant_none #[.non,H,I,rfl,h]
theorem DT {x j pos}:PE X (.Constant (.str x) j pos) (tC (.str x)):=λ_ _ _ H _ I h=>Calls.Constant_str #[.str x,H,I.tok _,#[_,rfl],h]
def Gl (X:Cx) (x:Str):uu:=X.env.kindOf x=some .globalImplicit
theorem oI (I:Inv X pins σ H s) (hg:Gl X x) (hm:X.mg x=some u) (h:Q u s)
 (hd:(x==("__debug__":Str))=zw:=by decide):wpAny ze X.A (eval zcq X.env) Q E s:=
 Calls.Name_function_global I.ok.kind hg (Calls.loadGlobal_global (by rw[I.ok.glob];exact I.mod.glob.keeps I.bk) hm h) hd
theorem jj (I:Inv X pins σ H s) (hg:Gl X x) (hm:X.mg x=zy) (hv:bootBuiltins x=some u) (h:Q u s)
 (hn:x ≠ "__name__":=by decide) (hd:(x==("__debug__":Str))=zw:=by decide):wpAny ze X.A (eval zcq X.env) Q E s:=by
 let#[mb,h1,h2]:=I.mod.blt;exact Calls.Name_function_global I.ok.kind hg (Calls.loadGlobal_builtin (by rw[I.ok.glob];exact I.mod.glob.keeps I.bk) hm (by rw[I.ok.blt];exact h1.keeps I.bk) ((h2 x hn).trans hv) h) hd
theorem oJ (hg:Gl X x) (hm:X.mg x=some u) (r:RelV v u) (hd:(x==("__debug__":Str))=zw:=by decide):PE X zcq (tC v):=
 λ_ _ _ H _ I h=>oI I hg hm #[v,H,I,r,h] hd
theorem oK (hg:Gl X x) (hm:X.mg x=zy) (hv:bootBuiltins x=some u) (r:RelV v u) (hn:x ≠ "__name__":=by decide) (hd:(x==("__debug__":Str))=zw:=by decide):PE X zcq (tC v):=
 λ_ _ _ H _ I h=>jj I hg hm hv #[v,H,I,r,h] hn hd
variable {a b:Expr} {ta tb:TE} 
def PC (X:Cx) (op:CmpOp) (a b:Expr) (t:TE):uu:=
 ∀ (pins:List (Addr×Obj)) (s:Shared) (σ:St) (H:Hp) (Q:VK),Inv X pins σ H s->t σ H Q ->
  wpAny ze X.A (eval a X.env) (λv s₁=>wpAny ze X.A (eval b X.env) (λu s₂=>wpAny ze X.A (compareOp op v u) zaR X.xe s₂) X.xe s₁) X.xe s
noncomputable def tB (t:TE):TT:=λσ H Q=>t σ H λx H1=>∃ c,x=.bl c /\ Q c H1
theorem Sb {t:TE}(h:PC X op a b t) (h1:behindInMarks op b=zw:=by first|exact adx _ (by decide) (by decide)|rfl):PE X (.Compare a [op] [b] pos) t:=λpins s σ H Q I hw=>XG (h pins s σ H Q I hw) h1
theorem Sc {t:TE}(h:PC X op a b t) (h1:behindInMarks op b=zw:=by first|exact adx _ za za|rfl):PT X zcr (tB t):=by
 intro pins s σ H Q I hw;refine XH (bE (h pins s σ H _ I hw) λv s1 h1=>bE h1 λu s2 h2=>tE h2 λc s3 x H1 I1 r1 q1=>?_) h1;let#[d,rfl,q]:=q1;cases r1;exact pV #[H1,I1,q]
theorem Ln {t:TE}(h:PE X e t) (he:∀ whole,isTrue e X.env whole=(do let v <-whole;standAt e.pos;holding [v] (truthy v)):=by intro _;rfl):PT X e (tB t):=by
 intro pins s σ H Q I hw;refine Y7 (tE (h pins s σ H _ I hw) λv s1 x H1 I1 r1 q1=>?_) (he _);let#[d,rfl,q]:=q1;cases r1;exact pV #[H1,I1,q]
variable {tA Hj:TT} {rest:List Expr}
noncomputable def ady (t u:TT):TT:=λσ H Q=>t σ H λc H1=>if c=zO then u σ H1 Q else Q zw H1
noncomputable def adz (t u:TT):TT:=λσ H Q=>t σ H λc H1=>if c=zO then Q zO H1 else u σ H1 Q
noncomputable def adA (t:TT):TT:=λσ H Q=>t σ H λc H1=>Q (!c) H1
theorem NY (ha:PT X a tA):PW X (.BoolOp .And [a] pos) tA:=by
 intro wh pins s σ H Q I h;refine isTrue_and (bE (ha pins s σ H Q I h) λc s1 e=>?_);cases c with
 |true=>exact isTrue_and_nil e
 |false=>exact e
theorem Lo (ha:PT X a tA):PW X (.BoolOp .Or [a] pos) tA:=by
 intro wh pins s σ H Q I h;refine isTrue_or (bE (ha pins s σ H Q I h) λc s1 e=>?_);cases c with
 |false=>exact isTrue_or_nil e
 |true=>exact e
theorem Sd (ha:PT X a tA) (hb:PW X (.BoolOp .And (b::rest) pos) Hj):PW X (.BoolOp .And (a::b::rest) pos) (ady tA Hj):=by
 intro wh pins s σ H Q I h;refine isTrue_and (tT zaX λc s1 H1 I1 q1=>?_);cases c with
 |true=>exact hb wh pins s1 σ H1 Q I1 q1
 |false=>exact#[H1,I1,q1]
theorem Rz (ha:PT X a tA) (hb:PW X (.BoolOp .Or (b::rest) pos) Hj):PW X (.BoolOp .Or (a::b::rest) pos) (adz tA Hj):=by
 intro wh pins s σ H Q I h;refine isTrue_or (tT zaX λc s1 H1 I1 q1=>?_);cases c with
 |true=>exact#[H1,I1,q1]
 |false=>exact hb wh pins s1 σ H1 Q I1 q1
theorem Lp (ha:PT X a tA):PT X (.UnaryOp .Not a pos) (adA tA):=by
 intro pins s σ H Q I h;exact isTrue_not (ha pins s σ H (λc H1=>Q (!c) H1) I h)
def adB (ta tb:TE):TE:=λσ H Q=>ta σ H λx H1=>∃ c,x=.bl c /\ if c=zO then tb σ H1 Q else Q zag H1
def adC (ta:TE):TE:=λσ H Q=>ta σ H λx H1=>∃ c,x=.bl c /\ Q (.bl (!c)) H1
theorem Se {op}{t:TE}(h:PE X a t):PE X (.BoolOp op [a] pos) t:=λpins s σ H Q I hw=>BoolOp_one (h pins s σ H Q I hw)
theorem Sf (ha:PE X a ta) (hb:PE X (.BoolOp .And (b::rest) pos) tb):PE X (.BoolOp .And (a::b::rest) pos) (adB ta tb):=by
 intro pins s σ H Q I h;refine BoolOp_and (tE zaX λv s1 x H1 I1 r1 q1=>?_);let#[c,rfl,q1]:=q1;cases r1;refine pV ?_;cases c with
 |true=>exact hb pins s1 σ H1 Q I1 q1
 |false=>exact#[.bl zw,H1,I1,rfl,q1]
theorem Sg (ha:PE X a ta):PE X (.UnaryOp .Not a pos) (adC ta):=by
 intro pins s σ H Q I h;refine UnaryOp_ (tE zaX λv s1 x H1 I1 r1 q1=>?_);let#[c,rfl,q1]:=q1;cases r1;exact not_of (pV #[.bl (!c),H1,I1,rfl,q1])
def adD (t:TT) (ta tb:TE):TE:=λσ H Q=>t σ H λc H1=>if c=zO then ta σ H1 Q else tb σ H1 Q
theorem Lr (hc:PT X c tA) (ha:PE X a ta) (hb:PE X b tb):PE X (.IfExp c a b pos) (adD tA ta tb):=by
 intro pins s σ H Q I h;refine wpAny_IfExp (tT (hc pins s σ H _ I h) λd s1 H1 I1 q1=>?_);cases d with
 |true=>exact ha pins s1 σ H1 Q I1 q1
 |false=>exact hb pins s1 σ H1 Q I1 q1
end
def ba (K:PySem.W.Frag) (H:Hp) (a:Addr) (xs:List V):uu:=
 Rd H a zb0 \/
  ∃ (o:Obj) (its:Array kz) (n:Nat),K.lookup a=some o /\ o.cls=.type "list" /\ o.dict=zy /\ o.data=.seq its n /\ its.size<=sizeLine /\ Vals xs its.toList
def aY (K:PySem.W.Frag) (H:Hp) (a:Addr) (xs:List V):uu:=
 Rd H a (.tup xs) \/
  ∃ (o:Obj) (its:Array kz) (n:Nat),K.lookup a=some o /\ o.cls=.type "tuple" /\ o.data=.seq its n /\ its.size<=sizeLine /\ Vals xs its.toList
noncomputable def adE:kz->Option V
 |.none=>some .non
 |.bool b=>some (.bl b)
 |.int i _=>some zaS
 |.str x _=>some (.str x)
 |.bytes b _=>some (.nu b)
 |.float b _=>some (.uc b)
 |.ref a=>some za3
 |.type n=>some (.ty n)
 |_=>zy
theorem RelV.abs {x:V}(r:RelV x u):adE u=some x:=by
 cases x with
 |non=>cases r;rfl
 |bl _=>cases r;rfl
 |int _=>let#[t,rfl]:=r;rfl
 |str _=>let#[t,rfl]:=r;rfl
 |nu _=>let#[t,rfl]:=r;rfl
 |uc _=>let#[t,rfl]:=r;rfl
 |ref _=>cases r;rfl
 |ty _=>cases r;rfl
theorem RelV.inj {x y:V}{u:kz}(r:RelV x u) (q:RelV y u):x=y:=Option.some.inj (r.abs.symm.trans q.abs)
theorem Vals.inj:∀ {xs ys:List V}{us:List kz},Vals xs us->Vals ys us->xs=ys
 |_,_,_,.nil,.nil=>rfl
 |_,_,_,.cons r t,.cons r' t'=>by rw[r.inj r',Vals.inj t t']
section
variable {xs ys:List V}
theorem ba.of (h:H a=some zb0):ba K H a xs:=.inl (.inl h)
theorem aY.of (h:H a=some (.tup xs)):aY K H a xs:=.inl (.inl h)
theorem Inv.list (I:Inv X pins σ H s) (h:ba X.K H a xs):∃ its:List kz,Vals xs its /\ PlainL s.heap a its.toArray /\ xs.length<=sizeLine:=by
 rcases h with h|⟨o,its,n,hk,hc,hd,hs,hz,r⟩
 .let#[z,its,n,r,e]:=h.ok I.aj;exact#[its,r,#[_,n,e,rfl,rfl,rfl],z]
 .refine#[its.toList,r,#[o,n,I.cE a o hk,hc,hd,by simpa using hs],?_];have e:=r.length;erw[nq]at e;lia
theorem Inv.tuple (I:Inv X pins σ H s) (h:aY X.K H a xs):∃ its:List kz,Vals xs its /\ IsTup s.heap a its.toArray /\ xs.length<=sizeLine:=by
 rcases h with h|⟨o,its,n,hk,hc,hs,hz,r⟩
 .let#[z,its,r,p]:=h.ok I.aj;exact#[its,r,p,z]
 .refine#[its.toList,r,#[o,I.cE a o hk,hc,n,by simpa using hs],?_];have e:=r.length;erw[nq]at e;lia
theorem Inv.Z5 (I:Inv X pins σ H s) (h:ba X.K H a xs) (h':ba X.K H a ys):xs=ys:=by
 let#[its,r,#[o,n,e,_,_,d],_]:=I.list h;let#[its',r',#[o',n',e',_,_,d'],_]:=I.list h';rw[e]at e';cases e';rw[d]at d';injection d' with d1 _;have:its=its':=by simpa using congrArg Array.toList d1
 subst this;exact r.inj r'
theorem Inv.Qb (I:Inv X pins σ H s) (h:aY X.K H a xs) (h':aY X.K H a ys):xs=ys:=by
 let#[its,r,#[o,e,_,n,d],_]:=I.tuple h;let#[its',r',#[o',e',_,n',d'],_]:=I.tuple h';rw[e]at e';cases e';rw[d]at d';injection d' with d1 _;have:its=its':=by simpa using congrArg Array.toList d1
 subst this;exact r.inj r'
end
noncomputable abbrev Cx.qy (X:Cx) (E:kz->Shared->uu):Cx:={ X with xe:=E }
abbrev Cx.dh (X:Cx):Cx:=X.qy λ_ _=>False
theorem Cx.Ok.qy {X:Cx}(ok:X.Ok) (E:kz->Shared->uu):(X.qy E).Ok:=
 #[ok.mod,ok.kind,ok.glob,ok.blt,ok.above,ok.inj,ok.has,ok.wL,ok.hd,ok.frames,ok.yt,ok.vc,ok.bs,ok.sN,ok.wM,ok.vd,ok.kP,ok.rE]
theorem Cx.Ok.sQ (ok:(X.qy E).Ok):X.Ok:=
 #[ok.mod,ok.kind,ok.glob,ok.blt,ok.above,ok.inj,ok.has,ok.wL,ok.hd,ok.frames,ok.yt,ok.vc,ok.bs,ok.sN,ok.wM,ok.vd,ok.kP,ok.rE]
theorem Inv.qy (I:Inv X pins σ H s) (E:kz->Shared->uu):Inv (X.qy E) pins σ H s:=#[I.ok.qy E,I.os,I.bare,I.base,I.loc,I.cell,I.free,I.ny,I.pin,I.aj,I.len]
theorem Inv.sQ (I:Inv (X.qy E) pins σ H s):Inv X pins σ H s:=#[I.ok.sQ,I.os,I.bare,I.base,I.loc,I.cell,I.free,I.ny,I.pin,I.aj,I.len]
theorem SP.sQ {D:Ends}{f:Flow}{s':Shared}(h:SP (X.qy E) pins D f s'):SP X pins D f s':=by
 cases f with
 |next=>let#[σ',H',I,q]:=h;exact#[σ',H',I.sQ,q]
 |brk=>let#[σ',H',I,q]:=h;exact#[σ',H',I.sQ,q]
 |cont=>let#[σ',H',I,q]:=h;exact#[σ',H',I.sQ,q]
 |ret u=>let#[v,σ',H',I,r,q]:=h;exact#[v,σ',H',I.sQ,r,q]
theorem cV.dh {st:List Stmt}{t:TS}(h:cV X.dh st t):cV X st t:=λpins s σ H D I hw=>
 cC (h pins s σ H D (I.qy _) hw) (λ_ _ q=>q.sQ) λ_ _ z=>False.elim z
section
variable {rest:List Stmt} {t u:TS} {te:TE} 
def adF:TS:=λD σ H=>D.nx σ H
def adG (t u:TS):TS:=λD σ H=>t { D with nx:=u D } σ H
theorem FY:cV X [] adF:=λ_ _ σ H _ I h=>xR #[σ,H,I,h]
theorem iT (h1:PS X st t) (h2:cV X rest u):cV X (st::rest) (adG t u):=by
 intro pins s σ H D I h;refine XI (bE (h1 pins s σ H { D with nx:=u D } I h) λf s1 q=>?_);cases f with
 |next=>
   let#[σ',H',I',q]:=q;exact h2 pins s1 σ' H' D I' q
 |ret v=>exact q
 |brk=>exact q
 |cont=>exact q
theorem oM (h1:PS X st t):cV X [st] t:=by
 intro pins s σ H D I h;refine XI (bE (h1 pins s σ H D I h) λf s1 q=>?_);cases f with
 |next=>exact xR q
 |ret v=>exact q
 |brk=>exact q
 |cont=>exact q
theorem Inv.quiet (I:Inv X pins σ H s):interactive X.env=zw:=by simp[interactive,I.ok.kind]
def adH (te:TE):TS:=λD σ H=>te σ H λ_ H1=>D.nx σ H1
theorem FZ (he:PE X e te) (hs:swapsWith e zy pos.line X.env=pure zw:=by rfl):PS X (.Expr e pos) (adH te):=by
 intro pins s σ H D I h;exact wpAny_Expr_any (tE (he pins s σ H _ I h) λv s1 x H1 I1 r1 q1=>#[σ,H1,I1,q1]) I.quiet hs
def adI (te:TE):TS:=λD σ H=>te σ H D.rt
theorem By (he:PE X e te):PS X (.Return (some e) pos) (adI te):=by
 intro pins s σ H D I h;exact wpAny_Return_some (tE (he pins s σ H _ I h) λv s1 x H1 I1 r1 q1=>#[x,σ,H1,I1,r1,q1])
def adJ (c:TT) (t u:TS):TS:=λD σ H=>c σ H λb H1=>if b=zO then t D σ H1 else u D σ H1
theorem RC {a b:List Stmt}{tc:TT}(hc:PT X c tc) (ha:cV X a t) (hb:cV X b u):PS X (.If c a b pos) (adJ tc t u):=by
 intro pins s σ H D I h;refine wpAny_If (tT (hc pins s σ H _ I h) λd s1 H1 I1 q1=>?_);cases d with
 |true=>exact ha pins s1 σ H1 D I1 q1
 |false=>exact hb pins s1 σ H1 D I1 q1
end
abbrev TG:=V->St->Hp->(St->Hp->uu)->uu
abbrev sR:=List V->St->Hp->(St->Hp->uu)->uu
def PG (X:Cx) (target:Expr) (t:TG):uu:=
 ∀ (pins:List (Addr×Obj)) (s:Shared) (σ:St) (H:Hp) (v:V) (u:kz) (Q:St->Hp->uu),Inv X pins σ H s->RelV v u->t v σ H Q ->
  wpAny ze X.A (assign target X.env u) (λ_ s'=>∃ σ' H',Inv X pins σ' H' s' /\ Q σ' H') X.xe s
def rG (X:Cx) (ts:List Expr) (t:sR):uu:=
 ∀ (pins:List (Addr×Obj)) (s:Shared) (σ:St) (H:Hp) (vs:List V) (us:List kz) (Q:St->Hp->uu),Inv X pins σ H s->Vals vs us->t vs σ H Q ->
  wpAny ze X.A (assignInOrder ((assignEach ts X.env).map (·.2)) us) (λ_ s'=>∃ σ' H',Inv X pins σ' H' s' /\ Q σ' H') X.xe s
abbrev Qc:=V->V->V->Hp->(Hp->uu)->uu
def Z6 (X:Cx) (t:Qc):uu:=
 ∀ (pins:List (Addr×Obj)) (s:Shared) (σ:St) (H:Hp) (o i v:V) (ov iv u:kz) (Q:Hp->uu),Inv X pins σ H s->RelV o ov->RelV i iv->RelV v u->t o i v H Q ->
  wpAny ze X.A (setItem ov iv u) (λ_ s'=>∃ H',Inv X pins σ H' s' /\ Q H') X.xe s
def Qd (i:Nat):TG:=λv σ H Q=>Q (σ.set i (some v)) H
theorem Bz (hN:X.N.Nodup) (hi:X.N[i]?=some x) (hx:Loc X.env.scope x) (hf:X.fn x=zO \/ X.env.scope.names.lookup x=some .local:=by first|exact .inl bz|exact .inr bz|assumption):PG X zcq (Qd i):=by
 intro pins s σ H v u Q I r h;exact XJ (j7 I hN hi hx r (λs' I'=>#[_,H,I',h]) hf)
noncomputable def adK:sR:=λvs σ H Q=>vs=[] /\ Q σ H
noncomputable def adL (t:TG) (u:sR):sR:=λvs σ H Q=>∃ v r,vs=v::r /\ t v σ H λσ' H'=>u r σ' H' Q
theorem F6:rG X [] adK:=by
 intro pins s σ H vs us Q I r h;let#[e,h]:=h;subst e;cases r;exact Y8 #[σ,H,I,h]
theorem o6 {t:TG}{u:sR}(h1:PG X e t) (h2:rG X es u)
 (hs:(assignEach (e::es) X.env).map (·.2)=assign e X.env::(assignEach es X.env).map (·.2):=by rfl):rG X (e::es) (adL t u):=by
 intro pins s σ H vs us Q I r h;let#[v,vr,e1,h]:=h;subst e1;cases r with
 |cons r rr=>
   rw[hs];refine KJ (bE (h1 pins s σ H _ _ _ I r h) ?_);rintro _ s1 ⟨σ1,H1,I1,q1⟩;exact h2 pins s1 σ1 H1 _ _ Q I1 rr q1
def adM (K:PySem.W.Frag) (n:Nat) (t:sR):TG:=λv σ H Q=>∃ a xs,v=.ref a /\ aY K H a xs /\ xs.length=n /\ t xs σ H Q
theorem Ls {k:Nat}{t:sR}(hc:X.calm=zO) (h:rG X es t)
 (hn:(assignEach es X.env).length=n:=by rfl) (p9:(assignEach es X.env).findIdx? (·.1)=zy:=by rfl):PG X (.Tuple es k pos) (adM X.K n t):=by
 intro pins s σ H v u Q I r hw;let#[a,xs,e1,hq,hl,hw]:=hw;subst e1;cases r;let#[its,rv,ht,hz]:=I.tuple hq;refine assign_Tuple_tuple zbN ht (by simp[hn,<-hl,rv.length]) p9 λh' hx=>?_;have I1:Inv X pins σ H { s with heap:=h' }:=I.kept (t':=s.toks) λb o e=>hx b o (bT (aN e)) e;exact h pins _ σ H xs _ Q I1 (by simpa using rv) hw
def adN (to ti:TE) (t:Qc):TG:=λv σ H Q=>to σ H λo H1=>ti σ H1 λi H2=>t o i v H2 λH3=>Q σ H3
theorem Sh {o i:Expr}{to ti:TE}{t:Qc}(ho:PE X o to) (hi:PE X i ti) (hs:Z6 X t)
 (ha:∀ v,assign (.Subscript o i pos) X.env v=(do
  let ov <-holding [v] (eval o X.env)
  let iv <-holding [v,ov] (eval i X.env)
  standAt pos
  holding [v,ov,iv] (setItem ov iv v)
  release [v,ov,iv] []):=by intro _;rfl):PG X (.Subscript o i pos) (adN to ti t):=by
 intro pins s σ H v u Q I r h;rw[ha];refine ae (dI (tE (ho pins s σ H _ I h) λov s1 x H1 I1 r1 q1=>?_));refine ae (dI (tE (hi pins s1 σ H1 _ I1 q1) λiv s2 y H2 I2 r2 q2=>?_));refine ae (sk (ae (dI (bE (hs pins s2 σ H2 x y v ov iv u _ I2 r1 r2 r q2) ?_))));rintro _ s3 ⟨H3,I3,q3⟩;exact wpAny_release #[σ,H3,I3,q3]
def Hk (te:TE) (g:TG):TS:=λD σ H=>te σ H λx H1=>g x σ H1 D.nx
theorem Lu {te:TE}{g:TG}(he:PE X e te) (hg:PG X tg g) (hs:swapsWithSole [tg] e pos.line X.env=pure zw:=by rfl) (hw:swappedStores [tg] e X.env=pure zy:=by rfl)
 (h1:(assignEach [tg] X.env).map (·.2)=[assign tg X.env]:=by rfl):PS X (.Assign [tg] e pos) (Hk te g):=by
 intro pins s σ H D I h;refine wpAny_Assign_stores (tE (he pins s σ H _ I h) λv s1 x H1 I1 r1 q1=>?_) hs hw;rw[h1];exact bE (hg pins s1 σ H1 x v _ I1 r1 q1) λ_ s2 q=>q
theorem BA {te:TE}(hN:X.N.Nodup) (hi:X.N[i]?=some x) (hx:Loc X.env.scope x) (he:PE X e te) (hs:swapsWith e (some (.Name x pos')) pos.line X.env=pure zw:=by rfl) (hf:X.fn x=zO \/ X.env.scope.names.lookup x=some .local:=by first|exact .inl bz|exact .inr bz|assumption) :
 PS X (.Assign [.Name x pos'] e pos) (Hk te (Qd i)):=by
 intro pins s σ H D I h;refine wpAny_Assign_Name (tE (he pins s σ H _ I h) λv s1 y H1 I1 r1 q1=>?_) hs;exact j7 I1 hN hi hx r1 (λs2 I2=>#[_,H1,I2,q1]) hf
def Z7 (i j:Nat) (ta:TA):TS:=λD σ H=>ta σ H λvs H1=>∃ v w,vs=[v,w] /\ D.nx ((σ.set i (some v)).set j (some w)) H1
theorem Si {y:Str}{a b:Expr}{ta:TA}{px py pt:Pos}{kt k2 kQ}(hc:X.calm=zO) (hN:X.N.Nodup) (hi:X.N[i]?=some x) (hj:X.N[j]?=some y) (Qe:i≠j)
 (hx:X.env.scope.names.lookup x=some .local) (hy:X.env.scope.names.lookup y=some .local) (ha:PA X [a,b] ta)
 (hw:swappedStores [.Tuple [.Name x px,.Name y py] kt pt] zch X.env=pure (some [x,y]))
 (hs:swapsWithSole [.Tuple [.Name x px,.Name y py] kt pt] zch pos.line X.env=pure zw:=by rfl) :
 PS X zaI (Z7 i j ta):=by
 intro pins s σ H D I h;rw[exec_Assign_arm];refine ae (sk ?_);rw[hs];refine ae (ag ?_);rw[if_neg za];refine ae (Tuple_ (tA (ha _ pins s σ H _ I h) λus s1 vs H1 I1 r1 q1=>?_));let#[v,w,e1,q1]:=q1;subst e1;obtain⟨u1,u2,rfl,rv,nW⟩:∃ u1 u2,us=[u1,u2] /\ RelV v u1 /\ RelV w u2:=by
  cases r1 with
  |cons p q=>
    cases q with
    |cons p' q'=>
      cases q';exact#[_,_,rfl,p,p']
 refine dJ ?_ (by show 2<=sizeLine;decide);have I2:Inv X pins σ H1 { s1 with heap:=s1.heap.push { cls:=.type "tuple",data:=.seq [u1,u2].toArray } }:=I1.kept (t':=s1.toks) λb o e=>aK _ e;rw[hw];refine ae (ag ?_);show wpAny ze X.A (do rule "assign.swapped-stores";let items <-unpackItems (.ref s1.heap.objs.size) 2 zy;assignInOrder [λv=>bindName X.env y v,λv=>bindName X.env x v] items.reverse;pure Flow.next) _ _ _;refine ae (pW (ae (unpackItems_tuple (items:=(List.toArray [u1,u2])) zbN (IsTup.new s1.heap _) λh' adO=>?_)));have I3:=I2.kept (h':=h') (t':=s1.toks) λb o e=>adO b o (bT (aN e)) e;show wpAny _ _ (assignInOrder [λv=>bindName X.env y v,λv=>bindName X.env x v] [u2,u1] >>= λ_=>pure Flow.next) _ _ _;refine ae (KJ (XM (j7 I3 hN hj (.inl hy) nW (λs2 I4=>?_) (.inr hy))));refine KJ (XM (j7 I4 hN hi (.inl hx) rv (λs3 I5=>Y8 (ag ?_)) (.inr hx)));rw[Kt _ _ (Ne.symm Qe)]at I5;exact#[_,H1,I5,q1]
def Z8 (c:TT) (tb:TS):TS:=λD σ H=>∃ W:Nat->St->Hp->uu,(∃ m,W m σ H) /\ ∀ m σ H,W m σ H ->
 c σ H λb H1=>if b=zO then ∃ N:St->Hp->uu,(∀ σ' H',N σ' H'->∃ m',m'<m /\ W m' σ' H') /\ tb { D with nx:=N,ct:=N,bk:=D.nx } σ H1 else D.nx σ H1
theorem Lv {body:List Stmt}{tc:TT}{tb:TS}(hp:PassesOwn ze X.A X.env X.xe) (hc:PT X c tc) (hb:cV X body tb):PS X (.While c body [] pos) (Z8 tc tb):=by
 intro pins s σ H D I h;let#[W,#[m0,w0],turn]:=h;refine wpAny_While (codeAny_whileLoop (λn s'=>∃ σ' H',Inv X pins σ' H' s' /\ W n σ' H') ?_ m0 #[σ,H,I,w0]);rintro n s1 ⟨σ1,H1,I1,w1⟩;refine uN hp (tT (hc pins s1 σ1 H1 _ I1 (turn n σ1 H1 w1)) λb s2 H2 I2 q2=>?_);cases b with
 |true=>
   let#[N,hN,q2]:=q2;rw[if_pos rfl];refine uN hp (bE (hb pins s2 σ1 H2 _ I2 q2) λf s3 q3=>?_);cases f with
   |next=>
     let#[σ3,H3,I3,n3]:=q3;let#[m',hm,w3]:=hN σ3 H3 n3;exact#[m',hm,σ3,H3,I3,w3]
   |cont=>
     let#[σ3,H3,I3,n3]:=q3;let#[m',hm,w3]:=hN σ3 H3 n3;exact#[m',hm,σ3,H3,I3,w3]
   |brk=>exact q3
   |ret v=>exact q3
 |false=>
   rw[if_neg bY];exact xR #[σ1,H2,I2,q2]
structure It where
 go:Nat->Hp->uu
 yx:Nat->Hp->V->Hp->uu
 stop:Nat->Hp->uu
def eL (X:Cx) (pins:List (Addr×Obj)) (H:Hp) (b:Addr):uu:=
 H b=zy /\ b≠X.env.locals /\ b∉X.fs /\ zcx /\ zb4 /\ ∀ p∈X.pn++pins,p.1≠b
theorem Inv.wR {b:Addr}(I:Inv X pins σ H s) (hb:s.heap.objs.size<=b) (hn:H' b=zy):eL X pins H' b:=by
 refine#[hn,tZ (dj I.lt hb),I.adt hb,.inr (br I.sz hb),λx c e z=>?_,λp hp z=>?_]
 .let#[v,q]:=I.cell x c e;exact absurd (dj q.lt (by rw[z];exact hb)) (eJ _)
 .exact absurd (dj (aN (I.pin p hp).1) (by rw[z];exact hb)) (eJ _)
structure Turn (P:Program) (w:World) (K:PySem.W.Frag) (tg:Expr) (J:It) (fp:List Addr) (it:Addr) (tn:Nat->Heap->uu):uu where
 mem:it∈fp
 obj:∀ i h,tn i h->∀ b∈fp,∃ o,h.get? b=some o /\ ∀ v,o.data≠.cell v
 keep:∀ i h h',tn i h->(∀ b∈fp,∀ o,h.get? b=some o->h'.get? b=some o)->tn i h'
 item:∀ (X:Cx),X.prog=P->X.w=w->X.K=K->X.calm=zO->∀ (i:Nat) (pins:List (Addr×Obj)) (s:Shared) (σ:St) (H:Hp) (E:kz->Shared->uu),Inv X pins σ H s->(∀ b∈fp,eL X pins H b)->tn i s.heap->J.go i H ->
  wpAny (model P w) X.A (pyNext zay) (λr s1=>∃ u,r=some u /\
   wpAny (model P w) X.A (letOwnedTupleGo tg zay u) (λ_ s2=>∃ x H',Inv X pins σ H' s2 /\ RelV x u /\ J.yx i H x H' /\ tn (i+1) s2.heap /\ ∀ b∈fp,H' b=zy) E s1) E s
 done:∀ (X:Cx),X.prog=P->X.w=w->X.K=K->X.calm=zO->∀ (i:Nat) (pins:List (Addr×Obj)) (s:Shared) (σ:St) (H:Hp) (E:kz->Shared->uu),Inv X pins σ H s->(∀ b∈fp,eL X pins H b)->tn i s.heap->J.stop i H ->
  wpAny (model P w) X.A (pyNext zay) (λr s1=>r=zy /\ Inv X pins σ H s1) E s
 self:∀ (A:Around) (i:Nat) (s:Shared) (Q:kz->Shared->uu) (E:kz->Shared->uu),tn i s.heap->Q zay s->wpAny (model P w) A (pyIter zay) Q E s
abbrev TI:=St->Hp->(It->Hp->uu)->uu
def Z9 (X:Cx) (pins:List (Addr×Obj)) (σ:St) (tg:Expr) (R:It->Hp->uu) (yy:kz) (s2:Shared):uu:=
 ∃ (it:Addr) (fp:List Addr) (tn:Nat->Heap->uu) (J:It) (H':Hp),yy=.ref it /\ Inv X pins σ H' s2 /\ Turn X.prog X.w X.K tg J fp it tn /\ tn 0 s2.heap /\ (∀ b∈fp,eL X pins H' b) /\ R J H'
def PI (X:Cx) (tg iter:Expr) (wi:TI):uu:=
 ∀ (pins:List (Addr×Obj)) (s:Shared) (σ:St) (H:Hp) (R:It->Hp->uu),Inv X pins σ H s->wi σ H R ->
  wpAny ze X.A (eval iter X.env) (λv s1=>wpAny ze X.A (pyIter v) (Z9 X pins σ tg R) X.xe s1) X.xe s
theorem Lw {n:String}{vs:Array kz}{Q:Unit->Shared->uu}(ho:s.heap.get? it=some o) (hc:o.cls=.type n) (hd:o.data=.fields vs)
 (hn:["enumerate","zip","dict_itemiterator","dict_reverseitemiterator","odict_iterator","itertools.zip_longest","itertools.pairwise"].contains n=zw) (hQ:Q () s):wpAny M A (letOwnedTupleGo tg zay u) Q E s:=by
 unfold letOwnedTupleGo;cases tg<;>first
  |exact ag hQ
  |(cases u<;>first
   |exact ag hQ
   | (refine ae (wb ho ?_)
      rw[hc,hd];show wpAny M A (if (["enumerate","zip","dict_itemiterator","dict_reverseitemiterator","odict_iterator","itertools.zip_longest","itertools.pairwise"].contains n&&vs[0]?==some (rawInt _))=zO then _ else _) Q E s;rw[if_neg (by intro h;rw[hn,sv]at h;cases h)];exact ag hQ))
noncomputable def Qf (K:PySem.W.Frag) (a:Addr):It:=
 #[λi H=>∃ xs x,ba K H a xs /\ xs[i]?=some x,λi H x H'=>H'=H /\ ∀ xs,ba K H a xs->xs[i]?=some x,λi H=>∃ xs,ba K H a xs /\ xs.length<=i]
noncomputable def Qg (K:PySem.W.Frag) (a:Addr):It:=
 #[λi H=>∃ xs x,aY K H a xs /\ xs[i]?=some x,λi H x H'=>H'=H /\ ∀ xs,aY K H a xs->xs[i]?=some x,λi H=>∃ xs,aY K H a xs /\ xs.length<=i]
noncomputable def yz (lo:Int) (n:Nat):It:=#[λi _=>i<n,λi H x H'=>H'=H /\ x=.int (lo+i),λi _=>n<=i]
theorem Je (a it:Addr):Turn P w K tg (Qf K a) [it] it (λi h=>h.IsListIter it a i) where
 mem:=by simp
 obj:=λi h st b hb=>by
  have e:b=it:=by simpa using hb
  subst e;let#[o,e,c,d]:=st;exact#[o,e,λv z=>by rw[d]at z;cases z]
 keep:=λi h h' st k=>st.at λo e=>k it zf o e
 item:=by
  intro X hP hw hK hc i pins s σ H E I hf st hg;subst hP hw hK;let#[xs,x,hq,hx]:=hg;let#[its,rv,p,hz]:=I.list hq;let#[u,hu,ru]:=rv.get hx;let#[f0,f1,f2,f3,f4,f5]:=hf it zf;refine wpAny_pyNext_list_item st p.isList (x:=u) (by simpa using hu) λh' ue sb=>?_;have I1:Inv X pins σ H { s with heap:=h' }:=I.turned (t':=s.toks) (λb o hb e=>(sb.2 b hb).trans e) f0 f1 f3 f4 f5;let#[o,e,c,d]:=id ue;exact#[u,rfl,Lw (s:={ s with heap:=h' }) e c d za #[x,H,I1,ru,#[rfl,λys hy=>by rw[I.Z5 hy hq];exact hx],ue,λb hb=>(hf b hb).1]]
 done:=by
  intro X hP hw hK hc i pins s σ H E I hf st hg;subst hP hw hK;let#[xs,hq,hx]:=hg;let#[its,rv,p,hz]:=I.list hq;let#[f0,f1,f2,f3,f4,f5]:=hf it zf;have hl:=rv.length;exact wpAny_pyNext_list_end zbN st p.isList zS λh' eb=>#[rfl,I.turned (t':=s.toks) (λb o hb e=>eb b o hb e) f0 f1 f3 f4 f5]
 self:=λ_ _ _ _ _ st h=>wpAny_pyIter_listiter st h
theorem DU (a it:Addr):Turn P w K tg (Qg K a) [it] it (λi h=>h.IsTupleIter it a i) where
 mem:=by simp
 obj:=λi h st b hb=>by
  have e:b=it:=by simpa using hb
  subst e;let#[o,e,c,d]:=st;exact#[o,e,λv z=>by rw[d]at z;cases z]
 keep:=λi h h' st k=>st.at λo e=>k it zf o e
 item:=by
  intro X hP hw hK hc i pins s σ H E I hf st hg;subst hP hw hK;let#[xs,x,hq,hx]:=hg;let#[its,rv,p,hz]:=I.tuple hq;let#[u,hu,ru]:=rv.get hx;let#[f0,f1,f2,f3,f4,f5]:=hf it zf;refine wpAny_pyNext_tuple_item st (show s.heap.IsTuple a its.toArray from p) (x:=u) (by simpa using hu) λh' ue sb=>?_;have I1:Inv X pins σ H { s with heap:=h' }:=I.turned (t':=s.toks) (λb o hb e=>(sb.2 b hb).trans e) f0 f1 f3 f4 f5;let#[o,e,c,d]:=id ue;exact#[u,rfl,Lw (s:={ s with heap:=h' }) e c d za #[x,H,I1,ru,#[rfl,λys hy=>by rw[I.Qb hy hq];exact hx],ue,λb hb=>(hf b hb).1]]
 done:=by
  intro X hP hw hK hc i pins s σ H E I hf st hg;subst hP hw hK;let#[xs,hq,hx]:=hg;let#[its,rv,p,hz]:=I.tuple hq;let#[f0,f1,f2,f3,f4,f5]:=hf it zf;have hl:=rv.length;exact wpAny_pyNext_tuple_end zbN st (show s.heap.IsTuple a its.toArray from p) zS λh' eb=>#[rfl,I.turned (t':=s.toks) (λb o hb e=>eb b o hb e) f0 f1 f3 f4 f5]
 self:=λ_ _ _ _ _ st h=>wpAny_pyIter_tupleiter st h
theorem DV (it:Addr) (lo:Int) (n:Nat):Turn P w K tg (yz lo n) [it] it (λi h=>IsRangeIter h it (lo+(i:Nat)*1) ((n:Int)-(i:Nat)) 1) where
 mem:=by simp
 obj:=λi h st b hb=>by
  have e:b=it:=by simpa using hb
  subst e;exact#[_,st,λv z=>by
   have z':Data.fields _=Data.cell v:=z;cases z']
 keep:=λi h h' st k=>k it zf _ st
 item:=by
  intro X hP hw hK hc i pins s σ H E I hf st hg;subst hP hw hK;let#[f0,f1,f2,f3,f4,f5]:=hf it zf;have W:=Walks.range (prog:=X.prog) (w:=X.w) zbN it lo 1 n;refine W.item i s _ _ hg st λv h' tk hv ue kk=>?_;let#[t,rfl]:=hv;have I1:Inv X pins σ H { s with heap:=h',toks:=tk }:=I.turned (λb o hb e=>kk b o (by simpa using hb) e) f0 f1 f3 f4 f5;refine#[_,rfl,Lw (s:={ s with heap:=h',toks:=tk }) (n:="range_iterator") ue bz bz za #[.int (lo+i),H,I1,#[t,?_],#[rfl,rfl],ue,λb hb=>(hf b hb).1]];rw[Int.mul_one]
 done:=by
  intro X hP hw hK hc i pins s σ H E I hf st hg;subst hP hw hK;let#[f0,f1,f2,f3,f4,f5]:=hf it zf;exact wpAny_pyNext_range_end zbN st (by have:n<=i:=hg;lia) λh' eb=>#[rfl,I.turned (t':=s.toks) (λb o hb e=>eb b o hb e) f0 f1 f3 f4 f5]
 self:=λ_ _ _ _ _ st h=>wpAny_pyIter_rangeiter st h
theorem Cd {R:It->Hp->uu}{lo hi:Int}{t u v:Tok}{tk:Nat}(I:Inv X pins σ H s) (h1:-(2 ^ 62)<=lo) (h2:lo<2 ^ 62) (h3:-(2 ^ 62)<=hi) (h4:hi<2 ^ 62)
 (q:R (yz lo (hi-lo).toNat) H):wpAny ze X.A (pyIter zaj) (Z9 X pins σ tg R) E { s with heap:=s.heap.push { cls:=.type "range",data:=.fields (List.toArray [.int lo t,.int hi u,.int 1 v]) },toks:=tk }:=by
 refine wpAny_pyIter_range (IsRange.new ..) (small_one h1 h2 h3 h4) ?_;have I1:Inv X pins σ H { s with heap:=s.heap.push { cls:=.type "range",data:=.fields (List.toArray [.int lo t,.int hi u,.int 1 v]) },toks:=tk }:=I.kept λb o e=>aK _ e;refine#[(s.heap.push { cls:=.type "range",data:=.fields (List.toArray [.int lo t,.int hi u,.int 1 v]) }).objs.size,[(s.heap.push { cls:=.type "range",data:=.fields (List.toArray [.int lo t,.int hi u,.int 1 v]) }).objs.size],_,_,H,rfl,
  I1.kept (t':=tk) λb o e=>aK _ e,DV _ lo (hi-lo).toNat,?_,λb hb=>?_,q]
 .have e1:lo+((0:Nat):Int)*1=lo:=by simp
  have e2:(((hi-lo).toNat:Nat):Int)-((0:Nat):Int)=Builtin.Range.rangeSize lo hi 1:=by rw[rangeSize_one];split<;>lia
  show IsRangeIter _ _ (lo+((0:Nat):Int)*1) ((((hi-lo).toNat:Nat):Int)-((0:Nat):Int)) 1;rw[e1,e2];exact bw _ bz
 .have e:b=(s.heap.push { cls:=.type "range",data:=.fields (List.toArray [.int lo t,.int hi u,.int 1 v]) }).objs.size:=by simpa using hb
  subst e;exact I1.wR (au _) (I1.aj.fresh (au _))
def adP (ta:TA):TI:=λσ H R=>ta σ H λvs H1=>∃ j:Int,vs=[.int j] /\ -(2 ^ 62)<=j /\ j<2 ^ 62 /\ R (yz 0 j.toNat) H1
def adQ (ta:TA):TI:=λσ H R=>ta σ H λvs H1=>∃ i j:Int,vs=[.int i,.int j] /\ (-(2 ^ 62)<=i /\ i<2 ^ 62 /\ -(2 ^ 62)<=j /\ j<2 ^ 62) /\ R (yz i (j-i).toNat) H1
theorem Jf {a:Expr}{ta:TA}{p:Pos}(hg:Gl X "range") (hm:X.mg "range"=zy) (ha:PA X [a] ta) (hs:starEach [a] X.env=[zaz]:=by rfl):PI X tg (.Call (.Name "range" p) [a] [] pos) (adP ta):=by
 intro pins s σ H R I h;refine Call_ (jj I hg hm boot_range (yj (tA za4 λus s1 vs H1 I1 r1 q1=>?_) hs bz));let#[j,e,q1,q2,q]:=q1;subst e;cases r1 with
 |cons r rr=>
   cases rr;let#[t,rfl]:=r;exact call_range_1 (Cd I1 zb zb q1 q2 (by simpa using q))
theorem Jg {a b:Expr}{ta:TA}{p:Pos}(hg:Gl X "range") (hm:X.mg "range"=zy) (ha:PA X [a,b] ta) (hs:starEach [a,b] X.env=[zaz,zcg]:=by rfl) (dA:starEach [b] X.env=[zcg]:=by rfl) :
 PI X tg (.Call (.Name "range" p) [a,b] [] pos) (adQ ta):=by
 intro pins s σ H R I h;refine Call_ (jj I hg hm boot_range (yj (tA za4 λus s1 vs H1 I1 r1 q1=>?_) (by rw[hs,dA]) (by rw[dA];rfl)));let#[i,j,e,#[q1,q2,q3,q4],q]:=q1;subst e;cases r1 with
 |cons r rr=>
   cases rr with
   |cons r' rr=>
     cases rr;let#[t,rfl]:=r;let#[t',rfl]:=r';exact call_range_2 (Cd I1 q1 q2 q3 q4 q)
def aaa (wi:TI) (g:TG) (tb:TS):TS:=λD σ H=>wi σ H λJ H1=>∃ W:Nat->Nat->St->Hp->uu,(∃ m,W 0 m σ H1) /\ ∀ i m σ H,W i m σ H ->
 (J.stop i H /\ D.nx σ H) \/ (J.go i H /\ ∃ N:St->Hp->uu,(∀ σ' H',N σ' H'->∃ m',m'<m /\ W (i+1) m' σ' H') /\ ∀ x H',J.yx i H x H'->g x σ H' λσ2 H2=>tb { D with nx:=N,ct:=N,bk:=D.nx } σ2 H2)
noncomputable def uf (fp:List Addr) (h:Heap):List (Addr×Obj):=fp.filterMap λb=>(h.get? b).map λo=>(b,o)
theorem iI {h:Heap}{b:Addr}(hb:b∈fp) (e:h.get? b=some o):(b,o)∈uf fp h:=List.mem_filterMap.mpr #[b,hb,by rw[e];rfl]
theorem A3 {h:Heap}{p:Addr×Obj}(hp:p∈uf fp h):p.1∈fp /\ h.get? p.1=some p.2:=by
 let#[b,hb,e]:=List.mem_filterMap.mp hp;cases q:h.get? b with
 |none=>rw[q]at e;cases e
 |some o=>
   rw[q]at e;have e':(b,o)=p:=Option.some.inj e;subst e';exact#[hb,q]
theorem Inv.pinned (I:Inv X pins σ H s) (hf:∀ b∈fp,eL X pins H b) (ho:∀ b∈fp,∃ o,s.heap.get? b=some o /\ ∀ v,o.data≠.cell v):Inv X (pins++uf fp s.heap) σ H s:=
 I.yu λp hp=>(cZ.mp hp).elim (λz=>I.pin p (cD _ z)) λz=>by
  let#[hb,e]:=A3 z;let#[f0,f1,f2,_]:=hf p.1 hb;let#[o,e',d]:=ho p.1 hb;rw[e]at e';cases e';exact#[e,f0,f1,f2,d]
theorem Inv.ve {pl:List (Addr×Obj)}(I:Inv X (pins++pl) σ H s):Inv X pins σ H s:=I.yu λp hp=>I.pin p (cD _ (dM _ hp))
theorem Sj {body:List Stmt}{wi:TI}{g:TG}{tb:TS}(hp:PassesOwn ze X.A X.env X.xe) (hc:X.calm=zO) (hi:PI X tg iter wi) (hg:PG X tg g) (hb:cV X body tb)
 (hs:∀ x,foldedSetIterable iter X.env x=pure x:=by intro _;rfl):PS X (.For tg iter body [] pos) (aaa wi g tb):=by
 intro pins s σ H D I h;refine wpAny_For (bE (hi pins s σ H _ I h) λv s1 h1=>bE h1 λyy s2 h2=>?_) hs;let#[it,fp,tn,J,H2,e,I2,T,rH,f2,W,#[m0,w0],turn]:=h2;subst e;have stat:∀ {H':Hp},za9->∀ b∈fp,eL X pins H' b:=λhn b hb=>#[hn b hb,(f2 b hb).2];refine codeAny_forLoop_any (λn s'=>∃ i σ' H',Inv X pins σ' H' s' /\ tn i s'.heap /\ za9 /\ W i n σ' H') ?_ m0 #[0,σ,H2,I2,rH,λb hb=>(f2 b hb).1,w0];rintro n s3 ⟨i,σ3,H3,I3,ug,aab,w3⟩;rcases turn i n σ3 H3 w3 with⟨stop,qn⟩|⟨go,N,hN,step⟩
 .refine uN hp (bE (T.done X bz bz bz hc i pins s3 σ3 H3 X.xe I3 (stat aab) ug stop) ?_);rintro r s4 ⟨hr,I4⟩;subst hr;exact xR #[σ3,H3,I4,qn]
 .refine uN hp (bE (T.item X bz bz bz hc i pins s3 σ3 H3 X.xe I3 (stat aab) ug go) ?_);rintro r s4 ⟨u,hr,h4⟩;subst hr;refine uN hp (bE h4 ?_);rintro _ s5 ⟨x,H5,I5,r5,y5,sU,vf⟩;have adR:=I5.pinned (stat vf) (T.obj _ _ sU);refine uN hp (bE (hg _ s5 σ3 H5 x u _ adR r5 (step x H5 y5)) ?_);rintro _ s6 ⟨σ6,H6,I6,q6⟩;refine uN hp (bE (hb _ s6 σ6 H6 _ I6 q6) λf s7 q7=>?_);have again:∀ {σ7:St}{H7:Hp},Inv X (pins++uf fp s5.heap) σ7 H7 s7->N σ7 H7->∃ m,m<n /\ ∃ i σ' H',Inv X pins σ' H' s7 /\ tn i s7.heap /\ za9 /\ W i m σ' H':=λ{σ7 H7} I7 n7=>by
   let#[m',hm,w7]:=hN σ7 H7 n7;refine#[m',hm,i+1,σ7,H7,I7.ve,T.keep _ _ _ sU λb hb o e=>(I7.pin (b,o) zcL).1,λb hb=>?_,w7];let#[o,e,d]:=T.obj _ _ sU b hb;exact(I7.pin (b,o) zcL).2.1
  cases f with
  |next=>let#[σ7,H7,I7,n7]:=q7;exact again I7 n7
  |cont=>let#[σ7,H7,I7,n7]:=q7;exact again I7 n7
  |brk=>let#[σ7,H7,I7,q7]:=q7;exact#[σ7,H7,I7.ve,q7]
  |ret v=>let#[x7,σ7,H7,I7,r7,q7]:=q7;exact#[x7,σ7,H7,I7.ve,r7,q7]
abbrev R2:=V->V->Hp->VK->uu
def aO (X:Cx) (f:kz->kz->Sem kz) (r:R2):uu:=
 ∀ (pins:List (Addr×Obj)) (s:Shared) (σ:St) (H:Hp) (x y:V) (v u:kz) (Q:VK),Inv X pins σ H s->RelV x v->RelV y u->r x y H Q ->
  wpAny ze X.A (f v u) zaR X.xe s
def Qh (X:Cx) (f:kz->Sem kz) (r:V->Hp->VK->uu):uu:=
 ∀ (pins:List (Addr×Obj)) (s:Shared) (σ:St) (H:Hp) (x:V) (v:kz) (Q:VK),Inv X pins σ H s->RelV x v->r x H Q ->
  wpAny ze X.A (f v) zaR X.xe s
def dD (X:Cx) (f:kz) (r:List V->Hp->VK->uu):uu:=
 ∀ (pins:List (Addr×Obj)) (s:Shared) (σ:St) (H:Hp) (xs:List V) (us:List kz) (Q:VK),Inv X pins σ H s->Vals xs us->r xs H Q ->
  wpAny ze X.A (call f us) zaR X.xe s
def adS (X:Cx) (r:V->Hp->(Bool->Hp->uu)->uu):uu:=
 ∀ (pins:List (Addr×Obj)) (s:Shared) (σ:St) (H:Hp) (x:V) (v:kz) (Q:Bool->Hp->uu),Inv X pins σ H s->RelV x v->r x H Q ->
  wpAny ze X.A (truthy v) (TP X pins σ Q) X.xe s
def yB (r:R2) (ta tb:TE):TE:=λσ H Q=>ta σ H λx H1=>tb σ H1 λy H2=>r x y H2 Q
def adT (r:V->Hp->VK->uu) (ta:TE):TE:=λσ H Q=>ta σ H λx H1=>r x H1 Q
def rI (C:Int->Int->uu) (g:Int->Int->V):R2:=λx y H Q=>∃ i j,x=.int i /\ y=.int j /\ C i j /\ Q (g i j) H
def ki (g:Int->Int->V):R2:=λx y H Q=>∃ i j,x=.int i /\ y=.int j /\ Q (g i j) H
def rU (g:Int->V):V->Hp->VK->uu:=λx H Q=>∃ i,x=.int i /\ Q (g i) H
section
variable {a b:Expr} {ta tb tc:TE} 
theorem Qi (ha:PE X a ta) (hb:PE X b tb) {R:V->V->Hp->uu}(I:Inv X pins σ H s)
 (h:ta σ H λx H1=>tb σ H1 λy H2=>R x y H2) 
 (hf:∀ v u s2 x y H2,Inv X pins σ H2 s2->RelV x v->RelV y u->R x y H2->wpAny ze X.A (f v u) Q X.xe s2) :
 wpAny ze X.A (eval a X.env) (λv s₁=>wpAny ze X.A (eval b X.env) (λu s₂=>wpAny ze X.A (f v u) Q X.xe s₂) X.xe s₁) X.xe s:=by
 refine tE zaX λv s1 x H1 I1 r1 q1=>?_;refine tE (hb pins s1 σ H1 _ I1 q1) λu s2 y H2 I2 r2 q2=>?_;exact hf v u s2 x y H2 I2 r1 r2 q2
theorem Lx {op:Operator}{r:R2}(ho:aO X (binaryOp op) r) (ha:PE X a ta) (hb:PE X b tb):PE X (.BinOp a op b pos) (yB r ta tb):=by
 intro pins s σ H Q I h;exact wpAny_BinOp (Qi ha hb I h λv u s2 x y H2 I2 rx ry q=>ho pins s2 σ H2 x y v u Q I2 rx ry q)
theorem RD {op:UnaryOp}{r:V->Hp->VK->uu}(ho:Qh X (unaryOp op) r) (ha:PE X a ta):PE X (.UnaryOp op a pos) (adT r ta):=by
 intro pins s σ H Q I h;exact UnaryOp_ (tE zaX λv s1 x H1 I1 r1 q1=>ho pins s1 σ H1 x v Q I1 r1 q1)
theorem Hl {C:Int->Int->uu}{g:Int->Int->Int}
 (rule:∀ (i j:Int) (t u:Tok) (s:Shared) (Q:kz->Shared->uu) (E:kz->Shared->uu),C i j->Q (.int (g i j) s.toks) { s with toks:=s.toks+1 }->wpAny ze X.A (f (.int i t) (.int j u)) Q E s) :
 aO X f (rI C λi j=>.int (g i j)):=by
 intro pins s σ H x y v u Q I rx ry h;let#[i,j,rfl,rfl,hc,q]:=h;let#[t,rfl]:=rx;let#[t',rfl]:=ry;exact rule i j t t' s _ _ hc #[.int (g i j),H,I.tok _,#[_,rfl],q]
theorem aac {g:Int->Int->Int}
 (rule:∀ (i j:Int) (t u:Tok) (s:Shared) (Q:kz->Shared->uu) (E:kz->Shared->uu),Q (.int (g i j) s.toks) { s with toks:=s.toks+1 }->wpAny ze X.A (f (.int i t) (.int j u)) Q E s) :
 aO X f (ki λi j=>.int (g i j)):=by
 intro pins s σ H x y v u Q I rx ry h;let#[i,j,rfl,rfl,q]:=h;let#[t,rfl]:=rx;let#[t',rfl]:=ry;exact rule i j t t' s _ _ #[.int (g i j),H,I.tok _,#[_,rfl],q]
theorem Hm {g:Int->Int->Bool}
 (rule:∀ (i j:Int) (t u:Tok) (s:Shared) (Q:kz->Shared->uu) (E:kz->Shared->uu),Q (.bool (g i j)) s->wpAny ze X.A (f (.int i t) (.int j u)) Q E s) :
 aO X f (ki λi j=>.bl (g i j)):=by
 intro pins s σ H x y v u Q I rx ry h;let#[i,j,rfl,rfl,q]:=h;let#[t,rfl]:=rx;let#[t',rfl]:=ry;exact rule i j t t' s _ _ #[.bl (g i j),H,I,rfl,q]
def wU (i j:Int):uu:=0<j /\ j<1073741824
def vg (i j:Int):uu:=0<=j /\ j<=1000000 /\ i.natAbs<2 ^ 64
def vh (i j:Int):uu:=(-(2 ^ 64)<i /\ i<2 ^ 64) \/ (-(2 ^ 64)<j /\ j<2 ^ 64)
theorem vh.ok {i j:Int}(h:vh i j):IntMulOk i j:=by
 rcases h with⟨h1,h2⟩|⟨h1,h2⟩
 .exact .of_left (XO h1 h2)
 .exact .of_right (XO h1 h2)
theorem Sk:aO X (binaryOp .Add) (ki λi j=>.int (i+j)):=aac λ_ _ _ _ _ _ _ q=>add_int q
theorem Sl:aO X (binaryOp .Sub) (ki λi j=>.int (i-j)):=aac λ_ _ _ _ _ _ _ q=>sub_int q
theorem Sn:aO X (binaryOp .Mult) (rI vh λi j=>.int (i*j)):=Hl λ_ _ _ _ _ _ _ hc q=>mul_int q hc.ok
theorem NZ:aO X (binaryOp .FloorDiv) (rI wU λi j=>.int (i / j)):=Hl λi j _ _ _ _ _ hc q=>by
 have h1:(0:Int)<j:=hc.1;have h2:j<1073741824:=hc.2;exact floordiv_int zb (by rw[Int.fdiv_eq_ediv_of_nonneg i zb];exact q) (.inl (PyProof.noPylong_small zb))
theorem So:aO X (binaryOp .Mod) (rI (λ_ j=>0<j) λi j=>.int (i % j)):=Hl λi j _ _ _ _ _ hc q=>by
 have h1:(0:Int)<j:=hc;exact mod_int' zb (by rw[Int.fmod_eq_emod_of_nonneg i zb];exact q)
theorem Sq:aO X (binaryOp .Pow) (rI vg λi j=>.int (i ^ j.toNat)):=Hl λ_ _ _ _ _ _ _ hc q=>pow_int_small hc.1 hc.2.1 hc.2.2 q
theorem adU {f:kz->Sem kz}{g:Int->Int}
 (rule:∀ (i:Int) (t:Tok) (s:Shared) (Q:kz->Shared->uu) (E:kz->Shared->uu),Q (.int (g i) s.toks) { s with toks:=s.toks+1 }->wpAny ze X.A (f (.int i t)) Q E s) :
 Qh X f (rU λi=>.int (g i)):=by
 intro pins s σ H x v Q I rx h;let#[i,rfl,q]:=h;let#[t,rfl]:=rx;exact rule i t s _ _ #[.int (g i),H,I.tok _,#[_,rfl],q]
theorem Ly:Qh X (unaryOp .USub) (rU λi=>.int (-i)):=adU λ_ _ _ _ _ q=>neg_int q
end
noncomputable def aad:V->V->Bool
 |.non,.non=>zO|.non,.int _=>zO|.int _,.non=>zO|.non,.bl _=>zO|.bl _,.non=>zO|.non,.str _=>zO|.str _,.non=>zO
 |.int _,.int _=>zO|.bl _,.bl _=>zO|.str _,.str _=>zO|.nu _,.nu _=>zO
 |.int _,.str _=>zO|.str _,.int _=>zO|.bl _,.str _=>zO|.str _,.bl _=>zO
 |_,_=>zw
def aae:R2:=λx y H Q=>aad x y=zO /\ Q (.bl (decide (x=y))) H
def aaf:R2:=λx y H Q=>aad x y=zO /\ Q (.bl (!decide (x=y))) H
theorem F7 {i j:Int}:decide (V.int i=V.int j)=(i==j):=by
 rw[sy];simp
theorem Lz {i j:Bool}:decide (V.bl i=V.bl j)=(i==j):=by
 rw[sy];simp
theorem F8 {i j:Str}:decide (V.str i=V.str j)=(i==j):=by
 rw[sy];simp
theorem F9 {i j:Array UInt8}:decide (V.nu i=V.nu j)=(i.toList==j.toList):=by
 rw[sy];cases i;cases j;simp
section
variable {a b:Expr} {ta tb tc:TE} 
theorem f9 {Q:VK}{k k':Bool}(I:Inv X pins σ H s) (q:Q (.bl k) H) (e:k=k'):EP X pins σ Q (.bool k') s:=by
 subst e;exact#[.bl k,H,I,rfl,q]
theorem UD:aO X (compareOp .Eq) aae:=by
 intro pins s σ H x y v u Q I rx ry h;let#[hs,q]:=h;cases x with
 |non=>
   cases rx;cases y with
   |non=>cases ry;exact acV zbe
   |bl j=>cases ry;exact acW zbe
   |int j=>let#[t',rfl]:=ry;exact acX zbe
   |str j=>let#[t',rfl]:=ry;exact acY zbe
   |_=>exact absurd (show zw=zO from hs) bY
 |bl i=>
   cases rx;cases y with
   |non=>cases ry;exact acZ zbe
   |bl j=>cases ry;exact eq_bool (f9 I q Lz)
   |str j=>let#[t',rfl]:=ry;exact ac9 zbe
   |_=>exact absurd (show zw=zO from hs) bY
 |int i=>
   let#[t,rfl]:=rx;cases y with
   |non=>cases ry;exact ac0 zbe
   |int j=>let#[t',rfl]:=ry;exact eq_int (f9 I q F7)
   |str j=>let#[t',rfl]:=ry;exact ada zbe
   |_=>exact absurd (show zw=zO from hs) bY
 |str i=>
   let#[t,rfl]:=rx;cases y with
   |non=>cases ry;exact ac1 zbe
   |bl j=>cases ry;exact adb zbe
   |int j=>let#[t',rfl]:=ry;exact ade zbe
   |str j=>let#[t',rfl]:=ry;exact eq_str (f9 I q F8)
   |_=>exact absurd (show zw=zO from hs) bY
 |nu i=>
   let#[t,rfl]:=rx;cases y with
   |nu j=>let#[t',rfl]:=ry;exact PySem.W.eq_bytes (f9 I q F9)
   |_=>exact absurd (show zw=zO from hs) bY
 |_=>cases y<;>exact absurd (show zw=zO from hs) bY
theorem RE:aO X (compareOp .NotEq) aaf:=by
 intro pins s σ H x y v u Q I rx ry h;let#[hs,q]:=h;cases x with
 |non=>
   cases rx;cases y with
   |non=>cases ry;exact ac2 zbe
   |bl j=>cases ry;exact ac3 zbe
   |int j=>let#[t',rfl]:=ry;exact ac4 zbe
   |str j=>let#[t',rfl]:=ry;exact ac5 zbe
   |_=>exact absurd (show zw=zO from hs) bY
 |bl i=>
   cases rx;cases y with
   |non=>cases ry;exact ac6 zbe
   |bl j=>cases ry;exact ne_bool (f9 I q (congrArg not Lz))
   |str j=>let#[t',rfl]:=ry;exact adf zbe
   |_=>exact absurd (show zw=zO from hs) bY
 |int i=>
   let#[t,rfl]:=rx;cases y with
   |non=>cases ry;exact ac7 zbe
   |int j=>let#[t',rfl]:=ry;exact ne_int (f9 I q (congrArg not F7))
   |str j=>let#[t',rfl]:=ry;exact adg zbe
   |_=>exact absurd (show zw=zO from hs) bY
 |str i=>
   let#[t,rfl]:=rx;cases y with
   |non=>cases ry;exact ac8 zbe
   |bl j=>cases ry;exact adh zbe
   |int j=>let#[t',rfl]:=ry;exact adi zbe
   |str j=>let#[t',rfl]:=ry;exact ne_str (f9 I q (congrArg not F8))
   |_=>exact absurd (show zw=zO from hs) bY
 |nu i=>
   let#[t,rfl]:=rx;cases y with
   |nu j=>let#[t',rfl]:=ry;exact PySem.W.ne_bytes (f9 I q (congrArg not F9))
   |_=>exact absurd (show zw=zO from hs) bY
 |_=>cases y<;>exact absurd (show zw=zO from hs) bY
theorem UE:aO X (compareOp .Lt) (ki λi j=>.bl (decide (i<j))):=Hm λ_ _ _ _ _ _ _ q=>lt_int q
theorem UF:aO X (compareOp .LtE) (ki λi j=>.bl (decide (i<=j))):=Hm λ_ _ _ _ _ _ _ q=>le_int q
theorem UG:aO X (compareOp .Gt) (ki λi j=>.bl (decide (j<i))):=Hm λ_ _ _ _ _ _ _ q=>gt_int q
theorem UH:aO X (compareOp .GtE) (ki λi j=>.bl (decide (j<=i))):=Hm λ_ _ _ _ _ _ _ q=>ge_int q
theorem aO.or {r r':R2}(h:aO X f r) (h':aO X f r'):aO X f (λx y H Q=>r x y H Q \/ r' x y H Q):=by
 intro pins s σ H x y v u Q I rx ry q;rcases q with q|q
 .exact h pins s σ H x y v u Q I rx ry q
 .exact h' pins s σ H x y v u Q I rx ry q
theorem adV (b:Expr) (h:op≠.In:=by decide) (h2:op≠.NotIn:=by decide):behindInMarks op b=zw:=by
 have e1:(op==CmpOp.In)=zw:=by cases op<;>first|rfl|exact absurd bz h
 have e2:(op==CmpOp.NotIn)=zw:=by cases op<;>first|rfl|exact absurd bz h2
 cases b<;>simp[behindInMarks,e1,e2]
theorem N0 {r:R2}(ho:aO X (compareOp op) r) (ha:PE X a ta) (hb:PE X b tb) (hm:behindInMarks op b=zw):PE X zcr (yB r ta tb):=by
 intro pins s σ H Q I h;exact XG (Qi ha hb I h λv u s2 x y H2 I2 rx ry q=>ho pins s2 σ H2 x y v u Q I2 rx ry q) hm
noncomputable def aag (t:TE):TT:=λσ H Q=>t σ H λx H'=>∃ k,x=.bl k /\ Q k H'
theorem Ga {r:R2}(ho:aO X (compareOp op) r) (ha:PE X a ta) (hb:PE X b tb) (hm:behindInMarks op b=zw):PT X zcr (aag (yB r ta tb)):=by
 intro pins s σ H Q I h;refine XH (tE zaX λv s1 x H1 I1 r1 q1=>tE (hb pins s1 σ H1 _ I1 q1) λu s2 y H2 I2 r2 q2=>tE (ho pins s2 σ H2 x y v u _ I2 r1 r2 q2) λc s3 z H3 I3 r3 hh=>?_) hm;let#[k,e,q3]:=hh;subst e;cases r3;exact pV #[H3,I3,q3]
def Qj (r r':R2) (ta tb tc:TE):TE:=λσ H Q=>ta σ H λx H1=>tb σ H1 λy H2=>r x y H2 λz H3=>∃ k,z=.bl k /\
 (if k=zO then tc σ H3 λw' H4=>r' y w' H4 Q else Q zag H3)
theorem LA {cj:CmpOp}{r r':R2}(ho:aO X (compareOp op) r) (nz:aO X (compareOp cj) r') (ha:PE X a ta) (hb:PE X b tb) (hc:PE X c tc)
 (hm:lastMarks [op,cj] [b,c]=zw:=by with_unfolding_all rfl):PE X (.Compare a [op,cj] [b,c] pos) (Qj r r' ta tb tc):=by
 intro pins s σ H Q I h;refine Compare_chain (tE zaX λv s1 x H1 I1 r1 q1=>chain_link (tE (hb pins s1 σ H1 _ I1 q1) λu s2 y H2 I2 r2 q2=>tE (ho pins s2 σ H2 x y v u _ I2 r1 r2 q2) λd s3 z H3 I3 r3 hh=>?_)) hm;let#[k,e,q3]:=hh;subst e;cases r3;refine pV ?_;cases k with
 |false=>exact ite_ff #[.bl zw,H3,I3,rfl,q3]
 |true=>exact ite_tt (chain_last (tE (hc pins s3 σ H3 _ I3 q3) λw' s4 z' H4 I4 r4 q4=>nz pins s4 σ H4 y z' u w' Q I4 r2 r4 q4))
theorem LB {cj:CmpOp}{r r':R2}(ho:aO X (compareOp op) r) (nz:aO X (compareOp cj) r') (ha:PE X a ta) (hb:PE X b tb) (hc:PE X c tc)
 (hm:lastMarks [op,cj] [b,c]=zw:=by with_unfolding_all rfl):PT X (.Compare a [op,cj] [b,c] pos) (aag (Qj r r' ta tb tc)):=by
 intro pins s σ H Q I h;refine isTrue_chain (tE zaX λv s1 x H1 I1 r1 q1=>test_link (tE (hb pins s1 σ H1 _ I1 q1) λu s2 y H2 I2 r2 q2=>tE (ho pins s2 σ H2 x y v u _ I2 r1 r2 q2) λd s3 z H3 I3 r3 hh=>?_)) hm;let#[k,e,q3]:=hh;subst e;cases r3;refine pV ?_;cases k with
 |false=>
   let#[k',e',q']:=q3;cases e';exact ite_ff #[H3,I3,q']
 |true=>
   refine ite_tt (test_last (tE (hc pins s3 σ H3 _ I3 q3) λw' s4 z' H4 I4 r4 q4=>tE (nz pins s4 σ H4 y z' u w' _ I4 r2 r4 q4) λd' s5 z2 H5 I5 r5 hh=>?_));let#[k2,e2,q5]:=hh;subst e2;cases r5;exact pV #[H5,I5,q5]
def Qk (K:PySem.W.Frag) (x:V) (H:Hp) (k:Bool):uu:=
 match x with
 |.non=>k=zw
 |.bl b=>k=b
 |.int i=>k=(i != 0)
 |.str y=>y.length<=sizeLine /\ k=((y.length:Int) != 0)
 |.nu y=>y.size<=sizeLine /\ k=((y.size:Int) != 0)
 |.ref p=>(∃ xs,ba K H p xs /\ k=!xs.isEmpty) \/ (∃ xs,aY K H p xs /\ k=!xs.isEmpty) \/ ∃ af,H p=some zcB /\ k=!af.isEmpty
 |_=>False
theorem DW {κ:Type}{af:List (κ×V)}{vs:List (κ×kz)}(r:KV af vs):(!vs.isEmpty)=!af.isEmpty:=by
 cases r<;>rfl
theorem o7 {xs:List V}{its:List kz}(r:Vals xs its):(!its.toArray.isEmpty)=!xs.isEmpty:=by
 cases r<;>simp
theorem uh:(sizeLine:Nat)<2 ^ 63:=by rw[bH];decide
theorem Sr:adS X (λx H Q=>∃ k,Qk X.K x H k /\ Q k H):=by
 intro pins s σ H x v Q I rx h;let#[k,e,q]:=h;have hl:=uh;have hs:sizeLine=16777216:=bH;cases x with
 |non=>
   cases rx;have e':k=zw:=e;subst e';exact truthy_none #[H,I,q]
 |bl b=>
   cases rx;have e':k=b:=e;subst e';exact pV #[H,I,q]
 |int i=>
   let#[t,rfl]:=rx;have e':k=(i != 0):=e;subst e';exact PySem.P.truthy_int #[H,I,q]
 |str y=>
   let#[t,rfl]:=rx;obtain⟨hy,e'⟩:y.length<=sizeLine /\ k=((y.length:Int) != 0):=e;subst e';exact PySem.P.truthy_str zb #[H,I.tok _,q]
 |nu y=>
   let#[t,rfl]:=rx;obtain⟨hy,e'⟩:y.size<=sizeLine /\ k=((y.size:Int) != 0):=e;subst e';exact PySem.W.truthy_bytes zb #[H,I.tok _,q]
 |ref p=>
   cases rx;have e':(∃ xs,ba X.K H p xs /\ k=!xs.isEmpty) \/ (∃ xs,aY X.K H p xs /\ k=!xs.isEmpty) \/ ∃ af,H p=some zcB /\ k=!af.isEmpty:=e;rcases e' with⟨xs,hx,e'⟩|⟨xs,hx,e'⟩|⟨af,hx,e'⟩
   .subst e';let#[its,r,pl,hz]:=I.list hx;have hlen:=r.length;exact wpAny_truthy_list pl.isList (by erw[bf];lia) #[H,I.tok _,by rw[o7 r];exact q]
   .subst e';let#[its,r,pl,hz]:=I.tuple hx;have hlen:=r.length;exact truthy_tuple pl (by erw[bf];lia) #[H,I.tok _,by rw[o7 r];exact q]
   .subst e';obtain⟨hz,hS,vs,r,m⟩:af.length<=sizeLine /\ (p==sysModules)=false /\ ∃ vs,KV af vs /\ s.heap.DictOf (dt X.prog X.w) p vs:=I.aj p _ hx;have hlen:af.length=vs.length:=Paired.length r;exact wpAny_truthy_dict hS m zb #[H,I.tok _,by rw[DW r];exact q]
 |_=>exact(show False from e).elim
theorem LC (ha:PE X a ta) (he:∀ whole,isTrue a X.env whole=(do let v <-whole;standAt a.pos;holding [v] (truthy v))) :
 PT X a (λσ H Q=>ta σ H λx H'=>∃ k,Qk X.K x H' k /\ Q k H'):=by
 intro pins s σ H Q I h;exact Y7 (tE zaX λv s1 x H1 I1 r1 q1=>Sr pins s1 σ H1 x v Q I1 r1 q1) (he _)
theorem DX:aO X (binaryOp .Add) (λx y H Q=>∃ i j,x=.str i /\ y=.str j /\ i.length+j.length<=sizeLine /\ Q (.str (i++j)) H):=by
 intro pins s σ H x y v u Q I rx ry h;let#[i,j,rfl,rfl,hz,q]:=h;let#[t,rfl]:=rx;let#[t',rfl]:=ry;exact add_str (λt' tk=>#[.str (i++j),H,I.tok _,#[_,rfl],q]) hz
theorem vals1 {x:V}(r:Vals [x] us):∃ u,us=[u] /\ RelV x u:=by
 cases r with
 |cons r1 r2=>cases r2;exact#[_,rfl,r1]
theorem vals2 {x y:V}(r:Vals [x,y] us):∃ u w',us=[u,w'] /\ RelV x u /\ RelV y w':=by
 cases r with
 |cons r1 r2=>
   cases r2 with
   |cons r3 r4=>cases r4;exact#[_,_,rfl,r1,r3]
theorem Jh (hc:X.calm=zO):dD X (.builtin "max") (λxs H Q=>∃ i j,xs=[.int i,.int j] /\ Q zcE H):=by
 intro pins s σ H xs us Q I r h;let#[i,j,rfl,q]:=h;let#[u,w',rfl,#[t,rfl],#[t',rfl]]:=vals2 r;refine max_two_ints zbN λh' tk k=>#[_,H,I.kept k,?_,q];by_cases hj:j>i
 .rw[if_pos hj,if_pos hj];exact#[_,rfl]
 .rw[if_neg hj,if_neg hj];exact#[_,rfl]
theorem Ji (hc:X.calm=zO):dD X (.builtin "min") (λxs H Q=>∃ i j,xs=[.int i,.int j] /\ Q zcF H):=by
 intro pins s σ H xs us Q I r h;let#[i,j,rfl,q]:=h;let#[u,w',rfl,#[t,rfl],#[t',rfl]]:=vals2 r;refine min_two_ints zbN λh' tk k=>#[_,H,I.kept k,?_,q];by_cases hj:j<i
 .rw[if_pos hj,if_pos hj];exact#[_,rfl]
 .rw[if_neg hj,if_neg hj];exact#[_,rfl]
end
structure Ql (h:Heap) (x dx C:Addr) (mA:Str->Option kz):uu where
 obj:h.get? x=some (PySem.W.instObj C dx)
 ns:h.Ns1 dx mA
 ne:dx≠x
theorem Jj {h:Heap}{dx:Addr}(n:h.Ns1 dx mA):∃ od,h.get? dx=some od /\ ∀ name,PySem.W.lookIn name od=some (mA name):=by
 let#[o,es,ep,ho,hd,hk,_,hm]:=n;refine#[o,ho,λname=>?_];have e:=hm name;unfold nsFind findBy at e;rw[<-Array.find?_toList]at e;unfold PySem.W.lookIn;rw[hd];dsimp only;split
 .ext y q;rw[q]at e;exact congrArg some e
 .ext q;rw[q]at e;have a:es.toList.any (·.refKey)=zw:=by
   rw[List.any_eq_false];intro y hy;let#[z,t,adW]:=hk y (Array.mem_toList_iff.mp hy);simp[DictEntry.refKey,adW]
  have a':¬ es.toList.any (·.refKey)=zO:=by rw[a];exact bY
  rw[if_neg a'];exact congrArg some e
theorem Ql.look {h:Heap}{x dx C:Addr}(I:Ql h x dx C mA):∃ od,PySem.W.InstAt h x (PySem.W.instObj C dx) C (some od) /\ ∀ name,PySem.W.lookIn name od=some (mA name):=
 let ⟨od,ho,hl⟩:=Jj I.ns
 #[od,#[I.obj,rfl,rfl,ho],hl]
section
variable {x dx C f:Addr} {name:Str} {v:kz}
end
theorem kO.some_of {o:Option kz}(r:kO (some v) o):∃ u,o=some u /\ RelV v u:=by
 cases o with
 |none=>exact(show False from r).elim
 |some u=>exact#[u,rfl,r]
theorem kO.none_of {o:Option kz}(r:kO zy o):o=zy:=by
 cases o with
 |none=>rfl
 |some u=>exact(show False from r).elim
section
variable {h:Heap} {C dx:Addr} {fs adq:List (Str × V)}
theorem N1 (aj:bQ P w H h) (e:H a=some (.ins C dx fs)):∃ mA,Ql h a dx C mA /\ (∀ f,kO (fs.lookup f) (mA f)) /\ PySem.Within mA (fs.map (·.1)) /\ fs.length<=1000 /\ H dx=some (.own a):=by
 let#[d,z,ne,ob,mA,n,r,q]:=(show a9 P w H h a (.ins C dx fs) from aj a _ e);exact#[mA,#[ob,n,ne],r,q,z,d]
end
structure Qm (K:PySem.W.Frag) (C:Addr):uu where
 pg:PySem.W.plainGet K C Str.empty=zO
 hd:PySem.W.hasDictIn K C=zO
 po:PySem.W.plainOver K C=zO
 sa:PySem.W.findIn K zbp "__setattr__"=some (some (.builtin "object.__setattr__"))
theorem Qm.get {C:Addr}(c:Qm K C) (f:Str):PySem.W.plainGet K C f=zO:=c.pg
section
variable {C dx:Addr} {fs:List (Str × V)} {f:Str} 
end
section
variable {o value:Expr} {f:Str} {aah:Pos} {ta tv:TE}
end
section
variable {c:kz} {b:Bool}
inductive nC (K:PySem.W.Frag) (H:Hp):V->kz->uu where
 |non:nC K H .non (.type "NoneType")
 |bl (x:Bool):nC K H (.bl x) (.type "bool")
 |int (i:Int):nC K H zaS (.type "int")
 |str (x:Str):nC K H (.str x) (.type "str")
 |uc (x:UInt64):nC K H (.uc x) (.type "float")
 |lst {a:Addr}{xs:List V}(e:H a=some zb0):nC K H za3 (.type "list")
 |eX {a:Addr}{o:Obj}{xs:List V}(e:H a=some (.eX o zb0)):nC K H za3 (.type "list")
 |tup {a:Addr}{xs:List V}(e:H a=some (.tup xs)):nC K H za3 (.type "tuple")
 |dK {a:Addr}{af:List (Key×V)}(e:H a=some zcB):nC K H za3 (.type "dict")
 |dT {a:Addr}{af:List (List Key×V)}(e:H a=some (.dT af)):nC K H za3 (.type "dict")
 |ins {a C dx:Addr}{fs:List (Str×V)}(e:H a=some (.ins C dx fs)) (cl:Qm K C) (ha:PySem.W.findIn K zbp "__class__"=some (some zaK))
  (hn:PySem.W.specialIn K zaK "__get__"=some (some zcC)) (aai:PySem.W.takesIn K zaK=some zO)
  (hm:PySem.W.mroIn K C (.type "object")=some zO):nC K H za3 zbp
theorem Jk {x:V}{t:kz}(I:Inv X pins σ H s) (rx:RelV x u) (ty:nC X.K H x t) (e:PySem.W.kitOne X.K t c=some b) (h:∀ tk,Q (.bool b) { s with toks:=tk }) :
 wpAny ze A (call (.builtin "isinstance") [u,c]) Q E s:=by
 cases ty with
 |non=>cases (show u=Value.none from rx);exact pY PySem.W.kitx_none I.cE True.intro e (λz=>nomatch z) h
 |bl y=>cases (show u=Value.bool y from rx);exact pY Zp I.cE True.intro e (λz=>nomatch z) h
 |int i=>let#[t,q]:=(show ∃ t,u=Value.int i t from rx);cases q;exact pY PySem.W.kitx_int I.cE True.intro e (λz=>nomatch z) h
 |str y=>let#[t,q]:=(show ∃ t,u=Value.str y t from rx);cases q;exact pY PySem.W.kitx_str I.cE True.intro e (λz=>nomatch z) h
 |uc y=>let#[t,q]:=(show ∃ t,u=Value.float y t from rx);cases q;exact pY PySem.W.kitx_float I.cE True.intro e (λz=>nomatch z) h
 |@lst a xs ea=>
   cases (show u=Value.ref a from rx);let#[_,_,n,_,h1]:=(show a9 X.prog X.w H s.heap a zb0 from I.aj a _ ea);exact pY Zq I.cE #[_,h1,rfl] e (λz=>nomatch z) h
 |@eX a ob xs ea=>
   cases (show u=Value.ref a from rx);let#[_,_,_,n,_,h1]:=(show a9 X.prog X.w H s.heap a (.eX ob zb0) from I.aj a _ ea);exact pY Zq I.cE #[_,h1,rfl] e (λz=>nomatch z) h
 |@tup a xs ea=>
   cases (show u=Value.ref a from rx);let#[_,_,_,p]:=(show a9 X.prog X.w H s.heap a (.tup xs) from I.aj a _ ea);let#[o,h1,h2,_]:=p;exact pY Zr I.cE #[o,h1,h2] e (λz=>nomatch z) h
 |@dK a af ea=>
   cases (show u=Value.ref a from rx);let#[_,_,vs,_,p]:=(show a9 X.prog X.w H s.heap a zcB from I.aj a _ ea);let#[o,es,ep,h1,h2,_]:=p;exact pY Zs I.cE #[o,h1,h2.1] e (λz=>nomatch z) h
 |@dT a af ea=>
   cases (show u=Value.ref a from rx);let#[_,_,xs,_,o,es,ep,h1,h2,_]:=(show a9 X.prog X.w H s.heap a (.dT af) from I.aj a _ ea);exact pY Zs I.cE #[o,h1,h2.1] e (λz=>nomatch z) h
 |@ins a C dx fs ea cl ha hn aai hm=>
   cases (show u=Value.ref a from rx);let#[mA,O,_]:=N1 I.aj ea;let#[od,J,_]:=O.look;exact pY (PySem.W.kitx_own (cl.get _) cl.hd ha hn aai hm) I.cE J e (λz=>nomatch z) h
end
structure bV (k:Nat) (A:Around):uu where
 hd:A.handled=zy
 dp:A.depth+3*k+5<recursionLimit
 un:A.units+16*k+200<cLine
 gd:A.guards=some []
theorem bV.mono {k:Nat}(r:bV k A) (h:j<=k):bV j A:=#[r.hd,by have:=r.dp;lia,by have:=r.un;lia,r.gd]
theorem bV.deeper {k:Nat}{A:Around}(r:bV (k+1) A) (env:Env):bV k (A.deeper env):=
 #[r.hd,by have:=r.dp;show A.depth+1+3*k+5<_;lia,by have:=r.un;show A.units+3+16*k+200<_;lia,by first|exact r.gd|(rw[<-r.gd];first|rfl|simp[Around.under,Code.isGuard,guardIds])]
theorem bV.depth {k:Nat}{A:Around}(r:bV k A):A.depth<recursionLimit:=by have:=r.dp;lia
theorem bV.units {k:Nat}{A:Around}(r:bV k A):A.units+64<cLine:=by have:=r.un;lia
def Hn:TA:=λ_ H Q=>Q [] H
def Ho (ta:TE) (tr:TA):TA:=λσ H Q=>ta σ H λx H1=>tr σ H1 λxs H2=>Q (x::xs) H2
section
variable {te:TE} {t:TA} 
theorem ic:PA X [] Hn:=λ_ _ _ _ H Q I h=>ym #[[],H,I,.nil,h]
theorem f8 (ha:PE X e te) (hr:PA X es t) (hs:starEach (e::es) X.env=zac::starEach es X.env:=by rfl):PA X (e::es) (Ho te t):=by
 intro pos pins s σ H Q I h;rw[hs];show wpAny _ _ (spliced (zac::backTo pos zbm)) _ _ s;refine uZ (tE zaX λu s1 x H1 I1 r1 q1=>?_);exact tA (hr pos pins s1 σ H1 _ I1 q1) λus s2 xs H2 I2 r2 q2=>#[x::xs,H2,I2,.cons r1 r2,q2]
def adX (t:TA):TE:=λσ H Q=>t σ H λxs H1=>xs.length<=sizeLine /\ ∀ p,H1 p=zy->Q (.ref p) (upd H1 p (.tup xs))
def adY (t:TA):TE:=λσ H Q=>t σ H λxs H1=>xs.length<=sizeLine /\ ∀ p,H1 p=zy->Q (.ref p) (upd H1 p zb0)
theorem BB {x1}(h:PA X es t):PE X (.Tuple es x1 pos) (adX t):=by
 intro pins s σ H Q I hq;refine wpAny_Tuple_spliced (tA (h pos pins s σ H _ I hq) λus s1 xs H1 I1 r ⟨z,q⟩=>#[by rw[<-r.length];exact z,?_]);have hf:H1 s1.heap.objs.size=zy:=I1.aj.fresh (au _);refine#[.ref s1.heap.objs.size,upd H1 s1.heap.objs.size (.tup xs),I1.laid (t':=s1.toks) (λb u e=>aK _ e) (au _) ?_,rfl,q _ hf];exact#[z,us,r,#[_,bw _ bz,rfl,_,rfl]]
theorem o8 (h:PA X es t):PE X (.List es pos) (adY t):=by
 intro pins s σ H Q I hq;refine wpAny_List_spliced (tA (h pos pins s σ H _ I hq) λus s1 xs H1 I1 r ⟨z,q⟩=>#[by rw[<-r.length];exact z,?_]);have hf:H1 s1.heap.objs.size=zy:=I1.aj.fresh (au _);refine#[.ref s1.heap.objs.size,upd H1 s1.heap.objs.size zb0,I1.laid (t':=s1.toks) (λb u e=>aK _ e) (au _) ?_,rfl,q _ hf];exact#[z,us,0,r,bw _ bz]
end
abbrev Sp:=List V->Hp->VK->XK->uu
abbrev nX:=List Env->Hp->Shared->XK->kz->Shared->uu
structure wV (P:Program) (w:World) (K:PySem.W.Frag) (mg:Str->Option kz) (base:Heap) (A:Around) (outer:List Env) (s:Shared) (H:Hp):uu where
 frames:A.frames=some outer
 mod:Mod K mg base
 bs:∀ b o,base.get? b=some o->s.heap.get? b=some o /\ H b=zy
 sN:base.objs.size<=s.heap.objs.size
 kP:s.heap.FunFrames base outer
 rE:∀ b∈dO outer,H b=zy
 aj:bQ P w H s.heap
 bare:AllBare s.gens
def CE (outer:List Env) (P:Program) (w:World) (H:Hp) (s:Shared) (Q:VK) (u:kz) (s':Shared):uu:=
 ∃ v H',s'.os=s.os /\ AllBare s'.gens /\ Un (dO outer) [] H H' s.heap s'.heap /\ bQ P w H' s'.heap /\ RelV v u /\ Q v H'
def CR (CX:nX) (outer:List Env) (P:Program) (w:World) (H:Hp) (s:Shared) (Q:VK) (E:XK) (r:Result) (s':Shared):uu:=
 match r with
 |.ok (.ret u)=>CE outer P w H s Q u s'
 |.ok _=>False
 |.error e=>CX outer H s E e s'
structure eM (P:Program) (w:World) (K:PySem.W.Frag) (mg:Str->Option kz) (base:Heap) (CX:nX) (k:Nat) (f:Addr) (fd:FuncData) (ps:List Str) (sp:Sp):uu where
 len:∀ vs H Q E,sp vs H Q E->vs.length=ps.length
 run:∀ (A:Around) (outer:List Env) (s:Shared) (H:Hp) (args:Args) (us:List kz) (vs:List V) (Q:VK) (E:XK),bV k A->wV P w K mg base A outer s H->BindsTo s fd args (ps.zip us)->Vals vs us->sp vs H Q E ->
  codeAny (model P w) A (.call zb1 args) (CR CX outer P w H s Q E) s
theorem eM.mono {P:Program}{w:World}{K:PySem.W.Frag}{mg:Str->Option kz}{base:Heap}{CX:nX}{j k:Nat}{f:Addr}{fd:FuncData}{ps:List Str}{sp:Sp}(F:eM P w K mg base CX j f fd ps sp) (h:j<=k) :
 eM P w K mg base CX k f fd ps sp:=#[F.len,λA outer s H args us vs Q E hr=>F.run A outer s H args us vs Q E (hr.mono h)]
section
variable {s':Shared}
theorem Inv.aaj (I:Inv X pins σ H s):wV X.prog X.w X.K X.mg X.base X.A X.stack s H:=
 #[I.ok.frames,I.ok.mod,I.bs,br I.ok.sN I.sz,I.stack,I.K8,I.aj,I.bare]
theorem Inv.after {Q:VK}(I:Inv X pins σ H s) (h:CE X.stack X.prog X.w H s Q u s'):EP X pins σ Q u s':=by
 let#[v,H',os,bare,un,aj,r,q]:=h;let#[hh,g,d,t,adZ]:=s';obtain rfl:adZ=s.os:=os;exact#[v,H',I.call (h':=hh) (g':=g) (d':=d) (t':=t) (ch:=[]) un aj bare (λb z=>absurd z zf),r,q]
end
def Hq (sp:Sp) (pH:List V) (E:XK) (t:TA):TE:=λσ H Q=>t σ H λvs H1=>sp (vs++pH) H1 Q E
def Binds (K:PySem.W.Frag) (fd:FuncData) (ps:List Str) (ds:List kz):uu:=
 ∀ (s:Shared) (us:List kz),K.In s.heap->(us++ds).length=ps.length->BindsTo s fd #[us,[]] (ps.zip (us++ds))
theorem Binds.all {ps:List Str}(h:∀ us:List kz,us.length=ps.length->bindArgs fd #[us,[]]=pure (ps.zip us)):Binds K fd ps []:=λs us _ hl=>by
 rw[hZ]at hl ⊢;exact .of_eq (h us hl)
def Passes (CX:nX) (X:Cx) (E:XK):uu:=∀ (pins:List (Addr×Obj)) (σ:St) (H:Hp) (s:Shared) (e:kz) (s':Shared),Inv X pins σ H s->CX X.stack H s E e s'->X.xe e s'
section
variable {CX:nX} {k:Nat} {f C:Addr} {ps:List Str} {sp:Sp} {pH:List V} {ds:List kz} {E:XK} {m:Str} {p:Pos} {o:Expr} {ta:TE} {t:TA}
theorem Ss {Q:VK}(F:eM X.prog X.w X.K X.mg X.base CX k f fd ps sp) (hr:bV k X.A) (hb:Binds X.K fd ps ds) (hd:Vals pH ds) (hx:Passes CX X E)
 (I:Inv X pins σ H s) (r:Vals vs us) (h:sp (vs++pH) H Q E):wpAny ze X.A (call zb1 us) zaR X.xe s:=by
 have r2:Vals (vs++pH) (us++ds):=r.append hd;have hl:(us++ds).length=ps.length:=by rw[<-r2.length];exact F.len _ _ _ _ h
 refine wpAny_call (xS (F.run X.A X.stack s H #[us,[]] (us++ds) (vs++pH) Q E hr I.aaj (hb s us I.cE hl) r2 h) λr s' hq=>?_);cases r with
 |error e=>exact hx pins σ H s e s' I hq
 |ok fl=>
   cases fl with
   |ret u=>exact I.after hq
   |next=>exact False.elim hq
   |brk=>exact False.elim hq
   |cont=>exact False.elim hq
theorem Gb (F:eM X.prog X.w X.K X.mg X.base CX k f fd ps sp) (hr:bV k X.A) (hg:Gl X x) (hm:X.mg x=some zb1) (hk:PySem.W.keepIn X.K zb1=zO) (hb:Binds X.K fd ps ds) (hd:Vals pH ds) (hx:Passes CX X E)
 (ha:PA X (e::es) t) (cu:(x==("__debug__":Str))=zw:=by decide) (he:starEach (e::es) X.env=zac::starEach es X.env:=by rfl) (eZ:(backTo pos zbm).any (·.1)=zw:=by rfl) :
 PE X zP (Hq sp pH E t):=by
 intro pins s σ H Q I h;refine sq (oI I hg hm ?_ cu);refine Zt (h₀:=X.base) I.ok.mod.wK hk (tA za4 λus s1 vs H1 I1 r q=>#[I1.cE,?_]) he eZ;exact Ss F hr hb hd hx I1 r q
end
section
variable {CX:nX} {k:Nat} {f C:Addr} {ps ks:List Str} {sp:Sp} {E:XK} {m:Str} {p ail:Pos} {o:Expr} {aim:List Keyword} {te ta:TE} {t tk:TA} {nm:Option Str}
variable {g:List kz -> List kz -> List kz} {gV:List V -> List V -> List V}
end
structure qa (N P:List Str) (sc:Scope):uu where
 kind:sc.kind=.function
 co:sc.isCoroutine=zw
 gen:sc.isGenerator=zw
 nd:N.Nodup
 pre:N.take P.length=P
 par:∀ x∈P,sc.names.lookup x=some .local \/ sc.names.lookup x=some .cell
 ad0:∀ y∈sc.names,y.2≠.free
theorem A4 {kindOf:Str->Option NameKind}{x:Str}:∀ {binds:List (Str×kz)}{m:Str->Option kz},(∀ v,(x,v)∉binds)->bindL kindOf binds m x=m x
 |[],_,_=>rfl
 | (n,v)::r,m,h=>by
   unfold bindL;rw[A4 λw hw=>h w (bL _ hw)];split
   .have:x≠n:=by rintro rfl;exact h v bK
    simp[this]
   .rfl
theorem A5 {kindOf:Str->Option NameKind}{x:Str}:∀ {binds:List (Str×kz)}{m:Str->Option kz},(∀ v,(x,v)∉binds)->bindC kindOf binds m x=m x
 |[],_,_=>rfl
 | (n,v)::r,m,h=>by
   unfold bindC;rw[A5 λw hw=>h w (bL _ hw)];split
   .rfl
   .have:x≠n:=by rintro rfl;exact h v bK
    simp[this]
theorem A6 {kindOf:Str->Option NameKind}{x:Str}{v:kz}:∀ {P:List Str}{vs:List kz}{i:Nat}{m:Str->Option kz},P.Nodup->P[i]?=some x->vs[i]?=some v->kindOf x=some .local ->
 bindL kindOf (P.zip vs) m x=some v
 |[],_,_,_,_,h,_,_=>by simp at h
 |_::_,[],_,_,_,_,h,_=>by simp at h
 | p::P,w::vs,0,m,nd,h1,h2,hk=>by
   simp at h1 h2;subst h1;subst h2;show bindL kindOf ((p,w)::P.zip vs) m p=_;unfold bindL;rw[A4 λv hv=>(sI.mp nd).1 (EZ hv).1,if_pos hk];simp
 | p::P,w::vs,i+1,m,nd,h1,h2,hk=>by
   show bindL kindOf ((p,w)::P.zip vs) m x=_;unfold bindL;exact A6 (i:=i) (sI.mp nd).2 (by simpa using h1) (by simpa using h2) hk
theorem A7 {kindOf:Str->Option NameKind}{x:Str}{v:kz}:∀ {P:List Str}{vs:List kz}{i:Nat}{m:Str->Option kz},P.Nodup->P[i]?=some x->vs[i]?=some v->kindOf x≠some .local ->
 bindC kindOf (P.zip vs) m x=some v
 |[],_,_,_,_,h,_,_=>by simp at h
 |_::_,[],_,_,_,_,h,_=>by simp at h
 | p::P,w::vs,0,m,nd,h1,h2,hk=>by
   simp at h1 h2;subst h1;subst h2;show bindC kindOf ((p,w)::P.zip vs) m p=_;unfold bindC;rw[A5 λv hv=>(sI.mp nd).1 (EZ hv).1,if_neg hk];simp
 | p::P,w::vs,i+1,m,nd,h1,h2,hk=>by
   show bindC kindOf ((p,w)::P.zip vs) m x=_;unfold bindC;exact A7 (i:=i) (sI.mp nd).2 (by simpa using h1) (by simpa using h2) hk
noncomputable def start (N:List Str) (vs:List V):St:=vs.map some++List.replicate (N.length-vs.length) zy
noncomputable def nY (CX:nX) (P:Program) (w:World) (K:PySem.W.Frag) (mg:Str->Option kz) (base:Heap) (N:List Str) (qual:Str) (scope:Scope) (f:Addr) (cd:kz) (A:Around) (outer:List Env) (s:Shared) (H:Hp) (E:XK):Cx where
 prog:=P
 w:=w
 K:=K
 mg:=mg
 base:=base
 A:=A.deeper (envOfC qual scope s.heap.objs.size f cd)
 N:=N
 s₀:=s
 H₀:=H
 env:=envOfC qual scope s.heap.objs.size f cd
 outer:=outer
 stack:=envOfC qual scope s.heap.objs.size f cd::outer
 ex:=[]
 calm:=zO
 fn:=λ_=>zO
 pn:=[]
 xe:=λe s'=>wpAny (model P w) (A.deeper (envOfC qual scope s.heap.objs.size f cd)) (leaving (envOfC qual scope s.heap.objs.size f cd) e) (λ_ Qn=>CX outer H s E e Qn) (λe' Qn=>CX outer H s E e' Qn) s'
theorem o9 {sc:Scope}(h:sc.names.lookup x=some .cell):∃ c,(cellsFrom n sc.names []).lookup x=some c:=by
 have q:=KS sc.names n [] (.inl h);exact Option.isSome_iff_exists.mp q
theorem A8 {CX:nX}{ps:List Str}{scope:Scope}{f:Addr}{cd:kz}{s1:Shared}{E:XK} 
 (S:qa N ps scope) (hd:A.handled=zy) (e0:wV P w K mg base A outer s H) (hl:vs.length=ps.length) (r:Vals vs us)
 (x:InCallC s s.heap.objs.size (bindL (envOfC qual scope s.heap.objs.size f cd).kindOf (ps.zip us) λ_=>zy) (cellsFrom zU scope.names []) (bindC (envOfC qual scope s.heap.objs.size f cd).kindOf (ps.zip us) λ_=>zy) s1) :
 Inv (nY CX P w K mg base N qual scope f cd A outer s H E) [] zcS H s1:=by
 have eZ:ps.length<=N.length:=by have:=congrArg List.length S.pre;rw[wx]at this;lia
 let#[h1,tk,rfl,hk]:=x.done;have yC:∀ b:Addr,b∉(nY CX P w K mg base N qual scope f cd A outer s H E).ex:=λb z=>absurd (show b∈([]:List Addr) from z) zf;refine#[#[e0.mod,S.kind,rfl,rfl,au _,λy z c h1 h2=>?_,λy hy=>?_,λy c _ h=>?_,λ_=>hd,ZP e0.frames,.inr #[rfl,rfl],λb z=>absurd z (yC b),e0.bs,e0.sN,λb _ _=>yC b,λb z=>absurd z (yC b),e0.kP,e0.rE],
  rfl,e0.bare,Un.kept hk,#[_,x.toInCall.ns,λi y v h1 h2 h3=>?_],λy c h=>#[_,x.cell y c h],e0.aj.fresh (au _),λy c h=>?_,λp hp=>absurd (show p∈([]:List (Addr×Obj)) from hp) zf,e0.aj.kept hk,?_]
 .exact XQ x.apart (nS h1) (nS h2)
 .have hy:scope.names.lookup y=some .cell \/ scope.names.lookup y=some .free:=hy;rcases hy with hy|hy
  .exact o9 hy
  .exact absurd bz (S.ad0 _ (nS hy))
 .exact rf (x.above y c (nS h))
 .have hi:i<vs.length:=by
   unfold start at h2;by_cases hi:i<vs.length
   .exact hi
   .rw[dk (by simpa using hi)]at h2;rw[Yv]at h2;split at h2<;>cases h2
  have ha:vs[i]?=some v:=by
   unfold start at h2;rw[dn (by simpa using hi),ke]at h2;cases e:vs[i]? with
   |none=>rw[e]at h2;cases h2
   |some a=>rw[e]at h2;cases h2;rfl
  let#[u,hu,rv]:=r.get ha;have hp:ps[i]?=some y:=by
   rw[<-S.pre,Yw zb];exact h1
  have aak:ps.Nodup:=by rw[<-S.pre];exact S.nd.sublist (Yx _ _)
  refine#[u,rv,?_];rcases S.par y (yc hp) with k|k
  .exact .inl #[k,A6 aak hp hu k]
  .let#[c,e]:=o9 (n:=s.heap.objs.size+1) k;refine .inr #[.inl k,c,e,?_];have q:=x.cell y c e;rw[A7 aak hp hu (by show scope.names.lookup y≠_;rw[k];decide)]at q;exact q
 .exact e0.aj.fresh (rf (x.above y c (nS h)))
 .unfold start;show _=N.length;rw[cJ,aS,Ku];lia
theorem RF {CX:nX}{k:Nat}{f:Addr}{name:Str}{params:Arguments}{body:List Stmt}{scope:Scope}{dV kV doc pm cdv ct oc:kz}{an od:Option Addr}
 {ps:List Str}{sp:Sp}(lk:K.lookup f=some #[oc,od,.func za2,pE]) (dg:PySem.W.codeIn K cdv qual=zO) (S:qa N ps scope)
  (len:∀ vs H Q E,sp vs H Q E->vs.length=ps.length)
  (kj:∀ (A:Around) (outer:List Env) (s:Shared) (H:Hp) (vs:List V) (Q:VK) (E:XK),bV k (A.deeper (envOfC qual scope s.heap.objs.size f cdv))->sp vs H Q E ->
   ∃ t,cV zcJ body t /\ t { nx:=λ_ H'=>Q .non H',rt:=Q } zcS H) :
  eM P w K mg base CX (k+1) f za2 ps sp:=by
  refine#[len,λA outer s H args us vs Q E hr e0 hb r pI=>?_];have hl:=len _ _ _ _ pI;have KX:K.In s.heap:=e0.mod.wK.keeps λb o e=>(e0.bs b o e).1;have lim:s.heap.NoLimit:=e0.mod.nolimit.keeps λb o e=>(e0.bs b o e).1;have Qo:∀ y∈ps.zip us,scope.names.lookup y.1=some .local \/ (scope.names.lookup y.1=some .cell /\ ((cellsFrom zU scope.names []).lookup y.1).isSome=zO):=λ⟨n,v⟩ hy=>by
   rcases S.par n (EZ hy).1 with q|q
   .exact .inl q
   .exact .inr #[q,KS _ _ _ (.inl q)]
  refine XR hr.depth (KX _ _ lk) bz S.co S.gen bz (Zu KX dg) (hb _ _ _ _ ?_);refine XS S.kind Qo λenv he s1 x=>?_;subst he;refine#[lim.keeps x.toInCall.keep,XT ?_];let#[t,ht,hq]:=kj A outer s H vs Q E (hr.deeper _) pI;have I:Inv zcJ [] zcS H s1:=A8 S hr.hd e0 hl r x;refine cC (ht [] s1 zcS H _ I hq) (λfl s' hs=>?_) λe s' hs=>hs;have fin:∀ {σ':St}{H':Hp}{v:V}{u:kz},Inv zcJ [] σ' H' s'->RelV v u->Q v H'->CE outer P w H s Q u s' :=
   λ{σ' H' v u} J rv q=>#[v,H',J.os,J.bare,J.base,J.aj,rv,q]
  cases fl with
  |ret u=>
    let#[v,σ',H',J,rv,q]:=hs;exact fin J rv q
  |next=>
    let#[σ',H',J,q]:=hs;exact fin (v:=V.non) (u:=Value.none) J bz q
  |brk=>
    let#[_,_,_,q]:=hs;exact False.elim q
  |cont=>
    let#[_,_,_,q]:=hs;exact False.elim q
end L2
variable {CX:L2.nX}{sp:L2.Sp}
namespace L2
section
variable {p:Pos} {t:TA} {id T:String} {r:List V -> Hp -> VK -> uu}
def Hr (r:List V->Hp->VK->uu) (t:TA):TE:=λσ H Q=>t σ H λvs H1=>r vs H1 Q
theorem iU (hc:dD X zcf r) (hg:Gl X x) (hm:X.mg x=zy) (hv:bootBuiltins x=some zcf) (ha:PA X (e::es) t) (hn:x ≠ "__name__":=by decide) (cu:(x==("__debug__":Str))=zw:=by decide)
 (he:starEach (e::es) X.env=zac::starEach es X.env:=by rfl) (eZ:(backTo pos zbm).any (·.1)=zw:=by rfl):PE X zP (Hr r t):=by
 intro pins s σ H Q I h;refine sq (jj I hg hm hv ?_ hn cu);exact acE (tA za4 λus s1 vs H1 I1 r1 q1=>hc pins s1 σ H1 vs us Q I1 r1 q1) he eZ
theorem Jl (hc:dD X (.type T) r) (hg:Gl X x) (hm:X.mg x=zy) (hv:bootBuiltins x=some (.type T)) (ha:PA X (e::es) t) (hn:x ≠ "__name__":=by decide) (cu:(x==("__debug__":Str))=zw:=by decide)
 (he:starEach (e::es) X.env=zac::starEach es X.env:=by rfl) (eZ:(backTo pos zbm).any (·.1)=zw:=by rfl):PE X zP (Hr r t):=by
 intro pins s σ H Q I h;refine sq (jj I hg hm hv ?_ hn cu);exact yj (tA za4 λus s1 vs H1 I1 r1 q1=>hc pins s1 σ H1 vs us Q I1 r1 q1) he eZ
end
end L2
namespace HT
noncomputable def lexLt:List Int->List Int->Bool
 |[],[]=>zw
 |[],_::_=>zO
 |_::_,[]=>zw
 |x::xs,y::ys=>if x=y then lexLt xs ys else decide (x<y)
theorem DY (x y:Int) (xs ys:List Int):lexLt (x::xs) (y::ys)=if x=y then lexLt xs ys else decide (x<y):=rfl
theorem AO:lexLt [] []=zw:=rfl
theorem Aa (y:Int) (ys:List Int):lexLt [] (y::ys)=zO:=rfl
theorem Ab (x:Int) (xs:List Int):lexLt (x::xs) []=zw:=rfl
theorem Ce (A:Around) (s:Shared) (a:Int) (t:Tok) (c:Int) (u:Tok):∃ e,SeqAt.EqAt A s (.int a t) (.int c u) e /\ (e=zO ↔ a=c):=
 #[(a==c),ZS a t c u,by simp]
theorem LD (A:Around) (s:Shared) (a:Int) (t:Tok) (c:Int) (u:Tok) (prog:Program) (w:World) (E:kz->Shared->uu) (Q:kz->Shared->uu) (h:Q (.bool (decide (a<c))) s) :
 wpAny zg A (richCompare .Lt (.int a t) (.int c u)) Q E s:=
 (acF h:wpAny zg A (compareOp .Lt (.int a t) (.int c u)) Q E s)
section
open PySem.SeqAt
open PySem.AutoSeq1 (wpAny_loadPart')
open PySem.MeetsSeq PySem.MeetsSeq2 PySem.MeetsSeq3
theorem AQ (l b:Addr) (items items2:Array kz) (n n2:Nat) (dd qb:Option Addr) (sl qc:Array (Option kz)) (ns ms:List Int) (hi:IntsAre items.toList ns) (hj:IntsAre items2.toList ms) :
 Meets (Builtin.«tuple.__lt__» #[[.ref l,.ref b],[]])
  (λ_ R s=>s.heap.get? l=some { cls:=.type "tuple",dict:=dd,data:=.seq items n,slots:=sl } /\ s.heap.get? b=some { cls:=.type "tuple",dict:=qb,data:=.seq items2 n2,slots:=qc } /\
   R (.ok (.ret (.bool (lexLt ns ms)))) s):=
 .of_wp λprog w A R s h=>by
  let#[hp,g,d,tk,os]:=s;let#[hl,hb,h]:=h;have f2:=ZT;have z1:items.size=ns.length:=by rw[<-hi.length];simp
  have z2:items2.size=ms.length:=by rw[<-hj.length];simp
  wp_walk using wpAny_loadPart' hl,wpAny_loadPart' hb,XU _ (λrest b s'=>b.1=zy /\ s'=#[hp,g,d,tk,os] /\ ∃ (vs ws:List kz) (aU eN:List Int),rest=vs.zip ws /\
   IntsAre vs aU /\ IntsAre ws eN /\ aU.length+items2.size=eN.length+items.size /\ R (.ok (.ret (.bool (lexLt aU eN)))) #[hp,g,d,tk,os]) _
  case turn=>
   rintro⟨y,x⟩ rest b s' ⟨vk,rfl,vs,ws,aU,eN,hz,vm,ui,hlen,hR⟩;cases vm with
   |nil=>rw[Kv]at hz;cases hz
   |cons a t Qp=>
     cases ui with
     |nil=>rw[Yy]at hz;cases hz
     |cons c u Qq=>
       rw[wy]at hz;injection hz with Qr Qs;injection Qr with hy hx;subst hy hx;rw[DY]at hR;erw[bp]at hlen;let#[e,he,yD]:=Ce A.in1 #[hp,g,d,tk,os] a t c u;refine ae (he prog w _ _ ?_);cases e with
       |true=>
         rw[if_pos (yD.mp rfl)]at hR
         wp_walk
         exact#[rfl,rfl,_,_,_,_,Qs,Qp,Qq,by lia,hR]
       |false=>
         rw[if_neg (λq=>absurd (yD.mpr q) bY)]at hR;have Qt:=LD A.in1 #[hp,g,d,tk,os] a t c u prog w
         wp_walk using Qt
         exact#[_,rfl,by simpa using hR]
  case fin=>
   rintro⟨b1,b2⟩ s' ⟨vk,rfl,vs,ws,aU,eN,hz,vm,ui,hlen,hR⟩;simp only at vk;subst vk;have hv:lexLt aU eN=decide (items.size<items2.size):=by
    cases vm with
    |nil=>
      cases ui with
      |nil=>
        erw[kK]at hlen;rw[AO];exact(decide_eq_false zb).symm
      |cons c u hw=>
        erw[kK,bp]at hlen;rw[Aa];exact(decide_eq_true zb).symm
    |cons a t hv=>
      cases ui with
      |nil=>
        erw[kK,bp]at hlen;rw[Ab];exact(decide_eq_false zb).symm
      |cons c u hw=>
        rw[wy]at hz;cases hz
   rw[hv]at hR
   wp_walk
   exact#[_,rfl,by simpa[Builtin.Tuple.tupleCompareSizes] using hR]
  case h=>
   exact#[rfl,rfl,items.toList,items2.toList,ns,ms,rfl,hi,hj,by lia,h]
end
theorem DZ {l b:Addr}{items2:Array kz}{ms:List Int}(hl:IsTup s.heap l items) (hb:IsTup s.heap b items2) (hi:IntsAre items.toList ns) (hj:IntsAre items2.toList ms)
 (hu:A.units<cLine) (h:Q (.bool (lexLt ns ms)) s):wpAny zg A (compareOp .Lt (.ref l) (.ref b)) Q E s:=by
 let#[#[cls,dd,data,sl],ho,hc,n,hd]:=id hl;let#[#[Qu,qb,data2,qc],pJ,dQ,n2,hd2]:=id hb;simp only at hc hd dQ hd2;subst hc hd dQ hd2;exact XX (op:=.Lt) #[_,ho,rfl] #[_,pJ,rfl] PySem.F.slot_tuple_lt PySem.F.entry_tuple_lt (PySem.F.args_tuple_lt_2 _ _) (AQ l b items items2 n n2 dd qb sl qc ns ms hi hj)
  #[ho,pJ,show Value.bool (lexLt ns ms)≠Value.notImplemented /\ Q (.bool (lexLt ns ms)) s from#[(λx=>nomatch x),h]] hu
theorem N2 {t b:Addr}{vs ws:List kz}(ht:IsTup s.heap t vs.toArray) (hb:IsTup s.heap b ws.toArray) (hv:vs≠[])
 (h1:ws=[]->Q (.ref t) s) (h2:ws≠[]->Q zaj { s with heap:=s.heap.push { cls:=.type "tuple",data:=.seq (vs++ws).toArray } })
 (hsz:vs.length+ws.length<=sizeLine):wpAny zg A (binaryOp .Add (.ref t) (.ref b)) Q E s:=by
 let#[#[cls,dd,data,sl],ho,hc,n,hd]:=id ht;let#[#[Qu,qb,data2,qc],pJ,dQ,n2,hd2]:=id hb;simp only at hc hd dQ hd2;subst hc hd dQ hd2;have e:vs.toArray++ws.toArray=(vs++ws).toArray:=by simp
 by_cases hw:ws=[]
 .exact IS #[_,ho,rfl] #[_,pJ,rfl] IU IV KZ K0 (K3 _ _)
   (tuple_addW1 t b vs.toArray ws.toArray n n2 dd qb sl qc (by simpa using hv) (by simp[hw])) #[ho,pJ,h1 hw]
 .refine IS #[_,ho,rfl] #[_,pJ,rfl] IU IV KZ K0 (K3 _ _)
   (tuple_addW2 t b vs.toArray ws.toArray n n2 dd qb sl qc (by simpa using hv) (by simpa using hw) (by rw[bf,bf];exact hsz)) #[ho,pJ,?_]
  rw[e];exact h2 hw
noncomputable def aD (n d:Nat):Option Int->Nat
 |none=>d
 |some v=>if v<0 then (v+(n:Int)).toNat else min v.toNat n
theorem Su (n d:Nat) (hd:d<=n) (o:Option Int):aD n d o<=n:=by
 cases o with
 |none=>exact hd
 |some v=>
   show (if v<0 then (v+(n:Int)).toNat else min v.toNat n)<=n;by_cases hv:v<0
   .rw[if_pos hv];lia
   .rw[if_neg hv];exact Nat.min_le_right _ _
theorem Gc (v:Int) (n d:Nat):(if v<0 then max (v+(n:Int)) 0 else min v (n:Int))=((aD n d (some v):Nat):Int):=by
 show (if v<0 then max (v+(n:Int)) 0 else min v (n:Int))=(((if v<0 then (v+(n:Int)).toNat else min v.toNat n):Nat):Int);by_cases hv:v<0
 .erw[if_pos hv];lia
 .erw[if_neg hv];lia
theorem D0 (lo hi:Option Int) (n:Nat):Builtin.Slice.sliceAdjust lo hi 1 (n:Int)=(((aD n 0 lo:Nat):Int),((aD n n hi:Nat):Int)):=by
 have h1:¬ ((1:Int)<0):=by lia
 unfold Builtin.Slice.sliceAdjust;erw[h1,if_false];refine Prod.ext ?_ ?_
 .cases lo with
  |none=>rfl
  |some v=>exact Gc v n 0
 .cases hi with
  |none=>rfl
  |some v=>exact Gc v n n
theorem D3 (i j:Nat):Builtin.Slice.slicePlaces (i:Int) (j:Int) 1=j-i:=by
 unfold Builtin.Slice.slicePlaces;have h1:(1:Int)>0:=by lia
 erw[h1,if_true,Y4];split<;>lia
theorem Ac {v:kz}{o:Option Int}{Q:Option Int->Shared->uu}(p:IsPart v o) (h:Q o s):wpAny zg A (Builtin.Slice.slicePartIndex v) Q E s:=by
 cases p with
 |none=>exact Y9 h
 |int i t=>exact slicePart_int h
theorem jB {sl:Addr}{vl vu:kz}{lo hi:Option Int}{Q:Int×Int×Nat->Shared->uu}(hs:s.heap.IsSliceOf sl vl vu .none) (pl:IsPart vl lo) (pu:IsPart vu hi)
 (h:Q (((aD n 0 lo:Nat):Int),1,aD n n hi-aD n 0 lo) s):wpAny zg A (Builtin.Slice.sliceApplied (.ref sl) (pure (n:Int))) Q E s:=by
 let#[os,vn,Hs,km]:=id hs;unfold Builtin.Slice.sliceApplied Builtin.Slice.sliceFields;refine ae (ae (eV vn km (x:=vl) bz (ae (eV vn km (x:=vu) bz (ae (eV vn km (x:=.none) bz (ag ?_)))))));refine ae (Y9 ?_);show wpAny _ _ (if ((1:Int)==0)=zO then _ else _) _ _ s;rw[if_neg za];refine ae (Ac pl (ae (Ac pu (ae (ag ?_)))));show wpAny _ _ (match Builtin.Slice.sliceAdjust lo hi 1 (n:Int) with|(lo,hi)=>pure (lo,(1:Int),Builtin.Slice.slicePlaces lo hi 1)) _ _ s;rw[D0 lo hi n];show wpAny _ _ (pure (((aD n 0 lo:Nat):Int),(1:Int),Builtin.Slice.slicePlaces ((aD n 0 lo:Nat):Int) ((aD n n hi:Nat):Int) 1)) _ _ s;rw[D3];exact ag h
theorem LE (xs:Array kz) (i k:Nat):((List.range k).filterMap λ(m:Nat)=>xs[((i:Int)+(m:Int)*1).toNat]?).toArray=((xs.toList.drop i).take k).toArray:=by
 have e:(λ(m:Nat)=>xs[((i:Int)+(m:Int)*1).toNat]?)=λm=>xs[i+m]?:=by
  funext m;have:((i:Int)+(m:Int)*1).toNat=i+m:=by lia
  rw[this]
 rw[e];have:=pick_run xs i k;rw[Yz]at this;have e2:((λx=>xs[x]?)∘λx=>i+x)=λm=>xs[i+m]?:=rfl;rw[e2]at this;rw[this]
theorem l8 {t sl:Addr}{vl vu:kz}{lo hi:Option Int}(ht:IsTup s.heap t items) (hs:s.heap.IsSliceOf sl vl vu .none) (pl:IsPart vl lo) (pu:IsPart vu hi)
 (hw:¬ (aD items.size 0 lo=0 /\ aD items.size items.size hi=items.size))
 (h:Q zaj { s with heap:=s.heap.push { cls:=.type "tuple",data:=.seq ((items.toList.drop (aD items.size 0 lo)).take (aD items.size items.size hi-aD items.size 0 lo)).toArray } })
 (hsz:items.size<=sizeLine):wpAny zg A (getItem (.ref t) (.ref sl)) Q E s:=by
 have Hu:sizeOk (.seq ((items.toList.drop (aD items.size 0 lo)).take (aD items.size items.size hi-aD items.size 0 lo)).toArray):=by
  show ((items.toList.drop (aD items.size 0 lo)).take (aD items.size items.size hi-aD items.size 0 lo)).toArray.size<=sizeLine;rw[bf,wx,E2,nq];lia
 have hj:aD items.size items.size hi<=items.size:=Su _ _ (au _) hi;let#[os,vn,Hs,km]:=id hs;have Qv:s.TypeIs (.ref sl) "slice":=#[os,vn,Hs];unfold getItem;try with_reducible refine dI ?_
 first|refine ae (ag ?_)|skip
 refine ae (XY ht.typeIs za ?_);refine ae (qp (name:=Str.ofString "__getitem__") ht.typeIs wG
  (eI wG ht.typeIs Za ?_ (Zb _ _)))
 show wpAny _ _ (Builtin.Tuple.tupleItemsOf (.ref t) >>= _) _ _ s;refine ae (Zc ht ?_);refine ae (wc Qv ?_);rw[if_pos za];refine ae (jB hs pl pu ?_);have qz:¬ (zX=zO):=by
  intro q;rw[ao,ao]at q;have q1:((aD items.size 0 lo:Nat):Int)=0:=eq_of_beq q.1.1;have q2:aD items.size items.size hi-aD items.size 0 lo=items.size:=eq_of_beq q.2;exact hw #[by lia,by lia]
 show wpAny _ _ (if zX=zO then _ else _) _ _ s;rw[if_neg qz,LE];first
  |exact ae (m:=Builtin.Tuple.tupleExact _) (dJ (ag #[_,rfl,ag h]) Hu)
  |exact ae (m:=Builtin.Tuple.tupleExact _) (dJ (ae (ag (ag #[_,rfl,ag h]))) Hu)
  |exact ae (ae (m:=Builtin.Tuple.tupleExact _) (dJ (ag (ag #[_,rfl,ag h])) Hu))
  |exact ae (ae (m:=Builtin.Tuple.tupleExact _) (dJ (ag #[_,rfl,ag h]) Hu))
end HT
namespace L2
abbrev TO:=St->Hp->(Option Int->Hp->uu)->uu
def PO (X:Cx) (e:Option Expr) (t:TO):uu:=
 ∀ (pins:List (Addr×Obj)) (s:Shared) (σ:St) (H:Hp) (Q:Option Int->Hp->uu),Inv X pins σ H s->t σ H Q ->
  wpAny ze X.A (evalPart e X.env) (λu s'=>∃ o H',Inv X pins σ H' s' /\ IsPart u o /\ Q o H') X.xe s
noncomputable def ad1:TO:=λ_ H Q=>Q zy H
noncomputable def ad2 (t:TE):TO:=λσ H Q=>t σ H λx H1=>∃ i,x=.int i /\ Q (some i) H1
theorem iJ:∀ {us:List kz},Vals zb5 us->IntsAre us ns:=by
 induction ns with
 |nil=>intro us r;rw[wz]at r;cases r;exact .nil
 |cons n ns ih=>
   intro us r;rw[bh]at r;cases r with
   |cons r1 r2=>
     let#[t,e]:=r1;subst e;exact .cons n t (ih r2)
section
variable {te:TE} {lo hi:Option Expr} {tl th:TO} {p2:Pos}
theorem N3:PO X zy ad1:=by
 intro pins s σ H Q I h;rw[IW];exact ag #[zy,H,I,.none,h]
theorem N4 (h:PE X e te):PO X (some e) (ad2 te):=by
 intro pins s σ H Q I hw;rw[XZ];refine tE (h pins s σ H _ I hw) λu s1 x H1 I1 r1 q1=>?_;let#[i,rfl,q]:=q1;let#[t,rfl]:=r1;exact#[some i,H1,I1,.int i t,q]
def sV (X:Cx) (r:V->Option Int->Option Int->Hp->VK->uu):uu:=
 ∀ (pins:List (Addr×Obj)) (s:Shared) (σ:St) (H:Hp) (x:V) (v vl vu:kz) (lo hi:Option Int) (sl:Addr) (Q:VK),Inv X pins σ H s->RelV x v->s.heap.IsSliceOf sl vl vu .none->IsPart vl lo->IsPart vu hi->r x lo hi H Q ->
  ∃ T id,typeLookup (.type T) "__getitem__"=pure (some zcf) /\ s.TypeIs v T /\ wpAny ze X.A (getItem v (.ref sl)) zaR X.xe s
theorem sV.or {r r':V->Option Int->Option Int->Hp->VK->uu}(h:sV X r) (h':sV X r'):sV X (λx lo hi H Q=>r x lo hi H Q \/ r' x lo hi H Q):=by
 intro pins s σ H x v vl vu lo hi sl Q I rx hs pl pu q;rcases q with q|q
 .exact h pins s σ H x v vl vu lo hi sl Q I rx hs pl pu q
 .exact h' pins s σ H x v vl vu lo hi sl Q I rx hs pl pu q
def ad3 (r:V->Option Int->Option Int->Hp->VK->uu) (te:TE) (tl th:TO):TE:=λσ H Q=>te σ H λx H1=>tl σ H1 λl H2=>th σ H2 λu H3=>r x l u H3 Q
theorem LF {r:V->Option Int->Option Int->Hp->VK->uu}(hr:sV X r) (he:PE X e te) (hl:PO X lo tl) (hu:PO X hi th):PE X (.Subscript e (.Slice lo hi zy p2) pos) (ad3 r te tl th):=by
 intro pins s σ H Q I h;refine Subscript_ (tE (he pins s σ H _ I h) λv s1 x H1 I1 r1 q1=>?_);refine X0 (tP (hl pins s1 σ H1 _ I1 q1) λvl s2 l H2 I2 pl q2=>tP (hu pins s2 σ H2 _ I2 q2) λvu s3 u H3 I3 pu q3=>?_);rw[IW];refine ag ?_;have I4:Inv X pins σ H3 { s3 with heap:=s3.heap.push { cls:=.type "slice",data:=.fields (List.toArray [vl,vu,.none]) } }:=I3.kept (t':=s3.toks) λb ob q=>aK _ q;let#[T,id,hT,ht,hg]:=hr pins { s3 with heap:=s3.heap.push { cls:=.type "slice",data:=.fields (List.toArray [vl,vu,.none]) } } σ H3 x v vl vu l u s3.heap.objs.size Q I4 r1 (Heap.IsSliceOf.new ..) pl pu q3;show wpAny ze X.A (subscriptTail e (.Slice lo hi zy p2) v (.ref s3.heap.objs.size)) zaR X.xe { s3 with heap:=s3.heap.push { cls:=.type "slice",data:=.fields (List.toArray [vl,vu,.none]) } };exact KL (ops:=[.ref s3.heap.objs.size,v]) ht hT hg (by with_unfolding_all rfl)
def uj (xs:List V) (lo hi:Option Int):List V:=(xs.drop (HT.aD xs.length 0 lo)).take zby
theorem oz (xs:List V) (lo hi:Option Int):(uj xs lo hi).length<=xs.length:=by
 unfold uj;rw[wx,E2];lia
def aal (K:PySem.W.Frag):V->Option Int->Option Int->Hp->VK->uu:=λx lo hi H Q=>∃ a xs,x=.ref a /\ aY K H a xs /\
 ¬ (HT.aD xs.length 0 lo=0 /\ HT.aD xs.length xs.length hi=xs.length) /\ ∀ p,H p=zy->Q (.ref p) (upd H p (.tup (uj xs lo hi)))
theorem Sv:sV X (aal X.K):=by
 intro pins s σ H x v vl vu lo hi sl Q I rx hs pl pu h;let#[a,xs,rfl,hx,hw,q]:=h;cases rx;let#[its,r,ht,hz]:=I.tuple hx;have hlen:its.toArray.size=xs.length:=by rw[bf];exact r.length.symm
 refine#["tuple",_,wG.lookup,ht.typeIs,?_];refine HT.l8 ht hs pl pu (by rw[hlen];exact hw) ?_ (by rw[hlen];exact hz);rw[hlen];refine#[.ref s.heap.objs.size,_,I.laid (t':=s.toks) (o:=.tup (uj xs lo hi)) (λb ob q=>aK _ q) (au _) ?_,rfl,q _ (I.aj.fresh (au _))];exact#[br (oz xs lo hi) hz,_,(r.drop (HT.aD xs.length 0 lo)).take zby,IsTup.new _ _]
def Qw (K:PySem.W.Frag):R2:=λx y H Q=>∃ a b ns ms,x=.ref a /\ y=.ref b /\ aY K H a zb5 /\ aY K H b (ms.map V.int) /\ Q (.bl (HT.lexLt ns ms)) H
theorem Sw (hu:X.A.units<cLine):aO X (compareOp .Lt) (Qw X.K):=by
 intro pins s σ H x y v u Q I rx ry h;let#[a,b,ns,ms,rfl,rfl,ha,hb,q]:=h;cases rx;cases ry;let#[its,r1,p1,_]:=I.tuple ha;let#[nD,r2,p2,_]:=I.tuple hb;have i1:IntsAre its.toArray.toList ns:=iJ r1;have i2:IntsAre nD.toArray.toList ms:=iJ r2;exact HT.DZ p1 p2 i1 i2 hu #[.bl (HT.lexLt ns ms),H,I,rfl,q]
def aam (K:PySem.W.Frag):R2:=λx y H Q=>∃ a b xs ys,x=.ref a /\ y=.ref b /\ aY K H a xs /\ aY K H b ys /\ xs≠[] /\ xs.length+ys.length<=sizeLine /\
 (ys=[]->Q za3 H) /\ (ys≠[]->∀ p,H p=zy->Q (.ref p) (upd H p (.tup (xs++ys))))
theorem Vals.Qx {xs:List V}(r:Vals xs us):us=[] ↔ xs=[]:=by
 cases r with
 |nil=>simp
 |cons _ _=>simp
theorem N5:aO X (binaryOp .Add) (aam X.K):=by
 intro pins s σ H x y v u Q I rx ry h;let#[a,b,xs,ys,rfl,rfl,ha,hb,hx,hz,q1,q2]:=h;cases rx;cases ry;let#[its,r1,p1,_]:=I.tuple ha;let#[nD,r2,p2,_]:=I.tuple hb;refine HT.N2 p1 p2 (λz=>hx (r1.Qx.mp z)) (λz=>#[.ref a,H,I,rfl,q1 (r2.Qx.mp z)]) (λz=>?_) (by rw[<-r1.length,<-r2.length];exact hz);refine#[.ref s.heap.objs.size,_,I.laid (t':=s.toks) (o:=.tup (xs++ys)) (λb ob q=>aK _ q) (au _) ?_,rfl,q2 (λw=>z (r2.Qx.mpr w)) _ (I.aj.fresh (au _))];exact#[by rw[cJ];exact hz,_,r1.append r2,IsTup.new _ _]
end
noncomputable def dE (n:Nat) (i:Int):Option Nat:=if 0<=i then (if i<n then some i.toNat else zy) else if -(n:Int)<=i then some (i+n).toNat else zy
def bA (xs:List α) (i:Int):Option α:=(dE xs.length i).bind λj=>xs[j]?
theorem Gd {i:Int}(h:dE n i=some j):seqIndex? i n=some j /\ j<n /\ -(n:Int)<=i /\ i<n:=by
 unfold dE at h;by_cases h0:0<=i
 .rw[if_pos h0]at h;by_cases h1:i<n
  .rw[if_pos h1]at h;have e:i.toNat=j:=Option.some.inj h;exact#[by rw[IZ h0 h1,e],by lia,by lia,h1]
  .rw[if_neg h1]at h;cases h
 .rw[if_neg h0]at h;by_cases h1:-(n:Int)<=i
  .rw[if_pos h1]at h;have e:(i+n).toNat=j:=Option.some.inj h;exact#[by rw[seqIndex_neg zb h1,e],by lia,h1,by lia]
  .rw[if_neg h1]at h;cases h
theorem BC {xs:List α}{i:Int}{v:α}(h:bA xs i=some v):∃ j,seqIndex? i xs.length=some j /\ xs[j]?=some v /\ j<xs.length /\ -(xs.length:Int)<=i /\ i<xs.length:=by
 unfold bA at h;cases e:dE xs.length i with
 |none=>rw[e]at h;cases h
 |some j=>
   rw[e]at h;let#[h1,h2,h3,h4]:=Gd e;exact#[j,h1,h,h2,h3,h4]
theorem N6 {xs:List α}{v:α}(h:xs[j]?=some v):bA xs (j:Int)=some v:=by
 have hj:j<xs.length:=(List.getElem?_eq_some_iff.mp h).1;have e:dE xs.length (j:Int)=some j:=by
  unfold dE;rw[if_pos zb,if_pos zb];simp
 unfold bA;rw[e];exact h
def Hv (b:Expr):uu:=∀ o i,subscripted b zw o i=operate [o,i] (getItem o i)
def rJ (X:Cx) (r:R2):uu:=
 ∀ (value slice:Expr) (pins:List (Addr×Obj)) (s:Shared) (σ:St) (H:Hp) (x y:V) (v u:kz) (Q:VK),Inv X pins σ H s->RelV x v->RelV y u->r x y H Q ->
  subscripted slice zw v u=operate [v,u] (getItem v u)->wpAny ze X.A (subscriptTail value slice v u) zaR X.xe s
def aan (X:Cx) (id:String) (r:V->List V->Hp->VK->uu):uu:=
 ∀ (pins:List (Addr×Obj)) (s:Shared) (σ:St) (H:Hp) (x:V) (xs:List V) (v:kz) (us:List kz) (Q:VK),Inv X pins σ H s->RelV x v->Vals xs us->r x xs H Q ->
  wpAny ze X.A (call zcf (v::us)) zaR X.xe s
section
variable {a b:Expr} {ta tb:TE} 
theorem rJ.or {r r':R2}(h:rJ X r) (h':rJ X r'):rJ X (λx y H Q=>r x y H Q \/ r' x y H Q):=by
 intro value slice pins s σ H x y v u Q I rx ry q hs;rcases q with q|q
 .exact h value slice pins s σ H x y v u Q I rx ry q hs
 .exact h' value slice pins s σ H x y v u Q I rx ry q hs
theorem LG {r:R2}(hr:rJ X r) (ha:PE X a ta) (hb:PE X b tb) (hs:Hv b):PE X (.Subscript a b pos) (yB r ta tb):=by
 intro pins s σ H Q I h;exact Subscript_ (Qi ha hb I h λv u s2 x y H2 I2 rx ry q=>hr a b pins s2 σ H2 x y v u Q I2 rx ry q (hs _ _))
def aao (K:PySem.W.Frag):R2:=λx y H Q=>∃ p xs i v,x=.ref p /\ y=.int i /\ ba K H p xs /\ bA xs i=some v /\ Q v H
def aap (K:PySem.W.Frag):R2:=λx y H Q=>∃ p xs i v,x=.ref p /\ y=.int i /\ aY K H p xs /\ bA xs i=some v /\ Q v H
def aaq:R2:=λx y H Q=>∃ z i c,x=.str z /\ y=.int i /\ z.length<=sizeLine /\ bA z.cps.toList i=some c /\ Q (.str ⟨(List.toArray [c])⟩) H
theorem BD:rJ X (aao X.K):=by
 intro value slice pins s σ H x y v u Q I rx ry h hs;let#[p,xs,i,z,rfl,rfl,hq,he,q]:=h;cases rx;let#[t,rfl]:=ry;let#[its,r,pl,hz]:=I.list hq;let#[j,h1,h2,h3,h4,h5]:=BC he;let#[w,ew,nW]:=r.get h2;have hl:=r.length;have hn:=uh;have fin:EP X pins σ Q w s:=#[z,H,I,nW,q];by_cases h0:0<=i
 .have hj:i.toNat=j:=by
   rw[IZ h0 h5]at h1;exact Option.some.inj h1
  exact item_listR pl.isList h0 zb (by rw[hj];simpa using ew) fin hs
 .have hj:(i+(its.toArray.size:Int)).toNat=j:=by
   rw[seqIndex_neg zb h4]at h1;rw[bf,<-hl];exact Option.some.inj h1
  exact Zd (x:=w) pl.isList.typeIs slot_list_getitem.lookup
   (wpAny_getItem_list_neg (Q:=λr s'=>r=w /\ EP X pins σ Q r s') pl.isList zb (by rw[bf]<;>lia) zb (by rw[hj];simpa using ew) #[rfl,fin]) hs
theorem Sx:rJ X (aap X.K):=by
 intro value slice pins s σ H x y v u Q I rx ry h hs;let#[p,xs,i,z,rfl,rfl,hq,he,q]:=h;cases rx;let#[t,rfl]:=ry;let#[its,r,pl,hz]:=I.tuple hq;let#[j,h1,h2,h3,h4,h5]:=BC he;let#[w,ew,nW]:=r.get h2;have hl:=r.length;have hn:=uh;have fin:EP X pins σ Q w s:=#[z,H,I,nW,q];exact Zd (x:=w) pl.typeIs slot_tuple_getitem.lookup
  (getItem_tuple (j:=j) (Q:=λr s'=>r=w /\ EP X pins σ Q r s') pl zb zb (by rw[bf,<-hl];exact h1) (by simpa using ew) #[rfl,fin]) hs
theorem Sy:rJ X aaq:=by
 intro value slice pins s σ H x y v u Q I rx ry h hs;let#[z,i,c,rfl,rfl,hz,he,q]:=h;let#[t,rfl]:=rx;let#[t',rfl]:=ry;let#[j,h1,h2,h3,h4,h5]:=BC he;have hl:z.cps.toList.length=z.length:=by simp[Str.length]
 rw[hl]at h1 h4 h5;have hn:=uh;exact KL (typeIs_str s z t) slot_str_getitem.lookup (getItem_str (c:=c) (by
  have e1:decide (i < -(2 ^ 63:Int))=zw:=decide_eq_false zb;have e2:decide (i>=2 ^ 63)=zw:=decide_eq_false zb;rw[e1,e2,Bool.or_false]) (by rw[h1];simpa using h2) #[.str ⟨(List.toArray [c])⟩,H,I.tok _,#[_,rfl],q]) hs
def aar (K:PySem.W.Frag):R2:=λx y H Q=>aao K x y H Q \/ aap K x y H Q \/ aaq x y H Q
theorem Sz:rJ X (aar X.K):=BD.or (Sx.or Sy)
theorem D4 (its:List kz) (n j:Nat) (u:kz):Obj.mapSeq (·.setIfInBounds j u) { cls:=.type "list",data:=.seq its.toArray n }={ cls:=.type "list",data:=.seq (its.set j u).toArray n }:=by
 simp[Obj.mapSeq]
theorem Inv.lst {pins:List (Addr×Obj)}{σ:St}{H:Hp}{s:Shared}{p:Addr}{xs:List V}(I:Inv X pins σ H s) (h:H p=some zb0) :
 ∃ (its:List kz) (n:Nat),Vals xs its /\ s.heap.get? p=some { cls:=.type "list",data:=.seq its.toArray n } /\ xs.length<=sizeLine:=by
 let#[z,its,n,r,e]:=I.aj p _ h;exact#[its,n,r,e,z]
theorem Inv.ad4 {p:Addr}{xs ys:List V}{its its':List kz}{n':Nat}{f:Obj->Obj}(I:Inv X pins σ H s) (h:H p=some zb0)
 (ho:s.heap.get? p=some { cls:=.type "list",data:=.seq its.toArray n }) (hf:f { cls:=.type "list",data:=.seq its.toArray n }={ cls:=.type "list",data:=.seq its'.toArray n' }) (r:Vals ys its') (hz:ys.length<=sizeLine) (t:Nat) :
 Inv X pins σ (upd H p (.lst ys)) { s with heap:=s.heap.update p f,toks:=t }:=by
 have e:(s.heap.update p f).get? p=some { cls:=.type "list",data:=.seq its'.toArray n' }:=by
  rw[qt f ho (by rw[hf]<;>rfl),hf]
 refine I.write (x:=p) (e:=p) (by rw[h];trivial) zbs (λb u hb q=>(EY _ _ (Ne.symm hb)).trans q) #[_,e] ?_;exact#[hz,its',n',r,e]
def ad5:V->V->V->Hp->(Hp->uu)->uu:=λo i v H Q=>∃ p xs k j,o=.ref p /\ i=.int k /\ H p=some zb0 /\ dE xs.length k=some j /\ Q (upd H p (.lst (xs.set j v)))
theorem LH:Z6 X ad5:=by
 intro pins s σ H o i v ov iv u Q I ro ri rv h;let#[p,xs,k,j,rfl,rfl,hp,hj,q]:=h;cases ro;let#[t,rfl]:=ri;let#[its,n,r,ho,hz]:=I.lst hp;let#[h1,h2,h3,h4]:=Gd hj;have hl:=r.length;have hn:=uh;have I':Inv X pins σ (upd H p (.lst (xs.set j v))) { s with heap:=s.heap.update p (Obj.mapSeq (·.setIfInBounds j u)) }:=
  I.ad4 hp ho (D4 its n j u) (r.set rv j) (by rw[nj];exact hz) s.toks
 by_cases h0:0<=k
 .have hk:k.toNat=j:=by
   rw[IZ h0 h4]at h1;exact Option.some.inj h1
  exact PySem.W.ki_setAt ho h0 zb (by rw[bf,<-hl];exact h4) (by rw[hk];exact#[_,I',q])
 .have hk:(k+(its.toArray.size:Int)).toNat=j:=by
   rw[seqIndex_neg zb h3]at h1;rw[bf,<-hl];exact Option.some.inj h1
  exact PySem.W.ki_setBack ho zb (by rw[bf,<-hl];exact h3) zb (by rw[hk];exact#[_,I',q])
theorem BE (lo hi:Option Int) (n:Nat):(sliceBounds lo hi zy n).1=((HT.aD n 0 lo:Nat):Int) /\ (sliceBounds lo hi zy n).2.1=((HT.aD n n hi:Nat):Int) /\ (sliceBounds lo hi zy n).2.2=1:=by
 refine#[?_,?_,rfl]
 .cases lo with
  |none=>simp[sliceBounds,HT.aD]
  |some i=>
    erw[sliceBounds,HT.aD,KH,show (1:Int)>0 by decide,if_true];by_cases h:i<0
    .erw[h,if_true]<;>lia
    .erw[h,if_false]<;>lia
 .cases hi with
  |none=>simp[sliceBounds,HT.aD]
  |some i=>
    erw[sliceBounds,HT.aD,KH,show (1:Int)>0 by decide,if_true];by_cases h:i<0
    .erw[h,if_true]<;>lia
    .erw[h,if_false]<;>lia
theorem AR (its:List kz) (lo hi:Option Int):slicePick its.toArray lo hi zy=((its.drop (HT.aD its.length 0 lo)).take (HT.aD its.length its.length hi-HT.aD its.length 0 lo)).toArray:=by
 let#[h1,h2,h3]:=BE lo hi its.toArray.size;unfold slicePick;rw[h1,h2,h3];erw[sliceRange_one,pick_run,bf]<;>rfl
def aas (K:PySem.W.Frag):V->Option Int->Option Int->Hp->VK->uu:=λx lo hi H Q=>∃ a xs,x=.ref a /\ ba K H a xs /\ ∀ p,H p=zy->Q (.ref p) (upd H p (.lst (uj xs lo hi)))
theorem N7:sV X (aas X.K):=by
 intro pins s σ H x v vl vu lo hi sl Q I rx hs pl pu h;let#[a,xs,rfl,hx,q]:=h;cases rx;let#[its,r,ht,hz]:=I.list hx;have hlen:=r.length;refine#["list",_,slot_list_getitem.lookup,ht.isList.typeIs,?_];refine X1 ht.isList hs pl pu .none zf ?_ (by rw[bf]<;>lia);rw[AR,<-hlen];refine#[.ref s.heap.objs.size,_,I.laid (t':=s.toks) (o:=.lst (uj xs lo hi)) (λb ob q=>aK _ q) (au _) ?_,rfl,q _ (I.aj.fresh (au _))];exact#[br (oz xs lo hi) hz,_,0,(r.drop (HT.aD xs.length 0 lo)).take zby,bw _ bz]
noncomputable def eA:V->Bool
 |.non=>zO
 |.bl _=>zO
 |.int _=>zO
 |.str _=>zO
 |_=>zw
noncomputable def dR:V->V->Bool
 |.non,.non=>zO
 |.bl a,.bl b=>a==b
 |.bl a,.int b=>(if a then 1 else 0)==b
 |.int a,.bl b=>a==(if b then 1 else 0)
 |.int a,.int b=>a==b
 |.str a,.str b=>a==b
 |_,_=>zw
theorem LJ {y x:V}{v:kz}(ry:RelV y u) (rx:RelV x v) (fy:eA y=zO) (fx:eA x=zO):SeqAt.EqAt A s u v (dR y x):=by
 cases y with
 |non=>
   cases ry;cases x with
   |non=>cases rx;exact SeqAt.EqAt.same _
   |bl b=>cases rx;exact acI b
   |int b=>let#[t,rfl]:=rx;exact acJ b t
   |str b=>let#[t,rfl]:=rx;exact acK b t
   |_=>exact absurd (show zw=zO from fx) bY
 |bl a=>
   cases ry;cases x with
   |non=>cases rx;exact acL a
   |bl b=>cases rx;exact acM a b
   |int b=>let#[t,rfl]:=rx;exact acN a b t
   |str b=>let#[t,rfl]:=rx;exact acO a b t
   |_=>exact absurd (show zw=zO from fx) bY
 |int a=>
   let#[t',rfl]:=ry;cases x with
   |non=>cases rx;exact acP a t'
   |bl b=>cases rx;exact acQ a t' b
   |int b=>let#[t,rfl]:=rx;exact ZS a t' b t
   |str b=>let#[t,rfl]:=rx;exact ZQ a t' b t
   |_=>exact absurd (show zw=zO from fx) bY
 |str a=>
   let#[t',rfl]:=ry;cases x with
   |non=>cases rx;exact acR a t'
   |bl b=>cases rx;exact acS a t' b
   |int b=>let#[t,rfl]:=rx;exact ZR a t' b t
   |str b=>let#[t,rfl]:=rx;exact acT a t' b t
   |_=>exact absurd (show zw=zO from fx) bY
 |_=>exact absurd (show zw=zO from fy) bY
def nE (x:V) (u:kz):Bool:=match u with
 |.none=>dR .non x
 |.bool b=>dR (.bl b) x
 |.int i _=>dR zaS x
 |.str z _=>dR (.str z) x
 |_=>zw
theorem LK {x y:V}(r:RelV y u) (f:eA y=zO):nE x u=dR y x:=by
 cases y with
 |non=>cases r;rfl
 |bl b=>cases r;rfl
 |int i=>let#[t,rfl]:=r;rfl
 |str z=>let#[t,rfl]:=r;rfl
 |_=>exact absurd (show zw=zO from f) bY
theorem l9 {x:V}:∀ {xs:List V}{us:List kz},Vals xs us->xs.all eA=zO->us.any (nE x)=xs.any λy=>dR y x
 |_,_,.nil,_=>rfl
 | y::xs,u::us,.cons r t,f=>by
   rw[eK,ao]at f;rw[sC,sC,LK r f.1,l9 t f.2]
theorem j8 {A:Around}{s:Shared}{x:V}{v:kz}(rx:RelV x v) (fx:eA x=zO):∀ {xs:List V}{us:List kz},Vals xs us->xs.all eA=zO->∀ u∈us,SeqAt.EqAt A s u v (nE x u)
 |_,_,.nil,_=>λu hu=>by cases hu
 | y::xs,u::us,.cons r t,f=>λu' hu=>by
   rw[eK,ao]at f;rcases aH.mp hu with rfl|hu
   .rw[LK r f.1];exact LJ r rx f.1 fx
   .exact j8 rx fx t f.2 u' hu
def Hw (x:V) (xs:List V):Bool:=xs.any λy=>dR y x
def Hy (K:PySem.W.Frag) (neg:Bool):R2:=λx y H Q=>∃ p xs,y=.ref p /\ (ba K H p xs \/ aY K H p xs) /\ eA x=zO /\ xs.all eA=zO /\ Q (.bl (if neg then !Hw x xs else Hw x xs)) H
theorem Jm:aO X (compareOp .In) (Hy X.K zw):=by
 intro pins s σ H x y v u Q I rx ry h;let#[p,xs,rfl,hq,fx,fs,q]:=h;cases ry;rcases hq with hq|hq
 .let#[its,r,pl,hz]:=I.list hq;refine SeqAt.in_listAt (nE x) pl.isList (λw hw=>j8 rx fx r fs w (by simpa using hw)) #[.bl _,H,I,rfl,?_];rw[show its.toArray.any (nE x)=its.any (nE x) by simp,l9 r fs];exact q
 .let#[its,r,pl,hz]:=I.tuple hq;refine SeqAt.in_tupleAt (nE x) pl (λw hw=>j8 rx fx r fs w (by simpa using hw)) #[.bl _,H,I,rfl,?_];rw[show its.toArray.any (nE x)=its.any (nE x) by simp,l9 r fs];exact q
theorem BF:aO X (compareOp .NotIn) (Hy X.K zO):=by
 intro pins s σ H x y v u Q I rx ry h;let#[p,xs,rfl,hq,fx,fs,q]:=h;cases ry;rcases hq with hq|hq
 .let#[its,r,pl,hz]:=I.list hq;refine SeqAt.notIn_listAt (nE x) pl.isList (λw hw=>j8 rx fx r fs w (by simpa using hw)) #[.bl _,H,I,rfl,?_];rw[show its.toArray.any (nE x)=its.any (nE x) by simp,l9 r fs];exact q
 .let#[its,r,pl,hz]:=I.tuple hq;refine SeqAt.notIn_tupleAt (nE x) pl (λw hw=>j8 rx fx r fs w (by simpa using hw)) #[.bl _,H,I,rfl,?_];rw[show its.toArray.any (nE x)=its.any (nE x) by simp,l9 r fs];exact q
theorem mf:dD X (.builtin "len") (λxs H Q=>∃ p ys,xs=[.ref p] /\ (ba X.K H p ys \/ aY X.K H p ys) /\ Q (.int ys.length) H):=by
 intro pins s σ H xs us Q I r h;let#[p,ys,rfl,hq,q]:=h;let#[u,rfl,rx]:=vals1 r;cases rx;have hn:=uh;rcases hq with hq|hq
 .let#[its,r',pl,hz]:=I.list hq;have hlen:=r'.length;exact Calls.call_len_list pl.isList zci #[.int ys.length,H,I.tok _,#[s.toks+1,by rw[bf,hlen]],q]
 .let#[its,r',pl,hz]:=I.tuple hq;have hlen:=r'.length;exact len_tuple pl zci #[.int ys.length,H,I.tok _,#[s.toks+1,by rw[bf,hlen]],q]
theorem BG:dD X (.type "list") (λxs H Q=>∃ p ys,xs=[.ref p] /\ (ba X.K H p ys \/ aY X.K H p ys) /\ ∀ l,H l=zy->Q (.ref l) (upd H l (.lst ys))):=by
 intro pins s σ H xs us Q I r h;let#[p,ys,rfl,hq,q]:=h;let#[u,rfl,rx]:=vals1 r;cases rx
 have fin:∀ (its:List kz),Vals ys its->ys.length<=sizeLine->∀ (h':Heap) (c':Nat),(∀ b o',s.heap.get? b=some o'->h'.get? b=some o') ->
  h'.get? s.heap.objs.size=some { cls:=.type "list",dict:=zy,data:=.seq its.toArray c',slots:=#[] }->EP X pins σ Q zaj { s with heap:=h' }:=λits r' hz h' c' kp e=>
  #[.ref s.heap.objs.size,_,I.laid (t':=s.toks) kp (au _) (show a9 X.prog X.w _ h' _ (.lst ys) from#[hz,its,c',r',e]),rfl,q _ (I.aj.fresh (au _))]
 rcases hq with hq|hq
 .let#[its,r',pl,hz]:=I.list hq;have hlen:=r'.length;let#[o,ho,hc,n,hd]:=pl.isList;exact X2 p zbs ho hc hd (λh' c' kp e=>fin its r' hz h' c' kp e) zci
 .let#[its,r',pl,hz]:=I.tuple hq;have hlen:=r'.length;let#[o,ho,hc,n,hd]:=pl;exact X2 p (.inr bz) ho hc hd (λh' c' kp e=>fin its r' hz h' c' kp e) zci
theorem AS:dD X (.type "tuple") (λxs H Q=>∃ p ys,xs=[.ref p] /\ ((ba X.K H p ys /\ ∀ l,H l=zy->Q (.ref l) (upd H l (.tup ys))) \/ (aY X.K H p ys /\ Q (.ref p) H))):=by
 intro pins s σ H xs us Q I r h;let#[p,ys,rfl,h]:=h;let#[u,rfl,rx]:=vals1 r;cases rx;rcases h with⟨hq,q⟩|⟨hq,q⟩
 .let#[its,r',pl,hz]:=I.list hq;have hlen:=r'.length;refine call_tuple_list pl.isList (λh' kp=>?_) zci;have I1:Inv X pins σ H { s with heap:=h' }:=I.kept (t':=s.toks) kp;have I2:Inv X pins σ (upd H h'.objs.size (.tup ys)) { s with heap:=h'.push { cls:=.type "tuple",data:=.seq its.toArray } }:=
   I1.laid (t':=s.toks) (λb o e=>aK _ e) (au _) (show a9 X.prog X.w _ _ _ (.tup ys) from#[hz,its,r',IsTup.new _ _])
  exact#[.ref h'.objs.size,_,I2,rfl,q _ (I1.aj.fresh (au _))]
 .let#[its,r',pl,hz]:=I.tuple hq;exact call_tuple_same pl #[.ref p,H,I,rfl,q]
def aat (K:PySem.W.Frag) (T:String) (x:V) (H:Hp):uu:=match x with
 |.str _=>T="str"
 |.int _=>T="int"
 |.ref p=>(T="list" /\ ∃ xs,ba K H p xs) \/ (T="tuple" /\ ∃ o,K.lookup p=some o /\ o.cls=.type "tuple" /\ o.dict=zy) \/
  (T="dict" /\ ((∃ af,H p=some zcB) \/ ∃ af,H p=some (.dT af))) \/ (T="set" /\ ∃ S n,H p=some (.set S n))
 |_=>False
theorem SC {T:String}{x:V}{v:kz}(I:Inv X pins σ H s) (r:RelV x v) (ty:aat X.K T x H) :
 s.TypeIs v T /\ ∀ a,v=.ref a->∃ ob,s.heap.get? a=some ob /\ ob.dict=zy:=by
 cases x with
 |str z=>
   let#[t,rfl]:=r;cases (show T="str" from ty);exact#[typeIs_str s z t,λ_ e=>nomatch e]
 |int i=>
   let#[t,rfl]:=r;cases (show T="int" from ty);exact#[Ka s i t,λ_ e=>nomatch e]
 |ref p=>
   cases r;rcases ty with⟨rfl,xs,hq⟩|⟨rfl,o,hk,hc,hd⟩|⟨rfl,hk⟩|⟨rfl,S,n,hk⟩
   .let#[its,_,pl,_]:=I.list hq;refine#[pl.isList.typeIs,λa e=>?_];cases e;let#[o,n,e,c,hd,_]:=pl;exact#[o,e,hd]
   .refine#[#[o,I.cE p o hk,hc],λa e=>?_];cases e;exact#[o,I.cE _ o hk,hd]
   .have z:∃ o,s.heap.get? p=some o /\ o.ExactDict:=by
     rcases hk with⟨af,hk⟩|⟨af,hk⟩
     .let#[_,_,_,_,o,_,_,e,ex,_]:=I.aj p _ hk;exact#[o,e,ex]
     .let#[_,_,_,_,o,_,_,e,ex,_]:=I.aj p _ hk;exact#[o,e,ex]
    let#[o,e,ex]:=z;refine#[#[o,e,ex.1],λa e2=>?_];cases e2;exact#[o,e,ex.2.1]
   .let#[o,_,_,_,e,ex,_]:=I.aj p _ hk;refine#[#[o,e,ex.1],λa e2=>?_];cases e2;exact#[o,e,ex.2.1]
 |_=>exact False.elim ty
def Qy (K:PySem.W.Frag) (T:String) (r:V->List V->Hp->VK->uu) (to:TE) (t:TA):TE:=λσ H Q=>to σ H λx H1=>aat K T x H1 /\ t σ H1 λxs H2=>r x xs H2 Q
variable {o:Expr} {to:TE} {t:TA} {name:Str} {aV:Pos} {T id:String} {r:V -> List V -> Hp -> VK -> uu}
theorem Ci (pa:PlainAttrs T) (slot:Slot T name id) (ad6:typeOf zcf=pure (.type "method_descriptor")) (hm:aan X id r) (ho:PE X o to) (ha:PA X (e::es) t)
 (vo:attributeBase o name X.env (eval o X.env)=eval o X.env:=by rfl)
 (vp:((backTo aV (starEach (e::es) X.env)).all (λx=>!x.1)&&(backToKw aV (keywordEach [] X.env)).all (λx=>x.1.isSome)
  && decide ((e::es).length+([]:List Keyword).length+(if ([]:List Keyword).isEmpty then 0 else 1)<30))=zO:=by rfl)
 (hline:(apos.endLine==aV.line)=zO:=by rfl) (hs:starEach (e::es) X.env=zac::starEach es X.env:=by rfl) (ad7:(backTo aV zbm).any (·.1)=zw:=by rfl) :
 PE X (.Call (.Attribute o name apos) (e::es) [] aV) (Qy X.K T r to t):=by
 intro pins s σ H Q I h;refine wpAny_Call_method_late vo vp hline bz (tE (ho pins s σ H _ I h) λv s1 x H1 I1 r1 hh=>?_);let#[ty,q1]:=hh;let#[h1,h2]:=SC I1 r1 ty;refine#[T,id,pa,slot,ad6,h1,h2,?_];have hA:=ha aV pins s1 σ H1 _ I1 q1;rw[hs]at hA ⊢;refine E9 (by show (zw||(backTo aV (starEach es X.env)).any (·.1))=false;rw[ad7]<;>rfl) (Ha ?_);exact tA hA λus s2 vs H2 I2 r2 q2=>hm pins s2 σ H2 x vs v us Q I2 r1 r2 q2
/- xs.append(e),list.index on a ain tuple .. are aan facts of 06m -/
end
def Hz (X:Cx) (id:String) (r:V->List V->Hp->VK->uu):uu:=
 ∀ (pins:List (Addr×Obj)) (s:Shared) (σ:St) (H:Hp) (x:V) (xs:List V) (v:kz) (us:List kz) (Q:VK),Inv X pins σ H s->RelV x v->Vals xs us->r x xs H Q ->
  wpAny ze X.A (call zcf (v::us)) zaR X.xe s
theorem Vals.one {x:V}(h:Vals [x] us):∃ u,us=[u] /\ RelV x u:=by
 cases h with
 |cons r t=>cases t;exact#[_,rfl,r]
theorem Vals.two {x y:V}(h:Vals [x,y] us):∃ u v,us=[u,v] /\ RelV x u /\ RelV y v:=by
 cases h with
 |cons r t=>
   let#[u,rfl,q]:=Vals.one t;exact#[_,_,rfl,r,q]
theorem Vals.reverse {xs:List V}{us:List kz}(h:Vals xs us):Vals xs.reverse us.reverse:=by
 induction h with
 |nil=>exact .nil
 |cons r t ih=>rw[E3,E3];exact Vals.append ih (.cons r .nil)
theorem Vals.rep {xs:List V}(h:Vals xs us):∀ k:Nat,Vals (List.replicate k xs).flatten (List.replicate k us).flatten:=by
 intro l_;induction l_ with
 |zero=>exact .nil
 |succ k aq=>
   rw[t9,t9,uW,uW];exact Vals.append h (aq)
theorem A9 (its:List kz):∀ (k:Nat) (acc:List kz),
 List.foldl (λx1 x2=>x1++x2) acc.toArray (List.replicate k its.toArray)=(acc++(List.replicate k its).flatten).toArray
 |0,acc=>by simp
 | k+1,acc=>by
   have e:acc.toArray++its.toArray=(acc++its).toArray:=by simp
   have e2:(acc++its)++(List.replicate k its).flatten=acc++(List.replicate (k+1) its).flatten:=by
    rw[t9,uW,kL]
   rw[<-e2,<-A9 its k (acc++its),<-e,t9,YA]
section
variable {l b:Addr} {xs ys zs:List V}
theorem Inv.aau {its its':List kz}{f:Array kz->Array kz}(I:Inv X pins σ H s) (hH:H l=some zb0)
 (e:s.heap.get? l=some { cls:=.type "list",data:=.seq its.toArray n }) (hf:f its.toArray=its'.toArray) (hv:Vals ys its') (hz:ys.length<=sizeLine) :
 Inv X pins σ (upd H l (.lst ys)) { s with heap:=s.heap.update l (Obj.mapSeq f),toks:=t' }:=by
 have q:=PySem.IsL.update e f;rw[hf]at q;refine I.write (x:=l) (e:=l) (by rw[hH];exact trivial) zbs (λb' u hb hu=>(EY s.heap (Obj.mapSeq f) (Ne.symm hb)).trans hu) #[_,q] ?_;exact#[hz,its',_,hv,q]
theorem Inv.aav {its:List kz}(I:Inv X pins σ H s) (hv:Vals ys its) (hz:ys.length<=sizeLine) :
 Inv X pins σ (upd H s.heap.objs.size (.lst ys)) { s with heap:=s.heap.push { cls:=.type "list",data:=.seq its.toArray },toks:=t' }:=
 I.laid (λ_ _ q=>aK _ q) (au _) #[hz,its,0,hv,bw _ bz]
theorem Inv.fresh (I:Inv X pins σ H s):H s.heap.objs.size=zy:=I.aj.fresh (au _)
theorem Inv.uk (I:Inv X pins σ H s) (hH:H l=some zb0):xs.length<=sizeLine /\ ∃ (its:List kz) (n:Nat),Vals xs its /\ xs.length=its.length /\ s.heap.get? l=some { cls:=.type "list",data:=.seq its.toArray n }:=by
 let#[z,its,n,r,e]:=I.aj l _ hH;exact#[z,its,n,r,r.length,e]
theorem aaw (h:n<=sizeLine):Builtin.List.listTooLong n=zw:=by
 unfold Builtin.List.listTooLong;exact decide_eq_false zb
end
def aax:V->List V->Hp->VK->uu:=λx vs H Q=>∃ l xs y,x=.ref l /\ vs=[y] /\ H l=some zb0 /\ xs.length<sizeLine /\ Q .non (upd H l (.lst (xs++[y])))
theorem mO:Hz X "list.append" aax:=by
 intro pins s σ H x vs v us Q I rx rv h;let#[l,xs,y,rfl,rfl,hH,hz,q]:=h;cases rx;let#[u,rfl,ru]:=rv.one;let#[z,its,n,r,hl,e]:=I.uk hH;refine we F.slot_list_append #[_,e,rfl] F.entry_list_append (F.args_list_append_2 _ _) (PySem.list_append l its.toArray n u (by rw[bf];lia)) #[e,?_];refine#[.non,_,I.aau (its':=its++[u]) hH e zf (r.append (.cons ru .nil)) ?_,rfl,q];rw[cJ,YB];lia
def aay:V->List V->Hp->VK->uu:=λx vs H Q=>∃ l b xs zs,x=.ref l /\ vs=[.ref b] /\ H l=some zb0 /\ H b=some (.lst zs) /\ xs.length+zs.length<=sizeLine /\ Q .non (upd H l (.lst (xs++zs)))
theorem Jn:Hz X "list.extend" aay:=by
 intro pins s σ H x vs v us Q I rx rv h;let#[l,b,xs,zs,rfl,rfl,hH,hB,hz,q]:=h;cases rx;let#[u,rfl,ru]:=rv.one;cases ru;let#[z,its,n,r,hl,e]:=I.uk hH;let#[z2,nD,n2,r2,rK,e2]:=I.uk hB;have hsz:its.toArray.size+nD.toArray.size<=sizeLine:=by rw[bf,bf];lia
 have Qz:¬ (!its.toArray.isEmpty&&Builtin.List.listTooLong (its.toArray.size+nD.toArray.size))=zO:=by
  rw[aaw hsz,Bool.and_false];exact bY
 refine we F.slot_list_extend #[_,e,rfl] F.entry_list_extend (F.args_list_extend_2 _ _)
  (acU l its.toArray n b nD.toArray n2 Qz (by rw[bf];lia) zb) #[e,e2,?_]
 refine#[.non,_,I.aau (its':=its++nD) hH e zf (r.append r2) ?_,rfl,q];rw[cJ];lia
def aaz:R2:=λx y H Q=>∃ l b xs zs,x=.ref l /\ y=.ref b /\ H l=some zb0 /\ H b=some (.lst zs) /\ xs.length+zs.length<=sizeLine /\ ∀ p,H p=zy->Q (.ref p) (upd H p (.lst (xs++zs)))
theorem D5:aO X (binaryOp .Add) aaz:=by
 intro pins s σ H x y v u Q I rx ry h;let#[l,b,xs,zs,rfl,rfl,hH,hB,hz,q]:=h;cases rx;cases ry;let#[z,its,n,r,hl,e]:=I.uk hH;let#[z2,nD,n2,r2,rK,e2]:=I.uk hB;refine PySem.P.add_list e e2 ?_ (by rw[bf,bf];lia);have ea:its.toArray++nD.toArray=(its++nD).toArray:=by simp
 rw[ea];exact#[.ref _,_,I.aav (t':=s.toks) (r.append r2) (by rw[cJ];lia),rfl,q _ I.fresh]
def aaA:R2:=λx y H Q=>∃ l k xs,x=.ref l /\ y=.int k /\ H l=some zb0 /\ -(2 ^ 63)<=k /\ k<2 ^ 63 /\ xs.length*k.toNat<=sizeLine /\
 ∀ p,H p=zy->Q (.ref p) (upd H p (.lst (List.replicate k.toNat xs).flatten))
theorem N8 (xs:List α) (k:Nat):(List.replicate k xs).flatten.length=k*xs.length:=by
 induction k with
 |zero=>simp
 |succ k ih=>rw[t9,uW,cJ,ih,ya,Nat.add_comm]
theorem SD:aO X (binaryOp .Mult) aaA:=by
 intro pins s σ H x y v u Q I rx ry h;let#[l,k,xs,rfl,rfl,hH,h1,h2,hz,q]:=h;cases rx;let#[t,rfl]:=ry;let#[z,its,n,r,hl,e]:=I.uk hH;have hlen:its.toArray.size*k.toNat<=sizeLine:=by rw[bf,<-hl];exact hz
 have ad8:¬ its.toArray.size*k.toNat>(2 ^ 63-1) / 8:=by
  have:(sizeLine:Nat)<=(2 ^ 63-1) / 8:=by decide
  lia
 have ad9:¬ (!Builtin.List.listFitsIndex k)=zO:=by
  rw[fitsIndex_both h1 h2];exact bY
 have Qz:¬ Builtin.List.listTooLong (its.toArray.size*k.toNat)=zO:=by
  rw[aaw hlen];exact bY
 have aea:List.foldl (λx1 x2=>x1++x2) #[] (List.replicate (if its.toArray.isEmpty=zO then 0 else k.toNat) its.toArray)=(List.replicate k.toNat its).flatten.toArray:=by
  have f0:∀ m:Nat,List.foldl (λx1 x2=>x1++x2) #[] (List.replicate m its.toArray)=(List.replicate m its).flatten.toArray:=λm=>by
   have:=A9 its m [];rw[E4]at this;exact this
  rw[f0];cases its with
  |nil=>simp
  |cons a r'=>rw[if_neg zf]
 refine wpAny_binaryOp_repeat_ref (T:="list") (U:="int") za #[_,e,rfl] (λs'=>Ka s' k t) noFill_list_mul F.fills_int_mul Zy repeat_list F.slot_int_index.lookup
  (we Zy (Ka s k t) F.entry_int_rmul (F.args_int_rmul_2 _ _) (int___rmul___int_list k t l its.toArray n)
   #[e,rfl,#[_,e,rfl],we F.slot_list_mul #[_,e,rfl] F.entry_list_mul (F.args_list_mul_2 _ _) (adj l its.toArray n k t ad9 ad8 Qz) #[e,?_]])
 rw[aea];exact#[.ref _,_,I.aav (t':=s.toks) (r.rep k.toNat) (by rw[N8,Nat.mul_comm];exact hz),rfl,q _ I.fresh]
end L2
namespace aaB
open PySem.W PySem.Calls
theorem oE {P:Params}{h:Heap}:∀ (ns:List Int) (vs:List kz),WellAll P h vs (ns.map WData.int)->IntsAre vs ns:=by
 intro ns;induction ns with
 |nil=>
   intro vs w;rw[wz]at w;cases w;exact .nil
 |cons n ns ih=>
   intro vs w;rw[bh]at w;cases w with
   |cons a b=>
     cases a;exact .cons _ _ (ih _ b)
theorem Jo {l:OpenLaw}(hn:l.most=some n) {P:Params}{h:Heap}{args:List WData}{vals:List kz}
 (HC:l.row.toRowW.claim.pre args=zO) (QA:WellAll P h vals args) :
 ∃ a vs ns,vals=[Value.ref a] /\ args=[WData.list (ns.map WData.int)] /\ h.get? a=some { cls:=.type "list",data:=.seq vs.toArray } /\ IntsAre vs ns /\ ns.length<=n:=by
 have aeb:WShape.hasAll [] args [.list .int]=zO:=(pre_splitW HC).1;have hc:l.pre.holds [] { args:=args }=zO:=(pre_splitW HC).2;let#[d,r,rfl,h1,h2]:=hasAllW_cons aeb;obtain rfl:=hasAllW_nil h2;let#[xs,rfl,h3]:=hasW_list h1;let#[ns,rfl]:=items_int h3;have hlen:ns.length<=n:=by
  unfold OpenLaw.pre at hc;have h4:(WTm.not (.lt (.lit (.int (n:Int))) (.len (.arg 0)))).holds [] { args:=[.list (ns.map .int)] }=zO:=by
   have h4:=(holds_andW hc).1;rw[hn]at h4;exact h4
  have h5:=condW_of h4 (w_not (w_lt w_lit (w_len_list (w_arg bz))));rw[aS]at h5;refine uT λq=>?_;have q':(n:Int)<((ns.length:Nat):Int):=by lia
  first
   |(rw[decide_eq_true q']at h5;exact absurd h5 za)
   |(simp at h5;lia)
 cases QA with
 |cons w1 w2=>
   cases w2;cases w1 with
   |list ho QB=>exact#[_,_,ns,rfl,rfl,ho,oE ns _ QB,hlen]
theorem Jp (l:OpenLaw) (args:List WData):l.row.toRowW.claim.post args (.bool zO) args=zO:=
 postW_of (r:=l.row.toRowW) (X:=(zO==zO))
  (show WShape.has [] (.bool zO) .bool=zO by first|rfl|decide|simp[WShape.has,WShape.arms,WShape.armsAll])
  (show (WTm.eq .res (.lit (.bool zO))).value [] { args:=args,res:=some (.bool zO),after:=args }=some (.bool (zO==zO)) from w_eq_bool (w_res bz) w_lit) bz
theorem aec {l:OpenLaw}{q:Program}{loose:List Str}{XP:(Str->Option kz)->Heap->uu}{YP:World->Heap->uu}{d:DefRec}
 (hn:l.most=some n) (QC:d.params.defaults=[])
 (call:∀ (w:World) (s₀ s₁:Shared) (mg mb:Str->Option kz) (fa:Addr) (o:Obj) (pm cd doc:kz) (a:Addr) (vs:List kz) (ns:List Int),
  Ground q loose [] XP w s₀ mg mb s₁.heap->YP w s₁.heap ->
  s₁.heap.get? fa=some o->o.data=.func (docDef d.name d.params d.body d.scope pm cd doc)->s₁.heap.CodeRec cd d.name->mg d.name=some (.ref fa) ->
  s₁.heap.get? a=some { cls:=.type "list",data:=.seq vs.toArray }->IntsAre vs ns->ns.length<=n->s₁.gens=#[] ->
  codeAny (model l.prog w) callerA (.call (.ref fa) #[[.ref a],[]]) (λr s'=>r=.ok (.ret (.bool zO)) /\ OldK s₁.heap s'.heap /\ s'.os=s₁.os /\ AllBare s'.gens) s₁) :
 WalkO q loose XP YP l.row.toRowW d [] (λf vs=>PySem.call f vs):=by
 intro w s₀ s₁ mg mb G Y fa o pm cd doc dV kV ho hd dg hD hmg hg args vals as HC aio aip QA aiq;obtain rfl:dV=.none:=Dflts.none hD QC;obtain rfl:kV=.none:=Dflts.noKw hD;let#[a,vs,ns,rfl,rfl,QD,hints,hlen]:=Jo hn HC QA;refine enter_call (xS (call w s₀ s₁ mg mb fa o pm cd doc a vs ns G Y ho (fd_plain hd) dg hmg QD hints hlen hg) λr s' hq=>?_);let#[rfl,h2,h3,h4]:=hq;exact#[.inl #[.bool zO,.bool zO,[],rfl,λ_=>rfl,.bool zO,Jp l _,λ_=>#[List.Pairwise.nil,λ_ hm=>(nomatch hm)]],h2,h3,h4]
end aaB
namespace L2
theorem Ba:∀ {vs:List kz}{ns:List Int},IntsAre vs ns->Vals zb5 vs
 |_,_,.nil=>.nil
 |_,_,.cons n t h=>.cons #[t,rfl] (Ba h)
def QE (H:Hp):uu:=∀ b,H b=zy \/ ∃ o xs,H b=some (.eX o zb0)
theorem LL {mb:Str->Option kz}{k:Nat}{fa:Addr}{s₁:Shared}{vs:List kz} 
 (KX:K.In s₁.heap) (cW:s₁.heap.Ns mainGlobals mg) (hb:s₁.heap.Ns builtinsNs mb) (aed:∀ x:Str,x ≠ "__name__"->mb x=bootBuiltins x) (aee:s₁.heap.NoLimit) (hg:s₁.gens=#[])
 (ha:s₁.heap.get? a=some { cls:=.type "list",data:=.seq vs.toArray }) (hi:IntsAre vs ns) (hl:ns.length<=sizeLine) (hr:bV k callerA)
 (F:∀ base:Heap,K.In base->base.Ns mainGlobals mg->eM P w K mg base CX k fa fd [x] sp) (aef:∀ (s:Shared) (u:kz),BindsTo s fd #[[u],[]] [(x,u)])
 (pI:∀ H:Hp,QE H->ba K H a zb5->sp [.ref a] H (λv _=>v=.bl zO) λ_ _ _=>False)
 (aeg:∀ H e s',CX [] H s₁ (λ_ _ _=>False) e s'->False) :
 codeAny (model P w) callerA (.call (.ref fa) #[[.ref a],[]]) (λr s'=>r=.ok (.ret (.bool zO)) /\ OldK s₁.heap s'.heap /\ s'.os=s₁.os /\ AllBare s'.gens) s₁:=by
 have rv:=Ba hi;have aeh:=hi.length
 have core:∀ H:Hp,QE H->ba K H a zb5->bQ P w H s₁.heap->(∀ b,H b≠zy->b=a)->(H a≠zy->K.lookup a=zy) ->
  codeAny (model P w) callerA (.call (.ref fa) #[[.ref a],[]]) (λr s'=>r=.ok (.ret (.bool zO)) /\ OldK s₁.heap s'.heap /\ s'.os=s₁.os /\ AllBare s'.gens) s₁:=by
  intro H hO hS aj hA hK;have jw:∀ {b:Addr}{o:Obj},s₁.heap.get? b=some o->H b=zy->(sM s₁.heap H).get? b=some o:=λe n=>Ll e n;have yC:∀ {b:Addr}{o:Obj}{es:Array DictEntry}{ep:Nat},s₁.heap.get? b=some o->o.data=.dict es ep->H b=zy:=λ{b o es ep} e d=>by
   cases q:H b with
   |none=>rfl
   |some u=>
     have e':b=a:=hA b (by rw[q];simp);subst e';rw[ha]at e;cases e;have d':Data.seq vs.toArray _=Data.dict es ep:=d;cases d'
  have HD:∀ {b:Addr}{m:Str->Option kz},s₁.heap.Ns b m->(sM s₁.heap H).Ns b m:=λ{b m} ⟨o,es,ep,e,d,r⟩=>#[o,es,ep,jw e (yC e d),d,r];have aaC:K.In (sM s₁.heap H):=λb o e=>jw (KX b o e) (by
   cases q:H b with
   |none=>rfl
   |some u=>
     have e':b=a:=hA b (by rw[q];simp);subst e';rw[hK (by rw[q];simp)]at e;cases e)
  have hM:Mod K mg (sM s₁.heap H):=#[aaC,HD cW,#[mb,HD hb,aed],let ⟨mc,h1,h2⟩:=aee;#[mc,HD h1,h2]];have e0:wV P w K mg (sM s₁.heap H) callerA [] s₁ H:=#[rfl,hM,λb o e=>NX e,uU (Jd _ _),trivial,λb hb=>absurd (show b∈([]:List Addr) from hb) zf,aj,.of_eq hg];refine xS ((F _ aaC (HD cW)).run callerA [] s₁ H #[[.ref a],[]] [.ref a] [.ref a] _ _ hr e0 (aef s₁ za3) (.cons bz .nil) (pI H hO hS)) λr s' h=>?_;cases r with
  |error e=>exact(aeg H e s' h).elim
  |ok fl=>
    cases fl with
    |next=>exact False.elim h
    |brk=>exact False.elim h
    |cont=>exact False.elim h
    |ret u=>
      let#[v,H',os,bare,un,aei,r',q]:=h;have q':v=.bl zO:=q;subst q';obtain rfl:u=Value.bool true:=r';refine#[rfl,OldK.of_keep λb o e=>?_,os,bare];cases q:H b with
      |none=>exact un.keep b o e q (by intro z;exact absurd (show b∈([]:List Addr) from z) zf) zf
      |some u=>
        rcases hO b with z|⟨ob,xs,z⟩
        .rw[q]at z;cases z
        .have z2:=un.nv b ob _ z;let#[e1,_]:=aj b _ z;let#[e2,_]:=aei b _ z2;rw[e]at e1;cases e1;exact e2
 cases hk:K.lookup a with
 |some o=>
   have e:=KX a o hk;rw[ha]at e;cases e;refine core (λ_=>zy) (λ_=>.inl bz) (.inr #[_,vs.toArray,_,hk,rfl,rfl,rfl,by rw[bf,aeh];exact hl,by simpa using rv]) (λb u z=>by have z':(zy:Option HO)=some u:=z;cases z') (λb z=>absurd rfl z) λz=>absurd rfl z
 |none=>
   refine core (λb=>if b=a then some (.eX { cls:=.type "list",data:=.seq vs.toArray } (.lst zb5)) else zy) (λb=>?_) (.inl (.inr #[{ cls:=.type "list",data:=.seq vs.toArray },if_pos bz])) (λb u z=>?_) (λb z=>?_) λ_=>hk
   .by_cases hb:b=a
    .exact .inr #[_,_,if_pos hb]
    .exact .inl (if_neg hb)
   .by_cases hb:b=a
    .have z':=(if_pos hb).symm.trans z;cases z';subst hb;exact#[ha,by rw[aS];exact hl,vs,_,rv,ha]
    .have z':=(if_neg hb).symm.trans z;cases z'
   .by_cases hb:b=a
    .exact hb
    .exact absurd (if_neg hb) z
end L2
/- THE LAST air (shape;ais,My.* are ait):
 My.aiu: a structure of the addresses that aiv aiw names (classes,aix);My.Txt K t: a structure (uu) of the equations over K;
 My.aiy:{K}{implicit addresses ..}(e1:nsIn K mainGlobals "law"=some (some zb1)) (e2:K.lookup f=some #[oc,od,.func (fnOf "law" "law" params body scope dV kV doc pm an cdv ct),sl]) (e3:codeIn K cdv "law"=zO) ..:∃ t,My.Txt K t
(the tactic k_is has no namespace: write k_is) -/
namespace L2
noncomputable def ja (s:Stmt):Arguments:=match s with
 |.FunctionDef _ a _ _ _ _ _ _ _ _=>a
 |_=>{ posonlyargs:=[],args:=[],vararg:=zy,kwonlyargs:=[],kw_defaults:=[],kwarg:=zy,defaults:=[] }
noncomputable def gK (s:Stmt):List Stmt:=match s with
 |.FunctionDef _ _ b _ _ _ _ _ _ _=>b
 |_=>[]
noncomputable def fH (s:Stmt):Scope:=match s with
 |.FunctionDef _ _ _ _ _ _ sc _ _ _=>sc
 |_=>{ kind:=.function,names:=[],isGenerator:=zw,isCoroutine:=zw }
abbrev qC:nX:=λ_ _ _ _ _ _=>False
noncomputable abbrev E0:XK:=λ_ _ _=>False
theorem aej:Passes qC X E0:=λ_ _ _ _ _ _ _ h=>h.elim
structure hG (K:PySem.W.Frag) (x qual:Str) (st:Stmt) (f:Addr) (fd:FuncData):uu where
 ex:∃ (oc:kz) (od:Option Addr) (kV doc pm:kz) (an:Option Addr) (cdv ct:kz) (pE:Array (Option kz)),
  fd=PySem.W.fnOf x qual (ja st) (gK st) (fH st) .none kV doc pm an cdv ct /\ K.lookup f=some #[oc,od,.func fd,pE] /\ PySem.W.codeIn K cdv qual=zO
 kp:PySem.W.keepIn K zb1=zO
theorem hG.ok {f:Addr}{ps:List Str}{k:Nat}(F:hG K x qual st f fd) (S:qa N ps (fH st)) (len:∀ vs H Q E,sp vs H Q E->vs.length=ps.length)
 (kj:∀ (cdv:kz) (A:Around) (outer:List Env) (s:Shared) (H:Hp) (vs:List V) (Q:VK) (E:XK),bV k zaJ->sp vs H Q E ->
  ∃ t,cV (nY qC P w K mg base N qual (fH st) f cdv A outer s H E).dh (gK st) t /\ t { nx:=λ_ H'=>Q .non H',rt:=Q } zcS H):eM P w K mg base qC (k+1) f fd ps sp:=by
 let#[oc,od,kV,doc,pm,an,cdv,ct,pE,rfl,lk,dg]:=F.ex;refine RF lk dg S len λA outer s H vs Q E hr pI=>?_;let#[t,h,q]:=kj cdv A outer s H vs Q E hr pI;exact#[t,h.dh,q]
theorem hG.binds {f:Addr}{ps:List Str}(F:hG K x qual st f fd)
 (h:∀ (kV doc pm:kz) (an:Option Addr) (cdv ct:kz) (us:List kz),us.length=ps.length->bindArgs zbL #[us,[]]=pure (ps.zip us)):Binds K fd ps []:=by
 let#[oc,od,kV,doc,pm,an,cdv,ct,pE,rfl,lk,dg]:=F.ex;exact .all (h kV doc pm an cdv ct)
theorem D6 {f:Addr}{oc:kz}{od an:Option Addr}{kV doc pm cdv ct:kz}(l:K.lookup f=some #[oc,od,.func zbL,pE])
 (c:PySem.W.codeIn K cdv qual=zO) (k:PySem.W.keepIn K zb1=zO):hG K x qual st f zbL:=#[#[oc,od,kV,doc,pm,an,cdv,ct,pE,rfl,l,c],k]
theorem aaD (h:n<=1000):n<sizeLine:=EV h za
theorem pv (i:Nat) (hN:X.N[i]?=some x:=by rfl) (hv:rD X.env.scope x:=by first|exact Or.inl bz|exact Or.inr (Or.inl bz)|exact Or.inr (Or.inr bz)) (hd:(x==("__debug__":Str))=zw:=by decide)
 (dg:(x==("__classdict__":Str))=zw:=by decide):PE X zcq (Z4 i):=oZ hN hv hd dg
theorem aaE {A B:uu}(h:B):if zw=zO then A else B:=by
 rw[if_neg bY];exact h
def kR (H H':Hp):uu:=∀ b o,H b=some o->H' b=some o
theorem kR.free (e:kR H H') {l:Addr}(h:H' l=Option.none):H l=Option.none:=by
 cases q:H l with
 |none=>rfl
 |some o=>
   rw[e l o q]at h;cases h
noncomputable def dS (cells:List (Str×Addr)):List (Str×NameKind)->List (Str×Addr)->List (Str×Addr)
 |[],acc=>acc
 |(n,k)::r,acc=>dS cells r (if k==.free then (match cells.lookup n with|some c=>(n,c)::acc|none=>acc) else acc)
theorem jI {env:Env}:∀ (names:List (Str×NameKind)) (acc:List (Str×Addr)),(∀ y∈names,y.2=.free->∃ c,env.cells.lookup y.1=some c) ->
 (forIn names acc (λ(x:Str×NameKind) (r:List (Str×Addr))=>(match x with
  |(name,kind)=>if (kind==NameKind.free)=zO then (do let a <-cellOf env name;pure (ForInStep.yield ((name,a)::r))) else pure (ForInStep.yield r):Sem (ForInStep (List (Str×Addr))))))=(pure (dS env.cells names acc):Sem _)
 |[],acc,_=>rfl
 | (n,k)::r,acc,h=>by
   rw[yd];by_cases hk:k=.free
   .subst hk;let#[c,e]:=h (n,.free) bK bz;have e':env.cells.lookup n=some c:=e;have e1:cellOf env n=pure c:=by unfold cellOf;rw[e']
    dsimp only;rw[if_pos za,e1];have q:=jI (env:=env) r ((n,c)::acc) λy hy=>h y (bL _ hy);have z:dS env.cells ((n,NameKind.free)::r) acc=dS env.cells r ((n,c)::acc):=by
     show dS env.cells r _=_;rw[if_pos za,e']
    rw[z,<-q];rfl
   .dsimp only;have hb:(k==NameKind.free)=zw:=by simpa using hk
    rw[if_neg (by rw[hb];decide)];have q:=jI (env:=env) r acc λy hy=>h y (bL _ hy);have z:dS env.cells ((n,k)::r) acc=dS env.cells r acc:=by
     show dS env.cells r _=_;rw[if_neg (by rw[hb];decide)]
    rw[z,<-q];rfl
theorem Ad {scope:Scope}{env:Env}(h:∀ y∈scope.names,y.2=.free->∃ c,env.cells.lookup y.1=some c):closureFor scope env=pure (dS env.cells scope.names []):=by
 have q:=jI (env:=env) scope.names [] h;unfold closureFor;first
  |exact q
  |(dsimp only;rw[show (forIn scope.names ([]:List (Str×Addr)) _:Sem _)=_ from q];rfl)
  |(rw[<-q];rfl)
theorem Cj {cells:List (Str×Addr)}:∀ (names:List (Str×NameKind)) (acc:List (Str×Addr)),(∀ x c,acc.lookup x=some c->cells.lookup x=some c)->∀ x c,(dS cells names acc).lookup x=some c->cells.lookup x=some c
 |[],_,h=>h
 | (n,k)::r,acc,h=>by
   refine Cj r _ ?_;intro x c e;by_cases hk:(k==NameKind.free)=zO
   .rw[if_pos hk]at e;cases q:cells.lookup n with
    |none=>rw[q]at e;exact h x c e
    |some a=>
      rw[q]at e;have e':((n,a)::acc).lookup x=some c:=e;rw[eW]at e';cases hx:x==n with
      |true=>rw[hx]at e';rw[eq_of_beq hx,q];exact e'
      |false=>rw[hx]at e';exact h x c e'
   .rw[if_neg hk]at e;exact h x c e
theorem Ck {cells:List (Str×Addr)}:∀ (names:List (Str×NameKind)) (acc:List (Str×Addr)) (x:Str),((∃ c,acc.lookup x=some c) \/ ((x,NameKind.free)∈names /\ ∃ c,cells.lookup x=some c))->∃ c,(dS cells names acc).lookup x=some c
 |[],_,x,h=>h.elim id λz=>nomatch z.1
 | (n,k)::r,acc,x,h=>by
   refine Ck r _ x ?_;rcases h with⟨c,e⟩|⟨hm,c,e⟩
   .left;by_cases hk:(k==NameKind.free)=zO
    .rw[if_pos hk];cases q:cells.lookup n with
     |none=>exact#[c,e]
     |some a=>
       show ∃ c,((n,a)::acc).lookup x=some c;rw[eW];cases hx:x==n with
       |true=>exact#[a,rfl]
       |false=>exact#[c,e]
    .rw[if_neg hk];exact#[c,e]
   .rcases aH.mp hm with z|z
    .have z1:x=n:=congrArg Prod.fst z;have z2:NameKind.free=k:=congrArg Prod.snd z;subst z1;subst z2;left;rw[if_pos za,e];exact#[c,by show ((x,c)::acc).lookup x=_;rw[eW,beq_self_eq_true]]
    .exact .inr #[z,c,e]
theorem lR {env:Env}:∀ (names:List (Str×NameKind)) (x:Str) (k':NameKind),
 (names.map λ(n,k)=>if zp then zcX else (n,k)).lookup x=some k' ->
 ∃ k,names.lookup x=some k /\ (k'=k \/ (k=.free /\ k'=.cell))
 |[],_,_,h=>by simp at h
 | (n,k)::r,x,k',h=>by
   have h':List.lookup x ((if zp=zO then zcX else (n,k))::(r.map λ(n,k)=>if zp then zcX else (n,k)))=some k':=h;by_cases hc:zp=zO
   .rw[if_pos hc,eW]at h';rw[eW];cases hx:x==n with
    |true=>
      rw[hx]at h';have hk:k=.free:=by
       cases hq:(k==NameKind.free) with
       |true=>exact eq_of_beq hq
       |false=>rw[hq]at hc;simp at hc
      exact#[k,rfl,.inr #[hk,(Option.some.inj h').symm]]
    |false=>rw[hx]at h';exact lR r x k' h'
   .rw[if_neg hc,eW]at h';rw[eW];cases hx:x==n with
    |true=>rw[hx]at h';exact#[k,rfl,.inl (Option.some.inj h').symm]
    |false=>rw[hx]at h';exact lR r x k' h'
theorem jJ {env:Env}:∀ (names:List (Str×NameKind)) (x:Str),names.lookup x=some .free ->
 (names.map λ(n,k)=>if zp then zcX else (n,k)).lookup x=some .cell \/
 (names.map λ(n,k)=>if zp then zcX else (n,k)).lookup x=some .free
 |[],_,h=>by simp at h
 | (n,k)::r,x,h=>by
   show List.lookup x ((if zp=zO then zcX else (n,k))::_)=_ \/ List.lookup x ((if zp=zO then zcX else (n,k))::_)=_;rw[eW]at h;by_cases hc:zp=zO
   .rw[if_pos hc,eW];cases hx:x==n with
    |true=>exact .inl bz
    |false=>rw[hx]at h;exact jJ r x h
   .rw[if_neg hc,eW];cases hx:x==n with
    |true=>rw[hx]at h;exact .inr h
    |false=>rw[hx]at h;exact jJ r x h
theorem iK:∀ (names:List (Str×NameKind)) (n:Nat) (acc:List (Str×Addr)),cellsFrom n names acc=cellsFrom n names []++acc
 |[],_,_=>rfl
 | (x,k)::r,n,acc=>by
   unfold cellsFrom;split
   .rw[iK r (n+1) ((x,n)::acc),iK r (n+1) [(x,n)],kL];rfl
   .exact iK r n acc
theorem mP:∀ (names:List (Str×NameKind)) (n:Nat) {x:Str}{c:Addr},(x,c)∈cellsFrom n names []->(x,NameKind.cell)∈names
 |[],_,_,_,h=>nomatch h
 | (y,k)::r,n,x,c,h=>by
   unfold cellsFrom at h;split at h
   .ext hk;rw[iK]at h;rcases cZ.mp h with h|h
    .exact bL _ (mP r _ h)
    .cases bu.mp h;rw[<-eq_of_beq hk];exact bK
   .exact bL _ (mP r _ h)
theorem Ae {α:Type}:∀ {l:List (Str×α)}{x:Str}{a b:α},(l.map (·.1)).Nodup->(x,a)∈l->(x,b)∈l->a=b
 | (y,c)::l,x,a,b,h,ha,hb=>by
   rw[bh,sI]at h;rcases aH.mp ha with e|ha<;>rcases aH.mp hb with e'|hb
   .rw[<-e']at e;exact(Prod.mk.inj e).2
   .exact absurd (bU.mpr #[_,hb,(Prod.mk.inj e).1]) h.1
   .exact absurd (bU.mpr #[_,ha,(Prod.mk.inj e').1]) h.1
   .exact Ae h.2 ha hb
theorem jK {α:Type}{x:Str}:∀ {l m:List (Str×α)},(l++m).lookup x=match l.lookup x with|some a=>some a|none=>m.lookup x
 |[],m=>rfl
 | (y,a)::l,m=>by
   rw[sD,eW,eW];cases x==y with
   |true=>rfl
   |false=>exact jK
theorem Af {scope:Scope}{globals:Addr}{cl:List (Str×Addr)}{env:Env}{Q:Env->Shared->uu}
 (h:Q { scope:=scope,locals:=s.heap.objs.size,globals:=globals,cells:=cellsFrom zU scope.names cl,qual:=qual,func:=zy,code:=env.code,frame:=env.frame,builtins:=env.builtins }
  { s with heap:=pushCells zar scope.names }) :
 wpAny M A (newFunctionEnv scope globals cl [] qual zy .none (some env)) Q E s:=by
 unfold newFunctionEnv;refine ae (wpAny_alloc (ae (wpAny_layCells _ (λname kind cells=>by cases hk:kind==NameKind.cell<;>simp[hk]) _ _ _ _ ?_)));rw[show ({ s with heap:=s.heap.push { cls:=.type (if (some env).isSome=true then "dict" else "frame"),data:=.dict #[] } }:Shared).heap.objs.size=s.heap.objs.size+1 from rj ..];exact ae (ag (ag h))
noncomputable abbrev Cx.comp (X:Cx) (N:List Str) (scope:Scope) (cl:List (Str×Addr)) (s:Shared) (H:Hp) (C:Addr) (fp:List Addr):Cx:=
 { X with N:=N,s₀:=s,H₀:=H,env:=compEnvC scope cl C X.env,outer:=X.stack,stack:=X.stack,ex:=fp,fn:=λx=>decide (scope.names.lookup x=some .cell),pn:=[],xe:=λ_ _=>False }
structure nZ (X:Cx) (N:List Str) (src:List (Option Nat)) (scope:Scope):uu where
 kind:scope.kind=.function
 nk:(scope.names.map (·.1)).Nodup
 names:∀ y∈scope.names,y.2=.local->scope.names.lookup y.1=some .local
 has:∀ y∈scope.names,y.2=.free->X.env.kindOf y.1=some .cell \/ X.env.kindOf y.1=some .free
 aek:src.length=N.length
 ael:∀ (j i:Nat) (x:Str),src[j]?=some (some i)->N[j]?=some x->X.N[i]?=some x /\ scope.names.lookup x=some .free
noncomputable def sW (src:List zaw) (σ:St):St:=src.map λo=>o.bind λi=>(σ[i]?).bind id
def PF (X:Cx) (ifs:List Expr) (t:TT):uu:=
 ∀ (pins:List (Addr×Obj)) (s:Shared) (σ:St) (H:Hp) (Q:Bool->Hp->uu),Inv X pins σ H s->t σ H Q ->
  wpAny ze X.A (forIn ifs zO λc r=>if r=zO then do let ok <-isTrue c X.env (eval c X.env);pure (ForInStep.yield ok) else pure (ForInStep.yield r)) (TP X pins σ Q) X.xe s
theorem SE:PF X [] (λ_ H Q=>Q zO H):=λ_ _ _ H _ I h=>wpAny_tests_nil #[H,I,h]
theorem SF {t:TT}(h:PT X c t):PF X [c] t:=λpins s σ H Q I hw=>wpAny_tests_one (h pins s σ H Q I hw)
def aem (J:It) (g:TG) (tf:TT) (te:TE) (D:Addr) (Q:VK) (σ0:St) (H0:Hp):uu:=
 ∃ W:Nat->Nat->St->Hp->uu,(∃ m,W 0 m σ0 H0) /\ ∀ i m σ' H',W i m σ' H' ->
  (J.stop i H' /\ Q zcA H') \/ (J.go i H' /\ ∃ N:St->Hp->uu,(∀ σ2 H2,N σ2 H2->∃ m',m'<m /\ W (i+1) m' σ2 H2) /\ ∀ x H2,J.yx i H' x H2->g x σ' H2 λσ2 H3=>tf σ2 H3 λb H4=>
   if b=zO then te σ2 H4 λy H5=>∃ ys,H5 D=some (.lst ys) /\ ys.length<sizeLine /\ N σ2 (upd H5 D (.lst (ys++[y]))) else N σ2 H4)
def HE (src:List zaw) (wi:TI) (g:TG) (tf:TT) (te:TE):TE:=λσ H Q=>wi σ H λJ H1=>∀ D,H1 D=zy->aem J g tf te D Q (sW src σ) (upd H1 D (.lst []))
noncomputable abbrev qD (P:Program) (w:World) (A:Around) (env:Env) (R:Result->Shared->uu):kz->Shared->uu:=
 notedBy (model P w) A env λx z=>R (.error x) z
noncomputable abbrev QF (ifs:List Expr) (env:Env):Sem Bool:=
 forIn ifs zO λc r=>if r=zO then do let ok <-isTrue c env (eval c env);pure (ForInStep.yield ok) else pure (ForInStep.yield r)
theorem BH {scope:Scope}{it acc:kz}{env:Env}
 (J:Nat->Shared->uu) (N:kz->Nat->Shared->uu)
 (hN:∀ v n z,N v n z->wpAny zg A (letOwnedTupleGo tg it v) (λ_ z1=>
  wpAny zg A (assign tg env v) (λ_ z2=>
  wpAny zg A (QF ifs env) (λb z3=>
   if b=zO then wpAny zg A (eval elt env) (λy z4=>
    wpAny zg A (call (.builtin "list.append") [acc,y])
     (λ_ z5=>∃ k,k<n /\ J k z5) zbn z4) zbn z3
   else ∃ k,k<n /\ J k z3)
   zbn z2) zbn z1) zbn z)
 (go:∀ n z,J n z->wpAny zg A (pyNext it)
  (λr z1=>match r with|none=>R (.ok .next) z1|some v=>N v n z1) zbn z)
 (n:Nat) (h:J n s) :
 codeAny zg A (.compLoop zE 0 it acc env) R s:=by
 refine X3 bz J (λk z hz=>?_) n h;show wpAny _ A (Sem.onRaise (compTurn _ 0 it acc env) _) _ _ z;refine X4 ?_;rw[compTurn_list];refine ae (sk (ae ?_));refine cC (go k z hz) (λr z1 h1=>?_) λ_ _ q=>q;cases r with
 |none=>exact ag h1
 |some v=>
   refine ae (cC (hN v k z1 h1) (λ_ z2 h2=>ae ?_) λ_ _ q=>q);refine cC h2 (λ_ z3 h3=>ae ?_) λ_ _ q=>q;refine cC h3 (λb z4 h4=>?_) λ_ _ q=>q;cases b with
   |false=>exact ag #[rfl,h4]
   |true=>
     refine ae (ae (cC h4 (λy z5 h5=>ae ?_) λ_ _ q=>q));exact cC h5 (λ_ z6 h6=>ag (ag #[rfl,h6])) λ_ _ q=>q
theorem nZ.cells {N:List Str}{src:List zaw}{scope:Scope}(S:nZ X N src scope) (ok:X.Ok):∀ y∈scope.names,y.2=.free->∃ c,X.env.cells.lookup y.1=some c:=
 λy hy hf=>ok.has y.1 (S.has y hy hf)
theorem Cl {cells:List (Str×Addr)}{x:Str}{c:Addr}:∀ (names:List (Str×NameKind)) (acc:List (Str×Addr)),(x,c)∉acc->(x,c)∈dS cells names acc->(x,NameKind.free)∈names
 |[],_,h,e=>absurd e h
 | (n,k)::r,acc,h,e=>by
   by_cases hx:x=n /\ k=.free
   .let#[rfl,rfl]:=hx;exact bK
   .refine bL _ (Cl r _ ?_ e);by_cases hk:(k==NameKind.free)=zO
    .rw[if_pos hk];cases q:cells.lookup n with
     |none=>exact h
     |some a=>
       intro z;rcases aH.mp z with z|z
       .exact hx #[(Prod.mk.inj z).1,eq_of_beq hk]
       .exact h z
    .rw[if_neg hk];exact h
theorem Cn {src:List zaw}{scope:Scope}{s':Shared} 
 (S:nZ X N src scope) (I:Inv X pins σ H s) (QG:∀ b∈fp,eL X pins H b /\ b<s.heap.objs.size) (hh:s'={ s with heap:=pushCells zar scope.names }) :
 Inv (X.comp N scope (cellsFrom zU scope.names zbF) s H s.heap.objs.size fp) [] (sW src σ) H s':=by
 subst hh;have hk:∀ b o,s.heap.get? b=some o->(pushCells zar scope.names).get? b=some o:=λb o e=>EJ _ _ b o (aK _ e);have cW:(pushCells zar scope.names).Ns s.heap.objs.size (λ_=>zy):=(Heap.Ns.new s.heap (.type "dict")).keeps (EJ _ _);have ok:=cellsFrom_ok scope.names zar zU [] #[λ_ _ hm=>(nomatch hm),List.Pairwise.nil] (by rw[rj];exact au _);rw[rj]at ok;have split:∀ x c,(cellsFrom zU scope.names zbF).lookup x=some c->(cellsFrom zU scope.names []).lookup x=some c \/ (dS X.env.cells scope.names []).lookup x=some c:=λx c e=>by
  rw[iK,jK]at e;cases q:(cellsFrom zU scope.names []).lookup x with
  |some a=>rw[q]at e;exact .inl e
  |none=>rw[q]at e;exact .inr e
 have own:∀ x c,(cellsFrom zU scope.names []).lookup x=some c->s.heap.objs.size<c /\ (pushCells zar scope.names).IsCell c zy:=λx c e=>by
  let#[a,b]:=ok.empty x c (nS e);exact#[b,a]
 have aaF:∀ x,scope.names.lookup x=some .free->(cellsFrom zU scope.names zbF).lookup x=(dS X.env.cells scope.names []).lookup x:=λx e=>by
  rw[iK,jK];cases q:(cellsFrom zU scope.names []).lookup x with
  |some a=>exact absurd (Ae S.nk (nS e) (mP _ _ (nS q))) za
  |none=>rfl
 have low:∀ x c,X.env.cells.lookup x=some c->c<s.heap.objs.size:=λx c e=>by
  let#[v,o,ho,_]:=I.cell x c e;exact aN ho
 have sub:=Cj (cells:=X.env.cells) scope.names [] (λx c e=>by simp at e);have aen:∀ x,((relabel scope X.env).names.lookup x=some .cell \/ (relabel scope X.env).names.lookup x=some .free)->scope.names.lookup x=some .free \/ scope.names.lookup x=some .cell:=λx hx=>by
  have go:∀ k',(k'=NameKind.cell \/ k'=NameKind.free)->(relabel scope X.env).names.lookup x=some k'->scope.names.lookup x=some .free \/ scope.names.lookup x=some .cell:=λk' HF e=>by
   let#[k,e1,q]:=lR (env:=X.env) scope.names x k' e;rcases q with q|⟨q,_⟩
   .subst q;rcases HF with z|z
    .subst z;exact .inr e1
    .subst z;exact .inl e1
   .subst q;exact .inl e1
  exact hx.elim (go _ zbs) (go _ (.inr bz))
 have aaG:∀ x,scope.names.lookup x=some .free->∃ c,(dS X.env.cells scope.names []).lookup x=some c /\ X.env.cells.lookup x=some c:=λx e=>by
  have hm:=nS e;let#[c,e1]:=Ck (cells:=X.env.cells) scope.names [] x (.inr #[hm,S.cells I.ok (x,.free) hm bz]);exact#[c,e1,sub x c e1]
 refine#[#[I.ok.mod,?_,I.ok.glob,I.ok.blt,au _,λx y c e1 e2=>?_,λx hx=>?_,λx c e=>?_,I.ok.hd,I.ok.frames,.inl bz,λb hb=>?_,I.bs,br I.ok.sN I.sz,λb o e hb=>?_,λb hb=>?_,I.stack,I.K8],
  rfl,I.bare,Un.kept hk,#[_,cW,λj x v e1 e2 e3=>?_],λx c e=>?_,I.aj.fresh (au _),λx c e=>?_,λp hp=>absurd (show p∈([]:List (Addr×Obj)) from hp) zf,I.aj.kept hk,?_]
 .exact S.kind
 .rcases split x c e1 with q1|q1<;>rcases split y c e2 with q2|q2
  .exact XQ ok.apart (nS q1) (nS q2)
  .exact absurd (EW (own x c q1).1 (low y c (sub y c q2))) (eJ _)
  .exact absurd (EW (own y c q2).1 (low x c (sub x c q1))) (eJ _)
  .exact I.ok.inj x y c (sub x c q1) (sub y c q2)
 .rcases aen x hx with k|k
  .let#[c,e1,_]:=aaG x k;exact#[c,(aaF x k).trans e1]
  .let#[c,e1]:=o9 (n:=s.heap.objs.size+1) k;refine#[c,?_];show (cellsFrom zU scope.names zbF).lookup x=some c;rw[iK,jK,e1]
 .intro hl;rcases split x c hl with q|q
  .exact rf (own x c q).1
  .have k:scope.names.lookup x=some .cell:=of_decide_eq_true e;have m:(x,NameKind.free)∈scope.names:=Cl _ _ zf (nS q);exact absurd (Ae S.nk (nS k) m) za
 .let#[f,hl]:=QG b hb;refine#[bT hl,λx c e=>?_];rcases split x c e with q|q
  .exact tZ (EW hl (own x c q).1)
  .exact f.2.2.2.2.1 x c (sub x c q)
 .let#[f,_]:=QG b hb;let#[_,_,_,f4,_]:=f;rcases f4 with z|z
  .exact I.ok.wM b o e z
  .have q:=(I.ok.bs b o e).1;exact absurd (dj (aN q) z) (eJ _)
 .let#[f,_]:=QG b hb;intro hz;rcases aH.mp (I.wN b hz) with e|e
  .exact f.2.1 e
  .exact f.2.2.1 e
 .have hs:∃ i,src[j]?=some (some i) /\ σ[i]?=some (some v):=by
   have sX:(src.map λo=>o.bind λi=>(σ[i]?).bind id)[j]?=some (some v):=e2;rw[ke]at sX;cases q:src[j]? with
   |none=>rw[q]at sX;cases sX
   |some o=>
     rw[q]at sX;cases o with
     |none=>cases sX
     |some i=>
       refine#[i,rfl,?_];have HG:(σ[i]?).bind id=some v:=Option.some.inj sX;cases z:σ[i]? with
       |none=>rw[z]at HG;cases HG
       |some o'=>
         rw[z]at HG;have:o'=some v:=HG;rw[this]
  let#[i,aeo,hσ]:=hs;let#[hN,hJ]:=S.ael j i x aeo e1;have aaH:=S.has (x,.free) (nS hJ) bz;let#[m,_,hl]:=I.loc;let#[u,r,lk]:=hl i x v hN hσ (.inr aaH);refine#[u,r,?_];rcases lk with⟨k,_⟩|⟨_,c,ec,Hi⟩
  .rcases aaH with z|z
   .rw[z]at k;cases k
   .rw[z]at k;cases k
  .let#[c',dU,sX]:=aaG x hJ;have:c'=c:=by rw[ec]at sX;exact(Option.some.inj sX).symm
   subst this;refine .inr #[?_,c',(aaF x hJ).trans dU,?_]
   .exact jJ (env:=X.env) scope.names x hJ
   .let#[o,ho,hd]:=Hi;exact#[o,hk _ _ ho,hd]
 .rcases split x c e with q|q
  .exact#[zy,(own x c q).2]
  .let#[v,o,ho,hd]:=I.cell x c (sub x c q);exact#[v,o,hk _ _ ho,hd]
 .rcases split x c e with q|q
  .exact I.aj.fresh (rf (own x c q).1)
  .exact I.ny x c (sub x c q)
 .show (sW src σ).length=N.length;unfold sW;rw[aS];exact S.aek
theorem Bb {src:List zaw}{scope:Scope}{wi:TI}{g:TG}{tf:TT}{te:TE}
 (hc:X.calm=zO) (S:nZ X N src scope) (hi:PI X tg iter wi)
 (hg:∀ cl s H C fp,PG zk tg g) (hf:∀ cl s H C fp,PF zk ifs tf) (he:∀ cl s H C fp,PE zk elt te)
 (hs:∀ x,foldedSetIterable iter X.env x=pure x) {use:Option (kz->Sem Unit)}{QQ:kz->Shared->uu}{Q:VK}(I:Inv X pins σ H s) (h:HE src wi g tf te σ H Q)
 (K:∀ D H5 s3 H3 C cl fp s6 σ5,Inv X pins σ H3 s3->s3.heap.objs.size=C->Inv zaY [] σ5 H5 s6->(∀ h',Heap.SameBut C s6.heap h'->Inv X pins σ H5 { s6 with heap:=h' })->Q zcA H5->compPost ze X.A X.xe use QQ zcA C (.ok .next) s6) :
 wpAny ze X.A (comprehension zE scope X.env pos' (newList []) zw (eval iter X.env) use) QQ X.xe s:=by
 refine X5 bz hs (Ad (S.cells I.ok)) S.kind S.names (bE (hi pins s σ H _ I h) λxv s1 h1=>bE h1 λyy s2 h2=>?_);let#[it,fp,tn,J,H2,e,I2,T,rH,f2,hW]:=h2;subst e;refine dJ ?_;generalize hD:s2.heap.objs.size=D;have QH:H2 D=zy:=I2.aj.fresh (uU hD);have I3:Inv X pins σ (upd H2 D (.lst [])) { s2 with heap:=s2.heap.push { cls:=.type "list",dict:=zy,data:=.seq ([]:List kz).toArray } }:=by
  subst hD;exact I2.laid (t':=s2.toks) (λb u e=>aK _ e) (au _) #[nT _,[],0,.nil,bw _ bz]
 let#[W,#[m0,w0],turn]:=hW D QH;have up:∀ b o,s2.heap.get? b=some o->(s2.heap.push { cls:=.type "list",dict:=zy,data:=.seq ([]:List kz).toArray }).get? b=some o:=λb u e=>aK _ e;have QI:=T.obj _ _ rH;have ug:tn 0 (s2.heap.push { cls:=.type "list",dict:=zy,data:=.seq ([]:List kz).toArray }):=T.keep _ _ _ rH λb _ o e=>up b o e;have yE:∀ b∈fp,b<s2.heap.objs.size:=λb hb=>by let#[o,e,_]:=QI b hb;exact aN e
 have f3:∀ b∈fp,eL X pins (upd H2 D (.lst [])) b:=λb hb=>#[by rw[fA (by rw[<-hD];exact bT (yE b hb))];exact(f2 b hb).1,(f2 b hb).2];generalize QJ:({ s2 with heap:=s2.heap.push { cls:=.type "list",dict:=zy,data:=.seq ([]:List kz).toArray } }:Shared)=s3 at I3 ⊢;have yF:s3.heap=s2.heap.push { cls:=.type "list",dict:=zy,data:=.seq ([]:List kz).toArray }:=by rw[<-QJ]
 rw[<-yF]at ug;have aep:∀ b∈fp,b<s3.heap.objs.size:=λb hb=>by rw[yF,rj];exact rh (yE b hb)
 generalize aiz:upd H2 D (.lst [])=H3 at I3 f3 w0;refine Af ?_;generalize yG:pushCells (s3.heap.push { cls:=.type "dict",data:=.dict #[] }) scope.names=h₁;have k1:∀ b o,s3.heap.get? b=some o->h₁.get? b=some o:=λb o e=>by rw[<-yG];exact EJ _ _ b o (aK _ e)
 have IY:=Cn S I3 (λb hb=>#[f3 b hb,aep b hb]) (s':={ s3 with heap:=h₁ }) (by rw[yG]);have yH:tn 0 h₁:=T.keep _ _ _ ug λb _ o e=>k1 b o e;generalize um:cellsFrom (s3.heap.objs.size+1) scope.names zbF=cl at IY ⊢;generalize hC:s3.heap.objs.size=C at IY ⊢;have wW:∀ {H':Hp},za9->∀ b∈fp,eL zaY [] H' b:=λhn b hb=>by
  refine#[hn b hb,?_,?_,.inl hb,?_,λp hp=>absurd (show p∈([]:List (Addr×Obj)) from hp) zf]
  .exact(IY.ok.vc b hb).1
  .exact IY.ok.vd b hb
  .intro x c e z;exact(IY.ok.vc b hb).2 x c e z
 have fin:∀ (σ':St) (H':Hp) (s':Shared),Inv zaY [] σ' H' s'->∀ h',Heap.SameBut C s'.heap h'->Inv X pins σ H' { s' with heap:=h' }:=λσ' H' s' I' h' rL=>by
  have vq:H' C=zy:=I'.free;have kp:∀ b o,b≠C->s'.heap.get? b=some o->h'.get? b=some o:=λb o hb e=>rL.extBut b o hb e;have QK:s3.heap.get? C=zy:=by rw[<-hC];exact yb (au _)
  have p8:∀ b o,s3.heap.get? b=some o->b≠C:=λb o e z=>by rw[z,QK]at e;cases e
  have U:=I'.base;refine I3.Qa (s':={ s' with heap:=h' }) (ch:=fp) I'.os #[λb o e n hb hx=>kp b o (p8 b o e) (U.keep b o e n hb hx),λb o e n hb hx=>?_,U.free,λb o e hx=>?_,U.nU,U.nv,U.nV] ?_ I'.bare λb hb=>?_
  .let#[sl,e1]:=U.slot b o e n hb hx;exact#[sl,kp b _ (p8 b o e) e1]
  .let#[o',e1]:=U.there b o e hx;exact#[o',kp b o' (p8 b o e) e1]
  .intro b ob e;refine(I'.aj b ob e).eY (λc w' bM q=>kp c w' (λz=>?_) q) (λ_ q=>q) λ_ _ q=>q;rcases bM with z1|z1
   .rw[<-z1,z,vq]at e;cases e
   .rw[z,vq]at z1;cases z1
  .exact#[(f3 b hb).2.2.2.1,(f3 b hb).2.1,λx c e=>(f3 b hb).2.2.2.2.1 x c e,(f3 b hb).2.2.2.2.2]
 have loop:∀ s4:Shared,s4={ s3 with heap:=h₁ } ->
  codeAny ze X.A (.compLoop zE 0 zay zcA (compEnvC scope cl C X.env)) (compPost ze X.A X.xe use QQ zcA C) s4:=by
  rintro s4 rfl;refine BH (λn s'=>∃ i σ' H',Inv zaY [] σ' H' s' /\ tn i s'.heap /\ za9 /\ W i n σ' H') _ (λ_ _ _ q=>q) ?_ m0 #[0,_,H3,IY,yH,λb hb=>(f3 b hb).1,w0];rintro n s5 ⟨i,σ5,H5,I5,sU,vf,w5⟩;have dW:∀ {α:Type}{t:Sem α}{Q1:α->Shared->uu}{E1:kz->Shared->uu}{ss:Shared},wpAny ze X.A t Q1 (λ_ _=>False) ss->wpAny ze X.A t Q1 E1 ss:=λhw=>cC hw (λ_ _ q=>q) λ_ _ z=>False.elim z;rcases turn i n σ5 H5 w5 with⟨stop,q5⟩|⟨go,NN,hN,step⟩
  .refine dW (bE (T.done zaY bz bz bz hc i [] s5 σ5 H5 (λ_ _=>False) I5 (wW vf) sU stop) ?_);rintro r s6 ⟨hr,I6⟩;subst hr;exact K D H5 s3 H3 C cl fp s6 σ5 I3 hC I6 (fin σ5 H5 s6 I6) q5
  .refine dW (bE (T.item zaY bz bz bz hc i [] s5 σ5 H5 (λ_ _=>False) I5 (wW vf) sU go) ?_);rintro r s6 ⟨u,hr,h6⟩;subst hr;refine dW (bE h6 ?_);rintro _ s7 ⟨x,H7,I7,r7,y7,wX,QL⟩;have QM:=I7.pinned (wW QL) (T.obj _ _ wX);refine dW (bE (hg cl s3 H3 C fp _ s7 σ5 H7 x u _ QM r7 (step x H7 y7)) ?_);rintro _ s8 ⟨σ8,H8,I8,q8⟩;refine dW (tT (hf cl s3 H3 C fp _ s8 σ8 H8 _ I8 q8) λb s9 H9 I9 q9=>?_);have again:∀ {σ9:St}{HA:Hp}{sA:Shared},Inv zaY ([]++uf fp s7.heap) σ9 HA sA->NN σ9 HA->∃ m,m<n /\ ∃ i σ' H',Inv zaY [] σ' H' sA /\ tn i sA.heap /\ za9 /\ W i m σ' H':=λ{σ9 HA sA} IA nA=>by
    let#[m',hm,wA]:=hN σ9 HA nA;refine#[m',hm,i+1,σ9,HA,IA.ve,T.keep _ _ _ wX λb hb o e=>(IA.pin (b,o) zcL).1,λb hb=>?_,wA];let#[o,e,d]:=T.obj _ _ wX b hb;exact(IA.pin (b,o) zcL).2.1
   cases b with
   |false=>
     rw[if_neg za]at q9;rw[if_neg za];exact again I9 q9
   |true=>
     rw[if_pos rfl]at q9;rw[if_pos rfl];refine dW (tE (he cl s3 H3 C fp _ s9 σ8 H9 _ I9 q9) λyv sA y HA IA rA hh=>?_);let#[ys,aeq,aer,nA]:=hh;refine dW (bE (mO _ sA σ8 HA zcA [y] zcA [yv] (λ_ HB=>NN σ8 HB) IA bz (.cons rA .nil) #[D,ys,y,rfl,rfl,aeq,aer,nA]) λr sB hB=>?_);let#[_,HB,IB,_,nB]:=hB;exact again IB nB
 exact codeAny_compStart_list (loop _ bz) (T.self _ 0 _ _ _ yH (loop _ bz))
theorem N9 {src:List zaw}{scope:Scope}{wi:TI}{g:TG}{tf:TT}{te:TE}
 (hc:X.calm=zO) (S:nZ X N src scope) (hi:PI X tg iter wi)
 (hg:∀ cl s H C fp,PG zk tg g) (hf:∀ cl s H C fp,PF zk ifs tf) (he:∀ cl s H C fp,PE zk elt te)
 (hs:∀ x,foldedSetIterable iter X.env x=pure x:=by intro _;rfl):PE X zE (HE src wi g tf te):=by
 intro pins s σ H Q I h;rw[eval_ListComp];refine Bb hc S hi hg hf he hs I h λD H5 _ _ _ _ _ _ _ _ _ I6 fin q5=>?_;let#[m6,yI,_]:=I6.loc;exact#[m6,yI,λh' rL=>#[.ref D,H5,fin h' rL,rfl,q5]]
open PySem.W PySem.Builtin PySem.Builtin.ObjectAttr PySem.Builtin.Getset_descriptor
section
variable {x C:Addr}
def eO (x C:Addr) (h:Heap):uu:=∃ ox,h.get? x=some ox /\ ox.cls=.ref C
theorem eO.type {h:Heap}(I:eO x C h):Looks M h (typeOf (.ref x)) zbp:=by
 let#[ox,e,hc]:=I;exact hc▸(Looks.ld e).andThen .now
theorem LM {h:Heap}(X:K.In h) {a g:kz}{name:Str}(ha:findIn K zbp name=some (some a)) (hg:specialIn K a "__get__"=some (some g)) (ht:takesIn K a=some zO) :
 Looks M h (find (.ref x) zbp name) (.bind g a):=by
 have l1:=KU (M:=M) X ha;have l2:Looks M h (getOf (some a)) (some g):=looks_specialIn X hg;have l3:=looks_takesIn (M:=M) X ht;have l4:Looks M h (dataDescriptor? (some a) (some g)) (some (g,a)):=l3.andThen .now;exact l1.andThen (l2.andThen (l4.andThen (Looks.tag .now)))
theorem Oa {tp:kz}(X:K.In s.heap) (I:eO x C s.heap) (hm:mroIn K C (.type "object")=some zO) (q:R (.ok (.ret zbp)) s) :
 codeAny zg A (.call zcC #[[.builtin "object.__class__",.ref x,tp],[]]) R s:=by
 let#[hh,g,dr,t,os]:=s;have l0:=I.type (M:=model prog w);have l1:=KW (M:=model prog w) X hm;refine X6 KF.slot_gs.plain KF.entry_gs
  (KF.slot_gs.check _ _ _ _ _ _ _ _ KF.type_class (KF.args_gs _ _ _) ?_)
 unfold Builtin.«getset_descriptor.__get__» descrGet;rw[dga_obj];refine ae (ag ?_);unfold descrGetter descrCheckInstance descrNameAndClass;unfold isInstance;erw[KF.owner_class]
 repeat (any_goals (first|assumption|with_reducible refine l0.at ?_|with_reducible refine l1.at ?_|wp_step))
 refine#[ZU _ z7,uO KF.entry_class ?_];unfold Builtin.«object.__class__»;unfold shownTypeOf
 repeat (any_goals (first|assumption|with_reducible refine l0.at ?_|wp_step))
structure vt (K:Frag) (C:Addr):uu where
 ga:findIn K zbp "__getattribute__"=some (some (.builtin "BaseException.__getattribute__"))
 gt:findIn K zbp "__getattr__"=some zy
 cl:findIn K zbp "__class__"=some (some zaK)
 gs:specialIn K zaK "__get__"=some (some zcC)
 tk:takesIn K zaK=some zO
 mo:mroIn K C (.type "object")=some zO
 mb:mroIn K C zce=some zO
 cd:(clsIn K C).isSome=zO
theorem LN {h:Heap}{g:Array GenState}{d:Drawn}{t:Nat}{os:OsState}{aaI:kz}{Q:Unit->Shared->uu}(T:vt K C) (X:K.In h) (I:eO x C h)
 (hq:Q () #[h,g,d,t,os]):wpAny M A (checkBuiltinCall "BaseException.__getattribute__" #[[.ref x,aaI],[]]) Q E #[h,g,d,t,os]:=by
 have hk:builtinKind "BaseException.__getattribute__"=some .slot:=by decide +kernel
 have aes:splitId "BaseException.__getattribute__"=some ("BaseException","__getattribute__"):=by decide +kernel
 have ha:=F.args_bexc_ga (.ref x) aaI;have L0:=I.type (M:=M);have L1:=KW (M:=M) X T.mb;have LI:Looks M h (isInstance (.ref x) zce) zO:=L0.andThen L1;erw[checkBuiltinCall,hk,aes];refine ae (LI.at ?_)
 repeat (any_goals (first|assumption|wp_step))
theorem LO {tk:Tok}{Q:Fin->Shared->uu}{h:Heap}{g:Array GenState}{d:Drawn}{t:Nat}{os:OsState}(T:vt K C) (X:K.In h) (I:eO x C h) (hq:Q (.done (.ret zbp)) #[h,g,d,t,os]) :
 wpAny zg A (Builtin.«object.__getattribute__» #[[.ref x,.str "__class__" tk],[]]) Q E #[h,g,d,t,os]:=by
 have L0:=I.type (M:=model prog w);have L1:=LM (x:=x) (M:=model prog w) X T.cl T.gs T.tk;unfold Builtin.«object.__getattribute__»;refine ae (ag ?_)
 repeat (any_goals (first|assumption|with_reducible refine L0.at ?_|with_reducible refine L1.at ?_|wp_step))
 refine Oa X I T.mo ?_
 repeat (any_goals (first|assumption|wp_step))
theorem Ob {tk:Tok}{h:Heap}{g:Array GenState}{d:Drawn}{t:Nat}{os:OsState}(T:vt K C) (X:K.In h) (I:eO x C h) (hq:R (.ok (.ret zbp)) #[h,g,d,t,os]) :
 codeAny zg A (.call (.builtin "BaseException.__getattribute__") #[[.ref x,.str "__class__" tk],[]]) R #[h,g,d,t,os]:=
 X6 F.excAttr_ValueError.ga.plain F.entry_bexc_ga (LN T X I (LO T X I hq))
theorem SG {Q:Option kz->Shared->uu}(T:vt K C) (X:K.In s.heap) (I:eO x C s.heap) (hq:Q (some zbp) { s with toks:=s.toks+1 }) :
 wpAny zg A (getAttr? (.ref x) "__class__") Q E s:=by
 let#[h,g,d,t,os]:=s;have L0:=I.type (M:=model prog w);have L1:=KU (M:=model prog w) X T.ga;have L2:=KU (M:=model prog w) X T.gt;have f3:=F.excAttr_ValueError.ga.bind (.ref x);have aiA:(zw&&onTheHeap (Value.builtin "BaseException.__getattribute__"))=zw:=rfl;have aet:(Value.builtin "BaseException.__getattribute__"==Value.builtin "object.__getattribute__")=zw:=by decide +kernel
 have aiB:(onTheHeap (Value.ref C)&&Value.builtin "BaseException.__getattribute__"==Value.builtin "object.__getattribute__")=zw:=by rw[aet];rfl
 unfold getAttr? getAttrBy?;refine ae (wpAny_mkText (ae (tX ?_)))
 repeat (any_goals (first|assumption|with_reducible refine L0.at ?_|with_reducible refine L1.at ?_|with_reducible refine L2.at ?_|wp_step))
 refine Ob T X I ?_
 repeat (any_goals (first|assumption|wp_step))
theorem LP (T:vt K C):KitX K (.ref x) zbp (eO x C) where
 ty:=λ_ _ _ I=>I.type
 it:=λ_ _ X _=>by
  let#[aeu,vv]:=Option.isSome_iff_exists.mp T.cd;unfold clsIn at vv;split at vv
  .ext c' d' aev wO ho;intro A' Q' E' s' k q;unfold isType loadHead;exact ae (wpAny_loadPart (k _ _ (X _ _ ho)) (ag q))
  .cases vv
 ne:=λh tp dd its n sl X aew=>by
  let#[aeu,vv]:=Option.isSome_iff_exists.mp T.cd;refine Bool.eq_false_iff.mpr λq=>?_;have e:C=tp:=Value.ref.inj (beq_iff_eq.mp q);subst e;unfold clsIn at vv;split at vv
  .ext c' d' aev wO ho;have z:=(X _ _ ho).symm.trans aew;cases z
  .cases vv
 ca:=λX I k=>SG T X I k
end
def rM (B:Heap) (l:List Env) (ea:Addr) (cls a0:kz) (h:Heap):uu:=
 Heap.FlyingW B l ea cls a0 h \/ (B.StaysIn h /\ B.get? ea=zy /\ h.FunFrames B l /\
  h.get? ea=some { cls:=cls,data:=.fields (List.toArray [a0,.none,.none,.none,.bool zw,.none]) })
theorem rM.stays {B:Heap}{l:List Env}{ea:Addr}{cls a0:kz}{h:Heap}(x:rM B l ea cls a0 h):B.StaysIn h:=x.elim (λz=>z.1) λz=>z.1
theorem rM.QN {B:Heap}{l:List Env}{ea:Addr}{cls a0:kz}{h:Heap}(x:rM B l ea cls a0 h):B.get? ea=zy:=x.elim (λz=>z.2.1) λz=>z.2.1
section
variable {B:Heap} {env:Env} {L ea:Addr} {cls a0:kz} {Q:Unit -> Shared -> uu}
theorem LQ (hJ:A.frames=some (env::outer)) (hf:env.frame=some L) (hx:rM B (env::outer) ea cls a0 s.heap)
 (q:∀ h',rM B outer ea cls a0 h'->s.heap.UpToSlots h'->Q () { s with heap:=h' }):wpAny M A (leaving env (.ref ea)) Q E s:=by
 rcases hx with hx|⟨x1,x2,x3,x4⟩
 .exact wpAny_leaves_onW hJ hf hx λh' y1 y2=>q h' (.inl y1) y2
 .refine wpAny_leaving_firstW (a0:=a0) hJ x3 hf x4 x1 x2 bz bz bz λh' y=>?_;let#[k1,#[_,_,k2],k3,k4]:=y;exact q h' (.inl #[k1,x2,k2,k3]) k4
theorem Oc (hJ:A.frames=some (env::outer)) (hf:env.frame=some L) (hx:rM B (env::outer) ea cls a0 s.heap)
 (q:∀ h',Heap.HeldW B (env::outer) ea cls a0 L h'->s.heap.UpToSlots h'->Q () { s with heap:=h' }):wpAny M A (noteFrame (.ref ea) env) Q E s:=by
 rcases hx with hx|⟨x1,x2,x3,x4⟩
 .exact wpAny_looks_onW hJ hf hx q
 .unfold noteFrame;erw[hf];have h1:((List.toArray [a0,.none,.none,.none,.bool zw,.none]):Array kz)[1]?=some Value.none:=rfl;refine ae (eV x4 bz h1 ?_);rw[if_neg (show ¬ ((Value.none != Value.none)=true) by decide)];refine wpAny_entryW hJ x3 hf x4 x1 x2 bz (by show 1<6;decide) (by rfl) λh' y=>?_;let#[k1,k2,k3,k4]:=y;exact q h' #[k1,x2,k2,k3] k4
end
def eB (P:Program) (w:World):nX:=λouter H s E e s'=>∃ (ea C:Addr) (a0:kz) (B:Heap) (H':Hp),
 e=.ref ea /\ s'.os=s.os /\ AllBare s'.gens /\ Un (dO outer) [] H H' s.heap s'.heap /\ bQ P w H' s'.heap /\ rM B outer ea zbp a0 s'.heap /\
 (∀ b u o,H' b=some u->s'.heap.get? b=some o->B.get? b=some o) /\ (∀ b o,s.heap.get? b=some o->b∉dO outer->∃ o',B.get? b=some o') /\ E zbp zy H'
def XE (X:Cx) (E:XK) (e:kz) (s':Shared):uu:=∃ (σ':St) (H':Hp) (ea C:Addr) (a0:kz) (B:Heap),
 e=.ref ea /\ Inv X [] σ' H' s' /\ rM B X.stack ea zbp a0 s'.heap /\ (∀ b u o,H' b=some u->s'.heap.get? b=some o->B.get? b=some o) /\
 (∀ p∈X.pn,B.get? p.1=some p.2) /\ (∀ b o,X.s₀.heap.get? b=some o->b∉X.fs->b∉X.ex->∃ o',B.get? b=some o') /\ E zbp zy H'
def uo (X:Cx) (E:XK):uu:=∀ e s',XE X E e s'->X.xe e s'
theorem D7 {s':Shared}{B h:Heap}(I:Inv X pins σ H' s') (u:s'.heap.UpToSlots h) (st:B.StaysIn s'.heap) (sh:B.StaysIn h)
 (old:∀ b o,X.s₀.heap.get? b=some o->b∉X.fs->b∉X.ex->∃ o',B.get? b=some o'):Un X.fs X.ex X.H₀ H' X.s₀.heap h where
 keep:=λb o e n hb hx=>by
  let#[o',q]:=old b o e hb hx;have q1:=I.base.keep b o e n hb hx;have q2:=st b o' q;rw[q1]at q2;cases q2;exact sh b _ q
 slot:=λb o e n hb hx=>by
  let#[sl,q1]:=I.base.slot b o e n hb hx;let#[_,aex,q2,d]:=I.ok.kP.mem hb;rw[e]at q2;cases q2;let#[wO,q3]:=u b _ q1 d;exact#[wO,q3]
 free:=I.base.free
 there:=λb o e hx=>by
  by_cases hb:b∈X.fs
  .let#[sl,q1]:=I.base.slot b o e (I.ok.rE b hb) hb hx;let#[_,aex,q2,d]:=I.ok.kP.mem hb;rw[e]at q2;cases q2;let#[wO,q3]:=u b _ q1 d;exact#[_,q3]
  .let#[o',q]:=old b o e hb hx;exact#[o',sh b o' q]
 nU:=I.base.nU
 nv:=I.base.nv
 nV:=I.base.nV
theorem Ge {h B:Heap}(k:bQ P w H' h) (sh:B.StaysIn h') (tr:∀ b u o,H' b=some u->h.get? b=some o->B.get? b=some o):bQ P w H' h':=λa o e=>
 (k a o e).eY (λb u hb q=>sh b u (hb.elim (λz=>tr b o u (z▸e) q) λz=>tr b _ u z q)) (λ_ q=>q) λ_ _ q=>q
theorem Gf {s':Shared}{B h:Heap}(I:Inv X [] σ H' s') (u:s'.heap.UpToSlots h) (st:B.StaysIn s'.heap) (sh:B.StaysIn h)
 (tr:∀ b u o,H' b=some u->s'.heap.get? b=some o->B.get? b=some o) (pn:∀ p∈X.pn,B.get? p.1=some p.2)
 (old:∀ b o,X.s₀.heap.get? b=some o->b∉X.fs->b∉X.ex->∃ o',B.get? b=some o'):Inv X [] σ H' { s' with heap:=h }:=by
 have cellK:∀ c v,s'.heap.IsCell c v->h.IsCell c v:=λc v ⟨o,e,d⟩=>by
  let#[sl,q]:=u c o e (λvs z=>by rw[d]at z;cases z);exact#[_,q,d]
 refine#[I.ok,I.os,I.bare,D7 I u st sh old,?_,λx c e=>?_,I.free,I.ny,λp hp=>?_,Ge I.aj sh tr,I.len]
 .let#[m,hn,hl]:=I.loc;refine#[m,u.ns hn,λi x v e1 e2 e3=>?_];let#[w',r,l]:=hl i x v e1 e2 e3;refine#[w',r,?_];rcases l with l|⟨k,c,e,z⟩
  .exact .inl l
  .exact .inr #[k,c,e,cellK c _ z]
 .let#[v,z]:=I.cell x c e;exact#[v,cellK c v z]
 .let#[e,n,r]:=I.pin p hp;rw[hZ]at hp;exact#[sh _ _ (pn p hp),n,r]
theorem Inv.aaJ (I:Inv X pins σ H s):Inv X [] σ H s:=I.yu λp hp=>absurd hp zf
theorem uo.passes {E:XK}(l:uo X E):Passes (eB X.prog X.w) X E:=by
 intro pins σ H s e s' I h;let#[ea,C,a0,B,H',he,os,bare,un,aj,ex,tr,old,q]:=h;have I':Inv X pins σ H' s':=I.Qa os un aj bare (λb z=>absurd z zf);have QO:∀ b,b≠X.env.locals->b∉X.fs->b∉dO X.stack:=λb h1 h2 z=>by
  rcases aH.mp (I.wN b z) with y|y
  .exact h1 y
  .exact h2 y
 refine l e s' #[σ,H',ea,C,a0,B,he,I'.aaJ,ex,tr,λp hp=>?_,λb o e hb hx=>?_,q]
 .let#[e1,n1,n2,n3,_]:=I.pin p (dM _ hp);let#[o',q1]:=old p.1 p.2 e1 (QO _ n2 n3);have q2:=un.keep p.1 p.2 e1 n1 (QO _ n2 n3) zf;have q3:=ex.stays _ _ q1;rw[q2]at q3;cases q3;exact q1
 .let#[o1,e1]:=I.base.there b o e hx;exact old b o1 e1 (QO b (bT zcl) hb)
theorem Co {scope:Scope}{f:Addr}{cd:kz}{E:XK} :
 uo (nY (eB P w) P w K mg base N qual scope f cd A outer s H E) E:=by
 intro e s' h;let#[σ',H',ea,C,a0,B,he,I,ex,tr,pn,old,q]:=h;subst he;refine LQ I.ok.frames bz ex λh' y1 y2=>?_;refine#[ea,C,a0,B,H',rfl,I.os,I.bare,D7 I y2 ex.stays y1.stays old,Ge I.aj y1.stays tr,y1,λb u o e1 e2=>?_,λb o e1 e2=>old b o e1 e2 (by intro z;exact absurd (show b∈([]:List Addr) from z) zf),q];have hs:=(I.aj b u e1).lt;obtain⟨o1,q1⟩:∃ o1,s'.heap.get? b=some o1:=by
  rcases(I.aj b u e1) with _;cases z:s'.heap.get? b with
  |some o1=>exact#[o1,rfl]
  |none=>
    exfalso
    have k:=I.aj b u e1;cases u with
    |lst xs=>let#[_,_,_,_,e]:=k;rw[z]at e;cases e
    |tup xs=>let#[_,_,_,ob,e,_]:=k;rw[z]at e;cases e
    |dK af=>let#[_,_,_,_,o,_,_,e,_]:=k;rw[z]at e;cases e
    |dT af=>let#[_,_,_,_,o,_,_,e,_]:=k;rw[z]at e;cases e
    |set S n=>let#[o,_,_,_,e,_]:=k;rw[z]at e;cases e
    |ins C dx fs=>let#[_,_,_,e,_]:=k;rw[z]at e;cases e
    |own y=>let#[_,e]:=k;rw[z]at e;cases e
    |xd fs=>let#[_,#[_,_,_,e,_],_]:=k;rw[z]at e;cases e
    |yq lo hi=>let#[_,_,_,e]:=k;rw[z]at e;cases e
    |eX ob u=>let#[e,_]:=k;rw[z]at e;cases e
    |sL ps=>have e:s'.heap.get? b=some _:=k;rw[z]at e;cases e
    |met f y=>have e:s'.heap.get? b=some _:=k;rw[z]at e;cases e
    |ext φ=>let#[_,#[_,e],_]:=k;rw[z]at e;cases e
 have q2:=tr b u o1 e1 q1;have q3:=y1.stays b o1 q2;rw[e2]at q3;cases q3;exact q2
noncomputable abbrev QP:List kz:=[.type "ValueError",.type "Exception",.type "BaseException",.type "object"]
theorem Od {h:Heap}{C:Addr}{aaK:List kz}{aaL:String}(X:K.In h) (q:excIn K C aaK aaL=zO) :
 ∃ bm N nm qn bs hd sn sub ab col dd k0 k1 k2 k3 k5 mN,h.get? C=some (excClassObj nm qn C N bs bm hd sn sub ab col dd k0 k1 k2 k3 k5 aaL) /\ h.Ns N mN /\ mN "__init__"=zy /\ OwnTail h aaK bm:=by
 unfold excIn at q;split at q
 .ext dd cd sl ho;split at q
  .ext C1 bm k0 k1 k2 k3 nw k5 mr hs;erw[ao,beq_iff_eq,qr]at q;let#[#[#[#[#[rfl,rfl],z1],z2],z3],z4]:=q;let#[nm,bs,mro,ns,qn,hd,sn,sub,ab,col,del]:=cd;dsimp only at mr z1 z3 z4;subst mr z1;have es:sl=(List.toArray [k0,k1,k2,k3,some (.builtin nw),k5]):=by
    cases sl;exact congrArg Array.mk hs
   subst es;exact#[bm,ns,nm,qn,bs,hd,sn,sub,ab,col,dd,k0,k1,k2,k3,k5,_,X _ _ ho,
    .of_isNs (isNs_of_in X z3),nsMap_none_of_in X z3 z4,tail_of_in X z2]
  .cases q
 .cases q
theorem Oe {E:XK}{ea C:Addr}{vs:List kz}(l:uo X E) (I:Inv X pins σ H s) (m:Heap.MadeExcOf s.heap h' ea zbp vs) (q:E zbp zy H) :
 X.xe (.ref ea) { s with heap:=h' }:=by
 let#[t,e1,e2,e3]:=m.there;have I':Inv X pins σ H { s with heap:=h' }:=I.kept (t':=s.toks) m.keeps;have aey:∀ env∈X.stack,∀ b,env.frame=some b->b∈dO X.stack:=λenv he b hb=>List.mem_filterMap.mpr #[env,he,hb];have fr:h'.FunFrames (hideAll s.heap (dO X.stack)) X.stack:=by
  have f0:=funFrames_hide I.stack aey;exact f0.of_keeps λb o e _=>#[o,m.keeps b o e,rfl]
 have nh:∀ b o,s.heap.get? b=some o->b∉dO X.stack->(hideAll s.heap (dO X.stack)).get? b=some o:=λb o e hb=>hideAll_get _ e hb;refine l _ _ #[σ,H,ea,C,.ref t,hideAll s.heap (dO X.stack),rfl,I'.aaJ,.inr #[λb o e=>m.keeps b o (of_hideAll _ e),?_,fr,e1],λb u o eb eo=>?_,λp hp=>?_,λb o e hb hx=>?_,q]
 .cases z:(hideAll s.heap (dO X.stack)).get? ea with
  |none=>rfl
  |some o=>have:=of_hideAll _ z;rw[m.new]at this;cases this
 .have hb:b∉dO X.stack:=λz=>by rw[I.K8 b z]at eb;cases eb
  cases z:s.heap.get? b with
  |some o1=>
    have:=m.keeps b o1 z;rw[this]at eo;cases eo;exact nh b _ z hb
  |none=>exact absurd ((I.aj b u eb).lt) (by intro hl;exact absurd z (by
   intro z';have k:=I.aj b u eb;cases u with
   |lst xs=>let#[_,_,_,_,e]:=k;rw[z]at e;cases e
   |tup xs=>let#[_,_,_,ob,e,_]:=k;rw[z]at e;cases e
   |dK af=>let#[_,_,_,_,o,_,_,e,_]:=k;rw[z]at e;cases e
   |dT af=>let#[_,_,_,_,o,_,_,e,_]:=k;rw[z]at e;cases e
   |set S n=>let#[o,_,_,_,e,_]:=k;rw[z]at e;cases e
   |ins C dx fs=>let#[_,_,_,e,_]:=k;rw[z]at e;cases e
   |own y=>let#[_,e]:=k;rw[z]at e;cases e
   |xd fs=>let#[_,#[_,_,_,e,_],_]:=k;rw[z]at e;cases e
   |yq lo hi=>let#[_,_,_,e]:=k;rw[z]at e;cases e
   |eX ob u=>let#[e,_]:=k;rw[z]at e;cases e
   |sL ps=>have e:s.heap.get? b=some _:=k;rw[z]at e;cases e
   |met f y=>have e:s.heap.get? b=some _:=k;rw[z]at e;cases e
   |ext φ=>let#[_,#[_,e],_]:=k;rw[z]at e;cases e))
 .let#[e1,n1,n2,n3,_]:=I.pin p (dM _ hp);exact nh _ _ e1 λz=>(aH.mp (I.wN p.1 z)).elim n2 n3
 .let#[o1,q1]:=I.base.there b o e hx;exact#[o1,nh b o1 q1 λz=>(aH.mp (I.wN b z)).elim (bT zcl) hb]
theorem LR {C:Addr}{te:TE}{E:XK}{np aV:Pos}(hc:X.calm=zO) (l:uo X E) (hg:Gl X x) (hm:X.mg x=some zbp) (q:excIn X.K C QP "ValueError.__new__"=zO) (he:PE X e te)
 (hs:starEach [e] X.env=[zac]:=by rfl) (hd:(x==("__debug__":Str))=zw:=by decide) :
 PS X (.Raise (some (.Call (.Name x np) [e] [] aV)) zy pos) (λ_ σ H=>te σ H λv H1=>[v].length=1 /\ E zbp zy H1):=by
 intro pins s σ H D I h;let#[bm,N,nm,qn,bs,yJ,sn,sub,ab,col,dd,k0,k1,k2,k3,k5,mN,hC,hN,aez,T]:=Od I.mod.wK q;refine wpAny_Raise_call_subT (C:=C) (nm:=nm) (q:=qn) (N:=N) (bs:=bs) (bm:=bm) (hdct:=yJ) (sn:=sn) (sub:=sub) (ab:=ab) (col:=col) (dd:=dd)
  (k0:=k0) (k1:=k1) (k2:=k2) (k3:=k3) (k5:=k5) PySem.F.excBase_ValueError (mN:=mN) (T.hasType PySem.F.excBase_ValueError.hasBase) zbN (by rw[hs];rfl) aez ?_
 refine tE (oJ (v:=.ref C) (pos:=np) hg hm bz hd pins s σ H (λv H1=>v=.ref C /\ H1=H) I #[rfl,rfl]) λf s1 v H1 I1 r1 hh=>?_;let#[e1,e2]:=hh;subst e1;subst e2;refine#[r1,?_];rw[hs];refine Ha ?_;have ha:PA X [e] (Ho te Hn):=f8 he ic (by rw[hs];rfl);have hA:=ha aV pins s1 σ H1 (λvs H2=>vs.length=1 /\ E zbp zy H2) I1 h;rw[hs]at hA;refine tA hA λus s2 vs H2 I2 r2 hh=>?_;let#[e3,q2]:=hh;refine#[rfl,?_,I2.bk _ _ hC,hN.keeps I2.bk,T.keeps I2.bk,λh' ea m=>Oe l I2 m q2];rw[<-r2.length,e3];decide
theorem Jq {ea C R:Addr}{Q:Bool->Shared->uu}(X:K.In s.heap) (I:eO ea C s.heap)
 (hk:kitCls K zbp (.ref R)=some zO) (hb:mroIn K R zce=some zO) (q:Q zO s):wpAny M A (excMatches (.ref ea) (.ref R)) Q E s:=by
 let#[h,g,d,t,os]:=s;let#[l1,l2,l3]:=kit_cls (M:=M) X hk;have l4:=KW (M:=M) X hb;have l5:=I.type (M:=M);have f:=tc_notTuple;unfold excMatches isInstance isExcClass
 repeat (any_goals (first|assumption|with_reducible refine l1.at ?_|with_reducible refine l2.at ?_|with_reducible refine l3.at ?_|with_reducible refine l4.at ?_|with_reducible refine l5.at ?_|wp_step))
noncomputable abbrev Cx.qE (X:Cx) (pn:List (Addr×Obj)) (E:XK):Cx:={ X with pn:=pn,xe:=XE { X with pn:=pn } E }
noncomputable abbrev Cx.hand (X:Cx) (pn:List (Addr×Obj)) (ea:Addr):Cx:={ X with pn:=pn,A:=X.A.mark (some (.ref ea)),calm:=zw,xe:=λ_ _=>False }
theorem Inv.turn {Y:Cx}{ud:List (Addr×Obj)}(I:Inv X pins σ H s) (hp:∀ p∈Y.pn++ud,p∈X.pn++pins) (hf:Y.A.frames=some Y.stack) (hd:Y.calm=zO->Y.A.handled=zy)
 (h1:Y.prog=X.prog:=by rfl) (h2:Y.w=X.w:=by rfl) (h3:Y.K=X.K:=by rfl) (h4:Y.mg=X.mg:=by rfl) (h5:Y.base=X.base:=by rfl) (h6:Y.N=X.N:=by rfl) (h7:Y.s₀=X.s₀:=by rfl) (h8:Y.H₀=X.H₀:=by rfl) (h9:Y.env=X.env:=by rfl)
 (ha:Y.outer=X.outer:=by rfl) (hb:Y.stack=X.stack:=by rfl) (hc:Y.ex=X.ex:=by rfl) (he:Y.fn=X.fn:=by rfl):Inv Y ud σ H s:=by
 let#[yp,yw,yK,aiC,aiD,yA,yN,aiE,aiF,aiG,aiH,aiI,aiJ,aiK,aiL,aiM,aiN]:=Y;dsimp only at h1 h2 h3 h4 h5 h6 h7 h8 h9 ha hb hc he hp hf hd;subst h1 h2 h3 h4 h5 h6 h7 h8 h9 ha hb hc he;exact#[#[I.ok.mod,I.ok.kind,I.ok.glob,I.ok.blt,I.ok.above,I.ok.inj,I.ok.has,I.ok.wL,hd,hf,I.ok.yt,I.ok.vc,I.ok.bs,I.ok.sN,I.ok.wM,I.ok.vd,I.ok.kP,I.ok.rE],
  I.os,I.bare,I.base,I.loc,I.cell,I.free,I.ny,λp q=>I.pin p (hp p q),I.aj,I.len]
theorem Bc {pn:List (Addr×Obj)}{E:XK}:uo (X.qE pn E) E:=by
 intro e s' h;let#[σ',H',ea,C,a0,B,he,I,ex,tr,hp,old,q]:=h;exact#[σ',H',ea,C,a0,B,he,I.turn (λp z=>z) I.ok.frames I.ok.hd,ex,tr,hp,old,q]
theorem SP.turn {Y:Cx}{ud:List (Addr×Obj)}{D:Ends}{f:Flow}{s':Shared}(k:∀ σ H,Inv X pins σ H s'->Inv Y ud σ H s') (h:SP X pins D f s'):SP Y ud D f s':=by
 cases f with
 |next=>let#[σ',H',I,q]:=h;exact#[σ',H',k _ _ I,q]
 |brk=>let#[σ',H',I,q]:=h;exact#[σ',H',k _ _ I,q]
 |cont=>let#[σ',H',I,q]:=h;exact#[σ',H',k _ _ I,q]
 |ret u=>let#[v,σ',H',I,r,q]:=h;exact#[v,σ',H',k _ _ I,r,q]
theorem Inv.watch {φ:Heap->uu}(I:Inv X pins σ H s) (hn:H a=zy) (hL:a≠X.env.locals) (hC:∀ x c,X.env.cells.lookup x=some c->c≠a)
 (hp:∀ p∈X.pn++pins,p.1≠a) (ho:∀ b o,X.s₀.heap.get? b=some o->b∉X.ex->b≠a) (new:a9 X.prog X.w (upd H a (.ext φ)) s.heap a (.ext φ)):Inv X pins σ (upd H a (.ext φ)) s:=by
 have ne:∀ b u,H b=some u->b≠a:=λb u e z=>by rw[z,hn]at e;cases e
 refine#[I.ok,I.os,I.bare,#[I.base.keep,I.base.slot,λb o e n hx=>?_,I.base.there,λb xs e=>?_,λb o u e=>?_,λb ps e=>?_],I.loc,I.cell,?_,λx c e=>?_,λp q=>?_,λb o e=>?_,I.len]
 .rw[fA (ho b o e hx)];exact I.base.free b o e n hx
 .have z:=I.base.nU b xs e;rw[fA (ne b _ z)];exact z
 .have z:=I.base.nv b o u e;rw[fA (ne b _ z)];exact z
 .let#[more,z]:=I.base.nV b ps e;exact#[more,by rw[fA (ne b _ z)];exact z]
 .rw[fA hL.symm];exact I.free
 .rw[fA (hC x c e)];exact I.ny x c e
 .let#[q1,q2,q3]:=I.pin p q;exact#[q1,by rw[fA (hp p q)];exact q2,q3]
 .by_cases hb:b=a
  .subst hb;rw[fE]at e;cases e;exact new
  .rw[fA hb]at e;exact(I.aj b o e).eY (λ_ _ _ z=>z) (λc z=>by rw[fA (ne c _ z)];exact z) λc xs z=>by rw[fA (ne c _ z)];exact z
theorem Inv.gone {n:Str}{m:Str->Option kz}{v:Option kz}(I:Inv X pins σ H s) (hN:X.N.Nodup) (hi:X.N[i]?=some n)
 (hm:∀ (j:Nat) (x:Str) (v:V),X.N[j]?=some x->σ[j]?=some (some v)->rD X.env.scope x->∃ u,RelV v u /\ Look X.env s.heap m x u)
 (hn:h'.Ns X.env.locals (λx=>if x=n then v else m x)) (sb:Heap.SameBut X.env.locals s.heap h'):Inv X pins (σ.set i zy) H { s with heap:=h',toks:=t' }:=by
 have kp:∀ b o,b≠X.env.locals->s.heap.get? b=some o->h'.get? b=some o:=λb o hb e=>sb.extBut b o hb e;have old:∀ b o,X.s₀.heap.get? b=some o->b≠X.env.locals:=λb o e=>bT zcl;refine#[I.ok,I.os,I.bare,#[λb o e n hb hx=>kp b o (old b o e) (I.base.keep b o e n hb hx),λb o e n hb hx=>?_,I.base.free,λb o e hx=>?_,I.base.nU,I.base.nv,I.base.nV],#[_,hn,λj x w e1 e2 e3=>?_],λx c e=>?_,I.free,I.ny,λp q=>?_,λb o e=>?_,by rw[nj];exact I.len]
 .let#[sl,q]:=I.base.slot b o e n hb hx;exact#[sl,kp b _ (old b o e) q]
 .let#[o',q]:=I.base.there b o e hx;exact#[o',kp b _ (old b o e) q]
 .by_cases hj:j=i
  .subst hj;by_cases hl:j<σ.length
   .rw[qu hl]at e2;cases e2
   .rw[rq (by rw[nj];lia)]at e2;cases e2
  .rw[qv (Ne.symm hj)]at e2;let#[u,r,l]:=hm j x w e1 e2 e3;refine#[u,r,?_];rcases l with⟨k,e⟩|⟨k,c,e,z⟩
   .refine .inl #[k,?_];have:x≠n:=λq=>hj (oY hN e1 (q▸hi));show (if x=n then v else m x)=some u;rw[if_neg this];exact e
   .let#[o,eo,d]:=z;exact .inr #[k,c,e,o,kp c o (I.sO x c e) eo,d]
 .let#[w,o,eo,d]:=I.cell x c e;exact#[w,o,kp c o (I.sO x c e) eo,d]
 .let#[q1,q2,q3,q4]:=I.pin p q;exact#[kp _ _ q3 q1,q2,q3,q4]
 .refine(I.aj b o e).eY (λc w hc q=>kp c w (λz=>?_) q) (λ_ q=>q) λ_ _ q=>q;rcases hc with z1|z1
  .rw[<-z1,z,I.free]at e;cases e
  .rw[z,I.free]at z1;cases z1
noncomputable def aaM (i:Nat) (D:Ends):Ends:={ nx:=λσ H=>D.nx (σ.set i zy) H,rt:=D.rt,bk:=λσ H=>D.bk (σ.set i zy) H,ct:=λσ H=>D.ct (σ.set i zy) H }
def aeA (K:Frag) (len:Nat) (Ra:Addr) (i:Nat) (E:XK) (tb ts:TS):TS:=λD σ H=>tb D σ H /\ ∀ (σ':St) (ea C:Addr) (H':Hp),σ'.length=len->E zbp zy H'->H' ea=zy ->
 kitCls K zbp (.ref Ra)=some zO /\ ts (aaM i D) (σ'.set i (some (.ref ea))) (upd H' ea (.ext (eO ea C)))
theorem SH {body aaN:List Stmt}{b₀:Stmt}{R n:Str}{Ra L:Addr}{E:XK}{tb ts:TS}{rp yL:Pos}(p9:X.stack=X.env::X.outer) (hJ:X.env.frame=some L) (aaO:L=X.env.locals)
 (hg:Gl X R) (hm:X.mg R=some (.ref Ra)) (aeB:mroIn X.K Ra zce=some zO) (hN:X.N.Nodup) (hi:X.N[i]?=some n) (hn:X.env.kindOf n=some .local)
 (hb:∀ pn,cV (X.qE pn E) body tb) (aeC:∀ pn ea,cV (X.hand pn ea) (b₀::aaN) ts) (hd:(R==("__debug__":Str))=zw:=by decide) :
 PS X (.Try body [.ExceptHandler (some (.Name R rp)) (some n) (b₀::aaN) yL] [] [] pos) (aeA X.K X.N.length Ra i E tb ts):=by
 intro pins s σ H D I ⟨h1,h2⟩;have I0:Inv (X.qE (X.pn++pins) E) [] σ H s:=I.turn (λp z=>by simpa using z) I.ok.frames I.ok.hd;have back:∀ {Y:Cx}(s':Shared) (σ':St) (H':Hp),Y=X.qE (X.pn++pins) E->Inv Y [] σ' H' s'->Inv X pins σ' H' s':=λ{Y} s' σ' H' e J=>by
  subst e;exact J.turn (λp z=>by simpa using z) I.ok.frames I.ok.hd
 refine wpAny_Try_except (cC (hb _ [] s σ H D I0 h1) (λf s1 q=>?_) λe s1 q=>?_)
 .have q':SP X pins D f s1:=q.turn λσ' H' J=>back s1 σ' H' bz J;cases f with
  |next=>exact xR q'
  |brk=>exact q'
  |cont=>exact q'
  |ret u=>exact q'
 .let#[σ1,H1,ea,C,a0,B,he,I1,ex,tr,QR,old,hE]:=q;subst he;have ZY:rM B (X.env::X.outer) ea zbp a0 s1.heap:=by rw[<-p9];exact ex
  have aeD:X.A.frames=some (X.env::X.outer):=by rw[<-p9];exact I.ok.frames
  have dW:∀ {α:Type}{t:Sem α}{A1:Around}{Q1:α->Shared->uu}{E1:kz->Shared->uu}{ss:Shared},wpAny ze A1 t Q1 (λ_ _=>False) ss->wpAny ze A1 t Q1 E1 ss:=λhw=>cC hw (λ_ _ q=>q) λ_ _ z=>False.elim z;refine Oc aeD hJ ZY λh4 hh u4=>?_;refine wpAny_landsW hh λh5 QS u5=>?_;have I5:Inv { X with pn:=X.pn++pins } [] σ1 H1 { s1 with heap:=h5 }:=Gf I1 (u4.trans u5) ex.stays QS.1 tr QR old;have aaP:Inv (X.hand (X.pn++pins) ea) [] σ1 H1 { s1 with heap:=h5 }:=I5.turn (λp z=>z) I.ok.frames (λz=>nomatch z);have HH:H1 ea=zy:=by
   cases z:H1 ea with
   |none=>rfl
   |some u=>
     let#[o,eo,_]:=ex.elim (λy=>y.there) (λy=>#[_,y.2.2.2,rfl]);have:=tr ea u o z eo;rw[ex.QN]at this;cases this
  let#[hk,aeE]:=h2 σ1 ea C H1 I1.len hE HH;refine wpAny_handleBy_cons (codeAny_handlers_test (dW ?_)) (by intro z;cases z);refine oI (X:=X.hand (X.pn++pins) ea) aaP hg hm ?_ hd;let#[o5,aeF,aeG]:=QS.there;refine Jq aaP.cE #[o5,aeF,aeG] hk aeB ?_;refine codeAny_handlers_suite_as (lands_againW QS λh6 QT u6=>?_);have u:s1.heap.UpToSlots h6:=(u4.trans u5).trans u6;have I6:Inv { X with pn:=X.pn++pins } [] σ1 H1 { s1 with heap:=h6 }:=Gf I1 u ex.stays QT.1 tr QR old;have QU:Inv (X.hand (X.pn++pins) ea) [] σ1 H1 { s1 with heap:=h6 }:=I6.turn (λp z=>z) I.ok.frames (λz=>nomatch z);let#[oe,vs,yM,Hh,QV,_]:=QT.first;have I7:Inv (X.hand (X.pn++pins) ea) [] σ1 (upd H1 ea (.ext (eO ea C))) { s1 with heap:=h6 }:=by
   refine QU.watch HH (λz=>?_) (λx c e z=>?_) (λp q z=>?_) (λb o e hx z=>?_) #[#[oe,yM,Hh],#[oe,yM],λg1 g2 ⟨o,e1,e2⟩ k=>#[o,k o e1,e2]]
   .let#[m,#[o,es,ep,e1,e2,_],_]:=QU.loc;have dU:h6.get? ea=some o:=by rw[z];exact e1
    rw[yM]at dU;cases dU;rw[QV]at e2;cases e2
   .let#[v,o,e1,e2]:=QU.cell x c e;have dU:h6.get? ea=some o:=by rw[<-z];exact e1
    rw[yM]at dU;cases dU;rw[QV]at e2;cases e2
   .have q':p∈X.pn++pins:=by simpa using q
    have:=QR p q';rw[z,ex.QN]at this;cases this
   .subst z;by_cases hf:b∈X.fs
    .let#[sl,q1]:=(D7 I1 u ex.stays QT.1 old).slot b o e (I.ok.rE b hf) hf hx;let#[_,o2,q2,d]:=I.ok.kP.mem hf;rw[e]at q2;cases q2;rw[yM]at q1;have q3:oe.data=o.data:=by cases q1;rfl
     exact d vs (by rw[<-q3];exact QV)
    .let#[o',q1]:=old b o e hf hx;rw[ex.QN]at q1;cases q1
  refine dW (j7 (X:=X.hand (X.pn++pins) ea) I7 hN hi (.inl hn) (v:=.ref ea) (u:=.ref ea) bz (λs8 I8=>?_) (.inr hn));refine dW (bE (aeC _ ea [] s8 _ _ (aaM i D) I8 aeE) λf s9 q9=>?_);have um:(X.env.scope.kind==.class||(X.env.scope.kind==.module&&X.env.locals != X.env.globals))=zw:=by rw[I.ok.kind];rfl
  have fin:∀ (σ9:St) (H9:Hp) (Z:Flow->Shared->uu),Inv (X.hand (X.pn++pins) ea) [] σ9 H9 s9->(∀ sA,Inv X pins (σ9.set i zy) H9 sA->Z f sA) ->
   wpAny ze X.A (do bindName X.env n .none;unbindBehindTheSuite X.env n yL) (λ_ sA=>Z f sA) X.xe s9:=λσ9 H9 Z I9 k=>by
   have aaQ:Inv X pins σ9 H9 s9:=I9.turn (λp z=>by simpa using z) I.ok.frames I.ok.hd;let#[m,aeH,aeI]:=aaQ.loc;exact wpAny_nameGoes_keeps hn aeH um λh' v wQ sb=>k _ (aaQ.gone hN hi aeI wQ sb)
  show wpAny ze X.A (do bindName X.env n .none;unbindBehindTheSuite X.env n yL) (λ_ sA=>SP X pins D f sA) X.xe s9;cases f with
  |next=>let#[σ9,H9,I9,q]:=q9;exact fin σ9 H9 (SP X pins D) I9 λsA IA=>#[_,_,IA,q]
  |brk=>let#[σ9,H9,I9,q]:=q9;exact fin σ9 H9 (SP X pins D) I9 λsA IA=>#[_,_,IA,q]
  |cont=>let#[σ9,H9,I9,q]:=q9;exact fin σ9 H9 (SP X pins D) I9 λsA IA=>#[_,_,IA,q]
  |ret u=>let#[v,σ9,H9,I9,r,q]:=q9;exact fin σ9 H9 (SP X pins D) I9 λsA IA=>#[v,_,_,IA,r,q]
structure pK (k:Nat) (A:Around):uu where
 dp:A.depth+3*k+5<recursionLimit
 un:A.units+16*k+200<cLine
theorem bV.h {k:Nat}(r:bV k A):pK k A:=#[r.dp,r.un]
theorem pK.mark {k:Nat}{A:Around}{e:Option kz}(r:pK k A):pK k (A.mark e):=#[r.dp,r.un]
theorem pK.deeper {k:Nat}{A:Around}(r:pK (k+1) A) (env:Env):pK k (A.deeper env):=
 #[by have:=r.dp;show A.depth+1+3*k+5<_;lia,by have:=r.un;show A.units+3+16*k+200<_;lia]
theorem pK.depth {k:Nat}{A:Around}(r:pK k A):A.depth<recursionLimit:=by have:=r.dp;lia
structure yO (P:Program) (w:World) (K:PySem.W.Frag) (mg:Str->Option kz) (base:Heap) (CX:nX) (k:Nat) (f:Addr) (fd:FuncData) (ps:List Str) (sp:Sp):uu where
 len:∀ vs H Q E,sp vs H Q E->vs.length=ps.length
 run:∀ (A:Around) (outer:List Env) (s:Shared) (H:Hp) (args:Args) (us:List kz) (vs:List V) (Q:VK) (E:XK),pK k A->wV P w K mg base A outer s H->BindsTo s fd args (ps.zip us)->Vals vs us->sp vs H Q E ->
  codeAny (model P w) A (.call zb1 args) (CR CX outer P w H s Q E) s
abbrev yP (CX:nX) (P:Program) (w:World) (K:PySem.W.Frag) (mg:Str->Option kz) (base:Heap) (N:List Str) (qual:Str) (scope:Scope) (f:Addr) (cd:kz) (A:Around) (outer:List Env) (s:Shared) (H:Hp) (E:XK):Cx:=
 { nY CX P w K mg base N qual scope f cd A outer s H E with calm:=zw }
theorem SI {k:Nat}{f:Addr}{name:Str}{params:Arguments}{body:List Stmt}{scope:Scope}{dV kV doc pm cdv ct oc:kz}{an od:Option Addr}
 {ps:List Str}(lk:K.lookup f=some #[oc,od,.func za2,pE]) (dg:PySem.W.codeIn K cdv qual=zO) (S:qa N ps scope)
  (len:∀ vs H Q E,sp vs H Q E->vs.length=ps.length)
  (kj:∀ (A:Around) (outer:List Env) (s:Shared) (H:Hp) (vs:List V) (Q:VK) (E:XK),pK k (A.deeper (envOfC qual scope s.heap.objs.size f cdv))->sp vs H Q E ->
   ∃ t,cV zcI body t /\ t { nx:=λ_ H'=>Q .non H',rt:=Q } zcS H) :
  yO P w K mg base CX (k+1) f za2 ps sp:=by
  refine#[len,λA outer s H args us vs Q E hr e0 hb r pI=>?_];have hl:=len _ _ _ _ pI;have KX:K.In s.heap:=e0.mod.wK.keeps λb o e=>(e0.bs b o e).1;have lim:s.heap.NoLimit:=e0.mod.nolimit.keeps λb o e=>(e0.bs b o e).1;have Qo:∀ y∈ps.zip us,scope.names.lookup y.1=some .local \/ (scope.names.lookup y.1=some .cell /\ ((cellsFrom zU scope.names []).lookup y.1).isSome=zO):=λ⟨n,v⟩ hy=>by
   rcases S.par n (EZ hy).1 with q|q
   .exact .inl q
   .exact .inr #[q,KS _ _ _ (.inl q)]
  refine XR hr.depth (KX _ _ lk) bz S.co S.gen bz (Zu KX dg) (hb _ _ _ _ ?_);refine XS S.kind Qo λenv he s1 x=>?_;subst he;refine#[lim.keeps x.toInCall.keep,XT ?_];let#[t,ht,hq]:=kj A outer s H vs Q E (hr.deeper _) pI;have e1:wV P w K mg base { A with handled:=zy } outer s H:=#[e0.frames,e0.mod,e0.bs,e0.sN,e0.kP,e0.rE,e0.aj,e0.bare];have I0:Inv (nY CX P w K mg base N qual scope f cdv { A with handled:=zy } outer s H E) [] zcS H s1:=A8 S bz e1 hl r x;have I:Inv zcI [] zcS H s1:=I0.turn (λp z=>z) (ZP e0.frames) (λz=>nomatch z);refine cC (ht [] s1 zcS H _ I hq) (λfl s' hs=>?_) λe s' hs=>hs;have fin:∀ {σ':St}{H':Hp}{v:V}{u:kz},Inv zcI [] σ' H' s'->RelV v u->Q v H'->CE outer P w H s Q u s' :=
   λ{σ' H' v u} J rv q=>#[v,H',J.os,J.bare,J.base,J.aj,rv,q]
  cases fl with
  |ret u=>
    let#[v,σ',H',J,rv,q]:=hs;exact fin J rv q
  |next=>
    let#[σ',H',J,q]:=hs;exact fin (v:=V.non) (u:=Value.none) J bz q
  |brk=>
    let#[_,_,_,q]:=hs;exact False.elim q
  |cont=>
    let#[_,_,_,q]:=hs;exact False.elim q
theorem hG.kS {f:Addr}{ps:List Str}{k:Nat}(F:hG K x qual st f fd) (S:qa N ps (fH st)) (len:∀ vs H Q E,sp vs H Q E->vs.length=ps.length)
 (kj:∀ (cdv:kz) (A:Around) (outer:List Env) (s:Shared) (H:Hp) (vs:List V) (Q:VK) (E:XK),pK k zaJ->sp vs H Q E ->
  ∃ t,cV (yP qC P w K mg base N qual (fH st) f cdv A outer s H E).dh (gK st) t /\ t { nx:=λ_ H'=>Q .non H',rt:=Q } zcS H):yO P w K mg base qC (k+1) f fd ps sp:=by
 let#[oc,od,kV,doc,pm,an,cdv,ct,pE,rfl,lk,dg]:=F.ex;refine SI lk dg S len λA outer s H vs Q E hr pI=>?_;let#[t,h,q]:=kj cdv A outer s H vs Q E hr pI;exact#[t,h.dh,q]
theorem hG.aeJ {f:Addr}{ps:List Str}{k:Nat}(F:hG K x qual st f fd) (S:qa N ps (fH st)) (len:∀ vs H Q E,sp vs H Q E->vs.length=ps.length)
 (kj:∀ (cdv:kz) (A:Around) (outer:List Env) (s:Shared) (H:Hp) (vs:List V) (Q:VK) (E:XK),bV k zaJ->sp vs H Q E ->
  ∃ t,cV (nY (eB P w) P w K mg base N qual (fH st) f cdv A outer s H E) (gK st) t /\ t { nx:=λ_ H'=>Q .non H',rt:=Q } zcS H):eM P w K mg base (eB P w) (k+1) f fd ps sp:=by
 let#[oc,od,kV,doc,pm,an,cdv,ct,pE,rfl,lk,dg]:=F.ex;exact RF lk dg S len λA outer s H vs Q E hr pI=>kj cdv A outer s H vs Q E hr pI
section
variable {k:Nat} {f C:Addr} {ps:List Str} {pH:List V} {ds:List kz} {E:XK} {m:Str} {p:Pos} {o:Expr} {ta:TE} {t:TA}
theorem LS (F:yO X.prog X.w X.K X.mg X.base CX k f fd ps sp) (hr:pK k X.A) (hg:Gl X x) (hm:X.mg x=some zb1) (hk:PySem.W.keepIn X.K zb1=zO) (hb:Binds X.K fd ps ds) (hd:Vals pH ds) (hx:Passes CX X E)
 (ha:PA X (e::es) t) (cu:(x==("__debug__":Str))=zw:=by decide) (he:starEach (e::es) X.env=zac::starEach es X.env:=by rfl) (eZ:(backTo pos zbm).any (·.1)=zw:=by rfl) :
 PE X zP (Hq sp pH E t):=by
 intro pins s σ H Q I h;refine sq (oI I hg hm ?_ cu);refine Zt (h₀:=X.base) I.ok.mod.wK hk (tA za4 λus s1 vs H1 I1 r q=>#[I1.cE,?_]) he eZ;have r2:Vals (vs++pH) (us++ds):=r.append hd;have hl:(us++ds).length=ps.length:=by rw[<-r2.length];exact F.len _ _ _ _ q
 refine wpAny_call (xS (F.run X.A X.stack s1 H1 #[us,[]] (us++ds) (vs++pH) Q E hr I1.aaj (hb s1 us I1.cE hl) r2 q) λr s' hq=>?_);cases r with
 |error e=>exact hx pins σ H1 s1 e s' I1 hq
 |ok fl=>
   cases fl with
   |ret u=>exact I1.after hq
   |next=>exact False.elim hq
   |brk=>exact False.elim hq
   |cont=>exact False.elim hq
inductive QW (K:Frag) (H:Hp):V->kz->uu where
 |of {x:V}{t:kz}(h:nC K H x t):QW K H x t
 |exc {a C:Addr}(e:H a=some (.ext (eO a C))) (T:vt K C):QW K H za3 zbp
noncomputable def aeK:V->kz->uu
 |.ref a,c=>c=.ref a
 |.ty n,c=>c=.type n
 |_,_=>False
def aeL (K:Frag):List V->Hp->VK->uu:=λvs H Q=>∃ x c t cv b,vs=[x,c] /\ QW K H x t /\ aeK c cv /\ kitOne K t cv=some b /\ Q (.bl b) H
theorem lB:dD X (.builtin "isinstance") (aeL X.K):=by
 intro pins s σ H xs us Q I rv h;let#[x,c,t,cv,b,rfl,ty,hc,e,q]:=h;cases rv with
 |cons r1 r2=>
   cases r2 with
   |cons r3 r4=>
     cases r4;ext u1 u2;have ec:u2=cv:=by
      cases c with
      |ref a=>exact(show u2=.ref a from r3).trans (show cv=.ref a from hc).symm
      |ty n=>exact(show u2=.type n from r3).trans (show cv=.type n from hc).symm
      |non=>exact hc.elim
      |bl _=>exact hc.elim
      |int _=>exact hc.elim
      |str _=>exact hc.elim
      |nu _=>exact hc.elim
      |uc _=>exact hc.elim
     subst ec;cases ty with
     |of ty=>exact Jk I r1 ty e λtk=>#[.bl b,H,I.tok tk,rfl,q]
     |@exc a C ea T=>
       cases (show u1=Value.ref a from r1);let#[p,_,_]:=(show a9 X.prog X.w H s.heap a (.ext (eO a C)) from I.aj a _ ea);exact pY (LP T) I.cE p e (λz=>nomatch z) λtk=>#[.bl b,H,I.tok tk,rfl,q]
end
def aeM:V->List V->Hp->VK->uu:=λx vs H Q=>∃ l xs y,x=.ref l /\ vs=[y] /\ H l=some zb0 /\ xs.all eA=zO /\ eA y=zO /\ Q (.int (xs.countP λz=>dR z y:Nat)) H
theorem Ag {A:Around}{s:Shared}{y:V}{u:kz}(ry:RelV y u) (fy:eA y=zO) (f:kz->Bool):∀ {xs:List V}{us:List kz},Vals xs us->xs.all eA=zO ->
 (∀ z w,z∈xs->w∈us->RelV z w->f w=dR z y)->∀ w∈us,SeqAt.EqAt A s w u (f w)
 |_,_,.nil,_,_,_,h=>nomatch h
 | z::zs,w::ws,.cons r t,ha,hf,v,hv=>by
   rw[eK,ao]at ha;rcases aH.mp hv with e|e
   .subst e;rw[hf z v bK bK r];exact LJ r ry ha.1 fy
   .exact Ag ry fy f t ha.2 (λa b h1 h2=>hf a b (bL _ h1) (bL _ h2)) v e
def vw (y:V) (w:kz):Bool:=match w with
 |.none=>dR .non y
 |.bool b=>dR (.bl b) y
 |.int i _=>dR zaS y
 |.str x _=>dR (.str x) y
 |_=>zw
theorem BI {z y:V}{w:kz}(r:RelV z w) (f:eA z=zO):vw y w=dR z y:=by
 cases z with
 |non=>cases (show w=Value.none from r);rfl
 |bl b=>cases (show w=Value.bool b from r);rfl
 |int i=>let#[t,rfl]:=(show ∃ t,w=Value.int i t from r);rfl
 |str x=>let#[t,rfl]:=(show ∃ t,w=Value.str x t from r);rfl
 |nu b=>exact nomatch f
 |uc b=>exact nomatch f
 |ref a=>exact nomatch f
 |ty n=>exact nomatch f
theorem Cp {y:V}:∀ {xs:List V}{us:List kz},Vals xs us->xs.all eA=zO->us.countP (vw y)=xs.countP λz=>dR z y
 |_,_,.nil,_=>rfl
 | z::zs,w::ws,.cons r t,ha=>by
   rw[eK,ao]at ha;rw[YC,YC,Cp t ha.2,BI r ha.1]
theorem SJ {y:V}:∀ {xs:List V}{us:List kz}{j:Nat}(h:j<us.length),Vals xs us->xs.all eA=zO->∃ z,xs[j]?=some z /\ vw y us[j]=dR z y
 |_,_,_,h,.nil,_=>absurd h zf
 | z::zs,w::ws,0,_,.cons r t,ha=>by
   rw[eK,ao]at ha;exact#[z,rfl,BI r ha.1]
 | z::zs,w::ws,j+1,h,.cons r t,ha=>by
   rw[eK,ao]at ha;let#[v,e1,e2]:=SJ (y:=y) (j:=j) (by simpa using h) t ha.2;exact#[v,by simpa using e1,by simpa using e2]
theorem LT:Hz X "list.count" aeM:=by
 intro pins s σ H x vs v us Q I rx rv h;let#[l,xs,y,rfl,rfl,hH,ha,hy,q]:=h;cases rx;let#[u,rfl,ru]:=rv.one;let#[z,its,n,r,hl,e]:=I.uk hH;refine we F.slot_list_count #[_,e,rfl] F.entry_list_count (F.args_list_count_2 _ _) (SeqAt.list_countAt l its.toArray n zy #[] u (vw y)) #[e,?_,?_]
 .intro w hw;refine Ag ru hy (vw y) r ha (λz w h1 h2 rz=>BI rz (cK.mp ha z h1)) w (by simpa using hw)
 .refine#[.int _,H,I.tok _,#[_,rfl],?_];rw[show its.toArray.toList=its from rfl,Cp r ha];exact q
def aeN:V->List V->Hp->VK->uu:=λx vs H Q=>∃ l xs y j,x=.ref l /\ vs=[y] /\ H l=some zb0 /\ xs.all eA=zO /\ eA y=zO /\ j<xs.length /\
 (∀ z,xs[j]?=some z->dR z y=zO) /\ (∀ (m:Nat) z,m<j->xs[m]?=some z->dR z y=zw) /\ Q (.int (j:Nat)) H
theorem LU:Hz X "list.index" aeN:=by
 intro pins s σ H x vs v us Q I rx rv h;let#[l,xs,y,j,rfl,rfl,hH,ha,hy,hj,hit,qz,q]:=h;cases rx;let#[u,rfl,ru]:=rv.one;let#[z,its,n,r,hl,e]:=I.uk hH;have yQ:j<its.length:=by lia
 have small:(j:Int)<2 ^ 63-1:=by have:=uh;lia
 refine we F.slot_list_index #[_,e,rfl] F.entry_list_index (F.args_list_index_2 _ _) (SeqAt.list_indexAt l its.toArray n zy #[] u (vw y) j (by simpa using yQ) small ?_ ?_) #[e,?_,?_]
 .let#[v,e1,e2]:=SJ (y:=y) yQ r ha;rw[show (its.toArray[j]'(by simpa using yQ))=its[j] from rfl,e2];exact hit v e1
 .intro m hm aeO;have HJ:m<its.length:=by simpa using hm
  let#[v,e1,e2]:=SJ (y:=y) HJ r ha;rw[show (its.toArray[m]'hm)=its[m] from rfl,e2];exact qz m v aeO e1
 .intro w hw;exact Ag ru hy (vw y) r ha (λz w h1 h2 rz=>BI rz (cK.mp ha z h1)) w (by simpa using hw)
 .exact#[.int (j:Nat),H,I.tok _,#[_,rfl],q]
noncomputable def aaR:Expr->Option Str
 |.Constant (.str x) _ _=>some x
 |_=>zy
def aeP (xs:List Str):TA:=λ_ H Q=>Q (xs.map V.str) H
theorem Gg:∀ {xs:List Str},es.map aaR=xs.map some->PA X es (aeP xs):=by
 induction es with
 |nil=>
   intro xs h;cases xs with
   |nil=>exact ic
   |cons _ _=>cases h
 |cons e es ih=>
   intro xs h;cases xs with
   |nil=>cases h
   |cons x xs=>
     rw[bh,bh,List.cons.injEq]at h;have h1:=h.1;cases e<;>try cases h1
     rename_i k _ _;cases k<;>cases h1;exact f8 DT (ih h.2)
end L2
namespace L2.DL
inductive D where
 |non|bl (b:Bool)|int (i:Int)|str (x:Str)|tup (l:List D)|lst (l:List D)|ai (l:List (Key×D))
inductive W where
 |d (x:D)|b (n:Nat)|s (l:List Int)|x (i:Nat)|t (l:List Nat)|m (l:List (Str×Nat))
inductive Bx where
 |lst (l:List D)|ai (l:List (Key×D))|dead|dT (l:List zcN)
mutual
noncomputable def Den (F:Hp):D->V->uu
 |.non,v=>v=.non
 |.bl b,v=>v=.bl b
 |.int i,v=>v=.int i
 |.str x,v=>v=.str x
 |.tup l,v=>∃ a vs,v=.ref a /\ F a=some (.tup vs) /\ aw F l vs
 |.lst l,v=>∃ a vs,v=.ref a /\ F a=some zbI /\ aw F l vs
 |.ai l,v=>∃ a af,v=.ref a /\ F a=some zcB /\ aI F l af
noncomputable def aw (F:Hp):List D->List V->uu
 |[],vs=>vs=[]
 |d::l,vs=>∃ v r,vs=v::r /\ Den F d v /\ aw F l r
noncomputable def aI (F:Hp):List (Key×D)->List (Key×V)->uu
 |[],r=>r=[]
 |(k,d)::l,r=>∃ v r',r=(k,v)::r' /\ Den F d v /\ aI F l r'
end
def Sub (F F':Hp):uu:=∀ a u,F a=some u->F' a=some u
theorem Sub.refl (F:Hp):Sub F F:=λ_ _ h=>h
theorem Sub.trans {G:Hp}(a:Sub F G) (b:Sub G H):Sub F H:=λx u h=>b x u (a x u h)
mutual
theorem Den.mono {F F':Hp}(s:Sub F F'):∀ (d:D) {v:V},Den F d v->Den F' d v
 |.non,_,h=>h
 |.bl _,_,h=>h
 |.int _,_,h=>h
 |.str _,_,h=>h
 | .tup l,_,h=>by
   let#[a,vs,e,h1,h2]:=h;exact#[a,vs,e,s _ _ h1,aw.mono s l h2]
 | .lst l,_,h=>by
   let#[a,vs,e,h1,h2]:=h;exact#[a,vs,e,s _ _ h1,aw.mono s l h2]
 | .ai l,_,h=>by
   let#[a,vs,e,h1,h2]:=h;exact#[a,vs,e,s _ _ h1,aI.mono s l h2]
theorem aw.mono {F F':Hp}(s:Sub F F'):∀ (l:List D) {vs:List V},aw F l vs->aw F' l vs
 |[],_,h=>h
 | d::l,_,h=>by
   let#[v,r,e,h1,h2]:=h;exact#[v,r,e,Den.mono s d h1,aw.mono s l h2]
theorem aI.mono {F F':Hp}(s:Sub F F'):∀ (l:List (Key×D)) {vs:List (Key×V)},aI F l vs->aI F' l vs
 |[],_,h=>h
 | (k,d)::l,_,h=>by
   let#[v,r,e,h1,h2]:=h;exact#[v,r,e,Den.mono s d h1,aI.mono s l h2]
end
theorem aw.length {F:Hp}:∀ {l:List D}{vs:List V},aw F l vs->l.length=vs.length
 | [],_,h=>by
   have e:_=[]:=h;rw[e];rfl
 | d::l,_,h=>by
   let#[v,r,e,_,h2]:=h;rw[e,bp,bp,h2.length]
theorem aw.get {F:Hp}:∀ {l:List D}{vs:List V}{i:Nat}{d:D},aw F l vs->l[i]?=some d->∃ v,vs[i]?=some v /\ Den F d v
 |[],_,_,_,_,e=>by simp at e
 | x::l,_,0,d,h,e=>by
   let#[v,r,q,h1,_]:=h;simp at e;subst e;subst q;exact#[v,rfl,h1]
 | x::l,_,i+1,d,h,e=>by
   let#[v,r,q,_,h2]:=h;subst q;let#[u,e1,e2]:=aw.get (i:=i) h2 (by simpa using e);exact#[u,by simpa using e1,e2]
theorem aw.get' {l:List D}(h:aw F l vs) (e:vs[i]?=some v):∃ d,l[i]?=some d /\ Den F d v:=by
 cases q:l[i]? with
 |none=>
   have h1:=List.getElem?_eq_none_iff.mp q;rw[h.length]at h1;rw[List.getElem?_eq_none_iff.mpr h1]at e;cases e
 |some d=>
   let#[u,e1,e2]:=h.get q;rw[e]at e1;cases e1;exact#[d,rfl,e2]
theorem aw.nil:aw F [] []:=rfl
theorem aw.cons {F:Hp}{d:D}{v:V}{l:List D}{vs:List V}(h:Den F d v) (t:aw F l vs):aw F (d::l) (v::vs):=#[v,vs,rfl,h,t]
theorem aw.append {F:Hp}:∀ {l l':List D}{vs aaS:List V},aw F l vs->aw F l' aaS->aw F (l++l') (vs++aaS)
 | [],_,_,_,h,t=>by
   have e:_=[]:=h;rw[e];exact t
 | d::l,_,_,_,h,t=>by
   let#[v,r,q,h1,h2]:=h;subst q;exact .cons h1 (h2.append t)
theorem aw.take {F:Hp}:∀ {l:List D}{vs:List V}(n:Nat),aw F l vs->aw F (l.take n) (vs.take n)
 |l,_,0,_=>by rw[YD,YD];rfl
 | [],_,n+1,h=>by
   have e:_=[]:=h;rw[e];exact rfl
 | d::l,_,n+1,h=>by
   let#[v,r,q,h1,h2]:=h;subst q;exact .cons h1 (h2.take n)
theorem aw.drop {F:Hp}:∀ {l:List D}{vs:List V}(n:Nat),aw F l vs->aw F (l.drop n) (vs.drop n)
 |l,_,0,h=>h
 | [],_,n+1,h=>by
   have e:_=[]:=h;rw[e];exact rfl
 | d::l,_,n+1,h=>by
   let#[v,r,q,h1,h2]:=h;subst q;exact h2.drop n
theorem aw.reverse {F:Hp}:∀ {l:List D}{vs:List V},aw F l vs->aw F l.reverse vs.reverse
 | [],_,h=>by
   have e:_=[]:=h;rw[e];exact rfl
 | d::l,_,h=>by
   let#[v,r,q,h1,h2]:=h;subst q;rw[E3,E3];exact h2.reverse.append (.cons h1 .nil)
theorem aw.set {F:Hp}{d:D}{v:V}(hd:Den F d v):∀ {l:List D}{vs:List V}(i:Nat),aw F l vs->aw F (l.set i d) (vs.set i v)
 | [],_,_,h=>by
   have e:_=[]:=h;rw[e];exact rfl
 | _::l,_,0,h=>by
   let#[v',r,q,h1,h2]:=h;subst q;exact .cons hd h2
 | _::l,_,i+1,h=>by
   let#[v',r,q,h1,h2]:=h;subst q;exact .cons h1 (aw.set hd i h2)
structure Fr where
 H₀:Hp
 n₀:Nat
 F₀:Hp
noncomputable def vz (r:List Addr):List Nat->List Addr->uu
 |[],as=>as=[]
 |n::l,as=>∃ a t,as=a::t /\ r[n]?=some a /\ vz r l t
theorem vz.mono {r r':List Addr}(p:r <+: r'):∀ {l:List Nat}{as:List Addr},vz r l as->vz r' l as
 |[],_,h=>h
 | n::l,_,h=>by
   let#[a,t,e,h1,h2]:=h;refine#[a,t,e,?_,h2.mono p];let#[u,rfl]:=p;rw[dn (List.getElem?_eq_some_iff.mp h1).1];exact h1
def kn (F:Hp):List zcN->List (List Key×V)->uu
 |[],r=>r=[]
 |(k,d)::l,r=>∃ v r',r=(k,v)::r' /\ Den F d v /\ kn F l r'
theorem kn.mono {F F':Hp}(s:Sub F F'):∀ (l:List zcN) {vs:List (List Key×V)},kn F l vs->kn F' l vs
 |[],_,h=>h
 | (k,d)::l,_,h=>by
   let#[v,r,e,h1,h2]:=h;exact#[v,r,e,Den.mono s d h1,kn.mono s l h2]
def bR (F:Hp) (QX:List Addr):W->V->uu
 |.d x,v=>Den F x v
 |.b n,v=>∃ a,v=.ref a /\ QX[n]?=some a
 |.s l,v=>∃ a o,v=.ref a /\ F a=some (.eX o (.lst (l.map V.int)))
 |.x _,_=>False
 |.t l,v=>∃ c as,v=.ref c /\ F c=some (.tup (as.map V.ref)) /\ vz QX l as
 |.m l,v=>∃ c as,v=.ref c /\ F c=some (.dK (List.zipWith (λk a=>(.inr k.1,V.ref a)) l as)) /\ vz QX (l.map (·.2)) as
theorem bR.mono {F F':Hp}{r r':List Addr}(s:Sub F F') (p:r <+: r'):∀ (w:W) {v:V},bR F r w v->bR F' r' w v
 |.d x,_,h=>Den.mono s x h
 | .b n,_,h=>by
   let#[a,e,h]:=h;refine#[a,e,?_];let#[t,rfl]:=p;rw[dn (List.getElem?_eq_some_iff.mp h).1];exact h
 |.s l,_,h=>let ⟨a,o,e,h⟩:=h;#[a,o,e,s _ _ h]
 |.x _,_,h=>h
 |.t l,_,h=>let ⟨c,as,e,h1,h2⟩:=h;#[c,as,e,s _ _ h1,h2.mono p]
 |.m l,_,h=>let ⟨c,as,e,h1,h2⟩:=h;#[c,as,e,s _ _ h1,h2.mono p]
def rN (F H:Hp) (a:Addr):Bx->uu
 |.lst l=>F a=zy /\ ∃ vs,H a=some zbI /\ aw F l vs
 |.ai l=>F a=zy /\ ∃ af,H a=some zcB /\ aI F l af
 |.dead=>∃ u,H a=some u
 |.dT l=>F a=zy /\ ∃ af,H a=some (.dT af) /\ kn F l af
noncomputable abbrev aE:=List (Option W)
noncomputable abbrev xB (n:Nat):Option W:=some (.b n)
noncomputable abbrev xN (i:Int):Option W:=some (.d zaS)
noncomputable abbrev xJ (l:List Int):Option W:=some (.d (.lst (l.map D.int)))
structure Rel (T:Fr) (F:Hp) (r:List Addr) (σ:St) (H:Hp) (env:aE) (bx:List Bx):uu where
 fh:Sub F H
 slot:∀ (i:Nat) (w:W),env[i]?=some (some w)->∃ v,σ[i]?=some (some v) /\ bR F r w v
 len:r.length=bx.length
 nd:r.Nodup
 box:∀ (n:Nat) (c:Bx) (a:Addr),bx[n]?=some c->r[n]?=some a->rN F H a c
 keep:∀ a u,T.H₀ a=some u->a∉r->H a=some u
 new:∀ (n:Nat) (a:Addr),T.n₀<=n->r[n]?=some a->T.H₀ a=zy
 n0:T.n₀<=r.length
 sl:env.length<=σ.length
 fs:∀ a u,F a=some u->T.F₀ a=some u \/ T.H₀ a=zy \/ a∈r
structure aT (F:Hp) (r:List Addr) (F':Hp) (r':List Addr):uu where
 s:Sub F F'
 p:r <+: r'
theorem aT.refl (F:Hp) (r:List Addr):aT F r F r:=#[Sub.refl F,rB r]
theorem aT.trans {F F' aaT:Hp}{r r' aaU:List Addr}(a:aT F r F' r') (b:aT F' r' aaT aaU):aT F r aaT aaU:=#[a.s.trans b.s,a.p.trans b.p]
theorem aT.den {F':Hp}{r':List Addr}(g:aT F r F' r') {w:W}(h:bR F r w v):bR F' r' w v:=h.mono g.s g.p w
inductive O (α:Type) where
 |val (a:α) (bx:List Bx)|exc (c:Nat) (bx:List Bx)|bad
abbrev DE (α:Type):=aE->List Bx->O α
noncomputable def fC {β:Type}(m:O α) (k:α->List Bx->O β):O β:=
 match m with
 |.val a bx=>k a bx
 |.exc c bx=>.exc c bx
 |.bad=>.bad
structure Xs where
 E:XK
 cl:Nat->Addr
noncomputable def End {β:Type}(T:Fr) (Z:Xs) (Rl:Hp->List Addr->α->β->uu) (F:Hp) (r:List Addr) (σ:St) (env:aE) (Q:β->Hp->uu):O α->uu
 |.val d bx'=>∀ F' r' v H',aT F r F' r'->Rel T F' r' σ H' env bx'->Rl F' r' d v->Q v H'
 |.exc c bx'=>∀ F' r' H',aT F r F' r'->Rel T F' r' [] H' [] bx'->Z.E (.ref (Z.cl c)) zy H'
 |.bad=>False
theorem End.weak {β:Type}{T:Fr}{Z:Xs}{Rl:Hp->List Addr->α->β->uu}{F':Hp}{r':List Addr}{env:aE}{Q:β->Hp->uu}(g:aT F r F' r'):∀ {o:O α},End T Z Rl F r σ env Q o->End T Z Rl F' r' σ env Q o
 |.val _ _,h=>λF2 r2 v H2 g2=>h F2 r2 v H2 (g.trans g2)
 |.exc _ _,h=>λF2 r2 H2 g2=>h F2 r2 H2 (g.trans g2)
 |.bad,h=>h
theorem End.bind {β α' β':Type}{T:Fr}{Z:Xs}{R1:Hp->List Addr->α->β->uu}{R2:Hp->List Addr->α'->β'->uu}{env:aE}{Q:β'->Hp->uu}{Q1:β->Hp->uu}
 {m:O α}{k:α->List Bx->O α'}(h:End T Z R2 F r σ env Q (fC m k))
 (c:∀ d bx1 F1 r1 v H1,aT F r F1 r1->Rel T F1 r1 σ H1 env bx1->R1 F1 r1 d v->End T Z R2 F1 r1 σ env Q (k d bx1)->Q1 v H1):End T Z R1 F r σ env Q1 m:=by
 cases m with
 |val d bx=>exact λF' r' v H' g R q=>c d bx F' r' v H' g R q (End.weak g h)
 |exc n bx=>exact h
 |bad=>exact h
theorem Rel.drop {T:Fr}{env:aE}{bx:List Bx}(R:Rel T F r σ H env bx):Rel T F r [] H [] bx:=
 #[R.fh,λi w e=>by simp at e,R.len,R.nd,R.box,R.keep,R.new,R.n0,au _,R.fs]
def tD (T:Fr) (Z:Xs) (m:DE W):TE:=λσ H Q=>∃ F r env bx,Rel T F r σ H env bx /\ End T Z bR F r σ env Q zI
def PD (X:Cx) (T:Fr) (Z:Xs) (e:Expr) (m:DE W):uu:=PE X e (tD T Z m)
abbrev aeQ:Hp->List Addr->Bool->Bool->uu:=λ_ _ a b=>a=b
def kT (T:Fr) (Z:Xs) (m:DE Bool):TT:=λσ H Q=>∃ F r env bx,Rel T F r σ H env bx /\ End T Z aeQ F r σ env Q zI
def dX (X:Cx) (T:Fr) (Z:Xs) (e:Expr) (m:DE Bool):uu:=PT X e (kT T Z m)
def cG (F:Hp) (r:List Addr):List W->List V->uu
 |[],vs=>vs=[]
 |w::l,vs=>∃ v t,vs=v::t /\ bR F r w v /\ cG F r l t
theorem cG.mono {F F':Hp}{r r':List Addr}(g:aT F r F' r'):∀ {l:List W}{vs:List V},cG F r l vs->cG F' r' l vs
 |[],_,h=>h
 | w::l,_,h=>by
   let#[v,t,e,h1,h2]:=h;exact#[v,t,e,g.den h1,h2.mono g]
def yR (T:Fr) (Z:Xs) (m:DE zan):TA:=λσ H Q=>∃ F r env bx,Rel T F r σ H env bx /\ End T Z cG F r σ env Q zI
def cH (X:Cx) (T:Fr) (Z:Xs) (es:List Expr) (m:DE zan):uu:=PA X es (yR T Z m)
theorem x4 {T:Fr}{B:Hp->List Addr->aE->List Bx->uu}{G:uu}(k:∀ F r env bx,Rel T F r σ H env bx->B F r env bx->G):(∃ F r env bx,Rel T F r σ H env bx /\ B F r env bx)->G:=λ⟨F,r,env,bx,R,h⟩=>k F r env bx R h
theorem x5 {δ:Type}{T:Fr}{C:Hp->List Addr->δ->uu}{B:Hp->List Addr->aE->List Bx->δ->uu}{G:uu}(k:∀ F r env bx w,Rel T F r σ H env bx->C F r w->B F r env bx w->G):(∃ F r env bx w,Rel T F r σ H env bx /\ C F r w /\ B F r env bx w)->G:=λ⟨F,r,env,bx,w,R,d,h⟩=>k F r env bx w R d h
theorem PE.imp {t t':TE}(h:PE X e t) (f:∀ σ H Q,t' σ H Q->t σ H Q):PE X e t':=λpins s σ H Q I q=>h pins s σ H Q I (f σ H Q q)
theorem PT.imp {t t':TT}(h:PT X e t) (f:∀ σ H Q,t' σ H Q->t σ H Q):PT X e t':=λpins s σ H Q I q=>h pins s σ H Q I (f σ H Q q)
theorem PW.imp {t t':TT}(h:PW X e t) (f:∀ σ H Q,t' σ H Q->t σ H Q):PW X e t':=λwhole pins s σ H Q I q=>h whole pins s σ H Q I (f σ H Q q)
theorem PA.imp {e:List Expr}{t t':TA}(h:PA X e t) (f:∀ σ H Q,t' σ H Q->t σ H Q):PA X e t':=λpos pins s σ H Q I q=>h pos pins s σ H Q I (f σ H Q q)
theorem PS.imp {e:Stmt}{t t':TS}(h:PS X e t) (f:∀ Q σ H,t' Q σ H->t Q σ H):PS X e t':=λpins s σ H Q I q=>h pins s σ H Q I (f Q σ H q)
theorem cV.imp {e:List Stmt}{t t':TS}(h:cV X e t) (f:∀ Q σ H,t' Q σ H->t Q σ H):cV X e t':=λpins s σ H Q I q=>h pins s σ H Q I (f Q σ H q)
section
variable {T:Fr} {Z:Xs} {a b:Expr} {ma mb mc:DE W} 
noncomputable def dV (i:Nat):DE W:=λenv bx=>match env[i]? with|some (some w)=>.val w bx|_=>.bad
theorem SK (i:Nat) (hN:X.N[i]?=some x:=by rfl) (hv:rD X.env.scope x:=by first|exact Or.inl bz|exact Or.inr (Or.inl bz)|exact Or.inr (Or.inr bz)) (hd:(x==("__debug__":Str))=zw:=by decide)
 (dg:(x==("__classdict__":Str))=zw:=by decide):PD X T Z zcq (dV i):=by
 refine PE.imp (oZ hN hv hd dg) λσ H Q=>x4 λF r env bx R h=>?_;unfold dV at h;split at h
 .ext w e;let#[v,e1,e2]:=R.slot i w e;exact#[v,e1,h F r v H (.refl F r) R e2]
 .exact h.elim
noncomputable def dC (d:D):DE W:=λ_ bx=>.val (.d d) bx
theorem Cq {d:D}(h:PE X e (tC v)) (hd:∀ F,Den F d v):PD X T Z e (dC d):=
 PE.imp h λσ H Q=>x4 λF r env bx R h=>h F r v H (.refl F r) R (hd F)
theorem SL {i:Int}{j}:PD X T Z (.Constant zaS j pos) (dC zaS):=Cq mM λ_=>rfl
theorem UI {i:Bool}{j}:PD X T Z (.Constant (.bool i) j pos) (dC (.bl i)):=Cq Lm λ_=>rfl
theorem SM {j}:PD X T Z (.Constant .none j pos) (dC .non):=Cq R9 λ_=>rfl
theorem SN {j}:PD X T Z (.Constant (.str x) j pos) (dC (.str x)):=Cq DT λ_=>rfl
noncomputable def ff:DE zan:=λ_ bx=>.val [] bx
def fc (m:DE W) (k:DE zan):DE zan:=λenv bx=>fC zI λw bx1=>fC (k env bx1) λl bx2=>.val (w::l) bx2
theorem jb:cH X T Z [] ff:=PA.imp ic λσ H Q=>x4 λF r env bx R h=>h F r [] H (.refl F r) R bz
theorem LV {k:DE zan}(ha:PD X T Z e ma) (hr:cH X T Z es k) (hs:starEach (e::es) X.env=zac::starEach es X.env:=by rfl):cH X T Z (e::es) (fc ma k):=by
 refine PA.imp (f8 ha hr hs) λσ H Q=>x4 λF r env bx R h=>?_;refine#[F,r,env,bx,R,End.bind h λw bx1 F1 r1 v H1 g1 R1 d1 h1=>?_];refine#[F1,r1,env,bx1,R1,End.bind h1 λl bx2 F2 r2 vs H2 g2 R2 d2 h2=>?_];exact h2 F2 r2 _ H2 (.refl F2 r2) R2 #[v,vs,rfl,g2.den d1,d2]
end
end L2.DL
variable {te m ma:L2.DL.DE L2.DL.W}{ks mi:L2.DL.DE (List L2.DL.W)}{T:L2.DL.Fr}{l:List L2.DL.D}{d:L2.DL.D}{env:L2.DL.aE}{tf:L2.DL.DE Bool}{Z:L2.DL.Xs}{bx bx' bx1:List L2.DL.Bx}{fn fw:List L2.DL.W -> List L2.DL.Bx -> L2.DL.O L2.DL.W}
namespace L2.DL
theorem oN {p:Addr}{o:HO}(h:F p=zy):Sub F (upd F p o):=λa u e=>by rw[fA (fQ e h)];exact e
theorem Rel.wY (R:Rel T F r σ H env bx) {p:Addr}(h:H p=zy):F p=zy:=by
 cases e:F p with
 |none=>rfl
 |some u=>rw[R.fh p u e]at h;cases h
theorem rN.there:∀ {c:Bx},rN F H a c->∃ u,H a=some u
 |.lst _,h=>let ⟨_,vs,e,_⟩:=h;#[_,e]
 |.ai _,h=>let ⟨_,vs,e,_⟩:=h;#[_,e]
 |.dead,h=>h
 |.dT _,h=>let ⟨_,vs,e,_⟩:=h;#[_,e]
theorem Rel.nF (R:Rel T F r σ H env bx) (e:r[n]?=some a):∃ c,bx[n]?=some c /\ rN F H a c:=by
 have h:=(List.getElem?_eq_some_iff.mp e).1;rw[R.len]at h;exact#[_,cU h,R.box n _ a (cU h) e]
theorem Rel.yS (R:Rel T F r σ H env bx) {p:Addr}(h:H p=zy):p∉r:=λhp=>by
 let#[n,e]:=List.mem_iff_getElem?.mp hp;let#[c,_,k]:=R.nF e;let#[u,k]:=k.there;rw[h]at k;cases k
theorem rN.grow {F':Hp}(s:Sub F F') (hf:F a=zy->F' a=zy) (hh:∀ u,H a=some u->H' a=some u):∀ {c:Bx},rN F H a c->rN F' H' a c
 |.lst _,h=>let ⟨h1,vs,h2,h3⟩:=h;#[hf h1,vs,hh _ h2,aw.mono s _ h3]
 |.ai _,h=>let ⟨h1,vs,h2,h3⟩:=h;#[hf h1,vs,hh _ h2,aI.mono s _ h3]
 |.dead,h=>let ⟨u,h⟩:=h;#[u,hh u h]
 |.dT _,h=>let ⟨h1,vs,h2,h3⟩:=h;#[hf h1,vs,hh _ h2,kn.mono s _ h3]
theorem Rel.vA (R:Rel T F r σ H env bx) {p:Addr}{o:HO}(h:H p=zy):Rel T (upd F p o) r σ (upd H p o) env bx:=by
 have hf:=R.wY h;have s:=oN (o:=o) hf;refine#[λa u e=>?_,λi w e=>?_,R.len,R.nd,λn c a e1 e2=>?_,λa u e hn=>?_,R.new,R.n0,R.sl,λa u e=>?_]
 .by_cases ha:a=p
  .subst ha;rw[fE]at e ⊢;exact e
  .rw[fA ha]at e ⊢;exact R.fh a u e
 .let#[v,e1,e2]:=R.slot i w e;exact#[v,e1,e2.mono s (rB r)]
 .have k:=R.box n c a e1 e2;let#[u,hu]:=k.there;have ha:a≠p:=fQ hu h;exact k.grow s (λz=>by rw[fA ha];exact z) (λu z=>by rw[fA ha];exact z)
 .have k:=R.keep a u e hn;rw[fA (fQ k h)];exact k
 .by_cases ha:a=p
  .subst ha;refine .inr (.inl ?_);cases q:T.H₀ a with
   |none=>rfl
   |some u=>rw[R.keep a u q (R.yS h)]at h;cases h
  .rw[fA ha]at e;exact R.fs a u e
theorem Rel.rO (R:Rel T F r σ H env bx) {p:Addr}{o:HO}(h:H p=zy):aT F r (upd F p o) r:=#[oN (R.wY h),rB r]
theorem Rel.QY (R:Rel T F r σ H env bx) {p:Addr}{o:HO}{c:Bx}(h:H p=zy) (hc:rN F (upd H p o) p c):Rel T F (r++[p]) σ (upd H p o) env (bx++[c]):=by
 have hs:∀ a u,H a=some u->upd H p o a=some u:=λa u e=>by rw[fA (fQ e h)];exact e
 refine#[λa u e=>hs a u (R.fh a u e),λi w e=>?_,by rw[cJ,cJ,R.len];rfl,?_,λn c' a e1 e2=>?_,λa u e hn=>?_,λn a hn e=>?_,by rw[cJ];exact br R.n0 (uV _ _),R.sl,λa u e=>(R.fs a u e).imp id (Or.imp id λz=>dM _ z)]
 .let#[v,e1,e2]:=R.slot i w e;exact#[v,e1,e2.mono (Sub.refl F) (ye r [p])]
 .rw[ub];refine#[R.nd,by simp,λa ha b hb=>?_];rw[bu]at hb;subst hb;exact λz=>R.yS h (z▸ha)
 .by_cases hn:n<r.length
  .rw[dn hn]at e2;rw[dn (by rw[<-R.len];exact hn)]at e1;exact(R.box n c' a e1 e2).grow (Sub.refl F) id (hs a)
  .rw[dk zb]at e2;rw[dk (by rw[<-R.len];lia)]at e1;have hl:n-r.length=0:=by
    cases q:n-r.length with
    |zero=>rfl
    |succ k=>rw[q]at e2;simp at e2
   have qd:n-bx.length=0:=by rw[<-R.len];exact hl
   rw[hl]at e2;rw[qd]at e1;simp at e1 e2;subst e1 e2;exact hc
 .exact hs a u (R.keep a u e λz=>hn (dM _ z))
 .by_cases hl:n<r.length
  .rw[dn hl]at e;exact R.new n a hn e
  .have hp:a=p:=by
    rw[dk zb]at e;cases q:n-r.length with
    |zero=>rw[q]at e;simp at e;exact e.symm
    |succ k=>rw[q]at e;simp at e
   subst hp;cases q:T.H₀ a with
   |none=>rfl
   |some u=>rw[R.keep a u q (R.yS h)]at h;cases h
theorem Ah {l:List α}(h:l.Nodup) {x:α}(a:l[i]?=some x) (b:l[j]?=some x):i=j:=by
 have h1:=(List.getElem?_eq_some_iff.mp a).1;have h2:=(List.getElem?_eq_some_iff.mp b).1;exact(YE h1 h).mp (a.trans b.symm)
theorem Rel.write (R:Rel T F r σ H env bx) {o:HO}{c:Bx}(e:r[n]?=some a) (hF:F a=zy) (hc:rN F (upd H a o) a c):Rel T F r σ (upd H a o) env (bx.set n c):=by
 have ha:a∈r:=List.mem_iff_getElem?.mpr #[n,e];refine#[λb u q=>?_,R.slot,by rw[nj];exact R.len,R.nd,λm c' b e1 e2=>?_,λb u q hn=>?_,R.new,R.n0,R.sl,R.fs]
 .by_cases hb:b=a
  .subst hb;rw[hF]at q;cases q
  .rw[fA hb];exact R.fh b u q
 .by_cases hm:m=n
  .subst hm;rw[e]at e2;cases e2;rw[qu (by rw[<-R.len];exact(List.getElem?_eq_some_iff.mp e).1)]at e1;cases e1;exact hc
  .rw[qv (Ne.symm hm)]at e1;have hb:b≠a:=λz=>hm (Ah R.nd e2 (z▸e));exact(R.box m c' b e1 e2).grow (Sub.refl F) id λu z=>by rw[fA hb];exact z
 .rw[fA (λz=>hn (by rw[z];exact ha))];exact R.keep b u q hn
theorem Rel.freeze (R:Rel T F r σ H env bx) {o:HO}(e:r[n]?=some a) (hF:F a=zy) (hH:H a=some o):Rel T (upd F a o) r σ H env (bx.set n .dead) /\ aT F r (upd F a o) r:=by
 have s:=oN (o:=o) hF;refine#[#[λb u q=>?_,λi w q=>?_,by rw[nj];exact R.len,R.nd,λm c' b e1 e2=>?_,R.keep,R.new,R.n0,R.sl,λb u q=>?_],s,rB r]
 .by_cases hb:b=a
  .subst hb;rw[fE]at q;cases q;exact hH
  .rw[fA hb]at q;exact R.fh b u q
 .let#[v,e1,e2]:=R.slot i w q;exact#[v,e1,e2.mono s (rB r)]
 .by_cases hm:m=n
  .subst hm;rw[e]at e2;cases e2;rw[qu (by rw[<-R.len];exact(List.getElem?_eq_some_iff.mp e).1)]at e1;cases e1;exact#[_,hH]
  .rw[qv (Ne.symm hm)]at e1;have hb:b≠a:=λz=>hm (Ah R.nd e2 (z▸e));exact(R.box m c' b e1 e2).grow s (λz=>by rw[fA hb];exact z) λu z=>z
 .by_cases hb:b=a
  .subst hb;exact .inr (.inr (List.mem_iff_getElem?.mpr #[n,e]))
  .rw[fA hb]at q;exact R.fs b u q
def n8 (F H:Hp):D->V->uu
 |.lst l,v=>∃ a vs,v=.ref a /\ H a=some zbI /\ aw F l vs
 |.ai l,v=>∃ a af,v=.ref a /\ H a=some zcB /\ aI F l af
 |.tup l,v=>∃ a vs,v=.ref a /\ F a=some (.tup vs) /\ aw F l vs
 |.non,v=>v=.non
 |.bl b,v=>v=.bl b
 |.int i,v=>v=.int i
 |.str x,v=>v=.str x
noncomputable def aQ (bx:List Bx):W->Option D
 |.d x=>some x
 | .b n=>match bx[n]? with
   |some (.lst l)=>some zQ
   |some (.ai l)=>some (.ai l)
   |_=>zy
 |_=>zy
theorem Den.qF (s:Sub F H):∀ {d:D}{v:V},Den F d v->n8 F H d v
 |.non,_,h=>h
 |.bl _,_,h=>h
 |.int _,_,h=>h
 |.str _,_,h=>h
 |.tup l,_,h=>h
 |.lst l,_,h=>let ⟨a,vs,e,h1,h2⟩:=h;#[a,vs,e,s _ _ h1,h2]
 |.ai l,_,h=>let ⟨a,vs,e,h1,h2⟩:=h;#[a,vs,e,s _ _ h1,h2]
theorem Rel.qF (R:Rel T F r σ H env bx) {w:W}{v:V}{d:D}(h:bR F r w v) (e:aQ bx w=some d):n8 F H d v:=by
 cases w with
 |d x=>
   cases e;exact Den.qF R.fh h
 |b n=>
   let#[a,rfl,ha]:=h;let#[c,hc,k]:=R.nF ha;erw[aQ,hc]at e;cases c with
   |lst l=>cases e;let#[_,vs,k1,k2]:=k;exact#[a,vs,rfl,k1,k2]
   |ai l=>cases e;let#[_,vs,k1,k2]:=k;exact#[a,vs,rfl,k1,k2]
   |dead=>cases e
   |dT _=>cases e
 |s l=>cases e
 |x i=>exact h.elim
 |t _=>cases e
 |m _=>cases e
def QZ (F H:Hp):List D->List V->uu
 |[],vs=>vs=[]
 |d::l,vs=>∃ v t,vs=v::t /\ n8 F H d v /\ QZ F H l t
def eP (bx:List Bx):List W->Option (List D)
 |[]=>some []
 |w::l=>(aQ bx w).bind λd=>(eP bx l).map λt=>d::t
theorem Rel.aaV (R:Rel T F r σ H env bx):∀ {ws:List W}{vs:List V}{ds:List D},cG F r ws vs->eP bx ws=some ds->QZ F H ds vs
 |[],_,_,h,e=>by cases e;exact h
 | w::l,_,ds,h,e=>by
   let#[v,t,q,h1,h2]:=h;unfold eP at e;cases e1:aQ bx w with
   |none=>rw[e1]at e;cases e
   |some d=>
     rw[e1]at e;cases e2:eP bx l with
     |none=>rw[e2]at e;cases e
     |some t'=>
       rw[e2]at e;cases e;exact#[v,t,q,R.qF h1 e1,R.aaV h2 e2]
inductive Res where
 |old (d:D)|tup (l:List D)|lst (l:List D)|ai (l:List (Key×D))
noncomputable def Res.toD:Res->D
 |.old d=>d|.tup l=>.tup l|.lst l=>.lst l|.ai l=>.ai l
def vB (F H:Hp):Res->V->Hp->uu
 |.old d,v,H'=>H'=H /\ Den F d v
 |.tup l,v,H'=>(H'=H /\ Den F zV v) \/ ∃ p vs,v=.ref p /\ H p=zy /\ H'=upd H p (.tup vs) /\ aw F l vs
 |.lst l,v,H'=>∃ p vs,v=.ref p /\ H p=zy /\ H'=upd H p zbI /\ aw F l vs
 |.ai l,v,H'=>∃ p vs,v=.ref p /\ H p=zy /\ H'=upd H p (.dK vs) /\ aI F l vs
theorem Rel.res (R:Rel T F r σ H env bx):∀ {q:Res},vB F H q v H'->∃ F',aT F r F' r /\ Rel T F' r σ H' env bx /\ Den F' q.toD v
 | .old d,h=>by
   let#[rfl,h]:=h;exact#[F,.refl F r,R,h]
 | .tup l,h=>by
   rcases h with⟨rfl,h⟩|⟨p,vs,rfl,hp,rfl,h⟩
   .exact#[F,.refl F r,R,h]
   exact#[_,R.rO hp,R.vA hp,p,vs,rfl,fE,aw.mono (R.rO (o:=.tup vs) hp).s l h]
 | .lst l,h=>by
   let#[p,vs,rfl,hp,rfl,h]:=h;exact#[_,R.rO hp,R.vA hp,p,vs,rfl,fE,aw.mono (R.rO (o:=.lst vs) hp).s l h]
 | .ai l,h=>by
   let#[p,vs,rfl,hp,rfl,h]:=h;exact#[_,R.rO hp,R.vA hp,p,vs,rfl,fE,aI.mono (R.rO (o:=.dK vs) hp).s l h]
theorem Rel.resB (R:Rel T F r σ H env bx) (h:vB F H zQ v H'):∃ r',aT F r F r' /\ Rel T F r' σ H' env (bx++[.lst l]) /\ bR F r' zca v:=by
 let#[p,vs,rfl,hp,rfl,h]:=h;refine#[r++[p],#[Sub.refl F,ye r [p]],R.QY hp #[R.wY hp,vs,fE,h],p,rfl,?_];rw[<-R.len,dk (au _),pX];rfl
theorem Rel.aeR (R:Rel T F r σ H env bx) {l:List (Key×D)}(h:vB F H (.ai l) v H'):∃ r',aT F r F r' /\ Rel T F r' σ H' env (bx++[.ai l]) /\ bR F r' zca v:=by
 let#[p,vs,rfl,hp,rfl,h]:=h;refine#[r++[p],#[Sub.refl F,ye r [p]],R.QY hp #[R.wY hp,vs,fE,h],p,rfl,?_];rw[<-R.len,dk (au _),pX];rfl
def b0 (b:Bool):Option Res->List Bx->O W
 |none,_=>.bad
 | some q,bx=>match b,q with
   |true,.lst l=>.val zca (bx++[.lst l])
   |true,.ai l=>.val zca (bx++[.ai l])
   |_,_=>.val (.d q.toD) bx
theorem ir {Q:VK}{b:Bool}{q:Res}(R:Rel T F r σ H env bx) (h:End T Z bR F r σ env Q (b0 b (some q) bx)) (k:vB F H q v H'):Q v H':=by
 have one:End T Z bR F r σ env Q (.val (.d q.toD) bx)->Q v H':=λh=>by
  let#[F',g,R',d]:=R.res k;exact h F' r v H' g R' d
 cases b with
 |false=>exact one h
 |true=>
   cases q with
   |old d=>exact one h
   |tup l=>exact one h
   |lst l=>
     let#[r',g,R',d]:=R.resB k;exact h F r' v H' g R' d
   |ai l=>
     let#[r',g,R',d]:=R.aeR k;exact h F r' v H' g R' d
def bS (q:R2) (g:D->D->Option Res):uu:=∀ (F H:Hp) (x y:D) (v w:V) (Q:VK) (s:Res),Sub F H->n8 F H x v->n8 F H y w->g x y=some s->(∀ u H',vB F H s u H'->Q u H')->q v w H Q
def hU (q:List V->Hp->VK->uu) (g:List D->Option Res):uu:=∀ (F H:Hp) (xs:List D) (vs:List V) (Q:VK) (s:Res),Sub F H->QZ F H xs vs->g xs=some s->(∀ u H',vB F H s u H'->Q u H')->q vs H Q
def d2 (b:Bool) (g:D->D->Option Res) (ma mb:DE W):DE W:=λenv bx=>fC (ma env bx) λx bx1=>fC (mb env bx1) λy bx2=>b0 b ((aQ bx2 x).bind λp=>(aQ bx2 y).bind λq=>g p q) bx2
theorem Gh {q:R2}{g:D->D->Option Res}{b:Bool}{mb:DE W}(hg:bS q g) (σ:St) (H:Hp) (Q:VK) (h:tD T Z (d2 b g ma mb) σ H Q):yB q (tD T Z ma) (tD T Z mb) σ H Q:=by
 let#[F,r,env,bx,R,h]:=h;refine#[F,r,env,bx,R,End.bind h λx bx1 F1 r1 v H1 g1 R1 d1 h1=>?_];refine#[F1,r1,env,bx1,R1,End.bind h1 λy bx2 F2 r2 w H2 g2 R2 aeS h2=>?_];have aeT:=g2.den d1;cases e1:aQ bx2 x with
 |none=>rw[e1]at h2;exact h2.elim
 |some p=>
   cases e2:aQ bx2 y with
   |none=>rw[e1,e2]at h2;exact h2.elim
   |some z=>
     cases e3:g p z with
     |none=>rw[e1,e2]at h2;erw[bD,e3]at h2;exact h2.elim
     |some s=>
       rw[e1,e2]at h2;erw[bD,e3]at h2;exact hg F2 H2 p z v w Q s R2.fh (R2.qF aeT e1) (R2.qF aeS e2) e3 λu H' k=>ir R2 h2 k
def dN (b:Bool) (g:List D->Option Res) (k:DE zan):DE W:=λenv bx=>fC zcY λws bx1=>b0 b ((eP bx1 ws).bind g) bx1
theorem LW {g:List D->Option Res}{b:Bool}{k:DE zan}(hg:hU q g) (σ:St) (H:Hp) (Q:VK) (h:tD T Z (dN b g k) σ H Q):Hr q (yR T Z k) σ H Q:=by
 let#[F,r,env,bx,R,h]:=h;refine#[F,r,env,bx,R,End.bind h λws bx1 F1 r1 vs H1 g1 R1 d1 h1=>?_];cases e1:eP bx1 ws with
 |none=>rw[e1]at h1;exact h1.elim
 |some ds=>
   rw[e1]at h1;cases e2:g ds with
   |none=>erw[bD,e2]at h1;exact h1.elim
   |some s=>
     erw[bD,e2]at h1;exact hg F1 H1 ds vs Q s R1.fh (R1.aaV d1 e1) e2 λu H' k=>ir R1 h1 k
end L2.DL
variable {g:L2.DL.D -> L2.DL.D -> Option L2.DL.Res}
namespace L2.DL
section
variable {a b:Expr} {mb mc:DE W} {p:Pos}
theorem SO {op:Operator}{q:R2}(bo:Bool) (ho:aO X (binaryOp op) q) (hg:bS q g) (ha:PD X T Z a ma) (hb:PD X T Z b mb):PD X T Z (.BinOp a op b pos) (d2 bo g ma mb):=
 PE.imp (Lx ho ha hb) (Gh hg)
theorem SQ {q:R2}(ho:aO X (compareOp op) q) (hg:bS q g) (ha:PD X T Z a ma) (hb:PD X T Z b mb) (hm:behindInMarks op b=zw):PD X T Z zcr (d2 zw g ma mb):=
 PE.imp (N0 ho ha hb hm) (Gh hg)
theorem UJ {q:R2}(ho:rJ X q) (hg:bS q g) (ha:PD X T Z a ma) (hb:PD X T Z b mb) (hs:Hv b):PD X T Z (.Subscript a b pos) (d2 zw g ma mb):=
 PE.imp (LG ho ha hb hs) (Gh hg)
def dB (m:DE W):DE Bool:=λenv bx=>fC zI λw bx1=>match w with|.d (.bl k)=>.val k bx1|_=>.bad
theorem UK {Q:Bool->Hp->uu}(h:kT T Z (dB ma) σ H Q):tB (tD T Z ma) σ H Q:=by
 let#[F,r,env,bx,R,h]:=h;refine#[F,r,env,bx,R,End.bind h λw bx1 F1 r1 v H1 g1 R1 d1 h1=>?_];split at h1
 .ext k;exact#[k,d1,h1 F1 r1 k H1 zaa R1 bz]
 .exact h1.elim
theorem Of (h:PD X T Z e ma) (he:∀ whole,isTrue e X.env whole=(do let v <-whole;standAt e.pos;holding [v] (truthy v)):=by intro _;rfl):dX X T Z e (dB ma):=
 PT.imp (Ln h he) λσ H Q h=>UK h
theorem Og {q:R2}(ho:aO X (compareOp op) q) (hg:bS q g) (ha:PD X T Z a ma) (hb:PD X T Z b mb) (hm:behindInMarks op b=zw):dX X T Z zcr (dB (d2 zw g ma mb)):=by
 refine PT.imp (Ga ho ha hb hm) λσ H Q h=>?_;let#[F,r,env,bx,R,h]:=h;refine Gh (T:=T) (Z:=Z) (b:=zw) hg σ H _ #[F,r,env,bx,R,End.bind h λw bx1 F1 r1 v H1 g1 R1 d1 h1=>?_];split at h1
 .ext k;exact#[k,d1,h1 F1 r1 k H1 zaa R1 bz]
 .exact h1.elim
noncomputable def aaW:D->Option Bool
 |.non=>some zw
 |.bl b=>some b
 |.int i=>some (i != 0)
 |.str y=>if y.length<=sizeLine then some ((y.length:Int) != 0) else zy
 |.tup l=>some !l.isEmpty
 |.lst l=>some !l.isEmpty
 |.ai l=>some !l.isEmpty
def vC (m:DE W):DE Bool:=λenv bx=>fC zI λw bx1=>match (aQ bx1 w).bind aaW with|some k=>.val k bx1|none=>.bad
theorem aw.isEmpty {F:Hp}{l:List D}{vs:List V}(h:aw F l vs):l.isEmpty=vs.isEmpty:=by
 have:=h.length;cases l<;>cases vs<;>simp_all
theorem aI.length {F:Hp}:∀ {l:List (Key×D)}{vs:List (Key×V)},aI F l vs->l.length=vs.length
 | [],_,h=>by
   have e:_=[]:=h;rw[e];rfl
 | (k,d)::l,_,h=>by
   let#[v,r,e,_,h2]:=h;rw[e,bp,bp,h2.length]
theorem aI.isEmpty {F:Hp}{l:List (Key×D)}{vs:List (Key×V)}(h:aI F l vs):l.isEmpty=vs.isEmpty:=by
 have:=h.length;cases l<;>cases vs<;>simp_all
theorem SR {k:Bool}(s:Sub F H) (h:n8 F H d v) (e:aaW d=some k):Qk K v H k:=by
 cases d with
 |non=>cases e;cases (show v=.non from h);exact rfl
 |bl b=>cases e;cases (show v=.bl k from h);exact rfl
 |int i=>cases e;cases (show v=.int i from h);exact rfl
 |str y=>
   cases (show v=.str y from h);have e':(if y.length<=sizeLine then some ((y.length:Int) != 0) else zy)=some k:=e;split at e'
   .cases e';exact#[by assumption,rfl]
   .cases e'
 |tup l=>cases e;let#[p,vs,rfl,h1,h2]:=h;exact .inr (.inl #[vs,.of (s _ _ h1),by rw[h2.isEmpty]])
 |lst l=>cases e;let#[p,vs,rfl,h1,h2]:=h;exact .inl #[vs,.of h1,by rw[h2.isEmpty]]
 |ai l=>cases e;let#[p,vs,rfl,h1,h2]:=h;exact .inr (.inr #[vs,h1,by rw[h2.isEmpty]])
theorem Oh (h:PD X T Z e ma) (he:∀ whole,isTrue e X.env whole=(do let v <-whole;standAt e.pos;holding [v] (truthy v)):=by intro _;rfl):dX X T Z e (vC ma):=by
 refine PT.imp (LC h he) λσ H Q h=>?_;let#[F,r,env,bx,R,h]:=h;refine#[F,r,env,bx,R,End.bind h λw bx1 F1 r1 v H1 g1 R1 d1 h1=>?_];split at h1
 .ext k e;cases e1:aQ bx1 w with
  |none=>rw[e1]at e;cases e
  |some d=>
    rw[e1]at e;exact#[k,SR R1.fh (R1.qF d1 e1) e,h1 F1 r1 k H1 zaa R1 bz]
 .exact h1.elim
def d3 (g g':D->D->Option Res) (ma mb mc:DE W):DE W:=λenv bx=>fC (ma env bx) λx bx1=>fC (mb env bx1) λy bx2=>
 fC (b0 zw ((aQ bx2 x).bind λp=>(aQ bx2 y).bind λq=>g p q) bx2) λz aP=>match z with
  |.d (.bl true)=>fC (mc env aP) λw bN=>b0 zw ((aQ bN y).bind λp=>(aQ bN w).bind λq=>g' p q) bN
  |.d (.bl false)=>.val zcO aP
  |_=>.bad
theorem aaX {q:R2}(hg:bS q g) {x y:W}{w:V}{Q:VK}(R:Rel T F r σ H env bx) (dx:bR F r x v) (dy:bR F r y w)
 (h:End T Z bR F r σ env Q (b0 zw ((aQ bx x).bind λp=>(aQ bx y).bind λq=>g p q) bx)):q v w H Q:=by
 cases e1:aQ bx x with
 |none=>rw[e1]at h;exact h.elim
 |some p=>
   cases e2:aQ bx y with
   |none=>rw[e1,e2]at h;exact h.elim
   |some z=>
     cases e3:g p z with
     |none=>rw[e1,e2]at h;erw[bD,e3]at h;exact h.elim
     |some s=>
       rw[e1,e2]at h;erw[bD,e3]at h;exact hg F H p z v w Q s R.fh (R.qF dx e1) (R.qF dy e2) e3 λu H' k=>ir R h k
theorem Gi {q q':R2}{g':D->D->Option Res}(hg:bS q g) (uq:bS q' g') {Q:VK}(h:tD T Z (d3 g g' ma mb mc) σ H Q):Qj q q' (tD T Z ma) (tD T Z mb) (tD T Z mc) σ H Q:=by
 let#[F,r,env,bx,R,h]:=h;refine#[F,r,env,bx,R,End.bind h λx bx1 F1 r1 v H1 g1 R1 d1 h1=>?_];refine#[F1,r1,env,bx1,R1,End.bind h1 λy bx2 F2 r2 w H2 g2 R2 d2 h2=>?_];refine aaX (T:=T) (Z:=Z) (bx:=bx2) hg R2 (g2.den d1) d2 (End.bind h2 λz aP F3 r3 u H3 g3 R3 d3 h3=>?_);split at h3
 .refine#[zO,d3,?_];rw[if_pos rfl];refine#[F3,r3,env,aP,R3,End.bind h3 λt bN F4 r4 s H4 g4 R4 d4 h4=>?_];exact aaX (T:=T) (Z:=Z) uq R4 (g4.den (g3.den d2)) d4 h4
 .refine#[zw,d3,?_];rw[if_neg za];exact h3 F3 r3 _ H3 (.refl F3 r3) R3 bz
 .exact h3.elim
theorem LX {cj:CmpOp}{q q':R2}{g':D->D->Option Res}(ho:aO X (compareOp op) q) (nz:aO X (compareOp cj) q') (hg:bS q g) (uq:bS q' g') (ha:PD X T Z a ma) (hb:PD X T Z b mb) (hc:PD X T Z c mc)
 (hm:lastMarks [op,cj] [b,c]=zw:=by with_unfolding_all rfl):PD X T Z (.Compare a [op,cj] [b,c] pos) (d3 g g' ma mb mc):=
 PE.imp (LA ho nz ha hb hc hm) λσ H Q h=>Gi hg uq h
theorem Jr {cj:CmpOp}{q q':R2}{g':D->D->Option Res}(ho:aO X (compareOp op) q) (nz:aO X (compareOp cj) q') (hg:bS q g) (uq:bS q' g') (ha:PD X T Z a ma) (hb:PD X T Z b mb) (hc:PD X T Z c mc)
 (hm:lastMarks [op,cj] [b,c]=zw:=by with_unfolding_all rfl):dX X T Z (.Compare a [op,cj] [b,c] pos) (dB (d3 g g' ma mb mc)):=by
 refine PT.imp (LB ho nz ha hb hc hm) λσ H Q h=>?_;let#[F,r,env,bx,R,h]:=h;refine Gi (T:=T) (Z:=Z) hg uq #[F,r,env,bx,R,End.bind h λw bx1 F1 r1 v H1 g1 R1 d1 h1=>?_];split at h1
 .ext k;exact#[k,d1,h1 F1 r1 k H1 zaa R1 bz]
 .exact h1.elim
def qG (m k:DE Bool):DE Bool:=λenv bx=>fC zI λb bx1=>match b with|true=>k env bx1|false=>.val zw bx1
def aZ (m k:DE Bool):DE Bool:=λenv bx=>fC zI λb bx1=>match b with|true=>.val zO bx1|false=>k env bx1
def aG (m:DE Bool):DE Bool:=λenv bx=>fC zI λb bx1=>.val (!b) bx1
def rP (X:Cx) (T:Fr) (Z:Xs) (e:Expr) (m:DE Bool):uu:=PW X e (kT T Z m)
variable {ta tb:DE Bool} {rest:List Expr}
theorem LY (h:dX X T Z a ta):rP X T Z (.BoolOp .And [a] pos) ta:=NY h
theorem Oi (h:dX X T Z a ta):rP X T Z (.BoolOp .Or [a] pos) ta:=Lo h
theorem Oj (ha:dX X T Z a ta) (hb:rP X T Z (.BoolOp .And (b::rest) pos) tb):rP X T Z (.BoolOp .And (a::b::rest) pos) (qG ta tb):=by
 refine PW.imp (Sd ha hb) λσ H Q=>x4 λF r env bx R h=>?_;refine#[F,r,env,bx,R,End.bind h λk bx1 F1 r1 v H1 g1 R1 d1 h1=>?_];subst d1;cases k with
 |true=>rw[if_pos rfl];exact#[F1,r1,env,bx1,R1,h1]
 |false=>rw[if_neg za];exact h1 F1 r1 _ H1 zaa R1 bz
theorem SS (ha:dX X T Z a ta) (hb:rP X T Z (.BoolOp .Or (b::rest) pos) tb):rP X T Z (.BoolOp .Or (a::b::rest) pos) (aZ ta tb):=by
 refine PW.imp (Rz ha hb) λσ H Q=>x4 λF r env bx R h=>?_;refine#[F,r,env,bx,R,End.bind h λk bx1 F1 r1 v H1 g1 R1 d1 h1=>?_];subst d1;cases k with
 |false=>rw[if_neg za];exact#[F1,r1,env,bx1,R1,h1]
 |true=>rw[if_pos rfl];exact h1 F1 r1 _ H1 zaa R1 bz
theorem RG (h:rP X T Z e ta):dX X T Z e ta:=h.pt
theorem Ol (h:dX X T Z a ta):dX X T Z (.UnaryOp .Not a pos) (aG ta):=by
 refine PT.imp (Lp h) λσ H Q=>x4 λF r env bx R h=>?_;refine#[F,r,env,bx,R,End.bind h λk bx1 F1 r1 v H1 g1 R1 d1 h1=>?_];subst d1;exact h1 F1 r1 _ H1 zaa R1 bz
def gI (m k:DE W):DE W:=λenv bx=>fC zI λw bx1=>match w with|.d (.bl true)=>k env bx1|.d (.bl false)=>.val zcO bx1|_=>.bad
def yT (m:DE W):DE W:=λenv bx=>fC zI λw bx1=>match w with|.d (.bl k)=>.val (.d (.bl (!k))) bx1|_=>.bad
theorem ST {op}(h:PD X T Z a ma):PD X T Z (.BoolOp op [a] pos) ma:=Se h
theorem SU (ha:PD X T Z a ma) (hb:PD X T Z (.BoolOp .And (b::rest) pos) mb):PD X T Z (.BoolOp .And (a::b::rest) pos) (gI ma mb):=by
 refine PE.imp (Sf ha hb) λσ H Q=>x4 λF r env bx R h=>?_;refine#[F,r,env,bx,R,End.bind h λw bx1 F1 r1 v H1 g1 R1 d1 h1=>?_];split at h1
 .refine#[zO,d1,?_];rw[if_pos rfl];exact#[F1,r1,env,bx1,R1,h1]
 .refine#[zw,d1,?_];rw[if_neg za];exact h1 F1 r1 _ H1 zaa R1 bz
 .exact h1.elim
theorem SV (ha:PD X T Z a ma):PD X T Z (.UnaryOp .Not a pos) (yT ma):=by
 refine PE.imp (Sg ha) λσ H Q=>x4 λF r env bx R h=>?_;refine#[F,r,env,bx,R,End.bind h λw bx1 F1 r1 v H1 g1 R1 d1 h1=>?_];split at h1
 .ext k;exact#[k,d1,h1 F1 r1 _ H1 zaa R1 bz]
 .exact h1.elim
def kq (t:DE Bool) (m k:DE W):DE W:=λenv bx=>fC (t env bx) λb bx1=>match b with|true=>m env bx1|false=>k env bx1
theorem SW (hc:dX X T Z c ta) (ha:PD X T Z a ma) (hb:PD X T Z b mb):PD X T Z (.IfExp c a b pos) (kq ta ma mb):=by
 refine PE.imp (Lr hc ha hb) λσ H Q=>x4 λF r env bx R h=>?_;refine#[F,r,env,bx,R,End.bind h λk bx1 F1 r1 v H1 g1 R1 d1 h1=>?_];subst d1;cases k with
 |true=>rw[if_pos rfl];exact#[F1,r1,env,bx1,R1,h1]
 |false=>rw[if_neg za];exact#[F1,r1,env,bx1,R1,h1]
noncomputable def n9:List W->Option (List D)
 |[]=>some []
 |.d x::l=>(n9 l).map λt=>x::t
 |_=>zy
theorem cG.ds {F:Hp}{r:List Addr}:∀ {ws:List W}{vs:List V}{ds:List D},cG F r ws vs->n9 ws=some ds->aw F ds vs
 |[],_,_,h,e=>by cases e;exact h
 | .d x::l,_,ds,h,e=>by
   let#[v,t,q,h1,h2]:=h;unfold n9 at e;cases e2:n9 l with
   |none=>rw[e2]at e;cases e
   |some t'=>
     rw[e2]at e;cases e;exact#[v,t,q,h1,h2.ds e2]
 |.b _::l,_,ds,h,e=>by cases e
 |.s _::l,_,ds,h,e=>by cases e
 |.x _::l,_,ds,h,e=>by cases e
 |.t _::l,_,ds,h,e=>by cases e
 |.m _::l,_,ds,h,e=>by cases e
def fV (k:DE zan):DE W:=λenv bx=>fC zcY λws bx1=>b0 zw ((n9 ws).bind λl=>if l.length<=sizeLine then some zV else zy) bx1
def fO (bo:Bool) (k:DE zan):DE W:=λenv bx=>fC zcY λws bx1=>b0 bo ((n9 ws).bind λl=>if l.length<=sizeLine then some zQ else zy) bx1
theorem SX {x1}{k:DE zan}(h:cH X T Z es k):PD X T Z (.Tuple es x1 pos) (fV k):=by
 refine PE.imp (BB h) λσ H Q=>x4 λF r env bx R h=>?_;refine#[F,r,env,bx,R,End.bind h λws bx1 F1 r1 vs H1 g1 R1 d1 h1=>?_];cases e:n9 ws with
 |none=>rw[e]at h1;exact h1.elim
 |some l=>
   rw[e]at h1;erw[bD]at h1;split at h1
   .have dl:=d1.ds e;refine#[by rw[<-dl.length];assumption,λp hp=>ir R1 h1 (.inr #[p,vs,rfl,hp,rfl,dl])]
   .exact h1.elim
theorem SY {k:DE zan}(bo:Bool) (h:cH X T Z es k):PD X T Z (.List es pos) (fO bo k):=by
 refine PE.imp (o8 h) λσ H Q=>x4 λF r env bx R h=>?_;refine#[F,r,env,bx,R,End.bind h λws bx1 F1 r1 vs H1 g1 R1 d1 h1=>?_];cases e:n9 ws with
 |none=>rw[e]at h1;exact h1.elim
 |some l=>
   rw[e]at h1;erw[bD]at h1;split at h1
   .have dl:=d1.ds e;refine#[by rw[<-dl.length];assumption,λp hp=>ir R1 h1 #[p,vs,rfl,hp,rfl,dl]]
   .exact h1.elim
theorem LZ {id:String}{g:List D->Option Res}{k:DE zan}(bo:Bool) (hc:dD X zcf q) (hk:hU q g) (hg:Gl X x) (hm:X.mg x=zy) (hv:bootBuiltins x=some zcf) (ha:cH X T Z (e::es) k)
 (hn:x ≠ "__name__":=by decide) (cu:(x==("__debug__":Str))=zw:=by decide)
 (he:starEach (e::es) X.env=zac::starEach es X.env:=by rfl) (eZ:(backTo pos zbm).any (·.1)=zw:=by rfl):PD X T Z zP (dN bo g k):=
 PE.imp (iU hc hg hm hv ha hn cu he eZ) (LW hk)
theorem Js {id:String}{g:List D->Option Res}{k:DE zan}(bo:Bool) (hc:dD X (.type id) q) (hk:hU q g) (hg:Gl X x) (hm:X.mg x=zy) (hv:bootBuiltins x=some (.type id)) (ha:cH X T Z (e::es) k)
 (hn:x ≠ "__name__":=by decide) (cu:(x==("__debug__":Str))=zw:=by decide)
 (he:starEach (e::es) X.env=zac::starEach es X.env:=by rfl) (eZ:(backTo pos zbm).any (·.1)=zw:=by rfl):PD X T Z zP (dN bo g k):=
 PE.imp (Jl hc hg hm hv ha hn cu he eZ) (LW hk)
def qH (cl:Nat->Addr) (n:Nat) (fn:List W->List Bx->O W):Sp:=λvs H Q E=>∃ F r ws bx,Rel #[H,r.length,F] F r [] H [] bx /\ cG F r ws vs /\ ws.length=n /\ End #[H,r.length,F] #[E,cl] bR F r [] [] Q (fn ws bx)
theorem cG.length {F:Hp}{r:List Addr}:∀ {ws:List W}{vs:List V},cG F r ws vs->ws.length=vs.length
 | [],_,h=>by
   have e:_=[]:=h;rw[e];rfl
 | d::l,_,h=>by
   let#[v,t,e,_,h2]:=h;rw[e,bp,bp,h2.length]
theorem Rel.enter (R:Rel T F r σ H env bx):Rel #[H,r.length,F] F r [] H [] bx:=
 #[R.fh,λi w e=>by simp at e,R.len,R.nd,R.box,λa u e _=>e,λn a hn e=>(by rw[rq hn]at e;cases e),au _,au _,λa u e=>.inl e]
theorem Rel.after {F':Hp}{r':List Addr}(R:Rel T F r σ H env bx) (g:aT F r F' r') (R':Rel #[H,r.length,F] F' r' [] H' [] bx'):Rel T F' r' σ H' env bx':=by
 have pre:∀ (n:Nat) (a:Addr),r[n]?=some a->r'[n]?=some a:=λn a e=>by
  let#[t,rfl]:=g.p;rw[dn (List.getElem?_eq_some_iff.mp e).1];exact e
 have sub:∀ a,a∈r->a∈r':=λa h=>g.p.subset h;refine#[R'.fh,λi w e=>?_,R'.len,R'.nd,R'.box,λa u e hn=>?_,λn a hn e=>?_,br R.n0 g.p.length_le,R.sl,λa u e=>?_]
 .let#[v,e1,e2]:=R.slot i w e;exact#[v,e1,g.den e2]
 .exact R'.keep a u (R.keep a u e λz=>hn (sub a z)) hn
 .by_cases hl:n<r.length
  .have q:=pre n _ (cU hl);rw[e]at q;cases q;exact R.new n _ hn (cU hl)
  .have q:H a=zy:=R'.new n a (uT hl) e;cases z:T.H₀ a with
   |none=>rfl
   |some u=>
     have hr:a∉r:=λha=>by
      let#[m,em]:=List.mem_iff_getElem?.mp ha;have:=Ah R'.nd (pre m a em) e;exact hl (by rw[<-this];exact(List.getElem?_eq_some_iff.mp em).1)
     rw[R.keep a u z hr]at q;cases q
 .rcases R'.fs a u e with z|z|z
  .exact(R.fs a u z).imp id (Or.imp id (sub a))
  .by_cases ha:a∈r
   .exact .inr (.inr (sub a ha))
   .refine .inr (.inl ?_);cases y:T.H₀ a with
    |none=>rfl
    |some u=>
      have z':H a=zy:=z;rw[R.keep a u y ha]at z';cases z'
  .exact .inr (.inr z)
def fj (fn:List W->List Bx->O W) (n:Nat) (k:DE zan):DE W:=λenv bx=>fC zcY λws bx1=>if ws.length=n then fn ws bx1 else .bad
theorem SZ {k:DE zan}{Q:VK}(h:tD T Z (fj fn n k) σ H Q):Hq (qH Z.cl n fn) [] Z.E (yR T Z k) σ H Q:=by
 let#[F,r,env,bx,R,h]:=h;refine#[F,r,env,bx,R,End.bind h λws bx1 F1 r1 vs H1 g1 R1 d1 h1=>?_];split at h1
 .ext hl;refine#[F1,r1,ws,bx1,R1.enter,by rw[hZ];exact d1,hl,?_];cases e:fn ws bx1 with
  |val w bx'=>rw[e]at h1;exact λF' r' v H' g R' d=>h1 F' r' v H' g (R1.after g R') d
  |exc c bx'=>rw[e]at h1;exact λF' r' H' g R'=>h1 F' r' H' g (R1.after g R').drop
  |bad=>rw[e]at h1;exact h1
 .exact h1.elim
theorem Om {f:Addr}{ps:List Str}{k:Nat}{m:DE zan}(G:eM X.prog X.w X.K X.mg X.base (eB X.prog X.w) k f fd ps (qH Z.cl ps.length fn)) (hr:bV k X.A) (hg:Gl X x) (hm:X.mg x=some zb1)
 (hk:PySem.W.keepIn X.K zb1=zO) (hb:Binds X.K fd ps []) (hx:Passes (eB X.prog X.w) X Z.E) (ha:cH X T Z (e::es) m) (cu:(x==("__debug__":Str))=zw:=by decide)
 (he:starEach (e::es) X.env=zac::starEach es X.env:=by rfl) (eZ:(backTo pos zbm).any (·.1)=zw:=by rfl):PD X T Z zP (fj fn ps.length m):=
 PE.imp (Gb G hr hg hm hk hb .nil hx ha cu he eZ) λσ H Q h=>SZ h
end
inductive OS where
 |nx (env:aE) (bx:List Bx)|rt (w:W) (bx:List Bx)|bk (env:aE) (bx:List Bx)|ct (env:aE) (bx:List Bx)|exc (c:Nat) (bx:List Bx)|bad
abbrev ah:=aE->List Bx->OS
def eQ (T:Fr) (Z:Xs) (F:Hp) (r:List Addr) (D:Ends):OS->uu
 |.nx aA bx'=>∀ F' r' σ' H',aT F r F' r'->Rel T F' r' σ' H' aA bx'->D.nx σ' H'
 |.rt w bx'=>∀ F' r' v H',aT F r F' r'->Rel T F' r' [] H' [] bx'->bR F' r' w v->D.rt v H'
 |.bk aA bx'=>∀ F' r' σ' H',aT F r F' r'->Rel T F' r' σ' H' aA bx'->D.bk σ' H'
 |.ct aA bx'=>∀ F' r' σ' H',aT F r F' r'->Rel T F' r' σ' H' aA bx'->D.ct σ' H'
 |.exc c bx'=>∀ F' r' H',aT F r F' r'->Rel T F' r' [] H' [] bx'->Z.E (.ref (Z.cl c)) zy H'
 |.bad=>False
theorem eQ.weak {F':Hp}{r':List Addr}{D:Ends}(g:aT F r F' r'):∀ {o:OS},eQ T Z F r D o->eQ T Z F' r' D o
 |.nx _ _,h=>λF2 r2 s2 H2 g2=>h F2 r2 s2 H2 (g.trans g2)
 |.rt _ _,h=>λF2 r2 s2 H2 g2=>h F2 r2 s2 H2 (g.trans g2)
 |.bk _ _,h=>λF2 r2 s2 H2 g2=>h F2 r2 s2 H2 (g.trans g2)
 |.ct _ _,h=>λF2 r2 s2 H2 g2=>h F2 r2 s2 H2 (g.trans g2)
 |.exc _ _,h=>λF2 r2 H2 g2=>h F2 r2 H2 (g.trans g2)
 |.bad,h=>h
noncomputable def bI (m:O α) (k:α->List Bx->OS):OS:=
 match m with
 |.val a bx=>k a bx
 |.exc c bx=>.exc c bx
 |.bad=>.bad
theorem End.bI {β:Type}{R1:Hp->List Addr->α->β->uu}{D:Ends}{Q1:β->Hp->uu}
 {m:O α}{k:α->List Bx->OS}(h:eQ T Z F r D (DL.bI m k))
 (c:∀ d bx1 F1 r1 v H1,aT F r F1 r1->Rel T F1 r1 σ H1 env bx1->R1 F1 r1 d v->eQ T Z F1 r1 D (k d bx1)->Q1 v H1):End T Z R1 F r σ env Q1 m:=by
 cases m with
 |val d bx=>exact λF' r' v H' g R q=>c d bx F' r' v H' g R q (eQ.weak g h)
 |exc n bx=>exact h
 |bad=>exact h
def tS (T:Fr) (Z:Xs) (m:ah):TS:=λD σ H=>∃ F r env bx,Rel T F r σ H env bx /\ eQ T Z F r D zI
def cM (X:Cx) (T:Fr) (Z:Xs) (s:Stmt) (m:ah):uu:=PS X s (tS T Z m)
def pb (X:Cx) (T:Fr) (Z:Xs) (s:List Stmt) (m:ah):uu:=cV X s (tS T Z m)
section
variable {a b:Expr} {mb mc:DE W} {p:Pos} {rest:List Stmt} {m k:ah} {tc:DE Bool}
noncomputable def aF:ah:=λenv bx=>.nx env bx
noncomputable def fm (m k:ah):ah:=λenv bx=>match m env bx with|.nx env1 bx1=>k env1 bx1|o=>o
theorem On:pb X T Z [] aF:=cV.imp FY λD σ H=>x4 λF r env bx R h=>h F r σ H (.refl F r) R
theorem L3 (h1:cM X T Z st m) (h2:pb X T Z rest k):pb X T Z (st::rest) (fm m k):=by
 refine cV.imp (iT h1 h2) λD σ H=>x4 λF r env bx R h=>#[F,r,env,bx,R,?_];unfold fm at h;cases e:m env bx with
 |nx env1 bx1=>rw[e]at h;exact λF1 r1 σ1 H1 g R1=>#[F1,r1,env1,bx1,R1,eQ.weak g h]
 |rt w bx1=>rw[e]at h;exact h
 |bk env1 bx1=>rw[e]at h;exact h
 |ct env1 bx1=>rw[e]at h;exact h
 |exc c bx1=>rw[e]at h;exact h
 |bad=>rw[e]at h;exact h
theorem Oo (h1:cM X T Z st m):pb X T Z [st] m:=oM h1
def gy (m:DE W):ah:=λenv bx=>bI zI λ_ bx1=>.nx env bx1
theorem L4 (h:PD X T Z e ma) (hs:swapsWith e zy pos.line X.env=pure zw:=by rfl):cM X T Z (.Expr e pos) (gy ma):=by
 refine PS.imp (FZ h hs) λD σ H=>x4 λF r env bx R h=>?_;exact#[F,r,env,bx,R,End.bI h λw bx1 F1 r1 v H1 g1 R1 d1 h1=>h1 F1 r1 σ H1 zaa R1]
def fN (m:DE W):ah:=λenv bx=>bI zI λw bx1=>.rt w bx1
theorem Oq (h:PD X T Z e ma):cM X T Z (.Return (some e) pos) (fN ma):=by
 refine PS.imp (By h) λD σ H=>x4 λF r env bx R h=>?_;exact#[F,r,env,bx,R,End.bI h λw bx1 F1 r1 v H1 g1 R1 d1 h1=>h1 F1 r1 v H1 zaa R1.drop d1]
def aC (t:DE Bool) (m k:ah):ah:=λenv bx=>bI (t env bx) λb bx1=>match b with|true=>m env bx1|false=>k env bx1
theorem S3 {sa sb:List Stmt}(hc:dX X T Z c tc) (ha:pb X T Z sa m) (hb:pb X T Z sb k):cM X T Z (.If c sa sb pos) (aC tc m k):=by
 refine PS.imp (RC hc ha hb) λD σ H=>x4 λF r env bx R h=>?_;refine#[F,r,env,bx,R,End.bI h λw bx1 F1 r1 v H1 g1 R1 d1 h1=>?_];subst d1;cases w with
 |true=>rw[if_pos rfl];exact#[F1,r1,env,bx1,R1,h1]
 |false=>rw[if_neg za];exact#[F1,r1,env,bx1,R1,h1]
abbrev DG:=W->aE->List Bx->Option (aE×List Bx)
abbrev pd:=List W->aE->List Bx->Option (aE×List Bx)
noncomputable def aaY (T:Fr) (F:Hp) (r:List Addr) (Q:St->Hp->uu):Option (aE×List Bx)->uu
 |none=>False
 |some (aA,bx')=>∀ F' r' σ' H',aT F r F' r'->Rel T F' r' σ' H' aA bx'->Q σ' H'
def tG (T:Fr) (g:DG):TG:=λv σ H Q=>∃ F r env bx w,Rel T F r σ H env bx /\ bR F r w v /\ aaY T F r Q (g w env bx)
def aeU (T:Fr) (g:pd):sR:=λvs σ H Q=>∃ F r env bx ws,Rel T F r σ H env bx /\ cG F r ws vs /\ aaY T F r Q (g ws env bx)
def ku (X:Cx) (T:Fr) (tg:Expr) (g:DG):uu:=PG X tg (tG T g)
def sY (X:Cx) (T:Fr) (tg:List Expr) (g:pd):uu:=rG X tg (aeU T g)
theorem PG.imp {t t':TG}(h:PG X tg t) (f:∀ v σ H Q,t' v σ H Q->t v σ H Q):PG X tg t':=λpins s σ H v u Q I r q=>h pins s σ H v u Q I r (f v σ H Q q)
theorem rG.imp {tg:List Expr}{t t':sR}(h:rG X tg t) (f:∀ v σ H Q,t' v σ H Q->t v σ H Q):rG X tg t':=λpins s σ H v u Q I r q=>h pins s σ H v u Q I r (f v σ H Q q)
noncomputable def fg (i:Nat):DG:=λw env bx=>some (env.set i (some w),bx)
theorem Rel.set {F H:Hp}{r:List Addr}{σ:St}{env:aE}{bx:List Bx}(R:Rel T F r σ H env bx) {w:W}{v:V}(d:bR F r w v) (i:Nat):Rel T F r (σ.set i (some v)) H (env.set i (some w)) bx:=by
 refine#[R.fh,λj w' e=>?_,R.len,R.nd,R.box,R.keep,R.new,R.n0,by rw[nj,nj];exact R.sl,R.fs];by_cases hj:j=i
 .subst hj;have hl:j<env.length:=by
   have:=(List.getElem?_eq_some_iff.mp e).1;rw[nj]at this;exact this
  rw[qu hl]at e;cases e;exact#[v,qu (dj hl R.sl),d]
 .rw[qv (Ne.symm hj)]at e;let#[u,e1,e2]:=R.slot j w' e;exact#[u,by rw[qv (Ne.symm hj)];exact e1,e2]
theorem L5 (i:Nat) (hN:X.N.Nodup) (hi:X.N[i]?=some x:=by rfl) (hx:Loc X.env.scope x:=by first|exact Or.inl bz|exact Or.inr bz) (hf:X.fn x=zO \/ X.env.scope.names.lookup x=some .local:=by first|exact .inl bz|exact .inr bz|assumption):ku X T zcq (fg i):=
 PG.imp (Bz hN hi hx hf) λv σ H Q=>x5 λF r env bx w R d h=>h F r _ H (.refl F r) (R.set d i)
noncomputable def jm:pd:=λws env bx=>match ws with|[]=>some (env,bx)|_=>zy
noncomputable def fT (g:DG) (k:pd):pd:=λws env bx=>match ws with|w::l=>(g w env bx).bind λ(env1,bx1)=>k l env1 bx1|_=>zy
theorem L6:sY X T [] jm:=rG.imp F6 λv σ H Q=>x5 λF r env bx w R d h=>by
 cases w with
 |nil=>exact#[d,h F r σ H (.refl F r) R]
 |cons _ _=>exact h.elim
theorem Jt {g:DG}{k:pd}(h1:ku X T e g) (h2:sY X T es k) (hs:(assignEach (e::es) X.env).map (·.2)=assign e X.env::(assignEach es X.env).map (·.2):=by rfl):sY X T (e::es) (fT g k):=by
 refine rG.imp (o6 h1 h2 hs) λv σ H Q=>x5 λF r env bx ws R d h=>?_;cases ws with
 |nil=>exact h.elim
 |cons w l=>
   let#[u,t,rfl,d1,d2]:=d;refine#[u,t,rfl,F,r,env,bx,w,R,d1,?_];unfold fT at h;cases eg:g w env bx with
   |none=>erw[eg]at h;exact h.elim
   |some o=>
     let#[env1,bx1]:=o;erw[eg,bD]at h;intro F1 r1 σ1 H1 g1 R1;refine#[F1,r1,env1,bx1,l,R1,d2.mono g1,?_];cases ek:k l env1 bx1 with
     |none=>erw[ek]at h;exact h.elim
     |some o2=>
       erw[ek]at h;exact λF2 r2 σ2 H2 g2 R2=>h F2 r2 σ2 H2 (g1.trans g2) R2
theorem aw.ws {F:Hp}{r:List Addr}:∀ {l:List D}{vs:List V},aw F l vs->cG F r zbd vs
 |[],_,h=>h
 | d::l,_,h=>by
   let#[v,t,e,h1,h2]:=h;exact#[v,t,e,h1,h2.ws]
noncomputable def iV (n:Nat) (k:pd):DG:=λw env bx=>match w with|.d (.tup l)=>if l.length=n then k zbd env bx else zy|_=>zy
theorem Os {k:pd}(hc:X.calm=zO) (h:sY X T es k) (hn:(assignEach es X.env).length=n:=by rfl) (p9:(assignEach es X.env).findIdx? (·.1)=zy:=by rfl):ku X T (.Tuple es i pos) (iV n k):=by
 refine PG.imp (Ls hc h hn p9) λv σ H Q=>x5 λF r env bx w R d h=>?_;unfold iV at h;split at h
 .ext l;split at h
  .ext hl;let#[p,vs,rfl,h1,h2]:=d;exact#[p,vs,rfl,.of (R.fh _ _ h1),by rw[<-h2.length];exact hl,F,r,env,bx,_,R,h2.ws,h]
  .exact h.elim
 .exact h.elim
def fK (m:DE W) (g:DG):ah:=λenv bx=>bI zI λw bx1=>match g w env bx1 with|some (env1,bx2)=>.nx env1 bx2|none=>.bad
theorem UL {g:DG}{D:Ends}(h:tS T Z (fK ma g) D σ H):Hk (tD T Z ma) (tG T g) D σ H:=by
 let#[F,r,env,bx,R,h]:=h;refine#[F,r,env,bx,R,End.bI h λw bx1 F1 r1 v H1 g1 R1 d1 h1=>#[F1,r1,env,bx1,w,R1,d1,?_]];cases eg:g w env bx1 with
 |none=>erw[eg]at h1;exact h1.elim
 |some o=>erw[eg]at h1;exact h1
theorem Gj {g:DG}(he:PD X T Z e ma) (hg:ku X T tg g) (hs:swapsWithSole [tg] e pos.line X.env=pure zw:=by rfl) (hw:swappedStores [tg] e X.env=pure zy:=by rfl)
 (h1:(assignEach [tg] X.env).map (·.2)=[assign tg X.env]:=by rfl):cM X T Z (.Assign [tg] e pos) (fK ma g):=
 PS.imp (Lu he hg hs hw h1) λD σ H h=>UL h
theorem Gk (i:Nat) (he:PD X T Z e ma) (hN:X.N.Nodup) (hi:X.N[i]?=some x:=by rfl) (hx:Loc X.env.scope x:=by first|exact Or.inl bz|exact Or.inr bz) (hs:swapsWith e (some (.Name x pos')) pos.line X.env=pure zw:=by rfl) (hf:X.fn x=zO \/ X.env.scope.names.lookup x=some .local:=by first|exact .inl bz|exact .inr bz|assumption) :
 cM X T Z (.Assign [.Name x pos'] e pos) (fK ma (fg i)):=by
 refine PS.imp (BA hN hi hx he hs hf) λD σ H=>x4 λF r env bx R h=>?_;exact#[F,r,env,bx,R,End.bI h λw bx1 F1 r1 v H1 g1 R1 d1 h1=>h1 F1 r1 _ H1 zaa (R1.set d1 i)]
def nG (i j:Nat) (m:DE zan):ah:=λenv bx=>bI zI λws bx1=>match ws with|[x,y]=>.nx ((env.set i (some x)).set j (some y)) bx1|_=>.bad
theorem UM {m:DE zan}{D:Ends}(h:tS T Z (nG i j m) D σ H):Z7 i j (yR T Z m) D σ H:=by
 let#[F,r,env,bx,R,h]:=h;refine#[F,r,env,bx,R,End.bI h λws bx1 F1 r1 vs H1 g1 R1 d1 h1=>?_];split at h1
 .let#[v,t,rfl,q1,u,t2,rfl,q2,q3]:=d1;cases (show t2=[] from q3);exact#[v,u,rfl,h1 F1 r1 _ H1 zaa ((R1.set q1 i).set q2 j)]
 .exact h1.elim
def vD (F:Hp) (r:List Addr) (ds:List W) (J:It):uu:=
 ∀ (T:Fr) (i:Nat) (F1:Hp) (r1:List Addr) (σ1:St) (H1:Hp) (env1:aE) (bx1:List Bx),aT F r F1 r1->Rel T F1 r1 σ1 H1 env1 bx1 ->
  (ds.length=i->J.stop i H1) /\ ∀ w,ds[i]?=some w->J.go i H1 /\ ∀ x H2,J.yx i H1 x H2->∃ F2,aT F1 r1 F2 r1 /\ Rel T F2 r1 σ1 H2 env1 bx1 /\ bR F2 r1 w x
def tI (T:Fr) (Z:Xs) (m:DE zan):TI:=λσ H R=>∃ F r env bx,Rel T F r σ H env bx /\ End T Z vD F r σ env R zI
def pL (X:Cx) (T:Fr) (Z:Xs) (tg iter:Expr) (m:DE zan):uu:=PI X tg iter (tI T Z m)
theorem PI.imp {t t':TI}(h:PI X tg iter t) (f:∀ σ H Q,t' σ H Q->t σ H Q):PI X tg iter t':=λpins s σ H R I q=>h pins s σ H R I (f σ H R q)
noncomputable def dF (g:DG) (body:ah):List W->ah
 |[],env,bx=>.nx env bx
 | w::l,env,bx=>match g w env bx with
   |none=>.bad
   | some (env1,bx1)=>match body env1 bx1 with
     |.nx aX bx2=>dF g body l aX bx2
     |.ct aX bx2=>dF g body l aX bx2
     |.bk aX bx2=>.nx aX bx2
     |o=>o
def iB (m:DE zan) (g:DG) (body:ah):ah:=λenv bx=>bI zI λds bx1=>dF g body ds env bx1
theorem UN {g:DG}{D:Ends}(h:tS T Z (iB mi g m) D σ H):aaa (tI T Z mi) (tG T g) (tS T Z m) D σ H:=by
 let#[F,r,env,bx,R,h]:=h;refine#[F,r,env,bx,R,End.bI h λds bx1 F1 r1 J H1 g1 R1 y1 h1=>?_];refine#[λi n σ' H'=>∃ pre l F' r' aA bx',ds=pre++l /\ pre.length=i /\ n=l.length /\ aT F1 r1 F' r' /\ Rel T F' r' σ' H' aA bx' /\ eQ T Z F' r' D (dF g m l aA bx'),#[ds.length,[],ds,F1,r1,env,bx1,rfl,rfl,rfl,.refl F1 r1,R1,h1],?_];rintro i n σ' H' ⟨pre,l,F',r',aA,bx',km,hi,hn,g',R',h'⟩;let#[ys,yg]:=y1 T i F' r' σ' H' aA bx' g' R';cases l with
 |nil=>exact .inl #[ys (by rw[km,hZ];lia),h' F' r' σ' H' (.refl F' r') R']
 |cons w l=>
   let#[go,yl]:=yg w (by rw[km,dk zb,hi,pX];rfl);refine .inr #[go,λσ2 H2=>∃ F2 r2 aX bx2,aT F1 r1 F2 r2 /\ Rel T F2 r2 σ2 H2 aX bx2 /\ eQ T Z F2 r2 D (dF g m l aX bx2),λσ2 H2 ⟨F2,r2,aX,bx2,g2,R2,h2⟩=>#[l.length,by rw[hn];exact kJ _,pre++[w],l,F2,r2,aX,bx2,by rw[km,kL];rfl,by rw[cJ,hi];rfl,rfl,g2,R2,h2],λx H2 hy=>?_];let#[F2,g2,R2,d2]:=yl x H2 hy;refine#[F2,r',aA,bx',w,R2,d2,?_];erw[dF]at h';cases eg:g w aA bx' with
   |none=>erw[eg]at h';exact h'.elim
   |some o=>
     let#[nH,aP]:=o;erw[eg]at h';intro F3 r3 σ3 H3 g3 R3;refine#[F3,r3,nH,aP,R3,?_];have gg:=(g'.trans g2).trans g3;cases em:m nH aP with
     |nx sZ bN=>erw[em]at h';exact λF4 r4 σ4 H4 g4 R4=>#[F4,r4,sZ,bN,gg.trans g4,R4,eQ.weak ((g2.trans g3).trans g4) h']
     |ct sZ bN=>erw[em]at h';exact λF4 r4 σ4 H4 g4 R4=>#[F4,r4,sZ,bN,gg.trans g4,R4,eQ.weak ((g2.trans g3).trans g4) h']
     |bk sZ bN=>erw[em]at h';exact λF4 r4 σ4 H4 g4 R4=>h' F4 r4 σ4 H4 ((g2.trans g3).trans g4) R4
     |rt w bN=>erw[em]at h';exact eQ.weak (g2.trans g3) (o:=.rt w bN) h'
     |exc c bN=>erw[em]at h';exact eQ.weak (g2.trans g3) (o:=.exc c bN) h'
     |bad=>erw[em]at h';exact h'
theorem Gm {body:List Stmt}{g:DG}(hp:PassesOwn ze X.A X.env X.xe) (hc:X.calm=zO) (hi:pL X T Z tg iter mi) (hg:ku X T tg g) (hb:pb X T Z body m)
 (hs:∀ x,foldedSetIterable iter X.env x=pure x:=by intro _;rfl):cM X T Z (.For tg iter body [] pos) (iB mi g m):=
 PS.imp (Sj hp hc hi hg hb hs) λD σ H h=>UN h
def hV (t:DE Bool) (body:ah):Nat->ah
 |0,_,_=>.bad
 | n+1,env,bx=>bI (t env bx) λb bx1=>match b with
   |false=>.nx env bx1
   | true=>match body env bx1 with
     |.nx aX bx2=>hV t body n aX bx2
     |.ct aX bx2=>hV t body n aX bx2
     |.bk aX bx2=>.nx aX bx2
     |o=>o
theorem Ot {D:Ends}(h:tS T Z (hV tc m n) D σ H):Z8 (kT T Z tc) (tS T Z m) D σ H:=by
 let#[F,r,env,bx,R,h]:=h;refine#[λi σ' H'=>∃ F' r' aA bx',Rel T F' r' σ' H' aA bx' /\ eQ T Z F' r' D (hV tc m i aA bx'),#[n,F,r,env,bx,R,h],?_];rintro i σ' H' ⟨F',r',aA,bx',R',h'⟩;cases i with
 |zero=>exact h'.elim
 |succ i=>
   refine#[F',r',aA,bx',R',End.bI h' λb bx1 F1 r1 v H1 g1 R1 d1 h1=>?_];subst d1;cases b with
   |false=>rw[if_neg za];exact h1 F1 r1 σ' H1 zaa R1
   |true=>
     rw[if_pos rfl];refine#[λσ2 H2=>∃ F2 r2 aX bx2,Rel T F2 r2 σ2 H2 aX bx2 /\ eQ T Z F2 r2 D (hV tc m i aX bx2),λσ2 H2 ⟨F2,r2,aX,bx2,R2,h2⟩=>#[i,kJ _,F2,r2,aX,bx2,R2,h2],F1,r1,aA,bx1,R1,?_];cases em:m aA bx1 with
     |nx sZ bN=>erw[em]at h1;exact λF4 r4 σ4 H4 g4 R4=>#[F4,r4,sZ,bN,R4,eQ.weak g4 h1]
     |ct sZ bN=>erw[em]at h1;exact λF4 r4 σ4 H4 g4 R4=>#[F4,r4,sZ,bN,R4,eQ.weak g4 h1]
     |bk sZ bN=>erw[em]at h1;exact h1
     |rt w bN=>erw[em]at h1;exact h1
     |exc c bN=>erw[em]at h1;exact h1
     |bad=>erw[em]at h1;exact h1
theorem Ju {body:List Stmt}(n:Nat) (hp:PassesOwn ze X.A X.env X.xe) (hc:dX X T Z c tc) (hb:pb X T Z body m):cM X T Z (.While c body [] pos) (hV tc m n):=
 PS.imp (Lv hp hc hb) λD σ H h=>Ot h
def ax (m:DE W):DE zan:=λenv bx=>fC zI λw bx1=>match w with|.d (.lst l)=>.val zbd bx1|.d (.tup l)=>.val zbd bx1|_=>.bad
end
noncomputable def cP:OS->O W
 |.rt w bx=>.val w bx
 |.nx _ bx=>.val (.d .non) bx
 |.exc c bx=>.exc c bx
 |_=>.bad
noncomputable def cQ (n:Nat):O W->O W
 |.val (.d x) bx=>.val (.d x) (bx.take n)
 |.val w bx=>.val w bx
 |.exc c bx=>.exc c (bx.take n)
 |.bad=>.bad
noncomputable def envOf (n:Nat) (ws:List W):aE:=ws.map some++List.replicate (n-ws.length) zy
def aL (n:Nat) (m:ah):List W->List Bx->O W:=λws bx=>cQ bx.length (cP (m (envOf n ws) bx))
noncomputable def aR (m:ah):ah:=λenv bx=>match m env bx with|.exc _ _=>.bad|o=>o
theorem cG.get {F:Hp}{r:List Addr}:∀ {l:List W}{vs:List V}{i:Nat}{d:W},cG F r l vs->l[i]?=some d->∃ v,vs[i]?=some v /\ bR F r d v
 |[],_,_,_,_,e=>by simp at e
 | x::l,_,0,d,h,e=>by
   let#[v,t,q,h1,_]:=h;simp at e;subst e;subst q;exact#[v,rfl,h1]
 | x::l,_,i+1,d,h,e=>by
   let#[v,t,q,_,h2]:=h;subst q;let#[u,e1,e2]:=cG.get (i:=i) h2 (by simpa using e);exact#[u,by simpa using e1,e2]
theorem Rel.start {T:Fr}{F H:Hp}{r:List Addr}{bx:List Bx}{N:List Str}{ws:List W}{vs:List V}(R:Rel T F r [] H [] bx) (d:cG F r ws vs):Rel T F r zcS H (envOf N.length ws) bx:=by
 have hl:=d.length;refine#[R.fh,λi w e=>?_,R.len,R.nd,R.box,R.keep,R.new,R.n0,?_,R.fs]
 .unfold envOf at e;unfold L2.start;by_cases hi:i<ws.length
  .rw[dn (by rw[aS];exact hi),ke]at e;cases q:ws[i]? with
   |none=>rw[q]at e;cases e
   |some w'=>
     rw[q]at e;cases e;let#[v,e1,e2]:=d.get q;refine#[v,?_,e2];rw[dn (by rw[aS,<-hl];exact hi),ke,e1];rfl
  .rw[dk (by rw[aS];lia)]at e;rw[Yv]at e;split at e<;>cases e
 .unfold envOf L2.start;rw[cJ,cJ,aS,aS,Ku,Ku,hl];exact au _
theorem L7 {l l':List α}(h:l <+: l'):l'.take l.length=l:=by
 let#[t,rfl]:=h;simp
theorem Rel.cut {F':Hp}{r':List Addr}(g:aT F r F' r') (R:Rel #[H,r.length,F] F' r' [] H' [] bx'):Rel #[H,r.length,F] F' r [] H' [] (bx'.take r.length):=by
 have hr:r'.take r.length=r:=L7 g.p;have hle:r.length<=r'.length:=g.p.length_le;have pre:∀ (n:Nat) (a:Addr),r[n]?=some a->r'[n]?=some a:=λn a e=>by
  let#[t,rfl]:=g.p;rw[dn (List.getElem?_eq_some_iff.mp e).1];exact e
 refine#[R.fh,λi w e=>by simp at e,?_,?_,λn c a e1 e2=>?_,λa u e hn=>?_,λn a hn e=>?_,au _,au _,λa u e=>?_]
 .rw[wx,<-R.len];lia
 .exact List.Sublist.nodup (List.IsPrefix.sublist g.p) R.nd
 .have qI:=(List.getElem?_eq_some_iff.mp e2).1;rw[Yw qI]at e1;exact R.box n c a e1 (pre n a e2)
 .refine R.keep a u e λz=>?_;let#[m,em]:=List.mem_iff_getElem?.mp z;by_cases hm:m<r.length
  .have q:=pre m _ (cU hm);rw[em]at q;cases q;exact hn (uX hm)
  .have q:=R.new m a (uT hm) em;have e':H a=some u:=e;have q':H a=zy:=q;rw[e']at q';cases q'
 .rw[rq hn]at e;cases e
 .rcases R.fs a u e with z|z|z
  .exact .inl z
  .exact .inr (.inl z)
  .let#[m,em]:=List.mem_iff_getElem?.mp z;by_cases hm:m<r.length
   .have q:=pre m _ (cU hm);rw[em]at q;cases q;exact .inr (.inr (uX hm))
   .exact .inr (.inl (R.new m a (uT hm) em))
theorem Gn {Q:VK}(hb:bx.length=r.length) {o:O W}(h:End #[H,r.length,F] Z bR F r [] [] Q (cQ bx.length o)):End #[H,r.length,F] Z bR F r [] [] Q o:=by
 rw[hb]at h;cases o with
 |bad=>exact h
 |exc c bx1=>exact λF' r' H' g R=>h F' r H' #[g.s,rB r] (R.cut g)
 |val w bx1=>
   cases w with
   |d x=>exact λF' r' v H' g R d=>h F' r v H' #[g.s,rB r] (R.cut g) d
   |b n=>exact h
   |s l=>exact h
   |x i=>exact h
   |t _=>exact h
   |m _=>exact h
theorem Go {Q:VK}{o:OS}(h:End T Z bR F r [] [] Q (cP o)):eQ T Z F r { nx:=λ_ H'=>Q .non H',rt:=Q } o:=by
 cases o with
 |nx env bx=>exact λF' r' σ' H' g R=>h F' r' .non H' g R.drop bz
 |rt w bx=>exact λF' r' v H' g R d=>h F' r' v H' g R d
 |exc c bx=>exact h
 |bk env bx=>exact(show False from h).elim
 |ct env bx=>exact(show False from h).elim
 |bad=>exact h
section
variable {f:Addr} {ps:List Str} {k:Nat} {m:ah} 
theorem VP (F:hG K x qual st f fd) (S:qa N ps (fH st))
 (kj:∀ (cdv:kz) (A:Around) (outer:List Env) (s:Shared) (H:Hp) (E:XK) (n:Nat) (F0:Hp),bV k zaJ ->
  pb (nY (eB P w) P w K mg base N qual (fH st) f cdv A outer s H E) #[H,n,F0] #[E,cl] (gK st) m):eM P w K mg base (eB P w) (k+1) f fd ps (qH cl ps.length (aL N.length m)):=by
 refine F.aeJ S (λvs H Q E h=>?_) (λcdv A outer s H vs Q E hr h=>?_)
 .let#[F,r,ws,bx,_,d,hl,_]:=h;rw[<-d.length];exact hl
 .let#[F,r,ws,bx,R,d,hl,h]:=h;exact#[_,kj cdv A outer s H E r.length F hr,F,r,envOf N.length ws,bx,R.start d,Go (Gn R.len.symm h)]
theorem UO (G:eM P w K mg base qC k f fd ps sp):eM P w K mg base CX k f fd ps sp:=
 #[G.len,λA outer s H args us vs Q E hr e0 hb hv hs=>xS (G.run A outer s H args us vs Q E hr e0 hb hv hs) λr s' h=>by
  cases r with
  |error e=>exact False.elim h
  |ok fl=>
    cases fl with
    |ret u=>exact h
    |next=>exact h
    |brk=>exact h
    |cont=>exact h]
theorem UP (F:hG K x qual st f fd) (S:qa N ps (fH st))
 (kj:∀ (cdv:kz) (A:Around) (outer:List Env) (s:Shared) (H:Hp) (E:XK) (n:Nat) (F0:Hp),bV k zaJ ->
  pb (nY qC P w K mg base N qual (fH st) f cdv A outer s H E).dh #[H,n,F0] #[E0,cl] (gK st) m):eM P w K mg base (eB P w) (k+1) f fd ps (qH cl ps.length (aL N.length (aR m))):=by
 refine UO (F.ok S (λvs H Q E h=>?_) (λcdv A outer s H vs Q E hr h=>?_))
 .let#[F,r,ws,bx,_,d,hl,_]:=h;rw[<-d.length];exact hl
 .let#[F,r,ws,bx,R,d,hl,h]:=h;refine#[_,kj cdv A outer s H E r.length F hr,F,r,envOf N.length ws,bx,R.start d,?_];have h':=Go (Gn R.len.symm h);unfold aR at h';cases e:m (envOf N.length ws) bx with
  |nx env bx1=>erw[e]at h';exact h'
  |rt w bx1=>erw[e]at h';exact h'
  |bk env bx1=>erw[e]at h';exact h'
  |ct env bx1=>erw[e]at h';exact h'
  |exc c bx1=>erw[e]at h';exact h'.elim
  |bad=>erw[e]at h';exact h'
end
theorem BJ:Passes (eB X.prog X.w) X E0:=λ_ _ _ _ _ _ _ h=>by
 let#[_,_,_,_,_,_,_,_,_,_,_,_,_,h]:=h;exact h.elim
section
variable {m:ah} {aiO:List Stmt}
end
noncomputable def bindB {β:Type}(m:O α) (k:α->List Bx->O β):O β:=
 match m with
 |.val a bx=>k a bx
 |_=>.bad
def bJ (g:DG) (tf:DE Bool) (te:DE W):List W->aE->List Bx->List D->O (List D)
 |[],_,bx,acc=>.val acc bx
 | w::l,env,bx,acc=>match g w env bx with
   |none=>.bad
   | some (env1,bx1)=>bindB (tf env1 bx1) λb bx2=>match b with
     |false=>bJ g tf te l env1 bx2 acc
     | true=>bindB (te env1 bx2) λy aP=>match y with
       |.d d=>if acc.length<sizeLine then bJ g tf te l env1 aP (acc++[d]) else .bad
       |_=>.bad
noncomputable def cR (src:List zaw) (env:aE):aE:=src.map λo=>o.bind λi=>(env[i]?).bind id
def fI (bo:Bool) (src:List zaw) (mi:DE zan) (g:DG) (tf:DE Bool) (te:DE W):DE W:=λenv bx=>
 fC (mi env bx) λds bx1=>fC (bJ g tf te ds (cR src env) bx1 []) λl bx2=>b0 bo (some zQ) bx2
theorem Rel.src {T:Fr}{F H:Hp}{r:List Addr}{σ:St}{env:aE}{bx:List Bx}(R:Rel T F r σ H env bx) (src:List zaw):Rel T F r (sW src σ) H (cR src env) bx:=by
 refine#[R.fh,λj w e=>?_,R.len,R.nd,R.box,R.keep,R.new,R.n0,?_,R.fs]
 .unfold cR at e;unfold L2.sW;rw[ke]at e ⊢;cases q:src[j]? with
  |none=>rw[q]at e;cases e
  |some o=>
    rw[q]at e;cases o with
    |none=>cases e
    |some i=>
      have e':(env[i]?).bind id=some w:=Option.some.inj e;cases z:env[i]? with
      |none=>rw[z]at e';cases e'
      |some o'=>
        rw[z]at e';have e2:o'=some w:=e';subst e2;let#[v,e1,e2]:=R.slot i w z;exact#[v,by simp[e1],e2]
 .unfold cR L2.sW;rw[aS,aS];exact au _
theorem Rel.inner {F':Hp}{r':List Addr}{σ':St}{aA:aE}(R:Rel T F r σ H env bx) (g:aT F r F' r') (R':Rel #[H,r.length,F] F' r' σ' H' aA bx'):Rel T F' r' σ' H' aA bx':=by
 have q:=R.after g R'.drop;exact#[q.fh,R'.slot,q.len,q.nd,q.box,q.keep,q.new,q.n0,R'.sl,q.fs]
theorem Rel.again (R:Rel T F r σ H env bx):Rel #[H,r.length,F] F r σ H env bx:=
 #[R.fh,R.slot,R.len,R.nd,R.box,λa u e _=>e,λn a hn e=>(by rw[rq hn]at e;cases e),au _,R.sl,λa u e=>.inl e]
structure Own (F:Hp) (r:List Addr) (H:Hp) (a:Addr) (vs:List V):uu where
 h:H a=some zbI
 f:F a=zy
 b:a∉r
theorem Own.inner {F':Hp}{r':List Addr}{σ':St}{aA:aE}(o:Own F r H a vs) (g:aT F r F' r') (R':Rel #[H,r.length,F] F' r' σ' H' aA bx'):Own F' r' H' a vs:=by
 have hb:a∉r':=λz=>by
  let#[m,em]:=List.mem_iff_getElem?.mp z;by_cases hm:m<r.length
  .let#[t,e]:=g.p;rw[<-e,dn hm]at em;exact o.b (List.mem_iff_getElem?.mpr #[m,em])
  .have q:H a=zy:=R'.new m a (uT hm) em;rw[o.h]at q;cases q
 refine#[R'.keep a _ o.h hb,?_,hb];cases q:F' a with
 |none=>rfl
 |some u=>
   rcases R'.fs a u q with z|z|z
   .have z':F a=some u:=z;rw[o.f]at z';cases z'
   .have z':H a=zy:=z;rw[o.h]at z';cases z'
   .exact absurd z hb
theorem Rel.Q0 (R:Rel T F r σ H env bx) {p:Addr}{o:HO}(h:H p=zy):Rel T F r σ (upd H p o) env bx:=by
 have hs:∀ a u,H a=some u->upd H p o a=some u:=λa u e=>by rw[fA (fQ e h)];exact e
 exact#[λa u e=>hs a u (R.fh a u e),R.slot,R.len,R.nd,λn c a e1 e2=>(R.box n c a e1 e2).grow (Sub.refl F) id (hs a),λa u e hn=>hs a u (R.keep a u e hn),R.new,R.n0,R.sl,R.fs]
theorem Rel.aeV (R:Rel T F r σ H env bx) {p:Addr}{o:HO}(w:Own F r H p vs) (hT:T.H₀ p=zy):Rel T F r σ (upd H p o) env bx:=by
 refine#[λa u e=>?_,R.slot,R.len,R.nd,λn c a e1 e2=>?_,λa u e hn=>?_,R.new,R.n0,R.sl,R.fs]
 .rw[fA (λz=>by rw[z,w.f]at e;cases e)];exact R.fh a u e
 .have ha:a≠p:=λz=>w.b (List.mem_iff_getElem?.mpr #[n,z▸e2]);exact(R.box n c a e1 e2).grow (Sub.refl F) id λu z=>by rw[fA ha];exact z
 .rw[fA (λz=>by rw[z,hT]at e;cases e)];exact R.keep a u e hn
theorem Rel.aeW (R:Rel T F r σ H env bx) {p:Addr}(w:Own F r H p vs) (hT:T.H₀ p=zy):Rel T (upd F p zbI) r σ H env bx /\ aT F r (upd F p zbI) r:=by
 have s:=oN (o:=.lst vs) w.f;refine#[#[λa u e=>?_,λi w e=>?_,R.len,R.nd,λn c a e1 e2=>?_,R.keep,R.new,R.n0,R.sl,λa u e=>?_],s,rB r]
 .by_cases ha:a=p
  .subst ha;rw[fE]at e;cases e;exact w.h
  .rw[fA ha]at e;exact R.fh a u e
 .let#[v,e1,e2]:=R.slot i w e;exact#[v,e1,e2.mono s (rB r)]
 .have ha:a≠p:=λz=>w.b (List.mem_iff_getElem?.mpr #[n,z▸e2]);exact(R.box n c a e1 e2).grow s (λz=>by rw[fA ha];exact z) λu z=>z
 .by_cases ha:a=p
  .subst ha;exact .inr (.inl hT)
  .rw[fA ha]at e;exact R.fs a u e
theorem Rel.aeX (R:Rel T F r σ H env bx) {p:Addr}(w:Own F r H p vs) (hT:T.H₀ p=zy) (d:aw F l vs):Rel T F (r++[p]) σ H env (bx++[.lst l]) /\ aT F r F (r++[p]) /\ (r++[p])[bx.length]?=some p:=by
 have hx:(r++[p])[bx.length]?=some p:=by rw[<-R.len,dk (au _),pX];rfl
 have g:aT F r F (r++[p]):=#[Sub.refl F,ye r [p]];refine#[#[R.fh,λi w e=>?_,by rw[cJ,cJ,R.len];rfl,?_,λn c' a e1 e2=>?_,λa u e hn=>R.keep a u e λz=>hn (dM _ z),λn a hn e=>?_,by rw[cJ];exact br R.n0 (uV _ _),R.sl,λa u e=>(R.fs a u e).imp id (Or.imp id λz=>dM _ z)],g,hx]
 .let#[v,e1,e2]:=R.slot i w e;exact#[v,e1,g.den e2]
 .rw[ub];refine#[R.nd,by simp,λa ha b hb=>?_];rw[bu]at hb;subst hb;exact λz=>w.b (z▸ha)
 .by_cases hn:n<r.length
  .rw[dn hn]at e2;rw[dn (by rw[<-R.len];exact hn)]at e1;exact R.box n c' a e1 e2
  .rw[dk zb]at e2;rw[dk (by rw[<-R.len];lia)]at e1;have hl:n-r.length=0:=by
    cases q:n-r.length with
    |zero=>rfl
    |succ k=>rw[q]at e2;simp at e2
   have qd:n-bx.length=0:=by rw[<-R.len];exact hl
   rw[hl]at e2;rw[qd]at e1;simp at e1 e2;subst e1 e2;exact#[w.f,vs,w.h,d]
 .by_cases hl:n<r.length
  .rw[dn hl]at e;exact R.new n a hn e
  .have hp:a=p:=by
    rw[dk zb]at e;cases q:n-r.length with
    |zero=>rw[q]at e;simp at e;exact e.symm
    |succ k=>rw[q]at e;simp at e
   subst hp;exact hT
section
variable {src:List (Option Nat)} {scope:Scope} {g:DG} 
abbrev Q2 (g:DG):TG:=λv σ H Q=>∃ T,tG T g v σ H Q
abbrev Q3 (Z:Xs) (tf:DE Bool):TT:=λσ H Q=>∃ T,kT T Z tf σ H Q
abbrev Q4 (Z:Xs) (te:DE W):TE:=λσ H Q=>∃ T,tD T Z te σ H Q
theorem Rel.slots {T':Fr}{F':Hp}{r':List Addr}{σ':St}{aA:aE}(R:Rel T F r σ H env bx) (g:aT F r F' r') (R':Rel T' F' r' σ' H' aA bx'):Rel T' F' r' σ H' env bx' :=
 #[R'.fh,λi w e=>let ⟨v,e1,e2⟩:=R.slot i w e;#[v,e1,g.den e2],R'.len,R'.nd,R'.box,R'.keep,R'.new,R'.n0,R.sl,R'.fs]
theorem L8 {Q:VK}(h:tD T Z (fI bo src mi g tf te) σ H Q):HE src (tI T Z mi) (Q2 g) (Q3 #[E0,Z.cl] tf) (Q4 #[E0,Z.cl] te) σ H Q:=by
 let#[F,r,env,bx,R,h]:=h;refine#[F,r,env,bx,R,End.bind h λds bx1 F1 r1 J H1 g1 R1 y1 h1=>λDa hD=>?_];have hT:T.H₀ Da=zy:=by
  cases q:T.H₀ Da with
  |none=>rfl
  |some u=>rw[R1.keep Da u q (R1.yS hD)]at hD;cases hD
 have o0:Own F1 r1 (upd H1 Da (.lst [])) Da []:=#[fE,R1.wY hD,R1.yS hD];refine#[λi n σ' H'=>∃ pre l F' r' aA bx' acc vs,ds=pre++l /\ pre.length=i /\ n=l.length /\ aT F1 r1 F' r' /\ Rel T F' r' σ' H' aA bx' /\ Own F' r' H' Da vs /\ aw F' acc vs /\
  End T Z bR F' r' σ env Q (fC (bJ g tf te l aA bx' acc) λl bx2=>b0 bo (some zQ) bx2),
  #[ds.length,[],ds,F1,r1,_,bx1,[],[],rfl,rfl,rfl,.refl F1 r1,(R1.Q0 hD).src src,o0,.nil,h1],?_]
 rintro i n σ' H' ⟨pre,l,F',r',aA,bx',acc,vs,km,hi,hn,g',R',o',da,h'⟩;let#[ys,yg]:=y1 #[H',r'.length,F'] i F' r' σ' H' aA bx' g' R'.again;cases l with
 |nil=>
   refine .inl #[ys (by rw[km,hZ];lia),?_];have RO:Rel T F' r' σ H' env bx':=R1.slots g' R';have hd:End T Z bR F' r' σ env Q (.val (.d (.lst acc)) bx')->Q (.ref Da) H':=λh'=>by
    let#[RA,gA]:=RO.aeW o' hT;exact h' _ r' _ H' gA RA #[Da,vs,rfl,fE,aw.mono gA.s acc da]
   cases bo with
   |false=>exact hd h'
   |true=>
     let#[RB,gB,hx]:=RO.aeX o' hT da;exact h' F' _ _ H' gB RB #[Da,rfl,hx]
 |cons w l=>
   let#[go,yl]:=yg w (by rw[km,dk zb,hi,pX];rfl);refine .inr #[go,λσ2 H2=>∃ F2 r2 aX bx2 HK HL,aT F1 r1 F2 r2 /\ Rel T F2 r2 σ2 H2 aX bx2 /\ Own F2 r2 H2 Da HL /\ aw F2 HK HL /\
    End T Z bR F2 r2 σ env Q (fC (bJ g tf te l aX bx2 HK) λl bx2=>b0 bo (some zQ) bx2),
    λσ2 H2 ⟨F2,r2,aX,bx2,HK,HL,g2,R2,o2,d2,h2⟩=>#[l.length,by rw[hn];exact kJ _,pre++[w],l,F2,r2,aX,bx2,HK,HL,by rw[km,kL];rfl,by rw[cJ,hi];rfl,rfl,g2,R2,o2,d2,h2],λx H2 hy=>?_]
   let#[F2,g2,R2,d2]:=yl x H2 hy;have aaZ:=R'.inner g2 R2;have o2:=o'.inner g2 R2;refine#[#[H2,r'.length,F2],F2,r',aA,bx',w,aaZ.again,d2,?_];erw[bJ]at h';cases eg:g w aA bx' with
   |none=>erw[eg]at h';exact h'.elim
   |some o=>
     let#[nH,aP]:=o;erw[eg]at h';intro F3 r3 σ3 H3 g3 R3;have aa0:=aaZ.inner g3 R3;have o3:=o2.inner g3 R3;refine#[#[H3,r3.length,F3],F3,r3,nH,aP,aa0.again,?_];cases ef:tf nH aP with
     |bad=>erw[ef,bindB]at h';exact h'.elim
     |exc c bN=>erw[ef,bindB]at h';exact h'.elim
     |val b bN=>
       erw[ef,bindB]at h';intro F4 r4 b' H4 g4 R4 eb;subst eb;have Q5:=aa0.inner g4 R4;have o4:=o3.inner g4 R4;have aa1:aT F1 r1 F4 r4:=((g'.trans g2).trans g3).trans g4;have Q6:aT F' r' F4 r4:=(g2.trans g3).trans g4;cases b with
       |false=>
         rw[if_neg za];exact#[F4,r4,nH,bN,acc,vs,aa1,Q5,o4,aw.mono Q6.s acc da,End.weak Q6 h']
       |true=>
         rw[if_pos rfl];refine#[#[H4,r4.length,F4],F4,r4,nH,bN,Q5.again,?_];cases ee:te nH bN with
         |bad=>erw[ee]at h';exact h'.elim
         |exc c HM=>erw[ee]at h';exact h'.elim
         |val y HM=>
           erw[ee]at h';intro F5 r5 v H5 g5 R5 d5;have aeY:=Q5.inner g5 R5;have o5:=o4.inner g5 R5;have aa2:=Q6.trans g5;cases y with
           |d d=>
             simp only at h';split at h'
             .ext hz;have aeZ:=aw.mono aa2.s acc da;refine#[vs,o5.h,by rw[<-da.length];exact hz,F5,r5,nH,HM,acc++[d],vs++[v],aa1.trans g5,aeY.aeV o5 hT,#[fE,o5.f,o5.b],aeZ.append (.cons d5 .nil),End.weak aa2 h']
             .exact h'.elim
           |b n=>exact h'.elim
           |s l=>exact h'.elim
           |x i=>exact h'.elim
           |t _=>exact h'.elim
           |m _=>exact h'.elim
theorem Gp (bo:Bool) (hc:X.calm=zO) (S:nZ X N src scope) (hi:pL X T Z tg iter mi)
 (hg:∀ T cl s H C fp,ku zk T tg g) (hf:∀ T cl s H C fp,PF zk ifs (kT T #[E0,Z.cl] tf)) (he:∀ T cl s H C fp,PD zk T #[E0,Z.cl] elt te)
 (hs:∀ x,foldedSetIterable iter X.env x=pure x:=by intro _;rfl):PD X T Z zE (fI bo src mi g tf te):=
 PE.imp (N9 (src:=src) (g:=Q2 g) (tf:=Q3 #[E0,Z.cl] tf) (te:=Q4 #[E0,Z.cl] te) hc S hi (λcl s H C fp pins s' σ' H' v u Q I rv ⟨T,q⟩=>hg T cl s H C fp pins s' σ' H' v u Q I rv q)
  (λcl s H C fp pins s' σ' H' Q I ⟨T,q⟩=>hf T cl s H C fp pins s' σ' H' Q I q) (λcl s H C fp pins s' σ' H' Q I ⟨T,q⟩=>he T cl s H C fp pins s' σ' H' Q I q) hs) λσ H Q h=>L8 h
noncomputable def fG:DE Bool:=λ_ bx=>.val zO bx
theorem Ou:PF X [] (kT T Z fG):=λpins s σ H Q I ⟨F,r,env,bx,R,h⟩=>SE pins s σ H Q I (h F r zO H (.refl F r) R bz)
theorem Ov {t:DE Bool}(h:dX X T Z c t):PF X [c] (kT T Z t):=SF h
theorem Bd {w:W}(e:(l.map W.d)[i]?=some w):∃ d,l[i]?=some d /\ w=.d d:=by
 rw[ke]at e;cases q:l[i]? with
 |none=>rw[q]at e;cases e
 |some d=>rw[q]at e;cases e;exact#[d,rfl,rfl]
noncomputable def gf (lo:Int) (n:Nat):List W:=(List.range n).map λ(i:Nat)=>W.d (.int (lo+i))
theorem mh (lo:Int) (n:Nat):vD F r (gf lo n) (yz lo n):=λT i F1 r1 σ1 H1 env1 bx1 g R=>by
 unfold gf;refine#[λhl=>?_,λw e=>?_]
 .rw[aS,wC]at hl;exact uU hl
 .rw[ke]at e;cases q:(List.range n)[i]? with
  |none=>rw[q]at e;cases e
  |some j=>
    rw[q]at e;cases e;let#[h1,h2]:=List.getElem?_eq_some_iff.mp q;rw[List.getElem_range]at h2;subst h2;rw[wC]at h1;refine#[h1,λx H2 ⟨e1,e2⟩=>?_];subst e1 e2;exact#[F1,.refl F1 r1,R,rfl]
def cw (k:DE zan):DE zan:=λenv bx=>fC zcY λws bx1=>match ws with
 |[.d (.int j)]=>if -(2 ^ 62)<=j /\ j<2 ^ 62 then .val (gf 0 j.toNat) bx1 else .bad
 |_=>.bad
theorem D8 {a:Expr}{p:Pos}{k:DE zan}(hg:Gl X "range") (hm:X.mg "range"=zy) (ha:cH X T Z [a] k) (hs:starEach [a] X.env=[zaz]:=by rfl):pL X T Z tg (.Call (.Name "range" p) [a] [] pos) (cw k):=by
 refine PI.imp (Jf hg hm ha hs) λσ H Q=>x4 λF r env bx R h=>?_;refine#[F,r,env,bx,R,End.bind h λws bx1 F1 r1 vs H1 g1 R1 d1 h1=>?_];split at h1
 .ext j;split at h1
  .ext hj;let#[v,t,rfl,e1,e2]:=d1;cases (show t=[] from e2);cases (show v=.int j from e1);exact#[j,rfl,hj.1,hj.2,h1 F1 r1 _ H1 zaa R1 (mh 0 j.toNat)]
  .exact h1.elim
 .exact h1.elim
def ur (k:DE zan):DE zan:=λenv bx=>fC zcY λws bx1=>match ws with
 |[.d (.int i),.d (.int j)]=>if (-(2 ^ 62)<=i /\ i<2 ^ 62) /\ -(2 ^ 62)<=j /\ j<2 ^ 62 then .val (gf i (j-i).toNat) bx1 else .bad
 |_=>.bad
theorem D9 {a b:Expr}{p:Pos}{k:DE zan}(hg:Gl X "range") (hm:X.mg "range"=zy) (ha:cH X T Z [a,b] k) (hs:starEach [a,b] X.env=[zaz,zcg]:=by rfl) (dA:starEach [b] X.env=[zcg]:=by rfl) :
 pL X T Z tg (.Call (.Name "range" p) [a,b] [] pos) (ur k):=by
 refine PI.imp (Jg hg hm ha hs dA) λσ H Q=>x4 λF r env bx R h=>?_;refine#[F,r,env,bx,R,End.bind h λws bx1 F1 r1 vs H1 g1 R1 d1 h1=>?_];split at h1
 .ext i j;split at h1
  .ext hj;let#[v,t,rfl,e1,v2,t2,rfl,e2,e3]:=d1;cases (show t2=[] from e3);cases (show v=.int i from e1);cases (show v2=.int j from e2);exact#[i,j,rfl,#[hj.1.1,hj.1.2,hj.2.1,hj.2.2],h1 F1 r1 _ H1 zaa R1 (mh i _)]
  .exact h1.elim
 .exact h1.elim
end
section
variable {a b:Expr} {mb mc:DE W} {p:Pos}
def aa3 (K:PySem.W.Frag):R2:=λx y H Q=>∃ a b ys,x=.ref a /\ y=.ref b /\ aY K H a [] /\ aY K H b ys /\ Q (.ref b) H
theorem L9:aO X (binaryOp .Add) (aa3 X.K):=by
 intro pins s σ H x y v u Q I rx ry h;let#[a,b,ys,rfl,rfl,ha,hb,q]:=h;cases rx;cases ry;let#[its,r1,p1,_]:=I.tuple ha;let#[nD,r2,p2,_]:=I.tuple hb;cases r1;let#[#[cls,dd,data,sl],ho,hc,n,hd]:=id p1;let#[#[Qu,qb,data2,qc],pJ,dQ,n2,hd2]:=id p2;simp only at hc hd dQ hd2;subst hc hd dQ hd2
 exact IS #[_,ho,rfl] #[_,pJ,rfl] IU IV KZ K0 (K3 _ _)
  (tuple_addW0 a b ([]:List kz).toArray nD.toArray n n2 dd qb sl qc zf) #[ho,pJ,#[.ref b,H,I,rfl,q]]
def aa4 (K:PySem.W.Frag):R2:=λx y H Q=>ki (λi j=>.int (i+j)) x y H Q \/ aam K x y H Q \/ aa3 K x y H Q \/ aaz x y H Q \/ ∃ i j,x=.str i /\ y=.str j /\ i.length+j.length<=sizeLine /\ Q (.str (i++j)) H
theorem Ow:aO X (binaryOp .Add) (aa4 X.K):=Sk.or (N5.or (L9.or (D5.or DX)))
noncomputable def fR:D->D->Option Res
 |.int i,.int j=>some (.old (.int (i+j)))
 |.tup a,.tup b=>if a.length+b.length<=sizeLine then some (.tup (a++b)) else zy
 |.lst a,.lst b=>if a.length+b.length<=sizeLine then some (.lst (a++b)) else zy
 |.str a,.str b=>if a.length+b.length<=sizeLine then some (.old (.str (a++b))) else zy
 |_,_=>zy
theorem aw.eq_nil (h:aw F l vs):vs=[] ↔ l=[]:=by
 have:=h.length;cases l<;>cases vs<;>simp_all
theorem ae0:bS (aa4 K) fR:=by
 intro F H x y v w Q s sub rx ry e k;unfold fR at e;split at e
 .ext i j;cases e;exact .inl #[i,j,rx,ry,k _ _ #[rfl,rfl]]
 .ext l l';split at e
  .ext hz;cases e;let#[a,vs,rfl,h1,h2]:=rx;let#[b,ws,rfl,h3,h4]:=ry;by_cases hv:vs=[]
   .subst hv;have hl:l=[]:=h2.eq_nil.mp bz;subst hl;exact .inr (.inr (.inl #[a,b,ws,rfl,rfl,.of zba,.of (sub _ _ h3),k _ _ (.inl #[rfl,b,ws,rfl,h3,h4])]))
   .refine .inr (.inl #[a,b,vs,ws,rfl,rfl,.of zba,.of (sub _ _ h3),hv,by rw[<-h2.length,<-h4.length];exact hz,λhw=>?_,λhw p hp=>k _ _ (.inr #[p,vs++ws,rfl,hp,rfl,h2.append h4])]);have hl:l'=[]:=h4.eq_nil.mp hw;subst hl;exact k _ _ (.inl #[rfl,a,vs,rfl,h1,by rw[hZ];exact h2])
  .cases e
 .ext l l';split at e
  .ext hz;cases e;let#[a,vs,rfl,h1,h2]:=rx;let#[b,ws,rfl,h3,h4]:=ry;exact .inr (.inr (.inr (.inl #[a,b,vs,ws,rfl,rfl,h1,h3,by rw[<-h2.length,<-h4.length];exact hz,λp hp=>k _ _ #[p,vs++ws,rfl,hp,rfl,h2.append h4]])))
  .cases e
 .ext i j;split at e
  .ext hz;cases e;exact .inr (.inr (.inr (.inr #[i,j,rx,ry,hz,k _ _ #[rfl,rfl]])))
  .cases e
 .cases e
theorem Q7 {C:Int->Int->uu} [∀ i j,Decidable (C i j)] {g:Int->Int->D}{gv:Int->Int->V}(hg:∀ i j F,Den F (g i j) (gv i j)):bS (rI C gv) λx y=>match x,y with|.int i,.int j=>if C i j then some (.old (g i j)) else zy|_,_=>zy:=by
 intro F H x y v w Q s sub rx ry e k;dsimp only at e;split at e
 .ext i j;split at e
  .ext hc;cases e;exact#[i,j,rx,ry,hc,k _ _ #[rfl,hg i j F]]
  .cases e
 .cases e
theorem Q8 {g:Int->Int->D}{gv:Int->Int->V}(hg:∀ i j F,Den F (g i j) (gv i j)):bS (ki gv) λx y=>match x,y with|.int i,.int j=>some (.old (g i j))|_,_=>zy:=by
 intro F H x y v w Q s sub rx ry e k;dsimp only at e;split at e
 .ext i j;cases e;exact#[i,j,rx,ry,k _ _ #[rfl,hg i j F]]
 .cases e
noncomputable def eD:D->D->Option Res:=λx y=>match x,y with|.int i,.int j=>some (.old (.int (i-j)))|_,_=>zy
theorem ae1:bS (ki λi j=>.int (i-j)) eD:=Q8 (g:=λi j=>.int (i-j)) λ_ _ _=>rfl
instance (i j:Int):Decidable (vh i j):=by unfold vh;exact inferInstance
instance (i j:Int):Decidable (wU i j):=by unfold wU;exact inferInstance
instance (i j:Int):Decidable (vg i j):=by unfold vg;exact inferInstance
noncomputable def HN:D->D->Option Res:=λx y=>match x,y with|.int i,.int j=>if wU i j then some (.old (.int (i / j))) else zy|_,_=>zy
theorem ae2:bS (rI wU λi j=>.int (i / j)) HN:=Q7 (g:=λi j=>.int (i / j)) λ_ _ _=>rfl
noncomputable def kC:D->D->Option Res:=λx y=>match x,y with|.int i,.int j=>if 0<j then some (.old (.int (i % j))) else zy|_,_=>zy
theorem ae3:bS (rI (λ_ j=>0<j) λi j=>.int (i % j)) kC:=Q7 (C:=λ_ j=>0<j) (g:=λi j=>.int (i % j)) λ_ _ _=>rfl
noncomputable def pM:D->D->Option Res:=λx y=>match x,y with|.int i,.int j=>if vg i j then some (.old (.int (i ^ j.toNat))) else zy|_,_=>zy
theorem ae4:bS (rI vg λi j=>.int (i ^ j.toNat)) pM:=Q7 (g:=λi j=>.int (i ^ j.toNat)) λ_ _ _=>rfl
noncomputable def intsOf:List D->Option (List Int)
 |[]=>some []
 |.int i::l=>(intsOf l).map λt=>i::t
 |_=>zy
theorem aw.ints {F:Hp}:∀ {l:List D}{vs:List V}{ns:List Int},aw F l vs->intsOf l=some ns->vs=ns.map V.int
 |[],_,_,h,e=>by cases e;exact h
 | .int i::l,_,ns,h,e=>by
   let#[v,r,q,h1,h2]:=h;unfold intsOf at e;cases e2:intsOf l with
   |none=>rw[e2]at e;cases e
   |some t=>
     rw[e2]at e;cases e;rw[q,h2.ints e2,show v=.int i from h1];rfl
 |.non::l,_,_,_,e=>by cases e
 |.bl _::l,_,_,_,e=>by cases e
 |.str _::l,_,_,_,e=>by cases e
 |.tup _::l,_,_,_,e=>by cases e
 |.lst _::l,_,_,_,e=>by cases e
 |.ai _::l,_,_,_,e=>by cases e
def kD:D->D->Option Res
 |.int i,.int j=>some (.old (.bl (decide (i<j))))
 |.tup a,.tup b=>(intsOf a).bind λns=>(intsOf b).map λms=>.old (.bl (HT.lexLt ns ms))
 |_,_=>zy
theorem S4 (hu:X.A.units<cLine):aO X (compareOp .Lt) (λx y H Q=>ki (λi j=>.bl (decide (i<j))) x y H Q \/ Qw X.K x y H Q):=UE.or (Sw hu)
theorem ae5:bS (λx y H Q=>ki (λi j=>.bl (decide (i<j))) x y H Q \/ Qw K x y H Q) kD:=by
 intro F H x y v w Q s sub rx ry e k;unfold kD at e;split at e
 .ext i j;cases e;exact .inl #[i,j,rx,ry,k _ _ #[rfl,rfl]]
 .ext l l';cases e1:intsOf l with
  |none=>rw[e1]at e;cases e
  |some ns=>
    cases e2:intsOf l' with
    |none=>rw[e1,e2]at e;cases e
    |some ms=>
      rw[e1,e2]at e;cases e;let#[a,vs,rfl,h1,h2]:=rx;let#[b,ws,rfl,h3,h4]:=ry;have q1:=h2.ints e1;have q2:=h4.ints e2;subst q1 q2;exact .inr #[a,b,ns,ms,rfl,rfl,.of zba,.of (sub _ _ h3),k _ _ #[rfl,rfl]]
 .cases e
noncomputable def qJ:D->D->Option Res:=λx y=>match x,y with|.int i,.int j=>some (.old (.bl (decide (j<i))))|_,_=>zy
theorem ae6:bS (ki λi j=>.bl (decide (j<i))) qJ:=Q8 (g:=λi j=>.bl (decide (j<i))) λ_ _ _=>rfl
noncomputable def pf:D->D->Option Res:=λx y=>match x,y with|.int i,.int j=>some (.old (.bl (decide (j<=i))))|_,_=>zy
theorem ae7:bS (ki λi j=>.bl (decide (j<=i))) pf:=Q8 (g:=λi j=>.bl (decide (j<=i))) λ_ _ _=>rfl
def ak:D->D->Option Res
 |.lst l,.int i=>(bA l i).map Res.old
 |.tup l,.int i=>(bA l i).map Res.old
 |_,_=>zy
theorem Gq {i:Int}(h:aw F l vs) (e:bA l i=some d):∃ v,bA vs i=some v /\ Den F d v:=by
 unfold bA at e ⊢;rw[<-h.length];cases q:dE l.length i with
 |none=>rw[q]at e;cases e
 |some j=>rw[q]at e;exact h.get e
theorem ae8:bS (aar K) ak:=by
 intro F H x y v w Q s sub rx ry e k;unfold ak at e;split at e
 .ext l i;let#[a,vs,rfl,h1,h2]:=rx;cases e1:bA l i with
  |none=>rw[e1]at e;cases e
  |some d=>
    rw[e1]at e;cases e;let#[u,e2,du]:=Gq h2 e1;exact .inl #[a,vs,i,u,rfl,ry,.of h1,e2,k _ _ #[rfl,du]]
 .ext l i;let#[a,vs,rfl,h1,h2]:=rx;cases e1:bA l i with
  |none=>rw[e1]at e;cases e
  |some d=>
    rw[e1]at e;cases e;let#[u,e2,du]:=Gq h2 e1;exact .inr (.inl #[a,vs,i,u,rfl,ry,.of zba,e2,k _ _ #[rfl,du]])
 .cases e
noncomputable def ay:List D->Option Res
 |[.lst l]=>some (.old (.int l.length))
 |[.tup l]=>some (.old (.int l.length))
 |_=>zy
theorem ae9:hU (λxs H Q=>∃ p ys,xs=[.ref p] /\ (ba K H p ys \/ aY K H p ys) /\ Q (.int ys.length) H) ay:=by
 intro F H xs vs Q s sub rx e k;unfold ay at e;split at e
 .ext l;cases e;let#[v,t,rfl,#[a,us,rfl,h1,h2],rt]:=rx;cases (show t=[] from rt);exact#[a,us,rfl,.inl (.of h1),k _ _ #[rfl,by rw[<-h2.length];rfl]]
 .ext l;cases e;let#[v,t,rfl,#[a,us,rfl,h1,h2],rt]:=rx;cases (show t=[] from rt);exact#[a,us,rfl,.inr (.of zba),k _ _ #[rfl,by rw[<-h2.length];rfl]]
 .cases e
noncomputable def nI:D->String
 |.non=>"NoneType"|.bl _=>"bool"|.int _=>"int"|.str _=>"str"|.tup _=>"tuple"|.lst _=>"list"|.ai _=>"dict"
noncomputable def qf (S T:String):Bool:=S==T||(S == "bool"&&T == "int")
def nJ (K:PySem.W.Frag) (T:String):uu:=∀ d:D,PySem.W.kitOne K (.type (nI d)) (.type T)=some (qf (nI d) T)
theorem UQ (sub:Sub F H):∀ {d:D}{v:V},n8 F H d v->nC K H v (.type (nI d))
 |.non,_,h=>by cases (show _=V.non from h);exact .non
 |.bl b,_,h=>by cases (show _=V.bl b from h);exact .bl b
 |.int b,_,h=>by cases (show _=V.int b from h);exact .int b
 |.str b,_,h=>by cases (show _=V.str b from h);exact .str b
 |.tup l,_,h=>by let#[a,vs,rfl,h1,h2]:=h;exact .tup zba
 |.lst l,_,h=>by let#[a,vs,rfl,h1,h2]:=h;exact .lst h1
 |.ai l,_,h=>by let#[a,vs,rfl,h1,h2]:=h;exact .dK h1
def f7 (n:String) (m:DE W):DE W:=λenv bx=>fC zI λw bx1=>match aQ bx1 w with|some d=>.val (.d (.bl (qf (nI d) n))) bx1|none=>.bad
theorem Ox {n:String}{p p1:Pos}(hT:nJ X.K n) (hg:Gl X "isinstance") (hm:X.mg "isinstance"=zy) (qK:Gl X x) (tj:X.mg x=zy) (hv:bootBuiltins x=some (.type n)) (ha:PD X T Z a ma)
 (hn:x ≠ "__name__":=by decide) (cu:(x==("__debug__":Str))=zw:=by decide)
 (yU:starEach [a,.Name x p1] X.env=zaz::starEach [.Name x p1] X.env:=by rfl) (afa:starEach [.Name x p1] X.env=(zw,eval (.Name x p1) X.env)::starEach [] X.env:=by rfl)
 (eZ:(backTo pos (starEach [.Name x p1] X.env)).any (·.1)=zw:=by rfl):PD X T Z (.Call (.Name "isinstance" p) [a,.Name x p1] [] pos) (f7 n ma):=by
 refine PE.imp (iU lB hg hm z7 (f8 ha (f8 (oK qK tj hv (v:=.ty n) bz hn cu) ic afa) yU) za za yU eZ) λσ H Q=>x4 λF r env bx R h=>?_;refine#[F,r,env,bx,R,End.bind h λw bx1 F1 r1 v H1 g1 R1 d1 h1=>?_];cases e:aQ bx1 w with
 |none=>erw[e]at h1;exact h1.elim
 |some d=>
   erw[e]at h1;exact#[v,.ty n,_,.type n,_,rfl,.of (UQ R1.fh (R1.qF d1 e)),rfl,hT d,h1 F1 r1 _ H1 zaa R1 bz]
end
section
variable {a b:Expr} {mb mc:DE W} {p:Pos}
def aa5 (K:PySem.W.Frag):R2:=λx y H Q=>∃ a b xs,x=.ref a /\ y=.ref b /\ aY K H a xs /\ aY K H b [] /\ Q (.bl xs.isEmpty) H
theorem S6 (hu:X.A.units<cLine):aO X (compareOp .Eq) (aa5 X.K):=by
 intro pins s σ H x y v u Q I rx ry h;let#[a,b,xs,rfl,rfl,h1,h2,q]:=h;cases rx;cases ry;let#[i1,r1,p1,z1]:=I.tuple h1;let#[i2,r2,p2,z2]:=I.tuple h2;cases r2;refine SeqAt.eq_tupleAt (items:=i1.toArray) (items2:=([]:List kz).toArray) (e:=λ_=>zO) p1 p2 hu (λj h1 h2=>absurd h2 zf) #[.bl xs.isEmpty,H,I,?_,q];have:=r1.length;cases xs<;>cases i1<;>simp_all[RelV]
def aa6 (K:PySem.W.Frag):R2:=λx y H Q=>aae x y H Q \/ aa5 K x y H Q
def aa7 (K:PySem.W.Frag):R2:=λx y H Q=>∃ a b xs,x=.ref a /\ y=.ref b /\ ba K H a xs /\ ba K H b [] /\ Q (.bl (!xs.isEmpty)) H
theorem S8 (hu:X.A.units<cLine):aO X (compareOp .NotEq) (aa7 X.K):=by
 intro pins s σ H x y v u Q I rx ry h;let#[a,b,xs,rfl,rfl,h1,h2,q]:=h;cases rx;cases ry;let#[i1,r1,p1,z1]:=I.list h1;let#[i2,r2,p2,z2]:=I.list h2;cases r2;cases r1 with
 |nil=>exact SeqAt.RcNeAt.lists (items:=([]:List kz).toArray) (items2:=([]:List kz).toArray) (e:=λ_=>zO) p1.isList p2.isList bz hu (λj h1 h2=>absurd h2 zf) X.prog X.w X.xe _ #[.bl zw,H,I,rfl,q]
 |cons _ _=>exact adk (items2:=([]:List kz).toArray) p1.isList p2.isList zf hu X.prog X.w X.xe _ #[.bl zO,H,I,rfl,q]
def HP (K:PySem.W.Frag):R2:=λx y H Q=>aaf x y H Q \/ aa7 K x y H Q
theorem Oy (hu:X.A.units<cLine):aO X (compareOp .NotEq) (HP X.K):=RE.or (S8 hu)
noncomputable def Q9:D->D->Option Res
 |.int i,.int j=>some (.old (.bl (!decide (i=j))))
 |.str i,.str j=>some (.old (.bl (!decide (i=j))))
 |.lst l,.lst []=>some (.old (.bl (!l.isEmpty)))
 |_,_=>zy
theorem afb:bS (HP K) Q9:=by
 intro F H x y v w Q s sub rx ry e k;unfold Q9 at e;split at e
 .ext i j;cases e;cases (show v=.int i from rx);cases (show w=.int j from ry);exact .inl #[rfl,k _ _ #[rfl,by show _=_;simp]]
 .ext i j;cases e;cases (show v=.str i from rx);cases (show w=.str j from ry);exact .inl #[rfl,k _ _ #[rfl,by show _=_;simp]]
 .ext l;cases e;let#[a,vs,rfl,h1,h2]:=rx;let#[b,ws,rfl,h3,h4]:=ry;cases (show ws=[] from h4);exact .inr #[a,b,vs,rfl,rfl,.of h1,.of h3,k _ _ #[rfl,by show _=_;rw[h2.isEmpty]]]
 .cases e
def aa8 (K:PySem.W.Frag) (vs:List V) (H:Hp) (Q:VK):uu:=∃ (p:Addr) (bs:List Bool),vs=[.ref p] /\ H p=some (.lst (bs.map V.bl)) /\ Q (.bl (bs.all id)) H
theorem Jv (hc:X.calm=zO):dD X (.builtin "all") (aa8 X.K):=by
 intro pins s σ H xs us Q I rv h;let#[p,bs,rfl,hp,q]:=h;let#[u,rfl,ru]:=Vals.one rv;cases ru;let#[its,r1,p1,z1]:=I.list (ba.of (K:=X.K) hp);have hl:=p1.isList;have qI:p<s.heap.objs.size:=by let#[_,e,_]:=hl;exact aN e
 have hlen:bs.length=its.length:=by have:=r1.length;simpa using this
 refine call_all_walk (EK hl ?_);refine#[s.heap.objs.size,[s.heap.objs.size,p],[s.heap.objs.size],its.toArray.size,_,_,λi=>(bs[i]?).getD zO,rfl,Walks.list (A:=X.A.in1) zbN _ p (bT qI) its.toArray,
  #[#[_,bw _ bz,rfl,rfl],hl.push _],λi v s' Q' E' hP hQ=>?_,λh' tk hk=>?_]
 .have yV:its[i]?=some v:=by simpa using hP
  have hi:i<bs.length:=by rw[hlen];exact(List.getElem?_eq_some_iff.mp yV).1
  let#[w,e1,e2]:=r1.get (i:=i) (x:=V.bl bs[i]) (by simp[hi]);rw[yV]at e1;cases e1;cases e2;erw[cU hi,E8]at hQ;exact pV hQ
 .have e:((List.range its.toArray.size).all λi=>(bs[i]?).getD zO)=bs.all id:=by
   rw[bf,<-hlen];exact LSm.range_all bs
  rw[e];exact#[.bl _,H,I.kept (t':=tk) (ZV hk),rfl,q]
noncomputable def qg:List D->Option (List Bool)
 |[]=>some []
 |.bl i::l=>(qg l).map λt=>i::t
 |_=>zy
theorem aw.Wm {F:Hp}:∀ {l:List D}{vs:List V}{ns:List Bool},aw F l vs->qg l=some ns->vs=ns.map V.bl
 |[],_,_,h,e=>by cases e;exact h
 | .bl i::l,_,ns,h,e=>by
   let#[v,r,q,h1,h2]:=h;unfold qg at e;cases e2:qg l with
   |none=>rw[e2]at e;cases e
   |some t=>
     rw[e2]at e;cases e;rw[q,h2.Wm e2,show v=.bl i from h1];rfl
 |.non::l,_,_,_,e=>by cases e
 |.int _::l,_,_,_,e=>by cases e
 |.str _::l,_,_,_,e=>by cases e
 |.tup _::l,_,_,_,e=>by cases e
 |.lst _::l,_,_,_,e=>by cases e
 |.ai _::l,_,_,_,e=>by cases e
def bj:List D->Option Res
 |[.lst l]=>(qg l).map λbs=>.old (.bl (bs.all id))
 |_=>zy
theorem afc:hU (aa8 K) bj:=by
 intro F H xs vs Q s sub rx e k;unfold bj at e;split at e
 .ext l;let#[v,t,rfl,#[a,us,rfl,h1,h2],rt]:=rx;cases (show t=[] from rt);cases e1:qg l with
  |none=>rw[e1]at e;cases e
  |some bs=>
    rw[e1]at e;cases e;have q1:=h2.Wm e1;subst q1;exact#[a,bs,rfl,h1,k _ _ #[rfl,rfl]]
 .cases e
theorem afd:hU (λxs H Q=>∃ p ys,xs=[.ref p] /\ ((ba K H p ys /\ ∀ l,H l=zy->Q (.ref l) (upd H l (.tup ys))) \/ (aY K H p ys /\ Q (.ref p) H)))
 (λxs=>match xs with|[.lst l]=>some zV|[.tup l]=>some zV|_=>zy):=by
 intro F H xs vs Q s sub rx e k;dsimp only at e;split at e
 .ext l;cases e;let#[v,t,rfl,#[a,us,rfl,h1,h2],rt]:=rx;cases (show t=[] from rt);exact#[a,us,rfl,.inl #[.of h1,λp hp=>k _ _ (.inr #[p,us,rfl,hp,rfl,h2])]]
 .ext l;cases e;let#[v,t,rfl,#[a,us,rfl,h1,h2],rt]:=rx;cases (show t=[] from rt);exact#[a,us,rfl,.inr #[.of zba,k _ _ (.inl #[rfl,a,us,rfl,h1,h2])]]
 .cases e
noncomputable def ph:List D->Option Res:=λxs=>match xs with|[.lst l]=>some zV|[.tup l]=>some zV|_=>zy
noncomputable def nK:List D->Option Res:=λxs=>match xs with|[.lst l]=>some zQ|[.tup l]=>some zQ|_=>zy
theorem afe:hU (λxs H Q=>∃ p ys,xs=[.ref p] /\ (ba K H p ys \/ aY K H p ys) /\ ∀ l,H l=zy->Q (.ref l) (upd H l (.lst ys))) nK:=by
 intro F H xs vs Q s sub rx e k;unfold nK at e;split at e
 .ext l;cases e;let#[v,t,rfl,#[a,us,rfl,h1,h2],rt]:=rx;cases (show t=[] from rt);exact#[a,us,rfl,.inl (.of h1),λp hp=>k _ _ #[p,us,rfl,hp,rfl,h2]]
 .ext l;cases e;let#[v,t,rfl,#[a,us,rfl,h1,h2],rt]:=rx;cases (show t=[] from rt);exact#[a,us,rfl,.inr (.of zba),λp hp=>k _ _ #[p,us,rfl,hp,rfl,h2]]
 .cases e
noncomputable def maxD:List D->Option Res:=λxs=>match xs with|[.int i,.int j]=>some (.old zcE)|_=>zy
theorem aff:hU (λxs H Q=>∃ i j,xs=[.int i,.int j] /\ Q zcE H) maxD:=by
 intro F H xs vs Q s sub rx e k;unfold maxD at e;split at e
 .ext i j;cases e;let#[v,t,rfl,h1,v2,t2,rfl,h2,rt]:=rx;cases (show t2=[] from rt);cases (show v=.int i from h1);cases (show v2=.int j from h2);exact#[i,j,rfl,k _ _ #[rfl,rfl]]
 .cases e
noncomputable def minD:List D->Option Res:=λxs=>match xs with|[.int i,.int j]=>some (.old zcF)|_=>zy
theorem afg:hU (λxs H Q=>∃ i j,xs=[.int i,.int j] /\ Q zcF H) minD:=by
 intro F H xs vs Q s sub rx e k;unfold minD at e;split at e
 .ext i j;cases e;let#[v,t,rfl,h1,v2,t2,rfl,h2,rt]:=rx;cases (show t2=[] from rt);cases (show v=.int i from h1);cases (show v2=.int j from h2);exact#[i,j,rfl,k _ _ #[rfl,rfl]]
 .cases e
end
end L2.DL
namespace HT
theorem mj {t sl:Addr}{vl vu:kz}{lo hi:Option Int}(ht:IsTup s.heap t items) (hs:s.heap.IsSliceOf sl vl vu .none) (pl:IsPart vl lo) (pu:IsPart vu hi)
 (hw:aD items.size 0 lo=0 /\ aD items.size items.size hi=items.size) (h:Q (.ref t) s):wpAny zg A (getItem (.ref t) (.ref sl)) Q E s:=by
 let#[os,vn,Hs,km]:=id hs;have Qv:s.TypeIs (.ref sl) "slice":=#[os,vn,Hs];unfold getItem;try with_reducible refine dI ?_
 first|refine ae (ag ?_)|skip
 refine ae (XY ht.typeIs za ?_);refine ae (qp (name:=Str.ofString "__getitem__") ht.typeIs wG
  (eI wG ht.typeIs Za ?_ (Zb _ _)))
 show wpAny _ _ (Builtin.Tuple.tupleItemsOf (.ref t) >>= _) _ _ s;refine ae (Zc ht ?_);refine ae (wc Qv ?_);rw[if_pos za];refine ae (jB hs pl pu ?_);have afh:(zX=zO):=by
  rw[hw.1,hw.2];simp
 show wpAny _ _ (if zX=zO then _ else _) _ _ s;rw[if_pos afh];refine ae (m:=Builtin.Tuple.tupleIsExact (.ref t)) ?_;unfold Builtin.Tuple.tupleIsExact;refine ae (wc ht.typeIs (ag ?_));rw[if_pos za];exact ae (pW (ag #[_,rfl,ag h]))
theorem Ai {β:Type}{f g:α->Option β}:∀ {l:List α},(∀ x∈l,f x=g x)->l.filterMap f=l.filterMap g:=by
 intro l_;induction l_ with
 |nil=>exact λ_=>rfl
 |cons x l aq=>
   intro h;rw[ng,ng,h x bK,aq λy hy=>h y (bL _ hy)]
theorem Aj (n:Nat):sliceRange ((n:Int)-1) (-1) (-1)=(List.range n).map λk=>n-1-k:=by
 have e:(if (-1:Int)>0 then (if (n:Int)-1 < -1 then (-1-((n:Int)-1)+-1-1) / -1 else 0) else (if (n:Int)-1>-1 then ((n:Int)-1 - -1 - -1-1) / (- -1) else 0):Int).toNat=n:=by
  rw[if_neg za];split
  .have:((n:Int)-1 - -1 - -1-1) / (- -1)=n:=by
    rw[show (- -1:Int)=1 by decide,Y4];lia
   rw[this];rfl
  .lia
 show (List.range (if (-1:Int)>0 then (if (n:Int)-1 < -1 then (-1-((n:Int)-1)+-1-1) / -1 else 0) else (if (n:Int)-1>-1 then ((n:Int)-1 - -1 - -1-1) / (- -1) else 0):Int).toNat).map _=_;rw[e];refine YF λk hk=>?_;have:=List.mem_range.mp hk;lia
theorem AT (its:List kz):slicePick its.toArray zy zy (some (-1))=its.reverse.toArray:=by
 unfold slicePick;have e:sliceBounds zy zy (some (-1)) its.toArray.size=((its.length:Int)-1,-1,-1):=by
  simp[sliceBounds]
 rw[e];congr 1;show (sliceRange ((its.length:Int)-1) (-1) (-1)).filterMap (its.toArray[·]?)=_;rw[Aj,Yz];apply yf;intro i;have h1:(List.range its.length).filterMap ((λx=>its.toArray[x]?)∘λk=>its.length-1-k)=(List.range its.length).map λk=>(its[its.length-1-k]?).getD .none:=by
  rw[<-List.filterMap_eq_map];refine Ai λk hk=>?_;have HF:=List.mem_range.mp hk;have qI:its.length-1-k<its.length:=by lia
  simp[qI]
 rw[h1,ke];by_cases hi:i<its.length
 .have qI:its.length-1-i<its.length:=by lia
  rw[List.getElem?_range hi,List.getElem?_reverse hi];simp[qI]
 .rw[rq (by simpa using uT hi),rq (by simpa using uT hi)];rfl
end HT
namespace L2.DL
section
variable {a b:Expr} {mb mc:DE W} {p p2:Pos} {lo hi:Option Expr}
def aa9 (K:PySem.W.Frag):V->Option Int->Option Int->Hp->VK->uu:=λx lo hi H Q=>∃ a xs,x=.ref a /\ aY K H a xs /\
 (HT.aD xs.length 0 lo=0 /\ HT.aD xs.length xs.length hi=xs.length) /\ Q za3 H
theorem Oz:sV X (aa9 X.K):=by
 intro pins s σ H x v vl vu lo hi sl Q I rx hs pl pu h;let#[a,xs,rfl,hx,hw,q]:=h;cases rx;let#[its,r,ht,hz]:=I.tuple hx;have hlen:its.toArray.size=xs.length:=by rw[bf];exact r.length.symm
 exact#["tuple",_,wG.lookup,ht.typeIs,HT.mj ht hs pl pu (by rw[hlen];exact hw) #[.ref a,H,I,rfl,q]]
def aba (K:PySem.W.Frag):V->Option Int->Option Int->Hp->VK->uu:=λx lo hi H Q=>aal K x lo hi H Q \/ aa9 K x lo hi H Q \/ aas K x lo hi H Q
theorem S9:sV X (aba X.K):=Sv.or (Oz.or N7)
def cutD (xs:List D) (lo hi:Option Int):List D:=(xs.drop (HT.aD xs.length 0 lo)).take zby
theorem Gr (h:aw F l vs) (lo hi:Option Int):aw F (cutD l lo hi) (uj vs lo hi):=by
 unfold cutD uj;rw[h.length];exact(h.drop _).take _
def vE:D->Option Int->Option Int->Option Res
 |.tup l,lo,hi=>some (.tup (cutD l lo hi))
 |.lst l,lo,hi=>some (.lst (cutD l lo hi))
 |_,_,_=>zy
theorem afi {x:D}{lo hi:Option Int}{Q:VK}{s:Res}(sub:Sub F H) (rx:n8 F H x v) (e:vE x lo hi=some s) (k:∀ u H',vB F H s u H'->Q u H'):aba K v lo hi H Q:=by
 cases x with
 |tup l=>
   cases e;let#[a,vs,rfl,h1,h2]:=rx;by_cases hw:HT.aD vs.length 0 lo=0 /\ HT.aD vs.length vs.length hi=vs.length
   .refine .inr (.inl #[a,vs,rfl,.of zba,hw,k _ _ (.inl #[rfl,?_])]);have e:cutD l lo hi=l:=by
     unfold cutD;rw[h2.length,hw.1,hw.2,Kn,YG,<-h2.length,ua]
    rw[e];exact#[a,vs,rfl,h1,h2]
   .exact .inl #[a,vs,rfl,.of zba,hw,λp hp=>k _ _ (.inr #[p,_,rfl,hp,rfl,Gr h2 lo hi])]
 |lst l=>
   cases e;let#[a,vs,rfl,h1,h2]:=rx;exact .inr (.inr #[a,vs,rfl,.of h1,λp hp=>k _ _ #[p,_,rfl,hp,rfl,Gr h2 lo hi]])
 |non=>cases e
 |bl _=>cases e
 |int _=>cases e
 |str _=>cases e
 |ai _=>cases e
abbrev afj:Hp->List Addr->Option Int->Option Int->uu:=λ_ _ a b=>a=b
def afk (T:Fr) (Z:Xs) (m:DE (Option Int)):TO:=λσ H Q=>∃ F r env bx,Rel T F r σ H env bx /\ End T Z afj F r σ env Q zI
def yW (X:Cx) (T:Fr) (Z:Xs) (e:Option Expr) (m:DE (Option Int)):uu:=PO X e (afk T Z m)
theorem PO.imp {e:Option Expr}{t t':TO}(h:PO X e t) (f:∀ σ H Q,t' σ H Q->t σ H Q):PO X e t':=λpins s σ H Q I q=>h pins s σ H Q I (f σ H Q q)
noncomputable def cS:DE (Option Int):=λ_ bx=>.val zy bx
def cc (m:DE W):DE (Option Int):=λenv bx=>fC zI λw bx1=>match w with|.d (.int i)=>.val (some i) bx1|_=>.bad
theorem Ta:yW X T Z zy cS:=PO.imp N3 λσ H Q=>x4 λF r env bx R h=>h F r zy H (.refl F r) R bz
theorem Ma (h:PD X T Z e ma):yW X T Z (some e) (cc ma):=by
 refine PO.imp (N4 h) λσ H Q=>x4 λF r env bx R h=>?_;refine#[F,r,env,bx,R,End.bind h λw bx1 F1 r1 v H1 g1 R1 d1 h1=>?_];split at h1
 .ext i;exact#[i,d1,h1 F1 r1 _ H1 zaa R1 bz]
 .exact h1.elim
def cx (bo:Bool) (m:DE W) (l u:DE (Option Int)):DE W:=λenv bx=>fC zI λx bx1=>fC (l env bx1) λi bx2=>fC (u env bx2) λj aP=>b0 bo ((aQ aP x).bind λd=>vE d i j) aP
theorem Mb {l u:DE (Option Int)}(bo:Bool) (ha:PD X T Z e ma) (hl:yW X T Z lo l) (hu:yW X T Z hi u):PD X T Z (.Subscript e (.Slice lo hi zy p2) pos) (cx bo ma l u):=by
 refine PE.imp (LF S9 ha hl hu) λσ H Q=>x4 λF r env bx R h=>?_;refine#[F,r,env,bx,R,End.bind h λx bx1 F1 r1 v H1 g1 R1 d1 h1=>?_];refine#[F1,r1,env,bx1,R1,End.bind h1 λi bx2 F2 r2 i' H2 g2 R2 d2 h2=>?_];refine#[F2,r2,env,bx2,R2,End.bind h2 λj aP F3 r3 j' H3 g3 R3 d3 h3=>?_];subst d2 d3;cases e1:aQ aP x with
 |none=>rw[e1]at h3;exact h3.elim
 |some d=>
   rw[e1]at h3;erw[bD]at h3;cases e2:vE d i j with
   |none=>rw[e2]at h3;exact h3.elim
   |some s=>
     rw[e2]at h3;exact afi R3.fh (R3.qF (g3.den (g2.den d1)) e1) e2 λu H' k=>ir R3 h3 k
theorem Tb {te:TE}{i:Int}{q1 q2:Pos}(he:PE X e te):PE X (.Subscript e (.Slice zy zy (some (.UnaryOp .USub (.Constant zh j q1) q2)) p2) pos)
 (λσ H Q=>te σ H λx H1=>∃ a xs,x=.ref a /\ ba X.K H1 a xs /\ ∀ p,H1 p=zy->Q (.ref p) (upd H1 p (.lst xs.reverse))):=by
 intro pins s σ H Q I h;refine Subscript_ (tE (he pins s σ H _ I h) λv s1 x H1 I1 r1 q1=>?_);refine X0 ?_;rw[IW];refine ag (ag ?_);rw[XZ];refine tE (RD (X:=X) Ly mM pins s1 σ H1 (λy H2=>y=.int (-1) /\ H2=H1) I1 #[1,rfl,rfl,rfl]) λvs s3 y H3 I3 r3 hh=>?_;let#[e1,e2]:=hh;subst e1 e2;let#[t,rfl]:=r3;let#[a,xs,rfl,hx,q]:=q1;cases r1;have I4:Inv X pins σ H3 { s3 with heap:=s3.heap.push { cls:=.type "slice",data:=.fields (List.toArray [.none,.none,.int (-1) t]) } }:=I3.kept (t':=s3.toks) λb ob q=>aK _ q;let#[its,r,ht,hz]:=I4.list hx;have hlen:=r.length;have hg:wpAny ze X.A (getItem za3 (.ref s3.heap.objs.size)) zaR X.xe { s3 with heap:=s3.heap.push { cls:=.type "slice",data:=.fields (List.toArray [.none,.none,.int (-1) t]) } }:=by
  refine X1 (lo:=zy) (hi:=zy) (st:=some (-1)) ht.isList (Heap.IsSliceOf.new ..) .none .none (.int (-1) t) zf ?_ (by rw[bf]<;>lia);rw[HT.AT];refine#[.ref _,_,I4.laid (t':=s3.toks) (o:=.lst xs.reverse) (λb ob q=>aK _ q) (au _) ?_,rfl,q _ (I4.aj.fresh (au _))];exact#[by rw[YH];exact hz,_,0,r.reverse,bw _ bz]
 show wpAny ze X.A (subscriptTail e (.Slice zy zy (some (.UnaryOp .USub (.Constant zh j _) q2)) p2) za3 (.ref s3.heap.objs.size)) zaR X.xe _;exact KL (ops:=[.ref a,.ref s3.heap.objs.size]) ht.isList.typeIs slot_list_getitem.lookup hg (by with_unfolding_all rfl)
def rQ (bo:Bool) (m:DE W):DE W:=λenv bx=>fC zI λx bx1=>b0 bo ((aQ bx1 x).bind λd=>match d with|.lst l=>some (.lst l.reverse)|_=>zy) bx1
theorem Tc {q1 q2:Pos}(bo:Bool) (ha:PD X T Z e ma):PD X T Z (.Subscript e (.Slice zy zy (some (.UnaryOp .USub (.Constant zh j q1) q2)) p2) pos) (rQ bo ma):=by
 refine PE.imp (Tb (i:=0) ha) λσ H Q=>x4 λF r env bx R h=>?_;refine#[F,r,env,bx,R,End.bind h λx bx1 F1 r1 v H1 g1 R1 d1 h1=>?_];cases e1:aQ bx1 x with
 |none=>rw[e1]at h1;exact h1.elim
 |some d=>
   rw[e1]at h1;cases d with
   |lst l=>
     let#[a,vs,rfl,k1,k2]:=R1.qF d1 e1;exact#[a,vs,rfl,.of k1,λp hp=>ir R1 h1 #[p,_,rfl,hp,rfl,k2.reverse]]
   |_=>exact h1.elim
def eE (m:DE W):DE W:=λenv bx=>fC zI λw bx1=>match w with|.d (.int i)=>.val (.d (.int (-i))) bx1|_=>.bad
theorem Td (ha:PD X T Z a ma):PD X T Z (.UnaryOp .USub a pos) (eE ma):=by
 refine PE.imp (RD Ly ha) λσ H Q=>x4 λF r env bx R h=>?_;refine#[F,r,env,bx,R,End.bind h λw bx1 F1 r1 v H1 g1 R1 d1 h1=>?_];split at h1
 .ext i;exact#[i,d1,h1 F1 r1 _ H1 zaa R1 bz]
 .exact h1.elim
end
end L2.DL
namespace HT
theorem Cr {l:Addr}{vs:List kz}{Q:List kz->Shared->uu}(hl:IsTup s.heap l vs.toArray) (hz:vs.length<=sizeLine)
 (h:Q vs { s with heap:=(s.heap.push (seqObj "list" #[] 0)).update s.heap.objs.size (Obj.mapSeq (·++vs.toArray)) }):wpAny zg A (collect (.ref l)) Q E s:=by
 let#[ob,ho,um,k,qL]:=id hl;unfold collect;refine ae (X7 (uO entry_proto_collect' (ae (EL (ag #[ZU _ z7,uO entry_list_iadd' ?_])))));show wpAny _ _ (Builtin.List.listExtendWith zaj (.ref l) zaj) _ _ { s with heap:=s.heap.push (seqObj "list" #[] 0) };unfold Builtin.List.listExtendWith;have qM:(s.heap.push (seqObj "list" #[] 0)).get? l=some ob:=aK _ ho;refine ae (wc (T:="tuple") #[ob,qM,um] ?_);rw[if_pos (by rw[show (Value.type "tuple"==Value.type "tuple")=true by decide,Bool.or_true])];refine ae (Ze qM qL (ae (Ze (xs:=#[]) (n:=0) (bw _ bz) bz ?_)));rw[if_neg zf];refine ae (listUpdate_at (xs:=#[]) (n:=0) (bw _ bz) bz (ag ?_) (nT _) (by show (#[]++vs.toArray).size<=sizeLine+1;erw[Array.size_append,bf,kK];lia));refine ae (wb (Zf (bw _ bz) _) (show wpAny _ _ (pure ((#[]:Array kz)++vs.toArray).toList) Q E _ from ?_));rw[show ((#[]:Array Value)++vs.toArray).toList=vs by simp];exact ag h
theorem Ak {l:Addr}{vs:List kz}(hl:IsTup s.heap l vs.toArray) (hI:IntsAre vs ns) (pN:vs.length<64)
 (h:∀ (out:Array kz) (aU:List Int),IntsAre out.toList aU->aU.Perm ns->aU.Pairwise (·<=·)->Q (.ref zU) { s with heap:=sortedAll s.heap vs out }):wpAny zg A (call (.builtin "sorted") [.ref l]) Q E s:=by
 refine Zx Zg Zh Zi (Zj _) ?_;unfold Builtin.«sorted»;refine ae (m:=checkCount "sorted" 1 1 _) (ag (ae (Cr hl (br (rf pN) za) (ae (EL ?_)))));have hsz:((s.heap.push (seqObj "list" #[] 0)).update s.heap.objs.size (Obj.mapSeq (·++vs.toArray))).objs.size=s.heap.objs.size+1:=by rw[Heap.size_update,uY]
 have Hg:(((s.heap.push (seqObj "list" #[] 0)).update s.heap.objs.size (Obj.mapSeq (·++vs.toArray))).push (seqObj "list" vs.toArray 0)).get? zU=some (seqObj "list" vs.toArray 0):=by rw[<-hsz];exact bw _ bz
 show wpAny _ _ _ _ _ { s with heap:=((s.heap.push (seqObj "list" #[] 0)).update s.heap.objs.size (Obj.mapSeq (·++vs.toArray))).push (seqObj "list" vs.toArray 0) };rw[hsz];exact ae (dI (eI Zk #[_,Hg,rfl] Zl (Zm Hg hI pN λout aU a1 a2 a3=>#[_,rfl,ag #[_,rfl,h out aU a1 a2 a3]]) (Zn _)))
end HT
namespace L2.DL
noncomputable def sortI (ns:List Int):List Int:=ns.mergeSort λa b=>decide (a<=b)
theorem gU (ns:List Int):(sortI ns).Perm ns:=List.mergeSort_perm ns _
theorem iC (ns:List Int):(sortI ns).Pairwise (·<=·):=by
 have h:=List.pairwise_mergeSort (le:=λa b:Int=>decide (a<=b)) (λa b c h1 h2=>by simp at *;lia) (λa b=>by simp;lia) ns;exact h.imp λq=>by simpa using q
theorem j9 {a b:List Int}(p:a.Perm b) (ha:a.Pairwise (·<=·)) (hb:b.Pairwise (·<=·)):a=b:=
 p.eq_of_pairwise (λx y _ _ h1 h2=>Int.le_antisymm h1 h2) ha hb
section
variable {a b:Expr} {mb mc:DE W} {p p2:Pos}
def HQ (K:PySem.W.Frag) (vs:List V) (H:Hp) (Q:VK):uu:=∃ (p:Addr) (ns:List Int),vs=[.ref p] /\ (ba K H p zb5 \/ aY K H p zb5) /\ ns.length<64 /\ ∀ l,H l=zy->Q (.ref l) (upd H l (.lst ((sortI ns).map V.int)))
theorem mQ:∀ {us:List kz}{ns:List Int},IntsAre us ns->Vals zb5 us
 |_,_,.nil=>.nil
 |_,_,.cons n t h=>.cons #[t,rfl] (mQ h)
theorem Jw:dD X (.builtin "sorted") (HQ X.K):=by
 intro pins s σ H xs us Q I rv h;let#[p,ns,rfl,hp,pN,q]:=h;let#[u,rfl,ru]:=Vals.one rv;cases ru;have fin:∀ (its:List kz) (out:Array kz) (aU:List Int),IntsAre out.toList aU->aU.Perm ns->aU.Pairwise (·<=·)->EP X pins σ Q (.ref zU) { s with heap:=sortedAll s.heap its out }:=λits out aU a1 a2 a3=>by
  let#[k,he]:=sortedAll_at s.heap its out;have e:aU=sortI ns:=j9 (a2.trans (gU ns).symm) a3 (iC ns);subst e;have hf:H zU=zy:=I.aj.fresh (t8 _);have ll:((sortI ns).map V.int).length<=sizeLine:=by
   rw[aS,(gU ns).length_eq];exact br (rf pN) za
  refine#[.ref zU,_,I.laid (t':=s.toks) (o:=.lst ((sortI ns).map V.int)) (λb ob q=>sortedAll_old q) (t8 _) ?_,rfl,q _ hf];exact#[ll,out.toList,k,mQ a1,he]
 rcases hp with hp|hp
 .let#[its,r1,p1,z1]:=I.list hp;have hl:ns.length=its.length:=by have:=r1.length;simpa using this
  exact sorted_ints p1.isList (iJ r1) zb λout aU=>fin its out aU
 .let#[its,r1,p1,z1]:=I.tuple hp;have hl:ns.length=its.length:=by have:=r1.length;simpa using this
  exact HT.Ak p1 (iJ r1) zb λout aU=>fin its out aU
def wZ:List D->Option Res
 |[.lst l]=>(intsOf l).bind λns=>if ns.length<64 then some (.lst ((sortI ns).map D.int)) else zy
 |[.tup l]=>(intsOf l).bind λns=>if ns.length<64 then some (.lst ((sortI ns).map D.int)) else zy
 |_=>zy
theorem Al:∀ (ns:List Int),aw F zb6 zb5:=by
 intro l_;induction l_ with
 |nil=>exact rfl
 |cons n ns aq=>exact .cons bz (aq)
theorem afl:hU (HQ K) wZ:=by
 intro F H xs vs Q s sub rx e k;unfold wZ at e;split at e
 .ext l;let#[v,t,rfl,#[a,us,rfl,h1,h2],rt]:=rx;cases (show t=[] from rt);cases e1:intsOf l with
  |none=>rw[e1]at e;cases e
  |some ns=>
    rw[e1]at e;erw[bD]at e;split at e
    .ext pN;cases e;have q1:=h2.ints e1;subst q1;exact#[a,ns,rfl,.inl (.of h1),pN,λl hl=>k _ _ #[l,_,rfl,hl,rfl,Al _]]
    .cases e
 .ext l;let#[v,t,rfl,#[a,us,rfl,h1,h2],rt]:=rx;cases (show t=[] from rt);cases e1:intsOf l with
  |none=>rw[e1]at e;cases e
  |some ns=>
    rw[e1]at e;erw[bD]at e;split at e
    .ext pN;cases e;have q1:=h2.ints e1;subst q1;exact#[a,ns,rfl,.inr (.of zba),pN,λl hl=>k _ _ #[l,_,rfl,hl,rfl,Al _]]
    .cases e
 .cases e
def kU (m:DE W) (k:DE W):DE W:=λenv bx=>fC zI λx bx1=>match x with
 | .b n=>(match bx1[n]? with
   | some (.lst _)=>fC (k env bx1) λy bx2=>(match y,bx2[n]? with
     |.d d,some (.lst l)=>if l.length<sizeLine then .val (.d .non) (bx2.set n (.lst (l++[d]))) else .bad
     |_,_=>.bad)
   |_=>.bad)
 |_=>.bad
theorem UR {Q:VK}(h:tD T Z (kU ma mb) σ H Q):Qy X.K "list" aax (tD T Z ma) (Ho (tD T Z mb) Hn) σ H Q:=by
 let#[F,r,env,bx,R,h]:=h;refine#[F,r,env,bx,R,End.bind h λx bx1 F1 r1 v H1 g1 R1 d1 h1=>?_];cases x with
 |d _=>exact h1.elim
 |s _=>exact h1.elim
 |x _=>exact h1.elim
 |t _=>exact h1.elim
 |m _=>exact h1.elim
 |b n=>
   simp only at h1;let#[a,rfl,ha]:=d1;let#[c,hc,kc]:=R1.nF ha;rw[hc]at h1;cases c with
   |ai _=>exact h1.elim
   |dead=>exact h1.elim
   |dT _=>exact h1.elim
   |lst l0=>
     let#[_,uv,k0,_]:=kc;refine#[.inl #[rfl,uv,ba.of k0],?_];refine#[F1,r1,env,bx1,R1,End.bind h1 λy bx2 F2 r2 u H2 g2 R2 d2 h2=>?_];let#[t,et]:=g2.p;have uw:r2[n]?=some a:=by rw[<-et,dn (List.getElem?_eq_some_iff.mp ha).1];exact ha
     let#[c2,dQ,tm]:=R2.nF uw;rw[dQ]at h2;cases y with
     |b _=>exact h2.elim
     |s _=>exact h2.elim
     |x _=>exact h2.elim
     |t _=>exact h2.elim
     |m _=>exact h2.elim
     |d dd=>
       cases c2 with
       |ai _=>exact h2.elim
       |dead=>exact h2.elim
       |dT _=>exact h2.elim
       |lst l=>
         simp only at h2;split at h2
         .ext hz;let#[hF,vs,k1,k2]:=tm;refine#[a,vs,u,rfl,rfl,k1,by rw[<-k2.length];exact hz,?_];exact h2 F2 r2 _ _ (.refl F2 r2) (R2.write uw hF #[hF,vs++[u],fE,k2.append (.cons d2 .nil)]) bz
         .exact h2.elim
end
end L2.DL
namespace L2
section
variable {κ:Type} [DecidableEq κ]
noncomputable def cz (af:List (κ×V)) (k:κ):Option V:=(af.find? λkv=>decide (kv.1=k)).map (·.2)
noncomputable def putK (af:List (κ×V)) (k:κ) (v:V):List (κ×V):=
 if (af.any λkv=>decide (kv.1=k))=zO then af.map (λkv=>if kv.1=k then (kv.1,v) else kv) else af++[(k,v)]
theorem lg {p:κ×V}{r:List (κ×V)}{k:κ}(e:p.1=k):cz (p::r) k=some p.2:=by simp[cz,qw,e]
theorem jC {p:κ×V}{r:List (κ×V)}{k:κ}(e:¬ p.1=k):cz (p::r) k=cz r k:=by simp[cz,qw,e]
theorem Cs (k:κ):∀ af:List (κ×V),(af.any λkv=>decide (kv.1=k))=(cz af k).isSome:=by
 intro l_;induction l_ with
 |nil=>exact rfl
 |cons p r aq=>
   rw[sC];by_cases e:p.1=k
   .erw[lg e,decide_eq_true e,Bool.true_or,Option.isSome_some]
   .rw[jC e,decide_eq_false e,Bool.false_or];exact aq
theorem iW (af:List (κ×V)) (k:κ) (v:V):(putK af k v).length<=af.length+1:=by
 unfold putK;split
 .rw[aS];lia
 .rw[cJ,bp,kK];lia
theorem kO.Wn {o:Option V}{u:Option kz}(r:kO o u):o.isSome=u.isSome:=by
 cases o with
 | none=>cases u with
   |none=>rfl
   |some _=>exact(show False from r).elim
 | some _=>cases u with
   |none=>exact(show False from r).elim
   |some _=>rfl
theorem KV.val {af:List (κ×V)}{vs:List (κ×kz)}(r:KV af vs) (k:κ):kO (cz af k) (valueAt vs k):=by
 unfold KV at r;induction r with
 |nil=>exact True.intro
 |@cons p q ps qs h t ih=>
   let#[h1,h2]:=h;by_cases e:p.1=k
   .have e':q.1=k:=h1.symm.trans e;have b:valueAt (q::qs) k=some q.2:=by simp[valueAt,qw,e']
    rw[lg e,b];exact h2
   .have e':¬ q.1=k:=λz=>e (h1.trans z);have b:valueAt (q::qs) k=valueAt qs k:=by simp[valueAt,qw,e']
    rw[jC e,b];exact ih
theorem KV.any {af:List (κ×V)}{vs:List (κ×kz)}(r:KV af vs) (k:κ):(af.any λkv=>decide (kv.1=k))=vs.any λkv=>decide (kv.1=k):=by
 unfold KV at r;induction r with
 |nil=>rfl
 |cons h t ih=>rw[sC,sC,ih,h.1]
theorem KV.Wo {af:List (κ×V)}{vs:List (κ×kz)}(r:KV af vs) (k:κ) {y:V}(ry:RelV y u) :
 KV (af.map λkv=>if kv.1=k then (kv.1,y) else kv) (vs.map λkv=>if kv.1=k then (kv.1,u) else kv):=by
 unfold KV at r ⊢;induction r with
 |nil=>exact .nil
 |@cons p q ps qs h t ih=>
   rw[bh,bh];refine .cons ?_ ih;let#[h1,h2]:=h;by_cases e:p.1=k
   .rw[if_pos e,if_pos (h1.symm.trans e)];exact#[h1,ry]
   .rw[if_neg e,if_neg (λz=>e (h1.trans z))];exact#[h1,h2]
theorem KV.put {af:List (κ×V)}{vs:List (κ×kz)}(r:KV af vs) (k:κ) {y:V}(ry:RelV y u):KV (putK af k y) (stored vs k u):=by
 unfold putK stored;rw[r.any k];by_cases e:(vs.any λkv=>decide (kv.1=k))=zO
 .rw[if_pos e,if_pos e];exact r.Wo k ry
 .rw[if_neg e,if_neg e];exact Paired.snoc r #[rfl,ry]
theorem KV.length {af:List (κ×V)}{vs:List (κ×kz)}(r:KV af vs):af.length=vs.length:=Paired.length r
end
theorem Be {k:Key}(r:RelV (kV k) u):(dt P w).is k u=zO:=by
 cases k with
 |inl i=>let#[t,e]:=(show ∃ t,u=Value.int i t from r);subst e;exact Cb P w i t
 |inr x=>let#[t,e]:=(show ∃ t,u=Value.str x t from r);subst e;exact Cc P w x t
theorem Jx:∀ {ks:List Key}{us:List kz},Vals (ks.map kV) us->ItemsAre (dt P w) ks us:=by
 intro l_;induction l_ with
 |nil=>(intro _ r;rw[wz]at r;cases r;exact .nil)
 |cons k ks aq=>
   intro _ r;rw[bh]at r;cases r with
   |cons h t=>exact .cons (Be h) (aq t)
abbrev KT (H:Hp):List (List Key×V)->List (List Key×Addr×kz)->uu:=Paired λp q=>p.1=q.1 /\ H q.2.1=some (.tup (p.1.map kV)) /\ RelV p.2 q.2.2
theorem KT.val (r:KT H af xs) (k:List Key):kO (cz af k) ((atKey xs k).map (·.2)):=by
 induction r with
 |nil=>exact True.intro
 |@cons p q ps qs h t ih=>
   let#[h1,_,h2]:=h;by_cases e:p.1=k
   .have e':q.1=k:=h1.symm.trans e;have b:atKey (q::qs) k=some q.2:=by simp[atKey,qw,e']
    rw[lg e,b];exact h2
   .have e':¬ q.1=k:=λz=>e (h1.trans z);have b:atKey (q::qs) k=atKey qs k:=by simp[atKey,qw,e']
    rw[jC e,b];exact ih
theorem KT.Wo (r:KT H af xs) (k:List Key) {y:V}(ry:RelV y u) :
 KT H (af.map λkv=>if kv.1=k then (kv.1,y) else kv) (xs.map (putAt k u)):=by
 induction r with
 |nil=>exact .nil
 |@cons p q ps qs h t ih=>
   rw[bh,bh];refine .cons ?_ ih;let#[h1,h2,h3]:=h;unfold putAt;by_cases e:p.1=k
   .rw[if_pos e,if_pos (h1.symm.trans e)];exact#[h1,h2,ry]
   .rw[if_neg e,if_neg (λz=>e (h1.trans z))];exact#[h1,h2,h3]
theorem KT.put (r:KT H af xs) (k:List Key) {b:Addr}{y:V}(hb:H b=some (.tup (k.map kV))) (ry:RelV y u) :
 KT H (putK af k y) (storedH xs k b u):=by
 have e:(af.any λkv=>decide (kv.1=k))=(atKey xs k).isSome:=by
  rw[Cs,(r.val k).Wn,Y3]
 unfold putK storedH;rw[e];by_cases q:(atKey xs k).isSome=zO
 .rw[if_pos q,if_pos q];exact r.Wo k ry
 .rw[if_neg q,if_neg q];exact Paired.snoc r #[rfl,hb,ry]
theorem KT.keeps (r:KT H af xs) (ht:∀ b ys,H b=some (.tup ys)->H' b=some (.tup ys)):KT H' af xs:=
 Paired.K7 r λ_ _ z=>#[z.1,ht _ _ z.2.1,z.2.2]
section
variable {h:Heap} 
theorem RH {u:HO}(ok:bQ P w H h) (e:Rd H a u):a9 P w H h a u:=e.ok ok
theorem Ct {af:List (Key×V)}(ok:bQ P w H h) (e:Rd H a zcB):af.length<=sizeLine /\ (a==sysModules)=zw /\ ∃ vs,KV af vs /\ h.DictOf (dt P w) a vs:=
 show a9 P w H h a zcB from RH ok e
theorem Mc {af:List (Key×V)}(ok:bQ P w H h) (e:H a=some zcB):af.length<=sizeLine /\ (a==sysModules)=zw /\ ∃ vs,KV af vs /\ h.DictOf (dt P w) a vs:=Ct ok (.inl e)
theorem Am {ks:List Key}(ok:bQ P w H h) (e:H a=some (.tup (ks.map kV))):(tupleKind (dt P w)).is h ks a:=by
 let#[_,its,r,o,h1,h2,n,h3]:=(show a9 P w H h a (.tup (ks.map kV)) from ok a _ e);exact#[o,its.toArray,n,h1,h2,h3,by simpa using Jx r]
theorem Cu (ok:bQ P w H h) (e:Rd H a (.dT af)):af.length<=sizeLine /\ (a==sysModules)=zw /\
 ∃ xs,KT H af xs /\ h.DictOfH (tupleKind (dt P w)) a xs:=by
 let#[z,y,xs,r,o,es,ep,h1,h2,h3,h4,h5]:=(show a9 P w H h a (.dT af) from RH ok e);refine#[z,y,xs,r,o,es,ep,h1,h2,h3,h4,λx hx=>?_,h5];have all:∀ {l:List (List Key×V)}{m:List (List Key×Addr×kz)},KT H l m->∀ x∈m,(tupleKind (dt P w)).is h x.1 x.2.1:=by
  intro l m q;induction q with
  |nil=>intro x hx;exact nomatch hx
  |@cons p q ps qs hq t ih=>
    intro x hx;rcases aH.mp hx with e|hx
    .subst e;exact Am ok (by rw[<-hq.1];exact hq.2.1)
    .exact ih x hx
 exact all r x hx
theorem Md (ok:bQ P w H h) (e:H a=some (.dT af)):af.length<=sizeLine /\ (a==sysModules)=zw /\
 ∃ xs,KT H af xs /\ h.DictOfH (tupleKind (dt P w)) a xs:=Cu ok (.inl e)
end
def tq (H:Hp) (a:Addr) (y:V) (r:Option V):uu:=
 (∃ af k,Rd H a zcB /\ y=kV k /\ r=cz af k) \/ ∃ af k b,Rd H a (.dT af) /\ y=.ref b /\ H b=some (.tup (k.map kV)) /\ r=cz af k
def abb (H:Hp) (a:Addr) (y v:V) (H':Hp):uu:=
 (∃ af k,H a=some zcB /\ y=kV k /\ af.length<sizeLine /\ H'=upd H a (.dK (putK af k v))) \/
 ∃ af k b,H a=some (.dT af) /\ y=.ref b /\ H b=some (.tup (k.map kV)) /\ af.length<sizeLine /\ H'=upd H a (.dT (putK af k v))
theorem tq.k {H:Hp}{a:Addr}{af:List (Key×V)}{k:Key}(e:H a=some zcB):tq H a (kV k) (cz af k):=.inl #[af,k,.inl e,rfl,rfl]
section
variable {y:V} {r:kz} {o:Option V} 
theorem Inv.big (I:Inv X pins σ H s):sysModules<s.heap.objs.size:=by
 have h:mainGlobals<s.heap.objs.size:=(I.mod.glob.keeps I.bk).lt;exact EW za h
theorem Jy (hu:A.units+1<cLine) (I:Inv X pins σ H s) (g:tq H a y (some v)) (ry:RelV y u) (h:∀ w' s',Inv X pins σ H s'->RelV v w'->Q w' s') :
 wpAny ze A (getItem za3 u) Q E s:=by
 rcases g with⟨af,k,e,ey,l⟩|⟨af,k,b,e,ey,eb,l⟩
 .subst ey;let#[z,hd,vs,rel,dd]:=Ct I.aj e;let#[w',hw,nW]:=kO.some_of (v:=v) (o:=valueAt vs k) (by rw[l];exact rel.val k);exact wpAny_getItem_of (Be ry) dd.mapOf hw (h w' _ (I.tok _) nW)
 .subst ey;cases (show u=Value.ref b from ry);let#[z,hd,xs,rel,dd]:=Cu I.aj e;let#[w',hw,nW]:=kO.some_of (v:=v) (o:=(atKey xs k).map (·.2)) (by rw[l];exact rel.val k);let#[p,hp,afm]:=Option.map_eq_some_iff.mp hw;refine wpAny_getItem_heap (EM hu) (Am I.aj eb) dd hp ?_;rw[afm];exact h w' _ (I.tok _) nW
theorem VQ (hu:A.units+1<cLine) (I:Inv X pins σ H s) (g:tq H a y o) (ry:RelV y u) (h:∀ s',Inv X pins σ H s'->Q (.bool o.isSome) s') :
 wpAny ze A (compareOp .In u za3) Q E s:=by
 rcases g with⟨af,k,e,ey,l⟩|⟨af,k,b,e,ey,eb,l⟩
 .subst ey;let#[z,hd,vs,rel,dd]:=Ct I.aj e;refine wpAny_in_of (Be ry) hd dd.mapOf ?_;rw[<-(rel.val k).Wn,<-l];exact h _ (I.tok _)
 .subst ey;cases (show u=Value.ref b from ry);let#[z,hd,xs,rel,dd]:=Cu I.aj e;refine wpAny_in_heap (EM hu) (Am I.aj eb) hd dd ?_;have q:=(rel.val k).Wn;rw[Y3]at q;rw[<-q,<-l];exact h _ (I.tok _)
theorem mn {ob:HO}(I:Inv X pins σ H s) (mu:yr (H a)) (hs:Heap.SameBut a s.heap h') (he:∃ q,h'.get? a=some q) (new:a9 X.prog X.w (upd H a ob) h' a ob) :
 Inv X pins σ (upd H a ob) { s with heap:=h',toks:=t' }:=
 I.write (x:=a) (e:=a) mu zbs (λb q hb z=>(hs.2 b hb).trans z) he new
theorem Fa {af:List (Key×V)}{vs:List (Key×kz)}(z:af.length<=sizeLine) (hd:(a==sysModules)=zw) (rel:KV af vs) (dd:h'.DictOf (dt P w) a vs) :
 a9 P w H' h' a zcB:=#[z,hd,vs,rel,dd]
theorem Jz {Q:Unit->Shared->uu}(hu:A.units+1<cLine) (I:Inv X pins σ H s) (g:abb H a y v H') (ry:RelV y u) (rv:RelV v r) (h:∀ s',Inv X pins σ H' s'->Q () s') :
 wpAny ze A (setItem za3 u r) Q E s:=by
 rcases g with⟨af,k,e,ey,l,eH⟩|⟨af,k,b,e,ey,eb,l,eH⟩
 .subst ey eH;let#[z,hd,vs,rel,dd]:=Mc I.aj e;have hz:vs.length<=sizeLine:=by rw[<-rel.length];exact z
  have hl:(putK af k v).length<=sizeLine:=by have:=iW af k v;lia
  refine wpAny_setItem_pairs (hsz:=hz) (Be ry) dd λh' qh hs=>h _ ?_;have he:∃ q,h'.get? a=some q:=let ⟨q,_,_,hq,_⟩:=qh;#[q,hq]
  exact mn I (by rw[e];exact True.intro) hs he (Fa hl hd (rel.put k rv) qh)
 .subst ey eH;cases (show u=Value.ref b from ry);let#[z,hd,xs,rel,dd]:=Md I.aj e;have hz:xs.length<=sizeLine:=by rw[<-Paired.length rel];exact z
  have hl:(putK af k v).length<=sizeLine:=by have:=iW af k v;lia
  refine wpAny_setItem_heap (hsz:=hz) (EM hu) (Am I.aj eb) dd λh' qh hs=>h _ ?_;let#[q,es,ep,hq,h2,h3,h4,_,h5]:=qh;refine mn I (by rw[e];exact True.intro) hs #[q,hq] #[hl,hd,_,(rel.put k eb rv).keeps λc ys ec=>?_,q,es,ep,hq,h2,h3,h4,h5];rw[fA (Ry ec e (λz=>nomatch z))];exact ec
end
section
variable {af:List (Key × V)} {k:Key} 
end
def HR (i:Expr):uu:=∀ ov iv,subscripted i zw ov iv=operate [ov,iv] (getItem ov iv)
theorem OA {env:Env}{value slice:Expr}{T id:String} 
 (hl:typeLookup (.type T) "__getitem__"=pure (some zcf)) (hs:HR slice)
 (h:wpAny zg A (eval value env) (λo s₁=>wpAny zg A (eval slice env) (λi s₂=>s₂.TypeIs o T /\ wpAny zg A (getItem o i) Q E s₂) E s₁) E s) :
 wpAny zg A (eval (.Subscript value slice pos) env) Q E s:=by
 refine Subscript_ (cC h (λo s₁ h₁=>cC h₁ (λi s₂ h₂=>?_) λ_ _ x=>x) λ_ _ x=>x);let#[hT,h₂]:=h₂;unfold subscriptTail;refine ae ?_;rw[getitemInPython_of_ne hT.not_modules];refine ae (X8 hT hl ?_);have fin:wpAny zg A (subscripted slice zw o i) (λr s₃=>wpAny zg A (letTemporaryGo value o r >>= λ_=>pure r) Q E s₃) E s₂:=by
  rw[hs o i];exact wpAny_operating (cC h₂ (λr s₃ h₃=>ae (wpAny_letTemporaryGo (ag h₃))) λ_ _ x=>x)
 first
  |exact ag (ae fin)
  |exact ae (ag (ae fin))
  |exact ae fin
theorem Cw {y:V}{o:Option V}(I:Inv X pins σ H s) (g:tq H a y o):s.TypeIs za3 "dict":=by
 rcases g with⟨af,k,e,_,_⟩|⟨af,k,b,e,_,_,_⟩
 .let#[_,_,vs,_,dd]:=Ct I.aj e;exact dd.typeIs
 .let#[_,_,xs,_,dd]:=Cu I.aj e;exact dd.typeIs
def abd (td ty:TE):TE:=λσ H Q=>td σ H λx H1=>ty σ H1 λy H2=>∃ a v,x=.ref a /\ tq H2 a y (some v) /\ Q v H2
def abe (ty td:TE):TE:=λσ H Q=>ty σ H λy H1=>td σ H1 λx H2=>∃ a o,x=.ref a /\ tq H2 a y o /\ Q (.bl o.isSome) H2
def abf (td ty tv:TE):TS:=λD σ H=>tv σ H λv H1=>td σ H1 λx H2=>ty σ H2 λy H3=>∃ a H4,x=.ref a /\ abb H3 a y v H4 /\ D.nx σ H4
section
variable {o i value:Expr} {aah:Pos} {td ty tv:TE}
theorem OB (hu:X.A.units+1<cLine) (ho:PE X o td) (hi:PE X i ty) (hs:HR i):PE X (.Subscript o i pos) (abd td ty):=by
 intro pins s σ H Q I h;refine OA PySem.F.slot_dict_getitem.lookup hs (tE (ho pins s σ H _ I h) λu s1 x H1 I1 rx q1=>tE (hi pins s1 σ H1 _ I1 q1) λiv s2 y H2 I2 ry hh=>?_);let#[a,v,ex,g,q2]:=hh;subst ex;obtain rfl:u=Value.ref a:=rx;exact#[Cw I2 g,Jy hu I2 g ry λw' s3 I3 nW=>#[v,H2,I3,nW,q2]]
theorem Me (hu:X.A.units+1<cLine) (hi:PE X i ty) (ho:PE X o td):PC X .In i o (abe ty td):=by
 intro pins s σ H Q I h;refine tE (hi pins s σ H _ I h) λiv s1 y H1 I1 ry q1=>tE (ho pins s1 σ H1 _ I1 q1) λu s2 x H2 I2 rx hh=>?_;let#[a,ov,ex,g,q2]:=hh;subst ex;obtain rfl:u=Value.ref a:=rx;exact VQ hu I2 g ry λs3 I3=>#[.bl ov.isSome,H2,I3,rfl,q2]
theorem OC (hu:X.A.units+1<cLine) (ho:PE X o td) (hi:PE X i ty) (hv:PE X value tv) (hs:swapsWith value (some (.Subscript o i pos')) pos.line X.env=pure zw) :
 PS X (.Assign [.Subscript o i pos'] value pos) (abf td ty tv):=by
 intro pins s σ H D I h;refine wpAny_Assign_Subscript (tE (hv pins s σ H _ I h) λr s1 v H1 I1 rv q1=>tE (ho pins s1 σ H1 _ I1 q1) λu s2 x H2 I2 rx q2=>tE (hi pins s2 σ H2 _ I2 q2) λiv s3 y H3 I3 ry hh=>?_) hs;let#[a,H4,ex,g,q3]:=hh;subst ex;obtain rfl:u=Value.ref a:=rx;exact Jz hu I3 g ry rv λs4 I4=>#[σ,H4,I4,q3]
end
theorem CB (h:Heap) (hb:sysModules<h.objs.size):a9 P w H (h.push { cls:=.type "dict",data:=.dict #[] }) h.objs.size (.dK []):=
 #[nT _,beq_eq_false_iff_ne.mpr (Ne.symm (bT hb)),[],.nil,Heap.DictOf.new h]
theorem Mf (h:Heap) (hb:sysModules<h.objs.size):a9 P w H (h.push { cls:=.type "dict",data:=.dict #[] }) h.objs.size (.dT []):=
 #[nT _,beq_eq_false_iff_ne.mpr (Ne.symm (bT hb)),[],.nil,_,#[],0,bw _ bz,#[rfl,rfl,rfl],rfl,rfl,YI]
def afn:TE:=λ_ H Q=>∀ p,H p=zy->Q (.ref p) (upd H p (.dK []))
def afo:TE:=λ_ H Q=>∀ p,H p=zy->Q (.ref p) (upd H p (.dT []))
theorem Mg:PE X (.Dict [] [] pos) afn:=λpins s σ H Q I h=>
 X9 #[.ref s.heap.objs.size,_,I.laid (a:=s.heap.objs.size) (o:=.dK []) (t':=s.toks) (λ_ _ q=>aK _ q) (au _) (CB s.heap I.big),rfl,h _ (I.aj.fresh (au _))]
theorem Mh:PE X (.Dict [] [] pos) afo:=λpins s σ H Q I h=>
 X9 #[.ref s.heap.objs.size,_,I.laid (a:=s.heap.objs.size) (o:=.dT []) (t':=s.toks) (λ_ _ q=>aK _ q) (au _) (Mf s.heap I.big),rfl,h _ (I.aj.fresh (au _))]
noncomputable def Wq:List (TE×TE)->St->Hp->(List (V×V)->Hp->uu)->uu
 |[],_,H,Q=>Q [] H
 |(tk,tv)::r,σ,H,Q=>tk σ H λx H1=>tv σ H1 λy H2=>Wq r σ H2 λps H3=>Q ((x,y)::ps) H3
abbrev VV:List (V×V)->List (kz×kz)->uu:=Paired λp q=>RelV p.1 q.1 /\ RelV p.2 q.2
def HS (X:Cx) (pos:Pos) (keys:List (Option Expr)) (values:List Expr) (tF:List (TE×TE)):uu:=
 ∀ (pins:List (Addr×Obj)) (s:Shared) (σ:St) (H:Hp) (Q:List (V×V)->Hp->uu),Inv X pins σ H s->Wq tF σ H Q ->
  wpAny ze X.A (evalPairs (pairTrees keys values X.env pos)) (λvs s'=>∃ ps H',Inv X pins σ H' s' /\ VV ps vs /\ Q ps H') X.xe s
theorem Gs:HS X pos [] [] []:=λpins s σ H Q I h=>pairTrees_nil_walk #[[],H,I,.nil,h]
theorem CC {k v:Expr}{ks:List (Option Expr)}{vs:List Expr}{tk tv:TE}{tF:List (TE×TE)}(hk:PE X k tk) (hv:PE X v tv) (hr:HS X pos ks vs tF) :
 HS X pos (some k::ks) (v::vs) ((tk,tv)::tF):=λpins s σ H Q I h=>
 pairTrees_cons_walk (tE (hk pins s σ H _ I h) λu s1 x H1 I1 rx q1=>tE (hv pins s1 σ H1 _ I1 q1) λw2 s2 y H2 I2 ry q2=>tP (hr pins s2 σ H2 _ I2 q2) λws s3 ps H3 I3 rel q3=>#[(x,y)::ps,H3,I3,.cons #[rx,ry] rel,q3])
def yX (af more:List (Key×V)):List (Key×V):=more.foldl (λacc kv=>putK acc kv.1 kv.2) af
theorem KV.merge:∀ {more:List (Key×V)}{rs:List (Key×kz)}{af:List (Key×V)}{vs:List (Key×kz)},KV more rs->KV af vs->KV (yX af more) (merged vs rs):=by
 intro more rs af vs r;unfold KV at r;induction r generalizing af vs with
 |nil=>intro q;exact q
 |@cons p q ps qs h t ih=>
   intro r0;have e:KV (putK af p.1 p.2) (stored vs q.1 q.2):=by
    have:=r0.put p.1 h.2;rw[<-h.1];exact this
   exact ih e
theorem AU:∀ (more af:List (Key×V)),(yX af more).length<=af.length+more.length:=by
 intro l_;induction l_ with
 |nil=>(intro af;show af.length<=af.length+0;lia)
 |cons p r aq=>
   intro af;have h1:=aq (putK af p.1 p.2);have h2:=iW af p.1 p.2;show (yX (putK af p.1 p.2) r).length<=_;rw[bp];lia
theorem Fb:∀ {af:List (Key×V)}{ws:List (kz×kz)},VV (af.map λkv=>(kV kv.1,kv.2)) ws->∃ rs,Carries (dt P w) ws rs /\ KV af rs:=by
 intro l_;induction l_ with
 |nil=>(intro _ r;rw[wz]at r;cases r;exact#[[],True.intro,.nil])
 |cons p af aq=>
   intro _ r;rw[bh]at r;cases r with
   |@cons a b as bs h t=>
     let#[rs,c,q]:=aq t;let#[b1,b2]:=b;exact#[(p.1,b2)::rs,#[Be h.1,rfl,c],.cons #[rfl,h.2] q]
def afp (tF:List (TE×TE)):TE:=λσ H Q=>∀ p,H p=zy->Wq tF σ (upd H p (.dK [])) λps H2=>H2 p=some (.dK []) /\ ∃ af:List (Key×V),ps=af.map (λkv=>(kV kv.1,kv.2)) /\ af.length<=15 /\ Q (.ref p) (upd H2 p (.dK (yX [] af)))
theorem Gu {keys:List (Option Expr)}{values:List Expr}{tF:List (TE×TE)}(h:HS X pos keys values tF) (QB:keys.all (·.isSome)=zO) (hl:keys.length=values.length) (h0:keys≠[])
 (afq:keys.length<=15):PE X (.Dict keys values pos) (afp tF):=by
 intro pins s σ H Q I q;have hn:=I.aj.fresh (au s.heap.objs.size);have I1:=I.laid (a:=s.heap.objs.size) (o:=.dK []) (h':=s.heap.push { cls:=.type "dict",data:=.dict #[] }) (t':=s.toks) (λ_ _ q=>aK _ q) (au _) (CB s.heap I.big);refine wpAny_Dict_walk (knd:=dt X.prog X.w) QB hl h0 afq (tP (h pins _ σ _ _ I1 (q _ hn)) λws s2 ps H2 I2 rel hh=>?_);let#[e,af,ep,lk,q2]:=hh;subst ep;let#[rs,c,rk]:=Fb (P:=X.prog) (w:=X.w) rel;let#[z,hd,uv,r0,dd]:=Mc I2.aj e;cases r0;refine#[rs,c,dd,λh' qh hs=>#[.ref s.heap.objs.size,_,?_,rfl,q2]];have hz:(yX [] af).length<=sizeLine:=by
  have h1:=AU af [];rw[kK]at h1;rw[bH];lia
 have he:∃ q,h'.get? s.heap.objs.size=some q:=let ⟨q,_,_,hq,_⟩:=qh;#[q,hq]
 exact mn I2 (by rw[e];exact True.intro) hs he (Fa hz hd (rk.merge .nil) qh)
structure M2 (X:Cx) (o:Expr) (m:Str) (apos:Pos) (e f:Expr) (aV:Pos):uu where
 base:attributeBase o m X.env (eval o X.env)=eval o X.env
 abg:((backTo aV (starEach [e,f] X.env)).all (λx=>!x.1)&&(backToKw aV (keywordEach [] X.env)).all (λx=>x.1.isSome)
  && decide (([e,f]:List Expr).length+([]:List Keyword).length+(if ([]:List Keyword).isEmpty then 0 else 1)<30))=zO
 line:(apos.endLine==aV.line)=zO
 trees:backTo aV (starEach [e,f] X.env)=[zac,(zw,eval f X.env)]
def Wr (H:Hp) (a:Addr):uu:=(∃ af,Rd H a zcB) \/ ∃ af,Rd H a (.dT af)
theorem Fc (I:Inv X pins σ H s) (d:Wr H a) :
 s.TypeIs za3 "dict" /\ (∀ b,Value.ref a=.ref b->∃ ob,s.heap.get? b=some ob /\ ob.dict=zy) /\ (a==sysModules)=zw:=by
 rcases d with⟨af,e⟩|⟨af,e⟩
 .let#[_,hd,vs,_,dd]:=Ct I.aj e;refine#[dd.typeIs,λb q=>?_,hd];cases q;let#[ob,_,_,h1,h2,_]:=dd;exact#[ob,h1,h2.2.1]
 .let#[_,hd,xs,_,dd]:=Cu I.aj e;refine#[dd.typeIs,λb q=>?_,hd];cases q;let#[ob,_,_,h1,h2,_]:=dd;exact#[ob,h1,h2.2.1]
section
variable {y d:V} {r:kz} {o:Option V} 
end
section
variable {o f:Expr} {aV:Pos} {td ty tx:TE}
end
section
variable {af:List (Key × V)} 
end
section
variable {y:V} 
end
end L2
namespace L2.DL
noncomputable def nL:Key->PyData
 |.inl i=>.int i
 |.inr x=>.str x
mutual
noncomputable def toPy:D->PyData
 |.non=>.none
 |.bl b=>.bool b
 |.int i=>.int i
 |.str x=>.str x
 |.tup l=>.tuple (a6 l)
 |.lst l=>.list (a6 l)
 |.ai l=>.dict (bB l)
noncomputable def a6:List D->List PyData
 |[]=>[]
 |d::l=>toPy d::a6 l
noncomputable def bB:List (Key×D)->List (PyData×PyData)
 |[]=>[]
 |(k,d)::l=>(nL k,toPy d)::bB l
end
theorem mS {h:Heap}:∀ {es:List DictEntry}{vs:List (Key×kz)}{l:List (Key×D)}{af:List (Key×V)},PySem.Pairs (dt X.prog X.w) es vs->KV af vs->aI F l af->ReadsAll h (es.map (·.key)) ((bB l).map (·.1)) []
 | _,_,[],_,p,k,d=>by
   cases (show _=[] from d);cases k;cases p;exact .nil
 | _,_,(k,x)::l,_,p,q,d=>by
   let#[v,r,e,_,d2]:=d;subst e;cases q with
   |cons q1 q2=>
     cases p with
     |@cons de _ _ _ p1 p2 p3=>
       have ih:=mS (h:=h) p3 q2 d2;have e1:=q1.1;simp only at e1;rw[<-e1]at p1;have hk:Reads h de.key (nL k) []:=by
        rcases gq (show sJ k de.key=true from p1) with⟨i,t,e2,e3⟩|⟨y,t,e2,e3⟩
        .rw[e2,e3];exact .int i t
        .rw[e2,e3];exact .str y t
       exact ReadsAll.cons hk ih
mutual
theorem gG (I:Inv X pins σ H s) (sub:Sub F H):∀ {d:D}{v:V}{u:kz},Den F d v->RelV v u->∃ as,Reads s.heap u (toPy d) as
 |.non,_,_,h,r=>by cases (show _=V.non from h);cases r;exact#[[],.none]
 |.bl b,_,_,h,r=>by cases (show _=V.bl b from h);cases r;exact#[[],.bool b]
 |.int i,_,_,h,r=>by cases (show _=V.int i from h);let#[t,rfl]:=r;exact#[[],.int i t]
 |.str x,_,_,h,r=>by cases (show _=V.str x from h);let#[t,rfl]:=r;exact#[[],.str x t]
 | .tup l,_,_,h,r=>by
   let#[a,vs,rfl,h1,h2]:=h;cases r;let#[_,its,rv,ob,e1,e2,n,e3]:=(show a9 X.prog X.w H s.heap a (.tup vs) from I.aj a _ zba);let#[as,ra]:=jL I sub h2 rv;exact#[as,.tuple e1 e2 e3 (by simpa using ra)]
 | .lst l,_,_,h,r=>by
   let#[a,vs,rfl,h1,h2]:=h;cases r;let#[_,its,n,rv,e1]:=(show a9 X.prog X.w H s.heap a zbI from I.aj a _ zba);let#[as,ra]:=jL I sub h2 rv;exact#[a::as,.list e1 bz bz (by simpa using ra)]
 | .ai l,_,_,h,r=>by
   let#[a,af,rfl,h1,h2]:=h;cases r;let#[_,_,vs,rk,ob,es,ep,e1,e2,e3,_,pr,_]:=(show a9 X.prog X.w H s.heap a zcB from I.aj a _ zba);let#[as,ra]:=lS I sub h2 rk pr;exact#[a::[]++as,.dict e1 e2.1 e3 (mS (X:=X) pr rk h2) ra]
theorem jL (I:Inv X pins σ H s) (sub:Sub F H):∀ {l:List D}{vs:List V}{us:List kz},aw F l vs->Vals vs us->∃ as,ReadsAll s.heap us (a6 l) as
 |[],_,_,h,r=>by cases (show _=[] from h);cases r;exact#[[],.nil]
 | d::l,_,_,h,r=>by
   let#[v,t,e,h1,h2]:=h;subst e;cases r with
   |cons r1 r2=>
     let#[as,ra]:=gG I sub h1 r1;let#[bs,rb]:=jL I sub h2 r2;exact#[as++bs,.cons ra rb]
theorem lS (I:Inv X pins σ H s) (sub:Sub F H):∀ {l:List (Key×D)}{af:List (Key×V)}{vs:List (Key×kz)}{es:List DictEntry},aI F l af->KV af vs->PySem.Pairs (dt X.prog X.w) es vs->∃ as,ReadsAll s.heap (es.map (·.val)) ((bB l).map (·.2)) as
 |[],_,_,_,h,r,p=>by cases (show _=[] from h);cases r;cases p;exact#[[],.nil]
 | (k,d)::l,_,_,_,h,r,p=>by
   let#[v,t,e,h1,h2]:=h;subst e;cases r with
   |cons r1 r2=>
     cases p with
     |cons p1 p2 p3=>
       let#[as,ra]:=gG I sub h1 r1.2;let#[bs,rb]:=lS I sub h2 r2 p3;rw[<-p2]at ra;exact#[as++bs,.cons ra rb]
end
abbrev yY (ts:List Str):uu:=∀ t∈ts,t.length<=sizeLine
theorem Mi {h:Heap}{k:Key}{y:kz}(e:sJ k y=zO) (hs:(nL k).showable=zO) (hz:(nL k).shown.length<=sizeLine) (n:Nat):ReprK X.prog X.w [] h n y (nL k).shown:=by
 rcases gq e with⟨i,t,e2,e3⟩|⟨x,t,e2,e3⟩
 .subst e2;subst e3;exact .of_is (ReprIs.int t (by simpa[nL,PyData.showable] using hs)) _ _ _
 .subst e2;subst e3;exact .of_is (ReprIs.str x t (by simpa only[nL,PyData.shown] using hz)) _ _ _
theorem mT {h:Heap}{n:Nat}:∀ {es:List DictEntry}{vs:List (Key×kz)}{l:List (Key×D)}{af:List (Key×V)},PySem.Pairs (dt X.prog X.w) es vs->KV af vs->aI F l af->PyData.showableKv (bB l)=zO->yY zbH ->
 ReprAllK X.prog X.w [] h n (es.map (·.key)) (PyData.shownAll ((bB l).map (·.1)))
 | _,_,[],_,p,k,d,_,_=>by
   cases (show _=[] from d);cases k;cases p;exact .nil
 | _,_,(k,x)::l,_,p,q,d,hs,hz=>by
   let#[v,r,e,_,d2]:=d;subst e;erw[bB,PyData.showableKv,ao]at hs;erw[bB,PyData.shownKv]at hz;have z1:=hz _ (bK ..);rw[pF,pF]at z1;cases q with
   |cons q1 q2=>
     cases p with
     |@cons de _ _ _ p1 p2 p3=>
       have e1:=q1.1;simp only at e1;rw[<-e1]at p1;erw[bB,bh,PyData.shownAll];exact .cons (Mi (show sJ k de.key=zO from p1) hs.1.1 zb n) (mT p3 q2 d2 hs.2 λt m=>hz t (bL _ m))
mutual
theorem CD (I:Inv X pins σ H s) (sub:Sub F H):∀ {d:D}{v:V}{u:kz},Den F d v->RelV v u->(toPy d).showable=zO->(toPy d).shown.length<=sizeLine->∃ bs,ReadAtMost s.heap (toPy d).depth bs /\ ReprK X.prog X.w bs s.heap (toPy d).depth u (toPy d).shown
 |.non,_,_,h,r,_,_=>by cases (show _=V.non from h);cases r;exact#[[],(λ_ z=>nomatch z),.of_is ReprIs.none _ _ _]
 |.bl b,_,_,h,r,_,_=>by cases (show _=V.bl b from h);cases r;exact#[[],(λ_ z=>nomatch z),.of_is (ReprIs.bool b) _ _ _]
 |.int i,_,_,h,r,hs,_=>by cases (show _=V.int i from h);let#[t,rfl]:=r;exact#[[],(λ_ z=>nomatch z),.of_is (ReprIs.int t (of_decide_eq_true hs)) _ _ _]
 |.str x,_,_,h,r,_,hz=>by cases (show _=V.str x from h);let#[t,rfl]:=r;exact#[[],(λ_ z=>nomatch z),.of_is (ReprIs.str x t hz) _ _ _]
 | .tup l,_,_,h,r,hs,hz=>by
   let#[as,rd]:=gG I sub h r;let#[a,vs,rfl,h1,h2]:=h;cases r;let#[_,its,rv,ob,e1,e2,n,e3]:=(show a9 X.prog X.w H s.heap a (.tup vs) from I.aj a _ zba);have nM:(tupleText zbg).length<=sizeLine:=by simpa only[toPy,PyData.shown] using hz
   let#[bs,hb,hk]:=jD I sub h2 rv (by simpa[toPy,PyData.showable] using hs) λt m=>br (Ya m) nM;erw[toPy,PyData.depth,PyData.shown]at rd ⊢;exact#[a::bs,ReadAtMost.cons rd (t8 _) hb,ReprK.tuple e1 e2 e3 (wg rd (kJ _) hb) (by simpa using hk)]
 | .lst l,_,_,h,r,hs,hz=>by
   let#[as,rd]:=gG I sub h r;let#[a,vs,rfl,h1,h2]:=h;cases r;let#[_,its,n,rv,e1]:=(show a9 X.prog X.w H s.heap a zbI from I.aj a _ zba);have nM:(listText zbg).length<=sizeLine:=by simpa only[toPy,PyData.shown] using hz
   let#[bs,hb,hk]:=jD I sub h2 rv (by simpa[toPy,PyData.showable] using hs) λt m=>br (Yb m) nM;erw[toPy,PyData.depth,PyData.shown]at rd ⊢;refine#[a::bs,ReadAtMost.cons rd (t8 _) hb,?_];cases its with
   |nil=>
     have e:a6 l=[]:=by
      cases l with
      |nil=>rfl
      |cons x l=>let#[v,t,e,_]:=h2;subst e;cases rv
     rw[e];erw[PyData.shownAll,Yc];exact ReprK.listEmpty e1 bz bz
   |cons x its=>exact ReprK.list e1 bz bz (wg rd (kJ _) hb) (by simpa using hk.length_eq) λi y q=>hk.item i y (by simpa using q)
 | .ai l,_,_,h,r,hs,hz=>by
   let#[as,rd]:=gG I sub h r;let#[a,af,rfl,h1,h2]:=h;cases r;let#[_,hy,vs,rk,ob,es,ep,e1,e2,e3,_,pr,_]:=(show a9 X.prog X.w H s.heap a zcB from I.aj a _ zba);have nM:(dictText zbH).length<=sizeLine:=by simpa only[toPy,PyData.shown] using hz
   have fit:yY zbH:=λt m=>br (Yd m) nM;have yZ:PyData.showableKv (bB l)=zO:=by simpa[toPy,PyData.showable] using hs
   let#[bs,hb,hk]:=mU I sub h2 rk pr yZ fit;have hK:=mT (X:=X) (h:=s.heap) (n:=PyData.depthKv (bB l)) pr rk h2 yZ fit;erw[toPy,PyData.depth,PyData.shown]at rd ⊢;rw[K6];exact#[a::bs,ReadAtMost.cons rd (t8 _) hb,ReprK.dict e1 e2.1 e3 hy (wg rd (kJ _) hb) (ZW _ _ _ (hK.more_le (λ_ z=>by cases z) (au _)) hk)]
theorem jD (I:Inv X pins σ H s) (sub:Sub F H):∀ {l:List D}{vs:List V}{us:List kz},aw F l vs->Vals vs us->PyData.showableAll (a6 l)=zO->yY zbg->∃ bs,ReadAtMost s.heap (PyData.depthAll (a6 l)) bs /\ ReprAllK X.prog X.w bs s.heap (PyData.depthAll (a6 l)) us zbg
 |[],_,_,h,r,_,_=>by cases (show _=[] from h);cases r;exact#[[],(λ_ z=>nomatch z),.nil]
 | d::l,_,_,h,r,hs,hz=>by
   let#[v,t,e,h1,h2]:=h;subst e;erw[a6,PyData.showableAll,ao]at hs;erw[a6,PyData.shownAll]at hz;cases r with
   |cons r1 r2=>
     let#[as,ha,ka]:=CD I sub h1 r1 hs.1 (hz _ (bK ..));let#[bs,hb,kb]:=jD I sub h2 r2 hs.2 λt m=>hz t (bL _ m);erw[a6,PyData.depthAll,PyData.shownAll];have la:=Nat.le_max_left (toPy d).depth (PyData.depthAll (a6 l));have lb:=Nat.le_max_right (toPy d).depth (PyData.depthAll (a6 l));exact#[as++bs,(ha.mono la).append (hb.mono lb),.cons ((ka.more λ_ m=>dM _ m).level_le la) (kb.more_le (λ_ m=>cD _ m) lb)]
theorem mU (I:Inv X pins σ H s) (sub:Sub F H):∀ {l:List (Key×D)}{af:List (Key×V)}{vs:List (Key×kz)}{es:List DictEntry},aI F l af->KV af vs->PySem.Pairs (dt X.prog X.w) es vs->PyData.showableKv (bB l)=zO->yY zbH ->
 ∃ bs,ReadAtMost s.heap (PyData.depthKv (bB l)) bs /\ ReprAllK X.prog X.w bs s.heap (PyData.depthKv (bB l)) (es.map (·.val)) (PyData.shownAll ((bB l).map (·.2)))
 |[],_,_,_,h,r,p,_,_=>by cases (show _=[] from h);cases r;cases p;exact#[[],(λ_ z=>nomatch z),.nil]
 | (k,d)::l,_,_,_,h,r,p,hs,hz=>by
   let#[v,t,e,h1,h2]:=h;subst e;erw[bB,PyData.showableKv,ao]at hs;erw[bB,PyData.shownKv]at hz;have z1:=hz _ (bK ..);rw[pF,pF]at z1;cases r with
   |cons r1 r2=>
     cases p with
     |cons p1 p2 p3=>
       let#[as,ha,ka]:=CD I sub h1 r1.2 hs.1.2 zb;let#[bs,hb,kb]:=mU I sub h2 r2 p3 hs.2 λt m=>hz t (bL _ m);rw[<-p2]at ka;erw[bB,PyData.depthKv,bh,PyData.shownAll];have la:(toPy d).depth<=max (max (nL k).depth (toPy d).depth) (PyData.depthKv (bB l)):=by lia
       have lb:PyData.depthKv (bB l)<=max (max (nL k).depth (toPy d).depth) (PyData.depthKv (bB l)):=by lia
       exact#[as++bs,(ha.mono la).append (hb.mono lb),.cons ((ka.more λ_ m=>dM _ m).level_le la) (kb.more_le (λ_ m=>cD _ m) lb)]
end
section
variable {a b:Expr} {mb mc:DE W} {p p2:Pos}
def afr (vs:List V) (H:Hp) (Q:VK):uu:=∃ (F:Hp) (d:D) (v:V),vs=[v] /\ Sub F H /\ Den F d v /\ (toPy d).showable=zO /\ (toPy d).depth<=60 /\ (toPy d).shown.length<=sizeLine /\ Q (.str (toPy d).shown) H
theorem JA {k:Nat}(hr:bV k X.A):dD X (.builtin "repr") afr:=by
 intro pins s σ H xs us Q I rv h;let#[F,d,v,rfl,sub,hd,h1,h2,h3,q]:=h;let#[u,rfl,ru]:=Vals.one rv;have fin:∀ (t:Tok) (tk:Nat),EP X pins σ Q (.str (toPy d).shown t) { s with toks:=tk }:=λt tk=>#[.str _,H,I.tok tk,#[t,rfl],q];have HU:∀ (t':Str),t'=(toPy d).shown->∀ h' u tk,(∀ b o,s.heap.get? b=some o->h'.get? b=some o)->∃ x t,Value.str t' u=.str x t /\ EP X pins σ Q (.str t' u) { s with heap:=h',toks:=tk }:=λt' et h' t tk hk=>by
  subst et;exact#[_,_,rfl,.str _,H,I.kept (t':=tk) hk,#[t,rfl],q]
 have hu:=hr.units;cases d with
 |non=>cases (show v=.non from hd);cases ru;exact P.repr_of_none (fin _ _)
 |bl b=>cases (show v=.bl b from hd);cases ru;exact P.repr_of_bool (fin _ _)
 |int i=>cases (show v=.int i from hd);let#[t,rfl]:=ru;exact P.repr_of_int (of_decide_eq_true h1) (fin _ _)
 |str x=>cases (show v=.str x from hd);let#[t,rfl]:=ru;exact P.repr_of_str (hsz:=h3) (fin _ _)
 |tup l=>
   let#[as,rd]:=gG I sub hd ru;let#[a,vs,rfl,k1,k2]:=hd;cases ru;let#[_,its,rv,ob,e1,e2,n,e3]:=(show a9 X.prog X.w H s.heap a (.tup vs) from I.aj a _ (sub _ _ k1));have nM:(tupleText zbg).length<=sizeLine:=by simpa only[toPy,PyData.shown] using h3
   let#[bs,hb,hk]:=jD I sub k2 rv (by simpa[toPy,PyData.showable] using h1) λt m=>br (Ya m) nM;erw[toPy,PyData.depth]at rd h2;exact Kb zb #[ob,e1,e2] PySem.F.slot_tuple_repr (call_tuple_reprK e1 e2 e3 (wg rd (kJ _) hb) (by simpa using hk) hr.gd (λb _=>Clear.nil b) (by show X.A.units+1+_<cLine;lia) (λ_ _ z=>z) (HU _ (by erw[toPy,PyData.shown])) nM)
 |lst l=>
   let#[as,rd]:=gG I sub hd ru;let#[a,vs,rfl,k1,k2]:=hd;cases ru;let#[_,its,n,rv,e1]:=(show a9 X.prog X.w H s.heap a zbI from I.aj a _ (sub _ _ k1));have nM:(listText zbg).length<=sizeLine:=by simpa only[toPy,PyData.shown] using h3
   let#[bs,hb,hk]:=jD I sub k2 rv (by simpa[toPy,PyData.showable] using h1) λt m=>br (Yb m) nM;erw[toPy,PyData.depth]at rd h2;refine Kb zb #[_,e1,rfl] PySem.F.slot_list_repr.toG ?_;cases its with
   |nil=>
     have e:a6 l=[]:=by
      cases l with
      |nil=>rfl
      |cons x l=>let#[v,t,e,_]:=k2;subst e;cases rv
     exact call_list_repr_empty #[_,e1,rfl] e1 bz (HU "[]" (by erw[toPy,PyData.shown,e,PyData.shownAll,Yc]) s.heap _ _ λ_ _ z=>z)
   |cons x its=>exact call_list_reprK e1 bz bz (wg rd (kJ _) hb) (by simpa using hk.length_eq) (λi y q=>hk.item i y (by simpa using q)) hr.gd (λb _=>Clear.nil b) (by show X.A.units+1+_<cLine;lia) (λ_ _ z=>z) (HU _ (by erw[toPy,PyData.shown])) nM
 |ai l=>
   let#[as,rd]:=gG I sub hd ru;let#[a,af,rfl,k1,k2]:=hd;cases ru;let#[_,hy,vs,rk,ob,es,ep,e1,e2,e3,_,pr,_]:=(show a9 X.prog X.w H s.heap a zcB from I.aj a _ (sub _ _ k1));have nM:(dictText zbH).length<=sizeLine:=by simpa only[toPy,PyData.shown] using h3
   have fit:yY zbH:=λt m=>br (Yd m) nM;have yZ:PyData.showableKv (bB l)=zO:=by simpa[toPy,PyData.showable] using h1
   let#[bs,hb,hk]:=mU I sub k2 rk pr yZ fit;have hK:=mT (X:=X) (h:=s.heap) (n:=PyData.depthKv (bB l)) pr rk k2 yZ fit;erw[toPy,PyData.depth]at rd h2;rw[K6]at nM;exact Kb zb #[ob,e1,e2.1] PySem.F.slot_dict_repr (call_dict_reprK e1 e2.1 e3 hy (wg rd (kJ _) hb) (ZW _ _ _ (hK.more_le (λ_ z=>by cases z) (au _)) hk) hr.gd (λb _=>Clear.nil b) (by show X.A.units+1+_<cLine;lia) (λ_ _ z=>z) (HU _ (by erw[toPy,PyData.shown,K6])) nM)
def vF (d:D):Bool:=(toPy d).showable&&decide ((toPy d).depth<=60)&&decide ((toPy d).shown.length<=sizeLine)
def rR (m:DE W):DE W:=λenv bx=>fC zI λw bx1=>match w with
 |.d d=>if vF d=zO then .val (.d (.str (toPy d).shown)) bx1 else .bad
 |_=>.bad
theorem OD {k:Nat}(hr:bV k X.A) (hg:Gl X "repr") (hm:X.mg "repr"=zy) (ha:PD X T Z a ma) (he:starEach [a] X.env=zaz::starEach [] X.env:=by rfl) :
 PD X T Z (.Call (.Name "repr" p) [a] [] pos) (rR ma):=by
 refine PE.imp (iU (JA hr) hg hm z7 (f8 ha ic he) za za he (by rfl)) λσ H Q=>x4 λF r env bx R h=>?_;refine#[F,r,env,bx,R,End.bind h λw bx1 F1 r1 v H1 g1 R1 d1 h1=>?_];cases w with
 |b _=>exact h1.elim
 |s _=>exact h1.elim
 |x _=>exact h1.elim
 |t _=>exact h1.elim
 |m _=>exact h1.elim
 |d d=>
   simp only at h1;split at h1
   .ext hc;unfold vF at hc;rw[ao,ao]at hc;exact#[F1,d,v,rfl,R1.fh,d1,hc.1.1,of_decide_eq_true hc.1.2,of_decide_eq_true hc.2,h1 F1 r1 _ H1 zaa R1 bz]
   .exact h1.elim
end
theorem jh (I:Inv X pins σ H s) (sub:Sub F H) (h:n8 F H d v) (r:RelV v u):∃ as,Reads s.heap u (toPy d) as:=by
 cases d with
 |lst l=>
   let#[a,vs,rfl,h1,h2]:=h;cases r;let#[_,its,n,rv,e1]:=(show a9 X.prog X.w H s.heap a zbI from I.aj a _ h1);let#[as,ra]:=jL I sub h2 rv;exact#[a::as,.list e1 bz bz (by simpa using ra)]
 |ai l=>
   let#[a,af,rfl,h1,h2]:=h;cases r;let#[_,_,vs,rk,ob,es,ep,e1,e2,e3,_,pr,_]:=(show a9 X.prog X.w H s.heap a zcB from I.aj a _ h1);let#[as,ra]:=lS I sub h2 rk pr;exact#[a::[]++as,.dict e1 e2.1 e3 (mS (X:=X) pr rk h2) ra]
 |tup l=>exact gG (d:=.tup l) I sub h r
 |non=>exact gG (d:=.non) I sub h r
 |bl b=>exact gG (d:=.bl b) I sub h r
 |int i=>exact gG (d:=.int i) I sub h r
 |str x=>exact gG (d:=.str x) I sub h r
def pO (d:D):Bool:=(toPy d).canLay0&&decide ((toPy d).depth<=60)
def eqv (x y:D):Bool:=PyData.eqv (toPy x) (toPy y)
theorem mV (h:pO d=zO):(toPy d).canLay0=zO /\ (toPy d).depth<=60:=by
 unfold pO at h
 rwa [ao,decide_eq_true_eq]at h
def HV (neg:Bool):R2:=λx y H Q=>∃ F dx dy,Sub F H /\ n8 F H dx x /\ n8 F H dy y /\ pO dx=zO /\ pO dy=zO /\ Q (.bl (if neg then !eqv dx dy else eqv dx dy)) H
theorem Te (hu:X.A.units+100<cLine):aO X (compareOp .NotEq) (HV zO):=by
 intro pins s σ H x y v u Q I rx ry h;let#[F,dx,dy,sub,hx,hy,ox,oy,q]:=h;let#[as,ra]:=jh I sub hx rx;let#[bs,rb]:=jh I sub hy ry;let#[x1,x2]:=mV ox;let#[y1,y2]:=mV oy;exact SeqAt.compareNe_reads ra rb x1 y1 zb #[.bl _,H,I,rfl,q]
def ux (neg:Bool) (x y:D):Option Res:=if pO x&&pO y then some (.old (.bl (if neg then !eqv x y else eqv x y))) else zy
theorem afs (neg:Bool):bS (HV neg) (ux neg):=by
 intro F H x y v w Q s sub rx ry e k;unfold ux at e;split at e
 .ext c;rw[ao]at c;cases e;exact#[F,x,y,sub,rx,ry,c.1,c.2,k _ _ #[rfl,rfl]]
 .cases e
noncomputable def ck:D->D->Option Res
 |.int i,.int j=>some (.old (.bl (decide (i=j))))
 |.tup l,.tup []=>some (.old (.bl l.isEmpty))
 |_,_=>zy
def bc:D->D->Option Res
 |.int i,.int j=>some (.old (.bl (!decide (i=j))))
 |.str i,.str j=>some (.old (.bl (!decide (i=j))))
 |.lst l,.lst []=>some (.old (.bl (!l.isEmpty)))
 |x,y=>ux zO x y
theorem Tf {x y:D}{s:Res}(h:bc x y=some s):Q9 x y=some s \/ ux zO x y=some s:=by
 unfold bc at h;split at h
 .exact .inl h
 .exact .inl h
 .exact .inl h
 .exact .inr h
theorem Tg (hu:X.A.units+100<cLine):aO X (compareOp .Eq) (aa6 X.K):=UD.or (S6 zb)
theorem Th (hu:X.A.units+100<cLine):aO X (compareOp .NotEq) (λx y H Q=>HP X.K x y H Q \/ HV zO x y H Q):=(Oy zb).or (Te hu)
theorem aft:bS (aa6 K) ck:=by
 intro F H x y v w Q s sub rx ry e k;unfold ck at e;split at e
 .ext i j;cases e;cases (show v=.int i from rx);cases (show w=.int j from ry);exact .inl #[rfl,k _ _ #[rfl,by show _=_;simp]]
 .ext l;cases e;let#[a,vs,rfl,h1,h2]:=rx;let#[b,ws,rfl,h3,h4]:=ry;cases (show ws=[] from h4);exact .inr #[a,b,vs,rfl,rfl,.of zba,.of (sub _ _ h3),k _ _ #[rfl,by show _=_;rw[h2.isEmpty]]]
 .cases e
theorem afu:bS (λx y H Q=>HP K x y H Q \/ HV zO x y H Q) bc:=λF H x y v w Q s sub rx ry e k=>(Tf e).imp (λe=>afb F H x y v w Q s sub rx ry e k) λe=>afs zO F H x y v w Q s sub rx ry e k
end L2.DL
namespace HT
noncomputable def lexLe:List Int->List Int->Bool
 |[],_=>zO
 |_::_,[]=>zw
 |x::xs,y::ys=>if x=y then lexLe xs ys else decide (x<=y)
theorem Mj (A:Around) (s:Shared) (a:Int) (t:Tok) (c:Int) (u:Tok) (prog:Program) (w:World) (E:kz->Shared->uu) (Q:kz->Shared->uu) (h:Q (.bool (decide (a<=c))) s) :
 wpAny zg A (richCompare .LtE (.int a t) (.int c u)) Q E s:=(acG h:wpAny zg A (compareOp .LtE (.int a t) (.int c u)) Q E s)
section
open PySem.SeqAt
open PySem.AutoSeq1 (wpAny_loadPart')
open PySem.MeetsSeq PySem.MeetsSeq2 PySem.MeetsSeq3
theorem AV (l b:Addr) (items items2:Array kz) (n n2:Nat) (dd qb:Option Addr) (sl qc:Array (Option kz)) (ns ms:List Int) (hi:IntsAre items.toList ns) (hj:IntsAre items2.toList ms) :
 Meets (Builtin.«tuple.__le__» #[[.ref l,.ref b],[]])
  (λ_ R s=>s.heap.get? l=some { cls:=.type "tuple",dict:=dd,data:=.seq items n,slots:=sl } /\ s.heap.get? b=some { cls:=.type "tuple",dict:=qb,data:=.seq items2 n2,slots:=qc } /\
   R (.ok (.ret (.bool (lexLe ns ms)))) s):=
 .of_wp λprog w A R s h=>by
  let#[hp,g,d,tk,os]:=s;let#[hl,hb,h]:=h;have f2:=ZT;have z1:items.size=ns.length:=by rw[<-hi.length];simp
  have z2:items2.size=ms.length:=by rw[<-hj.length];simp
  wp_walk using wpAny_loadPart' hl,wpAny_loadPart' hb,XU _ (λrest b s'=>b.1=zy /\ s'=#[hp,g,d,tk,os] /\ ∃ (vs ws:List kz) (aU eN:List Int),rest=vs.zip ws /\
   IntsAre vs aU /\ IntsAre ws eN /\ aU.length+items2.size=eN.length+items.size /\ R (.ok (.ret (.bool (lexLe aU eN)))) #[hp,g,d,tk,os]) _
  case turn=>
   rintro⟨y,x⟩ rest b s' ⟨vk,rfl,vs,ws,aU,eN,hz,vm,ui,hlen,hR⟩;cases vm with
   |nil=>rw[Kv]at hz;cases hz
   |cons a t Qp=>
     cases ui with
     |nil=>rw[Yy]at hz;cases hz
     |cons c u Qq=>
       rw[wy]at hz;injection hz with Qr Qs;injection Qr with hy hx;subst hy hx;rw[show lexLe (a::_) (c::_)=if a=c then lexLe _ _ else decide (a<=c) from rfl]at hR;erw[bp]at hlen;let#[e,he,yD]:=Ce A.in1 #[hp,g,d,tk,os] a t c u;refine ae (he prog w _ _ ?_);cases e with
       |true=>
         rw[if_pos (yD.mp rfl)]at hR
         wp_walk
         exact#[rfl,rfl,_,_,_,_,Qs,Qp,Qq,by lia,hR]
       |false=>
         rw[if_neg (λq=>absurd (yD.mpr q) bY)]at hR;have Qt:=Mj A.in1 #[hp,g,d,tk,os] a t c u prog w
         wp_walk using Qt
         exact#[_,rfl,by simpa using hR]
  case fin=>
   rintro⟨b1,b2⟩ s' ⟨vk,rfl,vs,ws,aU,eN,hz,vm,ui,hlen,hR⟩;simp only at vk;subst vk;have hv:lexLe aU eN=decide (items.size<=items2.size):=by
    cases vm with
    |nil=>
      rw[show lexLe [] eN=true by cases eN<;>rfl];erw[kK]at hlen;exact(decide_eq_true zb).symm
    |cons a t hv=>
      cases ui with
      |nil=>
        erw[kK,bp]at hlen;exact(decide_eq_false zb).symm
      |cons c u hw=>
        rw[wy]at hz;cases hz
   rw[hv]at hR
   wp_walk
   exact#[_,rfl,by simpa[Builtin.Tuple.tupleCompareSizes] using hR]
  case h=>
   exact#[rfl,rfl,items.toList,items2.toList,ns,ms,rfl,hi,hj,by lia,h]
end
section
theorem Fd {l b:Addr}{items2:Array kz}{ms:List Int}(hl:IsTup s.heap l items) (hb:IsTup s.heap b items2) (hi:IntsAre items.toList ns) (hj:IntsAre items2.toList ms)
 (hu:A.units<cLine) (h:Q (.bool (lexLe ns ms)) s):wpAny zg A (compareOp .LtE (.ref l) (.ref b)) Q E s:=by
 let#[#[cls,dd,data,sl],ho,hc,n,hd]:=id hl;let#[#[Qu,qb,data2,qc],pJ,dQ,n2,hd2]:=id hb;simp only at hc hd dQ hd2;subst hc hd dQ hd2;exact XX (op:=.LtE) #[_,ho,rfl] #[_,pJ,rfl] PySem.F.slot_tuple_le PySem.F.entry_tuple_le (PySem.F.args_tuple_le_2 _ _) (AV l b items items2 n n2 dd qb sl qc ns ms hi hj)
  #[ho,pJ,show Value.bool (lexLe ns ms)≠Value.notImplemented /\ Q (.bool (lexLe ns ms)) s from#[(λx=>nomatch x),h]] hu
open PySem.AutoSeq1 (wpAny_loadPart')
end
end HT
namespace L2.DL
section
variable {a b:Expr} {mb mc:DE W} {p p2:Pos}
def abh:R2:=λx y H Q=>rI vh (λi j=>.int (i*j)) x y H Q \/ aaA x y H Q
theorem OE:aO X (binaryOp .Mult) abh:=Sn.or SD
noncomputable def bX:D->D->Option Res
 |.int i,.int j=>if vh i j then some (.old (.int (i*j))) else zy
 |.lst l,.int k=>if -(2 ^ 63)<=k /\ k<2 ^ 63 /\ l.length*k.toNat<=sizeLine then some (.lst (List.replicate k.toNat l).flatten) else zy
 |_,_=>zy
theorem aw.rep {F:Hp}{l:List D}{vs:List V}(h:aw F l vs):∀ k:Nat,aw F (List.replicate k l).flatten (List.replicate k vs).flatten
 |0=>rfl
 | k+1=>by
   rw[t9,t9,uW,uW];exact h.append (h.rep k)
theorem afv:bS abh bX:=by
 intro F H x y v w Q s sub rx ry e k;unfold bX at e;split at e
 .ext i j;split at e
  .ext hc;cases e;exact .inl #[i,j,rx,ry,hc,k _ _ #[rfl,rfl]]
  .cases e
 .ext l j;split at e
  .ext hc;cases e;let#[a,vs,rfl,h1,h2]:=rx;exact .inr (#[a,j,vs,rfl,ry,h1,hc.1,hc.2.1,by rw[<-h2.length];exact hc.2.2,λp hp=>k _ _ #[p,_,rfl,hp,rfl,h2.rep _]])
  .cases e
 .cases e
def Ws (K:PySem.W.Frag):R2:=λx y H Q=>∃ (a b:Addr) (ns ms:List Int),x=.ref a /\ y=.ref b /\ aY K H a zb5 /\ aY K H b (ms.map V.int) /\ Q (.bl (HT.lexLe ns ms)) H
theorem Ti (hu:X.A.units<cLine):aO X (compareOp .LtE) (Ws X.K):=by
 intro pins s σ H x y v u Q I rx ry h;let#[a,b,ns,ms,rfl,rfl,ha,hb,q]:=h;cases rx;cases ry;let#[its,r1,p1,_]:=I.tuple ha;let#[nD,r2,p2,_]:=I.tuple hb;exact HT.Fd p1 p2 (iJ r1) (iJ r2) hu #[.bl (HT.lexLe ns ms),H,I,rfl,q]
theorem Tj (hu:X.A.units<cLine):aO X (compareOp .LtE) (λx y H Q=>ki (λi j=>.bl (decide (i<=j))) x y H Q \/ Ws X.K x y H Q):=UF.or (Ti hu)
def b9:D->D->Option Res
 |.int i,.int j=>some (.old (.bl (decide (i<=j))))
 |.tup a,.tup b=>(intsOf a).bind λns=>(intsOf b).map λms=>.old (.bl (HT.lexLe ns ms))
 |_,_=>zy
theorem afw:bS (λx y H Q=>ki (λi j=>.bl (decide (i<=j))) x y H Q \/ Ws K x y H Q) b9:=by
 intro F H x y v w Q s sub rx ry e k;unfold b9 at e;split at e
 .ext i j;cases e;exact .inl #[i,j,rx,ry,k _ _ #[rfl,rfl]]
 .ext l l';cases e1:intsOf l with
  |none=>rw[e1]at e;cases e
  |some ns=>
    cases e2:intsOf l' with
    |none=>rw[e1,e2]at e;cases e
    |some ms=>
      rw[e1,e2]at e;cases e;let#[a,vs,rfl,h1,h2]:=rx;let#[b,ws,rfl,h3,h4]:=ry;have q1:=h2.ints e1;have q2:=h4.ints e2;subst q1 q2;exact .inr #[a,b,ns,ms,rfl,rfl,.of zba,.of (sub _ _ h3),k _ _ #[rfl,rfl]]
 .cases e
theorem JB {o:Expr}(ho:PD X T Z o ma) (ha:PD X T Z e mb)
 (vo:attributeBase o "append" X.env (eval o X.env)=eval o X.env:=by rfl)
 (vp:((backTo pos (starEach [e] X.env)).all (λx=>!x.1)&&(backToKw pos (keywordEach [] X.env)).all (λx=>x.1.isSome)
  && decide zbj)=zO:=by rfl)
 (hline:zcz=zO:=by rfl) (hs:starEach [e] X.env=zac::starEach [] X.env:=by rfl) :
 PD X T Z (.Call (.Attribute o "append" apos) [e] [] pos) (kU ma mb):=
 PE.imp (Ci yn Zz ZA mO ho (f8 ha ic hs) vo vp hline hs (by rfl)) λσ H Q h=>UR h
def tH (mo mi:DE W):DG:=λw env bx=>match mo env bx with
 | .val (.b n) bx1=>(match mi env bx1 with
   | .val (.d (.int k)) bx2=>(match w,bx2[n]? with
     |.d d,some (.lst l)=>(dE l.length k).map λj=>(env,bx2.set n (.lst (l.set j d)))
     |_,_=>zy)
   |_=>zy)
 |_=>zy
theorem OF {o i:Expr}{mo mi:DE W}(ho:PD X T Z o mo) (hi:PD X T Z i mi)
 (ha:∀ v,assign (.Subscript o i pos) X.env v=(do
  let ov <-holding [v] (eval o X.env)
  let iv <-holding [v,ov] (eval i X.env)
  standAt pos
  holding [v,ov,iv] (setItem ov iv v)
  release [v,ov,iv] []):=by intro _;rfl):ku X T (.Subscript o i pos) (tH mo mi):=by
 refine PG.imp (Sh ho hi LH ha) λv σ H Q=>x5 λF r env bx w R dw h=>?_;unfold tH at h;refine#[F,r,env,bx,R,?_];cases eo:mo env bx with
 |bad=>erw[eo]at h;exact h.elim
 |exc c bx1=>erw[eo]at h;exact h.elim
 |val ow bx1=>
   erw[eo]at h;intro F1 r1 ov H1 g1 R1 d1;cases ow with
   |d _=>exact h.elim
   |s _=>exact h.elim
   |x _=>exact h.elim
   |t _=>exact h.elim
   |m _=>exact h.elim
   |b n=>
     simp only at h;refine#[F1,r1,env,bx1,R1,?_];cases ei:mi env bx1 with
     |bad=>erw[ei]at h;exact h.elim
     |exc c bx2=>erw[ei]at h;exact h.elim
     |val iw bx2=>
       erw[ei]at h;intro F2 r2 iv H2 g2 R2 d2;cases iw with
       |b _=>exact h.elim
       |s _=>exact h.elim
       |x _=>exact h.elim
       |t _=>exact h.elim
       |m _=>exact h.elim
       |d id=>
         cases id with
         |int k=>
           simp only at h;let#[a,rfl,ha]:=g2.den d1;let#[c2,dQ,tm]:=R2.nF ha;rw[dQ]at h;cases w with
           |b _=>exact h.elim
           |s _=>exact h.elim
           |x _=>exact h.elim
           |t _=>exact h.elim
           |m _=>exact h.elim
           |d dd=>
             cases c2 with
             |ai _=>exact h.elim
             |dead=>exact h.elim
             |dT _=>exact h.elim
             |lst l=>
               simp only at h;cases ej:dE l.length k with
               |none=>rw[ej]at h;exact h.elim
               |some j=>
                 rw[ej]at h;let#[hF,vs,k1,k2]:=tm;refine#[a,vs,k,j,rfl,d2,k1,by rw[<-k2.length];exact ej,?_];have afx:Den F2 dd v:=Den.mono (g1.trans g2).s dd dw;exact h F2 r2 σ _ (g1.trans g2) (R2.write ha hF #[hF,_,fE,aw.set afx j k2])
         |_=>exact h.elim
noncomputable def kX (i:Nat):DE W:=λenv bx=>match env[i]? with
 | some (some (.b n))=>(match bx[n]? with
   |some (.lst l)=>.val (.d zQ) (bx.set n .dead)
   |some (.ai l)=>.val (.d (.ai l)) (bx.set n .dead)
   |_=>.bad)
 |_=>.bad
theorem Tk (i:Nat) (hN:X.N[i]?=some x:=by rfl) (hv:rD X.env.scope x:=by first|exact Or.inl bz|exact Or.inr (Or.inl bz)|exact Or.inr (Or.inr bz)) (hd:(x==("__debug__":Str))=zw:=by decide)
 (dg:(x==("__classdict__":Str))=zw:=by decide):PD X T Z zcq (kX i):=by
 refine PE.imp (oZ hN hv hd dg) λσ H Q=>x4 λF r env bx R h=>?_;unfold kX at h;split at h
 .ext n e;let#[v,e1,a,rfl,ha]:=R.slot i _ e;let#[c,hc,kc]:=R.nF ha;rw[hc]at h;cases c with
  |dead=>exact h.elim
  |dT _=>exact h.elim
  |lst l=>
    let#[hF,vs,k1,k2]:=kc;let#[R',g]:=R.freeze ha hF k1;exact#[_,e1,h _ r _ H g R' #[a,vs,rfl,fE,aw.mono g.s l k2]]
  |ai l=>
    let#[hF,vs,k1,k2]:=kc;let#[R',g]:=R.freeze ha hF k1;exact#[_,e1,h _ r _ H g R' #[a,vs,rfl,fE,aI.mono g.s l k2]]
 .exact h.elim
def qN (m:DE W):DE W:=λenv bx=>fC zI λw bx1=>match w with|.s l=>.val (.d (.int l.length)) bx1|_=>.bad
theorem OG (hg:Gl X "len") (hm:X.mg "len"=zy) (ha:PD X T Z a ma) (he:starEach [a] X.env=zaz::starEach [] X.env:=by rfl):PD X T Z (.Call (.Name "len" p) [a] [] pos) (qN ma):=by
 refine PE.imp (iU mf hg hm Ye (f8 ha ic he) za za he (by rfl)) λσ H Q=>x4 λF r env bx R h=>?_;refine#[F,r,env,bx,R,End.bind h λw bx1 F1 r1 v H1 g1 R1 d1 h1=>?_];cases w with
 |b _=>exact h1.elim
 |d _=>exact h1.elim
 |x _=>exact h1.elim
 |t _=>exact h1.elim
 |m _=>exact h1.elim
 |s l=>
   let#[q,o,rfl,k]:=d1;refine#[q,_,rfl,.inl (.inl (.inr #[o,R1.fh _ _ k])),?_];rw[aS];exact h1 F1 r1 _ H1 zaa R1 bz
def Ea (m k:DE W):DE W:=λenv bx=>fC zI λw bx1=>fC (k env bx1) λu bx2=>match w,u with
 |.s l,.d (.int i)=>(match bA l i with|some n=>.val (.d (.int n)) bx2|none=>.bad)
 |_,_=>.bad
theorem Tl (ha:PD X T Z a ma) (hb:PD X T Z b mb) (hs:Hv b):PD X T Z (.Subscript a b pos) (Ea ma mb):=by
 refine PE.imp (LG BD ha hb hs) λσ H Q=>x4 λF r env bx R h=>?_;refine#[F,r,env,bx,R,End.bind h λw bx1 F1 r1 v H1 g1 R1 d1 h1=>?_];refine#[F1,r1,env,bx1,R1,End.bind h1 λu bx2 F2 r2 y H2 g2 R2 d2 h2=>?_];cases w with
 |b _=>exact h2.elim
 |d _=>exact h2.elim
 |x _=>exact h2.elim
 |t _=>exact h2.elim
 |m _=>exact h2.elim
 |s l=>
   cases u with
   |b _=>exact h2.elim
   |s _=>exact h2.elim
   |x _=>exact h2.elim
   |t _=>exact h2.elim
   |m _=>exact h2.elim
   |d d=>
     cases d with
     |int i=>
       let#[q,o,rfl,k]:=d1;simp only at h2;cases e:bA l i with
       |none=>rw[e]at h2;exact h2.elim
       |some n=>
         rw[e]at h2;refine#[q,l.map V.int,i,.int n,rfl,d2,.inl (.inr #[o,R2.fh _ _ (g2.s _ _ k)]),?_,h2 F2 r2 _ H2 (.refl F2 r2) R2 bz];unfold bA at e ⊢;rw[aS];cases ej:dE l.length i with
         |none=>rw[ej]at e;cases e
         |some j=>rw[ej]at e;erw[bD]at e ⊢;rw[ke,e];rfl
     |_=>exact h2.elim
def qO (bo:Bool) (l:List (Key×D)):DE W:=λ_ bx=>b0 bo (some (.ai l)) bx
theorem OH (bo:Bool):PD X T Z (.Dict [] [] pos) (qO bo []):=by
 refine PE.imp (Mg) λσ H Q=>x4 λF r env bx R h=>?_;exact λp hp=>ir R h #[p,[],rfl,hp,rfl,rfl]
theorem OI (bo:Bool) {k v:Int}{j1 j2:Nat}{q1 q2:Pos}:PD X T Z (.Dict [some (.Constant (.int k) j1 q1)] [.Constant (.int v) j2 q2] pos) (qO bo [(.inl k,.int v)]):=by
 refine PE.imp (Gu (CC mM mM Gs) bz bz zf zf) λσ H Q=>x4 λF r env bx R h=>?_;intro p hp;refine#[fE,[(.inl k,.int v)],rfl,by simp,?_];rw[FX];exact ir R h #[p,[(.inl k,.int v)],rfl,hp,rfl,#[_,_,rfl,rfl,rfl]]
end
end L2.DL
namespace HT
section
theorem Fe {t:Addr}{x:kz}(hit:s.heap.IsTupleIter it t i) (ht:s.heap.IsTuple t items) (hx:items[i]?=some x)
 (hQ:∀ h',h'.IsTupleIter it t (i+1)->Heap.SameBut it s.heap h'->Q x { s with heap:=h' }):wpAny zg A (Builtin.SmallTypes.nextOf zay) Q E s:=by
 let#[ob,qM,um,qL]:=id hit;let#[ot,Wt,_,nt,yJ]:=ht;unfold Builtin.SmallTypes.nextOf;refine ae (qp (name:=Str.ofString "__next__") hit.typeIs Hb (eI Hb hit.typeIs ZC (show wpAny _ _ (field zay 0 >>= _) _ _ s from ae (eV qM qL (x:=.ref t) bz ?_)) (ZD _)))
 change wpAny _ _ (if (Value.ref t==Value.none)=zO then _ else _) _ _ s;rw[if_neg (show ¬ ((Value.ref t==Value.none)=true) from bY)]
 change wpAny _ _ (field zay 1 >>= _) _ _ s
 refine ae (eV qM qL (x:=.int i 0) bz (show wpAny _ _ (seqItems? (.ref t) >>= _) _ _ s from ae (qZ Wt yJ ?_)));erw[kN,hx];refine ae (q0 qM qL zf (ag #[x,rfl,ag (hQ _ #[_,qt _ qM (wH (pZ qL _)),(yk ..).trans um,?_] zbw)]));rw[pZ qL];simp[rawInt]
theorem JC {t:Addr}(hh:A.handled=zy) (hit:s.heap.IsTupleIter it t i) (ht:s.heap.IsTuple t items) (hx:items[i]?=zy)
 (hE:∀ h' e,Heap.ExtBut it s.heap h'->(∃ o,h'.get? e=some o /\ o.cls=.type "StopIteration")->E (.ref e) { s with heap:=h' }):wpAny zg A (Builtin.SmallTypes.nextOf zay) Q E s:=by
 let#[ob,qM,um,qL]:=id hit;let#[ot,Wt,_,nt,yJ]:=ht;unfold Builtin.SmallTypes.nextOf;refine ae (qp (name:=Str.ofString "__next__") hit.typeIs Hb (eI Hb hit.typeIs ZC (show wpAny _ _ (field zay 0 >>= _) _ _ s from ae (eV qM qL (x:=.ref t) bz ?_)) (ZD _)))
 change wpAny _ _ (if (Value.ref t==Value.none)=zO then _ else _) _ _ s;rw[if_neg (show ¬ ((Value.ref t==Value.none)=true) from bY)]
 change wpAny _ _ (field zay 1 >>= _) _ _ s
 refine ae (eV qM qL (x:=.int i 0) bz (show wpAny _ _ (seqItems? (.ref t) >>= _) _ _ s from ae (qZ Wt yJ ?_)));erw[kN,hx];refine ae (pW (ae (q0 qM qL zf (show wpAny _ _ (newExc (.type "StopIteration") [] >>= _) _ _ _ from ae ?_))));erw[newExc,newTuple];refine ae (dJ (ae (m:=firstArgMember _ _) (wj (a:=Value.none) (by first|rfl|(erw[firstArgMember];rfl)) (dJ ?_ zb9))) zb9);erw[raiseNew];refine ae (EN ?_);first|rw[show A.in1.handled=none from hh]|rw[hh]
 exact ae (ag (EO (hE _ _ (((Heap.SameBut.update ..).extBut.push _).push _) #[_,bw _ bz,rfl])))
theorem lC (hh:A.handled=zy) (it l:Addr) (pq:l≠it) (items:Array kz) :
 Draws prog w A it [it,l] items.size (λi v=>items[i]?=some v) (λi h=>h.IsTupleIter it l i /\ h.IsTuple l items) where
 live:=λ_ _ st=>let ⟨o,ho,_⟩:=st.1;#[o,ho]
 frame:=λ_ _ _ st hk=>#[st.1.at λo e=>hk it zf o e,st.2.at λo e=>hk l zf o e]
 item:=λi s Q E hi st hQ=>Fe st.1 st.2 (x:=items[i]) (by simp[hi]) λh' a b=>hQ _ h' s.toks (by simp[hi]) #[a,st.2.at λo e=>b.extBut _ _ pq e] b
 done:=λs Q E st hE=>JC hh st.1 st.2 zf hE
structure Eb (z TI TO i1 i2:Addr) (qi qj:List Addr):uu where
 a:TI≠z /\ TO≠z /\ i1≠z /\ i2≠z /\ TI≠TO /\ TI≠i1 /\ TI≠i2 /\ TO≠i1 /\ TO≠i2 /\ i1≠i2
 f1:z∉qi /\ TO∉qi /\ i2∉qi
 f2:z∉qj /\ TO∉qj /\ i1∉qj
variable {z TI TO i1 i2:Addr} {qi qj:List Addr} {n1 n2:Nat} {P1 P2:Nat -> kz -> uu} {S1 S2:Nat -> Heap -> uu}
theorem Draws.same {P:Nat->kz->uu}{S:Nat->Heap->uu}(D:Draws prog w A it fp n P S) {c:Addr}{h:Heap}{k:Nat}(x:Heap.SameBut c h h') (hc:c∉fp) (st:S k h):S k h' :=
 D.frame k h h' st λb hb o e=>x.extBut _ _ (λq=>hc (q▸hb)) e
abbrev qP (h:Heap) (z TI TO:Addr) (f0 f1:kz):uu:=h.get? z=some { cls:=.type "zip",dict:=zy,data:=.fields (List.toArray [f0,f1,.bool zw,.ref TI,.ref TO]),slots:=#[] }
def qQ (h:Heap) (z TI TO:Addr):uu:=∃ f0 f1,(f0=.none \/ ∃ a,f0=rawInt a) /\ qP h z TI TO f0 f1
theorem afy {Q:Option Obj->Shared->uu}(h:Q (s.heap.get? a) s):wpAny zg A (loadIfAlive a) Q E s:=λΓ p _=>by simpa[loadIfAlive] using h
theorem An {f0 f1:kz}{Q:Bool->Shared->uu}(hf:f0=.none \/ ∃ a,f0=rawInt a) (hz:qP s.heap z TI TO f0 f1) (h:∀ r h' afz,qP h' z TI TO f0 afz->Heap.SameBut z s.heap h'->Q r { s with heap:=h' }) :
 wpAny zg A (Builtin.SmallTypes.ownedTupleIsFree (.ref z)) Q E s:=by
 have hs:Heap.SameBut z s.heap s.heap:=#[rfl,λ_ _=>rfl];unfold Builtin.SmallTypes.ownedTupleIsFree;rcases hf with rfl|⟨a,rfl⟩
 .exact ae (eV hz bz (x:=.none) bz (ag (h _ _ f1 hz hs)))
 .refine ae (eV hz bz (x:=rawInt a) bz (ae (afy ?_)));cases s.heap.get? a.toNat with
  |none=>exact ag (h _ _ f1 hz hs)
  |some o=>
    refine ae (eV hz bz (x:=f1) bz ?_);by_cases q:(f1 != Value.bool zO)=zO
    .rw[if_pos q];exact ae (tY hz zf λg1 vG e1=>ag (h _ g1 (.bool zO) vG e1))
    .rw[if_neg q];exact ae (ag (ag (h _ _ f1 hz hs)))
theorem Mk (D1:Draws prog w A i1 qi n1 P1 S1) (D2:Draws prog w A i2 qj n2 P2 S2) (R:Eb z TI TO i1 i2 qi qj) {k:Nat}{a b:kz}(k1:k<n1) (k2:k<n2)
 (hz:qQ s.heap z TI TO) (vH:IsPair s.heap TI (.ref i1) (.ref i2)) (uy:IsPair s.heap TO a b) (s1:S1 k s.heap) (s2:S2 k s.heap)
 (hQ:∀ x y h' tk,P1 k x->P2 k y->qQ h' z TI TO->(∃ u v,IsPair h' TO u v)->S1 (k+1) h'->S2 (k+1) h'->IsPair h' s.heap.objs.size x y ->
  zau->Q zaj { s with heap:=h',toks:=tk }) :
 wpAny zg A (Builtin.«zip.__next__» #[[.ref z],[]]) (λfin s'=>∃ v,fin=.done (.ret v) /\ Q v s') E s:=by
 let#[#[r1,r2,r3,r4,r5,r6,r7,r8,r9,afA],#[f1,f2,f3],#[f4,f5,f6]]:=R;let#[o0,o1,ho,hz]:=hz
 change wpAny _ _ (field (.ref z) 2 >>= _) _ _ _;refine ae (eV hz bz (x:=.bool zw) bz ?_)
 change wpAny _ _ (field (.ref z) 3 >>= _) _ _ _;refine ae (eV hz bz (x:=.ref TI) bz (ae (qZ vH bz ?_)))
 change wpAny _ _ (Builtin.SmallTypes.ownedTupleIsFree (.ref z) >>= _) _ _ _
 refine ae (An ho hz λr g0 o2 w8 e0=>?_);cases r with
 |true=>
   erw[if_true];refine ae (pW (ae (eV w8 bz (x:=.ref TO) bz (ae (tY w8 zf λg1 vG dU=>?_)))));have e1:Heap.SameBut z s.heap g1:=#[dU.1.trans e0.1,λc hc=>(dU.2 c hc).trans (e0.2 c hc)];have HW:qP g1 z TI TO .ellipsis o2:=vG;refine ae ?_;erw[YJ,YK,yd,yh];refine ae (ae (xT (show wpAny _ _ zaP _ _ _ from ae (D1.item k _ _ _ k1 (Draws.same D1 e1 f1 s1) λx g2 t2 px Ec e2=>ag ?_))));have Ed:IsPair g2 TO a b:=e2.extBut _ _ r8 (e1.extBut _ _ r2 uy);refine ae (qZ Ed bz (ae (Kc Ed λg3 abi e3=>ae (uP (ag ?_)))));have afB:IsPair g3 TO x b:=abi;refine ae (ae (xT (show wpAny _ _ zcd _ _ _ from ae (D2.item k _ _ _ k2 (Draws.same D2 e3 f5 (Draws.same D2 e2 f6 (Draws.same D2 e1 f4 s2))) λy g4 t4 py Wu e4=>ag ?_))));have abj:IsPair g4 TO x b:=e4.extBut _ _ r9 afB;refine ae (qZ abj bz (ae (Kc abj λg5 afC e5=>ae (uP (ag (ag ?_))))));have abk:IsPair g5 TO x y:=afC;refine ae (qZ abk bz (ae (Yf ?_)));have hsz:g5.objs.size=s.heap.objs.size:=by rw[e5.1,e4.1,e3.1,e2.1,e1.1]
   have abl:qP g5 z TI TO .ellipsis o2:=e5.extBut _ _ r2.symm (e4.extBut _ _ r4.symm (e3.extBut _ _ r2.symm (e2.extBut _ _ r3.symm HW)));have kp:∀ c o,c≠z->c≠TO->c≠i1->c≠i2->s.heap.get? c=some o->g5.get? c=some o:=λc o c1 c2 c3 c4 q=>e5.extBut _ _ c2 (e4.extBut _ _ c4 (e3.extBut _ _ c2 (e2.extBut _ _ c3 (e1.extBut _ _ c1 q))));have q1:S1 (k+1) g5:=Draws.same D1 e5 f2 (Draws.same D1 e4 f3 (Draws.same D1 e3 f2 Ec));have q2:S2 (k+1) g5:=Draws.same D2 e5 f5 Wu;have tJ:z<g5.objs.size:=aN abl
   change wpAny _ _ (Builtin.SmallTypes.ownedTupleHandOut (.ref z) (.ref g5.objs.size) >>= _) _ _ _;refine ae ?_
   unfold Builtin.SmallTypes.ownedTupleHandOut;refine ae (tY (aK _ abl) zf λg7 afD e7=>tY (show qP g7 z TI TO (rawInt g5.objs.size) o2 from afD) zf λg8 afE e8=>?_);have up:∀ c o,c≠z->g5.get? c=some o->g8.get? c=some o:=λc o c1 q=>e8.extBut _ _ c1 (e7.extBut _ _ c1 (aK _ q));have abm:IsPair g8 g5.objs.size x y:=e8.extBut _ _ (tZ tJ) (e7.extBut _ _ (tZ tJ) (bw _ bz));have afF:qQ g8 z TI TO:=#[_,_,.inr #[_,rfl],show qP g8 z TI TO (rawInt g5.objs.size) (.bool zw) from afE];refine ag #[_,rfl,(show Q (.ref g5.objs.size) _ from ?_)];rw[hsz]at abm ⊢;exact hQ x y g8 _ px py afF #[_,_,up _ _ r2 abk] (D1.frame _ _ _ q1 λc hc o q=>up c o (λw=>f1 (w▸hc)) q) (D2.frame _ _ _ q2 λc hc o q=>up c o (λw=>f4 (w▸hc)) q) abm λc o c1 c2 c3 c4 q=>up c o c1 (kp c o c1 c2 c3 c4 q)
 |false=>
   erw[wu,if_false];rw[show ((List.toArray [Value.ref i1,Value.ref i2]):Array Value)=[Value.ref i1,Value.ref i2].toArray from rfl];erw[YL,yd,yh];refine ae (ae (ae (dI (show wpAny _ _ zaP _ _ _ from ae (D1.item k _ _ _ k1 (Draws.same D1 e0 f1 s1) λx g2 t2 px Ec e2=>ag ?_)))));refine ag (ae (ae (dI (show wpAny _ _ zcd _ _ _ from ae (D2.item k _ _ _ k2 (Draws.same D2 e2 f6 (Draws.same D2 e0 f4 s2)) λy g4 t4 py Wu e4=>ag ?_)))));refine ag (ag (ae (Yf (ag #[_,rfl,?_]) (show 2<=sizeLine by decide))));have hsz:g4.objs.size=s.heap.objs.size:=by rw[e4.1,e2.1,e0.1]
   have HX:qP g4 z TI TO o0 o2:=e4.extBut _ _ r4.symm (e2.extBut _ _ r3.symm w8);have up:∀ c o,g4.get? c=some o->(g4.push { cls:=.type "tuple",data:=.seq (List.toArray [x,y]) }).get? c=some o:=λc o q=>aK _ q;have hT:IsPair (g4.push { cls:=.type "tuple",data:=.seq (List.toArray [x,y]) }) g4.objs.size x y:=bw _ bz;show Q (.ref g4.objs.size) _;rw[hsz]at hT ⊢;exact hQ x y _ _ px py #[o0,o2,ho,up _ _ HX] #[a,b,up _ _ (e4.extBut _ _ r9 (e2.extBut _ _ r8 (e0.extBut _ _ r2 uy)))] (D1.frame _ _ _ (Draws.same D1 e4 f3 Ec) λc hc o q=>up c o q) (D2.frame _ _ _ Wu λc hc o q=>up c o q) hT
    λc o c1 c2 c3 c4 q=>up c o (e4.extBut _ _ c4 (e2.extBut _ _ c3 (e0.extBut _ _ c1 q)))
theorem Ml (D1:Draws prog w A i1 qi n1 P1 S1) (D2:Draws prog w A i2 qj n2 P2 S2) (R:Eb z TI TO i1 i2 qi qj) {k:Nat}{a b:kz}{Q:Fin->Shared->uu}(hk:k=n1 \/ (k<n1 /\ k=n2))
 (hz:qQ s.heap z TI TO) (vH:IsPair s.heap TI (.ref i1) (.ref i2)) (uy:IsPair s.heap TO a b) (s1:S1 k s.heap) (s2:S2 k s.heap)
 (hE:∀ h' e tk,zau->(∃ o,h'.get? e=some o /\ o.cls=.type "StopIteration")->E (.ref e) { s with heap:=h',toks:=tk }) :
 wpAny zg A (Builtin.«zip.__next__» #[[.ref z],[]]) Q E s:=by
 let#[#[r1,r2,r3,r4,r5,r6,r7,r8,r9,afA],#[f1,f2,f3],#[f4,f5,f6]]:=R;let#[o0,o1,ho,hz]:=hz
 change wpAny _ _ (field (.ref z) 2 >>= _) _ _ _;refine ae (eV hz bz (x:=.bool zw) bz ?_)
 change wpAny _ _ (field (.ref z) 3 >>= _) _ _ _;refine ae (eV hz bz (x:=.ref TI) bz (ae (qZ vH bz ?_)))
 change wpAny _ _ (Builtin.SmallTypes.ownedTupleIsFree (.ref z) >>= _) _ _ _
 refine ae (An ho hz λr g0 o2 w8 e0=>?_);cases r with
 |true=>
   erw[if_true];refine ae (pW (ae (eV w8 bz (x:=.ref TO) bz (ae (tY w8 zf λg1 vG dU=>?_)))));have e1:Heap.SameBut z s.heap g1:=#[dU.1.trans e0.1,λc hc=>(dU.2 c hc).trans (e0.2 c hc)];have HW:qP g1 z TI TO .ellipsis o2:=vG;refine ae ?_;erw[YJ,YK,yd,yh];rcases hk with hk|⟨Wv,vI⟩
   .refine ae (ae (xT (show wpAny _ _ zaP _ _ _ from ae (D1.done _ _ _ (hk▸Draws.same D1 e1 f1 s1) λg2 ex e2 hx=>?_))));let#[oe,vJ,Ee]:=hx;have vK:qP g2 z TI TO .ellipsis o2:=e2 _ _ r3.symm HW;have Ww:ex≠z:=λq=>by subst q;rw[vK]at vJ;cases vJ;simp at Ee
    exact tY vK zf λg3 _ e3=>hE g3 ex _ (λc o c1 _ c3 _ q=>e3.extBut _ _ c1 (e2 _ _ c3 (e1.extBut _ _ c1 q))) #[oe,e3.extBut _ _ Ww vJ,Ee]
   .refine ae (ae (xT (show wpAny _ _ zaP _ _ _ from ae (D1.item k _ _ _ Wv (Draws.same D1 e1 f1 s1) λx g2 t2 px Ec e2=>ag ?_))));have Ed:IsPair g2 TO a b:=e2.extBut _ _ r8 (e1.extBut _ _ r2 uy);refine ae (qZ Ed bz (ae (Kc Ed λg3 abi e3=>ae (uP (ag ?_)))));refine ae (ae (xT (show wpAny _ _ zcd _ _ _ from ae (D2.done _ _ _ (vI▸Draws.same D2 e3 f5 (Draws.same D2 e2 f6 (Draws.same D2 e1 f4 s2))) λg4 ex e4 hx=>?_))));let#[oe,vJ,Ee]:=hx;have HX:qP g4 z TI TO .ellipsis o2:=e4 _ _ r4.symm (e3.extBut _ _ r2.symm (e2.extBut _ _ r3.symm HW));have Ww:ex≠z:=λq=>by subst q;rw[HX]at vJ;cases vJ;simp at Ee
    exact tY HX zf λg5 _ e5=>hE g5 ex _ (λc o c1 c2 c3 c4 q=>e5.extBut _ _ c1 (e4 _ _ c4 (e3.extBut _ _ c2 (e2.extBut _ _ c3 (e1.extBut _ _ c1 q))))) #[oe,e5.extBut _ _ Ww vJ,Ee]
 |false=>
   erw[wu,if_false];rw[show ((List.toArray [Value.ref i1,Value.ref i2]):Array Value)=[Value.ref i1,Value.ref i2].toArray from rfl];erw[YL,yd,yh];rcases hk with hk|⟨Wv,vI⟩
   .refine ae (ae (ae (dI (show wpAny _ _ zaP _ _ _ from ae (D1.done _ _ _ (hk▸Draws.same D1 e0 f1 s1) λg2 ex e2 hx=>?_)))));exact hE g2 ex _ (λc o c1 _ c3 _ q=>e2 _ _ c3 (e0.extBut _ _ c1 q)) hx
   .refine ae (ae (ae (dI (show wpAny _ _ zaP _ _ _ from ae (D1.item k _ _ _ Wv (Draws.same D1 e0 f1 s1) λx g2 t2 px Ec e2=>ag ?_)))));refine ag (ae (ae (dI (show wpAny _ _ zcd _ _ _ from ae (D2.done _ _ _ (vI▸Draws.same D2 e2 f6 (Draws.same D2 e0 f4 s2)) λg4 ex e4 hx=>?_)))));exact hE g4 ex _ (λc o c1 _ c3 c4 q=>e4 _ _ c4 (e2.extBut _ _ c3 (e0.extBut _ _ c1 q))) hx
theorem Mm (hz:qQ s.heap z TI TO) (h:Q (.ref z) s):wpAny zg A (pyIter (.ref z)) Q E s:=by
 have ty:s.TypeIs (.ref z) "zip":=let ⟨_,_,_,hz⟩:=hz;#[_,hz,rfl]
 exact xV ty ZE (eI ZE ty F.entry_zip_iter (show wpAny _ _ (ret (.ref z)) _ _ s from ag #[_,rfl, "zip",_,ty,yo.lookup,h]) (F.args_zip_iter_1 _))
theorem AW (D1:Draws prog w A.in1 i1 qi n1 P1 S1) (D2:Draws prog w A.in1 i2 qj n2 P2 S2) (R:Eb z TI TO i1 i2 qi qj) {k:Nat}{a b:kz}{Q:Option kz->Shared->uu}(k1:k<n1) (k2:k<n2)
 (hz:qQ s.heap z TI TO) (vH:IsPair s.heap TI (.ref i1) (.ref i2)) (uy:IsPair s.heap TO a b) (s1:S1 k s.heap) (s2:S2 k s.heap)
 (hQ:∀ x y h' tk,P1 k x->P2 k y->qQ h' z TI TO->(∃ u v,IsPair h' TO u v)->S1 (k+1) h'->S2 (k+1) h'->IsPair h' s.heap.objs.size x y ->
  zau->Q (some zaj) { s with heap:=h',toks:=tk }):wpAny zg A (pyNext (.ref z)) Q E s:=by
 have hT:s.TypeIs (.ref z) "zip":=let ⟨_,_,_,hz⟩:=hz;#[_,hz,rfl]
 unfold pyNext;exact ae (tX (qp (name:=Str.ofString "__next__") hT yo (eI yo hT ZF (Mk D1 D2 R k1 k2 hz vH uy s1 s2 λx y h' tk b1 b2 b3 b4 b5 b6 b7 b8=>ag (hQ x y h' tk b1 b2 b3 b4 b5 b6 b7 b8)) (ZG _))))
theorem Tm {p:Addr}{Q:Unit->Shared->uu}(hz:qQ s.heap z TI TO) (h:∀ h',qQ h' z TI TO->Heap.SameBut z s.heap h'->Q () { s with heap:=h' }):wpAny zg A (letOwnedTupleGo tg (.ref z) (.ref p)) Q E s:=by
 have hs:Heap.SameBut z s.heap s.heap:=#[rfl,λ_ _=>rfl];have same:Q () s:=h _ hz hs;let#[f0,f1,hf,hz]:=id hz
 have tup:wpAny zg A (do
  let o <-load z
  match o.cls,o.data with
  |.type n,.fields vs=>
    if ["enumerate","zip","dict_itemiterator","dict_reverseitemiterator","odict_iterator","itertools.zip_longest","itertools.pairwise"].contains n&&vs[0]?==some (rawInt p) then
     rule "for.unpacks-the-owned-tuple"
     updateField z 0 .none
  |_,_=>pure ()) Q E s:=by
  refine ae (wb hz ?_);dsimp only;split
  .refine ae (pW (tY hz zf λg1 vG e1=>h g1 #[.none,f1,.inl bz,vG] e1))
  .exact ag same
 unfold letOwnedTupleGo;cases tg with
 |Tuple es n q=>exact tup
 |List es q=>exact tup
 |_=>exact ag same
theorem AX (D1:Draws prog w A.in1 i1 qi n1 P1 S1) (D2:Draws prog w A.in1 i2 qj n2 P2 S2) (R:Eb z TI TO i1 i2 qi qj) {k:Nat}{a b:kz}{Q:Option kz->Shared->uu}(hk:k=n1 \/ (k<n1 /\ k=n2))
 (hz:qQ s.heap z TI TO) (vH:IsPair s.heap TI (.ref i1) (.ref i2)) (uy:IsPair s.heap TO a b) (s1:S1 k s.heap) (s2:S2 k s.heap)
 (hQ:∀ h' tk,zau->Q zy { s with heap:=h',toks:=tk }):wpAny zg A (pyNext (.ref z)) Q E s:=by
 have hT:s.TypeIs (.ref z) "zip":=let ⟨_,_,_,hz⟩:=hz;#[_,hz,rfl]
 unfold pyNext;refine ae (tX (qp (name:=Str.ofString "__next__") hT yo (eI yo hT ZF (Ml D1 D2 R hk hz vH uy s1 s2 λh' e tk q1 q2=>?_) (ZG _))));let#[o,ho,hc]:=q2;exact ae (xW (T:="StopIteration") (b:=zO) #[o,ho,hc] ER (ag (hQ h' tk q1)))
noncomputable def Ef (h:Heap) (l1:Addr):Heap:=h.push { cls:=.type "tuple_iterator",data:=.fields (List.toArray [.ref l1,.int 0 0]) }
def w9 (h:Heap) (l1 l2:Addr):Heap:=(Ef h l1).push { cls:=.type "tuple_iterator",data:=.fields (List.toArray [.ref l2,.int 0 0]) }
def xa (h:Heap) (l1 l2:Addr):Heap:=(w9 h l1 l2).push { cls:=.type "tuple",data:=.seq (List.toArray [.ref h.objs.size,.ref (Ef h l1).objs.size]) }
def Eg (h:Heap) (l1 l2:Addr):Heap:=(xa h l1 l2).push { cls:=.type "tuple",data:=.seq (List.toArray [.none,.none]) }
def xb (h:Heap) (l1 l2:Addr):Heap:=(Eg h l1 l2).push { cls:=.type "zip",data:=.fields (List.toArray [.none,.bool zw,.bool zw,.ref (w9 h l1 l2).objs.size,.ref (xa h l1 l2).objs.size]) }
theorem Ff (l1 l2:Addr) (xs ys:Array kz) :
 Meets (Builtin.«zip.__new__» #[[.type "zip",.ref l1,.ref l2],[]]) (λ_ R s=>s.heap.IsTuple l1 xs /\ s.heap.IsTuple l2 ys /\ R (.ok (.ret (.ref (Eg s.heap l1 l2).objs.size))) { s with heap:=xb s.heap l1 l2 }):=
 .of_wp λprog w A R s h=>by
  let#[hp,g,d,tk,os]:=s;let#[Wx,rK,h]:=h;have aiP:=sub_zip;have afG:Heap.IsTuple (Shared.heap #[hp,g,d,tk,os]) l1 xs:=Wx;have afH:Heap.IsTuple (Shared.heap #[hp.push { cls:=.type "tuple_iterator",data:=.fields (List.toArray [.ref l1,.int 0 0]) },g,d,tk,os]) l2 ys:=rK.at λo e=>aK _ e
  wp_walk using ES afG,ES afH
  exact#[_,rfl,h]
theorem JD {l1 l2:Addr}{xs ys:Array kz}(Wx:s.heap.IsTuple l1 xs) (rK:s.heap.IsTuple l2 ys)
 (h:∀ h',IsZip h' (s.heap.objs.size+4) (s.heap.objs.size+2) (s.heap.objs.size+3) .none->IsPair h' (s.heap.objs.size+2) zaj (.ref zU)->IsPair h' (s.heap.objs.size+3) .none .none ->
  h'.IsTupleIter s.heap.objs.size l1 0->h'.IsTupleIter zU l2 0->(∀ c o,s.heap.get? c=some o->h'.get? c=some o)->Q (.ref (s.heap.objs.size+4)) { s with heap:=h' }):wpAny zg A (call (.type "zip") [.ref l1,.ref l2]) Q E s:=by
 refine callType_new F.called_zip za (F.typeCall_zip_2 _ _) (F.newCall_zip_2 _ _) (λobj=>F.args_object_init_3 obj _ _) F.entry_zip_new (Ff l1 l2 xs ys) #[Wx,rK,?_];have z1:(Ef s.heap l1).objs.size=s.heap.objs.size+1:=rj ..;have z2:(w9 s.heap l1 l2).objs.size=s.heap.objs.size+2:=by rw[w9,rj,z1]
 have z3:(xa s.heap l1 l2).objs.size=s.heap.objs.size+3:=by rw[xa,rj,z2]
 have z4:(Eg s.heap l1 l2).objs.size=s.heap.objs.size+4:=by rw[Eg,rj,z3]
 have g5:(xb s.heap l1 l2).get? (Eg s.heap l1 l2).objs.size=some { cls:=.type "zip",data:=.fields (List.toArray [.none,.bool zw,.bool zw,.ref (w9 s.heap l1 l2).objs.size,.ref (xa s.heap l1 l2).objs.size]) }:=bw _ bz;have g4:(xb s.heap l1 l2).get? (xa s.heap l1 l2).objs.size=some { cls:=.type "tuple",data:=.seq (List.toArray [.none,.none]) }:=aK _ (bw _ bz);have g3:(xb s.heap l1 l2).get? (w9 s.heap l1 l2).objs.size=some { cls:=.type "tuple",data:=.seq (List.toArray [.ref s.heap.objs.size,.ref (Ef s.heap l1).objs.size]) }:=aK _ (aK _ (bw _ bz));have g2:(xb s.heap l1 l2).get? (Ef s.heap l1).objs.size=some { cls:=.type "tuple_iterator",data:=.fields (List.toArray [.ref l2,.int 0 0]) }:=aK _ (aK _ (aK _ (bw _ bz)));have g1:(xb s.heap l1 l2).get? s.heap.objs.size=some { cls:=.type "tuple_iterator",data:=.fields (List.toArray [.ref l1,.int 0 0]) }:=aK _ (aK _ (aK _ (aK _ (bw _ bz))))
 change _ /\ _
 rw[z2,z3,z4]at g5;rw[z1,z2]at g3;rw[z3]at g4;rw[z1]at g2;rw[z4];exact#[#[_,g5,rfl],h _ g5 g3 g4 #[_,g1,rfl,rfl] #[_,g2,rfl,rfl] λc o q=>aK _ (aK _ (aK _ (aK _ (aK _ q))))]
end
end HT
namespace L2
theorem Inv.abn {p:Addr}{o:HO}(I:Inv X pins σ H s) (hf:∀ b∈ch,eL X pins H b) (k:∀ b o,b∉ch->s.heap.get? b=some o->h'.get? b=some o) (hp:s.heap.objs.size<=p)
 (new:a9 X.prog X.w (upd H p o) h' p o):Inv X pins σ (upd H p o) { s with heap:=h',toks:=t' }:=by
 have hJ:H p=zy:=I.aj.fresh hp;have qx:∀ b u,H b=some u->b∉ch:=λb u e z=>by rw[(hf b z).1]at e;cases e
 have afI:∀ b u,H b=some u->b≠p:=λb u e=>fQ e hJ;have eY:∀ b u,H b=some u->upd H p o b=some u:=λb u e=>by rw[fA (afI b u e)];exact e
 refine I.step (g':=s.gens) (d':=s.drawn) (ch:=ch) (λb hb=>?_) (λb o _ _ hc e _=>k b o hc e) (λb o _ _ hc e _=>#[o.slots,k b o hc e]) (λb ob _ e n=>?_)
  (λb o hc e=>#[o,k b o hc e]) (λb _ e=>eY b _ e) (λb _ _ e=>eY b _ e) (λb ps e=>#[#[],by rw[eY b _ e];simp]) (λm hm=>?_) ?_ I.bare
 .let#[f0,f1,f2,f3,f4,f5]:=hf b hb;exact#[f3,f1,f4,f5]
 .rw[fA (λz=>eJ _ (dj (aN e) (by rw[z];exact hp)))];exact n
 .let#[ob,es,ep,ho,r]:=hm;exact#[ob,es,ep,k _ ob (λz=>(hf _ z).2.1 bz) ho,r]
 .intro b u e;by_cases hb:b=p
  .subst hb;rw[fE]at e;cases e;exact new
  .rw[fA hb]at e;refine(I.aj b u e).eY (λc v hc q=>k c v ?_ q) (λc q=>eY c _ q) λc xs q=>eY c _ q;rcases hc with z|z
   .rw[z];exact qx b u e
   .exact qx c _ z
theorem Inv.abo (I:Inv X pins σ H s) (hf:∀ b∈ch,eL X pins H b) (k:∀ b o,b∉ch->s.heap.get? b=some o->h'.get? b=some o):Inv X pins σ H { s with heap:=h',toks:=t' }:=by
 have qx:∀ b u,H b=some u->b∉ch:=λb u e z=>by rw[(hf b z).1]at e;cases e
 refine I.step (g':=s.gens) (d':=s.drawn) (ch:=ch) (λb hb=>?_) (λb o _ _ hc e _=>k b o hc e) (λb o _ _ hc e _=>#[o.slots,k b o hc e]) (λb ob _ e n=>n)
  (λb o hc e=>#[o,k b o hc e]) (λb _ e=>e) (λb _ _ e=>e) (λb ps e=>#[#[],by rw[e];simp]) (λm hm=>?_) ?_ I.bare
 .let#[f0,f1,f2,f3,f4,f5]:=hf b hb;exact#[f3,f1,f4,f5]
 .let#[ob,es,ep,ho,r]:=hm;exact#[ob,es,ep,k _ ob (λz=>(hf _ z).2.1 bz) ho,r]
 .intro b u e;refine(I.aj b u e).eY (λc v hc q=>k c v ?_ q) (λc q=>q) λc xs q=>q;rcases hc with z|z
  .rw[z];exact qx b u e
  .exact qx c _ z
def Wy (K:PySem.W.Frag) (a b:Addr):It:=
 #[λi H=>∃ (xs ys:List V) (x y:V),aY K H a xs /\ aY K H b ys /\ xs[i]?=some x /\ ys[i]?=some y,
  λi H w H'=>∀ (xs ys:List V),aY K H a xs->aY K H b ys->∃ (p:Addr) (x y:V),xs[i]?=some x /\ ys[i]?=some y /\ H p=zy /\ w=.ref p /\ H'=upd H p (.tup [x,y]),
  λi H=>∃ (xs ys:List V),aY K H a xs /\ aY K H b ys /\ (i=xs.length \/ (i<xs.length /\ i=ys.length))]
theorem Bf {b:Nat}(k:Nat) (h:b<n):b≠n+k:=by lia
theorem Bg {m:Nat}(h:n+4<m):m≠n /\ m≠n+1 /\ m≠n+2 /\ m≠n+3 /\ m≠n+4:=by lia
theorem Gv {n b:Addr}(ha:a<n) (hb:b<n):HT.Eb (n+4) (n+2) (n+3) n (n+1) [n,a] [n+1,b] where
 a:=by refine#[?_,?_,?_,?_,?_,?_,?_,?_,?_,?_]<;>exact λz=>by have z':(_:Nat)=_:=z;lia
 f1:=by
  have e1:∀ k:Nat,n+k≠a:=λk z=>eJ _ (EV (uV n k) (z▸ha));refine#[?_,?_,?_]<;>(rw[aH,bu];rintro(z|z))
  .have z':(_:Nat)=_:=z;lia
  .exact e1 4 z
  .have z':(_:Nat)=_:=z;lia
  .exact e1 3 z
  .have z':(_:Nat)=_:=z;lia
  .exact e1 1 z
 f2:=by
  have e1:∀ k:Nat,n+k≠b:=λk z=>eJ _ (EV (uV n k) (z▸hb));refine#[?_,?_,?_]<;>(rw[aH,bu];rintro(z|z))
  .have z':(_:Nat)=_:=z;lia
  .exact e1 4 z
  .have z':(_:Nat)=_:=z;lia
  .exact e1 3 z
  .have z':(_:Nat)=_:=z;lia
  .exact e1 0 z
theorem Mn {n b:Addr}(ha:a<n) (hb:b<n) :
 Turn P w K tg (Wy K a b) [n+4,n+2,n+3,n,n+1] (n+4)
  (λi h=>HT.qQ h (n+4) (n+2) (n+3) /\ IsPair h (n+2) (.ref n) (.ref (n+1)) /\ (∃ u v,IsPair h (n+3) u v) /\ h.IsTupleIter n a i /\ h.IsTupleIter (n+1) b i) where
 mem:=by simp
 obj:=λi h st c hc=>by
  let#[#[_,_,_,z1],z2,#[u,v,z3],#[o4,e4,c4,d4],#[o5,e5,c5,d5]]:=st;erw[aH,dq,or_false]at hc;rcases hc with rfl|rfl|rfl|rfl|rfl
  .exact#[_,z1,λv z=>by cases z]
  .exact#[_,z2,λv z=>by cases z]
  .exact#[_,z3,λv z=>by cases z]
  .exact#[o4,e4,λv z=>by rw[d4]at z;cases z]
  .exact#[o5,e5,λv z=>by rw[d5]at z;cases z]
 keep:=λi h h' st k=>by
  let#[z1,z2,#[u,v,z3],z4,z5]:=st;let#[w0,w1,w2,z1]:=z1;exact#[#[w0,w1,w2,k _ zf _ z1],k _ zf _ z2,#[u,v,k _ zf _ z3],z4.at λo e=>k _ zf o e,z5.at λo e=>k _ zf o e]
 item:=by
  intro X hP hw hK hc i pins s σ H E I hf st hg;subst hP hw hK;let#[xs,ys,x,y,q1,q2,e1,e2]:=hg;let#[z1,z2,#[u,v,z3],z4,z5]:=st;let#[i1,r1,p1,l1]:=I.tuple q1;let#[i2,r2,p2,l2]:=I.tuple q2;have hx:=(List.getElem?_eq_some_iff.mp e1).1;have hy:=(List.getElem?_eq_some_iff.mp e2).1;have R:=Gv ha hb;have D1:=HT.lC (prog:=X.prog) (w:=X.w) (A:=X.A.in1) zbN n a (bT ha) i1.toArray;have D2:=HT.lC (prog:=X.prog) (w:=X.w) (A:=X.A.in1) zbN (n+1) b (Bf 1 hb) i2.toArray;refine HT.AW D1 D2 R (by rw[bf,<-r1.length];exact hx) (by rw[bf,<-r2.length];exact hy) z1 z2 z3 #[z4,p1] #[z5,p2] λvx vy h' tk b1 b2 b3 b4 b5 b6 b7 b8=>#[_,rfl,?_];refine HT.Tm b3 λh2 vK dA=>?_;let#[w1,f1,g1]:=r1.get e1;let#[w2,f2,g2]:=r2.get e2;have abp:i1[i]?=some vx:=by simpa using b1
  have abq:i2[i]?=some vy:=by simpa using b2
  rw[f1]at abp;cases abp;rw[f2]at abq;cases abq;have tJ:(n+4:Nat)<s.heap.objs.size:=let ⟨_,_,_,z1⟩:=z1;aN z1
  have xc:IsPair h2 s.heap.objs.size vx vy:=dA.extBut _ _ (Bg tJ).2.2.2.2 b7;have nw:H s.heap.objs.size=zy:=I.aj.fresh (au _);have I2:Inv X pins σ (upd H s.heap.objs.size (.tup [x,y])) { s with heap:=h2,toks:=tk }:=by
   refine I.abn (ch:=[n+4,n+2,n+3,n,n+1]) hf (λc o bM e=>?_) (au _) ?_
   .erw[aH,dq,or_false,not_or]at bM;exact dA.extBut _ _ bM.1 (b8 c o bM.1 bM.2.2.1 bM.2.2.2.1 bM.2.2.2.2 e)
   .exact#[by show 2<=sizeLine;decide,[vx,vy],.cons g1 (.cons g2 .nil),#[_,xc,rfl,_,rfl]]
  refine#[.ref s.heap.objs.size,_,I2,rfl,λafJ aiQ y1 y2=>#[_,x,y,by rw[I.Qb y1 q1];exact e1,by rw[I.Qb y2 q2];exact e2,nw,rfl,rfl],#[vK,?_,(let ⟨u,v,b4⟩:=b4;#[u,v,dA.extBut _ _ R.a.2.1 b4]),?_,?_],λc bM=>?_]
  .exact dA.extBut _ _ R.a.1 (b8 _ _ R.a.1 R.a.2.2.2.2.1 R.a.2.2.2.2.2.1 R.a.2.2.2.2.2.2.1 z2)
  .exact b5.1.at λo e=>dA.extBut _ _ R.a.2.2.1 e
  .exact b6.1.at λo e=>dA.extBut _ _ R.a.2.2.2.1 e
  .rw[fA]
   .exact(hf c bM).1
   .intro z;subst z;erw[aH,dq,or_false]at bM;let#[m1,m2,m3,m4,m5]:=Bg tJ;rcases bM with q|q|q|q|q
    .exact m5 q
    .exact m3 q
    .exact m4 q
    .exact m1 q
    .exact m2 q
 done:=by
  intro X hP hw hK hc i pins s σ H E I hf st hg;subst hP hw hK;let#[xs,ys,q1,q2,hk]:=hg;let#[z1,z2,#[u,v,z3],z4,z5]:=st;let#[i1,r1,p1,l1]:=I.tuple q1;let#[i2,r2,p2,l2]:=I.tuple q2;have R:=Gv ha hb;have D1:=HT.lC (prog:=X.prog) (w:=X.w) (A:=X.A.in1) zbN n a (bT ha) i1.toArray;have D2:=HT.lC (prog:=X.prog) (w:=X.w) (A:=X.A.in1) zbN (n+1) b (Bf 1 hb) i2.toArray;refine HT.AX D1 D2 R (k:=i) (by rw[bf,bf,<-r1.length,<-r2.length];exact hk) z1 z2 z3 #[z4,p1] #[z5,p2] λh' tk b8=>#[rfl,I.abo (ch:=[n+4,n+2,n+3,n,n+1]) hf λc o bM e=>?_];erw[aH,dq,or_false,not_or]at bM;exact b8 c o bM.1 bM.2.2.1 bM.2.2.2.1 bM.2.2.2.2 e
 self:=λA i s Q E st h=>HT.Mm st.1 h
theorem abr.lt {its:List kz}(p:IsTup s.heap a its.toArray):a<s.heap.objs.size:=by
 let#[o,e,_]:=p;exact aN e
def afK (K:PySem.W.Frag) (ta:TA):TI:=λσ H R=>ta σ H λvs H2=>∃ (p q:Addr) (xs ys:List V),vs=[.ref p,.ref q] /\ aY K H2 p xs /\ aY K H2 q ys /\ R (Wy K p q) H2
theorem Tn {a b:Expr}{ta:TA}{p:Pos}(hg:Gl X "zip") (hm:X.mg "zip"=zy) (ha:PA X [a,b] ta) (hs:starEach [a,b] X.env=[zaz,zcg]:=by rfl) (dA:starEach [b] X.env=[zcg]:=by rfl) :
 PI X tg (.Call (.Name "zip" p) [a,b] [] pos) (afK X.K ta):=by
 intro pins s σ H R I h;refine sq (jj I hg hm (by decide +kernel:bootBuiltins "zip"=some (.type "zip")) ?_);refine yj (tA za4 λus s1 vs H2 I2 r2 q=>?_) (by rw[hs,dA]) (by rw[dA];rfl);let#[x,y,xs,ys,rfl,hx,hy,q]:=q;let#[u,v,rfl,ru,rv]:=Vals.two r2;cases ru;cases rv;let#[i1,r1,p1,_]:=I2.tuple hx;let#[i2,r2,p2,_]:=I2.tuple hy;refine HT.JD (xs:=i1.toArray) (ys:=i2.toArray) p1 p2 λh' b1 b2 b3 b4 b5 b6=>?_;refine wpAny_pyIter_zip b1 ?_;refine#[s1.heap.objs.size+4,_,_,_,H2,rfl,I2.kept (t':=s1.toks) b6,Mn (abr.lt p1) (abr.lt p2),#[#[_,_,.inl bz,b1],b2,#[_,_,b3],b4,b5],λc hc=>?_,q];have hle:s1.heap.objs.size<=c:=by
  erw[aH,dq,or_false]at hc;rcases hc with z|z|z|z|z<;>(rw[z];first|exact au _|exact uV _ _)
 exact I2.wR hle (I2.aj.fresh hle)
end L2
namespace L2.DL
section
variable {a b:Expr} {p:Pos} {k:DE (List W)}
noncomputable def pP:List D->List D->List W
 |x::l,y::r=>.d (.tup [x,y])::pP l r
 |_,_=>[]
theorem CF:∀ (l r:List D),(pP l r).length=min l.length r.length
 |[],_=>by simp[pP]
 |_::_,[]=>by simp[pP]
 |_::l,_::r=>by erw[pP,bp,CF l r];lia
theorem CG:∀ {l r:List D}{i:Nat}{w:W},(pP l r)[i]?=some w->∃ x y,l[i]?=some x /\ r[i]?=some y /\ w=.d (.tup [x,y])
 |[],_,_,_,e=>by simp[pP]at e
 |_::_,[],_,_,e=>by simp[pP]at e
 |x::l,y::r,0,w,e=>by simp[pP]at e;exact#[x,y,rfl,rfl,e.symm]
 | x::l,y::r,i+1,w,e=>by
   have e':(pP l r)[i]?=some w:=by simpa[pP] using e
   let#[x',y',h1,h2,h3]:=CG e';exact#[x',y',by simpa using h1,by simpa using h2,h3]
def HY (k:DE zan):DE zan:=λenv bx=>fC zcY λws bx1=>match ws with
 |[.d (.tup l),.d (.tup r)]=>.val (pP l r) bx1
 |_=>.bad
theorem Fg {p q:Addr}{us:List V}{m:List D}(hp:F p=some (.tup vs)) (hq:F q=some (.tup us)) (dl:aw F l vs) (dm:aw F m us):vD F r (pP l m) (Wy K p q):=by
 intro T i F1 r1 σ1 H1 env1 bx1 g R;have s1:aY K H1 p vs:=.of (R.fh _ _ (g.s _ _ hp));have s2:aY K H1 q us:=.of (R.fh _ _ (g.s _ _ hq));have e1:=dl.length;have e2:=dm.length;refine#[λhl=>?_,λw e=>?_]
 .rw[CF]at hl;exact#[vs,us,s1,s2,by lia]
 .let#[x,y,h1,h2,rfl]:=CG e;let#[v,f1,d1]:=dl.get h1;let#[u,f2,d2]:=dm.get h2;refine#[#[vs,us,v,u,s1,s2,f1,f2],λw H2 hy=>?_];let#[a,v',u',g1,g2,ha,rfl,rfl]:=hy vs us s1 s2;rw[f1]at g1;cases g1;rw[f2]at g2;cases g2;have gr:=R.rO (o:=.tup [v,u]) ha;exact#[_,gr,R.vA ha,a,[v,u],rfl,fE,.cons (Den.mono (g.trans gr).s x d1) (.cons (Den.mono (g.trans gr).s y d2) .nil)]
theorem OJ (hg:Gl X "zip") (hm:X.mg "zip"=zy) (ha:cH X T Z [a,b] k) (hs:starEach [a,b] X.env=[zaz,zcg]:=by rfl) (dA:starEach [b] X.env=[zcg]:=by rfl) :
 pL X T Z tg (.Call (.Name "zip" p) [a,b] [] pos) (HY k):=by
 refine PI.imp (Tn hg hm ha hs dA) λσ H Q=>x4 λF r env bx R h=>?_;refine#[F,r,env,bx,R,End.bind h λws bx1 F1 r1 vs H1 g1 R1 d1 h1=>?_];split at h1
 .ext l m;let#[v,t,rfl,#[p,us,rfl,k1,k2],v2,t2,rfl,#[q,afL,rfl,k3,k4],rt]:=d1;cases (show t2=[] from rt);exact#[p,q,us,afL,rfl,.of (R1.fh _ _ k1),.of (R1.fh _ _ k3),h1 F1 r1 _ H1 zaa R1 (Fg k1 k3 k2 k4)]
 .exact h1.elim
end
section
variable {a:Expr} {p:Pos}
def afM (K:PySem.W.Frag) (tl:TE):TI:=λσ H R=>tl σ H λx H1=>(∃ a,x=.ref a /\ (∃ xs,ba K H1 a xs) /\ R (Qf K a) H1) \/ ∃ a,x=.ref a /\ (∃ xs,aY K H1 a xs) /\ R (Qg K a) H1
theorem To {l:Expr}{tl:TE}(hl:PE X l tl):PI X tg l (afM X.K tl):=by
 intro pins s σ H R I h;refine tE (hl pins s σ H _ I h) λv s1 x H1 I1 r1 q1=>?_;rcases q1 with⟨a,rfl,⟨xs,hq⟩,q⟩|⟨a,rfl,⟨xs,hq⟩,q⟩
 .cases r1;let#[its,rv,p,hz]:=I1.list hq;refine EK p.isList #[s1.heap.objs.size,[s1.heap.objs.size],_,_,H1,rfl,I1.kept (t':=s1.toks) λb o e=>aK _ e,Je a _,#[_,bw _ bz,rfl,rfl],λb hb=>?_,q];cases bu.mp hb;exact I1.wR (au _) (I1.aj.fresh (au _))
 .cases r1;let#[its,rv,p,hz]:=I1.tuple hq;refine ES (show s1.heap.IsTuple a its.toArray from p) #[s1.heap.objs.size,[s1.heap.objs.size],_,_,H1,rfl,I1.kept (t':=s1.toks) λb o e=>aK _ e,DU a _,#[_,bw _ bz,rfl,rfl],λb hb=>?_,q];cases bu.mp hb;exact I1.wR (au _) (I1.aj.fresh (au _))
theorem CH {a:Addr}(k1:F a=some zbI) (k2:aw F l vs):vD F r zbd (Qf K a):=λT' i F2 r2 σ2 H2 aX bx2 g2 R2=>by
 have hq:ba K H2 a vs:=.of (R2.fh _ _ (g2.s _ _ k1));refine#[λhl=>?_,λw e=>?_]
 .rw[aS,k2.length]at hl;exact#[vs,hq,uU hl]
 .let#[d,e1,rfl]:=Bd e;let#[u,e2,du]:=k2.get e1;refine#[#[vs,u,hq,e2],λx H3 ⟨e3,hy⟩=>?_];subst e3;have e4:vs[i]?=some x:=hy vs hq;rw[e2]at e4;cases e4;exact#[F2,.refl F2 r2,R2,Den.mono g2.s d du]
theorem Fh {a:Addr}(k1:F a=some (.tup vs)) (k2:aw F l vs):vD F r zbd (Qg K a):=λT' i F2 r2 σ2 H2 aX bx2 g2 R2=>by
 have hq:aY K H2 a vs:=.of (R2.fh _ _ (g2.s _ _ k1));refine#[λhl=>?_,λw e=>?_]
 .rw[aS,k2.length]at hl;exact#[vs,hq,uU hl]
 .let#[d,e1,rfl]:=Bd e;let#[u,e2,du]:=k2.get e1;refine#[#[vs,u,hq,e2],λx H3 ⟨e3,hy⟩=>?_];subst e3;have e4:vs[i]?=some x:=hy vs hq;rw[e2]at e4;cases e4;exact#[F2,.refl F2 r2,R2,Den.mono g2.s d du]
theorem mw (ha:PD X T Z a ma):pL X T Z tg a (ax ma):=by
 refine PI.imp (To ha) λσ H Q=>x4 λF r env bx R h=>?_;refine#[F,r,env,bx,R,End.bind h λw bx1 F1 r1 v H1 g1 R1 d1 h1=>?_];split at h1
 .ext l;let#[p,vs,rfl,k1,k2]:=d1;exact .inl #[p,rfl,#[vs,.of (R1.fh _ _ k1)],h1 F1 r1 _ H1 zaa R1 (CH k1 k2)]
 .ext l;let#[p,vs,rfl,k1,k2]:=d1;exact .inr #[p,rfl,#[vs,.of (R1.fh _ _ k1)],h1 F1 r1 _ H1 zaa R1 (Fh k1 k2)]
 .exact h1.elim
theorem OK {v:Int}(hg:Gl X x) (hm:∃ t,X.mg x=some (.int v t)) (hd:(x==("__debug__":Str))=zw:=by decide):PD X T Z zcq (dC (.int v)):=by
 let#[t,hm]:=hm;exact Cq (oJ (v:=.int v) hg hm #[t,rfl] hd) λ_=>rfl
end
noncomputable def Wz (XN:List Str) (sc cs:Scope) (N:List Str) (src:List zaw):Bool:=
 decide (cs.kind=.function)&&decide (cs.names.map (·.1)).Nodup&&cs.names.all (λy=>decide (y.2=.local->cs.names.lookup y.1=some .local)) &&
 cs.names.all (λy=>decide (y.2=.free->(sc.names.lookup y.1=some .cell \/ sc.names.lookup y.1=some .free)))&&decide (src.length=N.length) &&
 (List.range src.length).all λj=>match src[j]?,N[j]? with
  |some (some i),some x=>decide (XN[i]?=some x /\ cs.names.lookup x=some .free)
  |_,_=>zO
theorem Fi {XN:List Str}{src:List zaw}{sc cs:Scope}(hX:∀ x,X.env.kindOf x=sc.names.lookup x) (hN:X.N=XN) (h:Wz XN sc cs N src=zO):nZ X N src cs:=by
 subst hN;unfold Wz at h;erw[ao,decide_eq_true_eq,cK]at h;let#[#[#[#[#[h1,h2],h3],h4],h5],h6]:=h;refine#[h1,h2,λy hy=>h3 y hy,λy hy hf=>?_,h5,λj i x e1 e2=>?_]
 .rw[hX];exact h4 y hy hf
 .have q:=h6 j (List.mem_range.mpr (List.getElem?_eq_some_iff.mp e1).1);rw[e1,e2]at q;exact of_decide_eq_true q
section
variable (P:Program) (w:World) (K:PySem.W.Frag) (mg:Str -> Option kz) (base:Heap) (cl:Nat -> Addr)
def nN (k:Nat) (x:Str) (ps:List Str) (fn:List W->List Bx->O W):uu:=
 ∃ (f:Addr) (fd:FuncData),eM P w K mg base (eB P w) k f fd ps (qH cl ps.length fn) /\ mg x=some zb1 /\ PySem.W.keepIn K zb1=zO /\ Binds K fd ps [] /\ ∃ o:Obj,K.lookup f=some o /\ o.data=.func fd
def Def (x:Str) (st:Stmt) (ps:List Str):uu:=∃ (f:Addr) (fd:FuncData),hG K x x st f fd /\ mg x=some zb1 /\ Binds K fd ps []
end
section
variable {k:Nat} {ps:List Str} {m:ah} {nn kk:Nat}
theorem _root_.L2.hG.obj {f:Addr}(F:hG K x qual st f fd):∃ o:Obj,K.lookup f=some o /\ o.data=.func fd:=by
 let#[#[oc,od,kV,doc,pm,an,cdv,ct,pE,_,l,_],_]:=F;exact#[_,l,rfl]
theorem Tp (d:Def K mg x st ps) (S:qa N ps (fH st))
 (kj:∀ (f:Addr) (cdv:kz) (A:Around) (outer:List Env) (s:Shared) (H:Hp) (E:XK) (n:Nat) (F0:Hp),bV k (A.deeper (envOfC x (fH st) s.heap.objs.size f cdv)) ->
  pb (nY qC P w K mg base N x (fH st) f cdv A outer s H E).dh #[H,n,F0] #[E0,cl] (gK st) m) (hn:N.length=nn:=by rfl) (WA:k+1=kk:=by rfl):nN P w K mg base cl kk x ps (aL nn (aR m)):=by
 subst hn WA;let#[f,fd,F,hm,hb]:=d;exact#[f,fd,UP F S (λcdv A outer s H E n F0 hr=>kj f cdv A outer s H E n F0 hr),hm,F.kp,hb,F.obj]
theorem OL (d:Def K mg x st ps):nN P w K mg base cl k x ps (λ_ _=>.bad):=by
 let#[f,fd,F,hm,hb]:=d;refine#[f,fd,#[λvs H Q E h=>?_,λA outer s H args us vs Q E _ _ _ _ h=>?_],hm,F.kp,hb,F.obj]
 .let#[_,_,_,_,_,_,_,h]:=h;exact h.elim
 .let#[_,_,_,_,_,_,_,h]:=h;exact h.elim
end
section
variable {p:Pos} {k k':Nat} {ps:List Str} {m:DE (List W)} {nn:Nat}
theorem Tq (h:nN X.prog X.w X.K X.mg X.base Z.cl k x ps fn) (hr:bV k' X.A) (hk:k<=k') (hg:Gl X x) (hx:Passes (eB X.prog X.w) X Z.E) (ha:cH X T Z (e::es) m) (cu:(x==("__debug__":Str))=zw:=by decide)
 (he:starEach (e::es) X.env=zac::starEach es X.env:=by rfl) (eZ:(backTo pos zbm).any (·.1)=zw:=by rfl) (hn:ps.length=nn:=by rfl):PD X T Z zP (fj fn nn m):=by
 subst hn;let#[f,fd,G,hm,WB,hb,_]:=h;exact Om G (hr.mono hk) hg hm WB hb hx ha cu he eZ
end
end L2.DL
namespace HT
structure SB (kd:SortKind) (b:Array Keyed) (z:SortSt):uu where
 pm:(arrOf z).Perm b
 kd:kindOf z=kd
 fl:failedOf z=zy
 pn:pendingOf z=#[]
section
variable {κ:KeyKind} {kd:SortKind} {b:Array Keyed}
noncomputable abbrev kx (κ:KeyKind) (z:SortSt) (i:Nat):κ.α:=KK κ (arrOf z) i
def Up (κ:KeyKind) (z:SortSt) (n:Nat):uu:=∀ i j,i<=j->j<n->κ.kle (kx κ z i) (kx κ z j)
def Dn (κ:KeyKind) (z:SortSt) (n:Nat):uu:=∀ i j,i<=j->j<n->κ.kle (kx κ z j) (kx κ z i)
def Ends (prog:Program) (w:World) (A:Around) (E:kz->Shared->uu) (s:Shared) (κ:KeyKind) (kd:SortKind) (b:Array Keyed) (n:Nat) (Q:Option Nat->SortSt->uu):uu:=
 ∀ m y,SB kd b y->1<=m->m<=n->Up κ y m->Q (some m) y
end
section
variable {κ:KeyKind} {kd:SortKind} {b:Array Keyed}
end
structure KP (P:Heap->kz->List Int->uu):uu where
 inj:∀ {h:Heap}{v:kz}{ns ms:List Int},P h v ns->P h v ms->ns=ms
 push:∀ {h:Heap}{v:kz}{ns:List Int},P h v ns->∀ o:Obj,P (h.push o) v ns
 upd:∀ {h:Heap}{v:kz}{ns:List Int},P h v ns->∀ {l:Addr}{xs:Array kz}{n:Nat},h.get? l=some (seqObj "list" xs n)->∀ f:Obj->Obj,P (h.update l f) v ns
section
variable {P:Heap -> kz -> List Int -> uu} (KQ:KP P)
include KQ
omit KQ
end
end HT
namespace L2.DL
end L2.DL
namespace HT
inductive qR where
 |i (n:Int)|s (x:Str)|t (ns:List Int)
noncomputable def qR.code:qR->List Int
 |.i n=>[n]
 |.s x=>x.cps.toList.map (λ(c:Nat)=>(c:Int)+1)++[0]
 |.t ns=>ns.flatMap (λn=>[1,n])++[0]
noncomputable def qR.like:qR->qR->Bool
 |.i _,.i _=>zO
 |.s _,.s _=>zO
 |.t _,.t _=>zO
 |_,_=>zw
def afN (l:List qR):List Int:=l.flatMap (λd=>1::d.code)++[0]
def afO (l m:List qR):Bool:=(l.zip m).all λp=>p.1.like p.2
def qR.lt:qR->qR->Bool
 |.i n,.i m=>decide (n<m)
 |.s x,.s y=>decide (x.cps.toList<y.cps.toList)
 |.t n,.t m=>lexLt n m
 |_,_=>zw
end HT
namespace L2.DL
open HT (qR afN afO lexLt)
def kE:List D->Option Res:=wZ
theorem Fj (hu:X.A.units+100<cLine):dD X (.builtin "sorted") (HQ X.K):=Jw
theorem afP:hU (HQ K) kE:=afl
end L2.DL
namespace L2
theorem OM {src:List zaw}{scope:Scope}{Eh:Pos}{wi:TI}{g:TG}{tf:TT}{te:TE}{ii:Nat} 
 (hc:X.calm=zO) (S:nZ X N src scope) (hi:PI X tg iter wi)
 (hg:∀ cl s H C fp,PG zk tg g) (hf:∀ cl s H C fp,PF zk ifs tf) (he:∀ cl s H C fp,PE zk elt te)
 (hN:X.N.Nodup) (qS:X.N[ii]?=some x) (hx:Loc X.env.scope x) (WC:swapsWith zE (some (.Name x pos')) Eh.line X.env=pure zO)
 (WD:X.fn x=zO \/ X.env.scope.names.lookup x=some .local)
 (hs:∀ x,foldedSetIterable iter X.env x=pure x:=by intro _;rfl):PS X (.Assign [.Name x pos'] zE Eh) (Hk (HE src wi g tf te) (Qd ii)):=by
 intro pins s σ H Dn I h;rw[exec_Assign_Name_used _ _ _ _ WC];refine ae (sk (ae ?_))
 change wpAny _ X.A (do let _ <-comprehension zE scope X.env _ (newList []) zw (eval iter X.env) (some (assign (.Name x pos') X.env))) _ _ s
 refine ae (cC (Bb (use:=some (assign (.Name x pos') X.env)) (QQ:=λ_ s'=>SP X pins Dn .next s') hc S hi hg hf he hs I h λD H5 s3 H3 C cl fp s6 σ5 I3 hC I6 fin q5=>?_) (λ_ s' hq=>ag (ag hq)) λ_ _ q=>q);let#[m6,yI,_]:=I6.loc;have IX:Inv X pins σ H5 s6:=fin s6.heap (Heap.SameBut.refl ..)
 change wpAny _ X.A (assign (.Name x pos') X.env zcA) _ _ s6
 refine XJ (A0 (v:=.ref D) IX hN qS hx bz (λs7 I7 ⟨a,sb,ha⟩=>?_) WD);have afQ:C≠a:=λz=>by
  rcases ha with w1|w1
  .have l1:X.env.locals<s3.heap.objs.size:=I3.lt;rw[<-w1,<-z,<-hC]at l1;exact eJ _ l1
  .let#[v1,o1,w2,_]:=I3.cell x a w1;have l1:=aN w2;rw[<-z,<-hC]at l1;exact eJ _ l1
 refine#[m6,yI.sameBut sb afQ,λh' rL=>?_];have vq:H5 C=zy:=I6.free;refine#[σ.set ii (some zcA),H5,?_,q5];have afR:X.env.locals≠C:=λz=>by have l1:=I3.lt;rw[z,<-hC]at l1;exact eJ _ l1
 refine I7.turned (t':=s7.toks) (it:=C) (λb o hb e=>rL.extBut b o hb e) vq (Ne.symm afR) (.inr ?_) (λy c e z=>?_) (λp hp z=>?_)
 .rw[<-hC];exact I3.sz
 .let#[v1,o1,w2,_]:=I3.cell y c e;have l1:=aN w2;rw[z,<-hC]at l1;exact eJ _ l1
 .have l1:=aN (I3.pin p hp).1;rw[z,<-hC]at l1;exact eJ _ l1
end L2
namespace L2.DL
section
variable {src:List (Option Nat)} {scope:Scope} {Eh:Pos} {g:DG} 
theorem Mo (i:Nat) (bo:Bool) (hc:X.calm=zO) (S:nZ X N src scope) (hi:pL X T Z tg iter mi)
 (hg:∀ T cl s H C fp,ku zk T tg g) (hf:∀ T cl s H C fp,PF zk ifs (kT T #[E0,Z.cl] tf)) (he:∀ T cl s H C fp,PD zk T #[E0,Z.cl] elt te)
 (hN:X.N.Nodup) (qS:X.N[i]?=some x:=by rfl) (hx:Loc X.env.scope x:=by first|exact Or.inl bz|exact Or.inr bz) (WC:swapsWith zE (some (.Name x pos')) Eh.line X.env=pure zO:=by rfl)
 (WD:X.fn x=zO \/ X.env.scope.names.lookup x=some .local:=by first|exact .inl bz|exact .inr bz|assumption)
 (hs:∀ x,foldedSetIterable iter X.env x=pure x:=by intro _;rfl):cM X T Z (.Assign [.Name x pos'] zE Eh) (fK (fI bo src mi g tf te) (fg i)):=by
 refine PS.imp (OM (src:=src) (g:=Q2 g) (tf:=Q3 #[E0,Z.cl] tf) (te:=Q4 #[E0,Z.cl] te) hc S hi (λcl s H C fp pins s' σ' H' v u Q I rv ⟨T,q⟩=>hg T cl s H C fp pins s' σ' H' v u Q I rv q)
  (λcl s H C fp pins s' σ' H' Q I ⟨T,q⟩=>hf T cl s H C fp pins s' σ' H' Q I q) (λcl s H C fp pins s' σ' H' Q I ⟨T,q⟩=>he T cl s H C fp pins s' σ' H' Q I q) hN qS hx WC WD hs) λD σ H=>x4 λF r env bx R h=>?_
 refine L8 (T:=T) (Z:=Z) (bo:=bo) (mi:=mi) (g:=g) (tf:=tf) (te:=te) (Q:=λv H1=>D.nx (σ.set i (some v)) H1) #[F,r,env,bx,R,End.bI h λw bx1 F1 r1 v H1 g1 R1 d1 h1=>h1 F1 r1 _ H1 zaa (R1.set d1 i)]
end
noncomputable def a7:Expr->Bool
 |.Starred _ _=>zw
 |_=>zO
def eS:List Expr->Bool
 |[]=>zO
 |e::es=>a7 e&&eS es
theorem fJ (h:a7 e=zO) (es:List Expr) (env:Env):starEach (e::es) env=(zw,eval e env)::starEach es env:=by
 cases e<;>first|rfl|cases h
theorem jE {env:Env}:∀ {es:List Expr},eS es=zO->(backTo pos (starEach es env)).any (·.1)=zw:=by
 intro l_;induction l_ with
 |nil=>exact λ_=>rfl
 |cons e es aq=>
   intro h;have h':(a7 e&&eS es)=zO:=h;rw[ao]at h';rw[fJ h'.1];show (zw||(backTo pos (starEach es env)).any (·.1))=zw;rw[aq h'.2];rfl
theorem ia (h:eS (e::es)=zO):a7 e=zO /\ eS es=zO:=by
 have h':(a7 e&&eS es)=zO:=h
 rwa [ao]at h'
theorem lh (h:a7 e=zO) (es:List Expr) (env:Env):assignEach (e::es) env=(zw,assign e env)::assignEach es env:=by
 cases e<;>first|rfl|cases h
theorem Ao {env:Env}:∀ {es:List Expr},eS es=zO->(assignEach es env).length=es.length /\ (assignEach es env).findIdx? (·.1)=zy:=by
 intro l_;induction l_ with
 |nil=>exact λ_=>#[rfl,rfl]
 |cons e es aq=>
   intro h;let#[h1,h2]:=ia h;let#[a,b]:=aq h2;rw[lh h1];exact#[by rw[bp,bp,a],by rw[List.findIdx?_cons,b];rfl]
section
variable {a b:Expr} {mb mc:DE W} {p p1:Pos} {k k' nn:Nat} {ps:List Str} {m:DE (List W)}
theorem j6 (ha:PD X T Z e ma) (hr:cH X T Z es m) (hn:a7 e=zO:=by rfl):cH X T Z (e::es) (fc ma m):=LV ha hr (fJ hn es X.env)
theorem Mp {id:String}{g:List D->Option Res}(bo:Bool) (hc:dD X zcf q) (hk:hU q g) (hg:Gl X x) (hm:X.mg x=zy) (hv:bootBuiltins x=some zcf) (ha:cH X T Z (e::es) m)
 (cW:eS (e::es)=zO:=by rfl) (hn:x ≠ "__name__":=by decide) (cu:(x==("__debug__":Str))=zw:=by decide):PD X T Z zP (dN bo g m):=
 LZ bo hc hk hg hm hv ha hn cu (fJ (ia cW).1 es X.env) (jE (ia cW).2)
theorem Tr {id:String}{g:List D->Option Res}(bo:Bool) (hc:dD X (.type id) q) (hk:hU q g) (hg:Gl X x) (hm:X.mg x=zy) (hv:bootBuiltins x=some (.type id)) (ha:cH X T Z (e::es) m)
 (cW:eS (e::es)=zO:=by rfl) (hn:x ≠ "__name__":=by decide) (cu:(x==("__debug__":Str))=zw:=by decide):PD X T Z zP (dN bo g m):=
 Js bo hc hk hg hm hv ha hn cu (fJ (ia cW).1 es X.env) (jE (ia cW).2)
theorem US (h:nN X.prog X.w X.K X.mg X.base Z.cl k x ps fn) (hr:bV k' X.A) (hk:k<=k') (hg:Gl X x) (hx:Passes (eB X.prog X.w) X Z.E) (ha:cH X T Z (e::es) m)
 (cW:eS (e::es)=zO:=by rfl) (hn:ps.length=nn:=by rfl) (cu:(x==("__debug__":Str))=zw:=by decide):PD X T Z zP (fj fn nn m):=
 Tq h hr hk hg hx ha cu (fJ (ia cW).1 es X.env) (jE (ia cW).2) hn
theorem UT {n:String}(hT:nJ X.K n) (hg:Gl X "isinstance") (hm:X.mg "isinstance"=zy) (qK:Gl X x) (tj:X.mg x=zy) (hv:bootBuiltins x=some (.type n)) (ha:PD X T Z a ma) (hs:a7 a=zO:=by rfl)
 (hn:x ≠ "__name__":=by decide) (cu:(x==("__debug__":Str))=zw:=by decide):PD X T Z (.Call (.Name "isinstance" p) [a,.Name x p1] [] pos) (f7 n ma):=
 Ox hT hg hm qK tj hv ha hn cu (fJ hs _ X.env) (fJ bz _ X.env) (jE bz)
theorem Ts {g:DG}{q:pd}(h1:ku X T e g) (h2:sY X T es q) (hn:a7 e=zO:=by rfl):sY X T (e::es) (fT g q):=Jt h1 h2 (by rw[lh hn];rfl)
theorem UU {q:pd}(hc:X.calm=zO) (h:sY X T es q) (cW:eS es=zO:=by rfl) (hn:es.length=nn:=by rfl):ku X T (.Tuple es i pos) (iV nn q):=
 Os hc h ((Ao cW).1.trans hn) (Ao cW).2
end
open PySem.W
noncomputable def uz:List Str:=["NoHouse","NoOuts","NoRoom","NoHour","NoPages","NoLot","NoAsks","NoNumber","NoMoves","NoEach","NoOrder","NoPage","NoOut","Twice","Missing","TooMany","NoDeed"]
noncomputable def qT:List Str:=["house","outs","room","hour","pages","lot","asks","number","moves","each","order","page","out","twice","missing","many","deed"]
def wordOf (i:Nat):Str:=qT.getD i ""
structure kY (K:Frag) (mg:Str->Option kz) (R:Addr) (c:Nat->Addr):uu where
 m:∀ i x,uz[i]?=some x->mg x=some (.ref (c i))
 mR:mg "RimeError"=some (.ref R)
 inst:mg "isinstance"=zy
 afS:mg "ValueError"=zy
 ex:∀ i,i<17->excIn K (c i) QP "ValueError.__new__"=zO
 ek:∀ i,i<17->vt K (c i)
 kt:∀ i j,i<17->j<17->kitOne K (.ref (c i)) (.ref (c j))=some (decide (i=j))
 kv:∀ i,i<17->kitOne K (.ref (c i)) (.type "ValueError")=some zO
 kr:∀ i,i<17->kitCls K (.ref (c i)) (.ref R)=some zO
 rb:mroIn K R zce=some zO
def abt (c:Nat->Addr):Sp:=λvs H Q _=>∃ (a:Addr) (i:Nat),vs=[.ref a] /\ i<17 /\ H a=some (.ext (eO a (c i))) /\ ∀ H',kR H H'->Q (.str (wordOf i)) H'
def Ei (P:Program) (w:World) (K:Frag) (mg:Str->Option kz) (base:Heap) (cl:Nat->Addr):uu:=
 ∃ (f:Addr) (fd:FuncData),yO P w K mg base qC 1 f fd ["_law_e"] (abt cl) /\ mg "_law_word"=some zb1 /\ keepIn K zb1=zO /\ Binds K fd ["_law_e"] []
section
variable {a b:Expr} {mb mc:DE W} {p np aV rp yL:Pos} {body:List Stmt} {m k:ah} {n:Str} {c:Nat} {R:Addr}
def Ej (c:Nat) (m:DE W):ah:=λenv bx=>bI zI λ_ bx1=>.exc c bx1
theorem JE (c:Nat) (E:kY X.K X.mg R Z.cl) (hc:X.calm=zO) (l:uo X Z.E) (hg:Gl X x) (hx:uz[c]?=some x) (he:PD X T Z e ma) (hi:c<17:=by decide) (cW:eS [e]=zO:=by rfl) (hd:(x==("__debug__":Str))=zw:=by decide) :
 cM X T Z (.Raise (some (.Call (.Name x np) [e] [] aV)) zy pos) (Ej c ma):=
 PS.imp (LR hc l hg (E.m c x hx) (E.ex c hi) he (fJ (ia cW).1 [] X.env) hd) λD σ H=>x4 λF r env bx Rr h=>
  #[F,r,env,bx,Rr,End.bI h λw bx1 F1 r1 v H1 g1 R1 d1 h1=>#[rfl,h1 F1 r1 H1 zaa R1.drop]]
noncomputable def dY:ah:=λ_ _=>.bad
theorem fM:cM X T Z st dY:=λ_ _ _ _ _ _ h=>by
 let#[_,_,_,_,_,h]:=h;exact h.elim
theorem Rel.same {H2:Hp}(Rr:Rel T F r [] H [] bx) (s:kR H H2):Rel T F r [] H2 [] bx:=
 #[λa u h=>s _ _ (Rr.fh a u h),λi w e=>by simp at e,Rr.len,Rr.nd,λn c a e1 e2=>by
  have:=Rr.box n c a e1 e2;cases c with
  |lst l=>let#[h1,vs,h2,h3]:=this;exact#[h1,vs,s _ _ h2,h3]
  |ai l=>let#[h1,vs,h2,h3]:=this;exact#[h1,vs,s _ _ h2,h3]
  |dT l=>let#[h1,vs,h2,h3]:=this;exact#[h1,vs,s _ _ h2,h3]
  |dead=>let#[u,h2]:=this;exact#[u,s _ _ h2],λa u h hn=>s _ _ (Rr.keep a u h hn),Rr.new,Rr.n0,au _,Rr.fs]
def vL (m:ah):ah:=λenv bx=>match m env bx with
 |.exc c bx1=>if c<17 then .rt (.d (.str (wordOf c))) bx1 else .bad
 |o=>o
theorem ON (i:Nat) {L:Addr}{k':Nat}{afT:Pos}(E:kY X.K X.mg R Z.cl) (W:Ei X.prog X.w X.K X.mg X.base Z.cl) (hr:bV k' X.A) (HF:1<=k') (p9:X.stack=X.env::X.outer) (hJ:X.env.frame=some L) (aaO:L=X.env.locals) (hg:Gl X "RimeError") (afU:Gl X "_law_word")
 (hN:X.N.Nodup) (hi:X.N[i]?=some n) (hn:X.env.kindOf n=some .local) (hb:∀ pn E,pb (X.qE pn E) T #[E,Z.cl] body m)
 (hv:rD X.env.scope n:=by first|exact Or.inl bz|exact Or.inr (Or.inl bz)|exact Or.inr (Or.inr bz)) (hd:(n==("__debug__":Str))=zw:=by decide) (dg:(n==("__classdict__":Str))=zw:=by decide) :
 cM X T Z (.Try body [.ExceptHandler (some (.Name "RimeError" rp)) (some n) [.Return (some (.Call (.Name "_law_word" np) [.Name n aV] [] afT)) p] yL] [] [] pos) (vL m):=by
 intro pins s σ H D I ⟨F,r,env,bx,Rr,h⟩;let#[fW,aiR,gW,mW,kW,bW]:=W;refine SH (i:=i) (E:=λCv _ H'=>∃ c bx' F' r',m env bx=.exc c bx' /\ Cv=.ref (Z.cl c) /\ aT F r F' r' /\ Rel T F' r' [] H' [] bx') p9 hJ aaO hg E.mR E.rb hN hi hn (λpn=>hb pn _)
  (λpn ea=>oM (By (LS (X:=X.hand pn ea) gW ((hr.mono HF).h.mark) afU mW kW bW .nil aej (f8 (oZ (i:=i) hi hv hd dg) ic bz)))) za pins s σ H D I #[?_,?_]
 .refine#[F,r,env,bx,Rr,?_];unfold vL at h;cases e:m env bx with
  |exc c bx1=>exact λF' r' H' g R'=>#[c,bx1,F',r',rfl,rfl,g,R']
  |nx env1 bx1=>rw[e]at h;exact h
  |rt w bx1=>rw[e]at h;exact h
  |bk env1 bx1=>rw[e]at h;exact h
  |ct env1 bx1=>rw[e]at h;exact h
  |bad=>rw[e]at h;exact h
 .rintro σ' ea C H' hl ⟨c,bx1,F',r',e,eC,g,R'⟩ HH;have afV:C=Z.cl c:=Value.ref.inj eC;subst afV;unfold vL at h;rw[e]at h;simp only at h;split at h
  .ext hc;refine#[E.kr c hc,_,qu (by rw[hl];exact(List.getElem?_eq_some_iff.mp hi).1),ea,c,rfl,hc,fE,λH2 s2=>?_];exact h F' r' (.str (wordOf c)) H2 g (R'.same λb o z=>s2 b o (by rw[fA (fQ z HH)];exact z)) bz
  .exact h.elim
end
section
variable {k:Nat} {ps:List Str} {m:ah} {nn kk:Nat}
theorem OP (d:Def K mg x st ps) (S:qa N ps (fH st))
 (kj:∀ (f:Addr) (cdv:kz) (A:Around) (outer:List Env) (s:Shared) (H:Hp) (E:XK) (n:Nat) (F0:Hp),bV k (A.deeper (envOfC x (fH st) s.heap.objs.size f cdv)) ->
  pb (nY (eB P w) P w K mg base N x (fH st) f cdv A outer s H E) #[H,n,F0] #[E,cl] (gK st) m) (hn:N.length=nn:=by rfl) (WA:k+1=kk:=by rfl):nN P w K mg base cl kk x ps (aL nn m):=by
 subst hn WA;let#[f,fd,F,hm,hb]:=d;exact#[f,fd,VP F S (λcdv A outer s H E n F0 hr=>kj f cdv A outer s H E n F0 hr),hm,F.kp,hb,F.obj]
end
section
variable {a:Expr} {p p2 HZ:Pos} {ta:TA} 
theorem OQ {b:Expr}{y:Str}{px py pt:Pos}{kt k2 kQ}(i j:Nat) (hc:X.calm=zO) (hN:X.N.Nodup) (ha:cH X T Z [a,b] ks) (hi:X.N[i]?=some x:=by rfl) (hj:X.N[j]?=some y:=by rfl) (Qe:i≠j:=by decide)
 (hx:X.env.scope.names.lookup x=some .local:=by rfl) (hy:X.env.scope.names.lookup y=some .local:=by rfl)
 (hw:swappedStores [.Tuple [.Name x px,.Name y py] kt pt] zch X.env=pure (some [x,y]):=by rfl)
 (hs:swapsWithSole [.Tuple [.Name x px,.Name y py] kt pt] zch pos.line X.env=pure zw:=by rfl) :
 cM X T Z zaI (nG i j ks):=
 PS.imp (Si hc hN hi hj Qe hx hy ha hw hs) λD σ H h=>UM h
noncomputable def WE (N:List Str) (sc:Scope) (i:Nat) (x:Str):Bool:=decide (N[i]?=some x)&&(decide (sc.names.lookup x=some .local)||decide (sc.names.lookup x=some .cell)||decide (sc.names.lookup x=some .free))&&!(x==("__debug__":Str))&&!(x==("__classdict__":Str))
end
noncomputable def xf:D->V
 |.non=>.non
 |.bl b=>.bl b
 |.int i=>.int i
 |.str x=>.str x
 |_=>.ty ""
noncomputable def kZ:D->Bool
 |.non=>zO
 |.bl _=>zO
 |.int _=>zO
 |.str _=>zO
 |_=>zw
def afW (a b:D):Bool:=dR (xf a) (xf b)
theorem Ap (f:kZ d=zO) (h:Den F d v):v=xf d /\ eA v=zO:=by
 cases d with
 |non=>cases (show v=.non from h);exact#[rfl,rfl]
 |bl b=>cases (show v=.bl b from h);exact#[rfl,rfl]
 |int i=>cases (show v=.int i from h);exact#[rfl,rfl]
 |str x=>cases (show v=.str x from h);exact#[rfl,rfl]
 |_=>cases f
theorem Bh:∀ {l:List D}{vs:List V},l.all kZ=zO->aw F l vs->vs=l.map xf /\ vs.all eA=zO:=by
 intro l_;induction l_ with
 |nil=>(intro _ _ h;cases (show _=[] from h);exact#[rfl,rfl])
 |cons d l aq=>
   intro _ f h;let#[v,r,e,h1,h2]:=h;subst e;rw[eK,ao]at f;let#[e1,f1]:=Ap f.1 h1;let#[e2,f2]:=aq f.2 h2;subst e1;subst e2;exact#[rfl,by rw[eK,f1,f2];rfl]
def k6 (x:D) (l:List D):Bool:=l.any λy=>afW y x
theorem Gw (x:D) (l:List D):Hw (xf x) (l.map xf)=k6 x l:=by
 unfold Hw k6;rw[Kw];rfl
def Ia (neg:Bool):D->D->Option Res:=λx y=>match y with
 |.lst l=>if kZ x=zO /\ l.all kZ=zO then some zbW else zy
 |.tup l=>if kZ x=zO /\ l.all kZ=zO then some zbW else zy
 |_=>zy
theorem abu (neg:Bool):bS (Hy K neg) (Ia neg):=by
 intro F H x y v w Q s sub hx hy e k;unfold Ia at e;have fx:∀ {d:D},kZ d=zO->n8 F H d v->Den F d v:=λ{d} f h=>by
  cases d with
  |non=>exact h
  |bl b=>exact h
  |int i=>exact h
  |str z=>exact h
  |_=>cases f
 cases y with
 |lst l=>
   simp only at e;split at e
   .ext f;cases e;let#[a,vs,rfl,h1,h2]:=hy;let#[e1,f1]:=Ap f.1 (fx f.1 hx);let#[e2,f2]:=Bh f.2 h2;subst e1;subst e2;refine#[a,_,rfl,.inl (ba.of h1),f1,f2,?_];rw[Gw];exact k _ _ #[rfl,rfl]
   .cases e
 |tup l=>
   simp only at e;split at e
   .ext f;cases e;let#[a,vs,rfl,h1,h2]:=hy;let#[e1,f1]:=Ap f.1 (fx f.1 hx);let#[e2,f2]:=Bh f.2 h2;subst e1;subst e2;refine#[a,_,rfl,.inr (aY.of zba),f1,f2,?_];rw[Gw];exact k _ _ #[rfl,rfl]
   .cases e
 |_=>cases e
def Ib (neg:Bool):R2:=λx y H Q=>∃ F dx dy,Sub F H /\ n8 F H dx x /\ n8 F H dy y /\ pO dx=zO /\ pO dy=zO /\ ∃ l,(dy=.lst l \/ dy=.tup l) /\ Q (.bl (if neg then !(l.any λz=>eqv z dx) else l.any λz=>eqv z dx)) H
theorem lD (dx:D):∀ l:List D,((a6 l).any λy=>PyData.eqv y (toPy dx))=l.any λz=>eqv z dx:=by
 intro l_;induction l_ with
 |nil=>exact rfl
 |cons z l aq=>
   show (PyData.eqv (toPy z) (toPy dx)||_)=_;rw[aq];rfl
theorem Tt (hu:X.A.units+100<cLine):aO X (compareOp .In) (Ib zw):=by
 intro pins s σ H x y v u Q I rx ry h;let#[F,dx,dy,sub,hx,hy,ox,oy,l,hl,q]:=h;let#[as,ra]:=jh I sub hx rx;let#[bs,rb]:=jh I sub hy ry;let#[x1,x2]:=mV ox;let#[y1,y2]:=mV oy;rcases hl with rfl|rfl
 .exact SeqAt.in_list_reads rb ra y1 x1 zb zcy
 .exact SeqAt.in_tuple_reads rb ra y1 x1 zb zcy
theorem JF (hu:X.A.units+100<cLine):aO X (compareOp .NotIn) (Ib zO):=by
 intro pins s σ H x y v u Q I rx ry h;let#[F,dx,dy,sub,hx,hy,ox,oy,l,hl,q]:=h;let#[as,ra]:=jh I sub hx rx;let#[bs,rb]:=jh I sub hy ry;let#[x1,x2]:=mV ox;let#[y1,y2]:=mV oy;rcases hl with rfl|rfl
 .exact SeqAt.notIn_list_reads rb ra y1 x1 zb zcy
 .exact SeqAt.notIn_tuple_reads rb ra y1 x1 zb zcy
def xg (neg:Bool) (x y:D) (l:List D):Option Res:=if pO x&&pO y then some (.old (.bl (if neg then !(l.any λz=>eqv z x) else l.any λz=>eqv z x))) else zy
def inD (neg:Bool):D->D->Option Res:=λx y=>match y with
 |.lst l=>if kZ x=zO /\ l.all kZ=zO then some zbW else xg neg x y l
 |.tup l=>if kZ x=zO /\ l.all kZ=zO then some zbW else xg neg x y l
 |_=>zy
theorem okIn (neg:Bool):bS (λx y H Q=>Hy K neg x y H Q \/ Ib neg x y H Q) (inD neg):=by
 intro F H x y v w Q s sub hx hy e k;have g:∀ l,(y=.lst l \/ y=.tup l)->xg neg x y l=some s->Ib neg v w H Q:=λl hl e=>by
  unfold xg at e;split at e
  .ext c;rw[ao]at c;cases e;exact#[F,x,y,sub,hx,hy,c.1,c.2,l,hl,k _ _ #[rfl,rfl]]
  .cases e
 unfold inD at e;split at e
 .ext l;split at e
  .ext f;exact .inl (abu neg F H x zQ v w Q s sub hx hy (by unfold Ia;simp only;rw[if_pos f];exact e) k)
  .exact .inr (g l zbs e)
 .ext l;split at e
  .ext f;exact .inl (abu neg F H x zV v w Q s sub hx hy (by unfold Ia;simp only;rw[if_pos f];exact e) k)
  .exact .inr (g l (.inr bz) e)
 .cases e
section
variable {a b o:Expr} {mb mc:DE W} {p:Pos}
noncomputable def qU:D->Option Key
 |.int i=>some (.inl i)
 |.str x=>some (.inr x)
 |_=>zy
theorem mz {k:Key}(e:qU d=some k) (h:Den F d v):v=kV k:=by
 cases d with
 |int i=>cases e;exact h
 |str x=>cases e;exact h
 |_=>cases e
noncomputable def bF (l:List (Key×D)) (k:Key):Option D:=(l.find? λkv=>decide (kv.1=k)).map (·.2)
noncomputable def pz (l:List (Key×D)) (k:Key) (d:D):List (Key×D):=
 if (l.any λkv=>decide (kv.1=k))=zO then l.map (λkv=>if kv.1=k then (kv.1,d) else kv) else l++[(k,d)]
theorem aI.some {F:Hp}{k:Key}{d:D}:∀ {l:List (Key×D)}{vs:List (Key×V)},aI F l vs->bF l k=some d->∃ v,cz vs k=some v /\ Den F d v
 |[],_,_,e=>by cases e
 | (k',d')::l,_,⟨v,r,e,h1,h2⟩,q=>by
   subst e;by_cases c:k'=k
   .erw[bF,qw,c,decide_true,kM]at q;cases q;exact#[v,lg c,h1]
   .erw[bF,qw,c,decide_false]at q;let#[u,e1,e2]:=aI.some h2 q;exact#[u,(jC c).trans e1,e2]
theorem aI.none {F:Hp}{k:Key}:∀ {l:List (Key×D)}{vs:List (Key×V)},aI F l vs->bF l k=zy->cz vs k=zy
 |[],_,h,_=>by cases (show _=[] from h);rfl
 | (k',d')::l,_,⟨v,r,e,h1,h2⟩,q=>by
   subst e;by_cases c:k'=k
   .erw[bF,qw,c,decide_true,kM]at q;cases q
   .erw[bF,qw,c,decide_false]at q;exact(jC c).trans (aI.none h2 q)
theorem aI.any {F:Hp}(k:Key):∀ {l:List (Key×D)}{vs:List (Key×V)},aI F l vs->(l.any λkv=>decide (kv.1=k))=(vs.any λkv=>decide (kv.1=k))
 |[],_,h=>by cases (show _=[] from h);rfl
 |(k',d')::l,_,⟨v,r,e,h1,h2⟩=>by subst e;erw[sC,aI.any k h2]
theorem aI.map {F:Hp}{k:Key}{d:D}{v:V}(hv:Den F d v):∀ {l:List (Key×D)}{vs:List (Key×V)},aI F l vs->aI F (l.map λkv=>if kv.1=k then (kv.1,d) else kv) (vs.map λkv=>if kv.1=k then (kv.1,v) else kv)
 |[],_,h=>by cases (show _=[] from h);exact rfl
 | (k',d')::l,_,⟨u,r,e,h1,h2⟩=>by
   subst e;by_cases c:k'=k
   .erw[bh,c,if_true];exact#[v,_,rfl,hv,aI.map hv h2]
   .erw[bh,c,if_false];exact#[u,_,rfl,h1,aI.map hv h2]
theorem aI.app {F:Hp}{m:List (Key×D)}{us:List (Key×V)}(hm:aI F m us):∀ {l:List (Key×D)}{vs:List (Key×V)},aI F l vs->aI F (l++m) (vs++us)
 |[],_,h=>by cases (show _=[] from h);exact hm
 |(k',d')::l,_,⟨u,r,e,h1,h2⟩=>by subst e;exact#[u,_,rfl,h1,aI.app hm h2]
theorem aI.put {k:Key}{l:List (Key×D)}{vs:List (Key×V)}(h:aI F l vs) (hv:Den F d v):aI F (pz l k d) (putK vs k v):=by
 unfold pz putK;rw[aI.any k h];split
 .exact aI.map hv h
 .exact aI.app (show aI F [(k,d)] [(k,v)] from#[v,[],rfl,hv,rfl]) h
theorem Mq (R:Rel T F r σ H env bx) {w:W}(d:bR F r w v) {l:List (Key×D)}(e:aQ bx w=some (.ai l)):∃ a af,v=.ref a /\ H a=some zcB /\ aI F l af:=by
 cases w with
 |d x=>
   cases (show some x=some (.ai l) from e);let#[a,vs,rfl,h1,h2]:=d;exact#[a,vs,rfl,R.fh _ _ h1,h2]
 |b n=>
   let#[a,rfl,ha]:=d;let#[c,hc,kc]:=R.nF ha;erw[aQ,hc]at e;cases c with
   |ai l'=>
     cases e;let#[_,vs,h1,h2]:=kc;exact#[a,vs,rfl,h1,h2]
   |lst l'=>cases e
   |dead=>cases e
   |dT _=>cases e
 |s l'=>cases e
 |x i=>cases e
 |t _=>cases e
 |m _=>cases e
def rS (m k:DE W):DE W:=λenv bx=>fC zI λx bx1=>fC (k env bx1) λy bx2=>match y,aQ bx2 x with
 |.d d,some (.ai l)=>(match (qU d).bind (bF l) with|some u=>.val (.d u) bx2|none=>.bad)
 |_,_=>.bad
theorem Tu {Q:VK}(h:tD T Z (rS ma mb) σ H Q):abd (tD T Z ma) (tD T Z mb) σ H Q:=by
 let#[F,r,env,bx,R,h]:=h;refine#[F,r,env,bx,R,End.bind h λx bx1 F1 r1 v H1 g1 R1 d1 h1=>#[F1,r1,env,bx1,R1,End.bind h1 λy bx2 F2 r2 u H2 g2 R2 d2 h2=>?_]];split at h2
 .ext d l q;let#[a,af,rfl,k1,k2]:=Mq R2 (g2.den d1) q;split at h2
  .ext w hw;let#[k,e1,e2]:=Option.bind_eq_some_iff.mp hw;cases mz e1 d2;let#[z,e3,e4]:=aI.some k2 e2;exact#[a,z,rfl,e3▸tq.k k1,h2 F2 r2 _ H2 (.refl F2 r2) R2 e4]
  .exact h2.elim
 .exact h2.elim
theorem OR (hu:X.A.units+1<cLine) (ho:PD X T Z o ma) (hi:PD X T Z e mb) (hs:HR e):PD X T Z (.Subscript o e pos) (rS ma mb):=
 PE.imp (OB hu ho hi hs) λσ H Q h=>Tu h
def rT (neg:Bool) (k m:DE W):DE W:=λenv bx=>fC zcY λy bx1=>fC (m env bx1) λx bx2=>match y,aQ bx2 x with
 |.d d,some (.ai l)=>(match qU d with|some k=>.val (.d (.bl (if neg then !(bF l k).isSome else (bF l k).isSome))) bx2|none=>.bad)
 |_,_=>.bad
theorem UV {l:List (Key×D)}{vs:List (Key×V)}(h:aI F l vs) (k:Key):(cz vs k).isSome=(bF l k).isSome:=by
 cases q:bF l k with
 |none=>rw[aI.none h q];rfl
 |some d=>let#[v,e,_]:=aI.some h q;rw[e];rfl
theorem RI {Q:VK}(h:tD T Z (rT zw mb ma) σ H Q):abe (tD T Z mb) (tD T Z ma) σ H Q:=by
 let#[F,r,env,bx,R,h]:=h;refine#[F,r,env,bx,R,End.bind h λy bx1 F1 r1 u H1 g1 R1 d1 h1=>#[F1,r1,env,bx1,R1,End.bind h1 λx bx2 F2 r2 v H2 g2 R2 d2 h2=>?_]];split at h2
 .ext d l q;let#[a,af,rfl,k1,k2]:=Mq R2 d2 q;split at h2
  .ext k e1;cases mz e1 (g2.den (w:=.d d) d1);refine#[a,_,rfl,tq.k k1,?_];rw[UV k2];exact h2 F2 r2 _ H2 (.refl F2 r2) R2 bz
  .exact h2.elim
 .exact h2.elim
theorem Tv (hu:X.A.units+1<cLine) (hi:PD X T Z e mb) (ho:PD X T Z o ma) (hm:behindInMarks .In o=zw):PD X T Z (.Compare e [.In] [o] pos) (rT zw mb ma):=
 PE.imp (Sb (Me hu hi ho) hm) λσ H Q h=>RI h
def uA (m k v:DE W):ah:=λenv bx=>bI (v env bx) λz bx1=>bI (m env bx1) λx bx2=>bI (k env bx2) λy aP=>match x,y,z with
 | .b n,.d d,.d u=>(match aP[n]?,qU d with
   |some (.ai l),some k=>if l.length<sizeLine then .nx env (aP.set n (.ai (pz l k u))) else .bad
   |_,_=>.bad)
 |_,_,_=>.bad
theorem UW {D:Ends}(h:tS T Z (uA ma mb mc) D σ H):abf (tD T Z ma) (tD T Z mb) (tD T Z mc) D σ H:=by
 let#[F,r,env,bx,R,h]:=h;refine#[F,r,env,bx,R,End.bI h λz bx1 F1 r1 t H1 g1 R1 d1 h1=>#[F1,r1,env,bx1,R1,End.bI h1 λx bx2 F2 r2 v H2 g2 R2 d2 h2=>#[F2,r2,env,bx2,R2,End.bI h2 λy aP F3 r3 u H3 g3 R3 d3 h3=>?_]]];split at h3
 .ext n d w;let#[a,rfl,ha]:=(g3.den (w:=.b n) d2:bR F3 r3 (.b n) v);let#[c,hc,kc]:=R3.nF ha;rw[hc]at h3;split at h3
  .ext l k e1 e2;cases e1;split at h3
   .ext hl;let#[hF,af,k1,k2]:=kc;cases mz e2 d3;have dz:Den F3 w t:=g3.den (w:=.d w) (g2.den (w:=.d w) d1);exact#[a,_,rfl,.inl #[af,k,k1,rfl,by rw[<-aI.length k2];exact hl,rfl],h3 F3 r3 _ _ (.refl F3 r3) (R3.write ha hF #[hF,_,fE,aI.put k2 dz])]
   .exact h3.elim
  .exact h3.elim
 .exact h3.elim
theorem Mr {value:Expr}(hu:X.A.units+1<cLine) (ho:PD X T Z o ma) (hi:PD X T Z e mb) (hv:PD X T Z value mc) (hs:swapsWith value (some (.Subscript o e pos')) pos.line X.env=pure zw:=by rfl) :
 cM X T Z (.Assign [.Subscript o e pos'] value pos) (uA ma mb mc):=
 PS.imp (OC hu ho hi hv hs) λD σ H h=>UW h
def abv (td ty tx:TE):TE:=λσ H Q=>td σ H λx H1=>∃ a,x=.ref a /\ Wr H1 a /\ ty σ H1 λy H2=>tx σ H2 λz H3=>∃ af k,H3 a=some zcB /\ y=kV k /\ af.length<sizeLine /\
 (∀ v,cz af k=some v->Q v H3) /\ (cz af k=zy->Q z (upd H3 a (.dK (putK af k z))))
theorem OT {f:Expr}{td ty tx:TE}{aV:Pos}(ho:PE X o td) (he:PE X e ty) (hf:PE X f tx) (m:M2 X o "setdefault" apos e f aV):PE X zc3 (abv td ty tx):=by
 intro pins s σ H Q I h;refine Kd m.base m.abg m.line K4 Hc ZH (tE (ho pins s σ H _ I h) λu s1 x H1 I1 rx hh=>?_);let#[a,ex,d,q1]:=hh;subst ex;obtain rfl:u=Value.ref a:=rx;let#[t1,t2,_]:=Fc I1 d;refine#[t1,t2,?_];rw[m.trees];refine E9 bz (Ha (uZ (tE (he pins s1 σ H1 _ I1 q1) λiv s2 y H2 I2 ry q2=>uZ (tE (hf pins s2 σ H2 _ I2 q2) λfv s3 z H3 I3 rz ⟨af,k,ea,ey,el,q3,q4⟩=>ym ?_))));subst ey;let#[zl,hd,vs,rel,dd]:=Mc I3.aj ea;refine Ke Hc dd.typeIs ZI (ZJ _ _ _) (kt_meets_setdefault (dt X.prog X.w) a (Be ry) hd fv) #[vs,dd,by rw[<-rel.length];exact zl,λv hv=>?_,λhn h' qh hs=>?_]
 .cases l:cz af k with
  |none=>have qz:valueAt vs k=zy:=kO.none_of (by rw[<-l];exact rel.val k);rw[hv]at qz;cases qz
  |some v'=>
    let#[w',hw,nW]:=kO.some_of (v:=v') (o:=valueAt vs k) (by rw[<-l];exact rel.val k);rw[hv]at hw;cases hw;exact#[v',H3,I3.tok _,nW,q3 v' l]
 .have l:cz af k=zy:=by
   cases l:cz af k with
   |none=>rfl
   |some v'=>
     let#[w',hw,nW]:=kO.some_of (v:=v') (o:=valueAt vs k) (by rw[<-l];exact rel.val k);rw[hn]at hw;cases hw
  have he:∃ q,h'.get? a=some q:=let ⟨q,_,_,hq,_⟩:=qh;#[q,hq]
  have hl:(putK af k z).length<=sizeLine:=by have:=iW af k z;lia
  exact#[z,_,mn I3 (by rw[ea];exact True.intro) hs he (Fa hl hd (rel.put k rz) qh),rz,q4 l]
def uB (m k v:DE W):DE W:=λenv bx=>fC zI λx bx1=>match x with
 | .b n=>(match bx1[n]? with
   | some (.ai _)=>fC (k env bx1) λy bx2=>fC (v env bx2) λz aP=>(match y,z,aP[n]? with
     | .d d,.d u,some (.ai l)=>(match qU d with
       |some k=>if l.length<sizeLine then (match bF l k with|some w=>.val (.d w) aP|none=>.val (.d u) (aP.set n (.ai (pz l k u)))) else .bad
       |none=>.bad)
     |_,_,_=>.bad)
   |_=>.bad)
 |_=>.bad
theorem Tw {Q:VK}(h:tD T Z (uB ma mb mc) σ H Q):abv (tD T Z ma) (tD T Z mb) (tD T Z mc) σ H Q:=by
 let#[F,r,env,bx,R,h]:=h;refine#[F,r,env,bx,R,End.bind h λx bx1 F1 r1 v H1 g1 R1 d1 h1=>?_];cases x with
 |d _=>exact h1.elim
 |s _=>exact h1.elim
 |x _=>exact h1.elim
 |t _=>exact h1.elim
 |m _=>exact h1.elim
 |b n=>
   simp only at h1;let#[a,rfl,ha]:=d1;let#[c,hc,kc]:=R1.nF ha;rw[hc]at h1;cases c with
   |lst _=>exact h1.elim
   |dead=>exact h1.elim
   |dT _=>exact h1.elim
   |ai l0=>
     let#[_,uv,k0,_]:=kc;refine#[a,rfl,.inl #[uv,.inl k0],F1,r1,env,bx1,R1,End.bind h1 λy bx2 F2 r2 u H2 g2 R2 d2 h2=>#[F2,r2,env,bx2,R2,End.bind h2 λz aP F3 r3 t H3 g3 R3 d3 h3=>?_]];let#[t1,WG]:=g2.p;let#[t2,afX]:=g3.p;have uw:r2[n]?=some a:=by rw[<-WG,dn (List.getElem?_eq_some_iff.mp ha).1];exact ha
     have Ek:r3[n]?=some a:=by rw[<-afX,dn (List.getElem?_eq_some_iff.mp uw).1];exact uw
     let#[c2,dQ,tm]:=R3.nF Ek;rw[dQ]at h3;split at h3
     .ext d w l eq;cases eq;let#[hF,vs,k1,k2]:=tm;split at h3
      .ext k e1;cases mz e1 (g3.den (w:=.d d) d2);split at h3
       .ext hl;refine#[vs,k,k1,rfl,by rw[<-aI.length k2];exact hl,λv' vM=>?_,λhn=>?_]
        .split at h3
         .ext w' qV;let#[v2,e2,e3]:=aI.some k2 qV;rw[vM]at e2;cases e2;exact h3 F3 r3 _ H3 (.refl F3 r3) R3 e3
         .ext qV;rw[aI.none k2 qV]at vM;cases vM
        .split at h3
         .ext w' qV;let#[v2,e2,e3]:=aI.some k2 qV;rw[hn]at e2;cases e2
         .exact h3 F3 r3 _ _ (.refl F3 r3) (R3.write Ek hF #[hF,_,fE,aI.put k2 d3]) d3
       .exact h3.elim
      .exact h3.elim
     .exact h3.elim
theorem OU {f:Expr}(ho:PD X T Z o ma) (ha:PD X T Z e mb) (hf:PD X T Z f mc) (cW:a7 e=zO:=by rfl) (aiS:a7 f=zO:=by rfl)
 (vo:attributeBase o "setdefault" X.env (eval o X.env)=eval o X.env:=by rfl)
 (vp:((backTo pos (starEach [e,f] X.env)).all (λx=>!x.1)&&(backToKw pos (keywordEach [] X.env)).all (λx=>x.1.isSome)
  && decide ([e,f].length+([]:List Keyword).length+(if ([]:List Keyword).isEmpty then 0 else 1)<30))=zO:=by rfl)
 (hline:zcz=zO:=by rfl) (ht:backTo pos (starEach [e,f] X.env)=[zac,(zw,eval f X.env)]:=by rfl):PD X T Z (.Call (.Attribute o "setdefault" apos) [e,f] [] pos) (uB ma mb mc):=
 PE.imp (OT ho ha hf #[vo,vp,hline,ht]) λσ H Q h=>Tw h
end
end L2.DL
namespace L2
def WH (K:PySem.W.Frag) (a:Addr):It:=
 #[λi H=>∃ (xs:List V) (x:V),ba K H a xs /\ xs[i]?=some x,
  λi H w H'=>∀ (xs:List V),ba K H a xs->∃ (p:Addr) (x:V),xs[i]?=some x /\ H p=zy /\ w=.ref p /\ H'=upd H p (.tup [.int (i:Nat),x]),
  λi H=>∃ (xs:List V),ba K H a xs /\ i=xs.length]
theorem JG {elts:List Expr}{kt:Nat}{tp:Pos}{n:Addr} :
 Turn P w K (.Tuple elts kt tp) (WH K a) [n+1,n] (n+1) (λi h=>(∃ old,IsEnum h (n+1) n (i:Nat) old) /\ h.IsListIter n a i) where
 mem:=by simp
 obj:=λi h st c hc=>by
  let#[#[old,z1],#[o4,e4,c4,d4]]:=st;erw[aH,dq,or_false]at hc;rcases hc with rfl|rfl
  .exact#[_,z1,λv z=>by cases z]
  .exact#[o4,e4,λv z=>by rw[d4]at z;cases z]
 keep:=λi h h' st k=>by
  let#[#[old,z1],z4]:=st;exact#[#[old,k _ zf _ z1],z4.at λo e=>k _ zf o e]
 item:=by
  intro X hP hw hK hc i pins s σ H E I hf st hg;subst hP hw hK;let#[xs,x,q1,e1]:=hg;let#[#[old,z1],z4]:=st;let#[i1,r1,p1,l1]:=I.list q1;have hx:=(List.getElem?_eq_some_iff.mp e1).1;let#[w1,f1,g1]:=r1.get e1;have ne1:(n+1:Nat)≠n:=Yq n;refine wpAny_pyNext_enum_item z1 z4 p1.isList (x:=w1) (by simpa using f1) ne1 λh' b1 b2 b3 b4 b5=>#[_,rfl,?_];refine wpAny_letOwnedTupleGo_enum b1 λh2 vK dA=>?_;have tJ:(n+1:Nat)<s.heap.objs.size:=aN z1;have xc:h2.get? s.heap.objs.size=some { cls:=.type "tuple",data:=.seq (List.toArray [.int i s.toks,w1]) }:=dA.extBut _ _ (tZ tJ) b3;have nw:H s.heap.objs.size=zy:=I.aj.fresh (au _);have I2:Inv X pins σ (upd H s.heap.objs.size (.tup [.int (i:Nat),x])) { s with heap:=h2,toks:=s.toks+1 }:=by
   refine I.abn (ch:=[n+1,n]) hf (λc o bM e=>?_) (au _) ?_
   .erw[aH,dq,or_false,not_or]at bM;exact dA.extBut _ _ bM.1 (b5 c o bM.1 bM.2 e)
   .exact#[by show 2<=sizeLine;decide,[.int i s.toks,w1],.cons #[_,rfl] (.cons g1 .nil),#[_,xc,rfl,_,rfl]]
  refine#[.ref s.heap.objs.size,_,I2,rfl,λafJ y1=>#[_,x,by rw[I.Z5 y1 q1];exact e1,nw,rfl,rfl],#[#[_,by have:=vK;push_cast;exact this],?_],λc bM=>?_]
  .exact b2.at λo e=>dA.extBut _ _ (Ne.symm ne1) e
  .rw[fA]
   .exact(hf c bM).1
   .intro z;subst z;erw[aH,dq,or_false]at bM;rcases bM with q|q
    .exact absurd q (tZ tJ)
    .exact absurd q (tZ (Nat.lt_of_succ_lt tJ))
 done:=by
  intro X hP hw hK hc i pins s σ H E I hf st hg;subst hP hw hK;let#[xs,q1,hk]:=hg;let#[#[old,z1],z4]:=st;let#[i1,r1,p1,l1]:=I.list q1;refine wpAny_pyNext_enum_end zbN z1 z4 p1.isList (by simp[<-r1.length,hk]) λh' eb=>#[rfl,I.abo (t':=s.toks) (ch:=[n+1,n]) hf λc o bM e=>?_];erw[aH,dq,or_false,not_or]at bM;exact eb c o bM.2 e
 self:=λ_ _ _ _ _ st h=>Yg st.1.choose_spec h
def afY (K:PySem.W.Frag) (ta:TA):TI:=λσ H R=>ta σ H λvs H2=>∃ (p:Addr) (xs:List V),vs=[.ref p] /\ ba K H2 p xs /\ R (WH K p) H2
theorem OV {a:Expr}{ta:TA}{p tp:Pos}{elts:List Expr}{kt:Nat}(hg:Gl X "enumerate") (hm:X.mg "enumerate"=zy) (ha:PA X [a] ta) (hs:starEach [a] X.env=[zaz]:=by rfl) :
 PI X (.Tuple elts kt tp) (.Call (.Name "enumerate" p) [a] [] pos) (afY X.K ta):=by
 intro pins s σ H R I h;refine sq (jj I hg hm (by decide +kernel:bootBuiltins "enumerate"=some (.type "enumerate")) ?_);refine yj (tA za4 λus s1 vs H2 I2 r2 q=>?_) hs bz;let#[x,xs,rfl,hx,q]:=q;let#[u,rfl,ru]:=r2.one;cases ru;let#[i1,r1,p1,_]:=I2.list hx;refine call_enumerate_list p1.isList λh' b1 b2 b3 b4=>?_;refine Yg b1 ?_;refine#[s1.heap.objs.size+1,_,_,_,H2,rfl,I2.kept (t':=s1.toks) b4,JG,#[#[_,b1],b2],λc hc=>?_,q];have hle:s1.heap.objs.size<=c:=by
  erw[aH,dq,or_false]at hc;rcases hc with z|z<;>(rw[z];first|exact au _|exact uV _ _)
 exact I2.wR hle (I2.aj.fresh hle)
end L2
namespace L2.DL
section
variable {a:Expr} {p tp:Pos} {elts:List Expr} {kt:Nat} {k:DE (List W)}
noncomputable def rV:Nat->List D->List W
 |_,[]=>[]
 |n,x::l=>.d (.tup [.int (n:Nat),x])::rV (n+1) l
theorem Bi:∀ (n:Nat) (l:List D),(rV n l).length=l.length
 |_,[]=>rfl
 |n,_::l=>by erw[rV,bp,Bi (n+1) l]
theorem Bj:∀ {l:List D}{n i:Nat}{w:W},(rV n l)[i]?=some w->∃ x,l[i]?=some x /\ w=.d (.tup [.int ((n+i:Nat):Int),x])
 |[],_,_,_,e=>by simp[rV]at e
 |x::l,n,0,w,e=>by simp[rV]at e;exact#[x,rfl,e.symm]
 | x::l,n,i+1,w,e=>by
   let#[y,h1,h2]:=Bj (l:=l) (n:=n+1) (i:=i) (w:=w) (by simpa[rV] using e);refine#[y,by simpa using h1,?_];rw[h2,show n+1+i=n+(i+1) by lia]
def WI (k:DE zan):DE zan:=λenv bx=>fC zcY λws bx1=>match ws with
 |[.d (.lst l)]=>.val (rV 0 l) bx1
 |_=>.bad
theorem CI {p:Addr}(hp:F p=some zbI) (dl:aw F l vs):vD F r (rV 0 l) (WH K p):=by
 intro T i F1 r1 σ1 H1 env1 bx1 g R;have s1:ba K H1 p vs:=.of (R.fh _ _ (g.s _ _ hp));have e1:=dl.length;refine#[λhl=>?_,λw e=>?_]
 .rw[Bi]at hl;exact#[vs,s1,by lia]
 .let#[x,h1,rfl]:=Bj e;rw[Ko];let#[v,f1,d1]:=dl.get h1;refine#[#[vs,v,s1,f1],λw H2 hy=>?_];let#[a,v',g1,ha,rfl,rfl]:=hy vs s1;rw[f1]at g1;cases g1;have gr:=R.rO (o:=.tup [.int (i:Nat),v]) ha;exact#[_,gr,R.vA ha,a,[.int (i:Nat),v],rfl,fE,.cons (show Den _ (.int (i:Nat)) (.int (i:Nat)) from rfl) (.cons (Den.mono (g.trans gr).s x d1) .nil)]
theorem Ms (hg:Gl X "enumerate") (hm:X.mg "enumerate"=zy) (ha:cH X T Z [a] k) (hs:starEach [a] X.env=[zaz]:=by rfl) :
 pL X T Z (.Tuple elts kt tp) (.Call (.Name "enumerate" p) [a] [] pos) (WI k):=by
 refine PI.imp (OV hg hm ha hs) λσ H Q=>x4 λF r env bx R h=>?_;refine#[F,r,env,bx,R,End.bind h λws bx1 F1 r1 vs H1 g1 R1 d1 h1=>?_];split at h1
 .ext l;let#[v,t,rfl,#[p,us,rfl,k1,k2],rt]:=d1;cases (show t=[] from rt);exact#[p,us,rfl,.of (R1.fh _ _ k1),h1 F1 r1 _ H1 zaa R1 (CI k1 k2)]
 .exact h1.elim
def El (bo:Bool) (k:Int) (i:Nat):DE W:=λenv bx=>match env[i]? with
 |some (some (.d d))=>b0 bo (some (.ai [(.inl k,d)])) bx
 |_=>.bad
theorem OW (bo:Bool) (i:Nat) {k:Int}{j1:Nat}{q1 afZ:Pos}(hv:WE X.N X.env.scope i x=zO):PD X T Z (.Dict [some (.Constant (.int k) j1 q1)] [.Name x afZ] pos) (El bo k i):=by
 erw[WE,ao,uR,decide_eq_true_eq,qr]at hv;let#[#[#[h1,h2],h3],h4]:=hv;have h5:rD X.env.scope x:=by
  rcases h2 with(h2|h2)|h2
  .exact .inl h2
  .exact .inr (.inl h2)
  .exact .inr (.inr h2)
 refine PE.imp (Gu (CC mM (oZ h1 h5 h3 h4) Gs) bz bz zf zf) λσ H Q=>x4 λF r env bx R h=>?_;unfold El at h;split at h
 .ext d he;let#[v,e1,e2]:=R.slot i _ he;intro p hp;refine#[v,e1,fE,[(.inl k,v)],rfl,by simp,?_];rw[FX];exact ir R h #[p,[(.inl k,v)],rfl,hp,rfl,#[_,_,rfl,e2,rfl]]
 .exact h.elim
theorem Mt {a b:Expr}{y:Str}{px py pt:Pos}{kt k2 kQ}(i j:Nat) (hc:X.calm=zO) (hN:X.N.Nodup) (ha:cH X T Z [a,b] ks) (hi:X.N[i]?=some x:=by rfl) (hj:X.N[j]?=some y:=by rfl)
 (hx:Loc X.env.scope x:=by first|exact Or.inl bz|exact Or.inr bz) (hy:Loc X.env.scope y:=by first|exact Or.inl bz|exact Or.inr bz)
 (af0:X.fn x=zO \/ X.env.scope.names.lookup x=some .local:=by first|exact .inl bz|exact .inr bz) (af1:X.fn y=zO \/ X.env.scope.names.lookup y=some .local:=by first|exact .inl bz|exact .inr bz)
 (hs:swapsWithSole [.Tuple [.Name x px,.Name y py] kt pt] zch pos.line X.env=pure zw:=by rfl)
 (hw:swappedStores [.Tuple [.Name x px,.Name y py] kt pt] zch X.env=pure zy:=by rfl)
 (h0:(assignEach [.Tuple [.Name x px,.Name y py] kt pt] X.env).map (·.2)=[assign (.Tuple [.Name x px,.Name y py] kt pt) X.env]:=by rfl)
 (h1:(assignEach [.Name x px,.Name y py] X.env).map (·.2)=assign (.Name x px) X.env::(assignEach [.Name y py] X.env).map (·.2):=by rfl)
 (h2:(assignEach [.Name y py] X.env).map (·.2)=assign (.Name y py) X.env::(assignEach [] X.env).map (·.2):=by rfl)
 (hn:(assignEach [.Name x px,.Name y py] X.env).length=2:=by rfl) (p9:(assignEach [.Name x px,.Name y py] X.env).findIdx? (·.1)=zy:=by rfl) :
 cM X T Z zaI (nG i j ks):=by
 refine PS.imp (Lu (BB ha) (Ls hc (o6 (Bz hN hi hx af0) (o6 (Bz hN hj hy af1) F6 h2) h1) hn p9) hs hw h0) λD σ H=>x4 λF r env bx R h=>?_;refine#[F,r,env,bx,R,End.bI h λws bx1 F1 r1 vs H1 g1 R1 d1 h1=>?_];split at h1
 .let#[v,t,rfl,q1,u,t2,rfl,q2,q3]:=d1;cases (show t2=[] from q3);refine#[by show 2<=sizeLine;decide,λp hp=>?_];have gr:=R1.rO (o:=.tup [v,u]) hp;exact#[p,[v,u],rfl,aY.of fE,rfl,v,[u],rfl,u,[],rfl,rfl,h1 _ r1 _ _ gr (((R1.vA hp).set (gr.den q1) i).set (gr.den q2) j)]
 .exact h1.elim
end
def abw (K:PySem.W.Frag) (vs:List V) (H:Hp) (Q:VK):uu:=∃ (p:Addr) (bs:List Bool),vs=[.ref p] /\ H p=some (.lst (bs.map V.bl)) /\ Q (.bl (bs.any id)) H
theorem JH (bs:List Bool):((List.range bs.length).any λi=>(bs[i]?).getD zw)=bs.any id:=by
 rw[sy,sH,sH];constructor
 .rintro⟨i,m,h⟩;have hi:=List.mem_range.mp m;rw[cU hi]at h;exact#[bs[i],uX hi,h]
 .rintro⟨b,m,h⟩;let#[i,hi,e]:=List.mem_iff_getElem.mp m;exact#[i,List.mem_range.mpr hi,by rw[cU hi,e];exact h]
theorem JI (hc:X.calm=zO):dD X (.builtin "any") (abw X.K):=by
 intro pins s σ H xs us Q I rv h;let#[p,bs,rfl,hp,q]:=h;let#[u,rfl,ru]:=Vals.one rv;cases ru;let#[its,r1,p1,z1]:=I.list (ba.of (K:=X.K) hp);have hl:=p1.isList;have qI:p<s.heap.objs.size:=by let#[_,e,_]:=hl;exact aN e
 have hlen:bs.length=its.length:=by have:=r1.length;simpa using this
 refine call_any_walk (EK hl ?_);refine#[s.heap.objs.size,[s.heap.objs.size,p],[s.heap.objs.size],its.toArray.size,_,_,λi=>(bs[i]?).getD zw,rfl,Walks.list (A:=X.A.in1) zbN _ p (bT qI) its.toArray,
  #[#[_,bw _ bz,rfl,rfl],hl.push _],λi v s' Q' E' hP hQ=>?_,λh' tk hk=>?_]
 .have yV:its[i]?=some v:=by simpa using hP
  have hi:i<bs.length:=by rw[hlen];exact(List.getElem?_eq_some_iff.mp yV).1
  let#[w,e1,e2]:=r1.get (i:=i) (x:=V.bl bs[i]) (by simp[hi]);rw[yV]at e1;cases e1;cases e2;erw[cU hi,E8]at hQ;exact pV hQ
 .have e:((List.range its.toArray.size).any λi=>(bs[i]?).getD zw)=bs.any id:=by
   rw[bf,<-hlen];exact JH bs
  rw[e];exact#[.bl _,H,I.kept (t':=tk) (ZV hk),rfl,q]
def xh:List D->Option Res
 |[.lst l]=>(qg l).map λbs=>.old (.bl (bs.any id))
 |_=>zy
theorem af2:hU (abw K) xh:=by
 intro F H xs vs Q s sub rx e k;unfold xh at e;split at e
 .ext l;let#[v,t,rfl,#[a,us,rfl,h1,h2],rt]:=rx;cases (show t=[] from rt);cases e1:qg l with
  |none=>rw[e1]at e;cases e
  |some bs=>
    rw[e1]at e;cases e;have q1:=h2.Wm e1;subst q1;exact#[a,bs,rfl,h1,k _ _ #[rfl,rfl]]
 .cases e
section
variable {a:Expr} 
end
end L2.DL
namespace HT
open PySem.W
abbrev Kp (h h':Heap):uu:=∀ b o,h.get? b=some o->h'.get? b=some o
section
variable {l I S:Addr} {nm:String} {vs:List kz} 
theorem Gx {h:Heap}(hl:h.IsList l vs.toArray) (k:Kp h h'):h'.IsList l vs.toArray:=by
 let#[o,ho,r]:=hl;exact#[o,k _ _ ho,r]
theorem Fk {h h1 h2:Heap}(k:Kp h h1) (hI:h.get? I=zy) (hk:∀ b o,b∉[I]->h1.get? b=some o->h2.get? b=some o):Kp h h2:=λb o e=>hk b o (λz=>by rw[bu.mp z,hI]at e;cases e) (k b o e)
theorem Gy {h h1 h2:Heap}(k:Kp h h1) (hS:h.get? S=zy) (hk:Heap.SameBut S h1 h2):Kp h h2:=λb o e=>(hk.2 b (λz=>by rw[z,hS]at e;cases e)).trans (k b o e)
noncomputable def pick (kf:Nat->Int) (j:Nat):Option Nat->Nat
 |none=>j
 |some i=>if kf j<kf i then j else i
theorem mX (kf:Nat->Int) (j i:Nat):pick kf j (some i)=if kf j<kf i then j else i:=rfl
structure Em (s:Shared) (l I S:Addr) (vs:List kz) (kf:Nat->Int) (j:Nat) (h:Heap) (c:Option Nat):uu where
 kp:Kp s.heap h
 it:h.IsListIter I l j
 box:∃ xs n,h.get? S=some (seqObj "list" xs n) /\ match c with
  |none=>xs=#[]
  |some i=>∃ v t,vs[i]?=some v /\ xs=(List.toArray [v,.int (kf i) t])
abbrev WJ (prog:Program) (w:World) (A:Around) (s:Shared) (nm:String) (vs:List kz) (kf:Nat->Int):uu:=
 ∀ (i:Nat) (v:kz),vs[i]?=some v->∀ (h:Heap) (tk:Nat),Kp s.heap h ->
  wpAny zg A.in1 (call (.builtin nm) [v]) (λr s'=>∃ h' pB t,r=.int (kf i) t /\ s'={ s with heap:=h',toks:=pB } /\ Kp h h') (λ_ _=>False) { s with heap:=h,toks:=tk }
section
variable {kf:Nat -> Int} (hh:A.handled = zy) (hl:s.heap.IsList l vs.toArray) (En:l ≠ I) (xi:S ≠ I) (Eo:s.heap.get? S = zy) (xj:s.heap.get? I = zy)
include hh hl En xi Eo xj
theorem Mu {h:Heap}{tk:Nat}(M:Em s l I S vs kf vs.length h (some i)) (hR:∀ v h' pB,vs[i]?=some v->Kp s.heap h'->R (.ok (.ret v)) { s with heap:=h',toks:=pB }) :
 codeAny zg A zbi R { s with heap:=h,toks:=tk }:=by
 let#[xs,n,hb,v,t,hv,rfl]:=M.box;refine uO ZK ((He wI (A:=A) #[[.ref I,.builtin nm,.ref S],[]]).symm▸?_);refine ae (qZ hb bz (ae (ET ?_)));refine(Walks.list (prog:=prog) (w:=w) (A:=A.in1) hh I l En vs.toArray).done _ _ _ #[by rw[bf];exact M.it,Gx hl M.kp] λh1 abx k1=>?_;have b1:=k1 S _ (by rw[bu];exact xi) hb;have hE:Heap.SameBut S h1 (h1.update S (Obj.mapSeq λ_=>(#[]:Array kz))):=Heap.SameBut.update h1 S _;exact ae (xX b1 bz (ae (uP (ag (hR v _ _ hv (Gy (Fk M.kp xj k1) Eo hE))))))
theorem Mw (K:WJ prog w A s nm vs kf) (hj:j<vs.length) {c:Option Nat}{h:Heap}{tk:Nat}(M:Em s l I S vs kf j h c)
 (next:∀ h' pB,Em s l I S vs kf (j+1) h' (some (pick kf j c))->codeAny zg A zbi R { s with heap:=h',toks:=pB }) :
 codeAny zg A zbi R { s with heap:=h,toks:=tk }:=by
 have Ep:(toString "min"++toString ".loop":String)="min.loop":=by decide
 let#[xs,n,hb,hc]:=M.box;refine uO ZK ((He wI (A:=A) #[[.ref I,.builtin nm,.ref S],[]]).symm▸?_);refine ae (qZ hb bz (ae (ET ?_)));refine(Walks.list (prog:=prog) (w:=w) (A:=A.in1) hh I l En vs.toArray).item j _ _ _ (by rw[bf];exact hj) #[M.it,Gx hl M.kp] λv h1 abx hP af3 k1=>?_;have hv:vs[j]?=some v:=by simpa using hP
 let#[oi,i1,i2,i3]:=id af3.1;have b1:=k1 S _ (by rw[bu];exact xi) hb;refine ae (ET (dI (cC (K j v hv h1 abx (Fk M.kp xj k1)) (λr s2 ⟨h2,aby,t2,er,es,k2⟩=>?_) λ_ _ z=>z.elim)));subst er;subst es;have abz:Kp s.heap h2:=λb o e=>k2 b o (Fk M.kp xj k1 b o e);have b2:=k2 _ _ b1;have bG:h2.IsListIter I l (j+1):=#[oi,k2 _ _ i1,i2,i3];have put:∀ ys:Array kz,Heap.SameBut S h2 (h2.update S (Obj.mapSeq λ_=>ys)) /\ ∃ n',(h2.update S (Obj.mapSeq λ_=>ys)).get? S=some (seqObj "list" ys n'):=λys=>#[Heap.SameBut.update h2 S _,_,Zf b2 λ_=>ys];have abA:Em s l I S vs kf (j+1) (h2.update S (Obj.mapSeq λ_=>(List.toArray [v,.int (kf j) t2]))) (some j):=by
  let#[p1,n',p2]:=put (List.toArray [v,.int (kf j) t2]);exact#[Gy abz Eo p1,#[oi,(p1.2 I xi.symm).trans (k2 _ _ i1),i2,i3],_,n',p2,v,t2,hv,rfl]
 cases c with
 |none=>
   cases (show xs=#[] from hc);refine ae (xX b2 bz ?_);rw[Ep];exact ag #[wm wI _,next _ _ abA]
 |some i=>
   let#[vb,tb,af4,rfl]:=hc;refine ae (ET (dI (ae (lt_int (ae (dI (pV (ae (uP (ag ?_))))))))));by_cases q:kf j<kf i
   .rw[decide_eq_true q,if_pos rfl];refine ae (xX b2 bz (ae (uP ?_)));rw[Ep];refine ag #[wm wI _,next _ _ ?_];rw[mX,if_pos q];exact abA
   .rw[decide_eq_false q,if_neg za];refine ae (uP ?_);rw[Ep];refine ag #[wm wI _,next _ _ ?_];rw[mX,if_neg q];exact#[abz,bG,_,n,b2,vb,tb,af4,rfl]
def tK (kf:Nat->Int):Nat->Nat->Option Nat->Option Nat
 |0,_,c=>c
 |n+1,j,c=>tK kf n (j+1) (some (pick kf j c))
theorem CJ (K:WJ prog w A s nm vs kf) (h0:0<vs.length) (hR:∀ i v h' pB,tK kf vs.length 0 zy=some i->vs[i]?=some v->Kp s.heap h'->R (.ok (.ret v)) { s with heap:=h',toks:=pB }) :
 ∀ (n j:Nat) (c:Option Nat) (h:Heap) (tk:Nat),j+n=vs.length->(j=0 \/ c.isSome=zO)->tK kf n j c=tK kf vs.length 0 zy->Em s l I S vs kf j h c ->
  codeAny zg A zbi R { s with heap:=h,toks:=tk }
 | 0,j,c,h,tk,hn,hc,e,M=>by
   have:j=vs.length:=by lia
   subst this;cases c with
   | none => rcases hc with hc|hc
             .lia
             .cases hc
   |some i=>exact Mu hh hl En xi Eo xj M λv h' pB hv k=>hR i v h' pB e.symm hv k
 |n+1,j,c,h,tk,hn,hc,e,M=>Mw hh hl En xi Eo xj K zb M λh' pB M'=>CJ K h0 hR n (j+1) _ h' pB zb (.inr bz) e M'
end
theorem OX {kf:Nat->Int}(hh:A.handled=zy) (hl:s.heap.IsList l vs.toArray) (h0:0<vs.length) (K:WJ prog w A s nm vs kf)
 (hQ:∀ i v h' pB,tK kf vs.length 0 zy=some i->vs[i]?=some v->Kp s.heap h'->Q v { s with heap:=h',toks:=pB }) :
 wpAny zg A (call (.builtin "min") [.ref l] [(Str.ofString "key",.builtin nm)]) Q E s:=by
 have Ep:(toString "min"++toString ".loop":String)="min.loop":=by decide
 let#[ol,af5,_]:=id hl;have af6:l<s.heap.objs.size:=aN af5;refine kmk_tree PySem.F.kind_min PySem.F.plain_min PySem.F.entry_min (kmk_min_key _ _) ?_;refine ae (wj (show Builtin.Builtins.bindParams "min" ["key","default"] 0 #[[],[("key",.builtin nm)]]=pure [some (.builtin nm),zy] from rfl) (ae (ag (ae (EK hl (ae (EL ?_ (nT _))))))));rw[Ep];generalize hT:(s.heap.push { cls:=.type "list_iterator",data:=.fields (List.toArray [.ref l,.int 0 0]) }).objs.size=S;have hS:S=s.heap.objs.size+1:=hT.symm.trans (uY ..);refine ag #[wm wI _,CJ hh hl (bT af6) (by rw[hS];exact Yq _) (yb (by rw[hS];exact t8 _)) (yb (au _)) K h0 hQ vs.length 0 zy _ _ zb zbs bz #[?_,?_,#[],0,?_,rfl]]
 .exact λb x e=>aK _ (aK _ e)
 .exact#[_,aK _ (bw _ bz),rfl,rfl]
 .rw[<-hT];exact bw _ bz
end
end HT
namespace L2
open PySem.W
section
variable {a:Expr} {p q kp:Pos} {t:TA}
def abB (K:Frag) (vs:List V) (H:Hp) (Q:VK):uu:=∃ (p:Addr) (xs:List V) (kf:Nat->Nat),vs=[.ref p] /\ ba K H p xs /\ 0<xs.length /\ (∀ i x,xs[i]?=some x->∃ b ys,x=.ref b /\ aY K H b ys /\ ys.length=kf i) /\
 ∀ i x,HT.tK (λi=>(kf i:Int)) xs.length 0 zy=some i->xs[i]?=some x->Q x H
theorem JJ (hc:X.calm=zO) (hg:Gl X "min") (hm:X.mg "min"=zy) (qK:Gl X "len") (tj:X.mg "len"=zy) (ha:PA X [a] t) (hs:starEach [a] X.env=[zaz]) :
 PE X (.Call (.Name "min" p) [a] [#[some "key",.Name "len" q,kp]] pos) (Hr (abB X.K) t):=by
 intro pins s σ H Q I h;refine sq (jj I hg hm (by decide +kernel:bootBuiltins "min"=some (.builtin "min")) ?_ za za);refine callWith_kw (tA za4 λus s1 vs H1 I1 r1 q1=>?_) (by rw[hs];rfl) (by rw[hs];rfl) bz bz;show wpAny _ _ (evalAll [do let v <-eval (.Name "len" q) X.env;standAt pos;pure v]) _ _ _;refine wpAny_evalAll_cons (ae (jj I1 qK tj Ye (ae (sk (ag (wpAny_evalAll_nil ?_)))) za za));let#[l,xs,kf,rfl,hl,h0,hk,q1]:=q1;let#[u,rfl,ru]:=Vals.one r1;cases ru;let#[its,r',pl,hz]:=I1.list hl;have hlen:=r'.length;have sz:=uh;refine HT.OX (kf:=λi=>(kf i:Int)) (I1.ok.hd hc) pl.isList zb (λi v hv h tk K=>?_) λi v h' pB hb hv K=>?_
 .have hi:i<xs.length:=by rw[hlen];exact(List.getElem?_eq_some_iff.mp hv).1
  let#[w,e1,e2]:=r'.get (i:=i) (x:=xs[i]) (cU hi);rw[hv]at e1;cases e1;let#[b,ys,e3,hy,e4]:=hk i xs[i] (cU hi);rw[e3]at e2;cases e2;let#[nD,r2,af7,vK]:=I1.tuple hy;have rK:=r2.length;refine len_tuple (s:={ s1 with heap:=h,toks:=tk }) (items:=nD.toArray) ?_ zci #[h,_,tk+1,?_,rfl,λ_ _ z=>z]
  .let#[o,a1,a2]:=af7;exact#[o,K _ _ a1,a2]
  .show Value.int _ _=Value.int _ _;rw[bf,<-rK,e4]
 .have hi:i<xs.length:=by rw[hlen];exact(List.getElem?_eq_some_iff.mp hv).1
  let#[w,e1,e2]:=r'.get (i:=i) (x:=xs[i]) (cU hi);rw[hv]at e1;cases e1;exact#[xs[i],H1,I1.kept K,e2,q1 i xs[i] (by rw[hlen];exact hb) (cU hi)]
end
end L2
namespace L2.DL
open PySem.W
noncomputable def qk:D->Option Nat
 |.tup l=>some l.length
 |_=>zy
noncomputable def uC (f:D->Nat):D->List D->D
 |b,[]=>b
 |b,x::l=>uC f (if f x<f b then x else b) l
def Er:List D->Option Res
 |[.lst (x::l)]=>if (x::l).all (λd=>(qk d).isSome) then some (.old (uC (λd=>(qk d).getD 0) x l)) else zy
 |_=>zy
theorem Mx (f:D->Nat) (g:Nat->Nat) (L:List D) (hg:∀ (i:Nat) (d:D),L[i]?=some d->g i=f d):∀ (l:List D) (b:D) (i k:Nat),L.drop k=l->L[i]?=some b ->
 ∃ j,HT.tK (λi=>(g i:Int)) l.length k (some i)=some j /\ L[j]?=some (uC f b l):=by
 intro l_;induction l_ with
 |nil=>exact λb i k hl hb=>#[i,rfl,hb]
 |cons x l aq=>
   intro b i k hl hb;have hx:L[k]?=some x:=by rw[<-List.head?_drop,hl];rfl
   have hd:L.drop (k+1)=l:=by rw[<-List.tail_drop,hl];rfl
   have e:HT.pick (λi=>(g i:Int)) k (some i)=if f x<f b then k else i:=by
    rw[HT.mX,hg k x hx,hg i b hb];by_cases c:f x<f b
    .rw[if_pos c,if_pos zb]
    .rw[if_neg c,if_neg zb]
   show ∃ j,HT.tK _ l.length (k+1) (some (HT.pick (λi=>(g i:Int)) k (some i)))=some j /\ L[j]?=some (uC f (if f x<f b then x else b) l);rw[e];by_cases c:f x<f b
   .rw[if_pos c,if_pos c];exact aq x k (k+1) hd hx
   .rw[if_neg c,if_neg c];exact aq b i (k+1) hd hb
theorem af8:hU (abB K) Er:=by
 intro F H xs vs Q s sub rx e k;unfold Er at e;split at e
 .ext x l;split at e
  .ext c;cases e;let#[v,t,rfl,h1,h2]:=rx;cases (show t=[] from h2);let#[a,ws,rfl,h3,h4]:=h1;have hl:=h4.length;let#[i,e1,e2]:=Mx (λd=>(qk d).getD 0) (λi=>((x::l)[i]?.bind qk).getD 0) (x::l) (λi d e=>by erw[e,bD]) l x 0 1 bz bz;refine#[a,ws,λi=>((x::l)[i]?.bind qk).getD 0,rfl,.of h3,by rw[<-hl];simp,λi y hy=>?_,λj y hp hy=>?_]
   .let#[d,q1,q2]:=h4.get' hy;have:=cK.mp c d (yc q1);cases d with
    |tup m=>
      let#[b,us,rfl,q3,q4]:=q2;exact#[b,us,rfl,.of (sub _ _ q3),by dsimp only;rw[q1];exact q4.length.symm]
    |_=>cases this
   .rw[<-hl]at hp;have abC:HT.tK (λi=>((((x::l)[i]?.bind qk).getD 0:Nat):Int)) l.length 1 (some 0)=some j:=hp;rw[e1]at abC;cases abC;let#[d',q1,q2]:=h4.get' hy;rw[e2]at q1;cases q1;exact k _ _ #[rfl,q2]
  .cases e
 .cases e
section
variable {a:Expr} {p q kp:Pos} {m:DE (List W)}
theorem JK (hc:X.calm=zO) (hg:Gl X "min") (hm:X.mg "min"=zy) (qK:Gl X "len") (tj:X.mg "len"=zy) (ha:cH X T Z [a] m) (hs:starEach [a] X.env=[zaz]) :
 PD X T Z (.Call (.Name "min" p) [a] [#[some "key",.Name "len" q,kp]] pos) (dN zw Er m):=PE.imp (JJ hc hg hm qK tj ha hs) (LW af8)
end
end L2.DL
namespace HT
open PySem.W
section
variable {t:Addr} {vs:List kz} 
end
end HT
namespace L2
open PySem.W
section
variable {a:Expr} {p p2 HZ:Pos} {t:TA}
end
end L2
namespace L2.DL
open PySem.W
section
variable {a:Expr} {p p2 HZ:Pos} {m:DE (List W)}
end
noncomputable def Es:List W->Option (List Nat)
 |[]=>some []
 |.b n::l=>(Es l).map λt=>n::t
 |_=>zy
theorem cG.bs {F:Hp}{r:List Addr}:∀ {ws:List W}{vs:List V}{ns:List Nat},cG F r ws vs->Es ws=some ns->∃ as,vs=as.map V.ref /\ vz r ns as /\ ns.length=vs.length
 | [],_,_,h,e=>by
   cases e;cases (show _=[] from h);exact#[[],rfl,rfl,rfl]
 | w::l,_,ns,h,e=>by
   let#[v,t,rfl,h1,h2]:=h;cases w with
   |b n=>
     unfold Es at e;cases e2:Es l with
     |none=>rw[e2]at e;cases e
     |some ms=>
       rw[e2]at e;cases e;let#[as,rfl,q,z]:=h2.bs e2;let#[a,rfl,ha]:=h1;exact#[a::as,rfl,#[a,as,rfl,ha,q],by simpa using z]
   |_=>cases e
section
variable {a:Expr} {p p1:Pos}
def Ic (k:DE zan):DE W:=λenv bx=>fC zcY λws bx1=>match Es ws with|some ns=>if ns.length<=sizeLine then .val (.t ns) bx1 else .bad|none=>.bad
theorem OY {x1}{k:DE zan}(h:cH X T Z es k):PD X T Z (.Tuple es x1 pos) (Ic k):=by
 refine PE.imp (BB h) λσ H Q=>x4 λF r env bx R h=>?_;refine#[F,r,env,bx,R,End.bind h λws bx1 F1 r1 vs H1 g1 R1 d1 h1=>?_];split at h1
 .ext ns e;split at h1
  .ext hl;let#[as,rfl,q,z]:=d1.bs e;refine#[by rw[<-z];exact hl,λc hc=>?_];exact h1 _ r1 _ _ (R1.rO hc) (R1.vA hc) #[c,as,rfl,fE,q]
  .exact h1.elim
 .exact h1.elim
end
end L2.DL
namespace L2
def af9 (K:PySem.W.Frag):List V->Hp->VK->uu:=λvs H Q=>∃ x a n m t b,vs=[x,.ref a] /\ H a=some (.tup [.ty n,.ty m]) /\ nC K H x t /\ ((∃ y,x=.bl y) \/ ∃ c l,x=.ref c /\ H c=some zV) /\ PySem.W.kitAny K t [.type n,.type m]=some b /\ Q (.bl b) H
theorem Fl:dD X (.builtin "isinstance") (af9 X.K):=by
 intro pins s σ H xs us Q I rv h;let#[x,a,n,m,t,b,rfl,ha,ty,hx,e,q]:=h;cases rv with
 |cons r1 r2=>
   cases r2 with
   |cons r3 r4=>
     cases r4;ext u1 u2;cases (show u2=Value.ref a from r3);let#[_,vs,rl,#[o,h1,h2,z,h3]]:=(show a9 X.prog X.w H s.heap a (.tup [.ty n,.ty m]) from I.aj a _ ha);have ev:vs=[.type n,.type m]:=by
      cases rl with
      | cons p1 p2=>cases p2 with
        |cons p3 p4=>cases p4;rw[show _=Value.type n from p1,show _=Value.type m from p3]
     subst ev;let#[cls,dd,dat,sl]:=o;cases h2;cases h3;rcases hx with⟨y,rfl⟩|⟨c,l,rfl,hc⟩
     .cases ty;cases (show u1=Value.bool y from r1);exact Zv Zp I.cE True.intro h1 e (λz=>nomatch z) λtk=>⟨.bl b,H,I.tok tk,rfl,q⟩
     .cases (show u1=Value.ref c from r1);cases ty with
      |tup ec=>
        let#[_,_,_,o,g1,g2,_]:=(show a9 X.prog X.w H s.heap c (.tup _) from I.aj c _ ec);exact Zv Zr I.cE #[o,g1,g2] h1 e (λz=>nomatch z) λtk=>#[.bl b,H,I.tok tk,rfl,q]
      |lst ec=>rw[hc]at ec;cases ec
      |eX ec=>rw[hc]at ec;cases ec
      |dK ec=>rw[hc]at ec;cases ec
      |dT ec=>rw[hc]at ec;cases ec
      |ins ec=>rw[hc]at ec;cases ec
theorem Bk (hh:A.handled=zy) {i j:Int}{t u:Tok}{bt:Nat->Nat->Bool}(h:s.heap.IsTuple a (List.toArray [.int i t,.int j u]))
 (hb:∀ P:Nat->kz->uu,(∀ k v,P k v->∃ t,v=.int (if k=0 then i else j) t)->CmpOf X.prog X.w A op P bt)
 (q:∀ h' tk w,(∀ c o,s.heap.get? c=some o->h'.get? c=some o)->Q (.int (if bt 1 0 then j else i) w) { s with heap:=h',toks:=tk }) :
 wpAny ze A (pyIter za3) (λit s₂=>∃ I fp wr n P St bt,it=.ref I /\ Walks X.prog X.w A I fp wr n P St /\ St 0 s₂.heap /\ (∀ b∈fp,b<s₂.heap.objs.size) /\ 0<n /\ CmpOf X.prog X.w A op P bt /\
  ∀ v h' tk,P (argBest bt (n-1)) v->(∀ b o,¬ b∈wr->s₂.heap.get? b=some o->h'.get? b=some o)->Q v #[h',s₂.gens,s₂.drawn,tk,s₂.os]) E s:=by
 have la:a<s.heap.objs.size:=by let#[o,e,_]:=h;exact aN e
 refine ES h ?_;have hk:∀ c o,s.heap.get? c=some o->(s.heap.push #[.type "tuple_iterator",zy,.fields (List.toArray [.ref a,.int 0 0]),#[]]).get? c=some o:=λc o e=>aK _ e;refine#[s.heap.objs.size,_,_,_,_,_,bt,rfl,Walks.tuple hh _ a (bT la) (List.toArray [.int i t,.int j u]),#[#[_,bw _ bz,rfl,rfl],?_],?_,Nat.zero_lt_succ _,?_,?_]
 .let#[o,e,r]:=h;exact#[o,hk _ _ e,r]
 .intro b m;rw[rj];rcases aH.mp m with rfl|m
  .exact kJ _
  .cases bu.mp m;exact rh la
 .refine hb _ λk v e=>?_;match k,e with
  |0,e=>exact#[t,by simpa using e.symm]
  |1,e=>exact#[u,by simpa using e.symm]
  |k+2,e=>simp at e
 .intro v h' tk e k;have e1:argBest bt 1=if bt 1 0 then 1 else 0:=rfl
  change ((List.toArray [Value.int i t,.int j u]):Array kz)[argBest bt 1]?=some v at e
  rw[e1]at e;have kk:∀ c o,s.heap.get? c=some o->h'.get? c=some o:=λc o z=>k c o (λm=>absurd (bu.mp m) (bT (aN z))) (hk c o z);cases Ie:bt 1 0 with
  |false=>rw[Ie]at e;simp at e;subst e;have:=q h' tk t kk;rw[Ie]at this;exact this
  |true=>rw[Ie]at e;simp at e;subst e;have:=q h' tk u kk;rw[Ie]at this;exact this
theorem abD {i j:Int}(I:Inv X pins σ H s) (e:H a=some zav):∃ t u,s.heap.IsTuple a (List.toArray [.int i t,.int j u]):=by
 let#[_,vs,rl,h]:=(show a9 X.prog X.w H s.heap a zav from I.aj a _ e);cases rl with
 | cons p1 p2=>cases p2 with
   |cons p3 p4=>
     cases p4;let#[t,rfl]:=(show ∃ t,_=Value.int i t from p1);let#[u,rfl]:=(show ∃ t,_=Value.int j t from p3);exact#[t,u,h]
theorem JL (hc:X.calm=zO):dD X (.builtin "min") (λxs H Q=>∃ a i j,xs=[.ref a] /\ H a=some zav /\ Q zcF H):=by
 intro pins s σ H xs us Q I r h;let#[a,i,j,rfl,e,q]:=h;let#[_,rfl,rfl]:=vals1 r;let#[t,u,z]:=abD I e;refine call_min_walk (Bk (X:=X) (A:=X.A.in1) (bt:=λk l=>decide ((if k=0 then i else j)<if l=0 then i else j)) (show X.A.in1.handled=zy from I.ok.hd hc) z (λP hP=>CmpOf.ints_lt _ hP) λh' tk w k=>#[_,H,I.kept k,?_,q]);exact#[w,by simp]
theorem JM (hc:X.calm=zO):dD X (.builtin "max") (λxs H Q=>∃ a i j,xs=[.ref a] /\ H a=some zav /\ Q zcE H):=by
 intro pins s σ H xs us Q I r h;let#[a,i,j,rfl,e,q]:=h;let#[_,rfl,rfl]:=vals1 r;let#[t,u,z]:=abD I e;refine call_max_walk (Bk (X:=X) (A:=X.A.in1) (bt:=λk l=>decide ((if k=0 then i else j)>if l=0 then i else j)) (show X.A.in1.handled=zy from I.ok.hd hc) z (λP hP=>CmpOf.ints_gt _ hP) λh' tk w k=>#[_,H,I.kept k,?_,q]);exact#[w,by simp]
end L2
namespace L2.DL
section
variable {a:Expr} {p p1 p2 p3:Pos} {k:Nat}
def WK (m:DE W):DE W:=λenv bx=>fC zI λw bx1=>match w with|.t _=>.val (.d zc2) bx1|.d (.bl _)=>.val (.d zc2) bx1|_=>.bad
theorem UX (m:kz):PySem.W.kitAny K (.type "bool") [.type "bool",m]=some zO:=by
 simp[PySem.W.kitAny,PySem.W.kitOne]
theorem UY (h:nJ K "bool"):PySem.W.kitAny K (.type "tuple") [.type "bool",.type "tuple"]=some zO:=by
 have:=h (.tup []);simp[PySem.W.kitAny,show PySem.W.kitOne K (.type "tuple") (.type "bool")=some false from this];simp[PySem.W.kitOne]
theorem JN (hT:nJ X.K "bool") (hg:Gl X "isinstance") (hm:X.mg "isinstance"=zy) (aga:Gl X "bool") (agb:X.mg "bool"=zy) (qK:Gl X "tuple") (tj:X.mg "tuple"=zy) (ha:PD X T Z a ma)
 (yU:starEach [a,.Tuple [.Name "bool" p1,.Name "tuple" p2] k p3] X.env=zaz::starEach [.Tuple [.Name "bool" p1,.Name "tuple" p2] k p3] X.env:=by rfl) :
 PD X T Z (.Call (.Name "isinstance" p) [a,.Tuple [.Name "bool" p1,.Name "tuple" p2] k p3] [] pos) (WK ma):=by
 refine PE.imp (iU Fl hg hm z7 (f8 ha (f8 (BB (f8 (oK aga agb (by decide +kernel:bootBuiltins "bool"=some (.type "bool")) (v:=.ty "bool") bz) (f8 (oK qK tj (by decide +kernel:bootBuiltins "tuple"=some (.type "tuple")) (v:=.ty "tuple") bz) ic bz) bz)) ic bz) yU) za za yU (by rfl)) λσ H Q=>x4 λF r env bx R h=>?_;refine#[F,r,env,bx,R,End.bind h λw bx1 F1 r1 v H1 g1 R1 d1 h1=>?_];refine#[by decide,λq hq=>?_];split at h1
 .let#[c,as,rfl,k1,k2]:=d1;have hc:upd H1 q (.tup [.ty "bool",.ty "tuple"]) c=some (.tup (as.map V.ref)):=by
   have:=R1.fh _ _ k1;rw[fA (λe=>by subst e;rw[hq]at this;cases this)];exact this
  exact#[_,q, "bool","tuple",_,_,rfl,fE,.tup hc,.inr #[_,_,rfl,hc],UY hT,h1 F1 r1 _ _ zaa (R1.Q0 hq) bz]
 .cases d1;exact#[_,q, "bool","tuple",_,_,rfl,fE,.bl _,.inl #[_,rfl],UX _,h1 F1 r1 _ _ zaa (R1.Q0 hq) bz]
 .exact h1.elim
noncomputable def Ig (f:Int->Int->Int):List D->Option Res:=λxs=>match xs with|[.tup [.int i,.int j]]=>some (.old (.int (f i j)))|_=>zy
theorem abE (f:Int->Int->Int):hU (λxs H Q=>∃ a i j,xs=[.ref a] /\ H a=some zav /\ Q (.int (f i j)) H) (Ig f):=by
 intro F H xs vs Q s sub rx e k;unfold Ig at e;split at e
 .ext i j;cases e;let#[v,t,rfl,#[a,us,rfl,h1,h2],rt]:=rx;cases (show t=[] from rt);have:us=[.int i,.int j]:=by
   let#[v1,t1,rfl,e1,v2,t2,rfl,e2,e3]:=h2;cases (show t2=[] from e3);cases (show v1=.int i from e1);cases (show v2=.int j from e2);rfl
  subst this;exact#[a,i,j,rfl,sub _ _ h1,k _ _ #[rfl,rfl]]
 .cases e
abbrev Et:List D->Option Res:=Ig λi j=>if j<i then j else i
abbrev Eu:List D->Option Res:=Ig λi j=>if j>i then j else i
end
noncomputable def az:DE α:=λ_ _=>.bad
end L2.DL
namespace HT
open PySem.W
abbrev qW (xs:Array Nat):uu:=xs.toList.Pairwise (·<·)
theorem oO {xs:Array Nat}(h:qW xs) {x y:Nat}(hi:xs[i]?=some x) (hj:xs[j]?=some y) (l:i<j):x<y:=by
 have qS:xs.toList[i]?=some x:=by rw[rC];exact hi
 have yQ:xs.toList[j]?=some y:=by rw[rC];exact hj
 let#[a,rfl]:=List.getElem?_eq_some_iff.mp qS;let#[b,rfl]:=List.getElem?_eq_some_iff.mp yQ;exact List.pairwise_iff_getElem.mp h i j a b l
theorem Mz {xs:Array Nat}(h:qW xs) (j:Nat):∀ (f lo hi:Nat),hi-lo<=f->lo<=hi->hi<=xs.size->(∀ i x,i<lo->xs[i]?=some x->x<j)->(∀ i x,hi<=i->xs[i]?=some x->j<=x) ->
 SetTable.below.go xs j f lo hi<=xs.size /\ (∀ i x,i<SetTable.below.go xs j f lo hi->xs[i]?=some x->x<j) /\ ∀ i x,SetTable.below.go xs j f lo hi<=i->xs[i]?=some x->j<=x:=by
 intro l_;induction l_ with
 |zero=>
   intro lo hi hf hl hh h1 h2;have:lo=hi:=by lia
   subst this;exact#[hh,h1,h2]
 |succ f aq=>
   intro lo hi hf hl hh h1 h2;rw[SetTable.below.go];by_cases c:lo<hi
   .rw[if_pos c];have hm:(lo+hi) / 2<xs.size:=by lia
    have em:xs[(lo+hi) / 2]?=some xs[(lo+hi) / 2]:=by simp[hm]
    have eg:xs.getD ((lo+hi) / 2) j=xs[(lo+hi) / 2]:=by simp[Array.getD,hm]
    show (let mid:=(lo+hi) / 2;if xs.getD mid j<j then SetTable.below.go xs j f (mid+1) hi else SetTable.below.go xs j f lo mid)<=xs.size /\ _;erw[eg];by_cases q:xs[(lo+hi) / 2]<j
    .erw[if_pos q];refine aq _ hi zb zb hh (λi x qS e=>?_) h2;by_cases z:i<(lo+hi) / 2
     .have:=oO h e em z;lia
     .have:i=(lo+hi) / 2:=by lia
      subst this;rw[em]at e;cases e;exact q
    .erw[if_neg q];refine aq lo _ zb zb zb h1 λi x qS e=>?_;by_cases z:i=(lo+hi) / 2
     .subst z;rw[em]at e;cases e;lia
     .have:=oO h em e zb;lia
   .rw[if_neg c];have:lo=hi:=by lia
    subst this;exact#[hh,h1,h2]
theorem lT {xs:Array Nat}(h:qW xs) (j:Nat):SetTable.below xs j<=xs.size /\ (∀ i x,i<SetTable.below xs j->xs[i]?=some x->x<j) /\ ∀ i x,SetTable.below xs j<=i->xs[i]?=some x->j<=x:=
 Mz h j xs.size 0 xs.size zb (nT _) (au _) (λi x hi=>absurd hi (Kq _)) λi x hi e=>by
  have:=(Array.getElem?_eq_some_iff.mp e).1;lia
theorem Aq {xs:Array Nat}(h:qW xs) {x:Nat}(e:xs[i]?=some x):SetTable.below xs (x+1)=i+1:=by
 let#[b1,b2,b3]:=lT h (x+1);have lt:=(Array.getElem?_eq_some_iff.mp e).1;have h1:¬ SetTable.below xs (x+1)<=i:=λz=>by
  have:=b3 i x z e;lia
 have h2:¬ i+1<SetTable.below xs (x+1):=λz=>by
  have el:xs[i+1]?=some xs[i+1]:=by
   have:i+1<xs.size:=by lia
   simp[this]
  have a:=b2 (i+1) _ z el;have b:=oO h e el (kJ i);lia
 lia
theorem Ar {xs:Array Nat}(h:qW xs):SetTable.below xs 0=0:=by
 let#[b1,b2,b3]:=lT h 0;apply Classical.byContradiction;intro z;have lt:0<xs.size:=by lia
 have el:xs[0]?=some xs[0]:=by simp[lt]
 have:=b2 0 _ zb el;lia
theorem oF (xs:Array α) (p:Nat) (x:α):(SetTable.insertAt xs p x).toList=xs.toList.take p++x::xs.toList.drop p:=by
 unfold SetTable.insertAt;rw[Array.toList_append,KO,Zo,Zo];erw[List.extract_eq_take_drop,Kn,YG,kL,List.singleton_append];congr 2;exact YM zf
theorem MA {xs:Array Nat}(h:qW xs) (hn:xs[SetTable.below xs j]?≠some j):qW (SetTable.insertAt xs (SetTable.below xs j) j):=by
 let#[b1,b2,b3]:=lT h j;unfold qW;rw[oF];have qI:∀ x∈xs.toList.take (SetTable.below xs j),x<j:=λx m=>by
  let#[i,hi,e]:=YN m;rw[wx]at hi;refine b2 i x zb ?_;rw[<-rC,<-e,List.getElem_take];exact cU zb
 have abF:∀ x∈xs.toList.drop (SetTable.below xs j),j<x:=λx m=>by
  let#[i,hi,e]:=YN m;rw[E2]at hi;have ex:xs[SetTable.below xs j+i]?=some x:=by
   rw[<-rC,<-e,List.getElem_drop];exact cU zb
  have:=b3 _ x (uV _ _) ex;have ne:x≠j:=λz=>by
   subst z;cases i with
   |zero=>exact hn ex
   |succ i=>
     have lt:SetTable.below xs x<xs.size:=by
      have:=(Array.getElem?_eq_some_iff.mp ex).1;lia
     have el:xs[SetTable.below xs x]?=some xs[SetTable.below xs x]:=by simp[lt]
     have a:=b3 _ _ (au _) el;have b:=oO h el ex zb;lia
  lia
 rw[KG];refine#[h.sublist (Yx _ _),List.pairwise_cons.mpr #[abF,h.sublist (List.drop_sublist _ _)],λa ma b mb=>?_];have:=qI a ma;rcases aH.mp mb with rfl|mb
 .exact this
 .have:=abF b mb;lia
theorem Fm (n:Nat):qW (Array.range n):=by
 unfold qW;rw[Array.toList_range];exact YO
def Ew (t:SetTable) (j:Nat):uu:=t.place[SetTable.below t.place j]?≠some j
theorem CK (h:∀ i,t.slot j≠.live i):Ew t j:=λe=>by
 refine h (SetTable.below t.place j) ?_;unfold SetTable.slot;simp[e]
theorem MB {ha:Nat->Int}{h:Int}:∀ (f:Nat) (p:SetTable.Probe) {j:Nat}{d:Option Nat},(∀ z,p.dummy=some z->Ew t z)->SetTable.probe.go t ha h f p=some (.empty j d)->Ew t j /\ ∀ z,d=some z->Ew t z:=by
 intro l_;induction l_ with
 |zero=>(intro p j d _ e;cases e)
 |succ f aq=>
   intro p j d hp e;rw[SetTable.probe.go]at e;split at e
   .ext q;cases e;exact#[CK (λi z=>by rw[q]at z;cases z),hp]
   .ext q;refine aq _ (λz hz=>?_) e;have:(t.advance { p with dummy:=some p.j }).dummy=some p.j:=by
     unfold SetTable.advance;split<;>rfl
    rw[this]at hz;cases hz;exact CK λi z=>by rw[q]at z;cases z
   .split at e
    .cases e
    .refine aq _ (λz hz=>?_) e;have:(t.advance p).dummy=p.dummy:=by
      unfold SetTable.advance;split<;>rfl
     rw[this]at hz;exact hp z hz
theorem MC {h:Int}{b:Bool}(e:t.freeSlot h=some (j,b)):Ew t j:=by
 unfold SetTable.freeSlot at e;split at e
 .ext j' d q;let#[a,c]:=MB _ _ (by intro z hz;cases hz) q;cases d with
  |none=>cases e;exact a
  |some z=>cases e;exact c z bz
 .cases e
structure eF (agc:Bool) (t:SetTable):uu where
 r:qW t.place
 l:agc=zw->t.led=zO
theorem eF.Ih {b:Bool}(h:eF b t) (n:Nat):eF b (t.standIn n):=#[Fm n,h.l]
theorem eF.lay {b:Bool}(h:eF b t) (es:Array (Int×kz)) (k:Int) (x:kz):eF b (layNew t es k x).2.1:=by
 unfold layNew;cases e:t.freeSlot k with
 |none=>exact h.Ih _
 |some p=>
   let#[j,d]:=p;have hn:=MC e;show eF b ((t.put j).1.orStandIn _);have hp:eF b (t.put j).1:=#[MA h.r hn,h.l];unfold SetTable.orStandIn;split
   .exact hp
   .exact hp.Ih _
theorem eF.plain {b:Bool}{t:SetTable}(h:eF b t) (p:Bool):eF b { t with plain:=p }:=#[h.r,h.l]
theorem JO (f:Nat->Option Nat):∀ l:List Nat,l.Pairwise (·<·)->(((l.filterMap λj=>(f j).map (j,·)).map (·.1))).Pairwise (·<·):=by
 intro l_;induction l_ with
 |nil=>exact λ_=>.nil
 |cons j l aq=>
   intro h;let#[h1,h2]:=List.pairwise_cons.mp h;have ih:=aq h2;rw[ng];cases e:f j with
   |none=>exact ih
   |some z=>
     rw[kM];refine List.pairwise_cons.mpr #[λa ma=>?_,ih];let#[p,mp,rfl]:=bU.mp ma;let#[i,mi,ei]:=List.mem_filterMap.mp mp;cases q:f i with
     |none=>rw[q]at ei;cases ei
     |some w=>
       rw[q]at ei;cases ei;exact h1 i mi
theorem eF.agd {b:Bool}(h:eF b t) (es:Array (Int×kz)) (n:Nat):eF b (relayAll t es n).2.1:=by
 unfold relayAll;cases e:t.relaid (es.map (·.1)) n with
 |none=>exact h.Ih _
 |some p=>
   let#[t',o]:=p;have ht:eF b t':=by
    unfold SetTable.relaid SetTable.laid at e;cases q:SetTable.layClean (SetTable.sizeAbove n-1) (es.map (·.1)) with
    |none=>rw[q]at e;cases e
    |some ow=>
      rw[q]at e;cases e;exact#[JO _ _ YO,h.l]
   show eF b (if (coversAll o es.size&&t'.fits (o.filterMap (es[·]?)).size)=zO then (o.filterMap (es[·]?),t',zw) else (es,t.standIn es.size,zO)).2.1;split
   .exact ht
   .exact h.Ih _
structure dG (prog:Program) (w:World) (b:Bool) (o:Obj) (ns:List Int) (es:Array (Int×kz)) (ep:Nat) (t:SetTable) (ms:List Int):uu where
 x:o.ExactSet
 d:o.data=.set es ep t
 el:ElemsOf (intKind prog w) es.toList
 bd:es.size<scanBound
 ft:t.fits es.size=zO
 ok:eF b t
 vs:IntsAre (es.toList.map (·.2)) ms
 pm:ms.Perm ns
def ql (prog:Program) (w:World) (b:Bool) (h:Heap) (a:Addr) (ns:List Int):uu:=∃ o es ep t ms,h.get? a=some o /\ dG prog w b o ns es ep t ms
theorem oA:∀ {vs:List kz}{ms:List Int},IntsAre vs ms->∀ k:Int,k∈ms ↔ ∃ v∈vs,(intKind prog w).is k v=zO
 |_,_,.nil,k=>by simp
 | _,_,.cons n t h,k=>by
   have ih:=oA h k;have e:(intKind prog w).is k (.int n t)=zO ↔ k=n:=by
    constructor
    .intro z;exact(intKind prog w).inj _ k n z (xY prog w n t)
    .rintro rfl;exact xY prog w k t
   rw[aH,ih];constructor
   .rintro(z|⟨v,mv,ev⟩)
    .exact#[_,bK ..,e.mpr z]
    .exact#[v,bL _ mv,ev]
   .rintro⟨v,mv,ev⟩;rcases aH.mp mv with rfl|mv
    .exact .inl (e.mp ev)
    .exact .inr #[v,mv,ev]
theorem dG.mem {b:Bool}{ms:List Int}{es:Array (Int×kz)}(S:dG prog w b o ns es ep t ms) (k:Int):k∈ns ↔ ∃ e∈es.toList,(intKind prog w).is k e.2=zO:=by
 rw[<-S.pm.mem_iff,oA (prog:=prog) (w:=w) S.vs k];constructor
 .rintro⟨v,mv,ev⟩;let#[e,me,rfl]:=bU.mp mv;exact#[e,me,ev]
 .rintro⟨e,me,ev⟩;exact#[e.2,bU.mpr #[e,me,rfl],ev]
theorem dG.len {b:Bool}{ms:List Int}{es:Array (Int×kz)}(S:dG prog w b o ns es ep t ms):es.size=ns.length:=by
 rw[<-S.pm.length_eq,<-S.vs.length,aS,nq]
theorem jM:∀ {vs us:List kz},us.Perm vs->∀ {ms:List Int},IntsAre vs ms->∃ ks,IntsAre us ks /\ ks.Perm ms:=by
 intro vs us p;induction p with
 |nil=>intro ms h;exact#[ms,h,.refl _]
 |cons x p ih=>
   intro ms h;cases h with
   |cons n t h=>
     let#[ks,a,c]:=ih h;exact#[n::ks,.cons n t a,c.cons n]
 |swap x y l=>
   intro ms h;cases h with
   |cons n t h=>
     cases h with
     |cons m u h=>exact#[_,.cons m u (.cons n t h),.swap ..]
 |trans p q age agf=>
   intro ms h;let#[ks,a,c]:=agf h;let#[js,a',c']:=age a;exact#[js,a',c'.trans c]
theorem mB:∀ {vs:List kz}{ms:List Int},IntsAre vs ms->∀ (i:Int) (t:Tok),IntsAre (vs++[.int i t]) (ms++[i])
 |_,_,.nil,i,t=>.cons i t .nil
 |_,_,.cons n u h,i,t=>.cons n u (mB h i t)
theorem dG.anew {b:Bool}{ms:List Int}{es:Array (Int×kz)}(S:dG prog w b o ns es ep t ms) {es':Array (Int×kz)}{t':SetTable}(sP:Nat) (p:es'.toList.Perm es.toList) (f:t'.fits es'.size=zO) (k:eF b t') :
 ∃ eN,dG prog w b { o with data:=.set es' sP t' } ns es' sP t' eN:=by
 let#[ks,a,c]:=jM (p.map (·.2)) S.vs;have z:es'.size=es.size:=by rw[<-nq,p.length_eq,nq]
 exact#[ks,S.x,rfl,S.el.perm p,by rw[z];exact S.bd,f,k,a,c.trans S.pm]
theorem dG.more {b:Bool}{ms:List Int}{es:Array (Int×kz)}(S:dG prog w b o ns es ep t ms) (i:Int) (u:Tok) {es':Array (Int×kz)}{t':SetTable}(sP:Nat) (hb:es.size+1<scanBound)
 (p:es'.toList.Perm (es.toList++[((intKind prog w).hash i,.int i u)])) (f:t'.fits es'.size=zO) (k:eF b t'):∃ eN,dG prog w b { o with data:=.set es' sP t' } (ns++[i]) es' sP t' eN:=by
 have q:(es.toList++[((intKind prog w).hash i,Value.int i u)]).map (·.2)=es.toList.map (·.2)++[Value.int i u]:=by simp
 let#[ks,a,c]:=jM (us:=es'.toList.map (·.2)) (vs:=es.toList.map (·.2)++[Value.int i u]) (q▸p.map (·.2)) (mB S.vs i u);have z:es'.size=es.size+1:=by rw[<-nq,p.length_eq,cJ,nq,YB]
 exact#[ks,S.x,rfl,(S.el.push (xY prog w i u) bz).perm p,by rw[z];exact hb,f,k,a,c.trans (S.pm.append_right _)]
theorem stored {es es':Array (Int×kz)}{t':SetTable}(ho:s.heap.get? a=some o) (hd:o.data=.set es ep t):(s.heap.update a (Obj.putSet es' t')).get? a=some { o with data:=.set es' (ep+1) t' }:=by
 have z:=qt (Obj.putSet es' t') ho (by rw[putSet_of es' t' hd];rfl)
 rwa [putSet_of es' t' hd]at z
theorem Bl {b:Bool}{ms:List Int}{es cn:Array (Int×kz)}{t1:SetTable}{wd:Bool}{R:Option Bool->Shared->uu}{g:Bool->Sem Unit}(hg:∀ (z:Bool) (s1:Shared) (Q:Unit->Shared->uu),Q () s1->wpAny zg A (g z) Q E s1)
 (ho:s.heap.get? a=some o) (hd:o.data=.set es ep t) (S:dG prog w b { o with data:=.set cn (ep+1) t1 } ns cn (ep+1) t1 ms)
 (h:∀ h',Heap.SameBut a s.heap h'->ql prog w b h' a ns->R (some zO) { s with heap:=h' }) :
 wpAny zg A (do
  storeSet a cn t1
  if (!wd&&t1.tooFull)=zO then do
   g (relayAll t1 cn zbf).2.2
   storeSet a (relayAll t1 cn zbf).1 (relayAll t1 cn zbf).2.1
   pure (some zO)
  else pure (some zO)) R E s:=by
 have g1:=stored (s:=s) (es':=cn) (t':=t1) ho hd;have sb:=Heap.SameBut.update s.heap a (Obj.putSet cn t1);refine ae (Yh ho hd ?_ (Kf S.bd));by_cases c:(!wd&&t1.tooFull)=zO
 .rw[if_pos c];have kp:=relayAll_perm t1 cn zbf;have kf:=relayAll_fits t1 cn zbf;have kt:=S.ok.agd cn zbf;let#[agg,S2]:=S.anew (ep+1+1) kp kf kt;have z2:(relayAll t1 cn zbf).1.size=cn.size:=by rw[<-nq,kp.length_eq,nq]
  have g2:=stored (s:={ s with heap:=s.heap.update a (Obj.putSet cn t1) }) (es':=(relayAll t1 cn zbf).1) (t':=(relayAll t1 cn zbf).2.1) g1 bz;exact ae (hg _ _ _ (ae (Yh g1 bz (ag (h _ (sb.trans (Heap.SameBut.update _ a _)) #[_,_,_,_,agg,g2,S2])) (Kf (by rw[z2];exact S.bd)))))
 .rw[if_neg c];exact ag (h _ sb #[_,_,_,_,ms,g1,S])
theorem add_int {b:Bool}{i:Int}{u:Tok}{Q:Bool->Shared->uu}(S:ql prog w b s.heap a ns) (hb:ns.length+1<scanBound)
 (h:∀ z h',Heap.SameBut a s.heap h'->ql prog w b h' a (cL ns i)->Q z { s with heap:=h' }):wpAny zg A (setAddHashed a (.int i u) zcs) Q E s:=by
 have ik:(intKind prog w).is i (.int i u)=zO:=xY prog w i u;have sc:(Value.int i u).scannable=zO:=rfl;let#[o,es,ep,t,ms,ho,S]:=S;have hl:=S.len;unfold setAddHashed;refine dI ?_;unfold setAddHashedIn;refine ae (uQ ho S.d S.ft ?_);show wpAny _ _ (if byScan (.int i u) es=zO then _ else _) _ _ _;rw[if_pos (byScan_of sc S.bd S.el)];unfold setAddByScan;refine ae (ae (pW (ae (wpAny_setScan_of ik ho S.d S.ft S.el ?_))));have gw:∀ (z:Bool) (s1:Shared) (Q1:Unit->Shared->uu),Q1 () s1->wpAny zg A (match z with|true=>rule "set.scan.the-table-gave-way"|false=>pure ()) Q1 E s1:=by
  intro z s1 Q1 q;cases z
  .exact ag q
  .exact pW q
 cases fd:List.findIdx? (λe=>(intKind prog w).is i e.2) es.toList with
 |some j=>
   let#[hj,pj,_]:=List.findIdx?_eq_some_iff_getElem.mp fd;have mi:i∈ns:=(S.mem i).mpr #[_,uX hj,pj];have e1:cL ns i=ns:=by
    unfold cL;rw[if_pos (sH.mpr #[i,mi,by simp])]
   refine ag (ag ?_);have:=h zw s.heap (Heap.SameBut.refl a s.heap) (by rw[e1];exact#[o,es,ep,t,ms,ho,S]);exact this
 |none=>
   have ni:i∉ns:=λz=>by
    let#[e,me,pe]:=(S.mem i).mp z;have:=List.findIdx?_eq_none_iff.mp fd e me;rw[pe]at this;cases this
   have e1:cL ns i=ns++[i]:=by
    unfold cL;rw[if_neg];intro z;let#[k,mk,ek]:=sH.mp z;have:k=i:=by simpa using ek
    exact ni (this▸mk)
   have lp:=layNew_perm t es zcs (.int i u);have lf:=layNew_fits t es zcs (.int i u);have lk:=S.ok.lay es zcs (.int i u);rw[KO]at lp;dsimp only;generalize layNew t es zcs (.int i u)=L at lp lf lk ⊢;let#[cn,t1,wd,gv]:=L;dsimp only at lp lf lk ⊢;have fin:∀ h',Heap.SameBut a s.heap h'->ql prog w b h' a (ns++[i])->wpAny zg A (match (some zO:Option Bool) with|some added=>pure added|none=>setAddHashedIn a (.int i u) zcs 99999) Q E { s with heap:=h' }:=λh' sb si=>ag (h zO h' sb (by rw[e1];exact si));refine ae (gw _ _ _ ?_);by_cases cp:t1.plain=zO
   .rw[if_pos cp,hashByValue_scannable 8 sc];refine ae (ag ?_);have tk:eF b (if plainKind (.int i u)=zO then t1 else { t1 with plain:=zw }):=by
     split
     .exact lk
     .exact lk.plain _
    have tf:(if plainKind (.int i u)=zO then t1 else { t1 with plain:=zw }:SetTable).fits cn.size=zO:=by
     split
     .exact lf
     .exact adl lf
    let#[agh,S1]:=S.more i u (ep+1) zb lp tf tk;exact Bl gw ho S.d S1 λh' sb si=>fin h' sb si
   .rw[if_neg cp];refine ae (ag ?_);let#[agh,S1]:=S.more i u (ep+1) zb lp lf lk;show wpAny _ _ (do
     storeSet a cn t1
     if (!wd&&t1.tooFull)=zO then _ else _) _ _ _
    exact Bl gw ho S.d S1 λh' sb si=>fin h' sb si
section
noncomputable abbrev bO (w:World):Bool:=w.params.followText "set-order"
abbrev tL (w:World):Obj:={ cls:=.type "set",dict:=zy,data:=.set #[] 0 (.fresh 0 0 (!bO w)) }
theorem OZ {h:Heap}(e:h.get? a=some (tL w)):ql prog w (bO w) h a []:=
 #[_,#[],0,_,[],e,#[#[rfl,rfl,rfl],rfl,λe m=>by simp at m,by decide,rfl,#[.nil,λz=>by rw[z];rfl],.nil,.refl _]]
theorem ql.at {b:Bool}{h:Heap}(S:ql prog w b h a ns) (k:∀ o,h.get? a=some o->h'.get? a=some o):ql prog w b h' a ns:=by
 let#[o,es,ep,t,ms,ho,S]:=S;exact#[o,es,ep,t,ms,k o ho,S]
variable {I:Addr} {wr:List Addr} {G:Array GenState -> Array GenState -> uu} {P:Nat -> kz -> uu} {St:Nat -> Shared -> uu} {b:Bool}
end
section
variable {t:Addr} {vs:List kz} 
end
theorem iu:Slot "set_iterator" "__next__" "set_iterator.__next__":=.of (owner:="set_iterator") (n:="__next__") (by rw[Yi,Yj];kernel_rfl) z7 z7 z7 (.inl z7) (by rw[Yk];kernel_rfl)
theorem oP:Slot "set_iterator" "__iter__" "set_iterator.__iter__":=.of (owner:="set_iterator") (n:="__iter__") (by rw[Yi,Yj];kernel_rfl) z7 z7 z7 (.inl z7) (by rw[Yk];kernel_rfl)
theorem lE:entryFor table "set_iterator.__next__"=some Builtin.«set_iterator.__next__»:=entryFor_of_tree (by kernel_rfl)
theorem Bm:entryFor table "set_iterator.__iter__"=some Builtin.«dict_keyiterator.__iter__»:=Yl (id':="dict_keyiterator.__iter__") (by kernel_rfl) bz z7 (by kernel_rfl)
theorem Fn:entryFor table "set.__iter__"=some Builtin.«frozenset.__iter__»:=Yl (id':="frozenset.__iter__") (by kernel_rfl) bz z7 (by kernel_rfl)
theorem lF (a:kz):argsOk "set_iterator.__next__" #[[a],[]]:=by
 unfold argsOk;kernel_rfl
theorem Bn (a:kz):argsOk "set_iterator.__iter__" #[[a],[]]:=by
 unfold argsOk;kernel_rfl
theorem lU {α:Type}:∀ (l:List α) {i:Nat}(h:i<l.length),(l[i]::l.eraseIdx i).Perm l
 |[],i,h=>absurd h (Kq _)
 |x::l,0,h=>.refl _
 | x::l,i+1,h=>by
   rw[List.getElem_cons_succ,List.eraseIdx_cons_succ];exact(List.Perm.swap ..).trans ((lU l (Nat.lt_of_succ_lt_succ h)).cons x)
theorem O0 (nx:Nat->Nat):∀ (f k:Nat) (l:List α) (out:Array α),l.length=f->(pickOrder.go nx f k l out).toList.Perm (out.toList++l):=by
 intro l_;induction l_ with
 |zero=>
   intro k l out h;have:l=[]:=E5 h;subst this;simp[pickOrder.go]
 |succ f aq=>
   intro k l out h;have lt:nx k % l.length<l.length:=Yr _ zb;rw[pickOrder.go,cU lt];refine(aq (k+1) _ _ (by rw[YQ lt];lia)).trans ?_;rw[KO,kL];refine adm _ ?_;exact lU l lt
theorem Bo (nx:Nat->Nat) (xs:Array α):(pickOrder nx xs).toList.Perm xs.toList:=by
 have:=O0 nx xs.size 0 xs.toList #[] zf;simpa[pickOrder] using this
def dZ (w:World) (t:SetTable):Nat->Nat
 |0=>0
 |i+1=>if bO w then 0 else t.place.getD i 0+1
def given (w:World) (a:Addr) (ep:Nat) (es:Array (Int×kz)):List kz:=(if bO w then (pickOrder zcv es).toList else es.toList).map (·.2)
theorem lV (a:Addr) (ep:Nat) (es:Array (Int×kz)):(given w a ep es).Perm (es.toList.map (·.2)):=by
 unfold given;split
 .exact(Bo _ es).map _
 .exact .refl _
theorem Fo (h:bO w=zO) (t:SetTable) (i:Nat):dZ w t i=0:=by
 cases i with
 |zero=>rfl
 |succ i=>exact if_pos h
theorem Ty {ms:List Int}{es:Array (Int×kz)}(ho:s.heap.get? a=some o) (S:dG prog w (bO w) o ns es ep t ms) (hp:bO w=zw->zaq=zw) {x:kz}(hx:(given w a ep es)[i]?=some x)
 {Q:Option (kz×Nat)->Shared->uu}(h:Q (some (x,dZ w t (i+1))) s):wpAny zg A (setNext a (dZ w t i) i ep) Q E s:=by
 have il:i<es.size:=by
  have:=(List.getElem?_eq_some_iff.mp hx).1;rw[(lV a ep es).length_eq,aS,nq]at this;exact this
 unfold setNext;refine ae (uQ ho S.d S.ft ?_);unfold setsByText;refine ae (ae (sr (ag ?_)));cases bt:bO w with
 |true=>
   show wpAny _ _ (if bO w=zO then _ else _) _ _ _;rw[if_pos bt];rw[if_neg zf];unfold setWalk setsByText;refine ae (ae (uQ ho S.d S.ft (ae (ae (sr (ag ?_))))));show wpAny _ _ (if bO w=zO then _ else _) _ _ _;rw[if_pos bt];refine ae (sr (ag (ag ?_)));unfold given at hx;rw[if_pos bt,ke,rC]at hx;rw[Fo bt]at h ⊢;show Q (((pickOrder zcv es)[i]?).map λe=>(e.2,0)) s;cases q:(pickOrder zcv es)[i]? with
   |none=>rw[q]at hx;cases hx
   |some e=>
     rw[q]at hx;cases hx;exact h
 |false=>
   show wpAny _ _ (if bO w=zO then _ else _) _ _ _;rw[if_neg (by rw[bt];decide)];have led:=S.ok.l bt;unfold given at hx;rw[if_neg (by rw[bt];decide),ke,rC]at hx;have pl:t.place.size=es.size:=by
    have:=S.ft;erw[SetTable.fits,ao,beq_iff_eq]at this;exact this.1
   have pi:t.place[i]?=some (t.place.getD i 0):=by
    have:i<t.place.size:=by lia
    simp[Array.getD,this]
   have sl:SetTable.below t.place (dZ w t i)=i:=by
    cases i with
    |zero=>exact Ar S.ok.r
    |succ i=>
      have e1:dZ w t (i+1)=t.place.getD i 0+1:=if_neg (by rw[bt];decide);rw[e1];refine Aq S.ok.r ?_;have:i<t.place.size:=by lia
      simp[Array.getD,this]
   split
   .ext c;exact absurd ((show zaq=zO from c).symm.trans (hp bt)) za
   .refine ae ?_;show wpAny _ _ (if (!t.led&&!es.isEmpty)=zO then _ else _) _ _ _;rw[if_neg (by rw[led];simp)];refine ag (ag ?_);rw[sl];cases q:es[i]? with
    |none=>rw[q]at hx;cases hx
    |some e=>
      rw[q]at hx;cases hx;rw[pi];have e1:dZ w t (i+1)=t.place.getD i 0+1:=if_neg (by rw[bt];decide);rw[e1]at h;exact h
def tM (h:Heap) (it a:Addr) (k i n ep:Nat):uu:=∃ o u0 u1 u2 u3,h.get? it=some o /\ o.cls=.type "set_iterator" /\ o.data=.fields (List.toArray [.int (k:Nat) u0,.int (i:Nat) u1,.ref a,.int (n:Nat) u2,.int (ep:Nat) u3])
theorem tM.typeIs {k:Nat}(h:tM s.heap it a k i n ep):s.TypeIs zay "set_iterator":=by
 let#[o,_,_,_,_,e,c,_]:=h;exact#[o,e,c]
theorem tM.at {h:Heap}{k:Nat}(x:tM h it a k i n ep) (e:∀ o,h.get? it=some o->h'.get? it=some o):tM h' it a k i n ep:=by
 let#[o,u0,u1,u2,u3,ho,r]:=x;exact#[o,u0,u1,u2,u3,e o ho,r]
theorem O1 {ms:List Int}{es:Array (Int×kz)}{x:kz}{Q:Option kz->Shared->uu}(pq:a≠it) (hi:tM s.heap it a (dZ w t i) i es.size ep) (ho:s.heap.get? a=some o) (S:dG prog w (bO w) o ns es ep t ms)
 (hp:bO w=zw->zaq=zw) (hx:(given w a ep es)[i]?=some x)
 (hQ:∀ h',tM h' it a (dZ w t (i+1)) (i+1) es.size ep->Heap.SameBut it s.heap h'->Q (some x) { s with heap:=h' }):wpAny zg A (pyNext zay) Q E s:=by
 have ty:=hi.typeIs;let#[oi,u0,u1,u2,u3,pC,hc,hd]:=hi;unfold pyNext;refine ae (tX (qp (name:=Str.ofString "__next__") ty iu (eI iu ty lE ?_ (lF _))));unfold Builtin.«set_iterator.__next__»;refine ae (ag ?_);refine ae (wo pC hd ?_);show wpAny _ _ (setEntries a >>= λes'=>_) _ _ s;refine ae (xZ ho S.d S.ft ?_);rw[if_neg zf];show wpAny _ _ (setNext a ((dZ w t i:Nat):Int).toNat ((i:Nat):Int).toNat ((ep:Nat):Int).toNat >>= λr=>_) _ _ s;rw[kN,kN,kN];refine ae (Ty ho S hp hx ?_);show wpAny _ _ (setField zay 0 (rawInt ((dZ w t (i+1):Nat):Int)) >>= λ_=>_) _ _ s;have h1:(s.heap.update it (Obj.mapFields zcH)).get? it=some (Obj.mapFields zcH oi):=qt _ pC (wH (pZ hd _));have d1:(Obj.mapFields zcH oi).data=.fields (List.toArray [rawInt ((dZ w t (i+1):Nat):Int),.int (i:Nat) u1,.ref a,.int (es.size:Nat) u2,.int (ep:Nat) u3]):=by rw[pZ hd];simp
 refine ae (q0 pC hd zf ?_);show wpAny _ _ (setField zay 1 (rawInt (((i:Nat):Int)+1)) >>= λ_=>_) _ _ _;refine ae (q0 h1 d1 zf ?_);refine ag #[_,rfl,ag (hQ _ #[_,0,0,u2,u3,qt _ h1 (wH (pZ d1 _)),?_,?_] ((Heap.SameBut.update ..).trans zbw))]
 .exact(yk ..).trans ((yk ..).trans hc)
 .rw[pZ d1];simp[rawInt]
theorem Tz {ms:List Int}{es:Array (Int×kz)}(ho:s.heap.get? a=some o) (S:dG prog w (bO w) o ns es ep t ms) (hp:bO w=zw->zaq=zw)
 {Q:Option (kz×Nat)->Shared->uu}(h:Q zy s):wpAny zg A (setNext a (dZ w t es.size) es.size ep) Q E s:=by
 unfold setNext;refine ae (uQ ho S.d S.ft ?_);unfold setsByText;refine ae (ae (sr (ag ?_)));cases bt:bO w with
 |true=>
   show wpAny _ _ (if bO w=zO then _ else _) _ _ _;rw[if_pos bt,if_neg zf];unfold setWalk setsByText;refine ae (ae (uQ ho S.d S.ft (ae (ae (sr (ag ?_))))));show wpAny _ _ (if bO w=zO then _ else _) _ _ _;rw[if_pos bt];refine ae (sr (ag (ag ?_)));have e1:(pickOrder zcv es)[es.size]?=zy:=by
    have:=(Bo zcv es).length_eq;rw[nq,nq]at this;rw[<-this];simp
   show Q (((pickOrder zcv es)[es.size]?).map λe=>(e.2,dZ w t es.size)) s;rw[e1];exact h
 |false=>
   show wpAny _ _ (if bO w=zO then _ else _) _ _ _;rw[if_neg (by rw[bt];decide)];have led:=S.ok.l bt;have pl:t.place.size=es.size:=by
    have:=S.ft;erw[SetTable.fits,ao,beq_iff_eq]at this;exact this.1
   have sl:SetTable.below t.place (dZ w t es.size)=es.size:=by
    cases q:es.size with
    |zero=>exact Ar S.ok.r
    |succ i=>
      have e1:dZ w t (i+1)=t.place.getD i 0+1:=if_neg (by rw[bt];decide);rw[e1];refine Aq S.ok.r ?_;have:i<t.place.size:=by lia
      simp[Array.getD,this]
   split
   .ext c;exact absurd ((show zaq=zO from c).symm.trans (hp bt)) za
   .refine ae ?_;show wpAny _ _ (if (!t.led&&!es.isEmpty)=zO then _ else _) _ _ _;rw[if_neg (by rw[led];simp)];refine ag (ag ?_);rw[sl];have e2:es[es.size]?=zy:=by simp
    rw[e2];exact h
theorem TB {ms:List Int}{es:Array (Int×kz)}{Q:Option kz->Shared->uu}(hh:A.handled=zy) (hi:tM s.heap it a (dZ w t es.size) es.size es.size ep) (ho:s.heap.get? a=some o) (S:dG prog w (bO w) o ns es ep t ms)
 (hp:bO w=zw->zaq=zw) (hQ:∀ h',Heap.ExtBut it s.heap h'->Q zy { s with heap:=h' }):wpAny zg A (pyNext zay) Q E s:=by
 have ty:=hi.typeIs;let#[oi,u0,u1,u2,u3,pC,hc,hd]:=hi;unfold pyNext;refine ae (tX (qp (name:=Str.ofString "__next__") ty iu (eI iu ty lE ?_ (lF _))));unfold Builtin.«set_iterator.__next__»;refine ae (ag ?_);refine ae (wo pC hd ?_);show wpAny _ _ (setEntries a >>= λes'=>_) _ _ s;refine ae (xZ ho S.d S.ft ?_);rw[if_neg zf];show wpAny _ _ (setNext a ((dZ w t es.size:Nat):Int).toNat ((es.size:Nat):Int).toNat ((ep:Nat):Int).toNat >>= λr=>_) _ _ s;rw[kN,kN,kN];refine ae (Tz ho S hp ?_);show wpAny _ _ (setField zay 2 .none >>= λ_=>_) _ _ s;refine ae (q0 pC hd zf ?_);show wpAny _ _ (newExc (.type "StopIteration") [] >>= λe=>raiseNew e) _ _ _;refine ae (by
  erw[newExc,newTuple];refine ae (dJ (ae (m:=firstArgMember _ _) (wj (a:=Value.none) (by first|rfl|(erw[firstArgMember];rfl)) (dJ ?_ zb9))) zb9);erw[raiseNew];refine ae (EN ?_);rw[show A.in1.handled=none from hh];refine ae (ag (EO ?_));refine ae (xW (T:="StopIteration") (b:=zO) #[_,bw _ bz,rfl] ER ?_);exact ag (hQ _ (((Heap.SameBut.update ..).extBut.push _).push _)))
theorem MD (hh:A.handled=zy) (pq:a≠it) {ms:List Int}{es:Array (Int×kz)}(S:dG prog w (bO w) o ns es ep t ms) (hp:bO w=zw->zaq=zw) :
 Walks prog w A it [it,a] [it] es.size (λi v=>(given w a ep es)[i]?=some v) (λi h=>tM h it a (dZ w t i) i es.size ep /\ h.get? a=some o) where
 sub:=λb hb=>by simp at hb;simp[hb]
 frame:=λ_ _ _ st hk=>#[st.1.at λo e=>hk it zf o e,hk a zf _ st.2]
 item:=λi s Q E hi st hQ=>by
  obtain⟨x,hx⟩:∃ x,(given w a ep es)[i]?=some x:=by
   have:i<(given w a ep es).length:=by rw[(lV a ep es).length_eq,aS,nq];exact hi
   exact#[_,cU this]
  refine O1 pq st.1 st.2 S hp hx λh' i' sb=>?_;exact hQ x h' s.toks hx #[i',(sb.2 a pq).trans st.2] λb o hb e=>(sb.2 b λz=>hb (by simp[z])).trans e
 done:=λs Q E st hQ=>TB hh st.1 st.2 S hp λh' he=>hQ h' s.toks λb o hb e=>he b o (λz=>hb (by simp[z])) e
 self:=λi s Q E st hQ=>by
  have ty:=st.1.typeIs;refine xV ty oP (eI oP ty Bm ?_ (Bn _));show wpAny _ _ (ret zay) _ _ s;exact ag #[_,rfl, "set_iterator",_,ty,iu.lookup,hQ]
theorem ME {src:Source}{Q:Nat->Shared->uu}(hn:n≠0) (h:∀ i,i<n->Q i { s with drawn:=s.drawn.bump src }):wpAny zg A (choose src n) Q E s:=λ_ _ _=>#[hn,h _ (Yr _ (Nat.pos_of_ne_zero hn))]
theorem CL {α:Type}:∀ (n:Nat) (l:List α) (s:Shared) {Q:List α->Shared->uu},l.length=n->(∀ l' d,l'.Perm l->Q l' { s with drawn:=d })->wpAny zg A (drawOrder n l) Q E s
 | 0,l,s,Q,hl,h=>by
   have:l=[]:=E5 hl;subst this;exact ag (h [] s.drawn (.refl _))
 |n+1,[],s,Q,hl,h=>by cases hl
 | n+1,x::l,s,Q,hl,h=>by
   unfold drawOrder;refine ae (ME zf λi hi=>?_);rw[cU hi];refine ae (CL n ((x::l).eraseIdx i) _ (by rw[YQ hi];lia) λl' d p=>ag (h _ d ?_));exact(p.cons _).trans (lU (x::l) hi)
def tN (h:Heap) (it a q:Addr) (i n ep:Nat):uu:=∃ o u1 u2 u3,h.get? it=some o /\ o.cls=.type "set_iterator" /\ o.data=.fields (List.toArray [.ref q,.int (i:Nat) u1,.ref a,.int (n:Nat) u2,.int (ep:Nat) u3])
theorem tN.typeIs {q:Addr}(h:tN s.heap it a q i n ep):s.TypeIs zay "set_iterator":=by
 let#[o,_,_,_,e,c,_]:=h;exact#[o,e,c]
theorem tN.at {h:Heap}{q:Addr}(x:tN h it a q i n ep) (e:∀ o,h.get? it=some o->h'.get? it=some o):tN h' it a q i n ep:=by
 let#[o,u1,u2,u3,ho,r]:=x;exact#[o,u1,u2,u3,e o ho,r]
theorem O2 {q:Addr}{oq:Obj}{ms:List Int}{es:Array (Int×kz)}{c:Nat}{ps:List Nat}{e:Int×kz}{Q:Option kz->Shared->uu}(hi:tN s.heap it a q i es.size ep) (ho:s.heap.get? a=some o) (S:dG prog w (bO w) o ns es ep t ms)
 (hq:s.heap.get? q=some oq) (xk:oq.data=.seq (ps.map λ(k:Nat)=>rawInt (k:Int)).toArray c) (hj:ps[i]?=some j) (hx:es[j]?=some e)
 (hQ:∀ h',tN h' it a q (i+1) es.size ep->Heap.SameBut it s.heap h'->Q (some e.2) { s with heap:=h' }):wpAny zg A (pyNext zay) Q E s:=by
 have ty:=hi.typeIs;let#[oi,u1,u2,u3,pC,hc,hd]:=hi;unfold pyNext;refine ae (tX (qp (name:=Str.ofString "__next__") ty iu (eI iu ty lE ?_ (lF _))));unfold Builtin.«set_iterator.__next__»;refine ae (ag ?_);refine ae (wo pC hd ?_);show wpAny _ _ (setEntries a >>= λes'=>_) _ _ s;refine ae (xZ ho S.d S.ft ?_);rw[if_neg zf];show wpAny _ _ (seqItems? (.ref q) >>= λr=>_) _ _ s;unfold seqItems?;refine ae (ae (wb hq ?_));rw[xk];refine ag ?_;dsimp only;rw[kN,show (ps.map λ(k:Nat)=>rawInt (k:Int)).toArray[i]?=some (rawInt (j:Int)) by simp[hj]];show wpAny _ _ (setNextDrawn a ((j:Nat):Int).toNat ((ep:Nat):Int).toNat >>= λr=>_) _ _ s;rw[kN,kN];unfold setNextDrawn;refine ae (ae (uQ ho S.d S.ft ?_));dsimp only;rw[if_neg zf,hx];refine ag ?_;show wpAny _ _ (setField zay 1 (rawInt (((i:Nat):Int)+1)) >>= λ_=>_) _ _ _;refine ae (q0 pC hd zf ?_);refine ag #[_,rfl,ag (hQ _ #[_,0,u2,u3,qt _ pC (wH (pZ hd _)),(yk ..).trans hc,?_] zbw)];rw[pZ hd];simp[rawInt]
theorem TC {q:Addr}{oq:Obj}{ms:List Int}{es:Array (Int×kz)}{c:Nat}{ps:List Nat}{Q:Option kz->Shared->uu}(hh:A.handled=zy) (hi:tN s.heap it a q i es.size ep) (ho:s.heap.get? a=some o) (S:dG prog w (bO w) o ns es ep t ms)
 (hq:s.heap.get? q=some oq) (xk:oq.data=.seq (ps.map λ(k:Nat)=>rawInt (k:Int)).toArray c) (hj:ps[i]?=zy)
 (hQ:∀ h',Heap.ExtBut it s.heap h'->Q zy { s with heap:=h' }):wpAny zg A (pyNext zay) Q E s:=by
 have ty:=hi.typeIs;let#[oi,u1,u2,u3,pC,hc,hd]:=hi;unfold pyNext;refine ae (tX (qp (name:=Str.ofString "__next__") ty iu (eI iu ty lE ?_ (lF _))));unfold Builtin.«set_iterator.__next__»;refine ae (ag ?_);refine ae (wo pC hd ?_);show wpAny _ _ (setEntries a >>= λes'=>_) _ _ s;refine ae (xZ ho S.d S.ft ?_);rw[if_neg zf];show wpAny _ _ (seqItems? (.ref q) >>= λr=>_) _ _ s;unfold seqItems?;refine ae (ae (wb hq ?_));rw[xk];refine ag ?_;dsimp only;rw[kN,show (ps.map λ(k:Nat)=>rawInt (k:Int)).toArray[i]?=none by simpa using hj];show wpAny _ _ (setField zay 0 (rawInt 0) >>= λ_=>_) _ _ s;have h1:(s.heap.update it (Obj.mapFields (·.setIfInBounds 0 (rawInt 0)))).get? it=some (Obj.mapFields (·.setIfInBounds 0 (rawInt 0)) oi):=qt _ pC (wH (pZ hd _));have d1:(Obj.mapFields (·.setIfInBounds 0 (rawInt 0)) oi).data=.fields (List.toArray [rawInt 0,.int (i:Nat) u1,.ref a,.int (es.size:Nat) u2,.int (ep:Nat) u3]):=by rw[pZ hd];simp
 refine ae (q0 pC hd zf ?_);show wpAny _ _ (setField zay 2 .none >>= λ_=>_) _ _ _;refine ae (q0 h1 d1 zf ?_);show wpAny _ _ (newExc (.type "StopIteration") [] >>= λe=>raiseNew e) _ _ _;refine ae (by
  erw[newExc,newTuple];refine ae (dJ (ae (m:=firstArgMember _ _) (wj (a:=Value.none) (by first|rfl|(erw[firstArgMember];rfl)) (dJ ?_ zb9))) zb9);erw[raiseNew];refine ae (EN ?_);rw[show A.in1.handled=none from hh];refine ae (ag (EO ?_));refine ae (xW (T:="StopIteration") (b:=zO) #[_,bw _ bz,rfl] ER ?_);exact ag (hQ _ ((((Heap.SameBut.update ..).trans zbw).extBut.push _).push _)))
noncomputable def Ii (es:Array (Int×kz)) (ps:List Nat):List kz:=ps.map λk=>(es.getD k (0,.none)).2
theorem CM {es:Array (Int×kz)}{ps:List Nat}(p:ps.Perm (List.range es.size)):(Ii es ps).Perm (es.toList.map (·.2)):=by
 refine(p.map _).trans (adn ?_);apply yf;intro i;by_cases h:i<es.size
 .simp[Array.getD,h]
 .simp[h]
theorem O3 (hh:A.handled=zy) {q:Addr}(pq:a≠it) (agi:q≠it) {oq:Obj}{ms:List Int}{es:Array (Int×kz)}{c:Nat}{ps:List Nat}(S:dG prog w (bO w) o ns es ep t ms)
 (xk:oq.data=.seq (ps.map λ(k:Nat)=>rawInt (k:Int)).toArray c) (p:ps.Perm (List.range es.size)) :
 Walks prog w A it [it,a,q] [it] es.size (λi v=>(Ii es ps)[i]?=some v) (λi h=>tN h it a q i es.size ep /\ h.get? a=some o /\ h.get? q=some oq) where
 sub:=λb hb=>by simp at hb;simp[hb]
 frame:=λ_ _ _ st hk=>#[st.1.at λo e=>hk it zf o e,hk a zf _ st.2.1,hk q zf _ st.2.2]
 item:=λi s Q E hi st hQ=>by
  have il:i<ps.length:=by rw[p.length_eq,wC];exact hi
  have ej:ps[i]?=some ps[i]:=cU il;have jl:ps[i]<es.size:=List.mem_range.mp (p.mem_iff.mp (uX il));have ex:es[ps[i]]?=some es[ps[i]]:=by simp[jl]
  refine O2 st.1 st.2.1 S st.2.2 xk ej ex λh' i' sb=>?_;refine hQ _ h' s.toks ?_ #[i',(sb.2 a pq).trans st.2.1,(sb.2 q agi).trans st.2.2] λb o hb e=>(sb.2 b λz=>hb (by simp[z])).trans e;unfold Ii;rw[ke,ej];simp[Array.getD,jl]
 done:=λs Q E st hQ=>TC hh st.1 st.2.1 S st.2.2 xk (rq (by rw[p.length_eq,wC];exact au _)) λh' he=>hQ h' s.toks λb o hb e=>he b o (λz=>hb (by simp[z])) e
 self:=λi s Q E st hQ=>by
  have ty:=st.1.typeIs;refine xV ty oP (eI oP ty Bm ?_ (Bn _));show wpAny _ _ (ret zay) _ _ s;exact ag #[_,rfl, "set_iterator",_,ty,iu.lookup,hQ]
def agj (prog:Program) (w:World) (A:Around) (s:Shared) (a:Addr) (es:Array (Int×kz)) (it:Addr) (s':Shared):uu:=
 ∃ (h':Heap) (d:Drawn) (us:List kz) (fp:List Addr) (St:Nat->Heap->uu),s'={ s with heap:=h',drawn:=d } /\ Kp s.heap h' /\ us.Perm (es.toList.map (·.2)) /\ it∈fp /\ (∀ b∈fp,b<h'.objs.size /\ (b=a \/ s.heap.objs.size<=b)) /\ s.heap.objs.size<=it /\
  Walks prog w A it fp [it] es.size (λi v=>us[i]?=some v) St /\ St 0 h' /\ ∀ i h,St i h->∃ o,h.get? it=some o /\ o.cls=.type "set_iterator"
theorem MF (hh:A.handled=zy) {ms:List Int}{es:Array (Int×kz)}(ho:s.heap.get? a=some o) (S:dG prog w (bO w) o ns es ep t ms)
 (h:∀ it s',agj prog w A s a es it s'->Q zay s'):wpAny zg A (pyIter za3) Q E s:=by
 have ty:s.TypeIs za3 "set":=#[o,ho,S.x.1];have al:=aN ho;refine xV ty ZL (eI ZL ty Fn ?_ (F.args_set_iter_1 _));unfold Builtin.«frozenset.__iter__»;show wpAny _ _ (Builtin.Frozenset.sizeOf a >>= λn=>_) _ _ s;unfold Builtin.Frozenset.sizeOf;refine ae (ae (xZ ho S.d S.ft (ag ?_)));unfold setDrawn setsByText;refine ae (ae (uQ ho S.d S.ft (ae (ae (sr (ag (ag ?_)))))));dsimp only;split
 .ext c;have c':(!bO w&&zaq)=zO:=c;refine ae (CL es.size (List.range es.size) s zf λps d p=>?_);unfold newTuple;refine ae (dJ ?_ ?_)
  .have hq:(s.heap.push { cls:=.type "tuple",data:=.seq (ps.map λ(k:Nat)=>rawInt (k:Int)).toArray }).get? s.heap.objs.size=some { cls:=.type "tuple",data:=.seq (ps.map λ(k:Nat)=>rawInt (k:Int)).toArray }:=bw _ bz;have abG:(s.heap.push { cls:=.type "tuple",data:=.seq (ps.map λ(k:Nat)=>rawInt (k:Int)).toArray }).get? a=some o:=aK _ ho;refine ae (Ym abG S.d S.ft ?_);unfold newFields;refine ae (dJ (ag ?_) zb9);have sz:(s.heap.push { cls:=.type "tuple",data:=.seq (ps.map λ(k:Nat)=>rawInt (k:Int)).toArray }).objs.size=s.heap.objs.size+1:=uY ..;have gi:=bw (s.heap.push { cls:=.type "tuple",data:=.seq (ps.map λ(k:Nat)=>rawInt (k:Int)).toArray }) (o:={ cls:=.type "set_iterator",data:=.fields [.ref s.heap.objs.size,rawInt 0,.ref a,rawInt (es.size:Nat),rawInt (ep:Nat)].toArray }) bz
   refine#[_,rfl, "set_iterator",_,#[_,gi,rfl],iu.lookup,h _ _ #[_,d,Ii es ps,[_,a,s.heap.objs.size],_,rfl,λb o e=>aK _ (aK _ e),CM p,.head _,λb hb=>?_,by rw[sz];exact t8 _,
    O3 hh (by rw[sz];exact bT (rh al)) (by rw[sz];exact bT (kJ _)) S bz p,#[#[_,_,_,_,gi,rfl,rfl],aK _ abG,aK _ hq],λi h st=>?_]]
   .rw[uY,sz];erw[aH,dq,or_false]at hb;rcases hb with rfl|rfl|rfl
    .rw[sz];exact#[kJ _,.inr (t8 _)]
    .exact#[rh (rh al),.inl bz]
    .exact#[rh (kJ _),.inr (au _)]
   .let#[#[oi,_,_,_,e,cl,_],_]:=st;exact#[oi,e,cl]
  .show (ps.map λ(k:Nat)=>rawInt (k:Int)).toArray.size<=sizeLine;have l1:=p.length_eq;have bd:=S.bd;have sb:scanBound=4096:=rfl;have sl:sizeLine=16777216:=bH;rw[wC]at l1;simp;lia
 .ext c;have hp:bO w=zw->zaq=zw:=λz=>by
   have c':¬ ((!bO w&&zaq)=zO):=c;rw[z]at c';simpa using c'
  refine ae (ag ?_);show wpAny _ _ (setEpoch a >>= λe=>_) _ _ s;refine ae (Ym ho S.d S.ft ?_);show wpAny _ _ (newFields "set_iterator" [rawInt 0,rawInt 0,.ref a,rawInt (es.size:Nat),rawInt (ep:Nat)] >>= λv=>ret v) _ _ s;unfold newFields;refine ae (dJ (ag ?_) zb9);have gi:(s.heap.push { cls:=.type "set_iterator",data:=.fields [rawInt 0,rawInt 0,.ref a,rawInt (es.size:Nat),rawInt (ep:Nat)].toArray }).get? s.heap.objs.size=some { cls:=.type "set_iterator",data:=.fields [rawInt 0,rawInt 0,.ref a,rawInt (es.size:Nat),rawInt (ep:Nat)].toArray }:=bw _ bz;refine#[_,rfl, "set_iterator",_,#[_,gi,rfl],iu.lookup,h _ _ #[_,s.drawn,given w a ep es,[s.heap.objs.size,a],_,rfl,λb o e=>aK _ e,lV a ep es,.head _,λb hb=>?_,au _,MD hh (bT al) S hp,#[#[_,_,_,_,_,gi,rfl,rfl],aK _ ho],λi h st=>?_]]
  .rw[uY];simp at hb;rcases hb with rfl|rfl
   .exact#[kJ _,.inr (au _)]
   .exact#[rh al,.inl bz]
  .let#[#[oi,_,_,_,_,e,cl,_],_]:=st;exact#[oi,e,cl]
noncomputable abbrev WL:Obj:={ cls:=.type "list",data:=.seq ([]:List kz).toArray }
def agk (s:Shared) (s':Shared):uu:=∃ h' d tk,s'={ s with heap:=h',drawn:=d,toks:=tk } /\ Kp s.heap h' /\ s.heap.objs.size<=h'.objs.size
theorem CN (hh:A.handled=zy) {ms:List Int}{es:Array (Int×kz)}{Q:List kz->Shared->uu}(ho:s.heap.get? a=some o) (S:dG prog w (bO w) o ns es ep t ms)
 (h:∀ us s',us.Perm (es.toList.map (·.2))->agk s s'->Q us s'):wpAny zg A (collect za3) Q E s:=by
 have al:=aN ho;have nl:s.heap.objs.size≠a:=tZ al;have ty:∀ h' d tk,Kp s.heap h'->Shared.TypeIs { s with heap:=h',drawn:=d,toks:=tk } za3 "set":=λh' d tk k=>#[o,k a o ho,S.x.1];unfold collect;refine ae (X7 (uO F.entry_proto_collect (by
  rw[He F.plain_proto_collect _];refine ae (dJ (ag #[wm ZM _,uO F.entry_list_iadd ?_]) zb9);rw[He ZM _];show wpAny _ A.in1 (Builtin.List.listExtendWith zaj za3 zaj) _ _ _;unfold Builtin.List.listExtendWith;have k1:Kp s.heap (s.heap.push WL):=λb ob e=>aK _ e;refine ae (wc (ty _ s.drawn s.toks k1) ?_);rw[if_neg (by simp[Builtin.List.listSameRef,nl])];refine ae (MF (A:=A.in1) (by simp[hh]) (k1 a o ho) S λit s1 bg=>?_);let#[h1,d,us,fp,St,rfl,k2,pu,mi,fl,ge,W,agl,cl]:=bg;have k3:Kp s.heap h1:=λb ob e=>k2 b ob (k1 b ob e);have g0:h1.get? s.heap.objs.size=some WL:=k2 _ _ (bw _ bz);refine ae (dI ?_);unfold Builtin.List.listLengthHint;refine ae (X8 (ty h1 d s.toks k3) F.slot_set_len.lookup ?_);dsimp only;rw[show splitId "set.__len__"=some ("set","__len__") by decide +kernel];dsimp only;refine ae (xW (b:=zO) (ty h1 d s.toks k3) sub_set_self ?_);rw[if_neg za];rw[if_pos z7];refine ae (wc (ty h1 d s.toks k3) ?_);refine ag ?_;rw[if_pos z7];refine ae (pW (ae ?_));show wpAny _ A.in1 (updateSeq s.heap.objs.size (·.push .none) >>= λ_=>updateSeq s.heap.objs.size (·.pop)) _ _ _;have g1:=qt (Obj.mapSeq (·.push Value.none)) g0 bz;have g2:=qt (Obj.mapSeq (·.pop)) g1 bz;have z1:(s.heap.push WL).objs.size=s.heap.objs.size+1:=uY ..;have agm:s.heap.objs.size+1<=it:=z1▸ge;have nf:s.heap.objs.size∉fp:=λm=>by
   rcases(fl _ m).2 with z|z
   .exact nl z
   .exact absurd (z1▸z:s.heap.objs.size+1<=s.heap.objs.size) (Nat.not_succ_le_self _)
  have abH:∀ b ob,b≠s.heap.objs.size->h1.get? b=some ob->((h1.update s.heap.objs.size (Obj.mapSeq (·.push Value.none))).update s.heap.objs.size (Obj.mapSeq (·.pop))).get? b=some ob:=λb ob ne e=>(EY _ _ (Ne.symm ne)).trans ((EY _ _ (Ne.symm ne)).trans e);have sl:es.size<=sizeLine:=Kf S.bd;refine ae (xX g0 bz (xX g1 bz (ag #[wm F.plain_extend_loop _,codeAny_extend_loopS W.toS sl _ nf _ es.size 0 _ _ _ bz (nT _) (W.frame 0 h1 _ agl λb hb ob e=>abH b ob (λz=>nf (z▸hb)) e) g2 (ItemsOf.nil _) λs2 acc c mv gs bG=>?_])));refine ae (wb gs (ag (h _ s2 ?_ ?_)))
  .have e1:acc.toList=us:=by
    have ul:us.length=es.size:=by rw[pu.length_eq,aS,nq]
    apply yf;intro j;by_cases hj:j<acc.size
    .have ej:acc[j]?=some acc[j]:=by simp[hj]
     rw[rC,ej];exact(bG.2 j _ ej).symm
    .have h3:=bG.1;rw[rC,KR zb,rq zb]
   rw[e1];exact pu
  .let#[h2,gg,dd,tk,os]:=s2;have q1:gg=s.gens:=mv.gens;have q2:dd=d:=mv.drawn;have q3:os=s.os:=mv.os;subst q1 q2 q3;refine#[h2,dd,tk,rfl,λb ob e=>?_,rf (aN gs)];have bl:=aN e;refine mv.heap b ob ?_ (abH b ob (bT bl) (k3 b ob e));erw[aH,dq,or_false,not_or];exact#[bT bl,bT (dj (rh bl) agm)])))
theorem Fp (hh:A.handled=zy) (S:ql prog w (bO w) s.heap a ns) (pN:ns.length<64)
 (h:∀ (l:Addr) (out:Array kz) (ks:List Int) (c:Nat) (h':Heap) (d:Drawn) (tk:Nat),IntsAre out.toList ks->ks.Perm ns->ks.Pairwise (·<=·)->Kp s.heap h'->s.heap.objs.size<=l->h'.get? l=some (seqObj "list" out c)->Q (.ref l) { s with heap:=h',drawn:=d,toks:=tk }) :
 wpAny zg A (call (.builtin "sorted") [.ref a]) Q E s:=by
 let#[o,es,ep,t,ms,ho,S]:=S;refine Zx Zg Zh Zi (Zj _) ?_;unfold Builtin.«sorted»;refine ae (m:=checkCount "sorted" 1 1 _) (ag (ae (CN (by simp[hh]) ho S λus s1 pu wk=>?_)));let#[h1,d,tk,rfl,k1,le]:=wk;let#[ks,ik,pk]:=jM pu S.vs;have ul:us.length<64:=by
  rw[ik.length,pk.length_eq,S.pm.length_eq];exact pN
 refine ae (EL ?_);have gl:(h1.push (seqObj "list" us.toArray 0)).get? h1.objs.size=some (seqObj "list" us.toArray 0):=bw _ bz;refine ae (dI (eI Zk #[_,gl,rfl] Zl (Zm gl ik ul λout js a1 a2 a3=>#[_,rfl,ag #[_,rfl,?_]]) (Zn _)));let#[c,gc]:=sortedHeap_at (vs:=us) (out:=out) gl;exact h _ out js c _ d tk a1 ((a2.trans pk).trans S.pm) a3 (λb ob e=>by
  have bl:b<h1.objs.size:=aN (k1 b ob e);rw[sortedHeap_old (bT bl) (by rw[uY];exact rh bl)];exact aK _ (k1 b ob e)) le gc
end HT
namespace L2
open PySem.W
section
variable {a:Expr} {p p2 HZ:Pos} {t:TA}
end
end L2
namespace L2.DL
open PySem.W
section
variable {a:Expr} {p p2 HZ:Pos} {m:DE (List W)}
end
end L2.DL
namespace HT
open PySem.W
def uD (h:Heap) (d:Addr) (vs:List kz) (ep:Nat):uu:=∃ o es,h.get? d=some o /\ o.data=.dict es ep /\ es.toList.map (·.val)=vs
theorem uD.at {h:Heap}{d:Addr}{vs:List kz}(x:uD h d vs ep) (k:∀ o,h.get? d=some o->h'.get? d=some o):uD h' d vs ep:=let ⟨o,es,e,r⟩:=x;#[o,es,k o e,r]
section
variable {v d:Addr} {vs:List kz} 
theorem O4 (hv:s.heap.IsValuesView v d) (hm:uD s.heap d vs ep)
 (q:Q zaj { s with heap:=s.heap.push { cls:=.type "dict_valueiterator",data:=.fields (List.toArray [.ref d,.int 0 0,.int vs.length 0,.int ep 0]) } }):wpAny zg A (pyIter (.ref v)) Q E s:=by
 let#[o1,e1,c1,d1]:=id hv;let#[o,es,e2,d2,ev]:=id hm;have sz:es.size=vs.length:=by rw[<-ev];simp
 refine xV hv.typeIs ZN (eI ZN hv.typeIs PySem.F.entry_dict_values_iter ?_ (PySem.F.args_dict_values_iter_1 _));unfold Builtin.«dict_values.__iter__»;refine ae (ag (ae ?_));unfold Builtin.Dict_items.dictOf;refine ae (eV e1 d1 (x:=.ref d) bz (ag (ae ?_)));unfold Builtin.Dict_items.newIterator;refine ae (Kg e2 d2 (ae (Yn e2 d2 ?_)));erw[show Builtin.Dict_items.ownsTuple "dict_valueiterator"=false by decide,wu,if_false];exact dJ (ag #[_,rfl, "dict_valueiterator",_,#[_,bw _ bz,rfl],K5.lookup,by simpa[rawInt,sz] using q])
theorem Gz {Q:Option kz->Shared->uu}(hit:s.heap.IsValIter it d i vs.length ep) (hm:uD s.heap d vs ep) (hh:A.handled=zy)
 (q:∀ x h',vs[i]?=some x->h'.IsValIter it d (i+1) vs.length ep->Heap.SameBut it s.heap h'->Q (some x) { s with heap:=h' })
 (qe:∀ h',vs[i]?=zy->Heap.ExtBut it s.heap h'->Q zy { s with heap:=h' }):wpAny zg A (pyNext zay) Q E s:=by
 let#[o,e1,c1,d1]:=id hit;let#[od,es,e2,d2,ev]:=id hm;have sz:es.size=vs.length:=by rw[<-ev];simp
 unfold pyNext;refine ae (tX (qp (name:=Str.ofString "__next__") hit.typeIs K5 (eI K5 hit.typeIs PySem.F.entry_dict_valueiterator_next ?_ (PySem.F.args_dict_valueiterator_next_1 _))));refine ae (ag (ae (ae ?_)));first|refine ae (Kh hit.typeIs (ag (ae (wo e1 d1 ?_))))|refine ae (Ki hit.typeIs (ag (ae (wo e1 d1 ?_))))
 erw[show Builtin.Dict_items.ownsTuple "dict_valueiterator"=false by decide,wu,if_false];show wpAny _ _ (if (Value.ref d==Value.none)=zO then _ else _) _ _ s;rw[if_neg (show ¬ ((Value.ref d==Value.none)=true) from bY)];refine ae (ag (ae (Kg e2 d2 ?_)));rw[if_neg (by rw[sz];simp)];refine ae (ag (ae (Yn e2 d2 ?_)));rw[if_neg zf];refine ag ?_;rcases EX i vs.length with hl|hl
 .have qd:i<es.size:=by rw[sz];exact hl
  have hv:vs[i]?=some es[i].val:=by rw[<-ev];simp[qd]
  erw[show ¬ ((i:Int)<0) from by lia,if_false,kN,Array.getElem?_eq_getElem qd];refine ae ?_;first|refine ae (Kh hit.typeIs (ag (ae (EU hit.typeIs ?_))))|refine ae (Ki hit.typeIs (ag (ae (EU hit.typeIs ?_))))
  show wpAny _ _ (setField zay 1 (rawInt ((i:Int)+1)) >>= _) _ _ s;refine ae (q0 e1 d1 zf ?_);have h2:(s.heap.update it zct).IsValIter it d (i+1) vs.length ep:=
   #[_,qt _ e1 (wH (pZ d1 _)),(yk ..).trans c1,by rw[pZ d1];simp[rawInt]]
  refine ae (dI (ae (EU (s:={ s with heap:=s.heap.update it zct }) h2.typeIs (ae (EU (s:={ s with heap:=s.heap.update it zct }) h2.typeIs ?_)))));show wpAny _ _ (pure es[i].val) _ _ _;exact ag (ag #[_,rfl,ag (q _ _ hv h2 zbw)])
 .have hx:vs[i]?=zy:=rq hl;erw[show ¬ ((i:Int)<0) from by lia,if_false,kN,KR (show es.size<=i by rw[sz];exact hl)];refine ae ?_;first|refine ae (Kh hit.typeIs (ag ?_))|refine ae (Ki hit.typeIs (ag ?_))
  show wpAny _ _ (setField zay 0 .none >>= _) _ _ s;refine ae (q0 e1 d1 zf ?_);show wpAny _ _ (newExc (.type "StopIteration") [] >>= _) _ _ _;refine ae ?_;erw[newExc,newTuple];refine ae (dJ (ae (m:=firstArgMember _ _) (wj (a:=Value.none) (by first|rfl|(erw[firstArgMember];rfl)) (dJ ?_ zb9))) zb9);erw[raiseNew];refine ae (EN ?_);rw[show A.in1.handled=none from hh];refine ae (ag (EO ?_));refine ae (xW (T:="StopIteration") (b:=zO) #[_,bw _ bz,rfl] ER ?_);exact ag (qe _ hx (((Heap.SameBut.update ..).extBut.push _).push _))
theorem O5 (hh:A.handled=zy) (pq:d≠it) (vs:List kz) (ep:Nat):Walks prog w A it [it,d] [it] vs.length (λi v=>vs[i]?=some v) (λi h=>h.IsValIter it d i vs.length ep /\ uD h d vs ep) where
 sub:=λb hb=>by simp at hb;simp[hb]
 frame:=λ_ _ _ st hk=>#[st.1.at λo e=>hk it zf o e,st.2.at λo e=>hk d zf o e]
 item:=λi s Q E hi st hQ=>Gz st.1 st.2 hh (λx h' hx h2 sb=>hQ x h' s.toks hx #[h2,st.2.at λo e=>sb.extBut d o pq e] λb o hb e=>sb.extBut b o (λz=>hb (by simp[z])) e) λh' hx _=>by rw[List.getElem?_eq_none_iff]at hx;lia
 done:=λs Q E st hQ=>Gz st.1 st.2 hh (λx h' hx _ _=>by simp at hx) λh' _ he=>hQ h' s.toks λb o hb e=>he b o (λz=>hb (by simp[z])) e
 self:=λ_ _ _ _ st hQ=>wpAny_pyIter_valiter st.1 hQ
theorem TD {r:Addr}(vs:List kz) (ep:Nat):KdlSrc prog w "dict_values" r d vs.length (λi v=>vs[i]?=some v) (λh=>h.IsValuesView r d /\ uD h d vs ep) where
 type:=λ_ hm=>hm.1.typeIs
 there:=λ_ hm=>#[let ⟨_,ho,_⟩:=hm.1;aN ho,let ⟨_,_,ho,_⟩:=hm.2;aN ho]
 keep:=λ_ _ hm hk=>#[let ⟨o,ho,x⟩:=hm.1;#[o,hk r zbs o ho,x],hm.2.at λo e=>hk d (.inr bz) o e]
 notList:=by decide
 notTuple:=by decide
 hint:=λ_ _ _ _ hm hq=>kdl_hint_values hm.1.typeIs hq
 iter:=λ_ _ hh hm=>#[_,_,(λ_ _ hq=>O4 hm.1 hm.2 hq),O5 hh (bT (let ⟨_,_,ho,_⟩:=hm.2;aN ho)) vs ep,#[#[_,bw _ bz,rfl,rfl],hm.2.at λo e=>aK _ e]]
end
section
variable {K:Type} [DecidableEq K] {knd:HeapKind prog w K} {d:Addr} {k:K} {xs:List (K × Addr × kz)} {v:kz}
theorem MG (hu:knd.room A) (hk:knd.is s.heap k a) (hm:s.heap.DictOfH knd d xs) (hz:xs.length<=sizeLine)
 (h1:∀ p,atKey xs k=some p->Q p.2 { s with toks:=s.toks+knd.draws k })
 (h2:atKey xs k=zy->∀ h',h'.DictOfH knd d (storedH xs k a v)->Heap.SameBut d s.heap h'->Q v { s with heap:=h',toks:=s.toks+knd.draws k }):wpAny zg A (dictSetDefault d za3 v) Q E s:=by
 let#[o,es,ep,ho,hc,hd,he,hi,hn]:=hm;have sz:=size_of_entries he;unfold dictSetDefault;refine dI (ae (knd.pyHash hu hk (ae (wpAny_dictFind_heap (s:={ s with toks:=s.toks+knd.draws k }) hu hk ho hd he hi hn (λno=>?_) λj p hj=>?_))))
 .have an:=atKey_none_of_get no;refine ae (pW (ae (wpAny_updateDictKeys (hz:=by lia) (s:={ s with toks:=s.toks+knd.draws k }) ho hd (ag (h2 an _ #[_,_,ep+1,qt _ ho (Obj.isFreed_of_dict (Zw hd _)),hc.mapDictKeys _,Zw hd _,?_,λx hx=>?_,?_] zbw)))))
  .rw[Kj an];simp[he,entryOfKey]
  .rw[Kj an]at hx;rcases cZ.mp hx with hx|hx
   .exact knd.keeps (hi x hx) ho hd zbw
   .cases bu.mp hx;exact knd.keeps hk ho hd zbw
  .rw[Kj an,pG,ub];refine#[hn,by simp,λx hx y hy=>?_];cases (bu.mp hy:y=k);exact λe=>not_mem_keys_of_get no (e▸hx)
 .refine ae (Kg (s:={ s with toks:=s.toks+knd.draws k }) ho hd ?_);rw[entry_at he j,hj];exact ae (pW (ag (h1 p (atKey_of_get hn hj))))
theorem MH (knd:HeapKind prog w K) (d a:Addr) (hd:(d==sysModules)=zw) (v:kz) :
 MeetsIn prog w (Builtin.«dict.setdefault» #[[.ref d,.ref a,v],[]]) (λA R s=>knd.room A.in1 /\ ∃ k xs,knd.is s.heap k a /\ s.heap.DictOfH knd d xs /\ xs.length<=sizeLine /\
  (∀ p,atKey xs k=some p->R (.ok (.ret p.2)) { s with toks:=s.toks+knd.draws k }) /\
  (atKey xs k=zy->∀ h',h'.DictOfH knd d (storedH xs k a v)->Heap.SameBut d s.heap h'->R (.ok (.ret v)) { s with heap:=h',toks:=s.toks+knd.draws k })):=
 .of_wp λA R s ⟨hu,k,xs,hk,hm,hz,h1,h2⟩=>by
  unfold Builtin.«dict.setdefault»;refine ae ?_;unfold Builtin.Dict.keyAndDefault;refine ae (Yo hm.typeIs ?_);show wpAny _ _ (pure (d,Value.ref a,some v)) _ _ s;refine ag ?_;show wpAny _ _ (if (d==sysModules)=zO then _ else (dictSetDefault d za3 v >>= _)) _ _ s;rw[if_neg (by rw[hd];exact bY)];exact ae (MG hu hk hm hz (λp hp=>ag #[_,rfl,h1 p hp]) λhn h' m' s'=>ag #[v,rfl,h2 hn h' m' s'])
theorem Fq (d:Addr) (hd:(d==sysModules)=zw) :
 MeetsIn prog w (Builtin.«dict.values» #[[.ref d],[]]) (λ_ R s=>s.TypeIs (.ref d) "dict" /\ R (.ok (.ret zaj)) { s with heap:=s.heap.push { cls:=.type "dict_values",data:=.fields (List.toArray [.ref d]) } }):=
 .of_wp λA R s ⟨hm,h⟩=>by
  refine ae ?_;unfold Builtin.Dict.noArgs;refine ae (Yo hm ?_);show wpAny _ _ (pure d) _ _ s;refine ag ?_;show wpAny _ _ (Builtin.Dict.showsAll d >>= _) _ _ s;unfold Builtin.Dict.showsAll;rw[if_neg (by rw[hd];exact bY)];exact ae (ag (ae (dJ (ag #[_,rfl,h]))))
end
end HT
namespace L2
open PySem.W
section
variable {o f:Expr} {aV p:Pos} {td ty tx:TE}
def abI (td ty tx:TE):TE:=λσ H Q=>td σ H λx H1=>∃ a,x=.ref a /\ Wr H1 a /\ ty σ H1 λy H2=>tx σ H2 λz H3=>∃ af k b,H3 a=some (.dT af) /\ y=.ref b /\ H3 b=some (.tup (k.map kV)) /\ af.length<sizeLine /\
 (∀ v,cz af k=some v->Q v H3) /\ (cz af k=zy->Q z (upd H3 a (.dT (putK af k z))))
theorem MI (hu:X.A.units+1<cLine) (ho:PE X o td) (he:PE X e ty) (hf:PE X f tx) (m:M2 X o "setdefault" apos e f aV):PE X zc3 (abI td ty tx):=by
 intro pins s σ H Q I h;refine Kd m.base m.abg m.line K4 Hc ZH (tE (ho pins s σ H _ I h) λu s1 x H1 I1 rx hh=>?_);let#[a,ex,d,q1]:=hh;subst ex;obtain rfl:u=Value.ref a:=rx;let#[t1,t2,_]:=Fc I1 d;refine#[t1,t2,?_];rw[m.trees];refine E9 bz (Ha (uZ (tE (he pins s1 σ H1 _ I1 q1) λiv s2 y H2 I2 ry q2=>uZ (tE (hf pins s2 σ H2 _ I2 q2) λfv s3 z H3 I3 rz ⟨af,k,b,ea,ey,eb,el,q3,q4⟩=>ym ?_))));subst ey;cases (show iv=Value.ref b from ry);let#[zl,hd,xs,rel,dd]:=Md I3.aj ea;have lx:xs.length<=sizeLine:=by rw[<-Paired.length rel];exact zl
 refine Ke Hc dd.typeIs ZI (ZJ _ _ _) (HT.MH (tupleKind (dt X.prog X.w)) a b hd fv) #[EM hu,k,xs,Am I3.aj eb,dd,lx,λp hp=>?_,λhn h' qh hs=>?_]
 .have rv:=rel.val k;rw[hp]at rv;cases l:cz af k with
  |none=>rw[l]at rv;exact rv.elim
  |some v'=>rw[l]at rv;exact#[v',H3,I3.tok _,rv,q3 v' l]
 .have l:cz af k=zy:=by
   have rv:=rel.val k;rw[hn]at rv;cases l:cz af k with
   |none=>rfl
   |some v'=>rw[l]at rv;exact rv.elim
  have hl:(putK af k z).length<=sizeLine:=by have:=iW af k z;lia
  let#[ob,es,ep,hq,h2,h3,h4,_,h5]:=qh;refine#[z,upd H3 a (.dT (putK af k z)),mn I3 (by rw[ea];exact True.intro) hs #[ob,hq] #[hl,hd,_,(rel.put k eb rz).keeps λc ys ec=>?_,ob,es,ep,hq,h2,h3,h4,h5],rz,q4 l];rw[fA (Ry ec ea (λz=>nomatch z))];exact ec
theorem O6 (r:KT H af xs):Vals (af.map (·.2)) (xs.map (·.2.2)):=by
 induction r with
 |nil=>exact .nil
 |cons h t ih=>exact .cons h.2.2 ih
def abJ (td:TE):TE:=λσ H Q=>td σ H λx H1=>∃ a af,x=.ref a /\ H1 a=some (.dT af) /\ ∀ l,H1 l=zy->Q (.ref l) (upd H1 l (.lst (af.map (·.2))))
theorem O7 (hc:X.calm=zO) (hg:Gl X "list") (hm:X.mg "list"=zy) (ho:PE X o td) (hb:attributeBase o "values" X.env (eval o X.env)=eval o X.env) (hl:(apos.endLine==aV.line)=zO) :
 PE X (.Call (.Name "list" p) [.Call zcP [] [] aV] [] pos) (abJ td):=by
 intro pins s σ H Q I h;refine sq (jj I hg hm (by decide +kernel:bootBuiltins "list"=some (.type "list")) ?_ za za);refine callWith_type1 ?_ (DL.fJ (e:=.Call zcP [] [] aV) bz [] X.env) bz;rw[DL.fJ (e:=.Call zcP [] [] aV) rfl [] X.env];show wpAny _ _ (spliced ((zw,eval (.Call zcP [] [] aV) X.env)::backTo pos (starEach [] X.env))) _ _ s;refine uZ (Kd hb bz hl K4 ZO PySem.F.type_dict_values (tE (ho pins s σ H _ I h) λu s1 x H1 I1 rx hh=>?_));let#[a,af,ex,ea,q1]:=hh;subst ex;obtain rfl:u=Value.ref a:=rx;let#[t1,t2,_]:=Fc I1 (.inr #[af,.inl ea]);refine#[t1,t2,E9 bz (acH ?_)];let#[zl,hd,xs,rel,dd]:=Md I1.aj ea;let#[ob,es,ep,hq,h2,h3,h4,_,h5]:=id dd;refine Ke ZO dd.typeIs PySem.F.entry_dict_values (PySem.F.args_dict_values_1 _) (HT.Fq a hd) #[dd.typeIs,?_];have up:∀ b o,s1.heap.get? b=some o->(s1.heap.push { cls:=.type "dict_values",data:=.fields (List.toArray [.ref a]) }).get? b=some o:=λb o e=>aK _ e;have I2:Inv X pins σ H1 { s1 with heap:=s1.heap.push { cls:=.type "dict_values",data:=.fields (List.toArray [.ref a]) } }:=I1.kept (t':=s1.toks) up;have rd:HT.uD (s1.heap.push { cls:=.type "dict_values",data:=.fields (List.toArray [.ref a]) }) a (xs.map (·.2.2)) ep:=#[ob,es,up a ob hq,h3,by rw[h4,yi];rfl];have lx:(xs.map (·.2.2)).length<=sizeLine:=by rw[aS,<-Paired.length rel];exact zl
 refine ym (kdl_call (HT.TD (xs.map (·.2.2)) ep) (I1.ok.hd hc) #[#[_,bw _ bz,rfl,rfl],rd] lx λh' tk acc c hk hD abK=>?_);have ev:acc.toList=xs.map (·.2.2):=by
  apply yf;intro j;by_cases hj:j<acc.size
  .have ej:acc[j]?=some acc[j]:=by simp[hj]
   rw[rC,ej];exact(abK.2 j _ ej).symm
  .have h3:=abK.1;rw[rC,KR zb,rq zb]
 have rv:Vals (af.map (·.2)) acc.toList:=by rw[ev];exact O6 rel
 have I3:=I2.laid (h':=h') (t':=tk) (a:=(s1.heap.push { cls:=.type "dict_values",data:=.fields (List.toArray [.ref a]) }).objs.size) (o:=.lst (af.map (·.2))) (λb u e=>hk b u e) (au _) #[by rw[aS];exact zl,acc.toList,c,rv,by simpa using hD];exact#[.ref _,_,I3,rfl,q1 _ (I2.aj.fresh (au _))]
end
def vN (p:Pos) (tg:Expr) (it:kz) (ifs:List Expr) (env:Env) (bk:Sem Fin) (c:Code):Sem Fin:=do
 standAt p
 match <-pyNext it with
 |none=>pure (.done .next)
 |some v=>
   letOwnedTupleGo tg it v
   assign tg env v
   let b <-QF ifs env
   if b then bk else again c
noncomputable def xl (elt:Expr) (acc:kz) (env:Env):Sem Unit:=do let v <-eval elt env;standAt elt.pos;let _ <-call (.builtin "set.add") [acc,v]
noncomputable def WM (e:Expr) (bG:Expr) (acc:kz) (env:Env) (c:Code):Sem Fin:=do
 let x <-eval bG env
 standAt bG.pos
 let x <-foldedSetIterable bG env x
 let _ <-runOwn (.compStart e 1 (<-holding [x] (pyIter x)) acc env) env
 again c
section
variable {it cq bG:Expr} {kF:List Expr} {scope:Scope} {i acc:kz} {env:Env}
theorem MJ:compTurn (.SetComp elt [#[tg,it,ifs,0]] scope pos) 0 i acc env=vN it.pos tg i ifs env (xl elt acc env >>= λ_=>again (.compLoop (.SetComp elt [#[tg,it,ifs,0]] scope pos) 0 i acc env)) (.compLoop (.SetComp elt [#[tg,it,ifs,0]] scope pos) 0 i acc env):=by rfl
theorem MK:compTurn zx 0 i acc env=vN it.pos tg i ifs env (WM zx bG acc env (.compLoop zx 0 i acc env)) (.compLoop zx 0 i acc env):=by rfl
theorem O8:compTurn zx 1 i acc env=vN bG.pos cq i kF env (xl elt acc env >>= λ_=>again (.compLoop zx 1 i acc env)) (.compLoop zx 1 i acc env):=by rfl
end
theorem CO {scope:Scope}{d:Nat}{p:Pos}{it acc:kz}{env:Env}{bk:Sem Fin}(ht:compTurn zJ d it acc env=vN p tg it ifs env bk (.compLoop zJ d it acc env))
 (J:Nat->Shared->uu) (N:kz->Nat->Shared->uu)
 (hN:∀ v n z,N v n z->wpAny zg A (letOwnedTupleGo tg it v) (λ_ z1=>wpAny zg A (assign tg env v) (λ_ z2=>wpAny zg A (QF ifs env) (λb z3=>
  if b=zO then wpAny zg A bk (λf z5=>f=.again (.compLoop zJ d it acc env) /\ ∃ k,k<n /\ J k z5) zbn z3 else ∃ k,k<n /\ J k z3)
  zbn z2) zbn z1) zbn z)
 (go:∀ n z,J n z->wpAny zg A (pyNext it) (λr z1=>match r with|none=>R (.ok .next) z1|some v=>N v n z1) zbn z)
 (n:Nat) (h:J n s):codeAny zg A (.compLoop zJ d it acc env) R s:=by
 refine X3 bz J (λk z hz=>?_) n h;show wpAny _ A (Sem.onRaise (compTurn _ d it acc env) _) _ _ z;refine X4 ?_;rw[ht];unfold vN;refine ae (sk (ae (cC (go k z hz) (λr z1 h1=>?_) λ_ _ q=>q)));cases r with
 |none=>exact ag h1
 |some v=>
   refine ae (cC (hN v k z1 h1) (λ_ z2 h2=>ae (cC h2 (λ_ z3 h3=>ae (cC h3 (λb z4 h4=>?_) λ_ _ q=>q)) λ_ _ q=>q)) λ_ _ q=>q);cases b with
   |false=>exact ag #[rfl,h4]
   |true=>
     refine cC h4 (λf z6 h6=>?_) λ_ _ q=>q;let#[rfl,h6]:=h6;exact#[rfl,h6]
theorem mC {scope:Scope}{d:Nat}{g:Comprehension}{it acc:kz}{env:Env}(hg:gens[d]?=some g) (ha:g.is_async=0)
 (h0:codeAny zg A (.compLoop zJ d it acc env) R s)
 (h:wpAny zg A (pyIter it) (λvO s'=>codeAny zg A (.compLoop zJ d vO acc env) R s') (λ_ _=>False) s) :
 codeAny zg A (.compStart zJ d it acc env) R s:=by
 refine codeAny_of_tree (show wpAny _ _ ((compStart zJ d it acc env).onRaise (λx=>do noteFrame x env;standAt theWindowsPlace)) _ _ s from wpAny_notedAt ?_);unfold compStart;have e1:(clausesOf zJ)[d]?=some g:=hg;rw[e1];erw[Option.elim,ha];refine ae (sr (wpAny_ite ?_));split
 .first
   |exact ae (ag (ag (And.intro rfl h0)))
   |exact ag (And.intro rfl h0)
 .first
   |exact ae (pW (ae (sk (ae (cC h (λvO s' h'=>ag (And.intro rfl h')) λ_ _ x=>x.elim)))))
abbrev TK:=St->Hp->List Int->(St->Hp->List Int->uu)->uu
structure eT (X:Cx) (pins:List (Addr×Obj)) (σ:St) (H:Hp) (s:Shared) (D:Addr) (ns:List Int):uu where
 inv:Inv X pins σ H s
 fp:eL X pins H D
 vP:HT.ql X.prog X.w (HT.bO X.w) s.heap D ns
section
variable {D:Addr} 
theorem JP {b:Bool}{h:Heap}(S:HT.ql P w b h D ns):∃ o,h.get? D=some o /\ ∀ v,o.data≠.cell v:=by
 let#[o,es,ep,t,ms,ho,S]:=S;exact#[o,ho,λv z=>by rw[S.d]at z;cases z]
theorem eT.hold (S:eT X pins σ H s D ns):∃ o,Inv X (pins++[(D,o)]) σ H s /\ ∀ {σ':St}{H':Hp}{s':Shared},Inv X (pins++[(D,o)]) σ' H' s'->eT X pins σ' H' s' D ns:=by
 let#[o,ho,hc]:=JP S.vP;refine#[o,S.inv.yu λp hp=>?_,λ{σ' H' s'} I=>?_]
 .rcases cZ.mp hp with z|z
  .exact S.inv.pin p (cD _ z)
  .cases bu.mp z;exact#[ho,S.fp.1,S.fp.2.1,S.fp.2.2.1,hc]
 .let#[e,n,_]:=I.pin (D,o) (cD _ (cD _ (bu.mpr bz)));exact#[I.ve,#[n,S.fp.2],S.vP.at λo' e'=>by rw[ho]at e';cases e';exact e]
theorem eT.more (S:eT X pins σ H s D ns) {pl:List (Addr×Obj)}(I:Inv X (pins++pl) σ H s) (h:∀ p∈pl,p.1≠D):eT X (pins++pl) σ H s D ns:=
 #[I,#[S.fp.1,S.fp.2.1,S.fp.2.2.1,S.fp.2.2.2.1,S.fp.2.2.2.2.1,λp hp=>by
  rw[<-kL]at hp;rcases cZ.mp hp with z|z
  .exact S.fp.2.2.2.2.2 p z
  .exact h p z],S.vP]
theorem eT.less {pl:List (Addr×Obj)}(S:eT X (pins++pl) σ H s D ns):eT X pins σ H s D ns:=
 #[S.inv.ve,#[S.fp.1,S.fp.2.1,S.fp.2.2.1,S.fp.2.2.2.1,S.fp.2.2.2.2.1,λp hp=>S.fp.2.2.2.2.2 p (by
  rw[<-kL];exact dM _ hp)],S.vP]
end
def Ex (X:Cx) (D:Addr) (m:Sem Unit) (t:TK):uu:=∀ (pins:List (Addr×Obj)) (s:Shared) (σ:St) (H:Hp) (ns:List Int) (Q:St->Hp->List Int->uu) (E:kz->Shared->uu),eT X pins σ H s D ns->t σ H ns Q ->
 wpAny ze X.A m (λ_ s'=>∃ σ' H' aU,eT X pins σ' H' s' D aU /\ Q σ' H' aU) E s
noncomputable def abL (te:TE):TK:=λσ H ns Q=>te σ H λy H1=>∃ i,y=.int i /\ ns.length+1<4000 /\ Q σ H1 (cL ns i)
theorem dW {t:Sem α}{Q1:α->Shared->uu}{E1:kz->Shared->uu}{ss:Shared}(hw:wpAny (model P w) A t Q1 (λ_ _=>False) ss):wpAny (model P w) A t Q1 E1 ss:=cC hw (λ_ _ q=>q) λ_ _ z=>False.elim z
theorem GA {D:Addr}{te:TE}(hx:X.xe=λ_ _=>False) (he:PE X elt te):Ex X D (xl elt zcA X.env) (abL te):=by
 intro pins s σ H ns Q E S h;let#[o,I0,back]:=S.hold;unfold xl;have abM:=he _ s σ H _ I0 h;rw[hx]at abM;refine ae (dW (tE abM λu s1 y H1 I1 r1 ⟨i,ey,hl,q⟩=>ae (sk (ae ?_))));subst ey;let#[t,rfl]:=r1;have S1:=back I1;let#[ob,es,ep,tb,ms,ho,Sa]:=id S1.vP;have sb:scanBound=4096:=rfl;refine eI PySem.F.slot_set_add #[ob,ho,Sa.x.1] PySem.F.entry_set_add ?_ (PySem.F.args_set_add_2 _ _);unfold Builtin.«set.add» Builtin.Frozenset.oneOther;erw[YR,bind_assoc];unfold Builtin.Frozenset.addrOf setAdd;refine ae (ag (ae (ag (ae (dI (ae ((intKind X.prog X.w).pyHash (k:=i) (xY _ _ _ _) (HT.add_int (s:={ s1 with toks:=s1.toks+1 }) S1.vP zb λz h' sm S2=>?_))))))));refine ag #[_,rfl,ag #[σ,H1,_,#[?_,S1.fp,S2],q]];exact S1.inv.turned (t':=s1.toks+1) (λb o hb e=>(sm.2 b hb).trans e) S1.fp.1 S1.fp.2.1 S1.fp.2.2.2.1 S1.fp.2.2.2.2.1 S1.fp.2.2.2.2.2
def Ij (J:It) (g:TG) (tf:TT) (k:TK):TK:=λσ0 H0 agn Q=>∃ W:Nat->Nat->St->Hp->List Int->uu,(∃ m,W 0 m σ0 H0 agn) /\ ∀ i m σ H ns,W i m σ H ns ->
 (J.stop i H /\ Q σ H ns) \/ (J.go i H /\ ∃ N:St->Hp->List Int->uu,(∀ σ2 H2 n2,N σ2 H2 n2->∃ m',m'<m /\ W (i+1) m' σ2 H2 n2) /\ ∀ x H2,J.yx i H x H2->g x σ H2 λσ2 H3=>tf σ2 H3 λb H4=>if b=zO then k σ2 H4 ns N else N σ2 H4 ns)
theorem GB {D:Addr}{scope:Scope}{d:Nat}{p:Pos}{bk:Sem Fin}{body:Sem Unit}{Q:St->Hp->List Int->uu} 
 {J:It}{tn:Nat->Heap->uu}{g:TG}{tf:TT}{k:TK}(hx:X.xe=λ_ _=>False) (hc:X.calm=zO)
 (ht:compTurn zJ d zay zcA X.env=vN p tg zay ifs X.env bk (.compLoop zJ d zay zcA X.env))
 (ago:bk=(body >>= λ_=>again (.compLoop zJ d zay zcA X.env)))
 (T:Turn X.prog X.w X.K tg J fp it tn) (hg:PG X tg g) (hf:PF X ifs tf) (hk:Ex X D body k)
 (S:eT X pins σ H s D ns) (st:tn 0 s.heap) (fr:∀ b∈fp,eL X pins H b) (nd:D∉fp) (h:Ij J g tf k σ H ns Q)
 (fin:∀ s' σ' H' aU,eT X pins σ' H' s' D aU->Q σ' H' aU->R (.ok .next) s') :
 codeAny ze X.A (.compLoop zJ d zay zcA X.env) R s:=by
 let#[W,#[m0,w0],turn]:=h;have stat:∀ {H':Hp},za9->∀ b∈fp,eL X pins H' b:=λhn b hb=>#[hn b hb,(fr b hb).2];have WN:∀ {H':Hp}{o:Obj},za9->∀ b∈fp,eL X (pins++[(D,o)]) H' b:=λ{H' o} hn b hb=>by
  let#[f1,f2,f3,f4,f5]:=(fr b hb).2;refine#[hn b hb,f1,f2,f3,f4,λp hp=>?_];rw[<-kL]at hp;rcases cZ.mp hp with z|z
  .exact f5 p z
  .cases bu.mp z;exact λz=>nd (by cases (show D=b from z);exact hb)
 refine CO ht (λn s'=>∃ i σ' H' aU,eT X pins σ' H' s' D aU /\ tn i s'.heap /\ za9 /\ W i n σ' H' aU) _ (λ_ _ _ q=>q) ?_ m0 #[0,σ,H,ns,S,st,λb hb=>(fr b hb).1,w0];rintro n s5 ⟨i,σ5,H5,WO,S5,sU,vf,w5⟩;let#[o,I5,back]:=S5.hold;rcases turn i n σ5 H5 WO w5 with⟨stop,q5⟩|⟨go,NN,hN,step⟩
 .refine dW (bE (T.done X bz bz bz hc i _ s5 σ5 H5 (λ_ _=>False) I5 (WN vf) sU stop) ?_);rintro r s6 ⟨hr,I6⟩;subst hr;exact fin s6 _ _ _ (back I6) q5
 .refine dW (bE (T.item X bz bz bz hc i _ s5 σ5 H5 (λ_ _=>False) I5 (WN vf) sU go) ?_);rintro r s6 ⟨u,hr,h6⟩;subst hr;refine dW (bE h6 ?_);rintro _ s7 ⟨x,H7,I7,r7,y7,wX,QL⟩;have S7:=back I7;have ob:=T.obj _ _ wX;have QM:=I7.pinned (WN QL) ob;have lift:∀ {σ':St}{H':Hp}{s':Shared},Inv X ((pins++[(D,o)])++uf fp s7.heap) σ' H' s'->eT X (pins++uf fp s7.heap) σ' H' s' D WO:=λ{σ' H' s'} I=>by
   refine(back I.ve).more (I.yu λp hp=>I.pin p (cD _ ?_)) λp hp=>?_
   .rcases cZ.mp hp with z|z
    .exact dM _ (dM _ z)
    .exact cD _ z
   .exact λz=>nd (z▸(A3 hp).1)
  have uq:=hg _ s7 σ5 H7 x u _ QM r7 (step x H7 y7);rw[hx]at uq;refine dW (bE uq ?_);rintro _ s8 ⟨σ8,H8,I8,q8⟩;have abN:=hf _ s8 σ8 H8 _ I8 q8;rw[hx]at abN;refine dW (tT abN λb s9 H9 I9 q9=>?_);have again:∀ {σ9:St}{HA:Hp}{sA:Shared}{nA:List Int},eT X (pins++uf fp s7.heap) σ9 HA sA D nA->NN σ9 HA nA->∃ m,m<n /\ ∃ i σ' H' aU,eT X pins σ' H' sA D aU /\ tn i sA.heap /\ za9 /\ W i m σ' H' aU:=λ{σ9 HA sA nA} SA qA=>by
   let#[m',hm,wA]:=hN σ9 HA nA qA;refine#[m',hm,i+1,σ9,HA,nA,SA.less,T.keep _ _ _ wX λb hb o e=>(SA.inv.pin (b,o) zcL).1,λb hb=>?_,wA];let#[o,e,d]:=ob b hb;exact(SA.inv.pin (b,o) zcL).2.1
  cases b with
  |false=>
    rw[if_neg za]at q9 ⊢;exact again (lift I9) q9
  |true=>
    rw[if_pos rfl]at q9 ⊢;rw[ago];exact ae (dW (bE (hk _ s9 σ8 H9 WO _ (λ_ _=>False) (lift I9) q9) λ_ sB ⟨σB,HB,nB,SB,qB⟩=>ag #[rfl,again SB qB]))
def cE (wi:TI) (g:TG) (tf:TT) (k:TK):TK:=λσ H ns Q=>wi σ H λJ H1=>Ij J g tf k σ H1 ns Q
noncomputable def Ey (e bG:Expr) (acc:kz) (env:Env):Sem Unit:=eval bG env >>= λx=>standAt bG.pos >>= λ_=>foldedSetIterable bG env x >>= λx=>holding [x] (pyIter x) >>= λi=>runOwn (.compStart e 1 i acc env) env >>= λ_=>pure ()
theorem TF {bG:Expr}{acc:kz}{env:Env}{c:Code}:WM e bG acc env c=(Ey e bG acc env >>= λ_=>again c):=by
 unfold WM Ey;erw[bind_assoc,pure_bind]
theorem UZ {D:Addr}{it cq bG:Expr}{kF:List Expr}{scope:Scope}{wi:TI}{g:TG}{tf:TT}{k:TK}(hx:X.xe=λ_ _=>False) (hc:X.calm=zO)
 (hi:PI X cq bG wi) (hg:PG X cq g) (hf:PF X kF tf) (hk:Ex X D (xl elt zcA X.env) k) (hs:∀ x,foldedSetIterable bG X.env x=pure x) :
 Ex X D (Ey zx bG zcA X.env) (cE wi g tf k):=by
 intro pins s σ H ns Q E S h;let#[o,I0,back]:=S.hold;unfold Ey;have qS:=hi _ s σ H _ I0 h;rw[hx]at qS;refine ae (dW (bE qS λx s1 h1=>ae (sk (ae (wj (hs x) (ae (dI (dW (bE h1 λyy s2 h2=>?_)))))))));let#[i2,fp,tn,J,H2,rfl,I2,T,rH,f2,q]:=h2;have S2:=back I2;have nd:D∉fp:=λz=>(f2 D z).2.2.2.2.2 (D,o) (cD _ (cD _ (bu.mpr bz))) bz;have agp:∀ b∈fp,eL X pins H2 b:=λb hb=>by
  let#[f0,f1,f3,f4,f5,f6]:=f2 b hb;exact#[f0,f1,f3,f4,f5,λp hp=>f6 p (by rw[<-kL];exact dM _ hp)]
 refine ae (wpAny_runOwn ?_);have loop:codeAny ze X.A (.compLoop zx 1 (.ref i2) zcA X.env) (λr s'=>match r with|.ok f=>wpAny ze X.A (pure ()) (λ_ s'=>∃ σ' H' aU,eT X pins σ' H' s' D aU /\ Q σ' H' aU) E s'|.error e=>cameBackBy ze X.A X.env E e s') s2:=
  GB hx hc O8 bz T hg hf hk S2 rH agp nd q λs' σ' H' aU S' q'=>ag #[σ',H',aU,S',q']
 exact mC (g:=#[cq,bG,kF,0]) bz bz loop (T.self _ 0 _ _ _ rH loop)
theorem JQ {scope:Scope}{env:Env}:eval zJ env=comprehension zJ scope env (firstIterPos gens pos) (newSet (.type "set")) (firstAsync gens) (firstIter gens env):=rfl
theorem Fs (h:Q zaj { s with heap:=s.heap.push (HT.tL w) }):wpAny (model P w) A (newSet (.type "set")) Q E s:=by
 unfold newSet setsByText;refine ae (ae (sr (ag ?_)));exact dJ h zb9
section
variable {src:List (Option Nat)} {rest:List Comprehension} {scope:Scope} {aV p:Pos} {wi:TI} {g:TG} {tf:TT} {k:TK} {body:kz -> Env -> Sem Unit}
def abO (src:List zaw) (wi:TI) (g:TG) (tf:TT) (k:TK):TE:=λσ H Q=>wi σ H λJ H1=>Ij J g tf k (sW src σ) H1 [] λ_ H2 ns=>ns.length<64 /\ ∀ l,H2 l=zy->Q (.ref l) (upd H2 l (.lst ((DL.sortI ns).map V.int)))
theorem CP (hc:X.calm=zO) (Ez:Gl X "sorted") (EA:X.mg "sorted"=zy) (S:nZ X N src scope) (hi:PI X tg iter wi)
 (ht:∀ i acc env,∃ bk,compTurn zaW 0 i acc env=vN iter.pos tg i ifs env bk (.compLoop zaW 0 i acc env) /\ bk=(body acc env >>= λ_=>again (.compLoop zaW 0 i acc env)))
 (hg:∀ cl s H C fp,PG zk tg g) (hf:∀ cl s H C fp,PF zk ifs tf) (hk:∀ cl s H C fp D,Ex zk D (body zcA (X.comp N scope cl s H C fp).env) k)
 (hs:∀ x,foldedSetIterable iter X.env x=pure x):PE X (.Call (.Name "sorted" p) [.SetComp elt (#[tg,iter,ifs,0]::rest) scope aV] [] pos) (abO src wi g tf k):=by
 intro pins s σ H Q I h;have st:=DL.fJ (e:=.SetComp elt (#[tg,iter,ifs,0]::rest) scope aV) bz [] X.env;refine sq (jj I Ez EA (by decide +kernel:bootBuiltins "sorted"=some (.builtin "sorted")) ?_ za za);refine callWith_builtin1 ?_ st (DL.jE (es:=[]) bz);rw[st];show wpAny _ _ (spliced ((zw,eval zaW X.env)::backTo pos (starEach [] X.env))) _ _ s;refine uZ ?_
 have last:∀ {D:Addr}{H':Hp}{s':Shared}{ns:List Int},Inv X pins σ H' s'->HT.ql X.prog X.w (HT.bO X.w) s'.heap D ns->ns.length<64->(∀ l,H' l=zy->Q (.ref l) (upd H' l (.lst ((DL.sortI ns).map V.int)))) ->
  wpAny ze X.A (spliced (backTo pos (starEach [] X.env))) (λws s2=>wpAny ze X.A (call (.builtin "sorted") (.ref D::ws)) zaR X.xe s2) X.xe s':=λ{D H' s' ns} I' S' pN q=>by
  refine ym (HT.Fp (I'.ok.hd hc) S' pN λL out ks c h2 d aby a1 a2 a3 k2 le gL=>?_);have e:ks=DL.sortI ns:=DL.j9 (a2.trans (DL.gU _).symm) a3 (DL.iC _);subst e;have ll:((DL.sortI ns).map V.int).length<=sizeLine:=by
   rw[aS,(DL.gU _).length_eq];exact br (rf pN) za
  have I2:=I'.laid (h':=h2) (a:=L) (t':=aby) (o:=.lst ((DL.sortI ns).map V.int)) (λb u e=>k2 b u e) le #[ll,out.toList,c,DL.mQ a1,gL];exact#[.ref L,_,#[I2.ok,I2.os,I2.bare,I2.base,I2.loc,I2.cell,I2.free,I2.ny,I2.pin,I2.aj,I2.len],rfl,q L (I'.aj.fresh le)]
 rw[JQ];refine X5 (use:=zy) bz hs (Ad (S.cells I.ok)) S.kind S.names (bE (hi pins s σ H _ I h) λxv s1 h1=>bE h1 λyy s2 h2=>?_);let#[it,fp,tn,J,H2,rfl,I2,T,rH,f2,hW]:=h2;refine Fs ?_;generalize hD:s2.heap.objs.size=D;have QH:H2 D=zy:=I2.aj.fresh (uU hD);have up:∀ b o,s2.heap.get? b=some o->(s2.heap.push (HT.tL X.w)).get? b=some o:=λb u e=>aK _ e;have I3:Inv X pins σ H2 { s2 with heap:=s2.heap.push (HT.tL X.w) }:=I2.kept (t':=s2.toks) up;have gD:(s2.heap.push (HT.tL X.w)).get? D=some (HT.tL X.w):=by subst hD;exact bw _ bz
 have QI:=T.obj _ _ rH;have yE:∀ b∈fp,b<s2.heap.objs.size:=λb hb=>by let#[o,e,_]:=QI b hb;exact aN e
 have nd:D∉fp:=λz=>eJ _ (Ys (yE D z) hD);have fD:eL X pins H2 D:=I2.wR (uU hD) QH;have ug:tn 0 (s2.heap.push (HT.tL X.w)):=T.keep _ _ _ rH λb _ o e=>up b o e;generalize QJ:({ s2 with heap:=s2.heap.push (HT.tL X.w) }:Shared)=s3 at I3 ⊢;have yF:s3.heap=s2.heap.push (HT.tL X.w):=by rw[<-QJ]
 rw[<-yF]at ug gD;have f3:∀ b∈D::fp,eL X pins H2 b /\ b<s3.heap.objs.size:=λb hb=>by
  rcases aH.mp hb with rfl|hb
  .exact#[fD,aN gD]
  .exact#[f2 b hb,by rw[yF,rj];exact rh (yE b hb)]
 refine Af ?_;generalize yG:pushCells (s3.heap.push { cls:=.type "dict",data:=.dict #[] }) scope.names=h₁;have k1:∀ b o,s3.heap.get? b=some o->h₁.get? b=some o:=λb o e=>by rw[<-yG];exact EJ _ _ b o (aK _ e)
 have IY:=Cn S I3 (fp:=D::fp) f3 (s':={ s3 with heap:=h₁ }) (by rw[yG]);have yH:tn 0 h₁:=T.keep _ _ _ ug λb _ o e=>k1 b o e;generalize um:cellsFrom (s3.heap.objs.size+1) scope.names zbF=cl at IY ⊢;generalize hC:s3.heap.objs.size=C at IY ⊢;have wW:∀ {H':Hp},(∀ b∈D::fp,H' b=zy)->∀ b∈D::fp,eL (X.comp N scope cl s3 H2 C (D::fp)) [] H' b:=λhn b hb=>by
  refine#[hn b hb,(IY.ok.vc b hb).1,IY.ok.vd b hb,.inl hb,λx c e z=>(IY.ok.vc b hb).2 x c e z,λp hp=>absurd (show p∈([]:List (Addr×Obj)) from hp) zf]
 have fin:∀ (σ':St) (H':Hp) (s':Shared),Inv (X.comp N scope cl s3 H2 C (D::fp)) [] σ' H' s'->∀ h',Heap.SameBut C s'.heap h'->Inv X pins σ H' { s' with heap:=h' }:=λσ' H' s' I' h' rL=>by
  have vq:H' C=zy:=I'.free;have kp:∀ b o,b≠C->s'.heap.get? b=some o->h'.get? b=some o:=λb o hb e=>rL.extBut b o hb e;have QK:s3.heap.get? C=zy:=by rw[<-hC];exact yb (au _)
  have p8:∀ b o,s3.heap.get? b=some o->b≠C:=λb o e z=>by rw[z,QK]at e;cases e
  have U:=I'.base;refine I3.Qa (s':={ s' with heap:=h' }) (ch:=D::fp) I'.os #[λb o e n hb hx=>kp b o (p8 b o e) (U.keep b o e n hb hx),λb o e n hb hx=>?_,U.free,λb o e hx=>?_,U.nU,U.nv,U.nV] ?_ I'.bare λb hb=>?_
  .let#[sl,e1]:=U.slot b o e n hb hx;exact#[sl,kp b _ (p8 b o e) e1]
  .let#[o',e1]:=U.there b o e hx;exact#[o',kp b o' (p8 b o e) e1]
  .intro b ob e;refine(I'.aj b ob e).eY (λc w' bM q=>kp c w' (λz=>?_) q) (λ_ q=>q) λ_ _ q=>q;rcases bM with z1|z1
   .rw[<-z1,z,vq]at e;cases e
   .rw[z,vq]at z1;cases z1
  .let#[f,_]:=f3 b hb;exact#[f.2.2.2.1,f.2.1,λx c e=>f.2.2.2.2.1 x c e,f.2.2.2.2.2]
 have abP:∀ b∈D::fp,H2 b=zy:=λb hb=>(f3 b hb).1.1;have S0:eT (X.comp N scope cl s3 H2 C (D::fp)) [] (sW src σ) H2 { s3 with heap:=h₁ } D []:=#[IY,wW abP D (.head _),HT.OZ (k1 _ _ gD)];let#[bk,agq,agr]:=ht zay zcA (X.comp N scope cl s3 H2 C (D::fp)).env
 have loop:codeAny ze X.A (.compLoop zaW 0 zay zcA (compEnvC scope cl C X.env))
  (compPost ze X.A X.xe zy (λv s'=>wpAny ze X.A (spliced (backTo pos (starEach [] X.env))) (λws s2=>wpAny ze X.A (call (.builtin "sorted") (v::ws)) zaR X.xe s2) X.xe s') zcA C) { s3 with heap:=h₁ }:=by
  refine GB (X:=X.comp N scope cl s3 H2 C (D::fp)) (body:=body zcA (X.comp N scope cl s3 H2 C (D::fp)).env) bz hc agq agr T (hg _ _ _ _ _) (hf _ _ _ _ _) (hk _ _ _ _ _ D) S0 yH (λb hb=>wW abP b (.tail _ hb)) nd hW λs' σ' H' aU S' q'=>?_;let#[m6,yI,_]:=S'.inv.loc;refine#[m6,yI,λh' rL=>last (fin σ' H' s' S'.inv h' rL) (S'.vP.at λo e=>rL.extBut D o (λz=>?_) e) q'.1 q'.2];have:=aN gD;exact eJ _ (Ys this (hC.trans z.symm))
 exact mC (g:=#[tg,iter,ifs,0]) bz bz loop (T.self _ 0 _ _ _ yH loop)
end
end L2
namespace L2.DL
section
variable {src:List (Option Nat)} {scope:Scope} {g:DG} 
end
open PySem.W
abbrev DK:=aE->List Bx->List Int->Option (aE×List Bx×List Int)
noncomputable def kG (te:DE W):DK:=λenv bx ns=>match te env bx with
 |.val (.d (.int i)) bx1=>if ns.length+1<4000 then some (env,bx1,cL ns i) else zy
 |_=>zy
noncomputable def kH (g:DG) (tf:DE Bool) (k:DK):List W->DK
 |[]=>λenv bx ns=>some (env,bx,ns)
 | w::l=>λenv bx ns=>match g w env bx with
   |none=>zy
   | some (env1,bx1)=>match tf env1 bx1 with
     |.val b bx2=>if b then (match k env1 bx2 ns with|some (aX,aP,n2)=>kH g tf k l aX aP n2|none=>zy) else kH g tf k l env1 bx2 ns
     |_=>zy
def vQ (mi:DE zan) (g:DG) (tf:DE Bool) (k:DK):DK:=λenv bx ns=>match mi env bx with
 |.val ds bx1=>kH g tf k ds env bx1 ns
 |_=>zy
def qX (bo:Bool) (src:List zaw) (mi:DE zan) (g:DG) (tf:DE Bool) (k:DK):DE W:=λenv bx=>
 fC (mi env bx) λds bx1=>match kH g tf k ds (cR src env) bx1 [] with
  |some (_,bx2,ns)=>if ns.length<64 then b0 bo (some (.lst ((sortI ns).map D.int))) bx2 else .bad
  |none=>.bad
noncomputable def rW (T:Fr) (F:Hp) (r:List Addr) (Q:St->Hp->List Int->uu):Option (aE×List Bx×List Int)->uu
 |none=>False
 |some (aA,bx',aU)=>∀ F' r' σ' H',aT F r F' r'->Rel T F' r' σ' H' aA bx'->Q σ' H' aU
def xm (T:Fr) (k:DK):TK:=λσ H ns Q=>∃ F r env bx,Rel T F r σ H env bx /\ rW T F r Q (k env bx ns)
section
variable {g:DG} {k:DK}
theorem rW.weak {F':Hp}{r':List Addr}{Q:St->Hp->List Int->uu}(gr:aT F r F' r'):∀ {o:Option (aE×List Bx×List Int)},rW T F r Q o->rW T F' r' Q o
 |none,h=>h
 |some (_,_,_),h=>λF2 r2 σ2 H2 g2=>h F2 r2 σ2 H2 (gr.trans g2)
theorem ML {Q:St->Hp->List Int->uu}(h:xm T (kG te) σ H ns Q):abL (tD T Z te) σ H ns Q:=by
 let#[F,r,env,bx,R,h]:=h;refine#[F,r,env,bx,R,?_];unfold kG at h;split at h
 .ext i bx1 e;rw[e];split at h
  .ext hl;exact λF1 r1 v H1 g1 R1 d1=>#[i,d1,hl,h F1 r1 σ H1 g1 R1]
  .exact h.elim
 .exact h.elim
theorem MM {Q:St->Hp->List Int->uu}{ds:List W}{J:It}(R:Rel T F r σ H env bx) (y:vD F r ds J) (h:rW T F r Q (kH g tf k ds env bx ns)):Ij J (tG T g) (kT T Z tf) (xm T k) σ H ns Q:=by
 refine#[λi n σ' H' aU=>∃ pre l F' r' aA bx',ds=pre++l /\ pre.length=i /\ n=l.length /\ aT F r F' r' /\ Rel T F' r' σ' H' aA bx' /\ rW T F' r' Q (kH g tf k l aA bx' aU),#[ds.length,[],ds,F,r,env,bx,rfl,rfl,rfl,.refl F r,R,h],?_];rintro i n σ' H' aU ⟨pre,l,F',r',aA,bx',km,hi,hn,g',R',h'⟩;let#[ys,yg]:=y T i F' r' σ' H' aA bx' g' R';cases l with
 |nil=>exact .inl #[ys (by rw[km,hZ];lia),h' F' r' σ' H' (.refl F' r') R']
 |cons w l=>
   let#[go,yl]:=yg w (by rw[km,dk zb,hi,pX];rfl);refine .inr #[go,λσ2 H2 n2=>∃ F2 r2 aX bx2,aT F r F2 r2 /\ Rel T F2 r2 σ2 H2 aX bx2 /\ rW T F2 r2 Q (kH g tf k l aX bx2 n2),λσ2 H2 n2 ⟨F2,r2,aX,bx2,g2,R2,h2⟩=>#[l.length,by rw[hn];exact kJ _,pre++[w],l,F2,r2,aX,bx2,by rw[km,kL];rfl,by rw[cJ,hi];rfl,rfl,g2,R2,h2],λx H2 hy=>?_];let#[F2,g2,R2,d2]:=yl x H2 hy;refine#[F2,r',aA,bx',w,R2,d2,?_];unfold kH at h';cases eg:g w aA bx' with
   |none=>erw[eg]at h';exact h'.elim
   |some o=>
     let#[nH,aP]:=o;erw[eg]at h';intro F3 r3 σ3 H3 g3 R3;refine#[F3,r3,nH,aP,R3,?_];cases ef:tf nH aP with
     |bad=>erw[ef]at h';exact h'.elim
     |exc c bN=>erw[ef]at h';exact h'.elim
     |val b bN=>
       erw[ef]at h';intro F4 r4 b' H4 g4 R4 eb;subst eb;have gg:=((g'.trans g2).trans g3).trans g4;cases b with
       |false=>
         rw[if_neg za]at h' ⊢;exact#[F4,r4,nH,bN,gg,R4,rW.weak ((g2.trans g3).trans g4) h']
       |true=>
         rw[if_pos rfl]at h' ⊢;refine#[F4,r4,nH,bN,R4,?_];cases ek:k nH bN aU with
         |none=>erw[ek]at h';exact h'.elim
         |some o=>
           let#[ags,HM,n5]:=o;erw[ek]at h';exact λF5 r5 σ5 H5 g5 R5=>#[F5,r5,ags,HM,gg.trans g5,R5,rW.weak (((g2.trans g3).trans g4).trans g5) h']
theorem VR {Q:St->Hp->List Int->uu}(h:xm T (vQ mi g tf k) σ H ns Q):cE (tI T Z mi) (tG T g) (kT T Z tf) (xm T k) σ H ns Q:=by
 let#[F,r,env,bx,R,h]:=h;refine#[F,r,env,bx,R,?_];unfold vQ at h;split at h
 .ext ds bx1 e;rw[e];exact λF1 r1 J H1 g1 R1 y1=>MM R1 y1 (rW.weak g1 h)
 .exact h.elim
theorem GC {src:List zaw}{Q:VK}(h:tD T Z (qX bo src mi g tf k) σ H Q):abO src (tI T Z mi) (tG T g) (kT T #[E0,Z.cl] tf) (xm T k) σ H Q:=by
 let#[F,r,env,bx,R,h]:=h;refine#[F,r,env,bx,R,End.bind h λds bx1 F1 r1 J H1 g1 R1 y1 h1=>MM (R1.src src) y1 ?_];split at h1
 .ext e2 bx2 aiT e;rw[e];split at h1
  .ext hl;exact λF2 r2 σ2 H2 g2 R2=>#[hl,λl hp=>ir (R1.slots g2 R2) (End.weak g2 h1) #[l,_,rfl,hp,rfl,Al _]]
  .exact h1.elim
 .exact h1.elim
end
section
variable {src:List (Option Nat)} {cq bG:Expr} {kF:List Expr} {scope:Scope} {aV p:Pos} {abQ:DE (List W)} {g g2:DG} {abR:DE Bool} 
theorem JR (bo:Bool) (hc:X.calm=zO) (Ez:Gl X "sorted") (EA:X.mg "sorted"=zy) (S:nZ X N src scope) (hi:pL X T Z tg iter mi)
 (hg:∀ cl s H C fp,ku zk T tg g) (hf:∀ cl s H C fp,PF zk ifs (kT T #[E0,Z.cl] tf)) (he:∀ cl s H C fp,PD zk T #[E0,Z.cl] elt te)
 (hs:∀ x,foldedSetIterable iter X.env x=pure x):PD X T Z (.Call (.Name "sorted" p) [.SetComp elt [#[tg,iter,ifs,0]] scope aV] [] pos) (qX bo src mi g tf (kG te)):=
 PE.imp (CP (body:=λacc env=>xl elt acc env) hc Ez EA S hi (λi acc env=>#[_,MJ,rfl]) hg hf (λcl s H C fp D pins s' σ' H' ns Q E S h=>GA bz (he cl s H C fp) pins s' σ' H' ns Q E S (ML h)) hs) λσ H Q h=>GC h
theorem JS (bo:Bool) (hc:X.calm=zO) (Ez:Gl X "sorted") (EA:X.mg "sorted"=zy) (S:nZ X N src scope) (hi:pL X T Z tg iter mi)
 (hg:∀ cl s H C fp,ku zk T tg g) (hf:∀ cl s H C fp,PF zk ifs (kT T #[E0,Z.cl] tf)) (agt:∀ cl s H C fp,pL zk T #[E0,Z.cl] cq bG abQ)
 (qK:∀ cl s H C fp,ku zk T cq g2) (agu:∀ cl s H C fp,PF zk kF (kT T #[E0,Z.cl] abR)) (he:∀ cl s H C fp,PD zk T #[E0,Z.cl] elt te)
 (hs:∀ x,foldedSetIterable iter X.env x=pure x) (dA:∀ env x,foldedSetIterable bG env x=pure x):PD X T Z (.Call (.Name "sorted" p) [.SetComp elt [#[tg,iter,ifs,0],#[cq,bG,kF,0]] scope aV] [] pos) (qX bo src mi g tf (vQ abQ g2 abR (kG te))):=
 PE.imp (CP (body:=λacc env=>Ey (.SetComp elt [#[tg,iter,ifs,0],#[cq,bG,kF,0]] scope aV) bG acc env) hc Ez EA S hi (λi acc env=>#[_,MK,TF]) hg hf
  (λcl s H C fp D pins s' σ' H' ns Q E S h=>UZ (X:=X.comp N scope cl s H C fp) (k:=xm T (kG te)) bz hc (agt cl s H C fp) (qK cl s H C fp) (agu cl s H C fp) (λpins z σ2 K ns Q E S h=>GA bz (he cl s H C fp) pins z σ2 K ns Q E S (ML h)) (dA _) pins s' σ' H' ns Q E S (VR h)) hs) λσ H Q h=>GC h
end
def vR:List D->Option (List Key)
 |[]=>some []
 |d::l=>(qU d).bind λk=>(vR l).map λt=>k::t
theorem O9:∀ {l:List D}{ks:List Key}{vs:List V},vR l=some ks->aw F l vs->vs=ks.map kV:=by
 intro l_;induction l_ with
 |nil=>(intro _ _ e h;cases e;exact h)
 |cons d l aq=>
   intro ks _ e h;let#[v,t,rfl,h1,h2]:=h;unfold vR at e;cases e1:qU d with
   |none=>rw[e1]at e;cases e
   |some k=>
     cases e2:vR l with
     |none=>rw[e1,e2]at e;cases e
     |some t'=>
       rw[e1,e2]at e;cases e;rw[mz e1 h1,aq e2 h2];rfl
noncomputable def k7 (l:List zcN) (k:List Key):Option D:=(l.find? λx=>decide (x.1=k)).map (·.2)
theorem kn.length {F:Hp}:∀ {l:List zcN}{r:List (List Key×V)},kn F l r->l.length=r.length
 |[],_,h=>by cases (show _=[] from h);rfl
 | (k,d)::l,_,h=>by
   let#[v,t,rfl,_,h2]:=h;simp[h2.length]
theorem kn.vals {F:Hp}:∀ {l:List zcN}{r:List (List Key×V)},kn F l r->aw F (l.map (·.2)) (r.map (·.2))
 |[],_,h=>by cases (show _=[] from h);rfl
 | (k,d)::l,_,h=>by
   let#[v,t,rfl,h1,h2]:=h;exact#[v,_,rfl,h1,h2.vals]
theorem kn.get {F:Hp}{k:List Key}:∀ {l:List zcN}{r:List (List Key×V)},kn F l r->(∀ d,k7 l k=some d->∃ v,cz r k=some v /\ Den F d v) /\ (k7 l k=zy->cz r k=zy)
 |[],_,h=>by cases (show _=[] from h);exact#[λd e=>by simp[k7]at e,λ_=>rfl]
 | (k',d)::l,_,h=>by
   let#[v,t,rfl,h1,h2]:=h;by_cases e:k'=k
   .have g:k7 ((k',d)::l) k=some d:=by simp[k7,e]
    rw[g,lg e];exact#[λd' z=>by cases z;exact#[v,rfl,h1],λz=>by cases z]
   .have g:k7 ((k',d)::l) k=k7 l k:=by simp[k7,e]
    rw[g,jC e];exact h2.get
theorem kn.put {k:List Key}(hd:Den F d v) {l:List zcN}{r:List (List Key×V)}(h:kn F l r) (hn:cz r k=zy):kn F (l++[(k,d)]) (putK r k v):=by
 have e:putK r k v=r++[(k,v)]:=by
  unfold putK;rw[if_neg (by rw[Cs,hn];decide)]
 rw[e];clear hn e;induction l generalizing r with
 |nil=>cases (show _=[] from h);exact#[v,[],rfl,hd,rfl]
 |cons a l ih=>
   let#[k',d']:=a;let#[v',t,rfl,h1,h2]:=h;exact#[v',_,rfl,h1,ih h2]
section
variable {o f:Expr} {p aV:Pos} {mb mc:DE W}
noncomputable def Ik:DE W:=λ_ bx=>.val zca (bx++[.dT []])
theorem Pa:PD X T Z (.Dict [] [] pos) Ik:=by
 refine PE.imp Mh λσ H Q=>x4 λF r env bx R h=>λq hq=>?_;refine h F (r++[q]) _ _ #[Sub.refl F,ye r [q]] (R.QY hq #[R.wY hq,[],fE,rfl]) #[q,rfl,?_];rw[<-R.len,dk (au _),pX];rfl
def uE (m k v:DE W):DE W:=λenv bx=>fC zI λx bx1=>match x with
 | .b n=>(match bx1[n]? with
   | some (.dT _)=>fC (k env bx1) λy bx2=>fC (v env bx2) λz aP=>(match y,z,aP[n]? with
     | .d (.tup d),.d u,some (.dT l)=>(match vR d with
       |some k=>if l.length<sizeLine then (match k7 l k with|some w=>.val (.d w) aP|none=>.val (.d u) (aP.set n (.dT (l++[(k,u)])))) else .bad
       |none=>.bad)
     |_,_,_=>.bad)
   |_=>.bad)
 |_=>.bad
theorem Pb {Q:VK}(h:tD T Z (uE ma mb mc) σ H Q):abI (tD T Z ma) (tD T Z mb) (tD T Z mc) σ H Q:=by
 let#[F,r,env,bx,R,h]:=h;refine#[F,r,env,bx,R,End.bind h λx bx1 F1 r1 v H1 g1 R1 d1 h1=>?_];split at h1
 case h_2=>exact h1.elim
 ext n;let#[a,rfl,ha]:=d1;let#[c,hc,kc]:=R1.nF ha;rw[hc]at h1;split at h1
 case h_2=>exact h1.elim
 ext l0 e0;cases e0;let#[_,uv,k0,_]:=kc;refine#[a,rfl,.inr #[uv,.inl k0],F1,r1,env,bx1,R1,End.bind h1 λy bx2 F2 r2 u H2 g2 R2 d2 h2=>#[F2,r2,env,bx2,R2,End.bind h2 λz aP F3 r3 t H3 g3 R3 d3 h3=>?_]];let#[t1,WG]:=(g2.trans g3).p;have Ek:r3[n]?=some a:=by rw[<-WG,dn (List.getElem?_eq_some_iff.mp ha).1];exact ha
 let#[c2,dQ,tm]:=R3.nF Ek;rw[dQ]at h3;split at h3
 .ext d w l eq;cases eq;let#[hF,vs,k1,k2]:=tm;split at h3
  .ext k e1;let#[b,us,rfl,f1,f2]:=(g3.den (w:=.d (.tup d)) d2:bR F3 r3 (.d (.tup d)) u);cases O9 e1 f2;split at h3
   .ext hl;refine#[vs,k,b,k1,rfl,R3.fh _ _ f1,by rw[<-k2.length];exact hl,λv' vM=>?_,λhn=>?_]
    .split at h3
     .ext w' qV;let#[v2,e2,e3]:=k2.get.1 _ qV;rw[vM]at e2;cases e2;exact h3 F3 r3 _ H3 (.refl F3 r3) R3 e3
     .ext qV;rw[k2.get.2 qV]at vM;cases vM
    .split at h3
     .ext w' qV;let#[v2,e2,e3]:=k2.get.1 _ qV;rw[hn]at e2;cases e2
     .exact h3 F3 r3 _ _ (.refl F3 r3) (R3.write Ek hF #[hF,_,fE,k2.put d3 hn]) d3
   .exact h3.elim
  .exact h3.elim
 .exact h3.elim
theorem MN (hu:X.A.units+1<cLine) (ho:PD X T Z o ma) (ha:PD X T Z e mb) (hf:PD X T Z f mc) (m:M2 X o "setdefault" apos e f aV):PD X T Z zc3 (uE ma mb mc):=
 PE.imp (MI hu ho ha hf m) λσ H Q h=>Pb h
def xn (bo:Bool) (m:DE W):DE W:=λenv bx=>fC zI λx bx1=>match x with
 | .b n=>(match bx1[n]? with
   |some (.dT l)=>b0 bo (some (.lst (l.map (·.2)))) bx1
   |_=>.bad)
 |_=>.bad
theorem TH {Q:VK}(h:tD T Z (xn bo ma) σ H Q):abJ (tD T Z ma) σ H Q:=by
 let#[F,r,env,bx,R,h]:=h;refine#[F,r,env,bx,R,End.bind h λx bx1 F1 r1 v H1 g1 R1 d1 h1=>?_];split at h1
 case h_2=>exact h1.elim
 ext n;let#[a,rfl,ha]:=d1;let#[c,hc,kc]:=R1.nF ha;rw[hc]at h1;split at h1
 case h_2=>exact h1.elim
 ext l0 e0;cases e0;let#[_,af,k1,k2]:=kc;exact#[a,af,rfl,k1,λl hl=>ir R1 h1 #[l,_,rfl,hl,rfl,k2.vals]]
theorem Pc (bo:Bool) (hc:X.calm=zO) (hg:Gl X "list") (hm:X.mg "list"=zy) (ho:PD X T Z o ma) (hb:attributeBase o "values" X.env (eval o X.env)=eval o X.env) (hl:(apos.endLine==aV.line)=zO) :
 PD X T Z (.Call (.Name "list" p) [.Call zcP [] [] aV] [] pos) (xn bo ma):=PE.imp (O7 hc hg hm ho hb hl) λσ H Q h=>TH h
end
section
variable {o f:Expr} {mb mc:DE W} {aah:Pos}
theorem aT.at {F':Hp}{r':List Addr}(g:aT F r F' r') (h:r[n]?=some a):r'[n]?=some a:=by
 let#[t,e]:=g.p;rw[<-e,dn (List.getElem?_eq_some_iff.mp h).1];exact h
def tO (m:DE W) (k:DE W):DE W:=λenv bx=>fC zI λx bx1=>match x with
 | .b n=>(match bx1[n]? with
   | some (.lst _)=>fC (k env bx1) λy bx2=>(match y,bx2[n]? with
     |.d (.lst r),some (.lst l)=>if l.length+r.length<=sizeLine then .val (.d .non) (bx2.set n (.lst (l++r))) else .bad
     |_,_=>.bad)
   |_=>.bad)
 |_=>.bad
theorem U0 {Q:VK}(h:tD T Z (tO ma mb) σ H Q):Qy X.K "list" aay (tD T Z ma) (Ho (tD T Z mb) Hn) σ H Q:=by
 let#[F,r,env,bx,R,h]:=h;refine#[F,r,env,bx,R,End.bind h λx bx1 F1 r1 v H1 g1 R1 d1 h1=>?_];cases x with
 |b n=>
   simp only at h1;let#[a,rfl,ha]:=d1;let#[c,hc,kc]:=R1.nF ha;rw[hc]at h1;cases c with
   |lst l0=>
     let#[_,uv,k0,_]:=kc;refine#[.inl #[rfl,uv,ba.of k0],F1,r1,env,bx1,R1,End.bind h1 λy bx2 F2 r2 u H2 g2 R2 d2 h2=>?_];have uw:=g2.at ha;let#[c2,dQ,tm]:=R2.nF uw;rw[dQ]at h2;split at h2
     .ext q l eq;cases eq;let#[hF,vs,k1,k2]:=tm;let#[b,zs,rfl,k3,k4]:=d2;split at h2
      .ext hz;exact#[a,b,vs,zs,rfl,rfl,k1,R2.fh _ _ k3,by rw[<-k2.length,<-k4.length];exact hz,h2 F2 r2 _ _ (.refl F2 r2) (R2.write uw hF #[hF,vs++zs,fE,k2.append k4]) bz]
      .exact h2.elim
     .exact h2.elim
   |_=>exact h1.elim
 |_=>exact h1.elim
theorem JT (ho:PD X T Z o ma) (ha:PD X T Z e mb)
 (vo:attributeBase o "extend" X.env (eval o X.env)=eval o X.env:=by rfl)
 (vp:((backTo pos (starEach [e] X.env)).all (λx=>!x.1)&&(backToKw pos (keywordEach [] X.env)).all (λx=>x.1.isSome)
  && decide zbj)=zO:=by rfl)
 (hline:zcz=zO:=by rfl) (hs:starEach [e] X.env=zac::starEach [] X.env:=by rfl) :
 PD X T Z (.Call (.Attribute o "extend" apos) [e] [] pos) (tO ma mb):=
 PE.imp (Ci yn PySem.F.slot_list_extend PySem.F.type_list_extend Jn ho (f8 ha ic hs) vo vp hline hs (by rfl)) λσ H Q h=>U0 h
end
mutual
noncomputable def uF:D->Bool
 |.tup l=>k8 l
 |.lst _=>zw
 |.ai _=>zw
 |_=>zO
noncomputable def k8:List D->Bool
 |[]=>zO
 |d::l=>uF d&&k8 l
end
noncomputable def qY (F:Hp) (a:Addr):Hp:=λb=>if b=a then zy else F b
theorem oQ {b:Addr}(h:b≠a):qY F a b=F b:=if_neg h
mutual
theorem Den.cut {F:Hp}{a:Addr}{zs:List V}(h:F a=some (.lst zs)):∀ (d:D) {v:V},uF d=zO->Den F d v->Den (qY F a) d v
 |.non,_,_,q=>q
 |.bl _,_,_,q=>q
 |.int _,_,_,q=>q
 |.str _,_,_,q=>q
 | .tup l,_,n,q=>by
   let#[b,vs,e,h1,h2]:=q;refine#[b,vs,e,?_,aw.cut h l n h2];rw[oQ (λz=>by rw[z,h]at h1;cases h1)];exact h1
 |.lst _,_,n,_=>by cases n
 |.ai _,_,n,_=>by cases n
theorem aw.cut {F:Hp}{a:Addr}{zs:List V}(h:F a=some (.lst zs)):∀ (l:List D) {vs:List V},k8 l=zO->aw F l vs->aw (qY F a) l vs
 |[],_,_,q=>q
 | d::l,_,n,q=>by
   let#[v,r,e,h1,h2]:=q;have n':(uF d&&k8 l)=zO:=n;rw[ao]at n';exact#[v,r,e,Den.cut h d n'.1 h1,aw.cut h l n'.2 h2]
end
def nO:Bx->Bx
 |.lst l=>if k8 l then .lst l else .dead
 |_=>.dead
def EB (n:Nat) (l:List D) (bx:List Bx):List Bx:=(bx.map nO).set n zQ
def uG (fn:List W->List Bx->O W) (n j:Nat) (k:DE zan):DE W:=λenv bx=>fC zcY λws bx1=>match ws[j]? with
 | some (.b i)=>(match bx1[i]? with
   | some (.lst l)=>if ws.length=n then (match fn (ws.set j (.d zQ)) (bx1.set i .dead) with
     |.val (.d d) bx2=>if uF d then .val (.d d) (EB i l bx2) else .bad
     |_=>.bad) else .bad
   |_=>.bad)
 |_=>.bad
theorem cG.abS {F F':Hp}{r:List Addr}{w':W}{v:V}(g:aT F r F' r) (hw:bR F' r w' v):∀ {ws:List W}{vs:List V}(j:Nat),cG F r ws vs->vs[j]?=some v->cG F' r (ws.set j w') vs
 |[],_,_,q,_=>q
 | w::ws,_,0,q,e=>by
   let#[u,t,rfl,h1,h2]:=q;cases e;exact#[_,t,rfl,hw,h2.mono g]
 | w::ws,_,j+1,q,e=>by
   let#[u,t,rfl,h1,h2]:=q;exact#[u,t,rfl,g.den h1,cG.abS g hw j h2 e]
theorem cG.at {F:Hp}{r:List Addr}:∀ {ws:List W}{vs:List V}{j:Nat}{w:W},cG F r ws vs->ws[j]?=some w->∃ v,vs[j]?=some v /\ bR F r w v
 |[],_,_,_,_,e=>by simp at e
 | w::ws,_,0,_,q,e=>by
   let#[u,t,rfl,h1,h2]:=q;cases e;exact#[u,rfl,h1]
 | w::ws,_,j+1,_,q,e=>by
   let#[u,t,rfl,h1,h2]:=q;exact h2.at (by simpa using e)
theorem Rel.rest (R:Rel T F r σ H env bx) (hb:bx[i]?=some zQ) (ha:r[i]?=some a) (k1:H a=some zbI) :
 Rel #[H,r.length,upd F a zbI] (upd F a zbI) r [] H [] (bx.set i .dead):=by
 have R0:=R.enter;refine#[λb u e=>?_,λi w e=>by simp at e,by rw[nj];exact R.len,R.nd,λn c b e1 e2=>?_,R0.keep,R0.new,au _,au _,λb u e=>.inl e]
 .by_cases z:b=a
  .subst z;rw[fE]at e;rw[k1,e]
  .rw[fA z]at e;exact R.fh b u e
 .by_cases z:n=i
  .subst z;rw[qu (List.getElem?_eq_some_iff.mp hb).1]at e1;cases e1;rw[ha]at e2;cases e2;exact#[_,k1]
  .rw[qv (λq=>z q.symm)]at e1;have q:=R.box n c b e1 e2;have nb:b≠a:=λq=>by
    subst q;exact z (YE (List.getElem?_eq_some_iff.mp e2).1 R.nd |>.mp (e2.trans ha.symm))
   have s:Sub F (upd F a zbI):=λd u e=>by
    by_cases y:d=a
    .subst y;let#[q1,_]:=R.box i _ d hb ha;rw[q1]at e;cases e
    .rw[fA y];exact e
   have un:upd F a zbI b=F b:=fA nb;cases c with
   |lst _=>let#[q1,ws,q2,q3]:=q;exact#[un.trans q1,ws,q2,aw.mono s _ q3]
   |ai _=>let#[q1,ws,q2,q3]:=q;exact#[un.trans q1,ws,q2,aI.mono s _ q3]
   |dT _=>let#[q1,ws,q2,q3]:=q;exact#[un.trans q1,ws,q2,kn.mono s _ q3]
   |dead=>exact q
theorem Rel.EB {F' H':Hp}{r':List Addr}{bx':List Bx}(R:Rel T F r σ H env bx) (hb:bx[i]?=some zQ) (ha:r[i]?=some a) (k0:F a=zy) (k2:aw F l vs) (g:aT (upd F a zbI) r F' r')
 (R':Rel #[H,r.length,upd F a zbI] F' r' [] H' [] bx'):aT F r (qY F' a) r' /\ Rel T (qY F' a) r' σ H' env (EB i l bx'):=by
 have fa:F' a=some zbI:=g.s a _ fE;have s:Sub F (qY F' a):=λb u e=>by
  have nb:b≠a:=λq=>by subst q;rw[k0]at e;cases e
  rw[oQ nb];exact g.s b u (by rw[fA nb];exact e)
 have g':aT F r (qY F' a) r':=#[s,g.p];have abT:r'[i]?=some a:=by
  let#[t,et]:=g.p;rw[<-et,dn (List.getElem?_eq_some_iff.mp ha).1];exact ha
 refine#[g',R.after g' #[λb u e=>?_,λi w e=>by simp at e,?_,R'.nd,λn c b e1 e2=>?_,R'.keep,R'.new,R'.n0,R'.sl,λb u e=>?_]]
 .by_cases z:b=a
  .subst z;unfold qY at e;rw[if_pos rfl]at e;cases e
  .rw[oQ z]at e;exact R'.fh b u e
 .show r'.length=((bx'.map nO).set i zQ).length;rw[nj,aS];exact R'.len
 .have dU:((bx'.map nO).set i zQ)[n]?=some c:=e1;by_cases z:n=i
  .subst z;have hl:n<(bx'.map nO).length:=by
    rw[aS,<-R'.len];exact(List.getElem?_eq_some_iff.mp abT).1
   rw[qu hl]at dU;cases dU;rw[abT]at e2;cases e2;exact#[if_pos bz,vs,R'.fh _ _ fa,aw.mono s _ k2]
  .rw[qv (λq=>z q.symm),ke]at dU;cases e3:bx'[n]? with
   |none=>rw[e3]at dU;cases dU
   |some c0=>
     rw[e3]at dU;cases dU;have q:=R'.box n c0 b e3 e2;cases c0 with
     |lst m=>
       let#[q1,ws,q2,q3]:=q;show rN (qY F' a) H' b (if k8 m then .lst m else .dead);split
       .ext hm;refine#[?_,ws,q2,aw.cut fa m hm q3];unfold qY;split
        .rfl
        .exact q1
       .exact#[_,q2]
     |ai _=>let#[q1,ws,q2,q3]:=q;exact#[_,q2]
     |dT _=>let#[q1,ws,q2,q3]:=q;exact#[_,q2]
     |dead=>exact q
 .by_cases z:b=a
  .subst z;unfold qY at e;rw[if_pos rfl]at e;cases e
  .rw[oQ z]at e;rcases R'.fs b u e with q|q
   .exact .inl ((fA z).symm.trans q)
   .exact .inr q
theorem Pd {k:DE zan}{Q:VK}(h:tD T Z (uG fn n j k) σ H Q):Hq (qH Z.cl n fn) [] Z.E (yR T Z k) σ H Q:=by
 let#[F,r,env,bx,R,h]:=h;refine#[F,r,env,bx,R,End.bind h λws bx1 F1 r1 us H1 g1 R1 d1 h1=>?_];split at h1
 case h_2=>exact h1.elim
 ext i ew;split at h1
 case h_2=>exact h1.elim
 ext l eb;split at h1
 case isFalse=>exact h1.elim
 ext hl;let#[v,ev,a,rfl,ha]:=d1.at ew;let#[k0,vs,k1,k2]:=R1.box i _ a eb ha;have s:Sub F1 (upd F1 a zbI):=λb u e=>by
  by_cases y:b=a
  .subst y;rw[k0]at e;cases e
  .rw[fA y];exact e
 have gS:aT F1 r1 (upd F1 a zbI) r1:=#[s,rB _];refine#[upd F1 a zbI,r1,ws.set j (.d zQ),bx1.set i .dead,R1.rest eb ha k1,?_,by rw[nj];exact hl,?_]
 .rw[hZ];exact cG.abS (w':=.d zQ) gS (show Den _ zQ _ from#[a,vs,rfl,fE,aw.mono s _ k2]) j d1 ev
 .split at h1
  case h_2=>exact h1.elim
  ext d bx2 ef;split at h1
  case isFalse=>exact h1.elim
  ext nd;rw[ef];intro F' r' v H' g R' dv;let#[gT,RT]:=R1.EB eb ha k0 k2 g R';exact h1 _ r' v H' gT RT (Den.cut (g.s a _ fE) d nd dv)
end L2.DL
namespace L2
end L2
namespace L2.DL
section
variable {a b f o:Expr} {mb mc:DE W} {p:Pos} {k k' nn:Nat} {ps:List Str} {m:DE (List W)}
theorem TJ (h:nN X.prog X.w X.K X.mg X.base Z.cl k x ps fn) (hr:bV k' X.A) (hk:k<=k') (hg:Gl X x) (hx:Passes (eB X.prog X.w) X Z.E) (ha:cH X T Z (e::es) m)
 (cW:eS (e::es)=zO) (hn:ps.length=nn) (cu:(x==("__debug__":Str))=zw):PD X T Z zP (uG fn nn j m):=by
 subst hn;let#[f,fd,G,hm,WB,hb,_]:=h;exact PE.imp (Gb G (hr.mono hk) hg hm WB hb .nil hx ha cu (fJ (ia cW).1 es X.env) (jE (ia cW).2)) λσ H Q h=>Pd h
end
open PySem.W
end L2.DL
namespace K1
open L2 L2.DL
def Ft:ah:=(fN (gI (f7 "int" (dV 0)) (yT (f7 "bool" (dV 0)))))
def iX:List W->List Bx->O W:=aL 1 (aR Ft)
def CQ:ah:=(fN (gI (fj K1.iX 1 zq) (d3 b9 b9 (dV 1) (dV 0) (dV 2))))
def gh:List W->List Bx->O W:=aL 3 (aR CQ)
def As:ah:=(fN (gI (f7 "tuple" (dV 0)) (d3 b9 b9 (dV 1) (dN zw ay zq) (dV 2))))
def gk:List W->List Bx->O W:=aL 3 (aR As)
def oB:ah:=(fN (dN zw bj (fc (fI zw [zy,some 0] (ur (fc zc (fc (dN zw ay zq) ff))) (fg 0) fG (d2 zw kD (d2 zw ak (dV 1) (d2 zw eD (dV 0) zc)) (d2 zw ak (dV 1) (dV 0)))) ff)))
def jN:List W->List Bx->O W:=aL 1 (aR oB)
def CS:ah:=(fN (gI (fj K1.gk 3 (fc (dV 0) (fc zc (fc (dC (.int 5)) ff)))) (dN zw bj (fc (fI zw [zy] zbX (fg 0) fG (fj K1.gh 3 (fc (dV 0) (fc zd zK)))) ff))))
def jc:List W->List Bx->O W:=aL 1 (aR CS)
def CT:ah:=(fm (aC (aZ (aG (dB (fj K1.gk 3 (fc (dV 0) (fc (d2 zw fR (dC (.int 3)) zc) (fc (d2 zw fR (dC (.int 3)) zc) ff)))))) (aG (dB (dN zw bj (fc (fI zw [zy] zbX (fg 0) fG (fj K1.gh 3 (fc (dV 0) (fc zd zbx)))) ff))))) zj aF) (fN (dN zw bj (fc (fI zw [zy,zy] (HY (fc (dV 0) (fc (cx zw (dV 0) (cc zc) cS) ff))) zcb fG (d2 zw b9 (dV 1) (dV 0))) ff))))
def jO:List W->List Bx->O W:=aL 1 (aR CT)
def JU:ah:=(fN (gI (fj K1.gk 3 (fc (dV 0) (fc zbc (fc zbc ff)))) (gI (fj K1.gh 3 (fc zaA zcm)) (fj K1.jO 1 (fc (d2 zw ak (dV 0) zc) ff)))))
def lX:List W->List Bx->O W:=aL 1 (aR JU)
def CU:ah:=(fN (gI (fj K1.gk 3 (fc (dV 0) (fc zc (fc zai ff)))) (dN zw bj (fc (fI zw [zy] zbX (fg 0) fG (fj K1.lX 1 zq)) ff))))
def jd:List W->List Bx->O W:=aL 1 (aR CU)
def oG:ah:=(fm (aC (aG (dB (fj K1.gk 3 (fc (dV 0) (fc zbc (fc zbc ff)))))) zj aF) (fN (gI (dN zw bj (fc (fI zw [zy,some 1] zbX (fg 0) fG (fj K1.gh 3 (fc (dV 0) (fc zd (fc (d2 zw eD (dV 1) zc) ff))))) ff)) (d2 zw kD zaA (d2 zw ak (dV 0) zc)))))
def ig:List W->List Bx->O W:=aL 2 (aR oG)
def jt:ah:=(fm (aC (aG (dB (f7 "tuple" (dV 0)))) zj aF) (fN (gI (dN zw bj (fc (fI zw [zy,some 1] zbX (fg 0) fG (fj K1.ig 2 zb7)) ff)) (fj K1.jN 1 zq))))
def gZ:List W->List Bx->O W:=aL 2 (aR jt)
def jP:ah:=(fm (aC (aG (dB (fj K1.gk 3 (fc (dV 0) (fc zai (fc zai ff)))))) zj aF) (fm (fK (dV 0) zbl) (fN (gI (fj K1.jc 1 zr) (gI (fj K1.jd 1 zu) (gI (fj K1.gZ 2 (fc (dV 3) (fc zbU ff))) (fj K1.gh 3 (fc (dV 4) (fc zc zbx)))))))))
def li:List W->List Bx->O W:=aL 5 (aR jP)
def jx:ah:=(fm (aC (dB (d2 zw kD (dV 1) (qN (dV 0)))) (fN (Ea (dV 0) (dV 1))) aF) (fN zd))
def iD:List W->List Bx->O W:=aL 2 (aR jx)
def jF:ah:=(fm (aC (dB (d2 zw pf (dV 0) (d2 zw pM zco (dC (.int 18))))) (fN (fO zO (fc (d2 zw eD (dV 0) (d2 zw pM zco (dC (.int 18)))) ff))) aF) (fm (fK zd (fg 1)) (fm (iB (cw (fc (dC (.int 64)) ff)) (fg 2) zA) (fN (fO zO zr)))))
def jQ:List W->List Bx->O W:=aL 4 (aR jF)
def At:ah:=(fm (fK (d2 zw kC zaA (dV 1)) (fg 2)) (fm (fK (d2 zw HN zaA (dV 1)) (tH (dV 0) zd)) (fN (dV 2))))
def fk:List W->List Bx->O W:=aL 3 (aR At)
def CV:ah:=(fN (gI (f7 "int" (dV 0)) (yT (f7 "bool" (dV 0)))))
def gz:List W->List Bx->O W:=aL 1 (aR CV)
def BK:ah:=(fN (gI (fj K1.gz 1 zq) (d3 b9 b9 (dV 1) (dV 0) (dV 2))))
def gE:List W->List Bx->O W:=aL 3 (aR BK)
def Bp:ah:=(fm (fK (fO zw (fc (dC .non) (fc (dC zc2) (fc (dC zag) (fc (eE zc) (fc (d2 zw pM zco (dC (.int 30))) (fc (dC (.str "")) (fc (dC (.str "a")) (fc (dC (.str "1")) (fc (fV ff) (fc (fO zw ff) (fc (qO zw []) (fc (fO zw (fc (fV ff) ff)) (fc (fV (fc (fV ff) ff)) (fc (fV (fc zd ff)) (fc (fO zw (fc zd ff)) (fc (qO zw [(.inl 0,.int 1)]) (fc (fV (fc (dC zc2) (fc (dC zc2) ff))) ff)))))))))))))))))) (fg 1)) (fN (d2 zw ak (dV 1) (fj K1.fk 2 (fc (dV 0) (fc (dN zw ay zr) ff))))))
def fY:List W->List Bx->O W:=aL 2 (aR Bp)
def lY (rec:List W->List Bx->O W):ah:=(fm (aC (aG (dB (f7 "tuple" (dV 1)))) (fm (aC (qG (dB (fj K1.gz 1 zr)) (dB (d2 zw qJ (fj K1.fk 2 (fc (dV 0) zK)) zd))) (fN (d2 zw fR (dV 1) (d2 zw ak (fO zw (fc zc (fc (eE zc) (fc (dC (.int 9)) (fc (dC (.int 100)) (fc (dC (.int 9999)) (fc (eE (d2 zw pM zco zai)) ff))))))) (fj K1.fk 2 (fc (dV 0) (fc (dC (.int 6)) ff)))))) aF) (fN (fj K1.fY 1 zq))) aF) (fm (fK (fj K1.fk 2 (fc (dV 0) (fc (dC (.int 12)) ff))) (fg 2)) (fm (aC (aZ (dB (d2 zw ck (dV 2) zd)) (dB (d2 zw ck (dV 1) (fV ff)))) (fN (d2 zw ak (fO zw (fc (fj K1.fY 1 zq) zbJ)) (fj K1.fk 2 (fc (dV 0) (fc zai ff))))) aF) (fm (fK (fj K1.fk 2 (fc (dV 0) (fc (dN zw ay zr) ff))) (fg 3)) (fm (aC (dB (d2 zw ck (dV 2) zc)) (fN (d2 zw fR (cx zw (dV 1) cS (cc (dV 3))) (cx zw (dV 1) (cc (d2 zw fR (dV 3) zc)) cS))) aF) (fm (aC (dB (d2 zw ck (dV 2) zbc)) (fN (d2 zw fR (d2 zw fR (cx zw (dV 1) cS (cc (dV 3))) (cx zw (dV 1) (cc (dV 3)) (cc (d2 zw fR (dV 3) zc)))) (cx zw (dV 1) (cc (dV 3)) cS))) aF) (fN (d2 zw fR (d2 zw fR (cx zw (dV 1) cS (cc (dV 3))) (fV (fc (fj rec 2 (fc (dV 0) (fc (d2 zw ak (dV 1) (dV 3)) ff))) ff))) (cx zw (dV 1) (cc (d2 zw fR (dV 3) zc)) cS)))))))))
def gF:Nat->List W->List Bx->O W
 |0=>λ_ _=>.bad
 |i+1=>aL 4 (aR (lY (gF i)))
end K1
namespace K2
open L2 L2.DL
def g6:ah:=(aC (aG (dB (fj K1.li 1 zq))) (Ej 0 (dC (.str "a house is a tuple (rooms, kinds, apart, hold)"))) aF)
def iQ:List W->List Bx->O W:=aL 1 g6
def JV:ah:=(fN (fj K1.gh 3 (fc (dV 1) (fc zd (fc (d2 zw eD (dN zw ay (fc zaA ff)) zc) ff)))))
def gX:List W->List Bx->O W:=aL 2 (aR JV)
end K2
namespace aM
open L2 L2.DL
def lj:ah:=(fm za5 (fm (fK zbM (fg 2)) (fm (iB zbE (fg 3) (fm zaC zaD)) (fm (fK zbM (fg 5)) (fm (iB (cw (fc zbU ff)) (fg 6) (iB (ur (fc (d2 zw fR (dV 6) zc) (fc zbU ff))) (fg 7) (aC (dB (d2 zw ck (fj K1.fk 2 (fc (dV 0) zK)) zd)) (gy (kU (dV 5) (fV (fc (dV 6) (fc (dV 7) ff))))) aF))) (fN (fV (fc (dV 1) (fc (dN zw ph zu) (fc (dN zw ph (fc (dV 5) ff)) (fc (d2 zw fR zc (fj K1.fk 2 (fc (dV 0) (fc (d2 zw ak (fO zw (fc (dC (.int 3)) zbx)) (fj K1.fk 2 (fc (dV 0) (fc zbc ff)))) ff)))) ff)))))))))))
def jf:List W->List Bx->O W:=aL 8 (aR lj)
def lm:ah:=(fm (nG 2 3 (fc (dN zw ay (fc (d2 zw ak (dV 1) zd) ff)) (fc zbM ff))) (fm (iB (cw (fc (kq (dB (d2 zw qJ (dV 2) zc)) (fj K1.fk 2 (fc (dV 0) (fc (dC (.int 11)) ff))) zd) ff)) (fg 4) (fm (fK (fj K1.fk 2 (fc (dV 0) zu)) (fg 5)) (fm zb3 (fm (gy (kU (dV 3) (fV (fc (dV 5) (fc (dV 6) ff))))) (aC (dB (d2 zw ck (fj K1.fk 2 (fc (dV 0) (fc (dC (.int 5)) ff))) zd)) zb8 aF))))) (fN (kX 3))))
def jg:List W->List Bx->O W:=aL 7 (aR lm)
def mY:ah:=(fN (gI (fj K1.gk 3 (fc (dV 1) (fc zbc (fc zbc ff)))) (gI (dN zw bj (fc (fI zw [zy,some 0] (ax (dV 1)) (fg 0) fG (fj K2.gX 2 (fc (dV 1) zq))) ff)) (d2 zw bc (d2 zw ak (dV 1) zd) (d2 zw ak (dV 1) zc)))))
def jR:List W->List Bx->O W:=aL 2 (aR mY)
def ls:ah:=(fN (gI (f7 "list" (dV 1)) (gI (d2 zw b9 (dN zw ay zr) zco) (dN zw bj (fc (fI zw [zy,some 0] (ax (dV 1)) (fg 0) fG (fj aM.jR 2 (fc (dV 1) zq))) ff)))))
def jS:List W->List Bx->O W:=aL 2 (aR ls)
end aM
namespace aJ
open L2 L2.DL
def gp:ah:=(fm (gy (fj K2.iQ 1 zq)) (aC (aG (dB (fj aM.jS 2 zb7))) (Ej 8 (dC (.str "moves are a list of at most ten tuples (from, to) of unlike rooms"))) aF))
def fP:List W->List Bx->O W:=aL 2 gp
def iR:ah:=(aC (aG (dB (fj K1.iX 1 zq))) (Ej 7 (dC (.str "a whole number is an int that is no truth"))) aF)
def iE:List W->List Bx->O W:=aL 1 iR
def BL:ah:=(fN (dN zw xh (fc (fI zw [zy,some 1] zbX (fg 0) fG (d2 zw (inD zw) (dV 0) (dV 1))) ff)))
def mD:List W->List Bx->O W:=aL 2 (aR BL)
def iL:ah:=(fm (fK (fO zw (fc (fV ff) ff)) (fg 2)) (fm (iB (cw (fc (dN zw ay (fc zaA ff)) ff)) (fg 3) (fK (d2 zw fR (dV 2) (fI zw [zy,some 3] (ax (dV 2)) (fg 0) fG (d2 zw fR (dV 0) (fV zr)))) (fg 2))) (fm (fK (fI zw [zy,some 1] (ax (dV 2)) (fg 0) zc0 (dV 0)) (fg 4)) (fN (dN zw Er (fc (dV 4) ff))))))
def gj:List W->List Bx->O W:=aL 5 (aR iL)
end aJ
namespace cX
open L2 L2.DL
def lO:ah:=(fN (qX zw [zy,zy] zbX (fg 0) fG (vQ zbX (fg 1) fG (kG (dV 1)))))
def gu:List W->List Bx->O W:=aL 1 (aR lO)
def jT:ah:=(fm (fK Ik (fg 1)) (fm (fK (fI zO [zy] (ax (fj cX.gu 1 zq)) (fg 0) fG (fV zq)) (fg 2)) (fm (hV (vC (dV 2)) (fm (fK zbM (fg 3)) (fm (iB (ax (kX 2)) (fg 4) (fm (fK (qX zw [zy,zy,some 4] zbX zcb (qG (dB (d2 zw ck (dV 0) (d2 zw ak (dV 2) (eE zc)))) (dB (d2 zw pf (dV 1) (d2 zw ak (dV 2) zd)))) (kG (dV 1))) (fg 5)) zas)) (fK (dV 3) (fg 2)))) 2000) (fN (xn zO (dV 1))))))
def ju:List W->List Bx->O W:=aL 6 (aR jT)
def lG:ah:=(fm (fK zbM (fg 2)) (fm (hV (dB (d2 zw kD zbU (dN zw ay zq))) (fm (fK (fI zw [zy,some 2] zbX (fg 0) zH (dV 0)) (fg 3)) (fm (fK (fI zw [zy,zy,some 3] (ax (dV 1)) zcb (dB (d2 zw (inD zw) (dV 0) (dV 2))) (dV 1)) (fg 4)) (gy (tO (dV 2) (fI zw [zy,some 4] (ax (dV 3)) (fg 0) zH (dV 0)))))) 2000) (fN (kX 2))))
def jn:List W->List Bx->O W:=aL 5 (aR lG)
end cX
namespace K54
open L2 L2.DL
noncomputable section
def jo:ah:=(fm (aC zaN zj aF) (fm (fK (dV 0) zbl) (fm (aC (aZ (aG (dB (d3 b9 b9 zc (dN zw ay zr) (dC (.int 5))))) (aG (dB (dN zw bj (fc (fI zw [zy] (ax (dV 1)) (fg 0) fG (fj K1.gE 3 (fc (dV 0) (fc zd zK)))) ff))))) zj aF) (fm (aC (aZ (aG (dB (d3 b9 b9 zc zbU zai))) (aG (dB (fj K1.gE 3 (fc (dV 4) (fc zc zbx)))))) zj aF) (fm (iB (ax (dV 2)) (fg 5) (fm (aC (aZ (aG zcw) (aZ (dB zae) (aG (dB (fj K1.gE 3 zck))))) zj aF) (fm (aC (aZ (aG (dB (f7 "tuple" zL))) (aZ (dB (d2 zw bc (dN zw ay (fc zL ff)) zai)) (aG (dB (dN zw bj (fc (fI zw [zy] (ax zL) (fg 0) fG (fj K1.gE 3 (fc (dV 0) (fc zd zbx)))) ff)))))) zj aF) (aC (dB zbC) zj aF)))) (fm (fK zbM (fg 6)) (fm (iB (ax (dV 3)) (fg 5) (fm (aC (aZ (aG zcw) (aZ (dB zae) (aG (dB (dN zw bj (fc (fI zw [zy,some 2] (ax (dV 5)) (fg 0) fG (fj K1.gE 3 za6)) ff)))))) zj aF) (fm (aC zbv zj aF) (gy (kU (dV 6) (dV 5)))))) (fN (dC zc2)))))))))
def gO:List W->List Bx->O W:=aL 7 (aR jo)
def jp:ah:=(fm (gy (fj aJ.fP 2 zb7)) (fm (fK (fj cX.ju 1 zr) (fg 2)) (fm (fK (dN zw nK (fc (uG aJ.gj 2 1 (fc (dV 0) zu)) ff)) (fg 3)) (fm (fK (fI zw [zy,some 3] (ax (fj cX.gu 1 zr)) (fg 0) zH (dV 0)) (fg 4)) (fN (Ic (fc (d2 zO fR (d2 zw fR (dV 3) (fj cX.jn 2 (fc (dV 4) zr))) (dV 3)) zu)))))))
def ie:List W->List Bx->O W:=aL 5 (jp)
def mE:ah:=(fm (gy (fj aJ.fP 2 zb7)) (fm (aC (aZ (aG (dB (f7 "list" (dV 2)))) (aG zaQ)) zj aF) (fm (nG 3 4 (fc (qO zO []) (fc (qO zO []) ff))) (fm (aR (iB (WI zu) (iV 2 (fT (fg 5) (fT (fg 6) jm))) (fm (gy (uB (dV 3) (dV 6) (dV 5))) (uA (dV 4) (dV 6) (dV 5))))) (fN (dN zw bj (fc (fI zw [zy,zy,some 3,some 4] (ax (dV 1)) zcb fG (gI (rT zw (dV 0) (dV 2)) (gI (rT zw (dV 1) (dV 2)) (d2 zw kD (rS (dV 2) (dV 0)) (rS (dV 3) (dV 1)))))) ff)))))))
def im:List W->List Bx->O W:=aL 7 (mE)
def mZ:ah:=(fm (aC (aZ (aG (dB (fj K1.gk 3 (fc (dV 2) (fc zbc (fc (dC (.int 5)) ff)))))) (aG zaQ)) zj aF) (fN (gI (d2 zw ck (dN zw ay (fc az ff)) zbU) (dN zw bj (fc (fI zw [zy,some 1] (HY (fc (dV 2) (fc (d2 zw fR (cx zw (dV 2) (cc zc) cS) (cx zw (dV 2) cS (cc zc))) ff))) (fg 0) fG (d2 zw (inD zw) (dV 0) (dV 1))) ff)))))
def jU:List W->List Bx->O W:=aL 3 (aR mZ)
def jv:ah:=(fm (gy (fj aJ.fP 2 zb7)) (fm (gy (fj aJ.iE 1 zu)) (fm (aC (aZ (aG (dB (f7 "list" (dV 3)))) (dB (d2 zw qJ (dN zw ay zcU) (dC (.int 30))))) zj aF) (fN (gI (dN zw bj zcT) (d2 zw pf (dN zw ay (fc (fj aJ.gj 2 (fc (dV 0) zcU)) ff)) (dV 2)))))))
def gQ:List W->List Bx->O W:=aL 4 jv
def jq:ah:=(fm (vL zat) (fN (kq (dB (WK (dV 4))) (dC (.str "")) (dC (.str "other")))))
def fX:List W->List Bx->O W:=aL 6 (aR jq)
def iZ:ah:=(fm (aC (aZ (aG (dB (f7 "list" (dV 1)))) (dB (d2 zw qJ (dN zw ay zr) zco))) zj aF) (fm (iB (ax (dV 1)) (fg 2) (fm (aC za8 zj aF) (aC za7 zj aF))) (fN (dC zc2))))
def gn:List W->List Bx->O W:=aL 3 (aR iZ)
def MO:ah:=(fm (iB (cw (fc (dN zw maxD zbO) ff)) (fg 1) (fm (fK (fj K1.jQ 1 (fc (fj K1.iD 2 zb7) ff)) (fg 2)) (fm (fK (fj aM.jf 1 zu) (fg 3)) (fm (nG 4 5 (fc (fj aM.jg 2 (fc (dV 2) zcU)) (fc (dN zw ay (fc zcc ff)) ff))) (fm (fK (fj K1.fk 2 (fc (dV 2) (fc (d2 zw fR (dN zw ay (fc (dV 4) ff)) zc) ff))) (fg 6)) (fm (fK z9 (fg 7)) (fm (fK zM (fg 8)) (fm (iB (ax zaO) (fg 9) (gy (kU (dV 7) zbh))) (fm (iB (ax (kX 7)) (fg 10) (fm (fK (d2 zw ak zal (fj K1.fk 2 (fc (dV 2) zK))) (fg 11)) (fm (nG 12 13 zbK) (fm zbG (fm (fK (d2 zw ak (fO zw (fc (dC .non) zax)) (fj K1.fk 2 (fc (dV 2) (fc zai ff)))) (fg 14)) zZ))))) (aC (dB zD) zj aF)))))))))) (fN (dC zc2)))
def BM:List W->List Bx->O W:=aL 16 (aR MO)
end
end K54
namespace L2.DL
section
variable {β:Type}
@[simp] theorem fS {a:α}{k:α->List Bx->O β}:fC (.val a bx) k=k a bx:=rfl
@[simp] theorem Wj {k:α->List Bx->O β}:fC .bad k=.bad:=rfl
@[simp] theorem lZ {a:α}{k:α->List Bx->OS}:bI (.val a bx) k=k a bx:=rfl
@[simp] theorem Wk {k:α->List Bx->OS}:bI (.bad:O α) k=.bad:=rfl
@[simp] theorem Fu {a:α}{k:α->List Bx->O β}:bindB (.val a bx) k=k a bx:=rfl
end
@[simp] theorem lu:dV i env bx=match env[i]? with|some (some w)=>.val w bx|_=>.bad:=rfl
@[simp] theorem VS:dC d env bx=.val (.d d) bx:=rfl
@[simp] theorem Fv:ff env bx=.val [] bx:=rfl
@[simp] theorem oR {k:DE zan}:fc m k env bx=fC zI λw bx1=>fC (k env bx1) λl bx2=>.val (w::l) bx2:=rfl
@[simp] theorem lH {k:DE zan}:fj fn n k env bx=fC zcY λws bx1=>if ws.length=n then fn ws bx1 else .bad:=rfl
@[simp] theorem VT:dB m env bx=fC zI λw bx1=>match w with|.d (.bl k)=>.val k bx1|_=>.bad:=rfl
@[simp] theorem MP {m k:DE Bool}:qG m k env bx=fC zI λb bx1=>match b with|true=>k env bx1|false=>.val zw bx1:=rfl
@[simp] theorem RJ {m k:DE Bool}:aZ m k env bx=fC zI λb bx1=>match b with|true=>.val zO bx1|false=>k env bx1:=rfl
@[simp] theorem TL {m:DE Bool}:aG m env bx=fC zI λb bx1=>.val (!b) bx1:=rfl
@[simp] theorem GD {k:DE W}:gI m k env bx=fC zI λw bx1=>match w with|.d (.bl true)=>k env bx1|.d (.bl false)=>.val zcO bx1|_=>.bad:=rfl
@[simp] theorem VJ:yT m env bx=fC zI λw bx1=>match w with|.d (.bl k)=>.val (.d (.bl (!k))) bx1|_=>.bad:=rfl
@[simp] theorem Pe:fG env bx=.val zO bx:=rfl
@[simp] theorem VL {n:String}:f7 n m env bx=fC zI λw bx1=>match aQ bx1 w with|some d=>.val (.d (.bl (qf (nI d) n))) bx1|none=>.bad:=rfl
@[simp] theorem JW {b:Bool}{mb:DE W}:d2 b g ma mb env bx=fC (ma env bx) λx bx1=>fC (mb env bx1) λy bx2=>b0 b ((aQ bx2 x).bind λp=>(aQ bx2 y).bind λq=>g p q) bx2:=rfl
@[simp] theorem JX {b:Bool}{g:List D->Option Res}{k:DE zan}:dN b g k env bx=fC zcY λws bx1=>b0 b ((eP bx1 ws).bind g) bx1:=rfl
@[simp] theorem Wl {g':D->D->Option Res}{mb mc:DE W}:d3 g g' ma mb mc env bx=fC (ma env bx) λx bx1=>fC (mb env bx1) λy bx2=>
 fC (b0 zw ((aQ bx2 x).bind λp=>(aQ bx2 y).bind λq=>g p q) bx2) λz aP=>match z with
  |.d (.bl true)=>fC (mc env aP) λw bN=>b0 zw ((aQ bN y).bind λp=>(aQ bN w).bind λq=>g' p q) bN
  |.d (.bl false)=>.val zcO aP
  |_=>.bad:=rfl
@[simp] theorem lP:aQ bx (.d d)=some d:=rfl
@[simp] theorem CW:eP bx []=some []:=rfl
@[simp] theorem Fw {l:List W}:eP bx (.d d::l)=(eP bx l).map λt=>d::t:=by
 erw[eP,lP];cases eP bx l<;>rfl
@[simp] theorem UC {b:Bool}:b0 b zy bx=.bad:=rfl
@[simp] theorem iM {q:Res}:b0 zw (some q) bx=.val (.d q.toD) bx:=by cases q<;>rfl
@[simp] theorem MQ:b0 zO (some zQ) bx=.val zca (bx++[.lst l]):=rfl
@[simp] theorem BN:(Res.old d).toD=d:=rfl
@[simp] theorem Pf:(Res.tup l).toD=.tup l:=rfl
@[simp] theorem oS:(Res.lst l).toD=.lst l:=rfl
@[simp] theorem VM {l:List (Key×D)}:(Res.ai l).toD=.ai l:=rfl
@[simp] theorem VU:aF env bx=.nx env bx:=rfl
@[simp] theorem iN {m k:ah}:fm m k env bx=match m env bx with|.nx env1 bx1=>k env1 bx1|o=>o:=rfl
@[simp] theorem GE:gy m env bx=bI zI λ_ bx1=>.nx env bx1:=rfl
@[simp] theorem Fx:fN m env bx=bI zI λw bx1=>.rt w bx1:=rfl
@[simp] theorem MR {t:DE Bool}{m k:ah}:aC t m k env bx=bI (t env bx) λb bx1=>match b with|true=>m env bx1|false=>k env bx1:=rfl
@[simp] theorem Au {g:DG}:fK m g env bx=bI zI λw bx1=>match g w env bx1 with|some (env1,bx2)=>.nx env1 bx2|none=>.bad:=rfl
@[simp] theorem TM {m:DE zan}{g:DG}{body:ah}:iB m g body env bx=bI zI λds bx1=>dF g body ds env bx1:=rfl
@[simp] theorem CY {w:W}:fg i w env bx=some (env.set i (some w),bx):=rfl
@[simp] theorem VN:jm [] env bx=some (env,bx):=rfl
@[simp] theorem U1 {g:DG}{k:pd}{w:W}{l:List W}:fT g k (w::l) env bx=(g w env bx).bind λ(env1,bx1)=>k l env1 bx1:=rfl
@[simp] theorem VO {k:pd}:iV n k (.d zV) env bx=if l.length=n then k zbd env bx else zy:=rfl
@[simp] theorem oT {src:List zaw}{g:DG}:fI bo src mi g tf te env bx=fC (mi env bx) λds bx1=>fC (bJ g tf te ds (cR src env) bx1 []) λl bx2=>b0 bo (some zQ) bx2:=rfl
@[simp] theorem Fy:cR [] env=[]:=rfl
@[simp] theorem CZ {l:List zaw}:cR (zy::l) env=zy::cR l env:=rfl
@[simp] theorem C0 {l:List zaw}:cR (some i::l) env=((env[i]?).bind id)::cR l env:=rfl
@[simp] theorem GF:ax m env bx=fC zI λw bx1=>match w with|.d (.lst l)=>.val zbd bx1|.d (.tup l)=>.val zbd bx1|_=>.bad:=rfl
@[simp] theorem TN {k:DE zan}:fV k env bx=fC zcY λws bx1=>b0 zw ((n9 ws).bind λl=>if l.length<=sizeLine then some zV else zy) bx1:=rfl
@[simp] theorem MS {k:DE zan}:fO bo k env bx=fC zcY λws bx1=>b0 bo ((n9 ws).bind λl=>if l.length<=sizeLine then some zQ else zy) bx1:=rfl
@[simp] theorem U2:n9 []=some []:=rfl
@[simp] theorem TQ {l:List W}:n9 (.d d::l)=(n9 l).map λt=>d::t:=rfl
@[simp] theorem TR:eE m env bx=fC zI λw bx1=>match w with|.d (.int i)=>.val (.d (.int (-i))) bx1|_=>.bad:=rfl
@[simp] theorem U3 {l u:DE (Option Int)}:cx bo m l u env bx=fC zI λx bx1=>fC (l env bx1) λi bx2=>fC (u env bx2) λj aP=>b0 bo ((aQ aP x).bind λd=>vE d i j) aP:=rfl
@[simp] theorem Wi:cS env bx=.val zy bx:=rfl
@[simp] theorem Pg:cc m env bx=fC zI λw bx1=>match w with|.d (.int i)=>.val (some i) bx1|_=>.bad:=rfl
@[simp] theorem VW:rQ bo m env bx=fC zI λx bx1=>b0 bo ((aQ bx1 x).bind λd=>match d with|.lst l=>some (.lst l.reverse)|_=>zy) bx1:=rfl
theorem g9 {m:ah}{ws:List W}(h:m zad bx=.rt (.d d) bx):aL n (aR m) ws bx=.val (.d d) bx:=by
 erw[aL,aR,DL.envOf,h,cP,cQ,ua]
noncomputable def WQ:Key->Nat
 |.inl _=>1921
 |.inr x=>(reprText x).length
mutual
noncomputable def wt:D->Nat
 |.non=>4
 |.bl _=>5
 |.int _=>1921
 |.str x=>(reprText x).length
 |.tup l=>3+k9 l
 |.lst l=>3+k9 l
 |.ai l=>3+xo l
noncomputable def k9:List D->Nat
 |[]=>0
 |d::l=>wt d+2+k9 l
noncomputable def xo:List (Key×D)->Nat
 |[]=>0
 |(k,d)::l=>WQ k+wt d+4+xo l
end
theorem GG (ts:List Str):(Str.join ", " ts).length<=piled ts:=by
 by_cases h:ts=[]
 .subst h;exact au _
 .have:=join_length_add ts h;lia
theorem BO (ts:List Str):(tupleText ts).length<=3+piled ts:=by
 unfold tupleText;have h:=GG ts;have e1:(("(":String):Str).length=1:=rfl;have e2:((",)":String):Str).length=2:=rfl;have e3:((")":String):Str).length=1:=rfl;rw[pF,pF];split<;>lia
theorem C2:∀ (ts:List Str) (k:Nat) (acc:Str),(textFrom k acc ts).length<=acc.length+piled ts:=by
 intro l_;induction l_ with
 |nil=>(intro k acc;show acc.length<=_;lia)
 |cons t r aq=>
   intro k acc;have h:=aq (k+1) (acc++(if k>0 then ", " else "":String)++t);have e1:((", ":String):Str).length=2:=rfl;have e2:(("":String):Str).length=0:=rfl;rw[pF,pF]at h;rw[Kk];show (textFrom (k+1) (acc++(if k>0 then ", " else "":String)++t) r).length<=_;split at h<;>ext hk<;>erw[hk,if_true,if_false]at h ⊢<;>lia
theorem C3 (ts:List Str):(listText ts).length<=3+piled ts:=by
 unfold listText;have h:=C2 ts 0 "[";have e1:(("[":String):Str).length=1:=rfl;have e2:(("]":String):Str).length=1:=rfl;rw[pF];lia
theorem C4 (ts:List Str):(dictText ts).length<=3+piled ts:=by
 unfold dictText;have h:=GG ts;have e1:(("{":String):Str).length=1:=rfl;have e2:(("}":String):Str).length=1:=rfl;rw[pF,pF];lia
theorem C5 {i:Int}(h:i.natAbs.log2<1920):(Str.ofString (toString i)).length<=1921:=by
 have:=int_text_length_le (a:=i) (k:=1920) za h;rw[PySem.ofString_length];exact this
mutual
theorem Av:∀ (d:D),(toPy d).showable=zO->(toPy d).shown.length<=wt d
 |.non,_=>by erw[toPy,PyData.shown,wt];decide
 |.bl b,_=>by cases b<;>erw[toPy,PyData.shown,wt]<;>decide
 | .int i,h=>by
   erw[toPy,PyData.shown,wt];exact C5 zcn
 |.str x,_=>by erw[toPy,PyData.shown,wt];exact au _
 | .tup l,h=>by
   erw[toPy,PyData.shown,wt];have:=m7 l zcn;have:=BO zbg;lia
 | .lst l,h=>by
   erw[toPy,PyData.shown,wt];have:=m7 l zcn;have:=C3 zbg;lia
 | .ai l,h=>by
   erw[toPy,PyData.shown,wt];have:=C6 l zcn;have:=C4 zbH;lia
theorem m7:∀ (l:List D),PyData.showableAll (a6 l)=zO->piled zbg<=k9 l
 |[],_=>by erw[a6,PyData.shownAll,k9];exact au _
 | d::l,h=>by
   erw[a6,PyData.showableAll,ao]at h;have h1:=Av d h.1;have h2:=m7 l h.2;erw[a6,PyData.shownAll,k9,Kk];lia
theorem C6:∀ (l:List (Key×D)),PyData.showableKv (bB l)=zO->piled zbH<=xo l
 |[],_=>by erw[bB,PyData.shownKv,xo];exact au _
 | (k,d)::l,h=>by
   erw[bB,PyData.showableKv,ao]at h;have h1:=Av d h.1.2;have h2:=C6 l h.2;have e1:((": ":String):Str).length=2:=rfl;have hk:(PyData.shown (nL k)).length<=WQ k:=by
    cases k with
    |inl i=>exact C5 (by simpa[nL,PyData.showable] using h.1.1)
    |inr x=>exact au _
   erw[bB,PyData.shownKv,xo,Kk];rw[pF,pF];lia
end
mutual
noncomputable def ib (B:Nat):D->Bool
 |.int i=>decide (i.natAbs<=B)
 |.tup l=>nP B l
 |.lst l=>nP B l
 |.ai l=>tQ B l
 |_=>zO
noncomputable def nP (B:Nat):List D->Bool
 |[]=>zO
 |d::l=>ib B d&&nP B l
noncomputable def tQ (B:Nat):List (Key×D)->Bool
 |[]=>zO
 |(k,d)::l=>(match k with|.inl i=>decide (i.natAbs<=B)|_=>zO)&&ib B d&&tQ B l
end
theorem MT {B:Nat}(hB:B<2 ^ 1900) {i:Int}(h:i.natAbs<=B):i.natAbs.log2<1920:=by
 by_cases h0:i.natAbs=0
 .rw[h0];decide
 .exact(Nat.log2_lt h0).mpr (dj (EV h hB) (Kr za za))
mutual
theorem BP {B:Nat}(hB:B<2 ^ 1900):∀ (d:D),ib B d=zO->(toPy d).showable=zO
 |.non,_=>by simp[toPy,PyData.showable]
 |.bl b,_=>by simp[toPy,PyData.showable]
 | .int i,h=>by
   erw[toPy,PyData.showable,decide_eq_true_eq];exact MT hB (by simpa[ib] using h)
 |.str x,_=>by simp[toPy,PyData.showable]
 | .tup l,h=>by
   erw[toPy,PyData.showable];exact Aw hB l (by simpa[ib] using h)
 | .lst l,h=>by
   erw[toPy,PyData.showable];exact Aw hB l (by simpa[ib] using h)
 | .ai l,h=>by
   erw[toPy,PyData.showable];exact C7 hB l (by simpa[ib] using h)
theorem Aw {B:Nat}(hB:B<2 ^ 1900):∀ (l:List D),nP B l=zO->PyData.showableAll (a6 l)=zO
 |[],_=>by simp[a6,PyData.showableAll]
 | d::l,h=>by
   erw[nP,ao]at h;erw[a6,PyData.showableAll,BP hB d h.1,Aw hB l h.2,Yp]
theorem C7 {B:Nat}(hB:B<2 ^ 1900):∀ (l:List (Key×D)),tQ B l=zO->PyData.showableKv (bB l)=zO
 |[],_=>by simp[bB,PyData.showableKv]
 | (k,d)::l,h=>by
   erw[tQ,ao]at h;have hk:(nL k).showable=zO:=by
    cases k with
    |inl i=>
      erw[nL,PyData.showable,decide_eq_true_eq];exact MT hB (by simpa using h.1.1)
    |inr x=>simp[nL,PyData.showable]
   erw[bB,PyData.showableKv,hk,BP hB d h.1.2,C7 hB l h.2,Yp]
end
mutual
theorem MU {B B':Nat}(h:B<=B'):∀ (d:D),ib B d=zO->ib B' d=zO
 |.non,_=>by simp[ib]
 |.bl b,_=>by simp[ib]
 | .int i,q=>by
   erw[ib,decide_eq_true_eq]at q ⊢;lia
 |.str x,_=>by simp[ib]
 | .tup l,q=>by
   erw[ib]at q ⊢;exact BQ h l q
 | .lst l,q=>by
   erw[ib]at q ⊢;exact BQ h l q
 | .ai l,q=>by
   erw[ib]at q ⊢;exact MV h l q
theorem BQ {B B':Nat}(h:B<=B'):∀ (l:List D),nP B l=zO->nP B' l=zO
 |[],_=>by simp[nP]
 | d::l,q=>by
   erw[nP,ao]at q ⊢;exact#[MU h d q.1,BQ h l q.2]
theorem MV {B B':Nat}(h:B<=B'):∀ (l:List (Key×D)),tQ B l=zO->tQ B' l=zO
 |[],_=>by simp[tQ]
 | (k,d)::l,q=>by
   erw[tQ,ao]at q ⊢;refine#[#[?_,MU h d q.1.2],MV h l q.2];have:=q.1.1;cases k with
   |inl i=>erw[decide_eq_true_eq]at this ⊢;lia
   |inr x=>rfl
end
structure Sm (B a b:Nat) (d:D):uu where
 s:ib B d=zO
 e:(toPy d).depth<=a
 w:wt d<=b
structure av (B a b:Nat) (l:List D):uu where
 s:nP B l=zO
 e:PyData.depthAll (a6 l)<=a
 w:k9 l<=b
theorem Fz {B a b:Nat}(h:Sm B a b d) (hB:B<2 ^ 1900) (ha:a<=60) (hb:b<=sizeLine):vF d=zO:=by
 have hs:=BP hB d h.s;have:=Av d hs;have h1:=h.e;have h2:=h.w;unfold vF;rw[hs,decide_eq_true (by lia:(toPy d).depth<=60),decide_eq_true (by lia:(toPy d).shown.length<=sizeLine)];rfl
theorem Sm.mono {B a b a' b':Nat}(h:Sm B a b d) (ha:a<=a') (hb:b<=b'):Sm B a' b' d:=#[h.s,br h.e ha,br h.w hb]
theorem av.mono {B a b a' b':Nat}(h:av B a b l) (ha:a<=a') (hb:b<=b'):av B a' b' l:=#[h.s,br h.e ha,br h.w hb]
theorem Sm.up {B B' a b:Nat}(h:Sm B a b d) (q:B<=B'):Sm B' a b d:=#[MU q d h.s,h.e,h.w]
theorem av.up {B B' a b:Nat}{d:List D}(h:av B a b d) (q:B<=B'):av B' a b d:=#[BQ q d h.s,h.e,h.w]
theorem av.nil {B a:Nat}:av B a 0 []:=#[rfl,by simp[a6,PyData.depthAll],au _]
theorem av.cons {B a b c:Nat}{d:D}{l:List D}(h:Sm B a b d) (t:av B a c l):av B a (b+2+c) (d::l):=
 #[by simp[nP,h.s,t.s],by erw[a6,PyData.depthAll];exact Nat.max_le.mpr #[h.e,t.e],by erw[k9];have:=h.w;have:=t.w;lia]
theorem Sm.tup {B a b:Nat}{l:List D}(h:av B a b l):Sm B (a+1) (3+b) zV:=
 #[by simp[ib,h.s],by erw[toPy,PyData.depth];have:=h.e;lia,by erw[wt];have:=h.w;lia]
theorem Sm.lst {B a b:Nat}{l:List D}(h:av B a b l):Sm B (a+1) (3+b) zQ:=
 #[by simp[ib,h.s],by erw[toPy,PyData.depth];have:=h.e;lia,by erw[wt];have:=h.w;lia]
theorem Sm.int {B a:Nat}{i:Int}(h:i.natAbs<=B):Sm B a 1921 zaS:=
 #[by simp[ib,h],by simp[toPy,PyData.depth],au _]
theorem Sm.non {B a:Nat}:Sm B a 4 .non:=#[by simp[ib],by simp[toPy,PyData.depth],au _]
theorem l7 (l m:List D):k9 (l++m)=k9 l+k9 m:=by
 induction l with
 |nil=>simp[k9]
 |cons d l ih=>erw[sD,k9,ih];lia
theorem av.append {B a b c:Nat}:∀ {l m:List D},av B a b l->av B a c m->av B a (b+c) (l++m):=by
 intro l m h t;refine#[?_,?_,by rw[l7];have:=h.w;have:=t.w;lia]
 .have h1:=h.s;clear h;induction l with
  |nil=>exact t.s
  |cons d l ih=>
    erw[nP,ao,sD]at h1 ⊢;exact#[h1.1,ih h1.2]
 .have h1:=h.e;clear h;induction l with
  |nil=>exact t.e
  |cons d l ih=>
    erw[a6,PyData.depthAll,sD]at h1 ⊢;exact Nat.max_le.mpr #[(Nat.max_le.mp h1).1,ih (Nat.max_le.mp h1).2]
theorem av.left {B a b:Nat}{m:List D}(h:av B a b (l++m)):av B a b l:=by
 refine#[?_,?_,by have:=h.w;rw[l7]at this;lia]
 .have h1:=h.s;clear h;induction l with
  |nil=>rfl
  |cons d l ih=>
    erw[nP,ao,sD]at h1 ⊢;exact#[h1.1,ih h1.2]
 .have h1:=h.e;clear h;induction l with
  |nil=>exact nT _
  |cons d l ih=>
    erw[a6,PyData.depthAll,sD]at h1 ⊢;exact Nat.max_le.mpr #[(Nat.max_le.mp h1).1,ih (Nat.max_le.mp h1).2]
theorem av.right {B a b:Nat}{m:List D}(h:av B a b (l++m)):av B a b m:=by
 refine#[?_,?_,by have:=h.w;rw[l7]at this;lia]
 .have h1:=h.s;clear h;induction l with
  |nil=>exact h1
  |cons d l ih=>
    erw[nP,ao,sD]at h1;exact ih h1.2
 .have h1:=h.e;clear h;induction l with
  |nil=>exact h1
  |cons d l ih=>
    erw[a6,PyData.depthAll,sD]at h1;exact ih (Nat.max_le.mp h1).2
theorem av.take {B a b:Nat}{l:List D}(n:Nat) (h:av B a b l):av B a b (l.take n):=av.left (m:=l.drop n) (by rw[YS];exact h)
theorem av.drop {B a b:Nat}{l:List D}(n:Nat) (h:av B a b l):av B a b (l.drop n):=av.right (l:=l.take n) (by rw[YS];exact h)
theorem av.cut {B a b:Nat}(x y:Option Int) (h:av B a b l):av B a b (cutD l x y):=av.take _ (av.drop _ h)
theorem av.mem {B a b:Nat}(h:av B a b l) (m:d∈l):Sm B a b d:=by
 let#[s,t,rfl]:=E6 m;have h1:=h.right;have:=h1.w;have hs:=h1.s;have hd:=h1.e;erw[nP,ao]at hs;erw[a6,PyData.depthAll]at hd;erw[k9]at this;exact#[hs.1,(Nat.max_le.mp hd).1,by lia]
theorem Sm.WR {B a b:Nat}(h:Sm B a b zV):1<=a /\ av B (a-1) (b-3) l /\ 3<=b:=by
 have h1:=h.e;have h2:=h.w;erw[toPy,PyData.depth]at h1;erw[wt]at h2;exact#[by lia,#[by have:=h.s;simpa[ib] using this,by lia,by lia],by lia]
theorem av.of {B a b:Nat}:∀ {l:List D},(∀ d∈l,Sm B a b d)->av B a (l.length*(b+2)) l:=by
 intro l_;induction l_ with
 |nil=>(intro _;simpa using av.nil)
 |cons d l aq=>
   intro h;have h1:=h d (bK ..);have h2:=aq λx m=>h x (bL _ m);exact(av.cons h1 h2).mono (au _) (by rw[bp,ya];lia)
section
variable {env1 aX:aE} {bx2 aP:List Bx} {k:DE W} {w u:W} {l:List W}
theorem fe (h1:m env bx=.val w bx1) (h2:ks env bx1=.val l bx2):fc m ks env bx=.val (w::l) bx2:=by rw[oR,h1,fS,h2,fS]
theorem Ph:∀ {ds:List D},eP bx (ds.map W.d)=some ds:=by
 intro l_;induction l_ with
 |nil=>exact rfl
 |cons d ds aq=>(rw[bh,Fw,aq];rfl)
theorem BR:∀ {ds:List D},n9 (ds.map W.d)=some ds:=by
 intro l_;induction l_ with
 |nil=>exact rfl
 |cons d ds aq=>(rw[bh,TQ,aq];rfl)
theorem gH {g:List D->Option Res}{r:Res}(ds:List D) (h:ks env bx=.val (ds.map W.d) bx1) (hg:g ds=some r):dN zw g ks env bx=.val (.d r.toD) bx1:=by rw[JX,h,fS,Ph,bD,hg,iM]
theorem iq (ds:List D) (h:ks env bx=.val (ds.map W.d) bx1) (hl:ds.length<=sizeLine):fV ks env bx=.val (.d (.tup ds)) bx1:=by rw[TN,h,fS,BR,bD,if_pos hl,iM,Pf]
theorem jy (ds:List D) (h:ks env bx=.val (ds.map W.d) bx1) (hl:ds.length<=sizeLine):fO zw ks env bx=.val (.d (.lst ds)) bx1:=by rw[MS,h,fS,BR,bD,if_pos hl,iM,oS]
theorem m8 (ds:List D) (h:ks env bx=.val (ds.map W.d) bx1) (hl:ds.length<=sizeLine):fO zO ks env bx=.val (.b bx1.length) (bx1++[.lst ds]):=by rw[MS,h,fS,BR,bD,if_pos hl];rfl
theorem fL {r:Res}{x y:D}(h1:m env bx=.val (.d x) bx1) (h2:k env bx1=.val (.d y) bx2) (hg:g x y=some r):d2 zw g m k env bx=.val (.d r.toD) bx2:=by rw[JW,h1,fS,h2,fS,lP,lP,bD,bD,hg,iM]
theorem fF (h:ks env bx=.val l bx1) (hn:l.length=n) (hf:fn l bx1=.val w bx2):fj fn n ks env bx=.val w bx2:=by rw[lH,h,fS,if_pos hn,hf]
theorem fZ {b:Bool}(h:m env bx=.val (.d (.bl b)) bx1):dB m env bx=.val b bx1:=by rw[VT,h,fS]
theorem fU {t:DE Bool}{b:Bool}(h:t env bx=.val b bx1):aG t env bx=.val (!b) bx1:=by rw[TL,h,fS]
theorem iA {t s:DE Bool}(h:t env bx=.val zO bx1):aZ t s env bx=.val zO bx1:=by rw[RJ,h,fS]
theorem gJ {t s:DE Bool}{b:Bool}(h:t env bx=.val zw bx1) (h2:s env bx1=.val b bx2):aZ t s env bx=.val b bx2:=by rw[RJ,h,fS,h2]
theorem FA {t s:DE Bool}(h:t env bx=.val zw bx1):qG t s env bx=.val zw bx1:=by rw[MP,h,fS]
theorem FB {t s:DE Bool}{b:Bool}(h:t env bx=.val zO bx1) (h2:s env bx1=.val b bx2):qG t s env bx=.val b bx2:=by rw[MP,h,fS,h2]
theorem GH {b:Bool}(h:m env bx=.val (.d (.bl b)) bx1):gI m k env bx=if b then k env bx1 else .val zcO bx1:=by rw[GD,h];cases b<;>rfl
theorem gC {src:List zaw}{g:DG}{ds:List D}{e2:aE}(h1:mi env bx=.val l bx1) (he:cR src env=e2) (h2:bJ g tf te l e2 bx1 []=.val ds bx2):fI zw src mi g tf te env bx=.val (.d (.lst ds)) bx2:=by
 subst he;rw[oT,h1,fS,h2,fS,iM,oS]
theorem Pi {src:List zaw}{g:DG}{ds:List D}{e2:aE}(h1:mi env bx=.val l bx1) (he:cR src env=e2) (h2:bJ g tf te l e2 bx1 []=.val ds bx2):fI zO src mi g tf te env bx=.val (.b bx2.length) (bx2++[.lst ds]):=by
 subst he;rw[oT,h1,fS,h2,fS];rfl
theorem oC {x:D}{r:Res}{lo hi:DE (Option Int)}{i j:Option Int}(h1:m env bx=.val (.d x) bx1) (h2:lo env bx1=.val i bx2) (h3:hi env bx2=.val j aP) (hs:vE x i j=some r):cx zw m lo hi env bx=.val (.d r.toD) aP:=by
 rw[U3,h1,fS,h2,fS,h3,fS,lP,bD,hs,iM]
theorem jV {i:Int}(h:m env bx=.val (.d zaS) bx1):cc m env bx=.val (some i) bx1:=by rw[Pg,h,fS]
theorem gM {ds:List D}(h:m env bx=.val (.d (.lst ds)) bx1):ax m env bx=.val (ds.map W.d) bx1:=by rw[GF,h,fS]
theorem io {ds:List D}(h:m env bx=.val (.d (.tup ds)) bx1):ax m env bx=.val (ds.map W.d) bx1:=by rw[GF,h,fS]
theorem Ax {i:Int}(h:m env bx=.val (.d zaS) bx1):eE m env bx=.val (.d (.int (-i))) bx1:=by rw[TR,h,fS]
theorem GI (h:m env bx=.val (.d d) bx1) (c:vF d=zO):rR m env bx=.val (.d (.str (toPy d).shown)) bx1:=by
 unfold rR;rw[h,fS];exact if_pos c
theorem fq {a b:ah}(h:a env bx=.nx env1 bx1):fm a b env bx=b env1 bx1:=by rw[iN,h]
theorem gY {a b:ah}(h:a env bx=.rt w bx1):fm a b env bx=.rt w bx1:=by rw[iN,h]
theorem gN (h:m env bx=.val w bx1):fK m (fg i) env bx=.nx (env.set i (some w)) bx1:=by rw[Au,h,lZ,CY]
theorem gx (h:m env bx=.val w bx1):fN m env bx=.rt w bx1:=by rw[Fx,h,lZ]
theorem iO (h:m env bx=.val w bx1):gy m env bx=.nx env bx1:=by rw[GE,h,lZ]
theorem iy {t:DE Bool}{a b:ah}(h:t env bx=.val zO bx1):aC t a b env bx=a env bx1:=by rw[MR,h,lZ]
theorem iF {t:DE Bool}{a b:ah}(h:t env bx=.val zw bx1):aC t a b env bx=b env bx1:=by rw[MR,h,lZ]
theorem lv {g:DG}{body:ah}(h:mi env bx=.val l bx1):iB mi g body env bx=dF g body l env bx1:=by rw[TM,h,lZ]
theorem lw {g:DG}{body:ah}(h1:g w env bx=some (env1,bx1)) (h2:body env1 bx1=.nx aX bx2):dF g body (w::l) env bx=dF g body l aX bx2:=by
 rw[dF,h1];erw[h2]
theorem BS {g:DG}{body:ah}(h1:g w env bx=some (env1,bx1)) (h2:body env1 bx1=.rt u bx2):dF g body (w::l) env bx=.rt u bx2:=by
 rw[dF,h1];erw[h2]
theorem oU {g:DG}{body:ah}(I:Nat->aE->List Bx->uu):∀ (l:List W) (k:Nat) (env:aE) (bx:List Bx),I k env bx ->
 (∀ i w env bx,l[i]?=some w->I (k+i) env bx->∃ env1 bx1 aX bx2,g w env bx=some (env1,bx1) /\ body env1 bx1=.nx aX bx2 /\ I (k+i+1) aX bx2) ->
 ∃ aA bx',dF g body l env bx=.nx aA bx' /\ I (k+l.length) aA bx':=by
 intro l;induction l with
 |nil=>intro k env bx h _;exact#[env,bx,rfl,h]
 |cons w l ih=>
   intro k env bx h st;let#[env1,bx1,aX,bx2,e1,e2,h2]:=st 0 w env bx bz h;let#[aA,bx',e3,h3]:=ih (k+1) aX bx2 h2 λi x env bx e hi=>by
    have:=st (i+1) x env bx (by simpa using e) (by rw[show k+(i+1)=k+1+i by lia];exact hi);rw[show k+(i+1)+1=k+1+i+1 by lia]at this;exact this
   exact#[aA,bx',by rw[lw e1 e2,e3],by rw[bp,show k+(l.length+1)=k+1+l.length by lia];exact h3]
end
end L2.DL
namespace K1
open L2 L2.DL
noncomputable def wh:D->Bool
 |.int _=>zO
 |_=>zw
noncomputable def wi (d:D) (lo hi:Int):Bool:=match d with
 |.int i=>decide (lo<=i)&&decide (i<=hi)
 |_=>zw
noncomputable def tl (d:D) (lo hi:Int):Bool:=match d with
 |.tup l=>decide (lo<=(l.length:Int))&&decide ((l.length:Int)<=hi)
 |_=>zw
theorem FC (d:D):qf (nI d) "tuple"=(match d with|.tup _=>zO|_=>zw):=by cases d<;>rfl
theorem C8 (d:D) (bx:List Bx):iX [.d d] bx=.val (.d (.bl (wh d))) bx:=
 g9 (by cases d<;>rfl)
theorem m9 (d:D) (bx:List Bx):gz [.d d] bx=.val (.d (.bl (wh d))) bx:=
 g9 (by cases d<;>rfl)
theorem iz {k:DE W}{r:O W}(h:m env bx=.val (.d zc2) bx1) (h2:k env bx1=r):gI m k env bx=r:=by rw[GH h];exact h2
theorem iG {k:DE W}(h:m env bx=.val zcO bx1):gI m k env bx=.val zcO bx1:=by rw[GH h];rfl
theorem lI (d:D) (lo hi:Int) (bx:List Bx):gh zG bx=.val zaB bx:=
 g9 (gx (by
  have w:=fF (fn:=iX) (n:=1) (l:=[.d d]) (env:=[some (.d d),xN lo,xN hi]) (ks:=fc (dV 0) ff) zo bz (C8 d bx);cases d with
  |int i=>
    refine iz w ?_;by_cases h:lo<=i<;>simp[b9,wi,h]
  |_=>exact iG w))
theorem FD (d:D) (lo hi:Int) (bx:List Bx):gE zG bx=.val zaB bx:=
 g9 (gx (by
  have w:=fF (fn:=gz) (n:=1) (l:=[.d d]) (env:=[some (.d d),xN lo,xN hi]) (ks:=fc (dV 0) ff) zo bz (m9 d bx);cases d with
  |int i=>
    refine iz w ?_;by_cases h:lo<=i<;>simp[b9,wi,h]
  |_=>exact iG w))
theorem jG (d:D) (lo hi:Int) (bx:List Bx):gk zG bx=.val (.d (.bl (tl d lo hi))) bx:=
 g9 (by
  cases d with
  |tup l=>
    simp[As,FC,tl,b9,ay];by_cases h:lo<=(l.length:Int)<;>simp[h]
  |_=>rfl)
theorem Pj {g:DG}(J:aE->uu) (p:D->Bool) (f:D->D):∀ (l:List D) (env:aE) (acc:List D),J env ->
 (∀ d∈l,∀ env,J env->∃ aA,g (.d d) env bx=some (aA,bx) /\ J aA /\ tf aA bx=.val (p d) bx /\ (p d=zO->te aA bx=.val (.d (f d)) bx))->acc.length+l.length<=sizeLine ->
 bJ g tf te zbd env bx acc=.val (acc++(l.filter p).map f) bx:=by
 intro l_;induction l_ with
 |nil=>(intro env acc _ _ _;simp[bJ])
 |cons d l aq=>
   intro env acc j h n;let#[aA,e1,j',e2,e3]:=h d (bK ..) env j;have n':acc.length<sizeLine:=by erw[bp]at n;lia
   erw[bh,bJ,e1,e2,Fu];have h':=λx (m:x∈l)=>h x (bL _ m);cases q:p d with
   |false=>
     erw[YT,q];exact aq aA acc j' h' (by erw[bp]at n;lia)
   |true=>
     erw[YT,q,e3 q,Fu,if_pos n'];rw[aq aA (acc++[f d]) j' h' (by erw[cJ,bp,kK]at n ⊢;lia)];simp
theorem gR {g:DG}(J:aE->uu) (f:D->D) (j:J env) (h:∀ d∈l,∀ env,J env->∃ aA,g (.d d) env bx=some (aA,bx) /\ J aA /\ te aA bx=.val (.d (f d)) bx) (n:l.length<=sizeLine) :
 bJ g fG te zbd env bx []=.val (l.map f) bx:=by
 rw[Pj (tf:=fG) J (λ_=>true) f l env [] j (λd m e je=>let ⟨e',a,b,c⟩:=h d m e je;#[e',a,b,rfl,λ_=>c]) (by simpa using n)];rw[List.filter_eq_self.mpr (λ_ _=>rfl)];rfl
theorem MW (l:List D) (p:D->Bool):qg (l.map λd=>D.bl (p d))=some (l.map p):=by
 induction l with
 |nil=>rfl
 |cons d l ih=>simp[qg,ih]
@[simp] theorem all_map (l:List D) (p:D->Bool):bj [.lst (l.map λd=>D.bl (p d))]=some (.old (.bl (l.all p))):=by
 simp[bj,MW,wD]
def rooms (d:D):Bool:=match d with
 |.tup l=>tl zV 1 5&&l.all λx=>wi x 0 3
 |_=>zw
theorem WS:(5:Nat)<=sizeLine:=by decide
theorem jz {lo hi:Int}(h:tl zV lo hi=zO):lo<=(l.length:Int) /\ (l.length:Int)<=hi:=by simpa[tl] using h
theorem Ay {lo hi:Int}(h:tl d lo hi=zO):∃ l,d=.tup l:=by
 cases d<;>first|exact#[_,rfl]|cases h
theorem FE (l:List D) (lo hi:Int) (n:(l.length:Int)<=5) {r:aE}{hm:DE W}(hh:∀ w,hm (w::r) bx=.val (.d (.int hi)) bx):bJ (fg 0) fG (fj gh 3 (fc (dV 0) (fc (dC (.int lo)) (fc hm ff)))) zbd (zy::r) bx []=.val (l.map λx=>.bl (wi x lo hi)) bx:=
 gR (λe=>∃ w,e=w::r) _ #[zy,rfl] (by
  rintro x _ e ⟨w,rfl⟩;exact#[some (.d x)::r,rfl,#[_,rfl],fF (l:=[.d x,.d (.int lo),.d (.int hi)]) (fe bz (fe bz (fe (hh _) bz))) bz (lI x lo hi bx)]) (by have:=WS;lia)
theorem C9 (d:D) {e:aE}(a b:DE W) (lo hi:Int) (bx:List Bx) (ha:a (some (.d d)::e) bx=.val (.d (.int lo)) bx) (hb:b (some (.d d)::e) bx=.val (.d (.int hi)) bx):fj gk 3 (fc (dV 0) (fc a (fc b ff))) (some (.d d)::e) bx=.val (.d (.bl (tl d lo hi))) bx:=fF (l:=zG) (fe bz (fe ha (fe hb bz))) bz (jG d lo hi bx)
theorem MX (d:D) (bx:List Bx):jc [.d d] bx=.val (.d (.bl (rooms d))) bx:=
 g9 (gx (by
  have t:=C9 (e:=[]) d zc (dC (.int 5)) 1 5 bx bz bz;cases h:tl d 1 5 with
  |false=>
    rw[h]at t;rw[show rooms d=false by cases d<;>first|rfl|erw[rooms,h,sv]];exact iG t
  |true=>
    rw[h]at t;let#[l,rfl]:=Ay h;have n:=jz h;rw[show rooms zV=l.all λx=>wi x 0 3 by erw[rooms,h,uS]];exact iz t (gH (r:=.old (.bl (l.all λx=>wi x 0 3))) [.lst (l.map λx=>.bl (wi x 0 3))] (fe (gC (io bz) bz (FE l 0 3 zb λ_=>rfl)) bz) zcp)))
noncomputable def qm:List D->Bool
 |x::y::l=>(match x,y with|.int i,.int j=>decide (j<=i)|_,_=>zw)&&qm (y::l)
 |_=>zO
def nQ (d:D):Bool:=match d with
 |.tup l=>tl zV 4 4&&(l.all (λx=>wi x 0 9)&&qm l)
 |_=>zw
theorem xp (h:tl zV 2 2=zO):∃ a b,l=[a,b]:=by
 have n:=jz h;obtain⟨a,l,rfl⟩:∃ a t,l=a::t:=wF zb;obtain⟨b,l,rfl⟩:∃ a t,l=a::t:=wF (by simp at n;lia);have:l.length=0:=by simp at n;lia
 exact#[a,b,by rw[E5 this]]
theorem abU (h:tl zV 4 4=zO):∃ a b c e,l=[a,b,c,e]:=by
 have n:=jz h;obtain⟨a,l,rfl⟩:∃ a t,l=a::t:=wF zb;obtain⟨b,l,rfl⟩:∃ a t,l=a::t:=wF (by simp at n;lia);obtain⟨c,l,rfl⟩:∃ a t,l=a::t:=wF (by simp at n;lia);obtain⟨e,l,rfl⟩:∃ a t,l=a::t:=wF (by simp at n;lia);have:l.length=0:=by simp at n;lia
 exact#[a,b,c,e,by rw[E5 this]]
theorem iH {x:D}{lo hi:Int}(h:wi x lo hi=zO):∃ i,x=.int i /\ lo<=i /\ i<=hi:=by
 cases x<;>simp[wi]at h;exact#[_,rfl,h]
theorem MY (d:D) (bx:List Bx):jO [.d d] bx=.val (.d (.bl (nQ d))) bx:=
 g9 (by
  have t:=C9 (e:=[]) d (d2 zw fR (dC (.int 3)) zc) (d2 zw fR (dC (.int 3)) zc) 4 4 bx bz bz;cases h:tl d 4 4 with
  |false=>
    rw[h]at t;rw[show nQ d=false by cases d<;>first|rfl|erw[nQ,h,sv]];exact gY ((iy (iA (fU (b:=zw) (fZ t)))).trans (gx bz))
  |true=>
    rw[h]at t;let#[l,rfl]:=Ay h;have n:=jz h;have aa:=fZ (gH (r:=.old (.bl (l.all λx=>wi x 0 9))) [.lst (l.map λx=>.bl (wi x 0 9))] (fe (ks:=ff) (gC (src:=[zy]) (env:=[some (.d zV)]) (mi:=ax (dV 0)) (io bz) bz (FE l 0 9 (hm:=dC (.int 9)) (bx:=bx) zb λ_=>rfl)) bz) zcp);rw[show nQ zV=(l.all (λx=>wi x 0 9)&&qm l) by erw[nQ,h,uS]];cases q:l.all λx=>wi x 0 9 with
    |false=>rw[q]at aa;exact gY ((iy (gJ (fU (b:=zO) (fZ t)) (fU (b:=zw) aa))).trans (gx bz))
    |true=>
      rw[q]at aa;refine(fq ((iF (gJ (fU (b:=zO) (fZ t)) (fU (b:=zO) aa))).trans bz)).trans (gx ?_);let#[a,b,c,e,rfl]:=abU h;erw[eK,Kx,Kl,ao]at q;let#[a,rfl,_]:=iH q.1;let#[b,rfl,_]:=iH q.2.1;let#[c,rfl,_]:=iH q.2.2.1;let#[e,rfl,_]:=iH q.2.2.2;exact gH (r:=.old (.bl (qm [.int a,.int b,.int c,.int e]))) [.lst [.bl (decide (b<=a)),.bl (decide (c<=b)),.bl (decide (e<=c))]] (fe (gC bz bz bz) bz) bz)
def kind (d:D):Bool:=match d with
 |.tup l=>tl zV 2 2&&(match l with|[a,b]=>wi a 1 999&&nQ b|_=>zw)
 |_=>zw
theorem Pk (d:D) (bx:List Bx):lX [.d d] bx=.val (.d (.bl (kind d))) bx:=
 g9 (gx (by
  have t:=C9 (e:=[]) d zbc zbc 2 2 bx bz bz;cases h:tl d 2 2 with
  |false=>
    rw[h]at t;rw[show kind d=false by cases d<;>first|rfl|erw[kind,h,sv]];exact iG t
  |true=>
    rw[h]at t;let#[l,rfl]:=Ay h;let#[a,b,rfl]:=xp h;refine iz t ?_;rw[show kind zcV=(wi a 1 999&&nQ b) from rfl];have w:=fF (fn:=gh) (n:=3) (l:=[.d a,.d zh,.d (.int 999)]) (env:=[some (.d zcV)]) (ks:=fc zaA zcm) (fe (fL (r:=.old a) bz bz bz) zaE) bz (lI a 1 999 bx);cases q:wi a 1 999 with
    |false=>rw[q]at w;exact iG w
    |true=>rw[q]at w;exact iz w (fF (l:=[.d b]) (fe (fL (r:=.old b) bz bz bz) bz) bz (MY b bx))))
def kinds (d:D):Bool:=match d with
 |.tup l=>tl zV 1 4&&l.all kind
 |_=>zw
theorem MZ (d:D) (bx:List Bx):jd [.d d] bx=.val (.d (.bl (kinds d))) bx:=
 g9 (gx (by
  have t:=C9 (e:=[]) d zc zai 1 4 bx bz bz;cases h:tl d 1 4 with
  |false=>
    rw[h]at t;rw[show kinds d=false by cases d<;>first|rfl|erw[kinds,h,sv]];exact iG t
  |true=>
    rw[h]at t;let#[l,rfl]:=Ay h;have n:=jz h;rw[show kinds zV=l.all kind by erw[kinds,h,uS]];exact iz t (gH (r:=.old (.bl (l.all kind))) [.lst (l.map λx=>.bl (kind x))] (fe (gC (io bz) bz (gR (λe=>∃ w,e=[w]) _ #[zy,rfl] (by
     rintro x _ e ⟨w,rfl⟩;exact#[[some (.d x)],rfl,#[_,rfl],fF zo bz (Pk x bx)]) (by have:=WS;lia))) bz) zcp)))
def cg (n:Int) (d:D):Bool:=match d with
 |.tup l=>tl zV 2 2&&(match l with|[.int a,.int b]=>decide (0<=a)&&decide (a<b)&&decide (b<=n-1)|_=>zw)
 |_=>zw
theorem M0 (d:D) (n:Int) (bx:List Bx):ig [.d d,.d (.int n)] bx=.val (.d (.bl (cg n d))) bx:=
 g9 (by
  have t:=C9 (e:=[xN n]) d zbc zbc 2 2 bx bz bz;cases h:tl d 2 2 with
  |false=>
    rw[h]at t;rw[show cg n d=false by cases d<;>first|rfl|erw[cg,h,sv]];exact gY ((iy (fU (b:=zw) (fZ t))).trans (gx bz))
  |true=>
    rw[h]at t;let#[l,rfl]:=Ay h;let#[a,b,rfl]:=xp h;refine(fq ((iF (fU (b:=zO) (fZ t))).trans bz)).trans (gx ?_);have a2:=gH (r:=.old (.bl ([a,b].all λx=>wi x 0 (n-1)))) [.lst ([a,b].map λx=>.bl (wi x 0 (n-1)))] (fe (ks:=ff) (gC (src:=[zy,some 1]) (env:=[some (.d zcV),xN n]) (mi:=ax (dV 0)) (io bz) bz (FE [a,b] 0 (n-1) (hm:=d2 zw eD (dV 1) zc) (bx:=bx) (show (2:Int)<=5 by decide) λ_=>fL (r:=.old (.int (n-1))) bz bz bz)) bz) zcp;cases q:[a,b].all λx=>wi x 0 (n-1) with
    |false=>
      rw[q]at a2;rw[show cg n zcV=false by cases a<;>first|rfl|(cases b<;>first|rfl|(simp[wi]at q;simp[cg];lia))];exact iG a2
    |true=>
      rw[q]at a2;erw[eK,Kx,Kl,ao]at q;let#[i,rfl,i1,i2]:=iH q.1;let#[j,rfl,j1,j2]:=iH q.2;rw[show cg n zav=decide (i<j) by simp[cg,tl,i1,j2]];exact iz a2 (fL (r:=.old (.bl (decide (i<j)))) (fL (r:=.old zaS) bz bz bz) (fL (r:=.old (.int j)) bz bz bz) bz))
noncomputable abbrev dP (p:Int×Int):D:=.tup [.int p.1,.int p.2]
abbrev xP (l:List (Int×Int)):Option W:=some (.d (.lst (l.map dP)))
def cA (p q:Int×Int):Bool:=HT.lexLt [p.1,p.2] [q.1,q.2]
theorem mF {n:Int}(h:cg n d=zO):∃ p:Int×Int,d=dP p /\ 0<=p.1 /\ p.1<p.2 /\ p.2<=n-1:=by
 cases d with
 |tup l=>
   erw[cg,ao]at h;let#[a,b,rfl]:=xp h.1;have h2:=h.2;cases a<;>cases b<;>simp at h2;exact#[(_,_),rfl,h2.1.1,h2.1.2,h2.2]
 |_=>simp[cg]at h
theorem Db {n:Int}:∀ {l:List D},l.all (cg n)=zO->∃ ps:List (Int×Int),l=ps.map dP /\ ∀ p∈ps,0<=p.1 /\ p.1<p.2 /\ p.2<=n-1:=by
 intro l_;induction l_ with
 |nil=>exact λ_=>#[[],rfl,λp m=>by cases m]
 |cons d l aq=>
   intro h;erw[eK,ao]at h;let#[p,rfl,hp]:=mF h.1;let#[ps,rfl,hs]:=aq h.2;exact#[p::ps,rfl,λq m=>by
    rcases aH.mp m with rfl|m
    .exact hp
    .exact hs q m]
def nR:List (Int×Int)->Bool
 |p::q::r=>cA p q&&nR (q::r)
 |_=>zO
theorem Az:∀ ps:List (Int×Int),nR ps=(List.range (ps.length-1)).all λi=>cA (ps.getD i (0,0)) (ps.getD (i+1) (0,0))
 |[]=>rfl
 |[p]=>rfl
 | p::q::r=>by
   rw[nR,Az (q::r)];erw[bp,Ks];rw[List.range_succ_eq_map,eK,wD];rfl
theorem GJ (h:i<ps.length):bA zt (i:Int)=some (dP (ps.getD i (0,0))):=by
 unfold bA dE;simp[h,List.getD]
theorem M1 {k:DE zan}{i j:Int}(e:k env bx=.val [.d zaS,.d (.int j)] bx1) (h:(-(2 ^ 62)<=i /\ i<2 ^ 62) /\ -(2 ^ 62)<=j /\ j<2 ^ 62):ur k env bx=.val (gf i (j-i).toNat) bx1:=by
 unfold ur;rw[e,fS];exact if_pos h
theorem jA {k:DE zan}{j:Int}(e:k env bx=.val [.d (.int j)] bx1) (h:-(2 ^ 62)<=j /\ j<2 ^ 62):cw k env bx=.val (gf 0 j.toNat) bx1:=by
 unfold cw;rw[e,fS];exact if_pos h
theorem Pl (lo:Int) (n:Nat):gf lo n=((List.range n).map λ(i:Nat)=>D.int (lo+(i:Int))).map W.d:=by
 unfold gf;rw[yi];rfl
theorem JY (ps:List (Int×Int)) (n:ps.length<=sizeLine) (bx:List Bx):jN [.d (.tup zt)] bx=.val (.d (.bl (nR ps))) bx:=
 g9 (by
  have s2:sizeLine=16777216:=bH;have r:ur (fc zc (fc (dN zw ay zq) ff)) [some (.d (.tup zt))] bx=.val (gf 1 (((ps.length:Nat):Int)-1).toNat) bx:=M1 (by simp[ay]) zb;erw[oB,Fx,JX,oR,oT,bh,wz,bp,kK,pX,List.replicate_zero,hZ,r,fS,Pl,CZ,C0,Fy,YU,bD,id];rw[gR (λe=>∃ w,e=[w,some (.d (.tup zt))]) (λx=>.bl (match x with|.int i=>cA (ps.getD (i.toNat-1) (0,0)) (ps.getD i.toNat (0,0))|_=>false)) #[none,rfl] ?_ (by rw[aS,wC];lia)]
  .erw[fS,Fv,iM,oS,Fw,CW,kM,bD];rw[all_map,iM,BN,lZ,wD,show ((ps.length:Int)-1).toNat=ps.length-1 by lia];have z:((λx:D=>match x with|.int i=>cA (ps.getD (i.toNat-1) (0,0)) (ps.getD i.toNat (0,0))|_=>zw)∘λ(i:Nat)=>D.int (1+(i:Int)))=λi=>cA (ps.getD i (0,0)) (ps.getD (i+1) (0,0)):=by
    funext i;show cA (ps.getD ((1+(i:Int)).toNat-1) (0,0)) (ps.getD (1+(i:Int)).toNat (0,0))=_;rw[show (1+(i:Int)).toNat=i+1 by lia,Ks]
   rw[z,<-Az]
  .intro x m e ⟨w,je⟩;let#[i,mi,rfl]:=bU.mp m;have hi:i<((ps.length:Int)-1).toNat:=List.mem_range.mp mi;refine#[[xN (1+(i:Int)),some (.d (.tup zt))],by simp[je],#[_,rfl],?_];have a1:=GJ (ps:=ps) (i:=i) zb;have a2:=GJ (ps:=ps) (i:=i+1) zb;rw[show ((i+1:Nat):Int)=1+(i:Int) by lia]at a2;erw[JW,lu,VS,YU,Ky,fS,lP,bD,ak,eD,iM,BN,show 1+(i:Int)-1=(i:Int) by lia,a1,a2,kM,kD,dP,intsOf];rw[show (1+(i:Int)).toNat=i+1 by lia];rfl)
noncomputable def pD:D->Option (Int×Int)
 |.tup [.int a,.int b]=>some (a,b)
 |_=>zy
theorem GK (ps:List (Int×Int)):(ps.map dP).filterMap pD=ps:=by
 induction ps with
 |nil=>rfl
 |cons p ps ih=>rw[bh,ng,ih];rfl
def apart (n:Int) (d:D):Bool:=match d with
 |.tup l=>l.all (cg n)&&nR (l.filterMap pD)
 |_=>zw
def short (d:D):uu:=match d with
 |.tup l=>l.length<=sizeLine
 |_=>True
theorem FF (l:List D) (n:Int) (h':l.length<=sizeLine) (bx:List Bx):bJ (fg 0) fG (fj ig 2 zb7) zbd [zy,xN n] bx []=.val (l.map λx=>.bl (cg n x)) bx:=
 gR (λe=>∃ w,e=[w,xN n]) (λx=>.bl (cg n x)) #[zy,rfl] (λx _ e ⟨w,je⟩=>#[[some (.d x),xN n],by simp[je],#[_,rfl],by simp[M0]]) h'
theorem JZ (d:D) (n:Int) (bx:List Bx) (h:∀ l,d≠.tup l):gZ [.d d,.d (.int n)] bx=.val (.d (.bl (apart n d))) bx:=
 g9 (by
  cases d with
  |tup l=>exact absurd bz (h l)
  |_=>simp[jt,FC,apart])
theorem J0 {fp:List W->List Bx->O W}{n:Int}(c:bJ (fg 0) fG (fj fp 2 zb7) zbd [zy,xN n] bx []=.val (l.map λx=>.bl (cg n x)) bx) :
 dN zw bj (fc (fI zw [zy,some 1] zbX (fg 0) fG (fj fp 2 zb7)) ff) [some (.d zV),xN n] bx=.val (.d (.bl (l.all (cg n)))) bx:=by
 have i:ax (dV 0) [some (.d zV),xN n] bx=.val zbd bx:=rfl;rw[JX,oR,oT,i,fS,show cR [none,some 1] [some (W.d zV),some (W.d (.int n))]=[none,some (W.d (.int n))] from rfl,c,fS,iM,fS,Fv,fS,fS,Fw,CW,kM,bD,oS,all_map,iM,BN]
theorem Pm {k:DE W}{b:Bool}(h:m env bx=.val (.d (.bl b)) bx1):gI m k env bx=if b then k env bx1 else .val zcO bx1:=by
 rw[GD,h];cases b<;>rfl
theorem TU {t:DE Bool}{m k:ah}(h:t env bx=.val zw bx):fm (aC t m aF) k env bx=k env bx:=by
 rw[iN,MR,h];rfl
theorem TV {w:Option W}:aG (dB (f7 "tuple" (dV 0))) [some (.d zV),w] bx=.val zw bx:=by
 simp[FC]
theorem J1 (l:List D) (n:Int) (bx:List Bx) (h':l.length<=sizeLine):gZ [.d zV,.d (.int n)] bx=.val (.d (.bl (apart n zV))) bx:=by
 have e1:=J0 (FF l n h' bx);refine g9 ?_;show jt [some (.d zV),xN n] bx=OS.rt (.d (.bl (l.all (cg n)&&nR (l.filterMap pD)))) bx;unfold jt;rw[TU TV,Fx,Pm e1];cases q:l.all (cg n) with
 |false=>rfl
 |true=>
   let#[ps,e,_]:=Db q;subst e;have r:=JY ps (by rw[aS]at h';exact h') bx;rw[if_pos rfl,lH,oR,show dV 0 [some (W.d (.tup zt)),some (W.d (.int n))] bx=.val (.d (.tup zt)) bx from rfl,fS,Fv,fS,fS,if_pos (show [W.d (D.tup zt)].length=1 from rfl),r,lZ,GK,uS]
theorem M3 (d:D) (n:Int) (h:short d) (bx:List Bx):gZ [.d d,.d (.int n)] bx=.val (.d (.bl (apart n d))) bx:=by
 cases d with
 |tup l=>exact J1 l n bx (by simpa only[short] using h)
 |_=>exact JZ _ n bx (λl e=>by cases e)
noncomputable def lenOf:D->Int
 |.tup l=>l.length
 |_=>0
def house (d:D):Bool:=match d with
 |.tup [r,k,p,h]=>rooms r&&(kinds k&&(apart (lenOf k) p&&wi h 1 9))
 |_=>zw
def kS (d:D):uu:=match d with
 |.tup [_,_,p,_]=>short p
 |_=>True
theorem Bq {k:D}(h:kinds k=zO):∃ l,k=.tup l:=by
 cases k with
 |tup l=>exact#[l,rfl]
 |_=>simp[kinds]at h
theorem Dc (d:D) (ok:kS d) (bx:List Bx):li [.d d] bx=.val (.d (.bl (house d))) bx:=
 g9 (by
  cases d with
  |tup l=>
    cases t:tl zV 4 4 with
    |false=>
      have e:house zV=zw:=by
       unfold house;split
       .ext q;cases q;simp[tl]at t
       .rfl
      simp[jP,jG,t,e]
    |true=>
      let#[r,k,p,h,rfl]:=abU t;have e1:=jG (.tup [r,k,p,h]) 4 4 bx;have e2:=MX r bx;have e3:=MZ k bx;have e4:∀ n:Int,gZ [.d p,.d (.int n)] bx=.val (.d (.bl (apart n p))) bx:=λn=>M3 p n (by simpa only[kS] using ok) bx;have e5:=lI h 1 9 bx;rw[t]at e1;unfold jP;generalize gk=f1 at e1 ⊢;generalize jc=f2 at e2 ⊢;generalize jd=f3 at e3 ⊢;generalize gZ=f4 at e4 ⊢;generalize gh=f5 at e5 ⊢;simp[e1,e2,house];cases q1:rooms r with
      |false=>simp
      |true=>
        simp[e3];cases q2:kinds k with
        |false=>simp
        |true=>
          let#[l,rfl]:=Bq q2;simp[ay,e4,lenOf];cases q3:apart (l.length:Int) p<;>simp[e5]
  |_=>simp[jP,jG,tl,house])
theorem AA:∀ ns:List Int,intsOf zb6=some ns:=by
 intro l_;induction l_ with
 |nil=>exact rfl
 |cons n ns aq=>(rw[bh,intsOf,aq];rfl)
theorem GL:∀ ns:List Int,qm zb6=zO ↔ ns.Pairwise (λa b=>b<=a)
 |[]=>by simp[qm]
 |[x]=>by simp[qm]
 | x::y::l=>by
   have ih:=GL (y::l);erw[bh]at ih ⊢;erw[qm,ao,decide_eq_true_eq,ih];constructor
   .intro ⟨h,p⟩;refine List.pairwise_cons.mpr #[λz m=>?_,p];rcases aH.mp m with rfl|m
    .exact h
    .exact Int.le_trans ((List.pairwise_cons.mp p).1 z m) h
   .intro p;have q:=List.pairwise_cons.mp p;exact#[q.1 y (bK ..),q.2]
theorem J2 (ns:List Int):decide (ns=(sortI ns).reverse)=qm zb6:=by
 rw[sy,decide_eq_true_eq,GL];constructor
 .intro h;rw[h];exact List.pairwise_reverse.mpr (iC ns)
 .intro p;have e:ns.reverse=sortI ns:=j9 ((List.reverse_perm ns).trans (gU ns).symm) (List.pairwise_reverse.mpr p) (iC ns);rw[<-e,List.reverse_reverse]
theorem Dd {lo hi:Int}:∀ {l:List D},(l.all λx=>wi x lo hi)=zO->∃ ns:List Int,l=ns.map D.int:=by
 intro l_;induction l_ with
 |nil=>exact λ_=>#[[],rfl]
 |cons d l aq=>
   intro h;erw[eK,ao]at h;let#[i,rfl,_]:=iH h.1;let#[ns,rfl]:=aq h.2;exact#[i::ns,rfl]
def vS (n:Int):Int×Int->List D->Bool
 |_,[]=>zO
 |q,d::l=>cg n d&&(match pD d with|some p=>cA q p&&vS n p l|none=>zw)
theorem U4 (p q:Int×Int):HT.lexLe [p.1,p.2] [q.1,q.2]=!cA q p:=by
 erw[HT.lexLe,cA,HT.lexLt];by_cases h:p.1=q.1
 .rw[if_pos h,if_pos h.symm];by_cases h2:p.2=q.2
  .rw[if_pos h2,if_pos h2.symm];rfl
  .rw[if_neg h2,if_neg (Ne.symm h2)];by_cases h3:p.2<=q.2
   .simp[h3]
   .simp[h3];lia
 .rw[if_neg h,if_neg (Ne.symm h)];by_cases h3:p.1<=q.1
  .simp[h3]
  .simp[h3];lia
theorem M4 {n:Int}:∀ (l:List D) (q:Int×Int),vS n q l=(l.all (cg n)&&nR (q::l.filterMap pD)):=by
 intro l_;induction l_ with
 |nil=>exact λq=>rfl
 |cons d l aq=>
   intro q;rw[vS,eK];cases h:cg n d with
   |false=>rfl
   |true=>
     let#[p,rfl,_]:=mF h;rw[ng];show (zO&&(cA q p&&vS n p l))=_;rw[aq p];show _=(zO&&l.all (cg n)&&(cA q p&&nR (p::l.filterMap pD)));cases cA q p<;>cases l.all (cg n)<;>rfl
noncomputable def dH:D->Bool
 |.tup _=>zO
 |_=>zw
theorem M5 {n:Int}(h:l.all (cg n)=zO):nR ((-1,-1)::l.filterMap pD)=nR (l.filterMap pD):=by
 cases l with
 |nil=>rfl
 |cons d l=>
   erw[eK,ao]at h;let#[p,rfl,h1,h2,_]:=mF h.1;rw[ng];show (cA (-1,-1) p&&nR (p::l.filterMap pD))=nR (p::l.filterMap pD);have e:cA (-1,-1) p=zO:=by
    unfold cA HT.lexLt;rw[if_neg (by show ¬ (-1:Int)=p.1;lia)];exact decide_eq_true (by show (-1:Int)<p.1;lia)
   rw[e,uS]
theorem De {n:Int}(l:List D):vS n (-1,-1) l=apart n zV:=by
 rw[M4];show _=(l.all (cg n)&&nR (l.filterMap pD));cases h:l.all (cg n) with
 |false=>rfl
 |true=>rw[M5 h]
theorem J3 {r:D}(h:dH r=zw):rooms r=zw:=by cases r<;>first|rfl|simp[dH]at h
theorem J4 {r:D}(h:dH r=zw):kinds r=zw:=by cases r<;>first|rfl|simp[dH]at h
theorem M6 {n:Int}{r:D}(h:dH r=zw):apart n r=zw:=by cases r<;>first|rfl|simp[dH]at h
theorem TW (d:D):qf (nI d) "tuple"=dH d:=by cases d<;>rfl
theorem FG {r:D}(h:dH r=zO):∃ l,r=.tup l:=by
 cases r with
 |tup l=>exact#[l,rfl]
 |_=>simp[dH]at h
noncomputable def pt (bx:List Bx) (n:Nat) (p:Int):List Bx:=bx.set n (.lst [.int p])
theorem iP {p:Int}:(pt bx n p).length=bx.length:=nj ..
theorem TX {p:Int}(h:n<bx.length):(pt bx n p)[n]?=some (.lst [.int p]):=by simp[pt,h]
theorem RK {m:ah}{ws:List W}(h:m zad bx=.rt (.d d) bx') (l:bx'.length<=bx.length):aL n (aR m) ws bx=.val (.d d) bx':=by
 erw[aL,aR,DL.envOf,h,cP,cQ,YM l]
theorem GM (h:n<bx.length) (p k:Int) (hk:0<k) (vI:k<1073741824):fk [.b n,.d (.int k)] zaV=.val (.d (.int (p % k))) (pt bx n (p / k)):=by
 refine RK ?_ (by rw[iP,iP];exact au _);have g:=TX (p:=p) h;have c:wU p k:=#[hk,vI];simp[At,aQ,g,ak,bA,dE,kC,HN,hk,c,tH];rw[pt,pt,YV]
theorem oV {l:List α}{i:Int}(h0:0<=i) (h1:i<l.length):∃ d,bA l i=some d /\ d∈l:=by
 have h2:i.toNat<l.length:=by lia
 refine#[l[i.toNat],?_,uX h2];simp[bA,dE,h0,h1,h2]
def Dr (o:O W) (bx:List Bx) (n:Nat) (P:D->uu):uu:=∃ d p,o=.val (.d d) zaV /\ P d
theorem FH (p:Int) {k:Int}(h:0<k):0<=p % k:=Y5 _ zb
theorem FJ (p:Int) {k:Int}(h:0<k):p % k<k:=Y6 _ h
noncomputable def qo:List D:=[.non,.bl zO,.bl zw,.int (-1),.int zcu,.str "",.str "a",.str "1",.tup [],.lst [],.ai [],.lst [.tup []],.tup [.tup []],.tup [.int 0],.lst [.int 0],.ai [(.inl 0,.int 1)],.tup [.bl zO,.bl zO]]
theorem BT:∀ d∈qo,Sm zcu 2 3850 d:=by
 intro d m;have c:∀ x∈qo,(ib zcu x&&decide ((toPy x).depth<=2)&&decide (wt x<=3850))=zO:=by
  rw[<-cK];decide +kernel
 have:=c d m;erw[ao,decide_eq_true_eq]at this;exact#[this.1.1,this.1.2,this.2]
theorem BU (h:n<bx.length) (p:Int):Dr (fY [.b n] zaV) bx n (λd=>d∈qo):=by
 have h0:=FH p (k:=17) za;have h1:=FJ p (k:=17) za;let#[d,e,m]:=oV (l:=qo) h0 (by show _<(17:Int);exact h1);refine#[d,p / 17,RK ?_ (by rw[iP,iP];exact au _),m];have t:=GM h p 17 za za;have c:vg 10 30:=by decide
 have agv:(17:Nat)<=sizeLine:=by decide
 have s0:(1:Nat)<=sizeLine:=by decide
 have s2:(2:Nat)<=sizeLine:=by decide
 unfold Bp;generalize fk=ft at t ⊢;unfold qo at e;simp[pM,c,qO,ay,t,ak,agv,s0,s2]at e ⊢;simp[e]
theorem TY (l:List α) (i:Nat) (h:i<l.length):bA l (i:Int)=some l[i]:=by
 simp[bA,dE,h]
theorem GN:∀ l:List D,l.length<=k9 l:=by
 intro l_;induction l_ with
 |nil=>exact au _
 |cons d l aq=>(have:=aq;erw[bp,k9];lia)
theorem Pn {g:DG}(J:aE->uu) (P:D->uu):∀ (l:List W) (env:aE) (p:Int) (acc:List D),J env ->
 (∀ w∈l,∀ env p,J env->∃ aA,g w env zaV=some (aA,pt bx n p) /\ J aA /\ Dr (te aA zaV) bx n P)->acc.length+l.length<=sizeLine ->
 ∃ ds p',bJ g fG te l env zaV acc=.val (acc++ds) (pt bx n p') /\ ds.length=l.length /\ ∀ d∈ds,P d:=by
 intro l_;induction l_ with
 |nil=>exact λenv p acc _ _ _=>#[[],p,by simp[bJ],rfl,λd m=>by cases m]
 |cons w l aq=>
   intro env p acc j h z;let#[aA,e1,j',d,q,e2,hd]:=h w (bK ..) env p j;have z':acc.length<sizeLine:=by erw[bp]at z;lia
   let#[ds,p',e3,e4,e5]:=aq aA q (acc++[d]) j' (λx m=>h x (bL _ m)) (by erw[cJ,bp,kK]at z ⊢;lia);refine#[d::ds,p',?_,by simp[e4],λx m=>?_]
   .erw[bJ,e1,Pe,Fu,e2,if_pos z',e3];simp
   .rcases aH.mp m with rfl|m
    .exact hd
    .exact e5 x m
theorem Po {k:Nat}{m:DE zan}(e:m env bx=.val [.d (.int (k:Int))] bx) (hk:k<=1000000):cw m env bx=.val (gf 0 k) bx:=by
 rw[jA e zb,kN]
theorem GO {lo hi:Int}{B a:Nat}(h:wi d lo hi=zO) (h1:lo.natAbs<=B) (h2:hi.natAbs<=B):Sm B a 1921 d:=by
 let#[i,rfl,a1,a2]:=iH h;exact Sm.int zb
theorem M7 (h:nQ d=zO):Sm 999 1 7695 d:=by
 cases d with
 |tup l=>
   erw[nQ,ao]at h;have n:=jz h.1;have s:=av.of (B:=999) (a:=0) (b:=1921) (l:=l) λx m=>GO (cK.mp h.2.1 x m) za za;have e:l.length=4:=by lia
   rw[e]at s;exact Sm.tup s
 |_=>simp[nQ]at h
theorem Pp (h:kind d=zO):Sm 999 2 9623 d:=by
 cases d with
 |tup l=>
   erw[kind,ao]at h;let#[a,b,rfl]:=xp h.1;erw[ao]at h;have s1:=GO (B:=999) (a:=1) h.2.1 za za;have s2:=M7 h.2.2;exact Sm.tup (av.cons s1 (av.cons s2 av.nil))
 |_=>simp[kind]at h
theorem U5 {p:Int×Int}{k:Nat}(h:0<=p.1 /\ p.1<p.2 /\ p.2<(k:Int)) (hk:k<=4):Sm 999 1 3849 (dP p):=
 Sm.tup (av.cons (Sm.int zb) (av.cons (Sm.int zb) av.nil))
theorem M8 {l:List α}{a:α}(h:l[i]?=some a):l.set i a=l:=by
 let#[hi,e]:=List.getElem?_eq_some_iff.mp h;rw[<-e];exact List.set_getElem_self hi
theorem M9 {k:DE W}{bx2:List Bx}{l0:List D}(h1:m env bx=.val (.b i) bx1) (agw:bx1[i]?=some (.lst l0)) (h2:k env bx1=.val (.d d) bx2) (hb:bx2[i]?=some zQ) (hl:l.length<sizeLine):kU m k env bx=.val (.d .non) (bx2.set i (.lst (l++[d]))):=by
 unfold kU;rw[h1,fS];erw[agw,h2,fS,hb,if_pos hl]
section
variable {hd lim rt:D} {rs ks ps:List D} {fo so fi tw th:Option W} 
end
section
variable {hd lim rt:D} {rs ks ps:List D} {fo so fi tw th:Option W} 
end
theorem oa {m:ah}{ws:List W}(h:m zad bx=.rt (.d d) bx'):aL n (aR m) ws bx=.val (.d d) (bx'.take bx.length):=by
 erw[aL,aR,DL.envOf,h,cP,cQ]
theorem RL {k:Nat}(h:env[k]?=some (xB i)) (hb:bx[i]?=some zQ):kX k env bx=.val (.d zQ) (bx.set i .dead):=by
 unfold kX;erw[h,hb]
theorem TZ (l:List Int) (k:Nat) (bx:List Bx):∃ c:Int,iD [.s l,.d (.int (k:Int))] bx=.val (.d (.int c)) bx:=by
 by_cases h:k<l.length
 .have a:bA l (k:Int)=some l[k]:=TY l k h;refine#[l[k],g9 ?_];have h':(k:Int)<(l.length:Int):=by lia
  simp[jx,qN,kD,h',Ea,a]
 .refine#[0,g9 ?_];have h':¬ (k:Int)<(l.length:Int):=by lia
  simp[jx,qN,kD,h']
abbrev WT:ah:=zA
theorem Na {i j:Int}(h1:-(2 ^ 64)<i) (h2:i<2 ^ 64):bX zaS (.int j)=some (.old (.int (i*j))):=if_pos (.inl #[h1,h2])
theorem RM {i j:Int}(h1:-(2 ^ 64)<j) (h2:j<2 ^ 64):bX zaS (.int j)=some (.old (.int (i*j))):=if_pos (.inr #[h1,h2])
theorem Nb {i j:Int}(h1:0<j):kC zaS (.int j)=some (.old (.int (i % j))):=if_pos h1
theorem Nc {i j:Int}(h1:vg i j):pM zaS (.int j)=some (.old (.int (i ^ j.toNat))):=if_pos h1
theorem J5 (c x j:Int) (w:Option W) (bx:List Bx):∃ x' y,WT [xN c,xN x,xN j,w] bx=.nx [xN c,xN x',xN j,xN y] bx:=by
 let a:=(c % 2147483629+7919*j+1)*48271 % 2147483647
 let b:=(a*a+69621*j+7) % 2147483587
 have a0:0<=a:=FH _ za;have a1:a<2147483647:=FJ _ za;have e1:fK (d2 zw kC (d2 zw bX (d2 zw fR (d2 zw fR (d2 zw kC (dV 0) (dC (.int 2147483629))) (d2 zw bX (dC (.int 7919)) (dV 2))) zc) (dC (.int 48271))) (dC (.int 2147483647))) (fg 3) [xN c,xN x,xN j,w] bx=.nx [xN c,xN x,xN j,xN a] bx:=
  gN (fL (r:=.old _) (fL (r:=.old _) (fL (r:=.old _) (fL (r:=.old _) (fL (r:=.old _) bz bz (Nb za)) (fL (r:=.old _) bz bz (Na za za)) bz) bz bz) bz (RM za za)) bz (Nb za))
 have e2:fK (d2 zw kC (d2 zw fR (d2 zw fR (d2 zw bX (dV 3) (dV 3)) (d2 zw bX (dC (.int 69621)) (dV 2))) (dC (.int 7))) (dC (.int 2147483587))) (fg 3) [xN c,xN x,xN j,xN a] bx=.nx [xN c,xN x,xN j,xN b] bx:=
  gN (fL (r:=.old _) (fL (r:=.old _) (fL (r:=.old _) (fL (r:=.old _) bz bz (Na zb zb)) (fL (r:=.old _) bz bz (Na za za)) bz) bz bz) bz (Nb za))
 have e3:fK (d2 zw fR (d2 zw bX (dV 1) (dC (.int 2147483587))) (dV 3)) (fg 1) [xN c,xN x,xN j,xN b] bx=.nx [xN c,xN (x*2147483587+b),xN j,xN b] bx:=
  gN (fL (r:=.old _) (fL (r:=.old _) bz bz (RM za za)) bz bz)
 exact#[_,_,by unfold WT;rw[fq e1,fq e2,e3]]
theorem Nd {m:ah}{ws:List W}(h:m zad bx=.rt (.b i) bx'):aL n (aR m) ws bx=.val (.b i) bx':=by
 erw[aL,aR,DL.envOf,h,cP,cQ]
theorem U6 (c:Int) (bx:List Bx):∃ p:Int,jQ [.d (.int c)] bx=.val zca (bx++[.lst [.int p]]):=by
 have sz:=bH;have abV:∀ e b,d2 zw pM zco (dC (.int 18)) e b=.val (.d (.int (10 ^ 18))) b:=λe b=>fL (r:=.old _) bz bz (Nc za);have t:dB (d2 zw pf (dV 0) (d2 zw pM zco (dC (.int 18)))) [xN c,zy,zy,zy] bx=.val (decide (10 ^ 18<=c)) bx:=fZ (fL (r:=.old _) bz (abV _ _) bz);by_cases h:10 ^ 18<=c
 .rw[decide_eq_true h]at t;refine#[c-10 ^ 18,Nd ?_];show jF [xN c,zy,zy,zy] bx=_;unfold jF;refine(gY ((iy t).trans (gx (m8 [.int (c-10 ^ 18)] (fe (fL (r:=.old _) bz (abV _ _) bz) bz) (show (1:Nat)<=sizeLine by lia))))).trans bz
 .rw[decide_eq_false h]at t;have rg:=Po (env:=[xN c,xN 0,zy,zy]) (bx:=bx) (k:=64) (m:=fc (dC (.int 64)) ff) bz za;let#[aA,bx',e,x,w2,w3,rfl,rfl]:=oU (g:=fg 2) (body:=WT) (λ_ env b=>∃ (x:Int) (w2 w3:Option W),env=[xN c,xN x,w2,w3] /\ b=bx) (gf 0 64) 0 [xN c,xN 0,zy,zy] bx #[0,zy,zy,rfl,rfl] (by
   rintro i w env b hw ⟨x,w2,w3,rfl,rfl⟩;let#[j,_,rfl]:=bU.mp (yc hw);let#[x',y,e]:=J5 c x (0+(j:Int)) w3 b;exact#[_,_,_,_,rfl,e,x',_,_,rfl,rfl])
  refine#[x,Nd ?_];show jF [xN c,zy,zy,zy] bx'=_;unfold jF;refine(fq (iF t)).trans ?_;refine(fq (gN bz)).trans ?_;refine(fq ((lv rg).trans e)).trans ?_;exact gx (m8 [.int x] bz (show (1:Nat)<=sizeLine by lia))
def WU (x:D):uu:=∃ B a b,Sm B a b x /\ B<=10 ^ 31 /\ a<=60 /\ b<=10000000
theorem WU.ok {x:D}(h:WU x):kS x:=by
 let#[B,a,b,s,h1,h2,h3]:=h;have sz:=bH;unfold kS;split
 .ext p q r t;let#[_,sl,_]:=s.WR;have s3:=sl.mem (d:=r) zf;unfold short;split
  .ext l;let#[_,s4,_]:=s3.WR;have:=GN l;have:=s4.w;lia
  .trivial
 .trivial
theorem Pq (x:Str):bc (.str x) (.str x)=some (.old zag):=by simp[bc]
end K1
namespace K2
open L2 L2.DL K1
theorem mG {h:D}(hh:house h=zO) (ok:kS h) (bx:List Bx):iQ [.d h] bx=.val (.d .non) bx:=by
 have e:=Dc h ok bx;rw[hh]at e;have m:g6 [some (.d h)] bx=.nx [some (.d h)] bx:=by
  unfold g6;exact iF (fU (fZ (fF zo bz e)))
 show cQ bx.length (cP (g6 [some (.d h)] bx))=_;rw[m];simp[cP,cQ]
section
variable {hs:List D} {c hold hour:Int} {x1 x2:Option W} 
end
structure WV (d:D) (rs:List Int) (hold:Int):uu where
 e:∃ k p,d=.tup [.tup (rs.map D.int),k,p,.int hold]
 r:∀ c∈rs,0<=c /\ c<=3
 n:1<=rs.length /\ rs.length<=5
 h:1<=hold /\ hold<=9
theorem J6 (h:house d=zO):∃ rs hold,WV d rs hold:=by
 unfold house at h;split at h
 .ext r k p hd;erw[ao]at h;let#[h1,h2,h3,h4]:=h;cases r with
  |tup l=>
    erw[rooms,ao]at h1;have n:=jz h1.1;let#[rs,rfl]:=Dd h1.2;let#[i,rfl,i1,i2]:=iH h4;rw[aS]at n;refine#[rs,i,#[k,p,rfl],λc m=>?_,by lia,i1,i2];have:=cK.mp h1.2 (.int c) (List.mem_map_of_mem m);simpa[wi] using this
  |_=>simp[rooms]at h1
 .simp at h
section
variable {rs:List Int} {hold hour:Int} 
end
end K2
namespace L2.DL
section
variable {env1:aE} {bx2:List Bx} {l:List W} {c:Nat}
theorem oW (h:ks env bx=.val l bx1) (hn:l.length=n) (hf:fn l bx1=.exc c bx2):fj fn n ks env bx=.exc c bx2:=by rw[lH,h,fS,if_pos hn,hf]
theorem BV (h:m env bx=.exc c bx1):gy m env bx=.exc c bx1:=by rw[GE,h];rfl
theorem GP {a b:ah}(h:a env bx=.exc c bx1):fm a b env bx=.exc c bx1:=by rw[iN,h]
theorem Nf {t:DE Bool}{k:DE W}{w:W}(h:t env bx=.val zO bx1) (h2:m env bx1=.val w bx2):kq t m k env bx=.val w bx2:=by unfold kq;rw[h,fS];exact h2
theorem RN {t:DE Bool}{k:DE W}{w:W}(h:t env bx=.val zw bx1) (h2:k env bx1=.val w bx2):kq t m k env bx=.val w bx2:=by unfold kq;rw[h,fS];exact h2
end
end L2.DL
namespace K2
open L2 L2.DL K1
section
variable {h:D} {rs:List Int} {hold:Int} 
theorem Ps (H:WV h rs hold) {f:List W->List Bx->O W}(hf:∀ d lo hi bx,f zG bx=.val zaB bx) (r:D) (e1:dV i env bx=.val (.d h) bx) (e2:dV j env bx=.val (.d r) bx) :
 fj f 3 (fc (dV j) (fc zd (fc (d2 zw eD (dN zw ay (fc (d2 zw ak (dV i) zd) ff)) zc) ff))) env bx=.val (.d (.bl (wi r 0 ((rs.length:Int)-1)))) bx:=by
 let#[#[k,p,rfl],_]:=H;have e0:ak (.tup [.tup (rs.map D.int),k,p,.int hold]) zm=some (.old (.tup (rs.map D.int))):=by simp[ak,bA,dE]
 have el:ay [.tup (rs.map D.int)]=some (.old (.int rs.length)):=by simp[ay]
 exact fF (fe e2 (fe bz (fe (fL (r:=.old _) (gH [.tup (rs.map D.int)] (fe (fL e1 bz e0) bz) el) bz bz) bz))) bz (hf _ _ _ _)
theorem J7 (H:WV h rs hold) (r:D):gX [.d h,.d r] bx=.val (.d (.bl (wi r 0 ((rs.length:Int)-1)))) bx:=
 g9 (gx (Ps H lI r bz bz))
end
end K2
namespace K1
open L2 L2.DL
section
variable {p:Int} {x y:Bx} {E:List Bx}
theorem og (h:n<bx.length):pt bx n p++E=pt (bx++E) n p:=by
 unfold pt;rw[YW _ _ h]
theorem BW (h:n<bx.length):(pt (bx++[x]) n p)[bx.length]?=some x:=by
 rw[<-og h,<-iP (bx:=bx) (n:=n) (p:=p)];exact YX
theorem BX (h:n<bx.length):(pt (bx++[x]) n p).set bx.length y=pt (bx++[y]) n p:=by
 rw[<-og h,<-og h,<-iP (bx:=bx) (n:=n) (p:=p),Kz _ _ (au _),pX];rfl
theorem Df (h:n<bx.length):(pt (bx++E) n p).take bx.length=pt bx n p:=by
 rw[<-og h,<-iP (bx:=bx) (n:=n) (p:=p),YY]
end
theorem Pt (h:n<bx.length) (p k:Int) (hk:0<k) (vI:k<1073741824):∃ r q,fk [.b n,.d (.int k)] zaV=.val (.d (.int r)) (pt bx n q) /\ 0<=r /\ r<k:=
 #[_,_,GM h p k hk vI,FH p hk,FJ p hk]
end K1
namespace K2
open L2 L2.DL K1
end K2
namespace aM
open L2 L2.DL K1
theorem FK (h:n<bx.length) {p p1:Int}(he:env[i]?=some (xB n)) {k:Int}(hm:m env zaV=.val (.d (.int k)) (pt bx n p1)) (h0:0<k) (h1:k<1073741824) :
 ∃ r q,fj K1.fk 2 (fc (dV i) (fc m ff)) env zaV=.val (.d (.int r)) (pt bx n q) /\ 0<=r /\ r<k:=by
 let#[r,q,t,a,b]:=Pt h p1 k h0 h1;refine#[r,q,?_,a,b];have e0:dV i env zaV=.val (.b n) zaV:=by unfold dV;rw[he]
 exact fF (fe e0 (fe hm bz)) bz t
theorem abW (h:n<bx.length) (p:Int) (he:env[i]?=some (xB n)) (k:Int) (h0:0<k) (h1:k<1073741824) :
 ∃ r q,fj K1.fk 2 (fc (dV i) (fc (dC (.int k)) ff)) env zaV=.val (.d (.int r)) (pt bx n q) /\ 0<=r /\ r<k:=
 FK h he (m:=dC (.int k)) bz h0 h1
theorem T0 (h:n<bx.length) (p:Int) (he:env[i]?=some (xB n)) (l:List Int) (hk:∀ e b,ks e b=.val ((l.map D.int).map W.d) b) {k:Int}(hl:(l.length:Int)=k) (h0:0<k) (h1:k<1000) :
 ∃ v q,d2 zw ak (fO zw ks) (fj K1.fk 2 (fc (dV i) (fc (dC (.int k)) ff))) env zaV=.val (.d (.int v)) (pt bx n q) /\ v∈l:=by
 let#[r,q,t,a,b]:=abW h p he k h0 zb;let#[d,e,m]:=oV (l:=l.map D.int) a (by rw[aS,hl];exact b);let#[v,mv,rfl]:=bU.mp m;have sz:=bH;exact#[v,q,fL (r:=.old (.int v)) (jy (l.map D.int) (hk _ _) (by rw[aS];lia)) t (by erw[ak,e,kM]),mv]
theorem T3 (h:m env bx=.val (.b j) bx1) (g:bx1[j]?=some zQ):dN zw ay (fc m ff) env bx=.val (.d (.int l.length)) bx1:=by
 rw[JX,fe (w:=.b j) (l:=[]) h rfl,fS];have:eP bx1 [.b j]=some [.lst l]:=by erw[eP,aQ,g,bD,kM]
 rw[this];rfl
theorem Ng (h:m env bx=.val (.b j) bx1) (g:bx1[j]?=some zQ):dN zw ph (fc m ff) env bx=.val (.d zV) bx1:=by
 rw[JX,fe (w:=.b j) (l:=[]) h rfl,fS];have:eP bx1 [.b j]=some [.lst l]:=by erw[eP,aQ,g,bD,kM]
 rw[this];rfl
theorem Dg {p:Int}(h:j≠n):(pt bx n p)[j]?=bx[j]?:=by unfold pt;rw[qv (Ne.symm h)]
abbrev agx:ah:=fm zaC zaD
abbrev agy:ah:=aC (dB (d2 zw ck (fj K1.fk 2 (fc (dV 0) zK)) zd)) (gy (kU (dV 5) (fV (fc (dV 6) (fc (dV 7) ff))))) aF
theorem Dh {a b:Int}:ck (.int a) (.int b)=some (.old (.bl (decide (a=b)))):=by simp[ck]
theorem AB {lo:Int}{m:Nat}{w:W}(h:(gf lo m)[j]?=some w):w=.d (.int (lo+j)) /\ j<m:=by
 have hj:=(List.getElem?_eq_some_iff.mp h).1;have hm:j<m:=by simpa[gf] using hj
 simp[gf,hm]at h;exact#[h.symm,hm]
abbrev agz:ah:=iB (cw (fc zbU ff)) (fg 6) (iB (ur (fc (d2 zw fR (dV 6) zc) (fc zbU ff))) (fg 7) agy)
structure kI (d:D) (n:Nat):uu where
 h:house d=zO
 sm:Sm 999 4 111672 d
 ok:kS d
 rs:∃ rs k a b,d=.tup [.tup rs,k,a,b] /\ rs.length=n
 n0:1<=n
 n5:n<=5
section
variable {bx2:List Bx}
theorem RP {k:DE W}{i:Int}(h:m env bx=.val (.b j) bx1) (hk:k env bx1=.val (.d zaS) bx2) (g:bx2[j]?=some zQ) (ha:bA l i=some d):d2 zw ak m k env bx=.val (.d d) bx2:=by
 rw[JW,h,fS,hk,fS];have r1:aQ bx2 (.b j)=some zQ:=by erw[aQ,g]
 rw[r1,lP,bD,bD];show b0 zw (Option.map Res.old (bA l i)) _=_;rw[ha];rfl
theorem U7 {mo mi:DE W}{k:Int}{w:D}(h1:mo env bx=.val (.b n) bx1) (h2:mi env bx1=.val (.d (.int k)) bx2) (h3:bx2[n]?=some zQ) (h4:dE l.length k=some j):tH mo mi (.d w) env bx=some (env,bx2.set n (.lst (l.set j w))):=by
 unfold tH;erw[h1,h2,h3,h4,kM]
theorem U8 {g:DG}{w:W}{aA:aE}(h:m env bx=.val w bx1) (hg:g w env bx1=some (aA,bx')):fK m g env bx=.nx aA bx':=by
 rw[Au,h,lZ,hg]
theorem GQ {x y:W}{a b:DE W}(h1:a env bx=.val x bx1) (h2:b env bx1=.val y bx2):nG i j (fc a (fc b ff)) env bx=.nx ((env.set i (some x)).set j (some y)) bx2:=by
 unfold nG;rw[fe h1 (fe h2 rfl),lZ]
end
theorem AC {m:Nat}(h:0<m):dE m (-1)=some (m-1):=by
 unfold dE;simp;lia
def Mv (k:Int) (ps:List (Int×Int)):uu:=∀ q∈ps,0<=q.1 /\ q.1<k /\ 0<=q.2 /\ q.2<k /\ q.1≠q.2
abbrev agA:ah:=aC (dB (d2 zw ck (fj K1.fk 2 (fc (dV 0) (fc (dC (.int 5)) ff))) zd)) zb8 aF
abbrev agB:ah:=fm (fK (fj K1.fk 2 (fc (dV 0) zu)) (fg 5)) (fm zb3 (fm (gy (kU (dV 3) (fV (fc (dV 5) (fc (dV 6) ff))))) agA))
end aM
namespace K2
open L2 L2.DL K1
end K2
namespace aM
open L2 L2.DL K1
section
variable {bx2:List Bx}
end
theorem AD (l:List D) (x y:Option Int):(cutD l x y).length<=l.length:=by
 unfold DL.cutD;rw[wx,E2];lia
open K2
section
variable {h:D} {k:Nat}
theorem GR (H:kI h k) (r:D):gX [.d h,.d r] bx=.val (.d (.bl (wi r 0 ((k:Int)-1)))) bx:=by
 let#[rs,hold,HI]:=J6 H.h;have e:=J7 (bx:=bx) HI r;let#[aiU,kk,a,b,e1,e2]:=H.rs;let#[k',p',e3]:=HI.e;rw[e1]at e3;have:rs.length=k:=by
  have:=congrArg (λd=>match d with|D.tup (.tup l::_)=>l.length|_=>0) e3;simp at this;lia
 rw[this]at e;exact e
end
theorem Di (is:List Int) (b:Int):k6 (.int b) (is.map D.int)=is.any λz=>decide (z=b):=by
 unfold k6;rw[Kw];rfl
theorem Br (is:List Int):(is.map D.int).all kZ=zO:=by rw[wD];exact cK.mpr λ_ _=>rfl
theorem Pu {lo hi:Int}(h:l.all (λx=>wi x lo hi)=zO):∃ is:List Int,l=is.map D.int /\ ∀ i∈is,lo<=i /\ i<=hi:=by
 induction l with
 |nil=>exact#[[],rfl,λi m=>nomatch m]
 |cons x l ih=>
   rw[eK,ao]at h;let#[i,rfl,a,b]:=iH h.1;let#[is,rfl,hi]:=ih h.2;exact#[i::is,rfl,λj m=>by
    rcases aH.mp m with rfl|m
    .exact#[a,b]
    .exact hi j m]
end aM
namespace aJ
open L2 L2.DL K1 aM
section
variable {enc:α -> D} {r:aE}
theorem abX (p:α->Bool) (f:α->D):∀ (l:List α) (w:Option W) (acc:List D),acc.length+l.length<=sizeLine->(∀ a∈l,tf zcj bx=.val (p a) bx /\ (p a=zO->te zcj bx=.val (.d (f a)) bx)) ->
 bJ (fg 0) tf te ((l.map enc).map W.d) (w::r) bx acc=.val (acc++(l.filter p).map f) bx:=by
 intro l_;induction l_ with
 |nil=>(intro w acc _ _;simp[bJ])
 |cons a l aq=>
   intro w acc n h;let#[h1,h2]:=h a (bK ..);rw[bp]at n;have n':acc.length<sizeLine:=by lia
   have e0:fg 0 (W.d (enc a)) (w::r) bx=some (some (W.d (enc a))::r,bx):=rfl;cases c:p a with
   |false=>
     rw[KA (by simp[c]),<-aq (some (W.d (enc a))) acc zb λx m=>h x (bL _ m)];rw[c]at h1;erw[bh,bJ,e0,h1,Fu]
   |true=>
     rw[KC c];have ih:=aq (some (W.d (enc a))) (acc++[f a]) zS λx m=>h x (bL _ m);rw[c]at h1;erw[bh,bJ,e0,h1,h2 c,Fu,if_pos n',ih];simp
theorem xq {src:List zaw}{bx0:List Bx}{l:List α}(p:α->Bool) (f:α->D) (h1:mi env bx0=.val ((l.map enc).map W.d) bx) (he:cR src env=zy::r) (n:l.length<=sizeLine)
 (h:∀ a∈l,tf zcj bx=.val (p a) bx /\ (p a=zO->te zcj bx=.val (.d (f a)) bx)):fI zw src mi (fg 0) tf te env bx0=.val (.d (.lst ((l.filter p).map f))) bx:=
 gC h1 he (by rw[abX p f l none [] (by simpa using n) h];rfl)
theorem WW {src:List zaw}{bx0:List Bx}{l:List α}(f:α->D) (h1:mi env bx0=.val ((l.map enc).map W.d) bx) (he:cR src env=zy::r) (n:l.length<=sizeLine)
 (h:∀ a∈l,te zcj bx=.val (.d (f a)) bx):fI zw src mi (fg 0) fG te env bx0=.val (.d (.lst (l.map f))) bx:=by
 have:=xq (tf:=fG) (λ_=>zO) f h1 he n λa m=>#[rfl,λ_=>h a m]
 rwa [List.filter_eq_self.mpr λ_ _=>rfl]at this
theorem Bs (l:List α) (p:α->Bool):qg (l.map λd=>D.bl (p d))=some (l.map p):=by
 induction l with
 |nil=>rfl
 |cons d l ih=>simp[qg,ih]
theorem abY {src:List zaw}{bx0:List Bx}{l:List α}(p:α->Bool) (h1:mi env bx0=.val ((l.map enc).map W.d) bx) (he:cR src env=zy::r) (n:l.length<=sizeLine)
 (h:∀ a∈l,te zcj bx=.val (.d (.bl (p a))) bx):dN zw bj (fc (fI zw src mi (fg 0) fG te) ff) env bx0=.val (.d (.bl (l.all p))) bx:=
 gH (r:=.old (.bl (l.all p))) [.lst (l.map λa=>.bl (p a))] (fe (WW _ h1 he n h) bz) (by simp[bj,Bs,wD])
theorem agC {src:List zaw}{bx0:List Bx}{l:List α}(p:α->Bool) (h1:mi env bx0=.val ((l.map enc).map W.d) bx) (he:cR src env=zy::r) (n:l.length<=sizeLine)
 (h:∀ a∈l,te zcj bx=.val (.d (.bl (p a))) bx):dN zw xh (fc (fI zw src mi (fg 0) fG te) ff) env bx0=.val (.d (.bl (l.any p))) bx:=
 gH (r:=.old (.bl (l.any p))) [.lst (l.map λa=>.bl (p a))] (fe (WW _ h1 he n h) bz) (by simp[xh,Bs,Kw])
end
noncomputable abbrev tupI (l:List Int):D:=.tup (l.map D.int)
abbrev xU (l:List Int):Option W:=some (.d (tupI l))
theorem Nh:∀ l:List Int,PyData.canLayAll0 (a6 (l.map D.int))=zO /\ PyData.depthAll (a6 (l.map D.int))=0:=by
 intro l_;induction l_ with
 |nil=>exact#[rfl,rfl]
 |cons i l aq=>
   let#[a,b]:=aq;simp[a6,toPy,PyData.canLayAll0,PyData.canLay0,PyData.depthAll,PyData.depth,a,b]
theorem GS (neg:Bool) (is:List Int) (b:Int):inD neg (.int b) (.tup (is.map D.int))=some (.old (.bl (if neg then !decide (b∈is) else decide (b∈is)))):=by
 show (if kZ (.int b)=zO /\ (is.map D.int).all kZ=zO then some (Res.old (.bl (if neg then !k6 (.int b) (is.map D.int) else k6 (.int b) (is.map D.int)))) else xg neg _ _ _)=_;rw[if_pos #[rfl,Br is],Di];have:(is.any λz=>decide (z=b))=decide (b∈is):=by
  rw[sy];simp
 rw[this]
noncomputable def subs:Nat->List (List Int)
 |0=>[[]]
 |k+1=>subs k++(subs k).map λs=>s++[(k:Int)]
theorem Dj:∀ k,(subs k).length=2 ^ k
 |0=>rfl
 |k+1=>by simp[subs,Dj k,Yt];lia
theorem AE {k:Nat}(h:k<=5):(subs k).length<=32:=by
 rw[Dj];exact br (Kr za h) za
theorem Dk:∀ k,((List.range k).map λ(i:Nat)=>(i:Int))∈subs k
 |0=>by simp[subs]
 | k+1=>by
   rw[List.range_succ,pG,subs];exact cZ.mpr (.inr (bU.mpr #[_,Dk k,rfl]))
theorem BY {k:Nat}(h:k<=5) {s:List Int}(m:s∈subs k):s.length<=k:=by
 clear h;induction k generalizing s with
 |zero=>simp[subs]at m;simp[m]
 |succ k ih=>
   rw[subs]at m;rcases cZ.mp m with m|m
   .have:=ih m;lia
   .let#[t,mt,rfl]:=bU.mp m;have:=ih mt;simp;lia
abbrev abZ (i j:Nat):DE W:=d2 zw fR (dV i) (fI zw [zy,some j] (ax (dV i)) (fg 0) fG (d2 zw fR (dV 0) (fV zr)))
theorem Pv {k:Nat}(hk:k<5) (h1:env[i]?=some (some (.d (.lst ((subs k).map tupI))))) (h2:env[j]?=some (xN (k:Nat))):abZ i j env bx=.val (.d (.lst ((subs (k+1)).map tupI))) bx:=by
 have sz:=bH;have sl:=AE (k:=k) zb;have v1:dV i env bx=.val (.d (.lst ((subs k).map tupI))) bx:=by rw[lu,h1]
 have c:fI zw [zy,some j] (ax (dV i)) (fg 0) fG (d2 zw fR (dV 0) (fV zr)) env bx=.val (.d (.lst ((subs k).map λs=>tupI (s++[(k:Int)])))) bx:=
  WW (enc:=tupI) (r:=[xN (k:Nat)]) _ (gM v1) (by simp[cR,h2]) zb λs ms=>by
   have:=BY zb ms;exact fL (r:=.tup ((s++[(k:Int)]).map D.int)) (x:=tupI s) (y:=.tup [.int (k:Nat)]) bz (iq [.int (k:Nat)] bz (show (1:Nat)<=sizeLine by lia)) (by rw[pG];exact if_pos zS)
 refine fL (r:=.lst ((subs (k+1)).map tupI)) v1 c ?_;rw[subs,pG,yi];exact if_pos zS
end aJ
namespace K2
open L2 L2.DL K1
section
variable {h:D} {rs:List Int} {hold:Int} {x0 x1 x2 x4 x5 x6 x7 x8 x9 x10 x11 x12 x13 x14:Option W}
end
section
variable {h:D} {rs:List Int} {hold:Int} {x0 x1 x4 x5 x6 x7 x8 x12 x13 x14:Option W}
end
end K2
namespace K1
open L2 L2.DL
end K1
namespace K2
open L2 L2.DL K1
end K2
namespace aJ
open L2 L2.DL K1 aM
theorem Pw:fO zw (fc (fV ff) ff) env bx=.val (.d (.lst ((subs 0).map tupI))) bx:=by
 have sz:=bH;exact jy [.tup []] (fe (iq [] bz (nT _)) bz) (show (1:Nat)<=sizeLine by lia)
theorem Px {k:Nat}{w:W}(h:(gf 0 k)[i]?=some w):w=.d (.int (i:Nat)) /\ i<k:=by
 let#[a,b]:=AB h;rw[KI]at a;exact#[a,b]
noncomputable def tR (rs:List (List Int)) (s:List Int):Bool:=rs.all λr=>s.any λx=>decide (x∈r)
theorem ab0 {h:D}{k:Nat}(H:kI h k) (he:env[0]?=some (some (.d h))):dN zw ay (fc zaA ff) env bx=.val (.d (.int (k:Nat))) bx:=by
 let#[rs,kk,aa,bb,eH,agD]:=H.rs;have e0:ak h zm=some (.old (.tup rs)):=by rw[eH];simp[ak,bA,dE]
 exact gH (r:=.old (.int (k:Nat))) [.tup rs] (fe (fL (m:=dV 0) (by rw[lu,he]) bz e0) bz) (by simp[ay,agD])
def Good (k:Nat) (rs:List (List Int)):uu:=∀ r∈rs,r≠[] /\ ∀ i∈r,0<=i /\ i<(k:Int)
theorem J8 {k:Nat}(G:Good k rs):tR rs ((List.range k).map λ(i:Nat)=>(i:Int))=zO:=by
 unfold tR;rw[cK];intro r mr;let#[ne,hi]:=G r mr;rw[sH];cases r with
 |nil=>exact absurd bz ne
 |cons i r=>
   have:=hi i (bK ..);exact#[i,bU.mpr #[i.toNat,List.mem_range.mpr zb,by lia],by simp]
def ab1 (k:Nat) (rs:List (List Int)) (m:List Int):uu:=m∈subs k /\ tR rs m=zO /\ ∀ s∈subs k,tR rs s=zO->m.length<=s.length
theorem Py (s r:List Int) (hs:s.length<=100):mD [.d (tupI s),.d (tupI r)] bx=.val (.d (.bl (s.any λx=>decide (x∈r)))) bx:=by
 have sz:=bH;refine g9 ?_;show BL [xU s,xU r] bx=_;unfold BL;exact gx (agC (enc:=D.int) (r:=[xU r]) _ (io bz) bz zb λx _=>fL (r:=.old (.bl (decide (x∈r)))) bz bz (GS zw r x))
noncomputable def uH:List Int->List (List Int)->List Int
 |b,[]=>b
 |b,x::l=>uH (if x.length<b.length then x else b) l
theorem FL (s:List Int):qk (tupI s)=some s.length:=by simp[qk]
theorem Pz:∀ (l:List (List Int)) (b:List Int),uC (λd=>(qk d).getD 0) (tupI b) (l.map tupI)=tupI (uH b l):=by
 intro l_;induction l_ with
 |nil=>exact λb=>rfl
 |cons x l aq=>
   intro b;rw[bh,uC,FL,FL];show uC _ (if x.length<b.length then tupI x else tupI b) _=_;rw[<-apply_ite tupI,aq];rfl
theorem Dl:∀ (l:List (List Int)) (b:List Int),uH b l∈b::l:=by
 intro l_;induction l_ with
 |nil=>exact λb=>bK ..
 |cons x l aq=>
   intro b;have:=aq (if x.length<b.length then x else b);rw[uH];rcases aH.mp this with e|m
   .rw[e];split<;>simp
   .exact bL _ (bL _ m)
theorem PB:∀ (l:List (List Int)) (b:List Int),∀ s∈b::l,(uH b l).length<=s.length:=by
 intro l_;induction l_ with
 |nil=>(intro b s m;rw[bu.mp m];exact au _)
 |cons x l aq=>
   intro b s m;have ih:=aq (if x.length<b.length then x else b);have i0:=ih _ (bK ..);rw[uH];rcases aH.mp m with rfl|m
   .refine br i0 ?_;split<;>lia
   .rcases aH.mp m with rfl|m
    .refine br i0 ?_;split<;>lia
    .exact ih s (bL _ m)
theorem Dm {h:D}{k:Nat}(H:kI h k) (hr:rs.length<=100) (G:Good k rs):∃ m,ab1 k rs m /\ gj [.d h,.d za0] bx=.val (.d (tupI m)) bx:=by
 have sz:=bH;have n5:=H.n5;have sl:=AE n5;have ne:(subs k).filter (tR rs)≠[]:=by
  intro z;rw[List.filter_eq_nil_iff]at z;exact z _ (Dk k) (J8 G)
 let#[x,l,ab2]:=sF ne;have mm:∀ s,s∈x::l ↔ s∈subs k /\ tR rs s=zO:=λs=>by rw[<-ab2,kh]
 refine#[uH x l,#[((mm _).mp (Dl l x)).1,((mm _).mp (Dl l x)).2,λs ms hs=>PB l x s ((mm s).mpr #[ms,hs])],g9 ?_];show iL [some (.d h),some (.d za0),zy,zy,zy] bx=_;unfold iL;let#[aA,bx',e,hb,w,he]:=oU (g:=fg 3) (body:=fK (abZ 2 3) (fg 2)) (λi env b=>b=bx /\ ∃ w,env=[some (.d h),some (.d za0),some (.d (.lst ((subs i).map tupI))),w,zy]) (gf 0 k) 0 [some (.d h),some (.d za0),some (.d (.lst ((subs 0).map tupI))),zy,zy] bx #[rfl,zy,rfl] (by
  rintro i w env b hw ⟨rfl,w0,rfl⟩;let#[rfl,hi]:=Px hw;rw[Ko];exact#[[some (.d h),some (.d za0),some (.d (.lst ((subs i).map tupI))),xN (i:Nat),zy],b,[some (.d h),some (.d za0),some (.d (.lst ((subs (i+1)).map tupI))),xN (i:Nat),zy],b,rfl,gN (Pv zb bz bz),rfl,_,rfl])
 rw[show 0+(gf 0 k).length=k by simp[gf]]at he;rw[hb,he]at e;have rg:cw (fc (dN zw ay (fc zaA ff)) ff) [some (.d h),some (.d za0),some (.d (.lst ((subs 0).map tupI))),zy,zy] bx=.val (gf 0 k) bx:=jA (fe (ks:=ff) (ab0 H bz) bz) zb;refine(fq (gN Pw)).trans ((fq ((lv rg).trans e)).trans ?_);have c:fI zw [zy,some 1] (ax (dV 2)) (fg 0) zc0 (dV 0) [some (.d h),some (.d za0),some (.d (.lst ((subs k).map tupI))),w,zy] bx=.val (.d (.lst ((x::l).map tupI))) bx:=by
  rw[<-ab2];refine xq (enc:=tupI) (r:=[some (.d za0)]) (tR rs) tupI (gM bz) bz zb λs ms=>#[?_,λ_=>rfl];have:=BY n5 ms;exact fZ (abY (enc:=tupI) (r:=[xU s]) _ (gM bz) bz zb λr _=>fF zaE bz (Py s r zb))
 refine(fq (gN c)).trans (gx (gH (r:=.old (tupI (uH x l))) [.lst ((x::l).map tupI)] zo ?_));show (if ((x::l).map tupI).all (λd=>(qk d).isSome)=zO then some (Res.old (uC (λd=>(qk d).getD 0) (tupI x) (l.map tupI))) else zy)=_;rw[if_pos (by rw[wD,cK];intro s _;show (qk (tupI s)).isSome=true;rw[FL];rfl),Pz]
section
variable {h:D} {k:Nat} 
theorem AY (i:Int):iE [.d zaS] bx=.val (.d .non) bx:=by
 have m:iR [xN i] bx=.nx [xN i] bx:=by
  unfold iR;exact iF (fU (fZ (fF zo bz (C8 zaS bx))))
 show cQ bx.length (cP (iR [xN i] bx))=_;rw[m];simp[cP,cQ]
theorem T4 {m:ah}{ws:List W}(h:m zad bx=.rt (.d d) bx):aL n m ws bx=.val (.d d) bx:=by
 erw[aL,DL.envOf,h,cP,cQ,ua]
end
end aJ
namespace K54
open L2 L2.DL K1 K2 aM
noncomputable def ez (k:Nat):D->Bool
 |.tup [.int i,.int j]=>decide (0<=i /\ i<(k:Int) /\ 0<=j /\ j<(k:Int) /\ i≠j)
 |_=>zw
def eG (k:Nat):D->Bool
 |.lst l=>decide (l.length<=10)&&l.all (ez k)
 |_=>zw
section
variable {h:D} {k:Nat}
theorem T5 (e:ez k d=zO):∃ q:Int×Int,d=dP q /\ 0<=q.1 /\ q.1<(k:Int) /\ 0<=q.2 /\ q.2<(k:Int) /\ q.1≠q.2:=by
 unfold ez at e;split at e
 .ext i j;exact#[(i,j),rfl,by simpa using e]
 .cases e
theorem T6 (e:eG k d=zO):∃ ps:List (Int×Int),d=.lst zt /\ Mv k ps /\ ps.length<=10:=by
 unfold eG at e;split at e
 .ext l;rw[ao]at e;have n:l.length<=10:=by simpa using e.1
  have:∃ ps:List (Int×Int),l=ps.map dP /\ Mv k ps:=by
   have a:=e.2;clear e n;induction l with
   |nil=>exact#[[],rfl,λq m=>nomatch m]
   |cons x l ih=>
     rw[eK,ao]at a;let#[q,rfl,hq]:=T5 a.1;let#[ps,rfl,M]:=ih a.2;refine#[q::ps,rfl,λr m=>?_];rcases aH.mp m with rfl|m
     .exact hq
     .exact M r m
  let#[ps,rfl,M]:=this;exact#[ps,rfl,M,by simpa using n]
 .cases e
theorem FM (H:kI h k) (d:D):aM.jR [.d h,.d d] bx=.val (.d (.bl (ez k d))) bx:=by
 have sz:=bH;have t:=jG d 2 2 bx;refine g9 ?_;show aM.mY zbQ bx=_;unfold aM.mY;cases tt:tl d 2 2 with
 |false=>
   rw[tt]at t;have:ez k d=zw:=by
    unfold ez;split
    .simp[tl]at tt
    .rfl
   rw[this];exact gx (iG (fF (fe bz zaE) bz t))
 |true=>
   rw[tt]at t;obtain⟨l,rfl⟩:∃ l,d=.tup l:=by
    cases d<;>first|exact#[_,rfl]|cases tt
   let#[a,b,rfl]:=xp tt;have ca:bJ (fg 0) fG (fj K2.gX 2 (fc (dV 1) zq)) ([a,b].map W.d) [zy,some (.d h)] bx []=.val ([a,b].map λd=>.bl (wi d 0 ((k:Int)-1))) bx:=
    gR (λe=>∃ w,e=[w,some (.d h)]) _ #[zy,rfl] (by
     rintro d m env ⟨w,rfl⟩;exact#[[some (.d d),some (.d h)],rfl,#[_,rfl],fF zaE bz (GR H d)]) (show (2:Nat)<=sizeLine by lia)
   have a2:dN zw bj (fc (fI zw [zy,some 0] (ax (dV 1)) (fg 0) fG (fj K2.gX 2 (fc (dV 1) zq))) ff) [some (.d h),some (.d zcV)] bx=.val (.d (.bl ([a,b].all λd=>wi d 0 ((k:Int)-1)))) bx:=
    gH (r:=.old (.bl ([a,b].all λd=>wi d 0 ((k:Int)-1)))) [.lst ([a,b].map λd=>.bl (wi d 0 ((k:Int)-1)))] (fe (gC (io bz) bz ca) bz) zcp
   refine gx (iz (fF (fe bz zaE) bz t) ?_);cases al:([a,b].all λd=>wi d 0 ((k:Int)-1)) with
   |false=>
     rw[al]at a2;have:ez k zcV=zw:=by
      unfold ez;split
      .ext e;cases e;simp[wi]at al;simp;lia
      .rfl
     rw[this];exact iG a2
   |true=>
     rw[al]at a2;erw[eK,Kx,Kl,ao]at al;let#[i,rfl,i1,i2]:=iH al.1;let#[j,rfl,j1,j2]:=iH al.2;refine iz a2 ?_;have:ez k zav=decide (i≠j):=by
      show decide _=decide _;congr 1;rw[eq_iff_iff];constructor
      .exact λz=>z.2.2.2.2
      .exact λz=>#[by lia,by lia,by lia,by lia,z]
     rw[this];exact fL (r:=.old (.bl (decide (i≠j)))) (fL (r:=.old zaS) bz bz bz) (fL (r:=.old (.int j)) bz bz bz) (by simp[bc])
theorem mH (H:kI h k) (d:D):aM.jS [.d h,.d d] bx=.val (.d (.bl (eG k d))) bx:=by
 have sz:=bH;refine g9 ?_;show aM.ls zbQ bx=_;unfold aM.ls;have a1:f7 "list" (dV 1) zbQ bx=.val (.d (.bl (qf (nI d) "list"))) bx:=rfl;cases d with
 |lst l=>
   refine gx (iz a1 ?_);have a2:d2 zw b9 (dN zw ay zr) zco [some (.d h),some (.d zQ)] bx=.val (.d (.bl (decide (l.length<=10)))) bx:=
    fL (r:=.old (.bl (decide (l.length<=10)))) zcZ bz (by simp[b9];lia)
   cases n:decide (l.length<=10) with
   |false=>
     rw[n]at a2;rw[show eG k zQ=false by simp[eG,n]];exact iG a2
   |true=>
     rw[n]at a2;refine iz a2 ?_;have ca:bJ (fg 0) fG (fj aM.jR 2 (fc (dV 1) zq)) zbd [zy,some (.d h)] bx []=.val (l.map λd=>.bl (ez k d)) bx:=
      gR (λe=>∃ w,e=[w,some (.d h)]) _ #[zy,rfl] (by
       rintro d m env ⟨w,rfl⟩;exact#[[some (.d d),some (.d h)],rfl,#[_,rfl],fF zaE bz (FM H d)]) (br (of_decide_eq_true n) zb)
     rw[show eG k zQ=l.all (ez k) by simp[eG,n]];exact gH (r:=.old (.bl (l.all (ez k)))) [.lst (l.map λd=>.bl (ez k d))] (fe (gC (gM bz) bz ca) bz) zcp
 |_=>exact gx (iG a1)
theorem T7 (M:Mv k ps) (hl:ps.length<=10):eG k zbS=zO:=by
 erw[eG,aS,decide_eq_true hl,uS,cK];intro d m;let#[q,mq,rfl]:=bU.mp m;exact decide_eq_true (M q mq)
theorem jW (H:kI h k) (M:Mv k ps) (hl:ps.length<=10):aJ.fP [.d h,.d zbS] bx=.val (.d .non) bx:=by
 have e:=K2.mG H.h H.ok bx;have a:=mH (bx:=bx) H zbS;rw[T7 M hl]at a;have m:aJ.gp [some (.d h),xP ps] bx=.nx [some (.d h),xP ps] bx:=by
  unfold aJ.gp;exact(fq (iO (fF zo bz e))).trans (iF (fU (fZ (fF zaE bz a))))
 show cQ bx.length (cP (aJ.gp [some (.d h),xP ps] bx))=_;rw[m];simp[cP,cQ]
theorem PH (hh:house h=zw) (ok:kS h):K2.iQ [.d h] bx=.exc 0 bx:=by
 have e:=Dc h ok bx;rw[hh]at e;have m:K2.g6 [some (.d h)] bx=.exc 0 bx:=by
  unfold K2.g6;exact(iy (fU (b:=zw) (fZ (fF zo bz e)))).trans bz
 show cQ bx.length (cP (K2.g6 [some (.d h)] bx))=_;rw[m];simp[cP,cQ]
theorem Ni (hh:house h=zw) (ok:kS h) (d:D):aJ.fP [.d h,.d d] bx=.exc 0 bx:=by
 have m:aJ.gp zbQ bx=.exc 0 bx:=by
  unfold aJ.gp;exact GP (BV (oW zo bz (PH hh ok)))
 show cQ bx.length (cP (aJ.gp zbQ bx))=_;rw[m];simp[cP,cQ]
theorem Nj (H:kI h k) (e:eG k d=zw):aJ.fP [.d h,.d d] bx=.exc 8 bx:=by
 have a:=mH (bx:=bx) H d;rw[e]at a;have m:aJ.gp zbQ bx=.exc 8 bx:=by
  unfold aJ.gp;exact(fq (iO (fF zo bz (K2.mG H.h H.ok bx)))).trans ((iy (fU (b:=zw) (fZ (fF zaE bz a)))).trans bz)
 show cQ bx.length (cP (aJ.gp zbQ bx))=_;rw[m];simp[cP,cQ]
end
abbrev Il:DE Bool:=za8
abbrev ab3:DE Bool:=za7
abbrev ab4:ah:=(fm (aC Il zj aF) (aC ab3 zj aF))
def Im:D->Bool
 |.tup [a,b]=>wh a&&wh b
 |_=>zw
theorem U9 {x:D}(c:¬ ∃ i j,x=.tup [.int i,.int j]):Im x=zw:=by
 unfold Im;split
 .next a b=>
  cases a with
  | int i=>cases b with
    |int j=>exact absurd #[i,j,rfl] c
    |_=>rfl
  |_=>rfl
 .rfl
section
variable {h:D} {k:Nat} {w1:Option W}
theorem Va (x:D):Il zcK bx=.val (!Im x) bx:=by
 have sz:=bH;have i1:aG (dB (f7 "tuple" (dV 2))) zcK bx=.val (!qf (nI x) "tuple") bx:=fU (fZ bz);cases x with
 |tup l=>
   have i2:dB (d2 zw bc zbU zbc) [some (.d h),w1,some (.d zV)] bx=.val (decide (l.length≠2)) bx:=
    fZ (fL (r:=.old (.bl (decide (l.length≠2)))) zbu bz (by simp[bc];lia))
   refine gJ i1 ?_;by_cases n:l.length=2
   .rw[show decide (l.length≠2)=false by simp[n]]at i2;refine gJ i2 ?_;match l,n with
    |[a,b],_=>
      have ca:bJ (fg 0) fG (fj K1.gz 1 zq) ([a,b].map W.d) [zy] bx []=.val ([a,b].map λd=>.bl (wh d)) bx:=
       gR (λe=>∃ w,e=[w]) _ #[zy,rfl] (by
        rintro d m env ⟨w,rfl⟩;exact#[[some (.d d)],rfl,#[_,rfl],fF zo bz (m9 d bx)]) (show (2:Nat)<=sizeLine by lia)
      have a2:dN zw bj (fc (fI zw [zy] (ax (dV 2)) (fg 0) fG (fj K1.gz 1 zq)) ff) [some (.d h),w1,some (.d zcV)] bx=.val (.d (.bl ([a,b].all wh))) bx:=
       gH (r:=.old (.bl ([a,b].all wh))) [.lst ([a,b].map λd=>.bl (wh d))] (fe (gC (io bz) bz ca) bz) zcp
      rw[fU (fZ a2)];simp[Im]
   .rw[show decide (l.length≠2)=true by simp[n]]at i2;rw[iA i2];match l,n with
    |[],_=>rfl
    |[a],_=>rfl
    |[a,b],n=>exact absurd bz n
    |a::b::c::l,_=>rfl
 |_=>exact iA i1
theorem Vb (H:kI h k) (i j:Int):ab3 [some (.d h),w1,some (.d zav)] bx=.val (decide zbZ) bx:=by
 have i1:dB (d2 zw ck (d2 zw ak (dV 2) zd) (d2 zw ak (dV 2) zc)) [some (.d h),w1,some (.d zav)] bx=.val (decide (i=j)) bx:=
  fZ (fL (r:=.old (.bl (decide (i=j)))) (fL (r:=.old zaS) bz bz bz) (fL (r:=.old (.int j)) bz bz bz) Dh)
 have i2:dB (d2 zw kD (dN zw Et zu) zd) [some (.d h),w1,some (.d zav)] bx=.val (decide ((if j<i then j else i)<0)) bx:=
  fZ (fL (r:=.old (.bl (decide ((if j<i then j else i)<0)))) (gH (r:=.old zcF) [.tup [.int i,.int j]] zo bz) bz (by simp[kD]))
 have i3:dB (d2 zw pf (dN zw Eu zu) (dN zw ay (fc zaA ff))) [some (.d h),w1,some (.d zav)] bx=.val (decide ((k:Int)<=if j>i then j else i)) bx:=
  fZ (fL (r:=.old (.bl (decide ((k:Int)<=if j>i then j else i)))) (gH (r:=.old zcE) [.tup [.int i,.int j]] zo bz) (aJ.ab0 H bz) bz)
 by_cases c1:i=j
 .rw[show decide (i=j)=true by simp[c1]]at i1;exact(iA i1).trans (by simp[c1])
 .rw[show decide (i=j)=false by simp[c1]]at i1;by_cases c2:(if j<i then j else i)<0
  .rw[show decide ((if j<i then j else i)<0)=true by simp[c2]]at i2;exact(gJ i1 (iA i2)).trans (by simp[c2])
  .rw[show decide ((if j<i then j else i)<0)=false by simp[c2]]at i2;exact(gJ i1 (gJ i2 i3)).trans (by erw[c1,c2,false_or])
theorem Vc (H:kI h k) (x:D):ab4 zcK bx=if ez k x then .nx zcK bx else .rt zcO bx:=by
 have a:=Va (bx:=bx) (h:=h) (w1:=w1) x;by_cases c:∃ i j,x=.tup [.int i,.int j]
 .let#[i,j,rfl]:=c;refine(fq ((iF a).trans bz)).trans ?_;have b:=Vb (bx:=bx) (w1:=w1) H i j;have e:ez k zav=!decide zbZ:=by
   show decide _=!decide _;rw[<-decide_not];congr 1;rw[eq_iff_iff];constructor
   .intro z;split<;>split<;>lia
   .intro z;split at z<;>split at z<;>lia
  rw[e];cases q:decide zbZ with
  |false=>rw[q]at b;exact(iF b).trans bz
  |true=>rw[q]at b;exact(iy b).trans bz
 .have e1:=U9 c;have e2:ez k x=zw:=by
   unfold ez;split
   .exact absurd #[_,_,rfl] c
   .rfl
  rw[e1]at a;rw[e2];have st:aC Il zj aF zcK bx=.rt zcO bx:=(iy a).trans bz;show fm (aC Il zj aF) _ _ _=_;rw[iN,st];rfl
theorem Vd (H:kI h k):∀ (l:List D) (w2:Option W),∃ w,dF (fg 2) ab4 zbd [some (.d h),w1,w2] bx=if l.all (ez k) then .nx [some (.d h),w1,w] bx else .rt zcO bx:=by
 intro l_;induction l_ with
 |nil=>exact λw2=>#[w2,rfl]
 |cons x l aq=>
   intro w2;have b:=Vc (bx:=bx) (w1:=w1) H x;cases c:ez k x with
   |false=>
     rw[c]at b;exact#[zy,(BS bz b).trans (by simp[c])]
   |true=>
     rw[c]at b;let#[w,e]:=aq (some (.d x));exact#[w,(lw bz b).trans (e.trans (by simp[c]))]
theorem J9 (H:kI h k) (d:D):gn [.d h,.d d] bx=.val (.d (.bl (eG k d))) bx:=by
 refine g9 ?_;show iZ [some (.d h),some (.d d),zy] bx=_;unfold iZ;have i1:aG (dB (f7 "list" (dV 1))) [some (.d h),some (.d d),zy] bx=.val (!qf (nI d) "list") bx:=fU (fZ bz);cases d with
 |lst l=>
   have i2:dB (d2 zw qJ (dN zw ay zr) zco) [some (.d h),some (.d zQ),zy] bx=.val (decide ((10:Int)<(l.length:Nat))) bx:=
    fZ (fL (r:=.old (.bl (decide ((10:Int)<(l.length:Nat))))) zcZ bz bz)
   by_cases n:l.length<=10
   .rw[show decide ((10:Int)<(l.length:Nat))=false by simp;lia]at i2;refine(fq ((iF (gJ i1 i2)).trans bz)).trans ?_;let#[w,e]:=Vd (bx:=bx) (w1:=some (.d zQ)) H l zy;have e':=(lv (gM (m:=dV 1) (env:=[some (.d h),some (.d zQ),zy]) bz)).trans e;rw[show eG k zQ=l.all (ez k) by simp[eG,n]];cases c:l.all (ez k) with
    |false=>rw[c]at e';rw[iN,e'];rfl
    |true=>rw[c]at e';exact(fq e').trans bz
   .rw[show decide ((10:Int)<(l.length:Nat))=true by simp;lia]at i2;rw[show eG k zQ=false by simp[eG,n]];rw[iN,(iy (gJ i1 i2)).trans (show fN (dC zag) [some (.d h),some (.d zQ),none] bx=.rt zcO bx from rfl)]
 |_=>rw[iN,(iy (iA i1)).trans rfl];rfl
end
theorem Do (hw:∀ d lo hi bx,fw zG bx=.val zaB bx) (l:List D) (lo hi:Int) (hl:l.length<=sizeLine) (bx:List Bx) :
 bJ (fg 0) fG (fj fw 3 (fc (dV 0) (fc (dC (.int lo)) (fc (dC (.int hi)) ff)))) zbd [zy] bx []=.val (l.map λd=>.bl (wi d lo hi)) bx:=
 gR (λe=>∃ w,e=[w]) _ #[zy,rfl] (by
  rintro d m env ⟨w,rfl⟩;exact#[[some (.d d)],rfl,#[_,rfl],fF (fe bz zaE) bz (hw d lo hi bx)]) hl
theorem Dp (l:List Int):pO (.lst (l.map D.int))=zO:=by
 let#[c,d]:=aJ.Nh l;simp[pO,toPy,PyData.canLay0,PyData.depth,c,d]
theorem Dq:∀ a b:List Int,PyData.eqvAll (a6 (a.map D.int)) (a6 (b.map D.int))=decide (a=b)
 |[],[]=>rfl
 |[],_::_=>rfl
 |_::_,[]=>rfl
 | x::a,y::b=>by
   have h:=Dq a b;erw[bh,a6,toPy,PyData.eqvAll,PyData.eqv,h];by_cases c:x=y<;>simp[c]
theorem agE (a b:List Int):bc (.lst (a.map D.int)) (.lst (b.map D.int))=some (.old (.bl (!decide (a=b)))):=by
 cases b with
 |nil=>cases a<;>rfl
 |cons y b=>
   show ux zO (.lst (a.map D.int)) (.lst ((y::b).map D.int))=_;unfold ux;rw[Dp,Dp];show some (Res.old (.bl (!PyData.eqvAll (a6 (a.map D.int)) (a6 ((y::b).map D.int)))))=_;rw[Dq]
abbrev kW (fw:List W->List Bx->O W):DE Bool:=(aG (dB (fj fw 3 zck)))
abbrev kA (fw:List W->List Bx->O W):DE Bool:=zc1
abbrev kB (fw:List W->List Bx->O W):ah:=(fm (aC (aZ (aG zcw) (aZ (dB zae) (aG (dB (fj fw 3 zck))))) zj aF) (fm (aC (aZ (aG (dB (f7 "tuple" zL))) (aZ (dB (d2 zw bc (dN zw ay (fc zL ff)) zai)) zc1)) zj aF) (aC (dB zbC) zj aF)))
theorem VX (hw:∀ d lo hi bx,fw zG bx=.val zaB bx) (x0 x1 x2 x3 x4 x6:Option W) (d:D) (bx:List Bx) :
 kB fw [x0,x1,x2,x3,x4,some (.d d),x6] bx=if kind d=zO then .nx [x0,x1,x2,x3,x4,some (.d d),x6] bx else .rt zcO bx:=by
 have sz:=bH;cases d with
 |tup l=>
   have i0:aG zcw [x0,x1,x2,x3,x4,some (.d zV),x6] bx=.val zw bx:=fU (b:=zO) (fZ (b:=zO) bz);have i1:dB zae [x0,x1,x2,x3,x4,some (.d zV),x6] bx=.val (!decide ((l.length:Int)=2)) bx:=fZ (fL (r:=.old (.bl (!decide ((l.length:Int)=2)))) zbu bz bz);by_cases h:(l.length:Int)=2
   .obtain ⟨a,b,rfl⟩:∃ a b,l=[a,b]:=by
     match l,h with
     |[a,b],_=>exact#[a,b,rfl]
    have i2:aZ _ (aZ _ (kW fw)) [x0,x1,x2,x3,x4,some (.d zcV),x6] bx=.val (!wi a 1 999) bx:=gJ i0 (gJ i1 (fU (fZ (fF (l:=[.d a,.d zh,.d (.int 999)]) (fe (fL (m:=dV 5) (k:=dC zm) (r:=.old a) bz bz bz) zaE) bz (hw a 1 999 bx)))));have kd:kind zcV=(wi a 1 999&&nQ b):=rfl;rw[kd];cases q1:wi a 1 999 with
    |false=>rw[q1]at i2;exact gY ((iy i2).trans bz)
    |true=>
      rw[q1]at i2;refine(fq ((iF i2).trans bz)).trans ?_;have v1:d2 zw ak (dV 5) zc [x0,x1,x2,x3,x4,some (.d zcV),x6] bx=.val (.d b) bx:=fL (r:=.old b) bz bz bz;have j0:aG (dB (f7 "tuple" zL)) [x0,x1,x2,x3,x4,some (.d zcV),x6] bx=.val (!qf (nI b) "tuple") bx:=fU (fZ bz);rw[uS];cases b with
      |tup m=>
        have j1:dB (d2 zw bc (dN zw ay (fc zL ff)) zai) [x0,x1,x2,x3,x4,some (.d (.tup [a,.tup m])),x6] bx=.val (!decide ((m.length:Int)=4)) bx:=fZ (fL (r:=.old (.bl (!decide ((m.length:Int)=4)))) (gH (r:=.old (.int (m.length:Nat))) [.tup m] (fe v1 bz) bz) bz bz);by_cases h4:(m.length:Int)=4
        .rw[decide_eq_true h4]at j1;have j2:kA fw [x0,x1,x2,x3,x4,some (.d (.tup [a,.tup m])),x6] bx=.val (!(m.all λx=>wi x 0 9)) bx:=fU (fZ (gH (r:=.old (.bl (m.all λx=>wi x 0 9))) [.lst (m.map λd=>.bl (wi d 0 9))] (fe (gC (src:=[zy]) (io v1) bz (Do hw m 0 9 zb bx)) bz) (all_map m λd=>wi d 0 9)));have rt:nQ (.tup m)=((m.all λx=>wi x 0 9)&&qm m):=by simp[nQ,tl,h4]
         rw[rt];cases q:m.all λx=>wi x 0 9 with
         |false=>rw[q]at j2;exact gY ((iy (gJ j0 (gJ j1 j2))).trans bz)
         |true=>
           rw[q]at j2;refine(fq ((iF (gJ j0 (gJ j1 j2))).trans bz)).trans ?_;let#[ns,rfl]:=Dd q;have n4:ns.length<64:=by rw[aS]at h4;lia
           have so:kE [.tup zb6]=some (.lst ((sortI ns).map D.int)):=by simp[kE,wZ,K1.AA,n4]
           have eq:=agE ns (sortI ns).reverse;rw[J2,List.map_reverse]at eq;have t3:dB zbC [x0,x1,x2,x3,x4,some (.d (.tup [a,.tup zb6])),x6] bx=.val (!qm zb6) bx:=fZ (fL (gH (r:=.lst zb6) [.tup zb6] (fe v1 bz) bz) (show rQ zw (dN zw kE (fc zL ff)) [x0,x1,x2,x3,x4,some (.d (.tup [a,.tup zb6])),x6] bx=.val (.d (.lst ((sortI ns).map D.int).reverse)) bx by unfold rQ;rw[gH [.tup zb6] (fe v1 rfl) so];rfl) eq);cases fd:qm zb6 with
           |false=>rw[fd]at t3;exact(iy t3).trans bz
           |true=>rw[fd]at t3;exact(iF t3).trans bz
        .rw[decide_eq_false h4]at j1;rw[show nQ (.tup m)=false by simp[nQ,tl];lia];exact gY ((iy (gJ j0 (iA j1))).trans bz)
      |_=>exact gY ((iy (iA j0)).trans bz)
   .rw[decide_eq_false h]at i1;rw[show kind zV=false by simp[kind,tl];lia];exact gY ((iy (gJ i0 (iA i1))).trans bz)
 |_=>rfl
theorem VY (hw:∀ d lo hi bx,fw zG bx=.val zaB bx) (x0 x1 x2 x3 x4 x6:Option W) (bx:List Bx):∀ (l:List D) (w:Option W),
 ∃ w',dF (fg 5) (kB fw) zbd [x0,x1,x2,x3,x4,w,x6] bx=if l.all kind=zO then .nx [x0,x1,x2,x3,x4,w',x6] bx else .rt zcO bx:=by
 intro l_;induction l_ with
 |nil=>exact λw=>#[w,rfl]
 |cons d l aq=>
   intro w;have st:=VX hw x0 x1 x2 x3 x4 x6 d bx;cases c:kind d with
   |false=>rw[c]at st;exact#[zy,(BS bz st).trans (by simp[c])]
   |true=>
     rw[c]at st;let#[w',e]:=aq (some (.d d));exact#[w',(lw bz st).trans (e.trans (by simp[c]))]
end K54
namespace aM
open L2 L2.DL K1 K2
theorem ji (a:Key) (d:D) (l:List (Key×D)) (k:Key):bF ((a,d)::l) k=if a=k then some d else bF l k:=by
 unfold bF;by_cases h:a=k<;>simp[qw,h]
theorem AF (k:Key):∀ l:List (Key×D),(l.any λkv=>decide (kv.1=k))=(bF l k).isSome
 |[]=>rfl
 | (a,d)::l=>by
   rw[ji,sC,AF k l];by_cases h:a=k<;>simp[h]
theorem Ds (k k':Key) (d:D):∀ l:List (Key×D),bF (l.map λkv=>if kv.1=k then (kv.1,d) else kv) k'=if k'=k then (bF l k).map (λ_=>d) else bF l k'
 |[]=>by simp[bF]
 | (a,x)::l=>by
   have ih:=Ds k k' d l;rw[bh];by_cases h:a=k
   .erw[h,if_true,ji,ih];by_cases h2:k'=k
    .simp[h2]
    .simp[h2,Ne.symm h2]
   .erw[h,if_false,ji,ih];by_cases h2:k'=k
    .subst h2;simp[h]
    .simp[h2]
theorem Du (k k':Key) (d:D):∀ l:List (Key×D),bF (l++[(k,d)]) k'=(bF l k').or (if k=k' then some d else zy)
 |[]=>by simp[ji,bF]
 | (a,x)::l=>by
   rw[sD,ji,ji,Du k k' d l];split<;>simp
theorem AG (l:List (Key×D)) (k k':Key) (d:D):bF (pz l k d) k'=if k'=k then some d else bF l k':=by
 unfold pz;split
 .ext h;rw[AF]at h;rw[Ds];by_cases h2:k'=k
  .rw[if_pos h2,if_pos h2];cases q:bF l k with
   |none=>rw[q]at h;cases h
   |some x=>rfl
  .rw[if_neg h2,if_neg h2]
 .ext h;rw[AF]at h;rw[Du];by_cases h2:k'=k
  .subst h2;cases q:bF l k' with
   |none=>simp
   |some x=>rw[q]at h;exact absurd bz h
  .rw[if_neg h2,if_neg (Ne.symm h2)];simp
theorem Bt (l:List (Key×D)) (k:Key) (d:D):(pz l k d).length<=l.length+1:=by
 unfold pz;split<;>simp
section
variable {bx2 aP:List Bx}
theorem Nk {y:D}{kx:DE W}{l:List (Key×D)}{key:Key}(h1:kx env bx=.val (.d y) bx1) (h2:m env bx1=.val (.b j) bx2) (g:bx2[j]?=some (.ai l)) (hk:qU y=some key):rT zw kx m env bx=.val (.d (.bl (bF l key).isSome)) bx2:=by
 unfold rT;rw[h1,fS,h2,fS];have r1:aQ bx2 (.b j)=some (.ai l):=by erw[aQ,g]
 erw[r1,hk];rfl
theorem GT {y u:D}{kx:DE W}{l:List (Key×D)}{key:Key}(h1:m env bx=.val (.b j) bx1) (h2:kx env bx1=.val (.d y) bx2) (g:bx2[j]?=some (.ai l)) (hk:qU y=some key) (hv:bF l key=some u):rS m kx env bx=.val (.d u) bx2:=by
 unfold rS;rw[h1,fS,h2,fS];have r1:aQ bx2 (.b j)=some (.ai l):=by erw[aQ,g]
 erw[r1,hk,bD,hv]
theorem PJ {y z:D}{kx v:DE W}{l0 l:List (Key×D)}{key:Key}(h1:m env bx=.val (.b j) bx1) (g0:bx1[j]?=some (.ai l0)) (h2:kx env bx1=.val (.d y) bx2) (h3:v env bx2=.val (.d z) aP) (g:aP[j]?=some (.ai l)) (hk:qU y=some key) (hl:l.length<sizeLine) :
 ∃ u,uB m kx v env bx=.val (.d u) (match bF l key with|some _=>aP|none=>aP.set j (.ai (pz l key z))):=by
 unfold uB;rw[h1,fS];erw[g0,h2,fS,h3,g,hk,if_pos hl];cases bF l key with
 |none=>exact#[z,rfl]
 |some w=>exact#[w,rfl]
theorem Nl {y z:D}{kx v:DE W}{l:List (Key×D)}{key:Key}(h0:v env bx=.val (.d z) bx1) (h1:m env bx1=.val (.b j) bx2) (h2:kx env bx2=.val (.d y) aP) (g:aP[j]?=some (.ai l)) (hk:qU y=some key) (hl:l.length<sizeLine) :
 uA m kx v env bx=.nx env (aP.set j (.ai (pz l key z))):=by
 unfold uA;rw[h0,lZ,h1,lZ,h2,lZ];erw[g,hk,if_pos hl]
end
theorem T8 {B a b:Nat}(h:Sm B a b d):Sm B (a+1) (b+3000) (.ai [(.inl 0,d)]):=by
 refine#[by simp[ib,tQ,h.s],?_,?_]
 .have:=h.e;erw[toPy,bB,PyData.depth,PyData.depthKv,nL];lia
 .have:=h.w;erw[wt,xo,WQ];lia
section
variable {x0 x1 x2 x5 x7 x8 x9 x10:Option W}
end
section
variable {bx2:List Bx}
end
section
variable {x0 x1 x3 x5 x6 x7 x11 x12 x13:Option W}
end
theorem agF {c:List D}{k:Int}(h0:0<=k) (h1:k<=100) (h:c.length<=1000):bX (.lst c) (.int k)=some (.lst (List.replicate k.toNat c).flatten):=by
 have sz:=bH;refine if_pos #[by lia,by lia,?_];have:c.length*k.toNat<=1000*100:=Nat.mul_le_mul h zb;lia
section
variable {x0 x1 x5:Option W}
end
end aM
namespace aJ
open L2 L2.DL K1 aM
section
variable {r:aE}
abbrev gP:DG:=iV 2 (fT (fg 0) (fT (fg 1) jm))
theorem agG (p:Int×Int->Bool) (f:Int×Int->D):∀ (l:List (Int×Int)) (w v:Option W) (acc:List D),acc.length+l.length<=sizeLine->(∀ a∈l,tf (xN a.1::xN a.2::r) bx=.val (p a) bx /\ (p a=zO->te (xN a.1::xN a.2::r) bx=.val (.d (f a)) bx)) ->
 bJ gP tf te ((l.map dP).map W.d) (w::v::r) bx acc=.val (acc++(l.filter p).map f) bx:=by
 intro l_;induction l_ with
 |nil=>(intro w v acc _ _;simp[bJ])
 |cons a l aq=>
   intro w v acc n h;let#[h1,h2]:=h a (bK ..);rw[bp]at n;have n':acc.length<sizeLine:=by lia
   have e0:gP (W.d (dP a)) (w::v::r) bx=some (some (W.d (.int a.1))::some (W.d (.int a.2))::r,bx):=rfl;cases c:p a with
   |false=>
     rw[KA (by simp[c]),<-aq (some (W.d (.int a.1))) (some (W.d (.int a.2))) acc zb λx m=>h x (bL _ m)];rw[c]at h1;erw[bh,bJ,e0,h1,Fu]
   |true=>
     rw[KC c];have ih:=aq (some (W.d (.int a.1))) (some (W.d (.int a.2))) (acc++[f a]) zS λx m=>h x (bL _ m);rw[c]at h1;erw[bh,bJ,e0,h1,h2 c,Fu,if_pos n',ih];simp
end
section
variable {bx2:List Bx}
theorem Ve {op:D->D->Option Res}{r:Res}{k:DE W}{x:D}(h1:m env bx=.val (.d x) bx1) (h2:k env bx1=.val (.b j) bx2) (g:bx2[j]?=some zQ) (hg:op x zQ=some r):d2 zw op m k env bx=.val (.d r.toD) bx2:=by
 rw[JW,h1,fS,h2,fS,lP];have r1:aQ bx2 (.b j)=some zQ:=by erw[aQ,g]
 rw[r1,bD,bD,hg,iM]
end
theorem ly (neg:Bool) (is:List Int) (b:Int):inD neg (.int b) (.lst (is.map D.int))=some (.old (.bl (if neg then !decide (b∈is) else decide (b∈is)))):=by
 show (if kZ (.int b)=zO /\ (is.map D.int).all kZ=zO then some (Res.old (.bl (if neg then !k6 (.int b) (is.map D.int) else k6 (.int b) (is.map D.int)))) else xg neg _ _ _)=_;rw[if_pos #[rfl,Br is],Di];have:(is.any λz=>decide (z=b))=decide (b∈is):=by
  rw[sy];simp
 rw[this]
section
variable {k:Nat} 
end
end aJ
namespace K54
open L2 L2.DL K1
abbrev Io (fw:List W->List Bx->O W):DE Bool:=(aZ (aG zcw) (aZ (dB zae) (aG (dB (dN zw bj (fc (fI zw [zy,some 2] (ax (dV 5)) (fg 0) fG (fj fw 3 za6)) ff))))))
abbrev xr:DE Bool:=zbv
abbrev aB (fw:List W->List Bx->O W):ah:=(fm (aC (Io fw) zj aF) (fm (aC xr zj aF) (gy (kU (dV 6) (dV 5)))))
def wq (n:Int):D->Bool
 |.tup [a,b]=>wi a 0 (n-1)&&wi b 0 (n-1)
 |_=>zw
section
variable {x0 x1 x3 x4 x6:Option W} {ks:List D} 
theorem Vf (hw:∀ d lo hi bx,fw zG bx=.val zaB bx) (d:D):Io fw [x0,x1,some zbA,x3,x4,some (.d d),x6] bx=.val (!wq ks.length d) bx:=by
 have sz:=bH;have i1:aG zcw [x0,x1,some zbA,x3,x4,some (.d d),x6] bx=.val (!qf (nI d) "tuple") bx:=fU (fZ bz);cases d with
 |tup l=>
   have i2:dB zae [x0,x1,some zbA,x3,x4,some (.d zV),x6] bx=.val (decide (l.length≠2)) bx:=
    fZ (fL (r:=.old (.bl (decide (l.length≠2)))) zbu bz (by simp[bc];lia))
   refine gJ i1 ?_;by_cases n:l.length=2
   .rw[show decide (l.length≠2)=false by simp[n]]at i2;refine gJ i2 ?_;match l,n with
    |[a,b],_=>
      have ca:bJ (fg 0) fG (fj fw 3 za6) ([a,b].map W.d) [zy,some zbA] bx []=.val ([a,b].map λd=>.bl (wi d 0 ((ks.length:Int)-1))) bx:=
       gR (λe=>∃ w,e=[w,some zbA]) _ #[zy,rfl] (by
        rintro d m env ⟨w,rfl⟩;exact#[[some (.d d),some zbA],rfl,#[_,rfl],fF (l:=[.d d,.d zm,.d (.int ((ks.length:Int)-1))]) (fe bz (fe bz (fe (fL (r:=.old (.int ((ks.length:Int)-1))) (gH (r:=.old (.int (ks.length:Nat))) [.tup ks] zo bz) bz bz) bz))) bz (hw d 0 _ bx)]) (show (2:Nat)<=sizeLine by lia)
      have a2:dN zw bj (fc (fI zw [zy,some 2] (ax (dV 5)) (fg 0) fG (fj fw 3 za6)) ff) [x0,x1,some zbA,x3,x4,some (.d zcV),x6] bx=.val (.d (.bl ([a,b].all λd=>wi d 0 ((ks.length:Int)-1)))) bx:=
       gH (r:=.old (.bl ([a,b].all λd=>wi d 0 ((ks.length:Int)-1)))) [.lst ([a,b].map λd=>.bl (wi d 0 ((ks.length:Int)-1)))] (fe (gC (io bz) bz ca) bz) zcp
      rw[fU (fZ a2)];simp[wq]
   .rw[show decide (l.length≠2)=true by simp[n]]at i2;rw[iA i2];match l,n with
    |[],_=>rfl
    |[a],_=>rfl
    |[a,b],n=>exact absurd bz n
    |a::b::c::l,_=>rfl
 |_=>exact iA i1
theorem PK {q:Int×Int}(h:ps.getLast?=some q):bA zt (-1)=some (dP q):=by
 have n:0<ps.length:=by cases ps with
  |nil=>cases h
  |cons _ _=>simp
 unfold bA;rw[aS,aM.AC n,bD,ke,<-List.getLast?_eq_getElem?,h];rfl
def Lq (ps:List (Int×Int)) (q:Int×Int):uu:=(ps=[] /\ q=(-1,-1)) \/ ps.getLast?=some q
theorem Vg {q:Int×Int}(hq:Lq ps q) {i j:Int}(h0:0<=i):xr zz zaf=.val (!(decide (i<j)&&cA q (i,j))) zaf:=by
 have g:(bx++[Bx.lst zt])[bx.length]?=some zbS:=by simp
 have i1:dB (d2 zw pf (d2 zw ak (dV 5) zd) zL) zz zaf=.val (decide (j<=i)) zaf:=
  fZ (fL (r:=.old (.bl (decide (j<=i)))) (fL (r:=.old zaS) bz bz bz) (fL (r:=.old (.int j)) bz bz bz) bz)
 by_cases c:j<=i
 .rw[show decide (j<=i)=true by simp[c]]at i1;exact(iA i1).trans (by rw[show decide (i<j)=false by simp;lia];rfl)
 .rw[show decide (j<=i)=false by simp[c]]at i1;rw[show decide (i<j)=true by simp;lia];have i2:dB (d2 zw bc (dV 6) (fO zw ff)) zz zaf=.val (!(ps.map dP).isEmpty) zaf:=by
   refine fZ ?_;rw[JW,show dV 6 zz zaf=.val zca zaf from rfl,fS,show fO false ff zz zaf=.val (.d (.lst [])) zaf from rfl,fS,lP];have r1:aQ (bx++[Bx.lst zt]) zca=some zbS:=by erw[aQ,g]
   rw[r1,bD,bD,show bc zbS (.lst [])=some (.old (.bl (!(ps.map dP).isEmpty))) from by cases ps<;>rfl,iM];rfl
  rcases hq with⟨rfl,rfl⟩|hq
  .refine(gJ i1 (FA i2)).trans ?_;rw[show cA (-1,-1) (i,j)=true by
    unfold cA HT.lexLt;rw[if_neg (show ¬ (-1:Int)=i by lia)];simp;lia]
   rfl
  .have i3:dB (d2 zw b9 (dV 5) (d2 zw ak (dV 6) (eE zc))) zz zaf=.val (!cA q (i,j)) zaf:=
    fZ (fL (r:=.old (.bl (!cA q (i,j)))) bz (aM.RP (i:=-1) bz (Ax (i:=1) bz) g (PK hq)) (by rw[<-U4 (i,j) q];rfl))
   have ne:(!(ps.map dP).isEmpty)=zO:=by cases ps with
    |nil=>cases hq
    |cons _ _=>rfl
   rw[ne]at i2;exact(gJ i1 (FB i2 i3)).trans zf
theorem VZ (hw:∀ d lo hi bx,fw zG bx=.val zaB bx) (h:cg ks.length d=zw) {q:Int×Int}(hq:Lq ps q):aB fw [x0,x1,some zbA,x3,x4,some (.d d),xB bx.length] zaf=.rt zcO zaf:=by
 have a:=Vf (x0:=x0) (x1:=x1) (x3:=x3) (x4:=x4) (x6:=xB bx.length) (ks:=ks) (bx:=bx++[.lst zt]) hw d;cases c:wq ks.length d with
 |false=>
   rw[c]at a;have st:aC (Io fw) zj aF [x0,x1,some zbA,x3,x4,some (.d d),xB bx.length] zaf=.rt zcO zaf:=(iy a).trans bz;show fm (aC (Io fw) zj aF) _ _ _=_;rw[iN,st]
 |true=>
   rw[c]at a;unfold wq at c;split at c
   .ext x y;rw[ao]at c;let#[i,rfl,i1,i2]:=iH c.1;let#[j,rfl,j1,j2]:=iH c.2;have b:=Vg (x0:=x0) (x1:=x1) (x3:=x3) (x4:=x4) (ks:=ks) (bx:=bx) hq (j:=j) i1;have ij:decide (i<j)=zw:=by
     have t2:tl zav 2 2=zO:=by simp[tl]
     simp[cg,t2,wi]at h ⊢;lia
    rw[ij]at b;have st:aC xr zj aF zz zaf=.rt zcO zaf:=(iy b).trans bz;refine(fq ((iF a).trans bz)).trans ?_;show fm (aC xr zj aF) _ _ _=_;rw[iN,st]
   .cases c
theorem V0 (hw:∀ d lo hi bx,fw zG bx=.val zaB bx) {r:Int×Int}(h0:0<=r.1) (h1:r.1<r.2) (h2:r.2<=(ks.length:Int)-1) {q:Int×Int}(hq:Lq ps q) (hl:ps.length<sizeLine) :
 aB fw zcW zaf=if cA q r=zO then .nx zcW (bx++[.lst ((ps++[r]).map dP)]) else .rt zcO zaf:=by
 have a:=Vf (x0:=x0) (x1:=x1) (x3:=x3) (x4:=x4) (x6:=xB bx.length) (ks:=ks) (bx:=bx++[.lst zt]) hw (dP r);have c:wq ks.length (dP r)=zO:=by simp[wq,wi];lia
 rw[c]at a;have b:=Vg (x0:=x0) (x1:=x1) (x3:=x3) (x4:=x4) (ks:=ks) (bx:=bx) hq (j:=r.2) h0;rw[show decide (r.1<r.2)=true by simp[h1]]at b;refine(fq ((iF a).trans bz)).trans ?_;have g:(bx++[Bx.lst zt])[bx.length]?=some zbS:=by simp
 cases e:cA q r with
 |false=>
   rw[show cA q (r.1,r.2)=false from e]at b;have st:aC xr zj aF zcW zaf=.rt zcO zaf:=(iy b).trans bz;show fm (aC xr zj aF) _ _ _=_;rw[iN,st];rfl
 |true=>
   rw[show cA q (r.1,r.2)=true from e]at b;refine(fq ((iF b).trans bz)).trans ?_;refine(iO (M9 (i:=bx.length) (l:=ps.map dP) (d:=dP r) bz g bz g (by rw[aS];exact hl))).trans ?_;simp
theorem V1 (hw:∀ d lo hi bx,fw zG bx=.val zaB bx):∀ (l:List D) (ps:List (Int×Int)) (q:Int×Int) (w:Option W),Lq ps q->ps.length+l.length<=sizeLine ->
 ∃ w' bs,dF (fg 5) (aB fw) zbd [x0,x1,some zbA,x3,x4,w,xB bx.length] zaf=if vS ks.length q l=zO then .nx [x0,x1,some zbA,x3,x4,w',xB bx.length] (bx++[.lst bs]) else .rt zcO (bx++[.lst bs]):=by
 intro l_;induction l_ with
 |nil=>exact λps q w _ _=>#[w,_,rfl]
 |cons d l aq=>
   intro ps q w hq hl;rw[vS];cases h:cg ks.length d with
   |false=>exact#[zy,ps.map dP,(BS bz (VZ hw h hq)).trans zf]
   |true=>
     let#[r,rfl,h0,h1,h2]:=mF h;have st:=V0 (x0:=x0) (x1:=x1) (x3:=x3) (x4:=x4) (bx:=bx) hw h0 h1 h2 hq (by erw[bp]at hl;lia);cases e:cA q r with
     |false=>rw[e]at st;exact#[zy,ps.map dP,(BS bz st).trans (by simp[pD,e])]
     |true=>
       rw[e]at st;let#[w',bs,z]:=aq (ps++[r]) r (some (.d (dP r))) (.inr zf) (by erw[bp,cJ,kK]at hl ⊢;lia);exact#[w',bs,(lw bz st).trans (z.trans (by simp[pD,e]))]
end
def t3:D->Bool
 |.tup [r,k,p,_]=>dH r&&dH k&&dH p
 |_=>zw
abbrev agH:DE Bool:=zaN
section
variable {xs:aE} 
theorem V2 (d:D):agH (some (.d d)::xs) bx=.val (!t3 d) bx:=by
 have i1:aG (dB (f7 "tuple" (dV 0))) (some (.d d)::xs) bx=.val (!qf (nI d) "tuple") bx:=fU (fZ bz);cases d with
 |tup l=>
   have i2:dB (d2 zw bc (dN zw ay zq) zai) (some (.d zV)::xs) bx=.val (decide (l.length≠4)) bx:=
    fZ (fL (r:=.old (.bl (decide (l.length≠4)))) zbu bz (by simp[bc];lia))
   refine gJ i1 ?_;by_cases n:l.length=4
   .rw[show decide (l.length≠4)=false by simp[n]]at i2;refine gJ i2 ?_;match l,n with
    |[r,k,p,hh],_=>
      have a3:bJ (fg 0) fG (f7 "tuple" (dV 0)) ([r,k,p].map W.d) [zy] bx []=.val ([r,k,p].map λx=>.bl (dH x)) bx:=
       gR (l:=[r,k,p]) (λe=>∃ w,e=[w]) (λx=>.bl (dH x)) #[zy,rfl] (λx _ e ⟨w,je⟩=>#[[some (.d x)],by simp[je],#[_,rfl],by simp[TW]]) (show (3:Nat)<=sizeLine by decide)
      have hs:vE (.tup [r,k,p,hh]) zy (some 3)=some (.tup [r,k,p]):=by simp[vE,DL.cutD,HT.aD]
      have a2:dN zw bj zaT (some (.d (.tup [r,k,p,hh]))::xs) bx=.val (.d (.bl ([r,k,p].all dH))) bx:=by
       refine gH (r:=.old (.bl ([r,k,p].all dH))) [.lst ([r,k,p].map λx=>.bl (dH x))] (fe (gC (io (ds:=[r,k,p]) ?_) bz a3) bz) zcp;simp[hs]
      rw[fU (fZ a2)];simp[t3,Bool.and_assoc]
   .rw[show decide (l.length≠4)=true by simp[n]]at i2;rw[iA i2];match l,n with
    |[],_=>rfl
    |[a],_=>rfl
    |[a,b],_=>rfl
    |[a,b,c],_=>rfl
    |[a,b,c,d],n=>exact absurd bz n
    |a::b::c::d::e::l,_=>rfl
 |_=>exact iA i1
theorem Vh (h:t3 d=zO):∃ rl kl pl hh,d=.tup [.tup rl,.tup kl,.tup pl,hh]:=by
 unfold t3 at h;split at h
 .erw[ao]at h;let#[rl,rfl]:=FG h.1.1;let#[kl,rfl]:=FG h.1.2;let#[pl,rfl]:=FG h.2;exact#[rl,kl,pl,_,rfl]
 .cases h
theorem V3 (h:t3 d=zw):house d=zw:=by
 unfold t3 at h;split at h
 .ext r k p hh;cases q1:dH r with
  |false=>simp[house,J3 q1]
  |true=>
    cases q2:dH k with
    |false=>simp[house,J4 q2]
    |true=>
      have q3:dH p=zw:=by simpa[q1,q2] using h
      simp[house,M6 q3]
 .ext z;unfold house;split
  .exact absurd bz (z _ _ _ _)
  .rfl
theorem Vi (he:env[i]?=some (some (.d zV))) (hi:Int):dB (d3 b9 b9 zc (dN zw ay (fc (dV i) ff)) (dC (.int hi))) env bx=.val (tl zV 1 hi) bx:=by
 by_cases z:1<=(l.length:Int)<;>simp[he,ay,b9,tl,z]
abbrev xc (fw:List W->List Bx->O W):DE Bool:=(aZ (aG (dB (d3 b9 b9 zc (dN zw ay zr) (dC (.int 5))))) (aG (dB (dN zw bj (fc (fI zw [zy] (ax (dV 1)) (fg 0) fG (fj fw 3 (fc (dV 0) (fc zd zK)))) ff)))))
abbrev ab5 (fw:List W->List Bx->O W):DE Bool:=(aZ (aG (dB (d3 b9 b9 zc zbU zai))) (aG (dB (fj fw 3 (fc (dV 4) (fc zc zbx))))))
theorem V4 (hw:∀ d lo hi bx,fw zG bx=.val zaB bx) (x0:Option W) (l:List D):xc fw (x0::some (.d zV)::xs) bx=.val (!rooms zV) bx:=by
 have a:=Vi (bx:=bx) (l:=l) (i:=1) (env:=x0::some (.d zV)::xs) bz 5;cases t:tl zV 1 5 with
 |false=>
   rw[t]at a;rw[show rooms zV=false by simp[rooms,t]];exact iA (fU a)
 |true=>
   rw[t]at a;have n:=jz t;have ca:=Do hw l 0 3 (by have:=WS;lia) bx;have a2:dN zw bj (fc (fI zw [zy] (ax (dV 1)) (fg 0) fG (fj fw 3 (fc (dV 0) (fc zd zK)))) ff) (x0::some (.d zV)::xs) bx=.val (.d (.bl (l.all λd=>wi d 0 3))) bx:=
    gH (r:=.old (.bl (l.all λd=>wi d 0 3))) [.lst (l.map λd=>.bl (wi d 0 3))] (fe (gC (io bz) bz ca) bz) zcp
   rw[show rooms zV=l.all λd=>wi d 0 3 by simp[rooms,t]];exact gJ (fU a) (fU (fZ a2))
theorem V5 (hw:∀ d lo hi bx,fw zG bx=.val zaB bx) (x0 x1 x3:Option W) (l:List D) (hh:D):ab5 fw (x0::x1::some (.d zV)::x3::some (.d hh)::xs) bx=.val (!(tl zV 1 4&&wi hh 1 9)) bx:=by
 have a:=Vi (bx:=bx) (l:=l) (i:=2) (env:=x0::x1::some (.d zV)::x3::some (.d hh)::xs) bz 4;have b:aG (dB (fj fw 3 (fc (dV 4) (fc zc zbx)))) (x0::x1::some (.d zV)::x3::some (.d hh)::xs) bx=.val (!wi hh 1 9) bx:=
  fU (fZ (fF (fe bz zaE) bz (hw hh 1 9 bx)))
 cases t:tl zV 1 4 with
 |false=>rw[t]at a;exact iA (fU a)
 |true=>rw[t]at a;exact gJ (fU a) b
theorem gY {a b:ah}{w:W}(h:a env bx=.rt w bx1):fm a b env bx=.rt w bx1:=by rw[iN,h]
theorem Nm (d:D) (ok:kS d):gO [.d d] bx=.val (.d (.bl (house d))) bx:=by
 have hw:=FD
 suffices h:∃ b',jo [some (.d d),zy,zy,zy,zy,zy,zy] bx=.rt (.d (.bl (house d))) (bx++b') by
  let#[b',e]:=h;exact(oa e).trans zf
 unfold jo;generalize K1.gE=fw at hw ⊢;have a1:=V2 (xs:=[zy,zy,zy,zy,zy,zy]) (bx:=bx) d;cases c1:t3 d with
 |false=>
   rw[c1]at a1;refine#[[],?_];rw[V3 c1,hZ];exact gY ((iy a1).trans bz)
 |true=>
   rw[c1]at a1;let#[rl,kl,pl,hh,rfl]:=Vh c1;have a2:=V4 (xs:=[some (.d (.tup kl)),some (.d (.tup pl)),some (.d hh),zy,zy]) (bx:=bx) hw (some zR) rl;have a3:=V5 (xs:=[zy,zy]) (bx:=bx) hw (some zR) (some (.d (.tup rl))) (some (.d (.tup pl))) kl hh;have eh:house zW=(rooms (.tup rl)&&((tl (.tup kl) 1 4&&kl.all kind)&&(apart (kl.length:Int) (.tup pl)&&wi hh 1 9))):=rfl;rw[eh];refine(?_:∃ b',_=_);have s1:=fq (b:=(fm (fK (dV 0) zbl)
    (fm (aC (xc fw) zj aF) (fm (aC (ab5 fw) zj aF) (fm (iB (ax (dV 2)) (fg 5) (kB fw)) (fm (fK zbM (fg 6)) (fm (iB (ax (dV 3)) (fg 5) (aB fw)) (fN (dC zc2))))))))) ((iF (a:=fN (dC zag)) (b:=aF) a1).trans bz)
   have s2:fK (dV 0) zbl [some zR,zy,zy,zy,zy,zy,zy] bx=.nx [some zR,some (.d (.tup rl)),some (.d (.tup kl)),some (.d (.tup pl)),some (.d hh),zy,zy] bx:=rfl;have s3:=s1.trans (fq s2);cases c2:rooms (.tup rl) with
   |false=>
     rw[c2]at a2;exact#[[],s3.trans (by rw[hZ];exact gY ((iy a2).trans bz))]
   |true=>
     rw[c2]at a2;have s4:=s3.trans (fq ((iF a2).trans bz));cases c3:(tl (.tup kl) 1 4&&wi hh 1 9) with
     |false=>
       rw[c3]at a3;refine#[[],s4.trans ?_];rw[hZ,show (true&&((tl (.tup kl) 1 4&&kl.all kind)&&(apart (kl.length:Int) (.tup pl)&&wi hh 1 9)))=false by
        rcases Km.mp c3 with z|z<;>simp[z]]
       exact gY ((iy a3).trans bz)
     |true=>
       rw[c3]at a3;rw[ao]at c3;rw[c3.1,c3.2];have s5:=s4.trans (fq ((iF a3).trans bz));let#[w',k1]:=VY hw (some zR) (some (.d (.tup rl))) (some (.d (.tup kl))) (some (.d (.tup pl))) (some (.d hh)) zy bx kl zy;have k2:=(lv (io (m:=dV 2) (env:=[some zR,some (.d (.tup rl)),some (.d (.tup kl)),some (.d (.tup pl)),some (.d hh),zy,zy]) bz)).trans k1;cases c4:kl.all kind with
       |false=>
         rw[c4]at k2;exact#[[],s5.trans (by rw[hZ];exact gY k2)]
       |true=>
         rw[c4]at k2;have s6:=s5.trans (fq k2);have b1:fK zbM (fg 6) [some zR,some (.d (.tup rl)),some (.d (.tup kl)),some (.d (.tup pl)),some (.d hh),w',zy] bx=.nx [some zR,some (.d (.tup rl)),some (.d (.tup kl)),some (.d (.tup pl)),some (.d hh),w',xB bx.length] (bx++[.lst []]):=rfl;let#[w2,bs,l1]:=V1 (x0:=some zR) (x1:=some (.d (.tup rl))) (x3:=some (.d (.tup pl))) (x4:=some (.d hh)) (ks:=kl) (bx:=bx) hw pl [] (-1,-1) w' (.inl #[rfl,rfl]) (by simpa[kS,short] using ok);have l2:=(lv (io (m:=dV 3) (env:=[some zR,some (.d (.tup rl)),some (.d (.tup kl)),some (.d (.tup pl)),some (.d hh),w',xB bx.length]) bz)).trans l1;have s7:=s6.trans (fq b1);refine#[[.lst bs],s7.trans ?_];rw[De]at l2;cases c5:apart (kl.length:Int) (.tup pl) with
         |false=>rw[c5]at l2;exact gY l2
         |true=>rw[c5]at l2;exact(fq l2).trans bz
end
open K2
section
variable {h m x:D} {c:Nat}
theorem T9 {M:ah}{ws:List W}(e:M zad bx=.exc c bx):aL n M ws bx=.exc c bx:=by
 erw[aL,DL.envOf,e,cP,cQ,ua]
theorem V6 (e:aJ.fP [.d h,.d m] bx=.exc c bx):ie [.d h,.d m] bx=.exc c bx:=
 T9 (by unfold jp;exact GP (BV (oW zaE bz e)))
theorem Vj (e:aJ.fP [.d h,.d m] bx=.exc c bx):im [.d h,.d m,.d x] bx=.exc c bx:=
 T9 (by unfold mE;exact GP (BV (oW zaE bz e)))
theorem PL (e:aJ.fP [.d h,.d m] bx=.exc c bx):K54.gQ [.d h,.d m,.d zm,.d x] bx=.exc c bx:=
 T9 (by unfold K54.jv;exact GP (BV (oW zaE bz e)))
abbrev WX:ah:=zat
theorem Dv (i j:Int) {xs:aE}:dB (d2 zw ck (dV 0) (dC (.int j))) (xN i::xs) bx=.val (decide (i=j)) bx:=
 fZ (fL (r:=.old (.bl (decide (i=j)))) bz bz aM.Dh)
theorem RQ (i:Nat) {o:O W}(hi:i<3) (e0:i=0->ie [.d h,.d m] bx=o) (e1:i=1->im [.d h,.d m,.d x] bx=o) (e2:i=2->K54.gQ [.d h,.d m,.d zm,.d x] bx=o) :
 WX zao bx=bI o λw b=>.nx [xN i,some (.d h),some (.d m),some (.d x),some w,zy] b:=by
 have d0:∀ b,(fg 4) b zao=λbx=>some ([xN i,some (.d h),some (.d m),some (.d x),some b,zy],bx):=λb=>rfl;clear d0;match i,hi,e0,e1,e2 with
 |0,_,e0,e1,e2=>
   refine(iy (Dv 0 0)).trans ?_;rw[Au,lH,fe (w:=.d h) (l:=[.d m]) rfl zo,fS,if_pos (by rfl),e0 rfl];rfl
 |1,_,e0,e1,e2=>
   refine(iF (Dv 1 0)).trans ?_;rw[Au];unfold kq;rw[show dB (d2 false ck (dV 0) zc) [xN 1,some (.d h),some (.d m),some (.d x),none,none] bx=.val true bx from Dv 1 1,fS];show bI (fj K54.im 3 (fc (dV 1) (fc (dV 2) zcU)) _ bx) _=_;rw[lH,fe (w:=.d h) (l:=[.d m,.d x]) rfl zaE,fS,if_pos (by rfl),e1 rfl];rfl
 |2,_,e0,e1,e2=>
   refine(iF (Dv 2 0)).trans ?_;rw[Au];unfold kq;rw[show dB (d2 false ck (dV 0) zc) [xN 2,some (.d h),some (.d m),some (.d x),none,none] bx=.val false bx from Dv 2 1,fS];show bI (fj K54.gQ 4 (fc (dV 1) (fc (dV 2) (fc zd zcU))) _ bx) _=_;rw[lH,fe (w:=.d h) (l:=[.d m,.d zm,.d x]) rfl (fe rfl zaE),fS,if_pos (by rfl),e2 rfl];rfl
theorem Nn (e:aJ.fP [.d h,.d m] bx=.exc c bx) (hc:c<17) (hi:i<3):fX [.d zaS,.d h,.d m,.d x] bx=.val (.d (.str (wordOf c))) bx:=by
 refine g9 ?_;show jq zao bx=_;unfold jq;refine gY ?_;show (match WX zao bx with|.exc c bx1=>if c<17 then OS.rt (.d (.str (wordOf c))) bx1 else OS.bad|o=>o)=_;rw[RQ i hi (λ_=>V6 e) (λ_=>Vj e) (λ_=>PL e)];exact if_pos hc
end
end K54
namespace aJ
open L2 L2.DL K1 aM
theorem Dx {α:Type}(l:List α):∀ m,(List.replicate m l).flatten.length=m*l.length
 |0=>by simp
 |m+1=>by rw[t9,uW,cJ,Dx l m,ya];lia
section
variable {k:Nat} 
end
section
variable {k:Nat} {h:D} {x0 x1 x4 x11:Option W}
end
theorem Vk (l:List Int) (hl:l.length<=1000) (bx:List Bx) (xs:aE):∃ c:Nat,cw (fc (dN zw maxD zbO) ff) (some (.s l)::xs) bx=.val (gf 0 c) bx:=by
 have e1:qN (dV 0) (some (.s l)::xs) bx=.val (.d (.int l.length)) bx:=rfl;have e2:dN zw minD (fc (qN (dV 0)) (fc (dC (.int 6)) ff)) (some (.s l)::xs) bx=.val (.d (.int (if (6:Int)<l.length then 6 else l.length))) bx:=gH (r:=.old _) [.int l.length,.int 6] (fe e1 zo) bz;have e3:dN zw maxD zbO (some (.s l)::xs) bx=.val (.d (.int (if (if (6:Int)<l.length then (6:Int) else l.length)>1 then (if (6:Int)<l.length then 6 else l.length) else 1))) bx:=gH (r:=.old _) [.int 1,.int (if (6:Int)<l.length then 6 else l.length)] (fe bz (fe e2 bz)) bz;have e4:=fe (ks:=ff) e3 bz;refine#[_,jA e4 ?_];split<;>split<;>lia
end aJ
namespace cX
open L2 L2.DL aM aJ
noncomputable def dd (l:List Int):List Int:=l.foldl cL []
theorem No (a:List Int) (i x:Int):x∈cL a i ↔ x∈a \/ x=i:=by
 unfold cL;split
 .ext h;let#[y,m,e]:=sH.mp h;have e':y=i:=by simpa using e
  subst e';exact#[.inl,λz=>z.elim id λz=>z▸m]
 .simp
theorem FN {a:List Int}(h:a.Nodup) (i:Int):(cL a i).Nodup:=by
 unfold cL;split
 .exact h
 .ext q;rw[ub];refine#[h,by simp,λx hx y hy e=>q ?_];cases bu.mp hy;subst e;exact sH.mpr #[x,hx,by simp]
theorem AH (a:List Int) (i:Int):(cL a i).length<=a.length+1:=by
 unfold cL;split<;>simp
theorem Np (x:Int):∀ (l a:List Int),x∈l.foldl cL a ↔ x∈a \/ x∈l:=by
 intro l_;induction l_ with
 |nil=>(intro a;simp)
 |cons i l aq=>(intro a;rw[YA,aq,No,aH];exact or_assoc)
theorem AI:∀ (l:List Int) {a:List Int},a.Nodup->(l.foldl cL a).Nodup
 |[],_,h=>h
 |i::l,_,h=>AI l (FN h i)
theorem Nq {x:Int}{l:List Int}:x∈dd l ↔ x∈l:=by rw[dd,Np];simp
theorem Dy (l:List Int):(dd l).Nodup:=AI l YI
theorem jH {x:Int}{l:List Int}:x∈sortI l ↔ x∈l:=(gU l).mem_iff
theorem lz {l:List Int}(h:l.Nodup):(sortI l).Nodup:=(gU l).nodup_iff.mpr h
theorem oh (l:List Int):(sortI l).length=l.length:=(gU l).length_eq
theorem jX {l:List Int}(p:Int->Bool) (h:l.Nodup):(l.filter p).Nodup:=List.filter_sublist.nodup h
def nm (ps:List (Int×Int)):List Int:=sortI (dd (ps.flatMap λq=>[q.1,q.2]))
theorem BZ {x:Int}:x∈nm ps ↔ ∃ q∈ps,x=q.1 \/ x=q.2:=by
 rw[nm,jH,Nq,List.mem_flatMap];simp
theorem Dz (ps:List (Int×Int)):(nm ps).Nodup:=lz (Dy _)
section
variable {k:Nat} 
theorem DA (M:Mv k ps) {x:Int}(h:x∈nm ps):0<=x /\ x<(k:Int):=by
 let#[q,m,e]:=BZ.mp h;let#[a,b,c,d,_]:=M q m;rcases e with rfl|rfl
 .exact#[a,b]
 .exact#[c,d]
noncomputable abbrev rg (k:Nat):List Int:=(List.range k).map λ(i:Nat)=>(i:Int)
theorem Ua {x:Int}:x∈rg k ↔ 0<=x /\ x<(k:Int):=by
 erw[rg,bU,List.mem_range];constructor
 .rintro⟨a,h,rfl⟩;lia
 .rintro⟨h1,h2⟩;exact#[x.toNat,by lia,by lia]
theorem Ub:(rg k).length=k:=by simp
theorem FO {l:List Int}(h:l.Nodup) (hb:∀ x∈l,0<=x /\ x<(k:Int)):l.length<=k:=by
 have:=h.length_le_of_subset (l₂:=rg k) λx m=>Ua.mpr (hb x m)
 rwa [Ub]at this
theorem B1 (M:Mv k ps):(nm ps).length<=k:=FO (Dz ps) λ_ h=>DA M h
end
noncomputable def Ch (ps:List (Int×Int)):List Int->uu
 |[]=>True
 |[_]=>True
 |a::b::l=>(a,b)∈ps /\ Ch ps (b::l)
noncomputable def la (p:List Int):Int:=p.getLastD 0
noncomputable def fi (p:List Int):Int:=p.headD 0
theorem GU (p:List Int) (x:Int):la (p++[x])=x:=by simp[la]
theorem GV (a b:Int) (l:List Int):la (a::b::l)=la (b::l):=by simp[la]
theorem Nr (u:List Int) (a:Int) (v:List Int):la (u++a::v)=la (a::v):=by
 induction u with
 |nil=>rfl
 |cons b u ih=>
   cases u with
   |nil=>rfl
   |cons c u=>exact ih
theorem Nt:∀ {p:List Int},p≠[]->la p∈p
 |[],h=>absurd bz h
 |[a],_=>by simp[la]
 |a::b::l,_=>by rw[GV];exact .tail _ (Nt zf)
theorem Ch.app:∀ {u:List Int}{a:Int}{v:List Int},Ch ps (u++a::v) ↔ Ch ps (u++[a]) /\ Ch ps (a::v)
 |[],a,v=>by simp[Ch]
 |[b],a,v=>by simp[Ch]
 | b::c::u,a,v=>by
   have ih:=Ch.app (u:=c::u) (a:=a) (v:=v);show ((b,c)∈ps /\ Ch ps (c::u++a::v)) ↔ ((b,c)∈ps /\ Ch ps (c::u++[a])) /\ Ch ps (a::v);rw[ih];exact and_assoc.symm
theorem Ch.snoc:∀ {p:List Int}{x:Int},p≠[]->(Ch ps (p++[x]) ↔ Ch ps p /\ (la p,x)∈ps)
 |[],_,h=>absurd bz h
 |[a],x,_=>by simp[Ch,la]
 | a::b::l,x,_=>by
   have ih:=Ch.snoc (p:=b::l) (x:=x) zf;show ((a,b)∈ps /\ Ch ps (b::l++[x])) ↔ ((a,b)∈ps /\ Ch ps (b::l)) /\ (la (a::b::l),x)∈ps;rw[ih,GV];exact and_assoc.symm
structure Cy (ps:List (Int×Int)) (c:List Int):uu where
 n:c≠[]
 ch:Ch ps c
 cl:(la c,fi c)∈ps
theorem Cy.turn {u v:List Int}(h:Cy ps (u++v)) (hu:u≠[]) (hv:v≠[]):Cy ps (v++u):=by
 let#[a,u,rfl]:=sF hu;let#[b,v,rfl]:=sF hv;let#[h1,h2]:=Ch.app.mp h.ch;let#[h3,h4]:=(Ch.snoc zf).mp h1;have c:=h.cl;rw[Nr]at c;refine#[by simp,Ch.app.mpr #[(Ch.snoc zf).mpr #[h2,c],h3],?_];rw[Nr];exact h4
theorem Ch.pre:∀ {c:List Int},Ch ps c->∀ x∈c,x=fi c \/ ∃ y∈c,(y,x)∈ps
 |[],_,x,m=>nomatch m
 |[a],_,x,m=>.inl (bu.mp m)
 | a::b::l,h,x,m=>by
   rcases aH.mp m with rfl|m
   .exact .inl bz
   .rcases Ch.pre h.2 x m with e|⟨y,my,q⟩
    .exact .inr #[a,.head _,by rw[e];exact h.1]
    .exact .inr #[y,.tail _ my,q]
theorem Cy.pre {c:List Int}(h:Cy ps c) {x:Int}(m:x∈c):∃ y∈c,(y,x)∈ps:=by
 rcases h.ch.pre x m with rfl|q
 .exact#[la c,Nt h.n,h.cl]
 .exact q
def Core (ps:List (Int×Int)) (S:List Int):uu:=S≠[] /\ ∀ x∈S,∃ y∈S,(y,x)∈ps
theorem Nu {S:List Int}(C:∀ x∈S,∃ y∈S,(y,x)∈ps):∀ (n:Nat) (c:List Int),S.length-c.length<=n->c≠[]->c.Nodup->Ch ps c->(∀ x∈c,x∈S)->∃ d,Cy ps d /\ d.Nodup /\ ∀ x∈d,x∈S:=by
 intro n;induction n with
 |zero=>
   intro c hn h0 hd hc hs;let#[a,l,rfl]:=sF h0;let#[y,my,e]:=C a (hs a (.head _));by_cases hy:y∈a::l
   .let#[u,v,q]:=E6 hy;rw[q]at hc hd hs;have hf:fi (u++[y])=a:=by cases u with|nil=>cases q;rfl|cons b u=>cases q;rfl
    refine#[u++[y],#[by simp,(Ch.app.mp hc).1,by rw[GU,hf];exact e],?_,λx m=>hs x ?_]
    .refine List.Sublist.nodup ?_ hd;exact List.Sublist.append (List.Sublist.refl _) (List.Sublist.cons₂ _ (YZ _))
    .rcases cZ.mp m with m|m
     .exact dM _ m
     .exact cD _ (by cases bu.mp m;exact .head _)
   .have:=(sI.mpr #[hy,hd]).length_le_of_subset (l₂:=S) λx m=>by
     rcases aH.mp m with rfl|m
     .exact my
     .exact hs x m
    simp at this hn;lia
 |succ n ih=>
   intro c hn h0 hd hc hs;let#[a,l,rfl]:=sF h0;let#[y,my,e]:=C a (hs a (.head _));by_cases hy:y∈a::l
   .let#[u,v,q]:=E6 hy;rw[q]at hc hd hs;have hf:fi (u++[y])=a:=by cases u with|nil=>cases q;rfl|cons b u=>cases q;rfl
    refine#[u++[y],#[by simp,(Ch.app.mp hc).1,by rw[GU,hf];exact e],?_,λx m=>hs x ?_]
    .refine List.Sublist.nodup ?_ hd;exact List.Sublist.append (List.Sublist.refl _) (List.Sublist.cons₂ _ (YZ _))
    .rcases cZ.mp m with m|m
     .exact dM _ m
     .exact cD _ (by cases bu.mp m;exact .head _)
   .refine ih (y::a::l) (by simp at hn ⊢;lia) zf (sI.mpr #[hy,hd]) #[e,hc] λx m=>?_;rcases aH.mp m with rfl|m
    .exact my
    .exact hs x m
theorem Bu:∀ {l:List Int},l≠[]->∃ u m v,l=u++m::v /\ ∀ x∈l,m<=x
 |[],h=>absurd bz h
 |[a],_=>#[[],a,[],rfl,λx m=>by cases bu.mp m;lia]
 | a::b::l,_=>by
   let#[u,m,v,e,h]:=Bu (l:=b::l) zf;by_cases q:a<=m
   .refine#[[],a,b::l,rfl,λx mx=>?_];rcases aH.mp mx with rfl|mx
    .lia
    .have:=h x mx;lia
   .refine#[a::u,m,v,by rw[e];rfl,λx mx=>?_];rcases aH.mp mx with rfl|mx
    .lia
    .exact h x mx
theorem PM {S:List Int}(C:Core ps S):∃ d,Cy ps d /\ d.Nodup /\ (∀ x∈d,x∈S) /\ ∀ x∈d,fi d<=x:=by
 let#[h0,h1]:=C;let#[a,l,rfl]:=sF h0;let#[d,c1,c2,c3]:=Nu h1 _ [a] (au _) zf zf trivial (λx m=>by cases bu.mp m;exact .head _);let#[u,m,v,e,hm]:=Bu c1.n;subst e;cases u with
 |nil=>exact#[_,c1,c2,c3,λx mx=>hm x mx]
 |cons b u=>
   have pm:(m::v++b::u).Perm (b::u++m::v):=List.perm_append_comm;exact#[m::v++b::u,c1.turn zf zf,pm.nodup_iff.mpr c2,λx mx=>c3 x (pm.mem_iff.mp mx),λx mx=>hm x (pm.mem_iff.mp mx)]
theorem Cy.named {c:List Int}(h:Cy ps c) {x:Int}(m:x∈c):x∈nm ps:=by
 let#[y,_,e]:=h.pre m;exact BZ.mpr #[_,e,.inr bz]
section
variable {k:Nat} 
def pQ (ps:List (Int×Int)) (p:List Int):List Int:=sortI (dd ((ps.filter λq=>decide (q.1=la p)&&decide (fi p<=q.2)).map λq=>q.2))
theorem oX {x:Int}:x∈pQ ps p ↔ (la p,x)∈ps /\ fi p<=x:=by
 rw[pQ,jH,Nq,bU];constructor
 .rintro⟨⟨a,b⟩,m,rfl⟩;rw[kh]at m;let#[m,h]:=m;erw[ao,decide_eq_true_eq]at h;let#[h1,h2]:=h;exact#[h1▸m,h2]
 .rintro⟨m,h⟩;exact#[(la p,x),kh.mpr #[m,by simp[h]],rfl]
theorem La (p:List Int):(pQ ps p).Nodup:=lz (Dy _)
theorem B2 (M:Mv k ps) (p:List Int):(pQ ps p).length<=k:=FO (La p) λx m=>DA M (BZ.mpr #[_,(oX.mp m).1,.inr bz])
def tU (ps:List (Int×Int)) (p:List Int):List (List Int):=((pQ ps p).filter λr=>!decide (r∈p)).map λr=>p++[r]
def lvl (ps:List (Int×Int)):Nat->List (List Int)
 |0=>(nm ps).map λr=>[r]
 |j+1=>(lvl ps j).flatMap (tU ps)
structure pR (ps:List (Int×Int)) (p:List Int):uu where
 ne:p≠[]
 nd:p.Nodup
 ch:Ch ps p
 ge:∀ x∈p,fi p<=x
 nm:∀ x∈p,x∈nm ps
theorem B3 (h:p≠[]) (x:Int):fi (p++[x])=fi p:=by
 let#[a,l,rfl]:=sF h;rfl
theorem oj:∀ {j:Nat}{p:List Int},p∈lvl ps j->pR ps p /\ p.length=j+1:=by
 intro l_;induction l_ with
 |zero=>
   intro p h;let#[r,m,rfl]:=bU.mp h;exact#[#[by simp,by simp,trivial,λx mx=>by cases bu.mp mx;exact bP _,λx mx=>by cases bu.mp mx;exact m],rfl]
 |succ j aq=>
   intro p h;let#[q,mq,h]:=List.mem_flatMap.mp h;let#[P,l]:=aq mq;let#[r,mr,rfl]:=bU.mp h;rw[kh]at mr;let#[m1,m2]:=mr;have nr:r∉q:=by simpa using m2
   let#[e,g]:=oX.mp m1;refine#[#[by simp,?_,(Ch.snoc P.ne).mpr #[P.ch,e],λx mx=>?_,λx mx=>?_],by simp[l]]
   .rw[ub];exact#[P.nd,by simp,λx hx y hy z=>nr (by cases bu.mp hy;exact z▸hx)]
   .rw[B3 P.ne];rcases cZ.mp mx with mx|mx
    .exact P.ge x mx
    .cases bu.mp mx;exact g
   .rcases cZ.mp mx with mx|mx
    .exact P.nm x mx
    .cases bu.mp mx;exact BZ.mpr #[_,e,.inr bz]
theorem PN (h:p.length=n+2):∃ q x,p=q++[x] /\ q.length=n+1 /\ q≠[]:=by
 have h0:p≠[]:=by intro z;subst z;simp at h
 refine#[p.dropLast,p.getLast h0,(List.dropLast_concat_getLast h0).symm,by simp[h],λz=>?_];have:p.dropLast.length=n+1:=by simp[h]
 rw[z]at this;simp at this
theorem Nv:∀ {j:Nat}{p:List Int},pR ps p->p.length=j+1->p∈lvl ps j:=by
 intro l_;induction l_ with
 |zero=>
   intro p P l;match p,l with
   |[a],_=>exact bU.mpr #[a,P.nm a (.head _),rfl]
 |succ j aq=>
   intro p P l;let#[q,x,rfl,lq,hq]:=PN l;let#[c1,c2]:=(Ch.snoc hq).mp P.ch;have nd:=ub.mp P.nd;have PQ:pR ps q:=#[hq,nd.1,c1,λy m=>by have:=P.ge y (dM _ m);rwa [B3 hq]at this,λy m=>P.nm y (dM _ m)];refine List.mem_flatMap.mpr #[q,aq PQ lq,bU.mpr #[x,kh.mpr #[oX.mpr #[c2,?_],?_],rfl]]
   .have:=P.ge x (cD _ (bu.mpr bz));rwa [B3 hq]at this
   .erw[qr,decide_eq_false_iff_not];exact λm=>nd.2.2 x m x (bu.mpr bz) bz
theorem pR.len (M:Mv k ps) (P:pR ps p):p.length<=k:=FO P.nd λx m=>DA M (P.nm x m)
theorem GW (M:Mv k ps) (h:k<=j):lvl ps j=[]:=by
 cases e:lvl ps j with
 |nil=>rfl
 |cons p l=>
   let#[P,q]:=oj (ps:=ps) (j:=j) (p:=p) (by rw[e];exact .head _);have:=P.len M;lia
theorem Uc:∀ {l:List Nat}{n:Nat},(∀ x∈l,x<=n)->l.sum<=l.length*n:=by
 intro l_;induction l_ with
 |nil=>(intro _ _;simp)
 |cons a l aq=>
   intro n h;have h1:=h a (.head _);have h2:=aq λx m=>h x (.tail _ m);rw[List.sum_cons,bp,ya];lia
theorem B4 (M:Mv k ps) (p:List Int):(tU ps p).length<=k:=by
 rw[tU,aS];exact br (E7 _ _) (B2 M p)
theorem GX (M:Mv k ps) (k5:k<=5):∀ j,(lvl ps j).length<=5 ^ (j+1)
 |0=>by rw[lvl,aS];have:=B1 M;lia
 | j+1=>by
   have h:=GX M k5 j;have h2:=Uc (l:=(lvl ps j).map λa=>(tU ps a).length) (n:=5) λx m=>by
    let#[a,_,rfl]:=bU.mp m;exact br (B4 M a) k5
   rw[lvl,List.length_flatMap];rw[aS]at h2;rw[Yt];lia
def rX (ps:List (Int×Int)) (p:List Int):Bool:=decide (fi p∈pQ ps p)
noncomputable def has (d:List zaM) (q:List Int):Bool:=d.any λx=>decide (x.1=q)
def ins (ps:List (Int×Int)) (d:List zaM) (p:List Int):List zaM:=if rX ps p then (if has d (sortI p) then d else d++[(sortI p,p)]) else d
def bZ (ps:List (Int×Int)):Nat->List zaM
 |0=>[]
 |j+1=>(lvl ps j).foldl (ins ps) (bZ ps j)
structure EC (ps:List (Int×Int)) (d:List (List Int×List Int)):uu where
 a:∀ x∈d,x.1=sortI x.2 /\ pR ps x.2 /\ rX ps x.2=zO
 n:(d.map (·.1)).Nodup
theorem GY {d:List zaM}{q:List Int}:has d q=zO ↔ q∈d.map (·.1):=by
 unfold has;rw[sH,bU];constructor
 .rintro⟨x,m,e⟩;exact#[x,m,of_decide_eq_true e]
 .rintro⟨x,m,e⟩;exact#[x,m,decide_eq_true e]
theorem Ud {d:List zaM}(h:EC ps d) (P:pR ps p):EC ps (ins ps d p):=by
 unfold ins;split
 .ext c;split
  .exact h
  .ext q;refine#[λx m=>?_,?_]
   .rcases cZ.mp m with m|m
    .exact h.a x m
    .cases bu.mp m;exact#[rfl,P,c]
   .rw[pG,ub];exact#[h.n,by simp,λx hx y hy e=>q (GY.mpr (by cases bu.mp hy;have e':x=sortI p:=e;exact e'▸hx))]
 .exact h
theorem Nw {d:List zaM}{q:List Int}(h:q∈d.map (·.1)):q∈(ins ps d p).map (·.1):=by
 unfold ins;split
 .split
  .exact h
  .rw[pG];exact dM _ h
 .exact h
theorem PP {d:List zaM}(c:rX ps p=zO):sortI p∈(ins ps d p).map (·.1):=by
 unfold ins;rw[if_pos c];split
 .ext q;exact GY.mp q
 .simp
theorem GZ:∀ {l:List (List Int)}{d:List zaM},EC ps d->(∀ p∈l,pR ps p)->EC ps (l.foldl (ins ps) d) /\ (∀ q∈d.map (·.1),q∈(l.foldl (ins ps) d).map (·.1)) /\ ∀ p∈l,rX ps p=zO->sortI p∈(l.foldl (ins ps) d).map (·.1)
 |[],d,h,_=>#[h,λq m=>m,λp m=>nomatch m]
 | a::l,d,h,P=>by
   let#[h1,h2,h3]:=GZ (l:=l) (Ud h (P a (.head _))) λp m=>P p (.tail _ m);refine#[h1,λq m=>h2 q (Nw m),λp m c=>?_];rcases aH.mp m with rfl|m
   .exact h2 _ (PP c)
   .exact h3 p m c
theorem FP:∀ j,EC ps (bZ ps j) /\ ∀ i<j,∀ p∈lvl ps i,rX ps p=zO->sortI p∈(bZ ps j).map (·.1)
 |0=>#[#[(λx m=>nomatch m),.nil],λi h=>absurd h (Kq _)]
 | j+1=>by
   let#[h1,h2]:=FP j;let#[f1,f2,f3]:=GZ (l:=lvl ps j) h1 λp m=>(oj m).1;refine#[f1,λi hi p m c=>?_];rcases EX i j with q|q
   .exact f2 _ (h2 i q p m c)
   .have:i=j:=by lia
    subst this;exact f3 p m c
theorem FQ (P:pR ps p):rX ps p=zO ↔ Cy ps p:=by
 rw[rX,decide_eq_true_eq,oX];exact#[λh=>#[P.ne,P.ch,h.1],λh=>#[h.cl,bP _]]
structure xt (k:Nat) (ps:List (Int×Int)) (rs:List (List Int)):uu where
 p:∀ r∈rs,pR ps r /\ Cy ps r
 l:rs.length<=26
 f:∀ S,Core ps S->∃ r∈rs,∀ x∈r,x∈S
end
theorem PR {l:List Int}{x:Int}(h:(l++[x]).Pairwise (·<·)):l.Pairwise (·<·) /\ ∀ y∈l,y<x:=by
 rw[KG]at h;exact#[h.1,λy m=>h.2.2 y m x (bu.mpr bz)]
theorem B5:∀ {k:Nat}{s:List Int},s.Pairwise (·<·)->(∀ x∈s,0<=x /\ x<(k:Int))->s∈subs k
 | 0,s,_,hb=>by
   cases s with
   |nil=>simp[subs]
   |cons a l=>have:=hb a (.head _);lia
 | k+1,s,h,hb=>by
   by_cases m:(k:Int)∈s
   .let#[u,v,e]:=E6 m;subst e;have hv:v=[]:=by
     cases v with
     |nil=>rfl
     |cons b v=>
       have h1:=(KG.mp h).2.1;have h2:=(List.pairwise_cons.mp h1).1 b (.head _);have h3:=hb b zf;lia
    subst hv;let#[h1,h2]:=PR h;have:=B5 (k:=k) h1 λx mx=>#[(hb x (dM _ mx)).1,h2 x mx];erw[subs,cZ,bU];exact .inr #[u,this,rfl]
   .have:=B5 (k:=k) h λx mx=>by
     have h1:=hb x mx;have:x≠(k:Int):=λz=>m (z▸mx);lia
    erw[subs,cZ];exact .inl this
theorem Nx {l:List Int}(h:l.Pairwise (·<=·)) (n:l.Nodup):l.Pairwise (·<·):=by
 induction l with
 |nil=>exact .nil
 |cons a l ih=>
   rw[List.pairwise_cons]at h ⊢;rw[sI]at n;exact#[λx m=>by have:=h.1 x m;have:a≠x:=λz=>n.1 (z▸m);lia,ih h.2 n.2]
section
variable {k:Nat} 
theorem Ny (M:Mv k ps) (k5:k<=5) (j:Nat):(bZ ps j).length<=26:=by
 let#[h1,_]:=FP (ps:=ps) j;rw[<-aS (f:=λx:List Int×List Int=>x.1)];have sub:∀ q∈(bZ ps j).map (·.1),q∈(subs 5).filter λs=>decide (2<=s.length):=λq m=>by
  let#[x,mx,rfl]:=bU.mp m;let#[e1,P,c]:=h1.a x mx;have cy:=(FQ P).mp c;refine kh.mpr #[B5 (Nx (by rw[e1];exact iC _) (by rw[e1];exact lz P.nd)) λy my=>?_,?_]
  .have my:y∈sortI x.2:=e1▸my;have:=DA M (P.nm y (jH.mp my));lia
  .rw[decide_eq_true_eq,e1,oh];match hx:x.2,P.ne with
   |[a],_=>
     have:=cy.cl;rw[hx]at this;exact absurd bz (M _ this).2.2.2.2
   |a::b::l,_=>simp
 have:=h1.n.length_le_of_subset (l₂:=(subs 5).filter λs=>decide (2<=s.length)) λq m=>sub q m;exact br this za
theorem Ue (M:Mv k ps) (k5:k<=5) (e:lvl ps j=[]):xt k ps ((bZ ps j).map (·.2)):=by
 let#[h1,h2]:=FP (ps:=ps) j;have all:∀ i,j<=i->lvl ps i=[]:=λi hi=>by
  induction hi with
  |refl=>exact e
  |step _ ih=>rw[lvl,ih];rfl
 refine#[λr m=>?_,?_,λS C=>?_]
 .let#[x,mx,rfl]:=bU.mp m;let#[_,P,c]:=h1.a x mx;exact#[P,(FQ P).mp c]
 .rw[aS];exact Ny M k5 j
 .let#[d,c1,c2,c3,c4]:=PM C;have P:pR ps d:=#[c1.n,c2,c1.ch,c4,λx m=>c1.named m];obtain⟨i,hi⟩:∃ i,d.length=i+1:=by
   let#[a,l,rfl]:=sF c1.n;exact#[l.length,rfl]
  have mi:=Nv P hi;have ij:i<j:=by
   rcases EX i j with q|q
   .exact q
   .rw[all i q]at mi;cases mi
  let#[x,mx,ex]:=bU.mp (h2 i ij d mi ((FQ P).mpr c1));let#[e1,_,_]:=h1.a x mx;refine#[x.2,bU.mpr #[x,mx,rfl],λy my=>c3 y ?_];have:y∈sortI d:=by rw[<-ex,e1];exact jH.mpr my
  exact jH.mp this
end
section
variable {k:Nat} 
def rest (ps:List (Int×Int)) (T:List Int):List Int:=(nm ps).filter λx=>!decide (x∈T)
theorem Nz {T:List Int}{x:Int}:x∈rest ps T ↔ x∈nm ps /\ x∉T:=by simp[rest]
def Ip (ps:List (Int×Int)) (L:List Int):uu:=∀ S,Core ps S->¬ ∀ x∈S,x∈L
theorem Lb (R:xt k ps rs) {T:List Int}(h:tR rs T=zO):Ip ps (rest ps T):=λS C hS=>by
 let#[r,mr,hr]:=R.f S C;unfold tR at h;let#[x,mx,hx]:=sH.mp (cK.mp h r mr);exact(Nz.mp (hS x (hr x (of_decide_eq_true hx)))).2 mx
def a8 (rooms told:List Int):List Int:=rooms.filter λx=>!decide (x∈told)
noncomputable def di (ps:List (Int×Int)) (w:List Int):List Int:=(ps.filter λq=>decide (q.1∈w)).map λq=>q.2
def vT (ps:List (Int×Int)) (rooms told:List Int):List Int:=told++(a8 rooms told).filter λx=>!decide zcR
theorem G0 {w:List Int}{x:Int}:x∈di ps w ↔ ∃ a∈w,(a,x)∈ps:=by
 unfold di;rw[bU];constructor
 .rintro⟨⟨a,b⟩,m,rfl⟩;rw[kh]at m;exact#[a,of_decide_eq_true m.2,m.1]
 .rintro⟨a,ma,m⟩;exact#[(a,x),kh.mpr #[m,decide_eq_true ma],rfl]
structure Told (ps:List (Int×Int)) (rooms told:List Int):uu where
 nd:told.Nodup
 sub:∀ x∈told,x∈rooms
 ord:∀ u b v,told=u++b::v->∀ a∈rooms,(a,b)∈ps->a∈u
theorem Lc {rooms told:List Int}(T:Told ps rooms told) (hr:rooms.Nodup):Told ps rooms (vT ps rooms told):=by
 have hw:∀ x∈(a8 rooms told).filter λx=>!decide zcR,x∈rooms /\ x∉told /\ ∀ a∈rooms,(a,x)∈ps->a∈told:=λx mx=>by
  rw[kh]at mx;let#[m1,m2]:=mx;rw[a8,kh]at m1;have nb:x∉di ps zT:=by simpa using m2
  refine#[m1.1,by simpa using m1.2,λa ma e=>?_];by_cases ht:a∈told
  .exact ht
  .exact absurd (G0.mpr #[a,kh.mpr #[ma,by simpa using ht],e]) nb
 refine#[?_,λx mx=>?_,λu b v e a ma ab=>?_]
 .unfold vT;rw[ub];exact#[T.nd,jX _ (jX _ hr),λx mx y my z=>(hw y my).2.1 (z▸mx)]
 .rcases cZ.mp mx with mx|mx
  .exact T.sub x mx
  .exact(hw x mx).1
 .unfold vT at e;rcases List.append_eq_append_iff.mp e with⟨c,h1,h2⟩|⟨c,h1,h2⟩
  .have mb:b∈(a8 rooms told).filter λx=>!decide zcR:=by rw[h2];simp
   rw[h1];exact dM _ ((hw b mb).2.2 a ma ab)
  .cases c with
   |nil=>
     rw[hZ]at h1;have mb:b∈(a8 rooms told).filter λx=>!decide zcR:=by rw[<-E4 (List.filter _ _),<-h2];simp
     rw[<-h1];exact(hw b mb).2.2 a ma ab
   |cons b' c=>
     cases h2;exact T.ord u b c h1 a ma ab
theorem Ld {rooms told:List Int}(hr:rooms.Nodup) (F:Ip ps rooms) (h:told.length<rooms.length):told.length<(vT ps rooms told).length:=by
 have hw:a8 rooms told≠[]:=λz=>by
  have:=hr.length_le_of_subset (l₂:=told) λx mx=>by
   by_cases ht:x∈told
   .exact ht
   .have:x∈a8 rooms told:=kh.mpr #[mx,by simpa using ht];rw[z]at this;cases this
  lia
 have:∃ x∈a8 rooms told,x∉di ps zT:=by
  cases e:(a8 rooms told).find? λx=>!decide zcR with
  |some x=>exact#[x,List.mem_of_find?_eq_some e,by have:=List.find?_some e;simpa using this]
  |none=>
    rw[List.find?_eq_none]at e;exact absurd (λx mx=>(kh.mp mx).1) (F zT #[hw,λx mx=>by
     have:x∈di ps zT:=by simpa using e x mx
     exact G0.mp this])
 let#[x,mx,hx]:=this;unfold vT;rw[cJ];have:0<((a8 rooms told).filter λx=>!decide zcR).length:=List.length_pos_of_mem (a:=x) (kh.mpr #[mx,by simpa using hx]);lia
end
open K1
section
theorem mI {g:DG}{k:DK}{w:W}{l:List W}{env1 aX:aE}{bx2 aP:List Bx}{n2:List Int}(h1:g w env bx=some (env1,bx1)) (h2:tf env1 bx1=.val zO bx2) (h3:k env1 bx2 ns=some (aX,aP,n2)):kH g tf k (w::l) env bx ns=kH g tf k l aX aP n2:=by
 erw[kH,h1,h2,h3,if_true]
theorem NA {g:DG}{k:DK}{w:W}{l:List W}{env1:aE}{bx2:List Bx}(h1:g w env bx=some (env1,bx1)) (h2:tf env1 bx1=.val zw bx2):kH g tf k (w::l) env bx ns=kH g tf k l env1 bx2 ns:=by
 erw[kH,h1,h2,wu,if_false]
theorem AJ {i:Int}(h:te env bx=.val (.d zaS) bx1) (hl:ns.length+1<4000):kG te env bx ns=some (env,bx1,cL ns i):=by
 unfold kG;rw[h];exact if_pos hl
theorem PU:∀ (l:List (Int×Int)) (x0 x1:Option W) (ns:List Int),ns.length+2*l.length<3000 ->
 ∃ y0 y1,kH (fg 0) fG (vQ zbX (fg 1) fG (kG (dV 1))) ((l.map dP).map W.d) [x0,x1] bx ns=some ([y0,y1],bx,(l.flatMap λq=>[q.1,q.2]).foldl cL ns):=by
 intro l_;induction l_ with
 |nil=>exact λx0 x1 ns _=>#[x0,x1,rfl]
 |cons q l aq=>
   intro x0 x1 ns h;rw[bp]at h;have s1:=AH ns q.1;have s2:=AH (cL ns q.1) q.2;let#[y0,y1,e]:=aq (some (.d (dP q))) (xN q.2) (cL (cL ns q.1) q.2) zb;refine#[y0,y1,?_];have i1:vQ zbX (fg 1) fG (kG (dV 1)) [some (.d (dP q)),x1] bx ns=some ([some (.d (dP q)),xN q.2],bx,cL (cL ns q.1) q.2):=by
    show kH (fg 1) fG (kG (dV 1)) [.d (.int q.1),.d (.int q.2)] [some (.d (dP q)),x1] bx ns=_;rw[mI (env1:=[some (.d (dP q)),xN q.1]) (bx1:=bx) (bx2:=bx) rfl rfl (AJ (i:=q.1) rfl zb),mI (env1:=[some (.d (dP q)),xN q.2]) (bx1:=bx) (bx2:=bx) rfl rfl (AJ (i:=q.2) rfl zb)];rfl
   rw[bh,bh,mI (env1:=[some (.d (dP q)),x1]) (bx1:=bx) (bx2:=bx) rfl rfl i1,e];rfl
theorem lQ {k:Nat}(M:Mv k ps) (k5:k<=5) (hl:ps.length<=10):gu [.d zbS] bx=.val (.d (.lst ((nm ps).map D.int))) bx:=by
 refine g9 ?_;let#[y0,y1,e]:=PU (bx:=bx) ps zy zy [] zS;have l1:(dd (ps.flatMap λq=>[q.1,q.2])).length<64:=by
  have:=B1 M;rw[nm,oh]at this;lia
 show lO [xP ps] bx=_;refine gx ?_;unfold qX;rw[show ax (dV 0) [xP ps] bx=.val ((ps.map dP).map W.d) bx from rfl,fS];rw[show cR [none,none] [some (W.d zbS)]=[none,none] from rfl,e];exact if_pos l1
abbrev Iq:DE Bool:=qG (dB (d2 zw ck (dV 0) (d2 zw ak (dV 2) (eE zc)))) (dB (d2 zw pf (dV 1) (d2 zw ak (dV 2) zd)))
theorem Vl (h:p≠[]):bA (p.map D.int) (-1)=some (.int (la p)):=by
 have l:0<p.length:=List.length_pos_iff.mpr h;unfold bA;rw[aS,AC l];have e:p.getLast h=la p:=by
  unfold la;rw[List.getLastD_eq_getLast?,List.getLast?_eq_some_getLast h];rfl
 rw[bD,ke,<-e,List.getLast_eq_getElem];simp[l]
theorem RR (h:p≠[]):bA (p.map D.int) 0=some (.int (fi p)):=by
 let#[a,l,rfl]:=sF h;unfold bA dE;rw[if_pos (bP 0),if_pos zf];rfl
theorem Uf (h:p≠[]) (a b:Int):Iq [xN a,xN b,xU p] bx=.val (decide (a=la p)&&decide (fi p<=b)) bx:=by
 have e1:dB (d2 zw ck (dV 0) (d2 zw ak (dV 2) (eE zc))) [xN a,xN b,xU p] bx=.val (decide (a=la p)) bx:=
  fZ (fL (r:=.old (.bl (decide (a=la p)))) (x:=.int a) (y:=.int (la p)) bz (fL (r:=.old (.int (la p))) (x:=tupI p) (y:=.int (-1)) bz bz (by show (bA (p.map D.int) (-1)).map Res.old=_;rw[Vl h];rfl)) bz)
 have e2:dB (d2 zw pf (dV 1) (d2 zw ak (dV 2) zd)) [xN a,xN b,xU p] bx=.val (decide (fi p<=b)) bx:=
  fZ (fL (r:=.old (.bl (decide (fi p<=b)))) (x:=.int b) (y:=.int (fi p)) bz (fL (r:=.old (.int (fi p))) (x:=tupI p) (y:=.int 0) bz bz (by show (bA (p.map D.int) 0).map Res.old=_;rw[RR h];rfl)) bz)
 cases q:decide (a=la p) with
 |false=>rw[q]at e1;exact FA e1
 |true=>rw[q]at e1;exact FB e1 e2
theorem NB (hp:p≠[]):∀ (l:List (Int×Int)) (x0 x1:Option W) (ns:List Int),ns.length+l.length<3000 ->
 ∃ y0 y1,kH gP Iq (kG (dV 1)) ((l.map dP).map W.d) [x0,x1,xU p] bx ns=some ([y0,y1,xU p],bx,((l.filter λq=>decide (q.1=la p)&&decide (fi p<=q.2)).map λq=>q.2).foldl cL ns):=by
 intro l_;induction l_ with
 |nil=>exact λx0 x1 ns _=>#[x0,x1,rfl]
 |cons q l aq=>
   intro x0 x1 ns h;rw[bp]at h;have s1:=AH ns q.2;have e0:gP (W.d (dP q)) [x0,x1,xU p] bx=some ([some (W.d (.int q.1)),some (W.d (.int q.2)),xU p],bx):=rfl;have t:=Uf (bx:=bx) hp q.1 q.2;cases c:decide (q.1=la p)&&decide (fi p<=q.2) with
   |false=>
     let#[y0,y1,e]:=aq (xN q.1) (xN q.2) ns zb;rw[c]at t;exact#[y0,y1,by rw[bh,bh,NA e0 t,e,KA (by rw[c];decide)]]
   |true=>
     let#[y0,y1,e]:=aq (xN q.1) (xN q.2) (cL ns q.2) zb;rw[c]at t;refine#[y0,y1,?_];rw[bh,bh,mI e0 t (AJ (i:=q.2) rfl zb),e,KC (p:=λ(q:Int×Int)=>decide (q.1=la p)&&decide (fi p<=q.2)) c];rfl
theorem Vm {k:Nat}(M:Mv k ps) (k5:k<=5) (hl:ps.length<=10) (hp:p≠[]) (h0:env[0]?=some (xP ps)) (h4:env[4]?=some (xU p)) :
 qX zw [zy,zy,some 4] zbX gP Iq (kG (dV 1)) env bx=.val (.d (.lst ((pQ ps p).map D.int))) bx:=by
 let#[y0,y1,e]:=NB (bx:=bx) hp ps zy zy [] zS;have l1:(dd ((ps.filter λq=>decide (q.1=la p)&&decide (fi p<=q.2)).map λq=>q.2)).length<64:=by
  have:=B2 M p;rw[pQ,oh]at this;lia
 unfold qX;rw[show ax (dV 0) env bx=.val ((ps.map dP).map W.d) bx from gM (by rw[lu,h0]),fS];rw[show cR [none,none,some 4] env=[none,none,xU p] by simp[cR,h4],e];exact if_pos l1
variable {enc:α -> D} {r:aE}
end
section
variable {env1:aE} {bx2:List Bx} {t:DE Bool} {body:ah} 
theorem PV (h:t env bx=.val zw bx1):hV t body (n+1) env bx=.nx env bx1:=by rw[hV,h,lZ]
theorem Vn (h:t env bx=.val zO bx1) (hb:body env bx1=.nx env1 bx2):hV t body (n+1) env bx=hV t body n env1 bx2:=by
 rw[hV,h,lZ];erw[hb]
end
noncomputable def Xb (B0:List Bx) (dl:List zcN) (G:List Bx) (acc:List D):List Bx:=(B0++.dT dl::G)++[.lst acc]
section
variable {B0 G:List Bx} {dl ab6:List (List Key × D)} {acc ab7:List D}
theorem agI:(Xb B0 dl G acc)[B0.length]?=some (.dT dl):=by simp[Xb]
theorem agJ:(Xb B0 dl G acc).set B0.length (.dT ab6)=Xb B0 ab6 G acc:=by simp[Xb]
theorem agK:(Xb B0 dl G acc)[B0.length+1+G.length]?=some (.lst acc):=by
 rw[Xb,dk zS,show B0.length+1+G.length-(B0++.dT dl::G).length=0 by simp;lia];rfl
theorem agL:(Xb B0 dl G acc).set z8 (.lst ab7)=Xb B0 dl G ab7:=by
 rw[Xb,Kz _ _ zS];have:B0.length+1+G.length-(B0++.dT dl::G).length=0:=by simp;lia
 rw[this];rfl
end
def ek (x:List Int×List Int):List Key×D:=(x.1.map Sum.inl,tupI x.2)
theorem G1:∀ {a b:List Int},a.map (Sum.inl:Int->Key)=b.map Sum.inl->a=b
 |[],[],_=>rfl
 |[],_::_,e=>by simp at e
 |_::_,[],e=>by simp at e
 | x::a,y::b,e=>by
   rw[bh,bh]at e;injection e with e1 e2;injection e1 with e1;rw[e1,G1 e2]
theorem Le:∀ l:List Int,vR (l.map D.int)=some (l.map Sum.inl):=by
 intro l_;induction l_ with
 |nil=>exact rfl
 |cons x l aq=>(rw[bh,vR,aq];rfl)
theorem PX (q:List Int):∀ d:List zaM,(k7 (d.map ek) (q.map Sum.inl)).isSome=has d q:=by
 intro l_;induction l_ with
 |nil=>exact rfl
 |cons x d aq=>
   have ih:=aq;by_cases e:x.1=q
   .have:k7 ((x::d).map ek) (q.map Sum.inl)=some (tupI x.2):=by simp[k7,ek,e]
    rw[this];simp[has,e]
   .have h:k7 ((x::d).map ek) (q.map Sum.inl)=k7 (d.map ek) (q.map Sum.inl):=by
     have:¬ x.1.map (Sum.inl:Int->Key)=q.map Sum.inl:=λz=>e (G1 z);simp[k7,ek,this]
    rw[h,ih];simp[has,e]
section
variable {k:Nat} {B0:List Bx}
abbrev fB:ah:=(fm (fK (qX zw [zy,zy,some 4] zbX gP Iq (kG (dV 1))) (fg 5)) zas)
theorem NC:jT=(fm (fK Ik (fg 1)) (fm (fK (fI zO [zy] (ax (fj cX.gu 1 zq)) (fg 0) fG (fV zq)) (fg 2)) (fm (hV (vC (dV 2)) (fm (fK zbM (fg 3)) (fm (iB (ax (kX 2)) (fg 4) fB) (fK (dV 3) (fg 2)))) 2000) (fN (xn zO (dV 1)))))):=rfl
theorem PY {q v:DE W}{d:List zaM}{key:List Int}(h1:m env bx=.val (.b n) bx) (g:bx[n]?=some (.dT (d.map ek))) (h2:q env bx=.val (.d (tupI key)) bx) (h3:v env bx=.val (.d (tupI p)) bx) (hl:d.length<sizeLine) :
 ∃ w,uE m q v env bx=.val w (if has d key then bx else bx.set n (.dT ((d++[(key,p)]).map ek))):=by
 unfold uE;erw[h1,fS,g,h2,h3,Le,aS,if_pos hl];have e:=PX key d;cases c:k7 (d.map ek) (key.map Sum.inl) with
 |some w=>
   rw[c]at e;exact#[.d w,by rw[<-e];rfl]
 |none=>
   rw[c]at e;refine#[.d (tupI p),?_];rw[<-e,pG];rfl
theorem V7 (M:Mv k ps) (k5:k<=5) (hl:ps.length<=10) (P:pR ps p) {d:List zaM}{G:List Bx}{acc:List D}(hd:d.length<=4000) (ha:acc.length<=20000) (w2 w5:Option W) :
 ∃ y5,fB zcG (Xb B0 (d.map ek) G acc) =
  .nx [xP ps,xB B0.length,w2,xB z8,xU p,y5] (Xb B0 ((ins ps d p).map ek) G (acc++(tU ps p).map tupI)):=by
 have sz:=bH;have pl:=P.len M;have e1:=Vm (bx:=Xb B0 (d.map ek) G acc) M k5 hl P.ne (env:=zcG) bz bz;refine#[xJ (pQ ps p),?_];unfold fB;rw[fq (gN e1)];generalize hE:(List.set zcG 5 (xJ (pQ ps p):Option W))=E;have vU:E=[xP ps,xB B0.length,w2,xB z8,xU p,xJ (pQ ps p)]:=by rw[<-hE];rfl
 have v4:∀ bx,dV 4 E bx=.val (.d (tupI p)) bx:=λbx=>by rw[vU];rfl
 have v5:∀ bx,dV 5 E bx=.val (.d (.lst ((pQ ps p).map D.int))) bx:=λbx=>by rw[vU];rfl
 have v1:∀ bx,dV 1 E bx=.val (.b B0.length) bx:=λbx=>by rw[vU];rfl
 have v3:∀ bx,dV 3 E bx=.val (.b z8) bx:=λbx=>by rw[vU];rfl
 have s4:cR [zy,some 4] E=[zy,xU p]:=by rw[vU];rfl
 rw[<-vU];clear hE vU;have t:dB (d2 zw (inD zw) (d2 zw ak (dV 4) zd) (dV 5)) E (Xb B0 (d.map ek) G acc)=.val (rX ps p) (Xb B0 (d.map ek) G acc):=
  fZ (fL (r:=.old (.bl (rX ps p))) (fL (r:=.old (.int (fi p))) (v4 _) (y:=.int 0) bz (by show (bA (p.map D.int) 0).map Res.old=_;rw[RR P.ne];rfl)) (v5 _) (by show inD zw (.int (fi p)) _=_;rw[ly];rfl))
 have so:∀ bx,dN zw ph (fc (dN zw kE (fc (dV 4) ff)) ff) E bx=.val (.d (tupI (sortI p))) bx:=λbx=>by
  have s1:kE [.tup (p.map D.int)]=some (.lst ((sortI p).map D.int)):=by
   have:p.length<64:=by lia
   simp[kE,wZ,K1.AA,this]
  exact gH (r:=.tup ((sortI p).map D.int)) [.lst ((sortI p).map D.int)] (fe (gH (r:=.lst ((sortI p).map D.int)) [tupI p] (fe (v4 bx) bz) s1) bz) bz
 have agM:aC (dB (d2 zw (inD zw) (d2 zw ak (dV 4) zd) (dV 5))) (gy (uE (dV 1) (dN zw ph (fc (dN zw kE (fc (dV 4) ff)) ff)) (dV 4))) aF E (Xb B0 (d.map ek) G acc)=.nx E (Xb B0 ((ins ps d p).map ek) G acc):=by
  unfold ins;cases c:rX ps p with
  |false=>
    rw[c]at t;rw[iF t];rfl
  |true=>
    rw[c]at t;rw[iy t,if_pos rfl];let#[w,e]:=PY (d:=d) (v1 _) agI (so _) (v4 _) zb;rw[iO e];cases z:has d (sortI p) with
    |true=>rfl
    |false=>rw[if_neg za,if_neg za,agJ]
 rw[fq agM];have fl:=B2 M p;have c:fI zw [zy,some 4] (ax (dV 5)) (fg 0) zH (d2 zw fR (dV 1) (fV zq)) E (Xb B0 ((ins ps d p).map ek) G acc)=.val (.d (.lst ((tU ps p).map tupI))) (Xb B0 ((ins ps d p).map ek) G acc):=by
  have:=xq (enc:=D.int) (r:=[xU p]) (l:=pQ ps p) (bx:=Xb B0 ((ins ps d p).map ek) G acc) (bx0:=Xb B0 ((ins ps d p).map ek) G acc) (env:=E) (src:=[zy,some 4]) (mi:=ax (dV 5)) (tf:=dB zN) (te:=d2 zw fR (dV 1) (fV zq)) (λr=>!decide (r∈p)) (λr=>tupI (p++[r])) (gM (v5 _)) s4 zb λr mr=>#[fZ (fL (r:=.old (.bl (!decide (r∈p)))) (x:=.int r) (y:=tupI p) bz bz (GS zO p r)),λ_=>fL (r:=.tup ((p++[r]).map D.int)) (x:=tupI p) (y:=.tup [.int r]) bz (iq [.int r] bz (show (1:Nat)<=sizeLine by lia)) (by rw[pG];exact if_pos zS)];rw[this,tU,yi];rfl
 refine iO (w:=.d .non) ?_;unfold tO;have nl:=B4 M p;erw[v3,fS,agK,c,aS];rw[if_pos zb,agL]
theorem V8 (M:Mv k ps) (k5:k<=5) (hl:ps.length<=10) {G:List Bx}(w2:Option W):∀ (l:List (List Int)) (d:List zaM) (acc:List D) (w4 w5:Option W),(∀ p∈l,pR ps p)->d.length+l.length<=4000->acc.length+5*l.length<=20000 ->
 ∃ y4 y5,dF (fg 4) fB ((l.map tupI).map W.d) [xP ps,xB B0.length,w2,xB z8,w4,w5] (Xb B0 (d.map ek) G acc) =
  .nx [xP ps,xB B0.length,w2,xB z8,y4,y5] (Xb B0 ((l.foldl (ins ps) d).map ek) G (acc++(l.flatMap (tU ps)).map tupI)):=by
 intro l_;induction l_ with
 |nil=>exact λd acc w4 w5 _ _ _=>#[w4,w5,by simp[dF]]
 |cons p l aq=>
   intro d acc w4 w5 P hd ha;rw[bp]at hd ha;let#[y5,e]:=V7 (B0:=B0) M k5 hl (P p (.head _)) (d:=d) (G:=G) (acc:=acc) zb zb w2 w5;have il:(ins ps d p).length<=d.length+1:=by
    unfold ins;split
    .split<;>simp
    .simp
   have nl:=B4 M p;let#[z4,z5,e2]:=aq (ins ps d p) (acc++(tU ps p).map tupI) (xU p) y5 (λq m=>P q (.tail _ m)) zb zS;refine#[z4,z5,?_];rw[bh,bh,lw (env1:=zcG) (bx1:=Xb B0 (d.map ek) G acc) rfl e,e2];simp
theorem Vo {ds:List D}{g:Nat}{G:List Bx}(hg:G[g]?=some (.lst ds)) (dl:List zcN) (x0 x1 x3 x4 x5:Option W):ax (kX 2) [x0,x1,xB zbq,x3,x4,x5] (Xb B0 dl G [])=.val (ds.map W.d) (Xb B0 dl (G.set g .dead) []):=by
 have gl:=(List.getElem?_eq_some_iff.mp hg).1;have e:(Xb B0 dl G [])[B0.length+1+g]?=some (.lst ds):=by
  rw[Xb,dn zS,dk zb,show B0.length+1+g-B0.length=g+1 by lia,Ky];exact hg
 have s:(Xb B0 dl G []).set zbq .dead=Xb B0 dl (G.set g .dead) []:=by
  rw[Xb,YW _ _ zS,Kz _ _ zb,show B0.length+1+g-B0.length=g+1 by lia,List.set_cons_succ];rfl
 have f:kX 2 [x0,x1,xB zbq,x3,x4,x5] (Xb B0 dl G [])=.val (.d (.lst ds)) (Xb B0 dl (G.set g .dead) []):=by
  show (match (Xb B0 dl G [])[B0.length+1+g]? with|some (.lst l)=>O.val (W.d zQ) ((Xb B0 dl G []).set zbq .dead)|some (.ai l)=>.val (W.d (.ai l)) ((Xb B0 dl G []).set zbq .dead)|_=>.bad)=_;rw[e];erw[s]
 exact gM f
abbrev wB:ah:=(fm (fK zbM (fg 3)) (fm (iB (ax (kX 2)) (fg 4) fB) (fK (dV 3) (fg 2))))
theorem Vp {ds:List D}{g:Nat}{G:List Bx}(hg:G[g]?=some (.lst ds)) (dl:List zcN) (x0 x1 x3 x4 x5:Option W):vC (dV 2) [x0,x1,xB zbq,x3,x4,x5] (B0++.dT dl::G)=.val (!ds.isEmpty) (B0++.dT dl::G):=by
 have e:(B0++.dT dl::G)[B0.length+1+g]?=some (.lst ds):=by
  rw[dk zb,show B0.length+1+g-B0.length=g+1 by lia,Ky];exact hg
 unfold vC;rw[show dV 2 [x0,x1,some (W.b zbq),x3,x4,x5] (B0++.dT dl::G)=.val (.b zbq) (B0++.dT dl::G) from rfl,fS];have r1:aQ (B0++.dT dl::G) (.b zbq)=some (.lst ds):=by erw[aQ,e]
 rw[r1];rfl
theorem agN (M:Mv k ps) (k5:k<=5) (hl:ps.length<=10):∀ (m j:Nat) (g:Nat) (G:List Bx) (x3 x4 x5:Option W) (c:Nat),k<=j+m->G[g]?=some (.lst ((lvl ps j).map tupI)) ->
 ∃ j' y2 y3 y4 y5 G',hV (vC (dV 2)) wB (m+1+c) [xP ps,xB B0.length,xB zbq,x3,x4,x5] (B0++.dT zcD::G) =
  .nx [xP ps,xB B0.length,y2,y3,y4,y5] (B0++.dT zbz::G') /\ lvl ps j'=[]:=by
 intro m;induction m with
 |zero=>
   intro j g G x3 x4 x5 c hk hg;have e:=GW M (show k<=j by lia);have t:=Vp (B0:=B0) hg zcD (xP ps) (xB B0.length) x3 x4 x5;rw[e]at t;exact#[j,_,_,_,_,G,by rw[show 0+1+c=c+1 by lia,PV t],e]
 |succ m ih=>
   intro j g G x3 x4 x5 c hk hg;have t:=Vp (B0:=B0) hg zcD (xP ps) (xB B0.length) x3 x4 x5;rw[show m+1+1+c=(m+1+c)+1 by lia];by_cases e:lvl ps j=[]
   .rw[e]at t;exact#[j,_,_,_,_,G,by rw[PV t],e]
   .have t':(!((lvl ps j).map tupI).isEmpty)=zO:=by
     cases q:lvl ps j with
     |nil=>exact absurd q e
     |cons a l=>rfl
    rw[t']at t;have jk:j<k:=by
     rcases EX j k with q|q
     .exact q
     .exact absurd (GW M q) e
    have l0:(lvl ps j).length<=3125:=br (GX M k5 j) (Kr za (show j+1<=5 by lia));have d0:=Ny M k5 (ps:=ps) j;have s1:fK zbM (fg 3) [xP ps,xB B0.length,xB zbq,x3,x4,x5] (B0++.dT zcD::G)=.nx [xP ps,xB B0.length,xB zbq,xB z8,x4,x5] (Xb B0 zcD G []):=by
     rw[gN (m8 [] rfl (nT _))];rw[show (B0++.dT zcD::G).length=B0.length+1+G.length by simp;lia];rfl
    have s2:=Vo (B0:=B0) hg zcD (xP ps) (xB B0.length) (xB z8) x4 x5;let#[y4,y5,s3]:=V8 (B0:=B0) M k5 hl (G:=G.set g .dead) (xB zbq) (lvl ps j) (bZ ps j) [] x4 x5 (λp m=>(oj m).1) zb zS;rw[nj]at s3;have b:wB [xP ps,xB B0.length,xB zbq,x3,x4,x5] (B0++.dT zcD::G)=.nx [xP ps,xB B0.length,xB z8,xB z8,y4,y5] (B0++.dT ((bZ ps (j+1)).map ek)::(G.set g .dead++[.lst ((lvl ps (j+1)).map tupI)])):=by
     unfold wB;rw[fq s1,fq ((lv s2).trans s3)];rw[gN (w:=.b z8) rfl];simp[Xb,bZ,lvl]
    let#[j',a2,a3,a4,a5,G',e',z']:=ih (j+1) G.length (G.set g .dead++[.lst ((lvl ps (j+1)).map tupI)]) (xB z8) y4 y5 c zb (by rw[dk zf,nj,pX];rfl);exact#[j',a2,a3,a4,a5,G',by rw[Vn t b,e'],z']
theorem FR (M:Mv k ps) (k5:k<=5) (hl:ps.length<=10):∃ rs g j,ju [.d zbS] B0=.val (.b j) (B0++g) /\ (B0++g)[j]?=some za0 /\ B0.length<=j /\ xt k ps rs:=by
 have sz:=bH;have nl:=B1 M;let#[j',x2,x3,x4,x5,G',e,z]:=agN (B0:=B0) M k5 hl 5 0 0 [.lst ((lvl ps 0).map tupI)] zy zy zy 1994 zb bz;refine#[(bZ ps j').map (·.2),.dT zbz::G'++[.lst (((bZ ps j').map (·.2)).map tupI)],B0.length+1+G'.length,?_,?_,by lia,Ue M k5 z]
 .have c:fI zO [zy] (ax (fj cX.gu 1 zq)) (fg 0) fG (fV zq) [xP ps,xB B0.length,zy,zy,zy,zy] (B0++[.dT []])=.val (.b (B0.length+1)) (B0++[.dT []]++[.lst ((lvl ps 0).map tupI)]):=by
   have e1:=abX (enc:=D.int) (tf:=fG) (te:=fV zq) (bx:=B0++[.dT []]) (r:=[]) (λ_=>zO) (λr=>tupI [r]) (nm ps) zy [] zS λa m=>#[rfl,λ_=>iq [.int a] bz (show (1:Nat)<=sizeLine by lia)];rw[List.filter_eq_self.mpr λ_ _=>rfl]at e1;have:=Pi (bx:=B0++[.dT []]) (env:=[xP ps,xB B0.length,zy,zy,zy,zy]) (src:=[zy]) (mi:=ax (fj cX.gu 1 zq)) (gM (fF (l:=[.d zbS]) bz bz (lQ M k5 hl))) (e2:=[zy]) bz e1;rw[this];simp[lvl]
  have b:jT [xP ps,zy,zy,zy,zy,zy] B0=.rt (.b (B0.length+1+G'.length)) (B0++(.dT zbz::G'++[.lst (((bZ ps j').map (·.2)).map tupI)])):=by
   rw[NC,fq (env1:=[xP ps,xB B0.length,none,none,none,none]) (bx1:=B0++[.dT []]) (gN (w:=.b B0.length) (bx1:=B0++[.dT []]) rfl),fq (env1:=[xP ps,xB B0.length,xB (B0.length+1),none,none,none]) (bx1:=B0++[.dT []]++[.lst ((lvl ps 0).map tupI)]) (gN c)];rw[fq (env1:=[xP ps,xB B0.length,x2,x3,x4,x5]) (bx1:=B0++.dT zbz::G') (by rw[<-e];simp[bZ])];refine gx ?_;unfold xn;rw[show dV 1 [some (W.d zbS),xB B0.length,x2,x3,x4,x5] (B0++.dT zbz::G')=.val (.b B0.length) (B0++.dT zbz::G') from rfl,fS];have g0:(B0++.dT zbz::G')[B0.length]?=some (.dT zbz):=by simp
   erw[g0,MQ];rw[show (B0++.dT zbz::G').length=B0.length+1+G'.length by simp;lia];simp[ek]
  show cQ B0.length (cP (aR jT [xP ps,zy,zy,zy,zy,zy] B0))=_;unfold aR;rw[b];rfl
 .rw[dk zb,show B0.length+1+G'.length-B0.length=(.dT zbz::G':List Bx).length by simp;lia,dk (au _),pX];rfl
end
section
variable {k:Nat} {h:D} 
theorem xt.good (M:Mv k ps) (R:xt k ps rs):Good k rs:=λr m=>#[(R.p r m).1.ne,λi mi=>DA M ((R.p r m).1.nm i mi)]
abbrev tB:ah:=(fm (fK (fI zw [zy,some 2] zbX (fg 0) zH (dV 0)) (fg 3)) (fm (fK (fI zw [zy,zy,some 3] (ax (dV 1)) gP (dB (d2 zw (inD zw) (dV 0) (dV 2))) (dV 1)) (fg 4)) (gy (tO (dV 2) (fI zw [zy,some 4] (ax (dV 3)) (fg 0) zH (dV 0))))))
abbrev tT:DE Bool:=dB (d2 zw kD zbU (dN zw ay zq))
theorem PZ:lG=(fm (fK zbM (fg 2)) (fm (hV tT tB 2000) (fN (kX 2)))):=rfl
noncomputable def Tx (bx:List Bx) (told:List Int):List Bx:=bx++[.lst (told.map D.int)]
theorem P0 {told:List Int}:(Tx bx told)[bx.length]?=some (.lst (told.map D.int)):=by simp[Tx]
theorem V9 {told t2:List Int}:(Tx bx told).set bx.length (.lst (t2.map D.int))=Tx bx t2:=by simp[Tx]
theorem Vq (rooms told:List Int) (x1 x3 x4:Option W):tT [xJ rooms,x1,xB bx.length,x3,x4] zbb=.val (decide (told.length<rooms.length)) zbb:=by
 have r1:aQ zbb zca=some (.lst (told.map D.int)):=by erw[aQ,P0]
 have a:dN zw ay zu [xJ rooms,x1,xB bx.length,x3,x4] zbb=.val (.d (.int (told.length:Nat))) zbb:=by
  rw[JX,show fc (dV 2) ff [some (W.d (.lst (rooms.map D.int))),x1,xB bx.length,x3,x4] zbb=.val [.b bx.length] zbb from rfl,fS];have:eP zbb [.b bx.length]=some [.lst (told.map D.int)]:=by erw[eP,r1];rfl
  rw[this];simp[ay]
 have b:dN zw ay zq [xJ rooms,x1,xB bx.length,x3,x4] zbb=.val (.d (.int (rooms.length:Nat))) zbb:=gH (r:=.old (.int (rooms.length:Nat))) [.lst (rooms.map D.int)] zo (by simp[ay]);refine fZ (fL (r:=.old (.bl (decide (told.length<rooms.length)))) a b ?_);show some (Res.old (.bl (decide ((told.length:Int)<(rooms.length:Int)))))=_;congr 3;rw[sy,decide_eq_true_eq,decide_eq_true_eq];lia
theorem Wa {rooms told:List Int}(hr:rooms.length<=100) (ht:told.length<=200) (hl:ps.length<=10) (x3 x4:Option W) :
 ∃ y3 y4,tB [xJ rooms,xP ps,xB bx.length,x3,x4] zbb=.nx [xJ rooms,xP ps,xB bx.length,y3,y4] (Tx bx (vT ps rooms told)):=by
 have sz:=bH;have c1:fI zw [zy,some 2] zbX (fg 0) zH (dV 0) [xJ rooms,xP ps,xB bx.length,x3,x4] zbb=.val (.d (.lst ((a8 rooms told).map D.int))) zbb:=
  xq (enc:=D.int) (r:=[xB bx.length]) (λx=>!decide (x∈told)) D.int (gM bz) bz zb λx _=>#[fZ (Ve (r:=.old (.bl (!decide (x∈told)))) (x:=.int x) bz bz P0 (ly zO told x)),λ_=>rfl]
 have wl:(a8 rooms told).length<=rooms.length:=E7 _ _;have c2:fI zw [zy,zy,some 3] (ax (dV 1)) gP (dB (d2 zw (inD zw) (dV 0) (dV 2))) (dV 1) [xJ rooms,xP ps,xB bx.length,xJ zT,x4] zbb=.val (.d (.lst ((di ps zT).map D.int))) zbb:=by
  refine gC (gM (ds:=ps.map dP) bz) (e2:=[zy,zy,xJ zT]) bz ?_;rw[agG (λq=>decide (q.1∈a8 rooms told)) (λq=>.int q.2) ps none none [] zS λq _=>#[fZ (fL (r:=.old (.bl (decide (q.1∈a8 rooms told)))) (x:=.int q.1) (y:=.lst ((a8 rooms told).map D.int)) rfl rfl (ly false _ _)),λ_=>rfl]];simp[di]
 have c3:fI zw [zy,some 4] (ax (dV 3)) (fg 0) zH (dV 0) [xJ rooms,xP ps,xB bx.length,xJ zT,xJ (di ps zT)] zbb=.val (.d (.lst (((a8 rooms told).filter λx=>!decide zcR).map D.int))) zbb:=
  xq (enc:=D.int) (r:=[xJ (di ps zT)]) (λx=>!decide zcR) D.int (gM bz) bz zb λx _=>#[fZ (fL (r:=.old (.bl (!decide zcR))) (x:=.int x) (y:=.lst ((di ps zT).map D.int)) bz bz (ly zO _ _)),λ_=>rfl]
 have fl:((a8 rooms told).filter λx=>!decide zcR).length<=(a8 rooms told).length:=E7 _ _;refine#[xJ zT,xJ (di ps zT),?_];unfold tB;rw[fq (env1:=[xJ rooms,xP ps,xB bx.length,xJ zT,x4]) (bx1:=Tx bx told) (gN c1)];rw[fq (env1:=[xJ rooms,xP ps,xB bx.length,xJ zT,xJ (di ps zT)]) (bx1:=Tx bx told) (gN c2)];refine iO (w:=.d .non) ?_;unfold tO;rw[show dV 2 [some (W.d (.lst (rooms.map D.int))),xP ps,xB bx.length,xJ zT,xJ (di ps zT)] zbb=.val zca zbb from rfl,fS];erw[P0,c3,fS,aS];rw[if_pos zb,<-pG,V9];rfl
theorem Lf {rooms:List Int}(hr:rooms.Nodup) (F:Ip ps rooms) (r5:rooms.length<=100) (hl:ps.length<=10):∀ (m:Nat) (told:List Int) (x3 x4:Option W) (c:Nat),Told ps rooms told->rooms.length-told.length<=m ->
 ∃ t2 y3 y4,hV tT tB (m+1+c) [xJ rooms,xP ps,xB bx.length,x3,x4] zbb=.nx [xJ rooms,xP ps,xB bx.length,y3,y4] (Tx bx t2) /\ Told ps rooms t2 /\ rooms.length<=t2.length:=by
 intro m;induction m with
 |zero=>
   intro told x3 x4 c T hm;have t:=Vq (bx:=bx) rooms told (xP ps) x3 x4;rw[decide_eq_false zb]at t;exact#[told,x3,x4,by rw[show 0+1+c=c+1 by lia,PV t],T,by lia]
 |succ m ih=>
   intro told x3 x4 c T hm;have t:=Vq (bx:=bx) rooms told (xP ps) x3 x4;rw[show m+1+1+c=(m+1+c)+1 by lia];by_cases q:told.length<rooms.length
   .rw[decide_eq_true q]at t;let#[y3,y4,b]:=Wa (bx:=bx) (ps:=ps) (rooms:=rooms) (told:=told) r5 zb hl x3 x4;have mo:=Ld hr F q;let#[t2,z3,z4,e,T2,l2]:=ih (vT ps rooms told) y3 y4 c (Lc T hr) zb;exact#[t2,z3,z4,by rw[Vn t b,e],T2,l2]
   .rw[decide_eq_false q]at t;exact#[told,x3,x4,by rw[PV t],T,by lia]
theorem Lg {rooms:List Int}(hr:rooms.Nodup) (F:Ip ps rooms) (r5:rooms.length<=100) (hl:ps.length<=10):∃ told,jn [.d (.lst (rooms.map D.int)),.d zbS] bx=.val (.d (.lst (told.map D.int))) bx /\ Told ps rooms told /\ rooms.length<=told.length:=by
 let#[t2,y3,y4,e,T,l]:=Lf (bx:=bx) hr F r5 hl 100 [] zy zy 1899 #[.nil,(λx m=>nomatch m),λu b v q=>by simp at q] zS;refine#[t2,?_,T,l];show cQ bx.length (cP (aR lG [xJ rooms,xP ps,zy,zy,zy] bx))=_;have b:lG [xJ rooms,xP ps,zy,zy,zy] bx=.rt (.d (.lst (t2.map D.int))) (bx++[.dead]):=by
  rw[PZ,fq (env1:=[xJ rooms,xP ps,xB bx.length,none,none]) (bx1:=Tx bx []) (gN (m8 [] rfl (nT _))),fq e];refine gx ?_;have s:(Tx bx t2).set bx.length .dead=bx++[.dead]:=by simp[Tx]
  show (match (Tx bx t2)[bx.length]? with|some (.lst l)=>O.val (W.d zQ) ((Tx bx t2).set bx.length .dead)|some (.ai l)=>.val (W.d (.ai l)) ((Tx bx t2).set bx.length .dead)|_=>.bad)=_;rw[P0];erw[s]
 unfold aR;rw[b];simp[cP,cQ]
end
structure Op (k:Nat) (ps:List (Int×Int)) (row:List Int) (rs:List (List Int)):uu where
 R:xt k ps rs
 m:∃ m told,ab1 k rs m /\ Told ps (rest ps m) told /\ (rest ps m).length<=told.length /\ row=m++told++m
section
variable {k:Nat} {h:D}
end
end cX
namespace eU
open L2 L2.DL K1 aM aJ cX
section
variable {aiV:List (Int × Int)} {n' k:Nat} {m is:List Int}
end
end eU
namespace cX
open L2 L2.DL K1 aM aJ
section
variable {k:Nat} {h:D} 
end
section
variable {k:Nat} {h:D} 
end
end cX
namespace eU
open L2 L2.DL K1 aM aJ cX
def cB (bx:List Bx):uu:=bx.map nO=bx
theorem G2 (l:List D):nO zQ=if k8 l=zO then .lst l else .dead:=rfl
theorem om (h:k8 l=zO):nO zQ=.lst l:=by rw[G2,if_pos h]
theorem Lh (b:Bx):nO (nO b)=nO b:=by
 cases b with
 |lst l=>
   by_cases h:k8 l=zO
   .rw[om h,om h]
   .rw[G2,if_neg h];rfl
 |_=>rfl
theorem ND (b:List Bx):cB (b.map nO):=by
 unfold cB;rw[yi];exact YF λx _=>Lh x
theorem cB.app {a b:List Bx}(h:cB a) (q:cB b):cB (a++b):=by unfold cB at *;rw[pG,h,q]
theorem G3 (h:k8 l=zO):cB [.lst l]:=by
 show [nO zQ]=_;rw[om h]
theorem DB {f:α->D}(h:∀ a,uF (f a)=zO):∀ l:List α,k8 (l.map f)=zO:=by
 intro l_;induction l_ with
 |nil=>exact rfl
 |cons a l aq=>
   show (uF (f a)&&k8 (l.map f))=zO;rw[h,aq];rfl
theorem DC (l:List Int):k8 (l.map D.int)=zO:=DB (λ_=>rfl) l
theorem G4 (l:List Int):uF (tupI l)=zO:=DC l
theorem DD (l:List (List Int)):k8 (l.map tupI)=zO:=DB G4 l
theorem cB.set {bx:List Bx}(h:cB bx) (i:Nat) {l:List D}(n:k8 l=zO):cB (bx.set i zQ):=by
 have e:=om n;unfold cB at *;rw[Y0,h,e]
section
variable {k:DE (List W)} {ws:List W} 
theorem P3 (h:k env bx=.val ws bx1) (hj:ws[j]?=xB i) (hb:bx1[i]?=some zQ) (hn:ws.length=n) (nl:k8 l=zO)
 (e:fn (ws.set j (.d zQ)) (bx1.set i .dead)=.val (.d d) (bx1.set i .dead)) (nd:uF d=zO):uG fn n j k env bx=.val (.d d) (bx1.map nO):=by
 unfold uG;rw[h,fS];erw[hj,hb,if_pos hn,e,if_pos nd];congr 1;unfold EB;have il:=(List.getElem?_eq_some_iff.mp hb).1;have ek:=om nl;rw[Y0,YV];apply yf;intro t;by_cases z:t=i
 .subst z;rw[qu (by rw[aS];exact il),ke,hb,kM,ek]
 .rw[qv (λq=>z q.symm)]
end
section
variable {h:D} {k:Nat} 
end
end eU
namespace K54
open L2 L2.DL K1 aM aJ cX eU
section
variable {h:D} {k:Nat} 
theorem FS (H:kI h k) (M:Mv k ps) (hl:ps.length<=10) (C:cB bx):∃ row rs g i j,K54.ie [.d h,.d zbS] bx=.val (.t [i,j]) (bx++g) /\ (bx++g)[i]?=some (.lst (row.map D.int)) /\ (bx++g)[j]?=some za0 /\ bx.length<=i /\ bx.length<=j /\ i≠j /\ Op k ps row rs /\ cB (bx++g):=by
 have sz:=bH;have n5:=H.n5;let#[rs,g0,j,e1,WY,e3,R]:=FR (B0:=bx) M n5 hl;have agO:=(List.getElem?_eq_some_iff.mp WY).1;let#[m,L,e4]:=aJ.Dm (bx:=(bx++g0).set j .dead) H (rs:=rs) (by have:=R.l;lia) (R.good M);obtain⟨g,eg⟩:∃ g,g=g0.map nO:=#[_,rfl];have kg:(bx++g0).map nO=bx++g:=by rw[pG,C,eg]
 have jl:j<(bx++g).length:=by rw[<-kg,aS];exact agO
 have e2:(bx++g)[j]?=some za0:=by
  rw[<-kg,ke,WY,kM,om (DD rs)]
 have Cg:cB (bx++g):=C.app (by rw[eg];exact ND g0);have nl:=B1 M;have rl:(rest ps m).length<=(nm ps).length:=E7 _ _;have ml:=BY n5 L.1;let#[told,e5,T,tl]:=Lg (bx:=bx++g) (ps:=ps) (rooms:=rest ps m) (jX _ (Dz ps)) (Lb R L.2.1) zb hl;have xp:=T.nd.length_le_of_subset (l₂:=rest ps m) λx mx=>T.sub x mx;refine#[m++told++m,rs,g++[.lst ((m++told++m).map D.int)],(bx++g).length,j,?_,?_,?_,by simp,e3,by lia,#[R,m,told,L,T,tl,rfl],?_]
 .have b:K54.jp zb2 bx=.rt (.t [(bx++g).length,j]) ((bx++g)++[.lst ((m++told++m).map D.int)]):=by
   unfold K54.jp;have n1:gy (fj aJ.fP 2 zb7) zb2 bx=.nx zb2 bx:=iO (fF (l:=[.d h,.d zbS]) bz bz (jW H M hl));have n2:fK (fj cX.ju 1 zr) (fg 2) zb2 bx=.nx [some (.d h),xP ps,xB j,zy,zy] (bx++g0):=gN (fF (l:=[.d zbS]) bz bz e1);have f:uG aJ.gj 2 1 (fc (dV 0) zu) [some (.d h),xP ps,xB j,zy,zy] (bx++g0)=.val (.d (tupI m)) (bx++g):=by
    have q:=P3 (fn:=aJ.gj) (n:=2) (j:=1) (k:=fc (dV 0) zu) (env:=[some (.d h),xP ps,xB j,zy,zy]) (ws:=[.d h,.b j]) bz bz WY bz (DD rs) e4 (G4 m);rw[kg]at q;exact q
   have n3:fK (dN zw nK (fc (uG aJ.gj 2 1 (fc (dV 0) zu)) ff)) (fg 3) [some (.d h),xP ps,xB j,zy,zy] (bx++g0)=.nx [some (.d h),xP ps,xB j,xJ m,zy] (bx++g):=gN (gH (r:=.lst (m.map D.int)) [tupI m] (fe f bz) bz);rw[fq n1,fq n2,fq n3];have c:fI zw [zy,some 3] (ax (fj cX.gu 1 zr)) (fg 0) zH (dV 0) [some (.d h),xP ps,xB j,xJ m,zy] (bx++g)=.val (.d (.lst ((rest ps m).map D.int))) (bx++g):=
    xq (enc:=D.int) (r:=[xJ m]) (λx=>!decide (x∈m)) D.int (gM (fF (l:=[.d zbS]) bz bz (lQ M n5 hl))) bz zb λx _=>#[fZ (fL (r:=.old (.bl (!decide (x∈m)))) (x:=.int x) (y:=.lst (m.map D.int)) bz bz (ly zO m x)),λ_=>rfl]
   rw[fq (env1:=[some (.d h),xP ps,xB j,xJ m,xJ (rest ps m)]) (bx1:=bx++g) (gN c)];refine gx ?_;have a1:d2 zw fR (dV 3) (fj cX.jn 2 (fc (dV 4) zr)) [some (.d h),xP ps,xB j,xJ m,xJ (rest ps m)] (bx++g)=.val (.d (.lst ((m++told).map D.int))) (bx++g):=
    fL (r:=.lst ((m++told).map D.int)) (x:=.lst (m.map D.int)) (y:=.lst (told.map D.int)) bz (fF (l:=[.d (.lst ((rest ps m).map D.int)),.d zbS]) bz bz e5) (by rw[pG];exact if_pos zS)
   have a2:d2 zO fR (d2 zw fR (dV 3) (fj cX.jn 2 (fc (dV 4) zr))) (dV 3) [some (.d h),xP ps,xB j,xJ m,xJ (rest ps m)] (bx++g)=.val (.b (bx++g).length) ((bx++g)++[.lst ((m++told++m).map D.int)]):=by
    rw[JW,a1,fS,show dV 3 [some (W.d h),xP ps,xB j,xJ m,xJ (rest ps m)] (bx++g)=.val (.d (.lst (m.map D.int))) (bx++g) from rfl,fS,lP,lP,bD,bD];have:fR (.lst ((m++told).map D.int)) (.lst (m.map D.int))=some (.lst ((m++told++m).map D.int)):=by rw[pG (l₁:=m++told)];exact if_pos zS
    rw[this,MQ]
   unfold Ic;rw[fe a2 (l:=[.b j]) (bx2:=(bx++g)++[.lst ((m++told++m).map D.int)]) rfl,fS];exact if_pos (show (2:Nat)<=sizeLine by lia)
  show cQ bx.length (cP (K54.jp zb2 bx))=_;rw[b,<-kL];rfl
 .rw[<-kL,dk (au _),pX];rfl
 .rw[<-kL,dn jl];exact e2
 .rw[<-kL];exact Cg.app (G3 (DC _))
end
open K2
theorem P4 {m:ah}{ws:List W}(h:m zad bx=.rt (.d d) bx'):aL n m ws bx=.val (.d d) (bx'.take bx.length):=by
 erw[aL,DL.envOf,h,cP,cQ]
theorem dh {m:ah}{env1:aE}(h:m env bx=.nx env1 bx1):aR m env bx=.nx env1 bx1:=by
 unfold aR;rw[h]
def uI (x:D):uu:=∀ l,x=.lst l->l.length<=2 /\ ∀ d∈l,tl d 2 5=zw
def uJ (a b:List (Key×D)) (n:Nat):uu:=(∀ k u,bF a k=some u->∃ i j,u=.int i /\ bF b k=some (.int j)) /\ a.length<=n /\ b.length<=n
theorem uJ.step {a b:List (Key×D)}(h:uJ a b n) (k:Key) (i:Int):uJ (match bF a k with|some _=>a|none=>pz a k zaS) (pz b k zaS) (n+1):=by
 have l1:=Bt a k zaS;have l2:=Bt b k zaS;let#[h1,h2,h3]:=h;refine#[λk' u e=>?_,by split<;>lia,by lia];rw[AG];have:k'=k \/ bF a k'=some u:=by
  split at e
  .exact .inr e
  .rw[AG]at e;split at e
   .exact .inl (by assumption)
   .exact .inr e
 split
 .subst k';split at e
  .let#[i',_,rfl,_]:=h1 k u e;exact#[i',i,rfl,rfl]
  .rw[AG,if_pos rfl]at e;cases e;exact#[i,i,rfl,rfl]
 .ext z;exact h1 k' u (this.resolve_left z)
section
theorem Wb {a b:List (Key×D)}(T:uJ a b n) (hn:n<=1000) (x0 x1 x2:Option W) (i j:Int):∃ a' b',uJ a' b' (n+1) /\ fm (gy (uB (dV 3) (dV 6) (dV 5))) (uA (dV 4) (dV 6) (dV 5)) [x0,x1,x2,xB bx.length,xB zbo,xN i,xN j] (bx++[.ai a,.ai b])=.nx [x0,x1,x2,xB bx.length,xB zbo,xN i,xN j] (bx++[.ai a',.ai b']):=by
 have sz:=bH;refine#[_,_,T.step (.inl j) i,?_];let#[_,h2,h3]:=T;have g:∀ x:Bx,(bx++[x,.ai b])[bx.length]?=some x:=λx=>by simp
 have g':∀ x:Bx,(bx++[x,.ai b])[bx.length+1]?=some (.ai b):=λx=>by simp
 let#[u,e]:=PJ (m:=dV 3) (kx:=dV 6) (v:=dV 5) (env:=[x0,x1,x2,xB bx.length,xB zbo,xN i,xN j]) bz (g (.ai a)) bz bz (g (.ai a)) bz zb;refine(fq (iO e)).trans ?_;cases bF a (.inl j) with
 |some w=>
   refine(Nl bz bz bz (g' (.ai a)) bz zb).trans ?_;simp
 |none=>
   dsimp only;rw[show (bx++[Bx.ai a,.ai b]).set bx.length (.ai (pz a (.inl j) zaS))=bx++[.ai (pz a (.inl j) zaS),.ai b] by simp];refine(Nl bz bz bz (g' _) bz zb).trans ?_;simp
theorem Wc (x0 x1 x2:Option W):∀ (is:List Int) (o n:Nat) (a b:List (Key×D)) (w5 w6:Option W),uJ a b n->n+is.length<=1000->∃ a' b' m y5 y6,uJ a' b' m /\ dF (iV 2 (fT (fg 5) (fT (fg 6) jm))) (fm (gy (uB (dV 3) (dV 6) (dV 5))) (uA (dV 4) (dV 6) (dV 5))) (rV o (is.map D.int)) [x0,x1,x2,xB bx.length,xB zbo,w5,w6] (bx++[.ai a,.ai b])=.nx [x0,x1,x2,xB bx.length,xB zbo,y5,y6] (bx++[.ai a',.ai b']):=by
 intro l_;induction l_ with
 |nil=>exact λo n a b w5 w6 T _=>#[a,b,n,w5,w6,T,rfl]
 |cons j is aq=>
   intro o n a b w5 w6 T L;rw[bp]at L;let#[a1,b1,T1,e]:=Wb (bx:=bx) T zb x0 x1 x2 (o:Int) j;let#[a',b',m,y5,y6,T2,e2]:=aq (o+1) (n+1) a1 b1 (xN o) (xN j) T1 zb;exact#[a',b',m,y5,y6,T2,(lw bz e).trans e2]
abbrev pT:DE W:=gI (rT zw (dV 0) (dV 2)) (gI (rT zw (dV 1) (dV 2)) (d2 zw kD (rS (dV 2) (dV 0)) (rS (dV 3) (dV 1))))
theorem Vr {a b:List (Key×D)}(T:uJ a b n) (i j:Int):∃ t,pT [xN i,xN j,xB bx.length,xB zbo] (bx++[.ai a,.ai b])=.val (.d (.bl t)) (bx++[.ai a,.ai b]):=by
 have g:(bx++[.ai a,.ai b])[bx.length]?=some (.ai a):=by simp
 have g':(bx++[.ai a,.ai b])[bx.length+1]?=some (.ai b):=by simp
 have i1:=Nk (env:=[xN i,xN j,xB bx.length,xB zbo]) (kx:=dV 0) (m:=dV 2) (key:=.inl i) bz bz g bz;have i2:=Nk (env:=[xN i,xN j,xB bx.length,xB zbo]) (kx:=dV 1) (m:=dV 2) (key:=.inl j) bz bz g bz;cases e1:bF a (.inl i) with
 |none=>rw[e1]at i1;exact#[_,iG i1]
 |some u=>
   rw[e1]at i1;cases e2:bF a (.inl j) with
   |none=>rw[e2]at i2;exact#[_,iz i1 (iG i2)]
   |some v=>
     rw[e2]at i2;let#[p,_,rfl,_]:=T.1 _ _ e1;let#[_,q,_,e4]:=T.1 _ _ e2;exact#[_,iz i1 (iz i2 (fL (r:=.old (.bl (decide (p<q)))) (GT (kx:=dV 0) (m:=dV 2) bz bz g bz e1) (GT (kx:=dV 1) (m:=dV 3) bz bz g' bz e4) bz))]
variable {h:D} {k:Nat} 
theorem NE (H:kI h k) (M:Mv k ps) (hl:ps.length<=10) (d:D) (B:uI d):∃ b,K54.im [.d h,.d zbS,.d d] bx=.val (.d (.bl b)) bx:=by
 have sz:=bH;have go:∀ {b:Bool}{bx':List Bx},K54.mE [some (.d h),xP ps,some (.d d),zy,zy,zy,zy] bx=.rt (.d (.bl b)) bx'->bx'.take bx.length=bx->∃ b,K54.im [.d h,.d zbS,.d d] bx=.val (.d (.bl b)) bx:=λ{b bx'} m tk=>#[b,(P4 m).trans (by rw[tk])];unfold K54.mE at go;erw[fq (iO (fF (fn:=aJ.fP) (n:=2) (env:=[some (.d h),xP ps,some (.d d),none,none,none,none]) (ks:=fc (dV 0) zr) zaE rfl (jW H M hl)))]at go;by_cases hd:∃ l,d=.lst l
 .let#[l,rfl]:=hd;let#[l2,_]:=B l bz;have i1:aG (dB (f7 "list" (dV 2))) [some (.d h),xP ps,some (.d zQ),zy,zy,zy,zy] bx=.val zw bx:=fU (b:=zO) (fZ (b:=zO) bz);have ca:bJ (fg 0) fG (fj K2.gX 2 (fc (dV 1) zq)) zbd [zy,some (.d h)] bx []=.val (l.map λd=>.bl (wi d 0 ((k:Int)-1))) bx:=
   gR (λe=>∃ w,e=[w,some (.d h)]) _ #[zy,rfl] (by
    rintro d m env ⟨w,rfl⟩;exact#[[some (.d d),some (.d h)],rfl,#[_,rfl],fF zaE bz (GR H d)]) zb
  have i2:aG zaQ [some (.d h),xP ps,some (.d zQ),zy,zy,zy,zy] bx=.val (!(l.all λd=>wi d 0 ((k:Int)-1))) bx:=
   fU (fZ (gH (r:=.old (.bl (l.all λd=>wi d 0 ((k:Int)-1)))) [.lst (l.map λd=>.bl (wi d 0 ((k:Int)-1)))] (fe (gC (gM bz) bz ca) bz) zcp))
  cases c:l.all (λx=>wi x 0 ((k:Int)-1)) with
  |false=>
    rw[c]at i2;exact go (bx':=bx) (gY ((iy (gJ i1 i2)).trans (gx bz))) (ua ..)
  |true=>
    rw[c]at i2;let#[is,rfl,hi]:=Pu c;rw[aS]at l2;let#[D1,D2,m,w5,w6,T,e]:=Wc (bx:=bx) (some (.d h)) (xP ps) (xJ is) is 0 0 [] [] zy zy #[λk u e=>(by cases e),au _,au _] zb;have s2:nG 3 4 (fc (qO zO []) (fc (qO zO []) ff)) [some (.d h),xP ps,xJ is,zy,zy,zy,zy] bx=.nx [some (.d h),xP ps,xJ is,xB bx.length,xB zbo,zy,zy] (bx++[.ai [],.ai []]):=
     GQ bz (by
      show O.val (W.b (bx++[Bx.ai []]).length) ((bx++[Bx.ai []])++[Bx.ai []])=_;rw[cJ,kL];rfl)
    obtain⟨f,hf⟩:∃ f:D->Bool,∀ q∈ps,pT [xN q.1,xN q.2,xB bx.length,xB (bx.length+1)] (bx++[.ai D1,.ai D2])=.val (.d (.bl (f (dP q)))) (bx++[.ai D1,.ai D2]):=
     #[λd=>match pD d with|some q=>(Vr (bx:=bx) T q.1 q.2).choose|none=>zw,λq _=>(Vr (bx:=bx) T q.1 q.2).choose_spec]
    have cb:bJ zcb fG pT ((ps.map dP).map W.d) [zy,zy,xB bx.length,xB zbo] (bx++[.ai D1,.ai D2]) []=.val ((ps.map dP).map λd=>.bl (f d)) (bx++[.ai D1,.ai D2]):=
     gR (λe=>∃ u w,e=[u,w,xB bx.length,xB zbo]) _ #[zy,zy,rfl] (by
      rintro d m env ⟨u,w,rfl⟩;let#[q,mq,rfl]:=bU.mp m;exact#[[xN q.1,xN q.2,xB bx.length,xB zbo],rfl,#[_,_,rfl],hf q mq]) (by rw[aS];lia)
    exact go (bx':=bx++[.ai D1,.ai D2]) ((fq ((iF (gJ i1 i2)).trans bz)).trans ((fq s2).trans ((fq (dh ((lv bz).trans e))).trans (gx (gH [.lst ((ps.map dP).map λd=>.bl (f d))] (fe (gC (gM bz) bz cb) bz) zcp))))) (YY ..)
 .have i1:aG (dB (f7 "list" (dV 2))) [some (.d h),xP ps,some (.d d),zy,zy,zy,zy] bx=.val zO bx:=by
   refine fU (b:=zw) (fZ (b:=zw) ?_);cases d with
   |lst l=>exact absurd #[l,rfl] hd
   |_=>rfl
  exact go (bx':=bx) (gY ((iy (iA i1)).trans (gx bz))) (ua ..)
theorem P5 (H:kI h k) (M:Mv k ps) (hl:ps.length<=10) (d:D) (B:uI d):∃ b,K54.gQ [.d h,.d zbS,.d zm,.d d] bx=.val (.d (.bl b)) bx:=by
 have sz:=bH
 suffices ∃ b,jv zcQ bx=.rt (.d (.bl b)) bx by
  let#[b,e]:=this;exact#[b,aJ.T4 e]
 unfold jv;have n1:∀ (r:ah),fm (gy (fj aJ.fP 2 zb7)) (fm (gy (fj aJ.iE 1 zu)) r) zcQ bx=r zcQ bx:=λr=>(fq (iO (fF zaE bz (jW H M hl)))).trans (fq (iO (fF zo bz (aJ.AY 0))));by_cases hd:∃ l,d=.lst l
 .let#[l,rfl]:=hd;let#[l2,hn]:=B l bz;have i1:aG (dB (f7 "list" (dV 3))) [some (.d h),xP ps,xN 0,some (.d zQ)] bx=.val zw bx:=fU (b:=zO) (fZ (b:=zO) bz);have i2:dB (d2 zw qJ (dN zw ay zcU) (dC (.int 30))) [some (.d h),xP ps,xN 0,some (.d zQ)] bx=.val zw bx:=
   fZ (fL (r:=.old zag) zcZ bz (by
    show some (Res.old (.bl (decide ((30:Int)<(l.length:Nat)))))=_;rw[decide_eq_false zb]))
  have rn:∀ c:D,tl c 2 5=zw->K54.jU [.d h,.d zbS,.d c] bx=.val zcO bx:=λc hc=>by
   have t:=jG c 2 5 bx;rw[hc]at t;refine g9 ?_;show K54.mZ [some (.d h),xP ps,some (.d c)] bx=_;unfold K54.mZ;exact gY ((iy (iA (fU (b:=zw) (fZ (fF (fe bz zaE) bz t))))).trans (gx bz))
  have a:dN zw bj zcT [some (.d h),xP ps,xN 0,some (.d zQ)] bx=.val (.d (.bl (l.all λ_=>zw))) bx:=
   aJ.abY (enc:=λd=>d) (r:=[some (.d h),xP ps]) _ (by rw[List.map_id'];exact gM bz) bz zb λc mc=>fF (fe bz zaE) bz (rn c (hn c mc))
  cases l with
  |cons c l=>exact#[_,(n1 _).trans ((fq ((iF (gJ i1 i2)).trans bz)).trans (gx (iG a)))]
  |nil=>
    let#[m,_,e]:=aJ.Dm (bx:=bx) H (rs:=[]) za λr m=>nomatch m;exact#[_,(n1 _).trans ((fq ((iF (gJ i1 i2)).trans bz)).trans (gx (iz a (fL (r:=.old (.bl (decide ((0:Int)<=(m.map D.int).length)))) (gH (r:=.old (.int ((m.map D.int).length:Nat))) [aJ.tupI m] (fe (fF zaE bz e) bz) bz) bz bz))))]
 .have i1:aG (dB (f7 "list" (dV 3))) zcQ bx=.val zO bx:=by
   refine fU (b:=zw) (fZ (b:=zw) ?_);cases d with
   |lst l=>exact absurd #[l,rfl] hd
   |_=>rfl
  exact#[_,(n1 _).trans (gY ((iy (iA i1)).trans (gx bz)))]
end
section
variable {h x:D} {k:Nat} 
theorem B6 {m:D}{w:W}{g:List Bx}(hi:i<3) (hw:(∃ l,w=.t l) \/ ∃ b,w=.d (.bl b)) (e0:i=0->ie [.d h,.d m] bx=.val w (bx++g)) (e1:i=1->im [.d h,.d m,.d x] bx=.val w (bx++g)) (e2:i=2->K54.gQ [.d h,.d m,.d zm,.d x] bx=.val w (bx++g)) :
 fX [.d zaS,.d h,.d m,.d x] bx=.val (.d (.str "")) bx:=by
 have b:jq zao bx=.rt (.d (.str "")) (bx++g):=by
  unfold jq;have t:vL WX zao bx=.nx [xN i,some (.d h),some (.d m),some (.d x),some w,zy] (bx++g):=by
   unfold vL;rw[RQ i hi e0 e1 e2];rfl
  refine(fq t).trans (gx ?_);refine Nf (bx1:=bx++g) (fZ ?_) bz;rcases hw with⟨l,rfl⟩|⟨b,rfl⟩<;>rfl
 exact(oa b).trans zf
theorem Ug (H:kI h k) (M:Mv k ps) (hl:ps.length<=10) (C:eU.cB bx) (ok:uI x) (hi:i<3):fX [.d zaS,.d h,.d zbS,.d x] bx=.val (.d (.str "")) bx:=by
 match i,hi with
 |0,hi=>
   let#[row,rs,g,a,b,e,_]:=FS H M hl C;exact B6 (w:=.t [a,b]) (g:=g) hi (.inl #[_,rfl]) (λ_=>e) (λz=>by cases z) (λz=>by cases z)
 |1,hi=>
   let#[b,e]:=NE (bx:=bx) H M hl x ok;exact B6 (w:=.d (.bl b)) (g:=[]) hi (.inr #[_,rfl]) (λz=>by cases z) (λ_=>by rw[hZ];exact e) (λz=>by cases z)
 |2,hi=>
   let#[b,e]:=P5 (bx:=bx) H M hl x ok;exact B6 (w:=.d (.bl b)) (g:=[]) hi (.inr #[_,rfl]) (λz=>by cases z) (λz=>by cases z) (λ_=>by rw[hZ];exact e)
def due (h m:D):Str:=if house h then (match h with|.tup (.tup rs::_)=>if eG rs.length m then "" else "moves"|_=>"moves") else "house"
end
theorem P6 {p q:Int×Int}(h:cA p q=zO) (hp:0<=p.1 /\ p.1<p.2 /\ p.2<4) (hq:0<=q.1 /\ q.1<q.2 /\ q.2<4):4*p.1+p.2+1<=4*q.1+q.2:=by
 unfold cA HT.lexLt at h;split at h
 .unfold HT.lexLt at h;split at h
  .cases h
  .simp at h;lia
 .simp at h;lia
theorem DH:∀ (qs:List (Int×Int)) (c:Int),c<=16->(∀ p∈qs,0<=p.1 /\ p.1<p.2 /\ p.2<4)->nR qs=zO->(∀ p,qs.head?=some p->c<=4*p.1+p.2)->(qs.length:Int)<=16-c
 |[],c,hc,_,_,_=>by simp;lia
 | [p],c,hc,hb,_,hh=>by
   have:=hh p bz;have:=hb p (bK ..);simp;lia
 | p::q::l,c,hc,hb,hi,hh=>by
   have h1:=hh p bz;have b1:=hb p (bK ..);have b2:=hb q (bL _ (bK ..));erw[nR,ao]at hi;have lc:=P6 hi.1 b1 b2;have ih:=DH (q::l) (4*p.1+p.2+1) zb (λr m=>hb r (bL _ m)) hi.2 (λr e=>by cases e;exact lc);erw[bp]at ih ⊢;lia
theorem DI (h:house d=zO):∃ k,aM.kI d k:=by
 unfold house at h;split at h
 .ext r k p hd;erw[ao]at h;let#[hr,hk,ha,hh]:=h;let#[ks,rfl]:=Bq hk;obtain⟨rs,rfl⟩:∃ l,r=.tup l:=by cases r<;>first|exact#[_,rfl]|cases hr
  obtain⟨pl,rfl⟩:∃ l,p=.tup l:=by cases p<;>first|exact#[_,rfl]|cases ha
  erw[apart,ao]at ha;let#[qs,rfl,hq]:=Db ha.1;have hi:=ha.2;rw[GK]at hi;have lk:ks.length<=4:=by
   erw[kinds,ao]at hk;have:=(jz hk.1).2;lia
  have hb:∀ p∈qs,0<=p.1 /\ p.1<p.2 /\ p.2<(ks.length:Int):=λp m=>by
   have:=hq p m;erw[lenOf]at this;lia
  have lq:qs.length<=16:=by
   have:=DH qs 0 zb (λp m=>by have:=hb p m;lia) hi (λp e=>by
    have:=hb p (List.mem_of_mem_head? e);lia)
   lia
  have rr:=hr;erw[rooms,ao]at rr;have n:=jz rr.1;have r1:Sm 999 1 9618 (.tup rs):=
   (Sm.tup (av.of (B:=999) (a:=0) (b:=1921) λx m=>GO (cK.mp rr.2 x m) za za)).mono za zb
  have r2:Sm 999 3 38503 (.tup ks):=by
   erw[kinds,ao]at hk;exact(Sm.tup (av.of (B:=999) (a:=2) (b:=9623) λx m=>Pp (cK.mp hk.2 x m))).mono za zb
  have r3:Sm 999 2 61619 (.tup (qs.map dP)):=by
   have z:=av.of (B:=999) (a:=1) (b:=3849) (l:=qs.map dP) λx m=>by
    let#[p,mp,rfl]:=bU.mp m;exact U5 (hb p mp) lk
   rw[aS]at z;exact(Sm.tup z).mono za zb
  have r4:Sm 999 0 1921 hd:=GO hh za za;have sm:Sm 999 4 111672 (.tup [.tup rs,.tup ks,.tup (qs.map dP),hd]):=
   (Sm.tup (av.cons (r1.mono (by decide:1<=3) (au _)) (av.cons r2 (av.cons (r3.mono (by decide:2<=3) (au _)) (av.cons (r4.mono (by decide:0<=3) (au _)) av.nil))))).mono za za
  refine#[rs.length,?_,sm,?_,#[rs,_,_,_,rfl,rfl],by lia,by lia]
  .erw[house,ao];exact#[hr,hk,by erw[apart,ao];exact ha,hh]
  .show (qs.map dP).length<=sizeLine;have sz:=bH;rw[aS];lia
 .cases h
section
variable {h m x:D} {k:Nat}
theorem RS (e:house h=zw):due h m="house":=by
 unfold due;rw[e];rfl
theorem RU (H:aM.kI h k):due h m=if eG k m then ("":Str) else ("moves":Str):=by
 unfold due;rw[H.h,if_pos rfl];let#[rs,a,b,c,rfl,rfl]:=H.rs;rfl
theorem DJ (ok:kS h) (C:eU.cB bx) (vV:uI x) (hi:i<3):fX [.d zaS,.d h,.d m,.d x] bx=.val (.d (.str zbt)) bx:=by
 cases e:house h with
 |false=>
   rw[RS e];exact Nn (Ni e ok m) za hi
 |true=>
   let#[k,H]:=DI e;rw[RU H];cases c:eG k m with
   |false=>exact Nn (Nj H c) za hi
   |true=>
     let#[ps,rfl,M,hl]:=T6 c;exact Ug H M hl C vV hi
theorem Vs (ok:kS h) {k:Nat}(hi:env[i]?=some (some (.d h))) (hj:env[j]?=some (some (.d m))) :
 aC (dB (fj K54.gO 1 (fc (dV i) ff))) (fK (kq (dB (fj K54.gn 2 (fc (dV i) (fc (dV j) ff)))) (dC (.str "")) (dC (.str "moves"))) (fg k)) aF env bx
  = .nx (if house h then env.set k (some (.d (.str zbt))) else env) bx:=by
 have vi:dV i env bx=.val (.d h) bx:=by rw[lu,hi]
 have vj:dV j env bx=.val (.d m) bx:=by rw[lu,hj]
 have a:dB (fj K54.gO 1 (fc (dV i) ff)) env bx=.val (house h) bx:=fZ (fF (l:=[.d h]) (fe vi bz) bz (Nm h ok));cases e:house h with
 |false=>rw[e]at a;exact(iF a).trans bz
 |true=>
   rw[e]at a;let#[n,H]:=DI e;refine(iy a).trans ?_;have b:dB (fj K54.gn 2 (fc (dV i) (fc (dV j) ff))) env bx=.val (eG n m) bx:=fZ (fF (l:=[.d h,.d m]) (fe vi (fe vj bz)) bz (J9 H m));have c:kq (dB (fj K54.gn 2 (fc (dV i) (fc (dV j) ff)))) (dC (.str "")) (dC (.str "moves")) env bx=.val (.d (.str zbt)) bx:=by
    rw[RU H];cases q:eG n m with
    |false=>rw[q]at b;exact RN b bz
    |true=>rw[q]at b;exact Nf b bz
   exact gN c
end
section
variable {h m x:D} {k:Nat}
theorem P7 (ok:kS h) (C:eU.cB bx) (vV:uI x) {g:DE W}(hg:∀ w:D,g [some (.d w),some (.d m),some (.d h),some (.d x)] bx=fj fX 4 (fc (dV 0) (fc (dV 2) (fc (dV 1) zcU))) [some (.d w),some (.d m),some (.d h),some (.d x)] bx) :
 bJ (fg 0) fG g (gf 0 3) [zy,some (.d m),some (.d h),some (.d x)] bx []=.val [.str zbt,.str zbt,.str zbt] bx:=by
 have c:=gR (g:=fg 0) (te:=g) (bx:=bx) (l:=[D.int 0,.int 1,.int 2]) (env:=[zy,some (.d m),some (.d h),some (.d x)]) (λe=>∃ w,e=[w,some (.d m),some (.d h),some (.d x)]) (λ_=>D.str zbt) #[zy,rfl] (by
  rintro d md env ⟨w,rfl⟩;refine#[[some (.d d),some (.d m),some (.d h),some (.d x)],rfl,#[_,rfl],?_];rw[hg];obtain⟨i,hi,rfl⟩:∃ i:Nat,i<3 /\ d=.int i:=by
   erw[aH,dq,or_false]at md;rcases md with rfl|rfl|rfl
   .exact#[0,by decide,rfl]
   .exact#[1,by decide,rfl]
   .exact#[2,by decide,rfl]
  exact fF (l:=[.d zaS,.d h,.d m,.d x]) bz bz (DJ ok C vV hi)) (show (3:Nat)<=sizeLine by decide)
 exact c
theorem NF:due h m="house" \/ due h m="" \/ due h m="moves":=by
 unfold due;split
 .split
  .split
   .exact .inr zbs
   .exact .inr (.inr bz)
  .exact .inr (.inr bz)
 .exact .inl bz
theorem ne3:bc (.lst [.str zbt,.str zbt,.str zbt]) (.lst [.str zbt,.str zbt,.str zbt])=some (.old zag):=by
 have go:∀ L:D,pO L=zO->eqv L L=zO->ux zO L L=some (.old zag):=λL o v=>by
  unfold ux;rw[o,v];rfl
 refine go (.lst [.str zbt,.str zbt,.str zbt]) ?_ ?_
 .rcases NF (h:=h) (m:=m) with e|e|e<;>rw[e]<;>decide +kernel
 .rcases NF (h:=h) (m:=m) with e|e|e<;>rw[e]<;>decide +kernel
abbrev ab8:ah:=zZ
theorem We (ok:kS h) (C:eU.cB bx) (vV:uI x) (cs:vF (.tup [h,m])=zO) (x0 x1 x2 x3 x4 x5 x6 x7 x8 x9 x15:Option W) :
 ∃ w,ab8 zbP bx
  = .nx [x0,x1,x2,x3,x4,x5,x6,x7,x8,x9,some (.d m),some (.d h),some (.d (.str zbt)),some (.d (.str (toPy (.tup [h,m])).shown)),some (.d x),w] bx:=by
 refine#[some (.d (.lst [.str zbt,.str zbt,.str zbt])),?_];have c:=P7 (bx:=bx) (h:=h) (m:=m) (x:=x) ok C vV (g:=fj fX 4 (fc (dV 0) (fc (dV 2) (fc (dV 1) zcU)))) (λ_=>rfl);have s1:fK (fI zw [zy,some 10,some 11,some 14] (cw zK) (fg 0) fG (fj K54.fX 4 (fc (dV 0) (fc (dV 2) (fc (dV 1) zcU))))) (fg 15) zbP bx=.nx zC bx:=
  gN (gC (jA (j:=3) zo #[by decide,by decide]) bz c)
 refine(fq s1).trans ?_;have a1:dB (d2 zw bc (dV 15) (d2 zw bX (fO zw (fc (dV 12) ff)) (dC (.int 3)))) zC bx=.val zw bx:=
  fZ (fL (r:=.old zag) bz (fL (r:=.lst [.str zbt,.str zbt,.str zbt]) (jy [.str zbt] zo (show (1:Nat)<=sizeLine by decide)) bz bz) ne3)
 have a2:dB (d2 zw bc (rR (fV (fc (dV 11) (fc (dV 10) ff)))) (dV 13)) zC bx=.val zw bx:=
  fZ (fL (r:=.old zag) (GI (iq [h,m] zaE (show (2:Nat)<=sizeLine by decide)) cs) bz (Pq _))
 exact(iF (gJ a1 a2)).trans bz
end
def Dw (n:Nat) (A:List Bx) (env:aE) (m:DE W) (R:D->uu):uu:=∀ p,∃ d q,m env (pt A n p)=.val (.d d) (pt A n q) /\ R d
def Iv (a b:Int) (d:D):uu:=∃ i,d=.int i /\ a<=i /\ i<=b
section
variable {A:List Bx} {k:DE W} {R S Q:D -> uu} {a b c e:Int} 
theorem G5 (h:Iv 0 999 d):Sm 999 0 1921 d:=by
 let#[i,rfl,h1,h2]:=h;exact Sm.int zb
theorem Iv.to (h:Iv a b d) {a' b':Int}(h1:a'<=a) (h2:b<=b'):Iv a' b' d:=by
 let#[i,e,x,y]:=h;exact#[i,e,by lia,by lia]
theorem Dw.imp (h:Dw n A env m R) (k:∀ d,R d->Q d):Dw n A env m Q:=λp=>by
 let#[d,q,e,r]:=h p;exact#[d,q,e,k d r]
theorem jY (i:Int) (h:a<=i /\ i<=b):Dw n A env (dC zaS) (Iv a b):=λp=>#[_,p,rfl,i,rfl,h]
theorem oH (h:env[i]?=some (some (.d d))) (r:R d):Dw n A env (dV i) R:=λp=>#[d,p,by rw[lu,h],r]
theorem AZ (h1:Dw n A env m R) (h2:Dw n A env k S) (hg:∀ x y,R x->S y->∃ r,g x y=some r /\ Q r.toD):Dw n A env (d2 zw g m k) Q:=λp=>by
 let#[x,q,e1,r1]:=h1 p;let#[y,q',e2,r2]:=h2 q;let#[r,e3,r3]:=hg x y r1 r2;exact#[_,q',fL e1 e2 e3,r3]
theorem AK (h1:Dw n A env m (Iv a b)) (h2:Dw n A env k (Iv c e)):Dw n A env (d2 zw fR m k) (Iv (a+c) (b+e)):=AZ h1 h2 (by
 rintro _ _ ⟨i,rfl,_,_⟩ ⟨j,rfl,_,_⟩;exact#[.old (.int (i+j)),rfl,i+j,rfl,by lia,by lia])
theorem ip (hn:n<A.length) (he:env[i]?=some (xB n)) (h:Dw n A env m (Iv 1 b)) (hb:b<1073741824):Dw n A env (fj K1.fk 2 (fc (dV i) (fc m ff))) (Iv 0 (b-1)):=λp=>by
 let#[_,q,e1,j,rfl,j1,j2]:=h p;let#[r,q',e2,r1,r2]:=FK hn he e1 zb zb;exact#[_,q',e2,r,rfl,r1,by lia]
theorem mJ (hn:n<A.length) (he:env[i]?=some (xB n)) (l:List Int) (hk:∀ e b,ks e b=.val ((l.map D.int).map W.d) b) {k:Int}(hl:(l.length:Int)=k) (h0:0<k) (h1:k<1000) (hr:∀ v∈l,a<=v /\ v<=b):Dw n A env (d2 zw ak (fO zw ks) (fj K1.fk 2 (fc (dV i) (fc (dC (.int k)) ff)))) (Iv a b):=λp=>by
 let#[v,q,e,mv]:=T0 hn p he l hk hl h0 h1;exact#[_,q,e,v,rfl,hr v mv]
theorem Vt {g:List D->Option Res}(h:Dw n A env m R) (hg:∀ d,R d->∃ r,g [d]=some r /\ Q r.toD):Dw n A env (dN zw g (fc m ff)) Q:=λp=>by
 let#[x,q,e1,r1]:=h p;let#[r,e3,r3]:=hg x r1;exact#[_,q,gH [x] (fe e1 bz) e3,r3]
theorem NG (h1:Dw n A env m R) (h2:Dw n A env k S) (h:∀ x y,R x->S y->Q (.tup [x,y])):Dw n A env (fV (fc m (fc k ff))) Q:=λp=>by
 let#[x,q,e1,r1]:=h1 p;let#[y,q',e2,r2]:=h2 q;exact#[_,q',iq [x,y] (fe e1 (fe e2 bz)) (show (2:Nat)<=sizeLine by decide),h x y r1 r2]
theorem G6 {src:List zaw}{e':aE}(h:Dw n A env m (Iv a b)) (h0:0<=a) (hb:b<=1000) (he:cR src env=zy::e') (ht:∀ w,Dw n A (some w::e') te R):Dw n A env (fI zw src (cw (fc m ff)) (fg 0) fG te) (λd=>∃ l,d=.lst l /\ a<=l.length /\ (l.length:Int)<=b /\ ∀ x∈l,R x):=λp=>by
 have sz:=bH;let#[_,q,e1,j,rfl,j1,j2]:=h p;let#[ds,q',e2,e3,e4]:=Pn (g:=fg 0) (te:=te) (λe=>∃ w,e=w::e') R (bx:=A) (n:=n) (gf 0 j.toNat) (zy::e') q [] #[zy,rfl] (by
  rintro w _ env p ⟨w0,rfl⟩;let#[d,q,x,y]:=ht w p;exact#[some w::e',rfl,#[_,rfl],d,q,x,y]) (by simp[gf];lia)
 rw[E4]at e2;have l:ds.length=j.toNat:=by rw[e3];simp[gf]
 exact#[_,q',gC (jA (fe e1 bz) zb) he e2,ds,rfl,by lia,by lia,e4]
end
def Ht (n:Nat) (I:aE->List Bx->uu) (s:ah) (J:aE->List Bx->uu):uu:=∀ env A p,I env A->∃ aA A' q,s env (pt A n p)=.nx aA (pt A' n q) /\ J aA A'
section
variable {I J K:aE -> List Bx -> uu} {s t:ah} 
theorem oo (h:Ht n I s J) (k:Ht n J t K):Ht n I (fm s t) K:=λenv A p i=>by
 let#[env1,A1,q,e1,j]:=h env A p i;let#[aX,A2,q2,e2,k]:=k env1 A1 q j;exact#[_,_,q2,(fq e1).trans e2,k]
theorem B7 (h:∀ env A,I env A->∃ R,Dw n A env m R /\ ∀ d,R d->J (env.set i (some (.d d))) A):Ht n I (fK m (fg i)) J:=λenv A p z=>by
 let#[R,w,r]:=h env A z;let#[d,q,e,x]:=w p;exact#[_,_,q,gN e,r d x]
theorem RV {A:List Bx}(h:n<A.length) (p:Int):fO zO ff env (pt A n p)=.val (.b A.length) (pt (A++[.lst []]) n p):=by
 have a:=m8 (env:=env) (ks:=ff) (bx:=pt A n p) [] bz (nT _);rw[og h,iP]at a;exact a
theorem NH (h:∀ env A,I env A->n<A.length /\ J (env.set i (xB A.length)) (A++[.lst []])):Ht n I (fK zbM (fg i)) J:=λenv A p z=>by
 let#[w,r]:=h env A z;exact#[_,_,p,gN (RV w p),r]
theorem FT (h:∀ env A,I env A->∃ i l R,env[j]?=some (xB i) /\ i≠n /\ A[i]?=some zQ /\ l.length<1000 /\ Dw n A env m R /\ ∀ d,R d->J env (A.set i (.lst (l++[d])))):Ht n I (gy (kU (dV j) m)) J:=λenv A p z=>by
 have sz:=bH;let#[i,l,R,h1,h2,h3,h4,w,r]:=h env A z;let#[d,q,e,x]:=w p;have g:∀ p,(pt A n p)[i]?=some zQ:=λp=>(Dg h2).trans h3;have ap:=M9 (m:=dV j) (env:=env) (by rw[lu,h1]) (g p) e (g q) zb;refine#[_,_,q,(iO ap).trans ?_,r d x];unfold pt;rw[Kt _ _ (Ne.symm h2)]
theorem RW {t:DE W}(h:∀ env A,I env A->Dw n A env t (λd=>∃ b,d=.bl b)) {s s':ah}(a:Ht n I s J) (b:Ht n I s' J):Ht n I (aC (dB t) s s') J:=λenv A p z=>by
 let#[_,q,e,c,rfl]:=h env A z p;have e':=fZ e;cases c with
 |true=>
   let#[x,y,q',e2,r]:=a env A q z;exact#[x,y,q',(iy e').trans e2,r]
 |false=>
   let#[x,y,q',e2,r]:=b env A q z;exact#[x,y,q',(iF e').trans e2,r]
theorem B8 {body:ah}(L:Int->Nat->Nat->aE->List Bx->uu) (h:∀ env A p,I env A->∃ lo c q,mi env (pt A n p)=.val (gf lo c) (pt A n q) /\ L lo c 0 env A)
 (hb:∀ lo c k,k<c->Ht n (λenv A=>∃ e0,env=e0.set i (xN (lo+(k:Nat))) /\ L lo c k e0 A) body (L lo c (k+1))) (he:∀ lo c env A,L lo c c env A->J env A):Ht n I (iB mi (fg i) body) J:=λenv A p z=>by
 let#[lo,c,q,e,l0]:=h env A p z;let#[aA,B',e',A',q',rfl,r]:=oU (g:=fg i) (body:=body) (λk env B=>∃ A q,B=pt A n q /\ L lo c k env A) (gf lo c) 0 _ _ #[A,q,rfl,l0] (by
  rintro k w env B hw ⟨A,q,rfl,r⟩;rw[Ko]at r ⊢;let#[rfl,hk]:=AB hw;let#[aX,A2,q2,e2,r2]:=hb lo c k hk _ A q #[env,rfl,r];exact#[_,_,aX,_,by rw[CY],e2,A2,q2,rfl,r2])
 refine#[aA,A',q',(lv e).trans e',he lo c aA A' ?_];simpa[gf] using r
end
theorem G7 {a b c:ah}{env1:aE}(h:fm a b env bx=.nx env1 bx1):fm a (fm b c) env bx=c env1 bx1:=by
 rw[iN]at h ⊢;cases e:a env bx with
 |nx e2 b2=>rw[e]at h;exact fq h
 |_=>rw[e]at h;cases h
structure Hd (d:D) (k:Nat):uu where
 sm:Sm 999 4 111672 d
 rs:∃ rs k' a b,d=.tup [.tup rs,k',a,b] /\ rs.length=k
 n0:1<=k
 n5:k<=5
theorem xu {x:Bx}{l:List Bx}:(bx++x::l)[bx.length]?=some x:=by simp
theorem WZ {x y:Bx}{l:List Bx}:(bx++x::l).set bx.length y=bx++y::l:=by simp
theorem ab9 {A:List Bx}(h:env[j]?=some (xB i)) (hi:i≠n) (g:A[i]?=some zQ) (p:Int):dN zw ay (fc (dV j) ff) env (pt A n p)=.val (.d (.int l.length)) (pt A n p):=
 T3 (by rw[lu,h]) ((Dg hi).trans g)
theorem Wf (hn:n<bx.length) (p:Int):∃ d k q,aM.jf [.b n] zaV=.val (.d d) (pt bx n q) /\ Hd d k:=by
 have sz:=bH;have h1:∀ l:List Bx,n<(bx++l).length:=λl=>by simp;lia
 have ne:bx.length≠n:=by lia
 have rm:Ht n (λenv A=>env=[xB n,zy,zy,zy,zy,zy,zy,zy] /\ bx=A) za5
  (λenv A=>∃ rs:List D,(env=[xB n,some zbT,zy,zy,zy,zy,zy,zy] /\ bx=A) /\ (1<=rs.length /\ rs.length<=5) /\ ∀ x∈rs,Sm 999 0 1921 x):=B7 (by
  rintro _ _ ⟨rfl,rfl⟩;refine#[_,Vt (Q:=λd=>∃ rs,d=.tup rs /\ (1<=rs.length /\ rs.length<=5) /\ ∀ x∈rs,Sm 999 0 1921 x) (G6 (AK (jY 1 #[bP _,bP _]) (ip hn bz (jY 5 #[by decide,bP _]) za)) za za bz λw=>ip (i:=1) hn bz (jY 4 #[by decide,bP _]) za) ?_,?_]
  .rintro _ ⟨l,rfl,a,b,c⟩;exact#[.tup l,rfl,l,rfl,by lia,λx m=>G5 ((c x m).to za za)]
  .rintro _ ⟨rs,rfl,a,b⟩;exact#[rs,#[rfl,rfl],a,b])
 let#[_,_,q1,e1,rs,#[rfl,rfl],r5,agP]:=rm _ _ p #[rfl,rfl]
 have kb:Ht n (λenv A=>env=[xB n,some zbT,zy,zy,zy,zy,zy,zy] /\ bx=A) (fm (fK zbM (fg 2)) (iB zbE (fg 3) agx))
  (λenv A=>∃ x3 x4,∃ ks:List D,(env=[xB n,some zbT,xB bx.length,x3,x4,zy,zy,zy] /\ A=bx++[.lst ks]) /\ ks.length<=4 /\ ∀ x∈ks,Sm 999 2 9623 x):=by
  refine oo (J:=λenv A=>env=[xB n,some zbT,xB bx.length,zy,zy,zy,zy,zy] /\ A=bx++[.lst []]) (NH (by
   rintro _ _ ⟨rfl,rfl⟩;exact#[hn,rfl,rfl])) ?_
  refine B8 (λlo c k env A=>c<=4 /\ ∃ x3 x4,∃ ks:List D,(env=[xB n,some zbT,xB bx.length,x3,x4,zy,zy,zy] /\ A=bx++[.lst ks]) /\ ks.length=k /\ ∀ x∈ks,Sm 999 2 9623 x) ?_ ?_ ?_
  .rintro _ _ p ⟨rfl,rfl⟩;let#[_,q,e,j,rfl,j1,j2]:=AK (n:=n) (A:=bx++[.lst []]) (env:=[xB n,some zbT,xB bx.length,zy,zy,zy,zy,zy]) (jY 1 #[bP _,bP _]) (ip (i:=0) (b:=4) (h1 _) bz (mJ (i:=0) (h1 _) bz [1,2,4] (λ_ _=>rfl) (k:=3) bz za za za) za) p;exact#[0,j.toNat,q,jA (fe e bz) zb,by lia,_,_,[],#[rfl,rfl],rfl,λx m=>nomatch m]
  .intro lo c k hk;refine oo (J:=λenv A=>c<=4 /\ ∃ x3,∃ ss ks:List D,(env=[xB n,some zbT,xB bx.length,x3,some (.d (.lst ss)),zy,zy,zy] /\ A=bx++[.lst ks]) /\ (ss.length=4 /\ ∀ x∈ss,Sm 999 0 1921 x) /\ ks.length=k /\ ∀ x∈ks,Sm 999 2 9623 x) (B7 ?_) (FT ?_)
   .rintro _ _ ⟨_,rfl,c4,x3,x4,ks,⟨rfl,rfl⟩,l,hs⟩;refine#[_,Vt (Q:=λd=>∃ ss,d=.lst ss /\ ss.length=4 /\ ∀ x∈ss,Sm 999 0 1921 x) (G6 (jY 4 #[bP _,bP _]) za za bz λw=>ip (i:=1) (b:=10) (h1 _) bz (mJ (i:=1) (h1 _) bz [2,4,10] (λ_ _=>rfl) (k:=3) bz za za za) za) ?_,?_]
    .rintro _ ⟨l,rfl,a,b,c⟩;obtain⟨ns,rfl,cW⟩:∃ ns:List Int,l=ns.map D.int /\ ∀ i∈ns,0<=i /\ i<=9:=by
      clear a b;induction l with
      |nil=>exact#[[],rfl,λi m=>nomatch m]
      |cons x l ih=>
        let#[i,rfl,i1,i2]:=c x (bK ..);let#[ns,rfl,h]:=ih λy m=>c y (bL _ m);exact#[i::ns,rfl,λj m=>by rcases aH.mp m with rfl|m;exact#[i1,i2];exact h j m]
     rw[aS]at a b;have n4:ns.length=4:=by lia
     refine#[.lst ((sortI ns).map D.int),by simp[kE,wZ,K1.AA,n4],_,rfl,by rw[aS,(gU ns).length_eq,n4],λx m=>?_];let#[i,mi,rfl]:=bU.mp m;have:=cW i ((gU ns).mem_iff.mp mi);exact Sm.int zb
    .rintro _ ⟨ss,rfl,a⟩;exact#[c4,_,ss,ks,#[rfl,rfl],a,l,hs]
   .rintro _ _ ⟨c4,x3,ss,ks,⟨rfl,rfl⟩,⟨s4,agQ⟩,l,hs⟩;refine#[bx.length,ks,λd=>Sm 999 2 9623 d,rfl,ne,xu,by lia,NG (R:=Iv 5 999) (S:=λd=>Sm 999 1 7695 d) (mJ (i:=0) (h1 _) bz [5,40,300,999] (ks:=fc (dC (.int 5)) (fc (dC (.int 40)) (fc (dC (.int 300)) (fc (dC (.int 999)) ff)))) (λ_ _=>rfl) (k:=4) bz za za za) (λp=>#[.tup ss.reverse,p,gH (r:=.tup ss.reverse) [.lst ss.reverse] zo bz,?_]) ?_,?_]
    .have z:=av.of (B:=999) (a:=0) (b:=1921) (l:=ss.reverse) λx m=>agQ x (List.mem_reverse.mp m);rw[YH,s4]at z;exact Sm.tup z
    .intro x y hx hy;exact(Sm.tup (av.cons ((G5 (hx.to za za)).mono (nT 1) (au _)) (av.cons hy av.nil))).mono (au _) za
    .intro d hd;refine#[c4,_,_,ks++[d],#[rfl,WZ],by simp[l],λx m=>?_];rcases cZ.mp m with m|m
     .exact hs x m
     .rw[bu.mp m];exact hd
  .rintro lo c _ _ ⟨c4,x3,x4,ks,h,l,hs⟩;exact#[x3,x4,ks,h,by lia,hs]
 let#[_,_,q2,e2,x3,x4,ks,#[rfl,rfl],k4,hs]:=kb _ _ q1 #[rfl,rfl]
 have ab:Ht n (λenv A=>env=[xB n,some zbT,xB bx.length,x3,x4,zy,zy,zy] /\ A=bx++[.lst ks]) (fm (fK zbM (fg 5)) agz)
  (λenv A=>∃ x6 x7,∃ ps:List D,(env=[xB n,some zbT,xB bx.length,x3,x4,xB zbo,x6,x7] /\ A=bx++[.lst ks,.lst ps]) /\ ps.length<=16 /\ ∀ x∈ps,Sm 999 1 3849 x):=by
  refine oo (J:=λenv A=>env=[xB n,some zbT,xB bx.length,x3,x4,xB zbo,zy,zy] /\ A=bx++[.lst ks,.lst []]) (NH (by
   rintro _ _ ⟨rfl,rfl⟩;refine#[h1 _,?_,by simp];rw[show (bx++[Bx.lst ks]).length=bx.length+1 by simp];rfl)) ?_
  refine B8 (λlo c k env A=>(lo=0 /\ c=ks.length) /\ ∃ x6 x7,∃ ps:List D,(env=[xB n,some zbT,xB bx.length,x3,x4,xB zbo,x6,x7] /\ A=bx++[.lst ks,.lst ps]) /\ ps.length<=4*k /\ ∀ x∈ps,Sm 999 1 3849 x) ?_ ?_ ?_
  .rintro _ _ p ⟨rfl,rfl⟩;refine#[0,ks.length,p,?_,#[rfl,rfl],_,_,[],#[rfl,rfl],au _,λx m=>nomatch m];rw[jA (fe (ab9 (j:=2) rfl ne xu p) rfl) zb,kN]
  .intro lo c k hk;refine B8 (λW0 c' j env A=>(lo=0 /\ c=ks.length) /\ (W0=k+1 /\ c'<=4) /\ ∃ x7,∃ ps:List D,(env=[xB n,some zbT,xB bx.length,x3,x4,xB zbo,xN (k:Nat),x7] /\ A=bx++[.lst ks,.lst ps]) /\ ps.length<=4*k+j /\ ∀ x∈ps,Sm 999 1 3849 x) ?_ ?_ ?_
   .rintro _ _ p ⟨_,rfl,⟨rfl,rfl⟩,x6,x7,ps,⟨rfl,rfl⟩,l,hs⟩;rw[KI];refine#[k+1,ks.length-(k+1),p,?_,#[rfl,rfl],#[rfl,by lia],_,ps,#[rfl,rfl],by lia,hs];rw[M1 (fe (fL (g:=fR) (r:=.old (.int ((k:Int)+1))) (m:=dV 6) (k:=dC zh) rfl rfl rfl) (fe (ab9 (j:=2) rfl ne xu p) rfl)) zb,show ((ks.length:Int)-((k:Int)+1)).toNat=ks.length-(k+1) by lia]
   .rintro W0 c' j hj;refine RW ?_ (FT ?_) ?_
    .rintro _ _ ⟨_,rfl,_,_,x7,ps,⟨rfl,rfl⟩,_⟩;exact AZ (ip (i:=0) (h1 _) bz (jY 3 #[by decide,bP _]) za) (jY 0 #[bP _,bP _]) (by
      rintro _ _ ⟨i,rfl,_⟩ ⟨j,rfl,_⟩;exact#[_,Dh,_,rfl])
    .rintro _ _ ⟨_,rfl,h0,⟨rfl,c4⟩,x7,ps,⟨rfl,rfl⟩,l,hs⟩;refine#[bx.length+1,ps,λd=>Sm 999 1 3849 d,rfl,by lia,by simp,by lia,NG (R:=Iv 0 999) (S:=Iv 0 999) (oH bz #[_,rfl,by lia,by lia]) (oH bz #[_,rfl,by lia,by lia]) (λx y hx hy=>Sm.tup (av.cons (G5 hx) (av.cons (G5 hy) av.nil))),λd hd=>#[h0,#[rfl,c4],_,ps++[d],#[rfl,by simp],by simp;lia,λx m=>?_]];rcases cZ.mp m with m|m
     .exact hs x m
     .rw[bu.mp m];exact hd
    .rintro _ _ p ⟨_,rfl,h0,h2,x7,ps,⟨rfl,rfl⟩,l,hs⟩;exact#[_,_,p,rfl,h0,h2,_,ps,#[rfl,rfl],by lia,hs]
   .rintro W0 c' _ _ ⟨h0,h2,x7,ps,⟨rfl,rfl⟩,l,hs⟩;exact#[h0,_,_,ps,#[rfl,rfl],by lia,hs]
  .rintro lo c _ _ ⟨⟨_,rfl⟩,x6,x7,ps,h,l,hs⟩;exact#[x6,x7,ps,h,by lia,hs]
 let#[_,_,q3,e3,x6,x7,ps,#[rfl,rfl],aiW,hp]:=ab _ _ q2 #[rfl,rfl];let#[_,q4,e4,v,rfl,v1,v9]:=AK (n:=n) (A:=bx++[.lst ks,.lst ps]) (env:=[xB n,some zbT,xB bx.length,x3,x4,xB zbo,x6,x7]) (jY 1 #[bP _,bP _]) (ip (i:=0) (b:=9) (h1 _) bz (mJ (i:=0) (h1 _) bz [3,9] (λ_ _=>rfl) (k:=2) bz za za za) za) q3;have M:aM.lj [xB n,zy,zy,zy,zy,zy,zy,zy] zaV=.rt (.d (.tup [.tup rs,.tup ks,.tup ps,.int v])) (pt (bx++[.lst ks,.lst ps]) n q4):=by
  unfold aM.lj;refine(fq e1).trans ((G7 e2).trans ((G7 e3).trans (gx (iq [.tup rs,.tup ks,.tup ps,.int v] (fe bz (fe (Ng (m:=dV 2) bz ((Dg ne).trans xu)) (fe (Ng (m:=dV 5) bz ((Dg zb).trans zf)) (fe e4 bz)))) (show (4:Nat)<=sizeLine by decide)))))
 refine#[_,rs.length,q4,(oa M).trans (by rw[iP,Df hn]),?_,#[rs,_,_,_,rfl,rfl],r5.1,r5.2];have z1:=(Sm.tup (av.of agP)).mono (a':=3) (b':=9618) za zb;have z2:=(Sm.tup (av.of hs)).mono (a':=3) (b':=38503) za zb;have z3:=(Sm.tup (av.of hp)).mono (a':=3) (b':=61619) za zb;exact(Sm.tup (av.cons z1 (av.cons z2 (av.cons z3 (av.cons (Sm.int zb) av.nil))))).mono (au _) za
def Pr (d:D):uu:=∃ i j:Int,d=.tup [.int i,.int j] /\ (0<=i /\ i<=999) /\ 0<=j /\ j<=999
theorem Vu (h:Pr d):Sm zcu 1 3849 d:=by
 let#[i,j,rfl,h1,h2]:=h;exact Sm.tup (av.cons (Sm.int (br (show i.natAbs<=999 by lia) za)) (av.cons (Sm.int (br (show j.natAbs<=999 by lia) za)) av.nil))
theorem P8 (hn:n<bx.length) (p:Int) {k:Nat}(H:Hd d k):∃ (ds:List D) (q:Int),aM.jg [.b n,.d d] zaV=.val (.d (.lst ds)) (pt bx n q) /\ ds.length<=10 /\ av zcu 1 39997 ds:=by
 have sz:=bH;let#[rs,kk,aa,bb,ed,hk]:=H.rs;have n0:=H.n0;have n5:=H.n5;have h1:∀ l:List Bx,n<(bx++l).length:=λl=>by simp;lia
 have ne:bx.length≠n:=by lia
 have s1:nG 2 3 (fc (dN zw ay (fc (d2 zw ak (dV 1) zd) ff)) (fc zbM ff)) [xB n,some (.d d),zy,zy,zy,zy,zy] zaV=.nx zbk (pt (bx++[.lst []]) n p):=
  GQ (by subst ed;exact gH (r:=.old (.int (k:Nat))) [.tup rs] (fe (fL (r:=.old (.tup rs)) bz bz bz) bz) (by simp[ay,hk])) (RV hn p)
 have lp:Ht n (λenv A=>env=zbk /\ A=bx++[.lst []]) (iB (cw (fc (kq (dB (d2 zw qJ (dV 2) zc)) (fj K1.fk 2 (fc (dV 0) (fc (dC (.int 11)) ff))) zd) ff)) (fg 4) agB)
  (λenv A=>∃ x4 x5 x6,∃ ds:List D,(env=zaU /\ A=bx++[.lst ds]) /\ ds.length<=10 /\ ∀ x∈ds,Pr x):=by
  refine B8 (λlo c j env A=>(c<=10 /\ (1<=c->2<=k)) /\ ∃ x4 x5 x6,∃ ds:List D,(env=zaU /\ A=bx++[.lst ds]) /\ ds.length=j /\ ∀ x∈ds,Pr x) ?_ ?_ ?_
  .rintro _ _ p ⟨rfl,rfl⟩;have ct:dB (d2 zw qJ (dV 2) zc) zbk (pt (bx++[.lst []]) n p)=.val (decide (2<=k)) (pt (bx++[.lst []]) n p):=
    fZ (fL (r:=.old (.bl (decide (2<=k)))) bz bz (by simp[qJ];lia))
   by_cases hk:2<=k
   .rw[decide_eq_true hk]at ct;let#[_,q,e,j,rfl,j1,j2]:=ip (n:=n) (A:=bx++[.lst []]) (env:=zbk) (i:=0) (h1 _) bz (jY 11 #[by decide,bP _]) za p;exact#[0,j.toNat,q,jA (fe (Nf ct e) bz) zb,#[by lia,λ_=>hk],_,_,_,[],#[rfl,rfl],rfl,λx m=>nomatch m]
   .rw[decide_eq_false hk]at ct;exact#[0,0,p,jA (j:=0) (fe (RN ct bz) bz) za,#[by lia,λz=>by lia],_,_,_,[],#[rfl,rfl],rfl,λx m=>nomatch m]
  .intro lo c j hj;refine oo (J:=λenv A=>(c<=10 /\ 2<=k) /\ ∃ x4 x6,∃ i:Int,∃ ds:List D,(env=[xB n,some (.d d),xN (k:Nat),xB bx.length,x4,xN i,x6] /\ A=bx++[.lst ds]) /\ (0<=i /\ i<=4) /\ ds.length=j /\ ∀ x∈ds,Pr x) (B7 ?_) (oo (J:=λenv A=>(c<=10 /\ 2<=k) /\ ∃ x4,∃ i i':Int,∃ ds:List D,(env=[xB n,some (.d d),xN (k:Nat),xB bx.length,x4,xN i,xN i'] /\ A=bx++[.lst ds]) /\ ((0<=i /\ i<=4) /\ 0<=i' /\ i'<=4) /\ ds.length=j /\ ∀ x∈ds,Pr x) (B7 ?_) (oo (J:=λenv A=>(c<=10 /\ 2<=k) /\ ∃ x4 x5 x6,∃ ds:List D,(env=zaU /\ A=bx++[.lst ds]) /\ ds.length=j+1 /\ ∀ x∈ds,Pr x) (FT ?_) (RW ?_ ?_ ?_)))
   .rintro _ _ ⟨_,rfl,⟨c1,c2⟩,x4,x5,x6,ds,⟨rfl,rfl⟩,l,hs⟩;refine#[_,ip (i:=0) (b:=5) (h1 _) bz (oH bz #[_,rfl,by lia,by lia]) za,?_];rintro _ ⟨i,rfl,i1,i2⟩;exact#[#[c1,c2 zb],_,_,i,ds,#[rfl,rfl],#[i1,by lia],l,hs]
   .rintro _ _ ⟨⟨c1,k2⟩,x4,x6,i,ds,⟨rfl,rfl⟩,hi,l,hs⟩;refine#[Iv 0 4,AZ (R:=Iv 0 999) (S:=λd=>d=.int k) (AK (a:=0) (b:=5) (AK (a:=0) (b:=4) (oH bz #[i,rfl,hi]) (jY 1 (a:=0) (b:=1) za)) (ip (i:=0) (b:=4) (h1 _) bz (AZ (R:=λd=>d=.int k) (oH bz bz) (jY 1 #[bP _,bP _]) ?_) za) |>.imp λd h=>h.to za za) (oH bz bz) ?_,?_]
    .rintro _ _ rfl ⟨j,rfl,_,_⟩;exact#[.old (.int (k-j)),rfl,_,rfl,by lia,by lia]
    .rintro _ _ ⟨z,rfl,_,_⟩ rfl;exact#[.old (.int (z % k)),by simp[kC];lia,_,rfl,Y5 _ zb,by have:=Y6 z (show (0:Int)<k by lia);lia]
    .rintro _ ⟨i',rfl,i1,i2⟩;exact#[#[c1,k2],_,i,i',ds,#[rfl,rfl],#[hi,i1,i2],l,hs]
   .rintro _ _ ⟨c1,x4,i,i',ds,⟨rfl,rfl⟩,⟨hi,qS⟩,l,hs⟩;refine#[bx.length,ds,Pr,rfl,ne,xu,by lia,NG (R:=λd=>d=.int i) (S:=λd=>d=.int i') (oH bz bz) (oH bz bz) (by rintro _ _ rfl rfl;exact#[i,i',rfl,by lia,by lia,by lia]),λd hd=>#[c1,_,_,_,ds++[d],#[rfl,WZ],by simp[l],λx m=>?_]];rcases cZ.mp m with m|m
    .exact hs x m
    .rw[bu.mp m];exact hd
   .rintro _ _ ⟨_,x4,x5,x6,ds,⟨rfl,rfl⟩,_⟩;exact AZ (ip (i:=0) (h1 _) bz (jY 5 #[by decide,bP _]) za) (jY 0 #[bP _,bP _]) (by
     rintro _ _ ⟨i,rfl,_⟩ ⟨j,rfl,_⟩;exact#[_,Dh,_,rfl])
   .rintro _ _ p ⟨⟨c1,k2⟩,x4,x5,x6,ds,⟨rfl,rfl⟩,l,hs⟩;obtain⟨z,xw,rfl⟩:∃ z t,ds=z::t:=by cases ds with|nil=>cases l|cons z t=>exact⟨z,t,rfl⟩
    let#[i,i',rfl,b1,b2]:=hs z (bK ..);have g:(pt (bx++[.lst (.tup [.int i,.int i']::xw)]) n p)[bx.length]?=some (.lst (.tup [.int i,.int i']::xw)):=(Dg ne).trans xu;have i0:d2 zw ak (dV 3) zd zaU (pt (bx++[.lst (.tup [.int i,.int i']::xw)]) n p)=.val (.d (.tup [.int i,.int i'])) (pt (bx++[.lst (.tup [.int i,.int i']::xw)]) n p):=RP bz bz g (by simp[bA,dE]);refine#[zaU,bx++[.lst ((.tup [.int i,.int i']::xw).set xw.length (.tup [.int i',.int i]))],p,(U8 (w:=.d (.tup [.int i',.int i])) (iq [.int i',.int i] (fe (fL (r:=.old (.int i')) i0 bz bz) (fe (fL (r:=.old zaS) i0 bz bz) bz)) (show (2:Nat)<=sizeLine by decide)) (U7 (mo:=dV 3) (mi:=eE zc) bz (Ax bz) g (AC zf))).trans ?_,#[c1,λ_=>k2],x4,x5,x6,_,#[rfl,rfl],by rw[nj];exact l,λx m=>?_]
    .unfold pt;rw[Kt _ _ (Ne.symm ne),WZ];rfl
    .rcases List.mem_or_eq_of_mem_set m with m|rfl
     .exact hs x m
     .exact#[i',i,rfl,b2,b1]
   .rintro _ _ p ⟨⟨c1,k2⟩,x4,x5,x6,ds,⟨rfl,rfl⟩,l,hs⟩;exact#[_,_,p,rfl,#[c1,λ_=>k2],_,_,_,ds,#[rfl,rfl],l,hs]
  .rintro lo c _ _ ⟨h,x4,x5,x6,ds,e,l,hs⟩;exact#[x4,x5,x6,ds,e,by lia,hs]
 let#[_,_,q,e2,x4,x5,x6,ds,#[rfl,rfl],l,hs]:=lp _ _ p #[rfl,rfl];have M2:aM.lm [xB n,some (.d d),zy,zy,zy,zy,zy] zaV=.rt (.d (.lst ds)) ((pt (bx++[.lst ds]) n q).set bx.length .dead):=by
  unfold aM.lm;exact(fq s1).trans ((fq e2).trans (gx (RL bz (BW hn))))
 refine#[ds,q,(oa M2).trans (by rw[iP,BX hn,Df hn]),l,?_];exact(av.of λx m=>Vu (hs x m)).mono (au _) zb
section
variable {A:List Bx} {t u:DE Bool} {s r:ah} {R S:D -> uu} {P Q:Bool -> uu} 
def Rt (n:Nat) (A:List Bx) (env:aE) (s:ah) (R:D->uu):uu:=∀ p,∃ d q,s env (pt A n p)=.rt (.d d) (pt A n q) /\ R d
def Dt (n:Nat) (A:List Bx) (env:aE) (t:DE Bool) (P:Bool->uu):uu:=∀ p,∃ c q,t env (pt A n p)=.val c (pt A n q) /\ P c
theorem ou (h:Dw n A env m R):Rt n A env (fN m) R:=λp=>by
 let#[d,q,e,x]:=h p;exact#[d,q,gx e,x]
theorem DM (h:Dt n A env t P) (a:P zO->Rt n A env s R) (b:P zw->Rt n A env r R):Rt n A env (fm (aC t s aF) r) R:=λp=>by
 let#[c,q,e,x]:=h p;cases c with
 |true=>
   let#[d,q',e',y]:=a x q;exact#[d,q',gY ((iy e).trans e'),y]
 |false=>
   let#[d,q',e',y]:=b x q;exact#[d,q',(fq ((iF e).trans bz)).trans e',y]
theorem NI (h:Dw n A env m S) (k:∀ d,S d->Rt n A (env.set i (some (.d d))) r R):Rt n A env (fm (fK m (fg i)) r) R:=λp=>by
 let#[d,q,e,x]:=h p;let#[d',q',e',y]:=k d x q;exact#[d',q',(fq (gN e)).trans e',y]
theorem NJ (h:Dw n A env m λd=>∃ c,d=.bl c /\ P c):Dt n A env (dB m) P:=λp=>by
 let#[_,q,e,c,rfl,x]:=h p;exact#[c,q,fZ e,x]
theorem Vv (h:Dt n A env t P) (k:Dt n A env u Q):Dt n A env (aZ t u) (λc=>c=zw->P zw /\ Q zw):=λp=>by
 let#[c,q,e,x]:=h p;cases c with
 |true=>exact#[zO,q,iA e,λz=>nomatch z]
 |false=>
   let#[c,q',e',y]:=k q;exact#[c,q',gJ e e',λz=>#[x,z▸y]]
theorem Uh (h:Dt n A env t P) (k:Dt n A env u Q):Dt n A env (qG t u) (λc=>c=zO->P zO):=λp=>by
 let#[c,q,e,x]:=h p;cases c with
 |false=>exact#[zw,q,FA e,λz=>nomatch z]
 |true=>
   let#[c,q',e',y]:=k q;exact#[c,q',FB e e',λ_=>x]
theorem FU (hn:n<A.length) (he:env[i]?=some (xB n)):Dw n A env (fj K1.fY 1 (fc (dV i) ff)) (·∈qo):=λp=>by
 let#[d,q,e,x]:=BU hn p;exact#[d,q,fF (l:=[.b n]) (fe (by rw[lu,he]) bz) bz e,x]
theorem W2 (hn:n<A.length) {p p1:Int}(he:env[i]?=some (xB n)) (l:List D) (hk:ks env (pt A n p)=.val zbd (pt A n p1)) {k:Int}(hl:(l.length:Int)=k) (h0:0<k) (h1:k<1000) :
 ∃ v q,d2 zw ak (fO zw ks) (fj K1.fk 2 (fc (dV i) (fc (dC (.int k)) ff))) env (pt A n p)=.val (.d v) (pt A n q) /\ v∈l:=by
 let#[r,q,t,a,b]:=abW hn p1 he k h0 zb;let#[d,e,m]:=oV (l:=l) a (by rw[hl];exact b);have sz:=bH;exact#[d,q,fL (r:=.old d) (jy l hk zb) t (by erw[ak,e,kM]),m]
theorem NK (hn:n<A.length):∀ (i a:Nat) (d:D) {b:Nat},Sm zcu a b d->a<i->b<=1000000->∀ p,∃ d' q,gF i [.b n,.d d] (pt A n p)=.val (.d d') (pt A n q) /\ Sm zbr (a+2) ((a+1)*(3*b+5000)) d'
 |0,a,d,b,_,z,_=>nomatch z
 | i+1,a,d,b,s,hi,hb=>λp=>by
   have sz:=bH;have gb:3*b+5000<=(a+1)*(3*b+5000):=Nat.le_mul_of_pos_left _ (Yu a);have aca:∀ y∈qo,Sm zbr 2 3850 y:=λy my=>(BT y my).up za;have od:∀ y∈qo,Sm zbr (a+2) ((a+1)*(3*b+5000)) y:=λy my=>(aca y my).mono zb zb;have W3:∀ (x y:Int),∃ r:Res,ck (.int x) (.int y)=some r /\ ∃ c,r.toD=.bl c /\ True:=λx y=>#[_,Dh,_,rfl,trivial]
   suffices Rt n A [xB n,some (.d d),zy,zy] (lY (gF i)) λd'=>Sm zbr (a+2) ((a+1)*(3*b+5000)) d' by
    let#[d',q,e,x]:=this p;exact#[d',q,(oa e).trans (by rw[iP,<-iP (bx:=A) (n:=n) (p:=q),ua]),x]
   unfold lY;refine DM (P:=λc=>c=!dH d) (λp=>#[_,p,fU (fZ (b:=dH d) (by cases d<;>rfl)),rfl]) (λht=>?_) (λht=>?_)
   .refine DM (Uh (P:=λc=>c=wh d) (λp=>#[_,p,fZ (fF (l:=[.d d]) zo bz (m9 d _)),rfl]) (NJ (P:=λ_=>True) (AZ (ip (i:=0) hn bz (jY 3 #[by decide,bP _]) za) (jY 0 #[bP _,bP _]) (by
     rintro _ _ ⟨x,rfl,_⟩ ⟨y,rfl,_⟩;exact#[.old (.bl (decide (y<x))),rfl,_,rfl,trivial])))) (λhw=>ou ?_) (λ_=>ou ((FU (i:=0) hn bz).imp od))
    obtain⟨x,rfl⟩:∃ x,d=.int x:=by
     have hw:=hw bz;cases d<;>first|exact#[_,rfl]|cases hw
    have hx:x.natAbs<=10 ^ 30:=by have:=s.s;simpa[ib] using this
    refine AZ (R:=λd=>d=.int x) (S:=Iv (-10000) 9999) (oH bz bz) (mJ (i:=0) hn bz [1,-1,9,100,9999,-10000] (λe b=>fe bz (fe (Ax bz) (fe bz (fe bz (fe bz (fe (Ax (fL (r:=.old (.int (10 ^ 4))) bz bz (Nc za))) bz)))))) (k:=6) bz za za za) ?_;rintro _ _ rfl ⟨y,rfl,_,_⟩;exact#[.old (.int (x+y)),rfl,(Sm.int (a:=0) zb).mono zb zb]
   obtain⟨l,rfl⟩:∃ l,d=.tup l:=by
    cases d<;>first|exact#[_,rfl]|cases ht
   let#[a1,sl,b3]:=s.WR;have ln:l.length<=b:=br (GN l) (br sl.w zb);have su:=sl.up (B':=10 ^ 30+10 ^ 4) za;have cl:∀ x y,(DL.cutD l x y).length<=b:=λx y=>br (aM.AD l x y) ln;have ad:∀ x y:List D,x.length+y.length<=10000000->fR (.tup x) (.tup y)=some (.tup (x++y)):=λx y z=>if_pos zb;have tu:∀ {x:List D}{b':Nat},av zbr (a-1) b' x->b'<=3*b->Sm zbr (a+2) ((a+1)*(3*b+5000)) (.tup x):=λh z=>(Sm.tup h).mono zb zb;have pv:∀ {j:Nat}{e:Int}{env:aE}(p:List Bx),env[j]?=some (xN e)->cc (dV j) env p=.val (some e) p:=λp h=>jV (by rw[lu,h]);refine NI (ip (i:=0) hn bz (jY 12 #[by decide,bP _]) za) ?_;rintro _ ⟨w,rfl,_,_⟩;refine DM (Vv (P:=λ_=>True) (NJ (AZ (R:=λd=>d=.int w) (oH bz bz) (jY 0 #[bP _,bP _]) (by rintro _ _ rfl ⟨y,rfl,_⟩;exact W3 _ _))) (NJ (P:=λc=>c=l.isEmpty) (λp=>#[_,p,fL (r:=.old (.bl l.isEmpty)) bz bz bz,_,rfl,rfl]))) (λ_=>ou λp=>?_) (λhw=>?_)
   .let#[o1,q1,e1,m1]:=FU (A:=A) (env:=[xB n,some (.d zV),xN w,zy]) (i:=0) hn bz p;let#[o2,q2,e2,m2]:=FU (A:=A) (env:=[xB n,some (.d zV),xN w,zy]) (i:=0) hn bz q1;have c1:=cl (some (-1)) zy;let#[v,q,e,mv]:=W2 (env:=[xB n,some (.d zV),xN w,zy]) (p:=p) (p1:=q2) (ks:=fc (fj K1.fY 1 zq) zbJ) (k:=4) hn (i:=0) bz [o1,.lst l,.tup (l++[o2]),.tup (l++DL.cutD l (some (-1)) zy)] (fe e1 (fe (gH (r:=.lst l) [.tup l] zo bz) (fe (fL (r:=.tup _) bz (iq [o2] (fe e2 bz) (show (1:Nat)<=sizeLine by lia)) (ad _ _ zS)) (fe (fL (r:=.tup _) bz (oC (r:=.tup _) bz (jV (Ax bz)) bz bz) (ad _ _ zb)) bz)))) bz za za;refine#[v,q,e,?_];erw[aH,dq,or_false]at mv;rcases mv with rfl|rfl|rfl|rfl
    .exact od _ m1
    .exact(Sm.lst su).mono zb zb
    .exact(Sm.tup ((su.mono (a':=a+1) zb (au _)).append (av.cons ((aca _ m2).mono (show 2<=a+1 by lia) (au _)) av.nil))).mono zb zb
    .exact tu (su.append (su.cut _ _)) zb
   have le:0<l.length:=by
    have:=(hw bz).2;cases l with
    |nil=>cases this
    |cons _ _=>exact Yu _
   refine NI (ip (i:=0) (b:=l.length) hn bz (λp=>#[_,p,gH (r:=.old (.int (l.length:Nat))) [.tup l] zo bz,_,rfl,by lia,bP _]) zb) ?_;rintro _ ⟨j,rfl,j1,j2⟩;have t1:∀ p,cx zw (dV 1) cS (cc (dV 3)) [xB n,some (.d zV),xN w,xN j] p=.val (.d (.tup (DL.cutD l zy (some j)))) p:=λp=>oC (r:=.tup _) bz bz (pv p bz) bz;have t2:∀ p,cx zw (dV 1) (cc (d2 zw fR (dV 3) zc)) cS [xB n,some (.d zV),xN w,xN j] p=.val (.d (.tup (DL.cutD l (some (j+1)) zy))) p:=λp=>oC (r:=.tup _) bz (jV (fL (r:=.old (.int (j+1))) bz bz bz)) bz bz;have z1:=cl zy (some j);have z2:=cl (some (j+1)) zy;have z3:=cl (some j) (some (j+1));have z4:=cl (some j) zy;refine DM (P:=λ_=>True) (NJ (AZ (R:=λd=>d=.int w) (oH bz bz) (jY 1 #[bP _,bP _]) (by rintro _ _ rfl ⟨y,rfl,_⟩;exact W3 _ _))) (λ_=>ou λp=>#[_,p,fL (r:=.tup _) (t1 _) (t2 _) (ad _ _ zb),tu ((su.cut _ _).append (su.cut _ _)) zb]) λ_=>?_;refine DM (P:=λ_=>True) (NJ (AZ (R:=λd=>d=.int w) (oH bz bz) (jY 2 #[bP _,bP _]) (by rintro _ _ rfl ⟨y,rfl,_⟩;exact W3 _ _))) (λ_=>ou λp=>#[_,p,fL (r:=.tup _) (fL (r:=.tup _) (t1 _) (oC (r:=.tup _) bz (pv _ bz) (jV (fL (r:=.old (.int (j+1))) bz bz bz)) bz) (ad _ _ zb)) (oC (r:=.tup _) bz (pv _ bz) bz bz) (ad _ _ zS),tu (((su.cut _ _).append (su.cut _ _)).append (su.cut _ _)) zb]) λ_=>ou λp=>?_;let#[c,ec,mc]:=oV (l:=l) j1 zb;have sc:=sl.mem mc;let#[x,q,ex,sx]:=NK hn i (a-1) c sc zb zb p;refine#[_,q,fL (r:=.tup _) (fL (r:=.tup _) (t1 _) (iq [x] (fe (fF (l:=[.b n,.d c]) (fe bz (fe (fL (r:=.old c) bz bz (by erw[ak,ec,kM])) bz)) bz ex) bz) (show (1:Nat)<=sizeLine by lia)) (ad _ _ zS)) (t2 _) (ad _ _ zS),?_];have up:∀ {y:List D}{b':Nat},av zbr (a-1) b' y->av zbr (a+1) b' y:=λh=>h.mono zb (au _);obtain⟨a',rfl⟩:∃ a',a=a'+1:=#[a-1,by lia];have gm:(a'+1)*(3*(b-3)+5000)<=(a'+1)*(3*b+5000):=Nat.mul_le_mul_left _ zb;have gs:(a'+1+1)*(3*b+5000)=(a'+1)*(3*b+5000)+(3*b+5000):=ya _ _;exact(Sm.tup (((up (su.cut zy (some j))).append (av.cons (sx.mono (show a'+1-1+2<=a'+1+1 by lia) (au _)) av.nil)).append (up (su.cut (some (j+1)) zy)))).mono zb (by erw[Ks]at *;lia)
end
section
variable {h:D} 
theorem Vw (hn:n<bx.length) (p:Int) (he:env[2]?=some (xB n)) (h3:env[3]?=some (some (.d h))) (s:Sm 999 4 111672 h) :
 ∃ o q,d2 zw ak zal (fj K1.fk 2 (fc (dV 2) zK)) env zaV=.val (.d o) (pt bx n q) /\ Sm zbr 6 1700080 o:=by
 have s1:Sm zcu 4 111672 h:=s.up za;let#[d,p1,e,sd]:=NK hn 12 4 h s1 za za p;have v3:∀ b,dV 3 env b=.val (.d h) b:=λb=>by rw[lu,h3]
 have v2:∀ b,dV 2 env b=.val (.b n) b:=λb=>by rw[lu,he]
 let#[o,q,z,m]:=W2 (k:=3) (p:=p) (p1:=p1) (ks:=fc (dV 3) zap) hn he [h,h,d] (fe (v3 _) (fe (v3 _) (fe (fF (l:=[.b n,.d h]) (fe (v2 _) (fe (v3 _) bz)) bz e) bz))) bz za za;refine#[o,q,z,?_];have s2:Sm zbr 6 1700080 h:=(s1.up za).mono za za;erw[aH,dq,or_false]at m;rcases m with rfl|rfl|rfl
 .exact s2
 .exact s2
 .exact sd
theorem NL {o:D}(s:Sm zbr 6 1700080 o):K1.WU o:=#[_,_,_,s,by decide,by decide,by decide]
end
section
variable {h m:D} 
theorem NM (hn:n<bx.length) (p:Int) (he:env[2]?=some (xB n)) :
 ∃ x q,d2 zw ak (fO zw (fc (dC .non) zax)) (fj K1.fk 2 (fc (dV 2) (fc zai ff))) env zaV=.val (.d x) (pt bx n q) /\ uI x:=by
 let#[d,p1,e,md]:=BU hn p;have v2:∀ b,dV 2 env b=.val (.b n) b:=λb=>by rw[lu,he]
 let#[x,q,z,mx]:=W2 (k:=4) (p:=p) (p1:=p1) (ks:=fc (dC .non) zax) hn he [.non,.lst [],.lst [.int 0,.int 1],d]
  (fe bz (fe bz (fe bz (fe (fF (l:=[.b n]) (fe (v2 _) bz) bz e) bz)))) bz za za
 refine#[x,q,z,?_];have od:∀ y∈qo,uI y:=by
  intro y my;erw[qo,aH,dq,or_false]at my;rcases my with rfl|rfl|rfl|rfl|rfl|rfl|rfl|rfl|rfl|rfl|rfl|rfl|rfl|rfl|rfl|rfl|rfl<;>intro l e<;>cases e<;>exact#[by decide,by decide]
 erw[aH,dq,or_false]at mx;rcases mx with rfl|rfl|rfl|rfl
 .exact λl e=>nomatch e
 .intro l e;cases e;exact#[by decide,by decide]
 .intro l e;cases e;exact#[by decide,by decide]
 .exact od _ md
end
abbrev W4:ah:=(fm (fK (d2 zw ak zal (fj K1.fk 2 (fc (dV 2) zK))) (fg 11)) (fm (nG 12 13 zbK) (fm zbG (fm (fK (d2 zw ak (fO zw (fc (dC .non) zax)) (fj K1.fk 2 (fc (dV 2) (fc zai ff)))) (fg 14)) ab8))))
section
variable {h m:D}
theorem Wg (hn:n<bx.length) (p:Int) (hC:∀ q,eU.cB (pt bx n q)) (s:Sm 999 4 111672 h) {a b:Nat}(sm:Sm zbr a b m) (ha:a<=50) (hb:b<=1000000) (x0 x1 x4 x5 x6 x7 x8 x9 x11 x12 x13 x14 x15:Option W) :
 ∃ rY rZ se sf sg q,W4 zbB zaV=.nx [x0,x1,xB n,some (.d h),x4,x5,x6,x7,x8,x9,some (.d m),rY,rZ,se,sf,sg] (pt bx n q):=by
 have sz:=bH;let#[o,q1,e1,so]:=Vw (env:=zbB) hn p bz bz s;have cs:vF (.tup [o,m])=zO:=
  Fz (Sm.tup (av.cons (so.mono (show 6<=56 by decide) (au _)) (av.cons (sm.mono (show a<=56 by lia) (au _)) av.nil))) za za zb
 have ok:=(NL so).ok;have s1:fK (d2 zw ak zal (fj K1.fk 2 (fc (dV 2) zK))) (fg 11) zbB zaV=.nx [x0,x1,xB n,some (.d h),x4,x5,x6,x7,x8,x9,some (.d m),some (.d o),x12,x13,x14,x15] (pt bx n q1):=gN e1;have s2:nG 12 13 zbK [x0,x1,xB n,some (.d h),x4,x5,x6,x7,x8,x9,some (.d m),some (.d o),x12,x13,x14,x15] (pt bx n q1)=.nx zB (pt bx n q1):=
  aM.GQ bz (GI (iq [o,m] zaE (show (2:Nat)<=sizeLine by lia)) cs)
 have s3:=Vs (bx:=pt bx n q1) (h:=o) (m:=m) ok (i:=11) (j:=10) (k:=12) (env:=zB) bz bz;have agR:(if house o then (zB:aE).set 12 (some (.d (.str (due o m)))) else zB)=zbD:=by
  cases e:house o with
  |false=>rw[RS e];rfl
  |true=>rfl
 rw[agR]at s3;let#[x,q2,e2,vV]:=NM (env:=zbD) hn q1 bz;let#[w,e3]:=We (bx:=pt bx n q2) (h:=o) (m:=m) (x:=x) ok (hC q2) vV cs x0 x1 (xB n) (some (.d h)) x4 x5 x6 x7 x8 x9 x15;exact#[_,_,_,_,w,q2,(fq s1).trans ((fq s2).trans ((fq s3).trans ((fq (gN e2)).trans e3)))]
end
abbrev acb:ah:=(aC (dB zD) zj aF)
theorem Wh (C:eU.cB bx) (h3:env[3]?=some (some (.d zV))):acb env bx=.nx env bx:=by
 have c:bJ (fg 0) fG (fj K54.fX 4 (fc (dV 0) (fc (dN zw nK zr) (fc (dC .non) (fc (dC .non) ff))))) (gf 0 3) [zy,some (.d zV)] bx []=.val [.str (due zQ .non),.str (due zQ .non),.str (due zQ .non)] bx:=by
  have c:=gR (g:=fg 0) (te:=fj K54.fX 4 (fc (dV 0) (fc (dN zw nK zr) (fc (dC .non) (fc (dC .non) ff))))) (bx:=bx) (l:=[D.int 0,.int 1,.int 2]) (env:=[zy,some (.d zV)]) (λe=>∃ w,e=[w,some (.d zV)]) (λ_=>D.str (due zQ .non)) #[zy,rfl] (by
   rintro d md env ⟨w,rfl⟩;refine#[[some (.d d),some (.d zV)],rfl,#[_,rfl],?_];obtain⟨i,hi,rfl⟩:∃ i:Nat,i<3 /\ d=.int i:=by
    erw[aH,dq,or_false]at md;rcases md with rfl|rfl|rfl
    .exact#[0,by decide,rfl]
    .exact#[1,by decide,rfl]
    .exact#[2,by decide,rfl]
   exact fF (l:=[.d zaS,.d zQ,.d .non,.d .non]) (fe bz (fe (gH (r:=.lst l) [.tup l] zo bz) zaE)) bz (DJ (h:=.lst l) (m:=.non) (x:=.non) trivial C (λ_ e=>nomatch e) hi)) (show (3:Nat)<=sizeLine by decide)
  exact c
 have a1:dB zD env bx=.val zw bx:=
  fZ (fL (r:=.old zag) (gC (jA (j:=3) zo #[by decide,by decide]) (by simp[cR,h3]) c) (fL (r:=.lst [.str "house",.str "house",.str "house"]) (jy [.str "house"] zo (show (1:Nat)<=sizeLine by decide)) bz bz) (ne3 (h:=.lst l) (m:=.non)))
 exact(iF a1).trans bz
abbrev xx (d:D):uu:=Sm zbr 5 200000 d
noncomputable def vW (k:Int) (d:D):List D:=[.tup [.int 0,.int k],.tup [.int 0,.int (k-1)],.tup [.int (k-1),.int 0],.tup [.int 0,.int 0],.tup [.int (-1),.int 0],.tup [.int 0],.tup [.int 0,.int 1,.int 2],.lst [.int 0,.int 1],.tup [.bl zO,.int 0]]++[.tup [.int 0,.non],d,.tup [.int 0,.str "1"],.tup [.int zcu,.int 0]]
theorem P9 {k:Nat}(k5:k<=5) (md:d∈qo):∀ x∈vW k d,Sm zcu 2 6000 x:=by
 intro x m;have c:∀ k<6,((vW (k:Nat) .non).all λx=>(ib zcu x&&decide ((toPy x).depth<=2)&&decide (wt x<=6000)))=zO:=by decide +kernel
 have e:x∈vW k .non \/ x=d:=by
  erw[vW,cZ,aH,dq,or_false]at m ⊢
  grind
 rcases e with e|rfl
 .have:=cK.mp (c k zb) x e;erw[ao,decide_eq_true_eq]at this;exact#[this.1.1,this.1.2,this.2]
 .exact(BT _ md).mono (au _) za
section
variable {k:Nat} {x0 x1 x2 x3 x5 x8 x10 x11 x12 x13 x14 x15:Option W}
abbrev acd:DE W:=zbh
theorem Vx (B:List Bx) (hl:l.length<=10) (s:av zcu 1 39997 l) (sd:Sm zcu 2 6000 d) (a:Int) (x7:Option W) :
 ∃ t,acd [x0,x1,x2,x3,some (.d zQ),x5,xN a,x7,x8,some (.d d),x10,x11,x12,x13,x14,x15] B=.val (.d t) B /\ xx t:=by
 have sz:=bH;have c1:=aM.AD l zy (some a);have c2:=aM.AD l (some (a+1)) zy;refine#[.lst (DL.cutD ((DL.cutD l zy (some a)++[d])++DL.cutD l (some (a+1)) zy) zy (some 10)),?_,?_]
 .exact oC (r:=.lst _) (fL (r:=.lst _) (fL (r:=.lst _) (oC (r:=.lst _) bz bz (jV bz) bz) (jy [d] zo (show (1:Nat)<=sizeLine by lia)) (if_pos zS)) (oC (r:=.lst _) bz (jV (fL (r:=.old (.int (a+1))) bz bz bz)) bz bz) (if_pos zS)) bz (jV bz) bz
 .have s':=s.mono (a':=2) za (au _);exact((Sm.lst ((((s'.cut zy (some a)).append (av.cons sd av.nil)).append (s'.cut (some (a+1)) zy)).cut zy (some 10))).up za).mono za za
abbrev ace:ah:=gy (kU (dV 7) acd)
theorem Vy (hl:l.length<=10) (s:av zcu 1 39997 l) (a:Int) (hn:n<bx.length) (p:Int):∀ (os ts:List D) (x9:Option W),(∀ o∈os,Sm zcu 2 6000 o)->(∀ t∈ts,xx t)->ts.length+os.length<=100 ->
 ∃ Ir y9,dF (fg 9) ace (os.map W.d) [x0,x1,x2,x3,some (.d zQ),x5,xN a,xB bx.length,x8,x9,x10,x11,x12,x13,x14,x15] (pt (bx++[.lst ts]) n p)=.nx [x0,x1,x2,x3,some (.d zQ),x5,xN a,xB bx.length,x8,y9,x10,x11,x12,x13,x14,x15] (pt (bx++[.lst Ir]) n p) /\ ∀ t∈Ir,xx t:=by
 intro l_;induction l_ with
 |nil=>exact λts x9 _ T _=>#[ts,x9,rfl,T]
 |cons o os aq=>
   intro ts x9 O T L;have sz:=bH;rw[bp]at L;let#[t,e,st]:=Vx (x0:=x0) (x1:=x1) (x2:=x2) (x3:=x3) (x5:=x5) (x8:=x8) (x10:=x10) (x11:=x11) (x12:=x12) (x13:=x13) (x14:=x14) (x15:=x15) (pt (bx++[.lst ts]) n p) hl s (O o (bK ..)) a (xB bx.length);have bg:=BW (p:=p) (x:=.lst ts) hn;let#[Ir,y9,e',T']:=aq (ts++[t]) (some (.d o)) (λu m=>O u (bL _ m)) (λu m=>by
    rcases cZ.mp m with m|m
    .exact T u m
    .rw[bu.mp m];exact st) zS
   refine#[Ir,y9,(lw bz (iO (M9 bz bg e bg zb))).trans ?_,T'];rw[BX hn];exact e'
abbrev acf:DE W:=z9
theorem Vz (s:av zcu 1 39997 l) (hn:n<bx.length) (p:Int) (x6 x7 x9:Option W) :
 ∃ ts q,acf [x0,x1,xB n,x3,some (.d zQ),x5,x6,x7,x8,x9,x10,x11,x12,x13,x14,x15] zaV=.val zca (pt (bx++[.lst ts]) n q) /\ (∀ t∈ts,xx t) /\ ts.length=8:=by
 have sz:=bH;let#[d,q,e,md]:=BU hn p;have s':=s.up (B':=10 ^ 30+10 ^ 4) za;have r:∀ k:Nat,k<=11->xx (.lst (List.replicate k [D.tup [.int 0,.int 1]]).flatten):=λk hk=>by
  have z:=av.of (B:=10 ^ 30+10 ^ 4) (a:=1) (b:=3849) (l:=(List.replicate k [D.tup [.int 0,.int 1]]).flatten) λx m=>by
   let#[y,my,mx]:=List.mem_flatten.mp m;rw[(List.mem_replicate.mp my).2]at mx;rw[bu.mp mx];exact Sm.tup (av.cons (Sm.int za) (av.cons (Sm.int za) av.nil))
  rw[aJ.Dx]at z;exact(Sm.lst z).mono za (by erw[bp,kK];lia)
 have mu:∀ k:Int,0<=k->k<=11->∀ env b,d2 zw bX (fO zw (fc (fV (fc zd (fc zc ff))) ff)) (dC (.int k)) env b=.val (.d (.lst (List.replicate k.toNat [D.tup [.int 0,.int 1]]).flatten)) b:=λk h0 h1 env b=>
  fL (r:=.lst _) (jy [.tup [.int 0,.int 1]] (fe (iq [.int 0,.int 1] bz (show (2:Nat)<=sizeLine by lia)) bz) (show (1:Nat)<=sizeLine by lia)) bz (aM.agF h0 zb zf)
 have m1:=mu 10 za za;have m2:=mu 11 za za;have r1:=r (10:Int).toNat za;have r2:=r (11:Int).toNat za;generalize (List.replicate (10:Int).toNat [D.tup [.int 0,.int 1]]).flatten=X at m1 r1;generalize (List.replicate (11:Int).toNat [D.tup [.int 0,.int 1]]).flatten=Y at m2 r2;refine#[[.lst l,.tup l,.ai [(.inl 0,.lst l)],.non,d,.lst [],.lst X,.lst Y],q,?_,λt mt=>?_,rfl]
 .rw[<-og hn,show bx.length=(pt bx n q).length from iP.symm];exact m8 [.lst l,.tup l,.ai [(.inl 0,.lst l)],.non,d,.lst [],.lst X,.lst Y] (fe bz (fe (gH (r:=.tup l) [.lst l] zo bz) (fe bz (fe bz (fe (fF zo bz e) (fe (jy [] bz (nT _)) (fe (m1 _ _) (fe (m2 _ _) bz)))))))) (show (8:Nat)<=sizeLine by lia)
 .erw[aH,dq,or_false]at mt;rcases mt with rfl|rfl|rfl|rfl|rfl|rfl|rfl|rfl
  .exact(Sm.lst s').mono za za
  .exact(Sm.tup s').mono za za
  .exact(aM.T8 (Sm.lst s')).mono za za
  .exact Sm.non.mono (au _) za
  .exact((BT _ md).up za).mono za za
  .exact(Sm.lst av.nil (a:=0)).mono za za
  .exact r1
  .exact r2
end
section
variable {k:Nat} {h:D} {x0 x1 x4 x5 x6 x7 x8 x9:Option W}
theorem VA (hn:n<bx.length) (hC:∀ q,eU.cB (pt bx n q)) (s:Sm 999 4 111672 h):∀ (ts:List D) (p:Int) (x10 x11 x12 x13 x14 x15:Option W),(∀ t∈ts,xx t) ->
 ∃ xy rY rZ se sf sg q,dF (fg 10) W4 (ts.map W.d) [x0,x1,xB n,some (.d h),x4,x5,x6,x7,x8,x9,x10,x11,x12,x13,x14,x15] zaV=.nx [x0,x1,xB n,some (.d h),x4,x5,x6,x7,x8,x9,xy,rY,rZ,se,sf,sg] (pt bx n q):=by
 intro l_;induction l_ with
 |nil=>exact λp x10 x11 x12 x13 x14 x15 _=>#[x10,x11,x12,x13,x14,x15,p,rfl]
 |cons t ts aq=>
   intro p x10 x11 x12 x13 x14 x15 T;let#[rY,rZ,se,sf,sg,q,e]:=Wg hn p hC s (T t (bK ..)) za za x0 x1 x4 x5 x6 x7 x8 x9 x11 x12 x13 x14 x15;let#[agS,agT,agU,agV,agW,agX,q',e']:=aq q (some (.d t)) rY rZ se sf sg λu m=>T u (bL _ m);exact#[agS,agT,agU,agV,agW,agX,q',(lw bz e).trans e']
abbrev acg:DE W:=zM
abbrev ach:DE W:=zaO
noncomputable abbrev tV (k:Int):List D:=[.tup [.int 0,.int k],.tup [.int 0,.int (k-1)],.tup [.int (k-1),.int 0],.tup [.int 0,.int 0],.tup [.int (-1),.int 0],.tup [.int 0],.tup [.int 0,.int 1,.int 2],.lst [.int 0,.int 1],.tup [.bl zO,.int 0]]
theorem VB (B:List Bx) (k:Int) (h5:env[5]?=some (xN k)):acg env B=.val (.d (.lst (tV k))) B:=by
 have v5:dV 5 env B=.val (.d (.int k)) B:=by rw[lu,h5]
 have s5:d2 zw eD (dV 5) zc env B=.val (.d (.int (k-1))) B:=fL (r:=.old (.int (k-1))) v5 bz bz;have t2:∀ {a b:DE W}{x y:D},a env B=.val (.d x) B->b env B=.val (.d y) B->fV (fc a (fc b ff)) env B=.val (.d (.tup [x,y])) B:=λ{a b x y} h1 h2=>iq [x,y] (fe h1 (fe h2 bz)) (show (2:Nat)<=sizeLine by decide);exact jy (tV k) (fe (t2 bz v5) (fe (t2 bz s5) (fe (t2 s5 bz) (fe bz (fe bz (fe bz (fe bz zaE))))))) (show (9:Nat)<=sizeLine by decide)
theorem VC (hn:n<bx.length) (p k:Int) (h2:env[2]?=some (xB n)) (h8:env[8]?=some (some (.d (.lst (tV k))))):∃ d q,ax ach env zaV=.val ((vW k d).map W.d) (pt bx n q) /\ d∈qo:=by
 let#[d,q,e,md]:=BU hn p;have ad:∀ a b:List D,a.length+b.length<=sizeLine->fR (.lst a) (.lst b)=some (.lst (a++b)):=λ_ _ z=>if_pos z;have v2:∀ b,dV 2 env b=.val (.b n) b:=λb=>by rw[lu,h2]
 have v8:∀ b,dV 8 env b=.val (.d (.lst (tV k))) b:=λb=>by rw[lu,h8]
 have pw:∀ b,d2 zw pM zco (dC (.int 30)) env b=.val (.d (.int zcu)) b:=λb=>fL (r:=.old (.int zcu)) bz bz (K1.Nc za);exact#[d,q,gM (fL (r:=.lst (vW k d)) (v8 _) (jy [.tup [.int 0,.non],d,.tup [.int 0,.str "1"],.tup [.int zcu,.int 0]] (fe (iq [.int 0,.non] bz (show (2:Nat)<=sizeLine by decide)) (fe (fF (fe (v2 _) bz) bz e) (fe (iq [.int 0,.str "1"] bz (show (2:Nat)<=sizeLine by decide)) (fe (iq [.int zcu,.int 0] (fe (pw _) zo) (show (2:Nat)<=sizeLine by decide)) bz)))) (show (4:Nat)<=sizeLine by decide)) (ad _ _ (show (13:Nat)<=sizeLine by decide))),md]
end
abbrev aci:ah:=(fm (fK (fj K1.jQ 1 (fc (fj K1.iD 2 zb7) ff)) (fg 2)) (fm (fK (fj aM.jf 1 zu) (fg 3)) (fm (nG 4 5 (fc (fj aM.jg 2 (fc (dV 2) zcU)) (fc (dN zw ay (fc zcc ff)) ff))) (fm (fK (fj K1.fk 2 (fc (dV 2) (fc (d2 zw fR (dN zw ay (fc (dV 4) ff)) zc) ff))) (fg 6)) (fm (fK acf (fg 7)) (fm (fK acg (fg 8)) (fm (iB (ax ach) (fg 9) ace) (fm (iB (ax (kX 7)) (fg 10) W4) acb))))))))
theorem Ui (l:List Int) (k:Nat) (bx:List Bx) (C:eU.cB bx) (x2 x3 x4 x5 x6 x7 x8 x9 x10 x11 x12 x13 x14 x15:Option W):∃ y1 y2 y3 y4 y5 y6 y7 y8 y9 xy rY rZ se sf sg bx',eU.cB bx' /\ aci [some (.s l),xN (k:Int),x2,x3,x4,x5,x6,x7,x8,x9,x10,x11,x12,x13,x14,x15] bx=.nx [some (.s l),y1,y2,y3,y4,y5,y6,y7,y8,y9,xy,rY,rZ,se,sf,sg] bx':=by
 have sz:=bH;let#[c,ec]:=K1.TZ l k bx;let#[p,ep]:=K1.U6 c bx;obtain⟨A,hn,CA,pA⟩:∃ A:List Bx,bx.length<A.length /\ eU.cB A /\ bx++[Bx.lst [D.int p]]=pt A bx.length p:=
  #[bx++[.lst [.int p]],by simp,C.app (eU.G3 bz),by unfold pt;exact(M8 YX).symm]
 rw[pA]at ep;generalize bx.length=n at hn ep;let#[h,m,q1,eh,H]:=Wf hn p;let#[P,q2,em,ll,sl]:=P8 hn q1 H;let#[rs,kk,aa,bb,acj,lr]:=H.rs;have m5:=H.n5;let#[a,q3,et,a0,a1]:=aM.FK hn (p:=q2) (p1:=q2) (env:=[some (.s l),xN (k:Int),xB n,some (.d h),some (.d (.lst P)),xN (m:Int),x6,x7,x8,x9,x10,x11,x12,x13,x14,x15]) (i:=2) (m:=d2 zw fR (dN zw ay (fc (dV 4) ff)) zc) (k:=(P.length:Int)+1) bz (fL (r:=.old (.int ((P.length:Int)+1))) (gH (r:=.old (.int (P.length:Int))) [.lst P] zo bz) bz bz) zb zb;have ln:∀ b,dN zw ay (fc zcc ff) [some (.s l),xN (k:Int),xB n,some (.d h),x4,x5,x6,x7,x8,x9,x10,x11,x12,x13,x14,x15] b=.val (.d (.int (m:Int))) b:=λb=>by
  subst acj;exact gH (r:=.old (.int (m:Int))) [.tup rs] (fe (fL (r:=.old (.tup rs)) bz bz bz) bz) (by rw[<-lr];rfl)
 let#[ts,q4,agY,T,lt]:=Vz (x0:=some (.s l)) (x1:=xN (k:Int)) (x3:=some (.d h)) (x5:=xN (m:Int)) (x8:=x8) (x10:=x10) (x11:=x11) (x12:=x12) (x13:=x13) (x14:=x14) (x15:=x15) sl hn q3 (xN a) x7 x9;have wQ:∀ y:Bx,n<(A++[y]).length:=λy=>by simp;lia
 let#[d,q5,ei,md]:=VC (env:=[some (.s l),xN (k:Int),xB n,some (.d h),some (.d (.lst P)),xN (m:Int),xN a,xB A.length,some (.d (.lst (tV m))),x9,x10,x11,x12,x13,x14,x15]) (wQ (.lst ts)) q4 m bz bz;let#[us,y9,ea,U]:=Vy (x0:=some (.s l)) (x1:=xN (k:Int)) (x2:=xB n) (x3:=some (.d h)) (x5:=xN (m:Int)) (x8:=some (.d (.lst (tV m)))) (x10:=x10) (x11:=x11) (x12:=x12) (x13:=x13) (x14:=x14) (x15:=x15) ll sl a hn q5 (vW m d) ts x9 (P9 m5 md) T (by rw[lt];exact(show 8+13<=100 by decide));have hC:∀ q,eU.cB (pt (A++[.dead]) n q):=λq=>(CA.app (b:=[.dead]) bz).set n bz;let#[xy,rY,rZ,se,sf,sg,q6,eu]:=VA (x0:=some (.s l)) (x1:=xN (k:Int)) (x4:=some (.d (.lst P))) (x5:=xN (m:Int)) (x6:=xN a) (x7:=xB A.length) (x8:=some (.d (.lst (tV m)))) (x9:=y9) (wQ .dead) hC H.sm us q5 x10 x11 x12 x13 x14 x15 U;have en:=Wh (env:=[some (.s l),xN (k:Int),xB n,some (.d h),some (.d (.lst P)),xN (m:Int),xN a,xB A.length,some (.d (.lst (tV m))),y9,xy,rY,rZ,se,sf,sg]) (l:=[.tup rs,kk,aa,bb]) (hC q6) (by rw[acj];rfl);have fz:ax (kX 7) [some (.s l),xN (k:Int),xB n,some (.d h),some (.d (.lst P)),xN (m:Int),xN a,xB A.length,some (.d (.lst (tV m))),y9,x10,x11,x12,x13,x14,x15] (pt (A++[.lst us]) n q5)=.val (us.map W.d) (pt (A++[.dead]) n q5):=by
  rw[<-BX (x:=.lst us) (y:=.dead) (p:=q5) hn];exact gM (RL bz (BW hn))
 have e8:=VB (env:=[some (.s l),xN (k:Int),xB n,some (.d h),some (.d (.lst P)),xN (m:Int),xN a,xB A.length,x8,x9,x10,x11,x12,x13,x14,x15]) (pt (A++[.lst ts]) n q4) m bz;exact#[_,_,_,_,_,_,_,_,_,_,_,_,_,_,_,_,hC q6,(fq (gN (fF (fe (fF zaE bz ec) bz) bz ep))).trans ((fq (gN (fF zo bz eh))).trans ((fq (aM.GQ (fF zaE bz em) (ln _))).trans ((fq (gN et)).trans ((fq (gN agY)).trans ((fq (gN e8)).trans ((fq ((lv ei).trans ea)).trans ((fq ((lv fz).trans eu)).trans en)))))))]
theorem law_true (l:List Int) (hl:l.length<=1000):∃ bx',BM [.s l] []=.val (.d zc2) bx':=by
 let#[c,ec]:=aJ.Vk l hl [] [zy,zy,zy,zy,zy,zy,zy,zy,zy,zy,zy,zy,zy,zy,zy];let#[aA,bx',e,_]:=oU (g:=fg 1) (body:=aci) (λ_ env b=>eU.cB b /\ ∃ x1 x2 x3 x4 x5 x6 x7 x8 x9 x10 x11 x12 x13 x14 x15,env=[some (.s l),x1,x2,x3,x4,x5,x6,x7,x8,x9,x10,x11,x12,x13,x14,x15]) (gf 0 c) 0 [some (.s l),zy,zy,zy,zy,zy,zy,zy,zy,zy,zy,zy,zy,zy,zy,zy] [] #[rfl,_,_,_,_,_,_,_,_,_,_,_,_,_,_,_,rfl] (by
  rintro i w env b hw ⟨C,x1,x2,x3,x4,x5,x6,x7,x8,x9,x10,x11,x12,x13,x14,x15,rfl⟩;let#[k,_,rfl]:=bU.mp (yc hw);let#[y1,y2,y3,y4,y5,y6,y7,y8,y9,xy,rY,rZ,se,sf,sg,bx',Cz,e]:=Ui l k b C x2 x3 x4 x5 x6 x7 x8 x9 x10 x11 x12 x13 x14 x15;exact#[_,b,_,_,by rw[KI];rfl,e,Cz,_,_,_,_,_,_,_,_,_,_,_,_,_,_,_,rfl])
 refine#[_,oa (bx':=bx') ?_];show MO [some (.s l),zy,zy,zy,zy,zy,zy,zy,zy,zy,zy,zy,zy,zy,zy,zy] []=_;unfold MO;refine(fq ((lv ec).trans e)).trans ?_;exact gx bz
end K54
namespace L2.DL
open PySem.W
structure Cf where
 N:List Str
 nm:List (Str×NameKind)
 f:Bool
 bx:List Str
 dc:List Str
 wk:List (Str×Nat)   -- 1: a tuple of aiX,2: a box that is walked,3: a dict with tuple keys
 Iu:Str
 fs:List zbR
 gl:List (Str×Int)
 bl:List Str
 rb:Bool
 rx:Bool
 tr:Bool
 ow:List Str
structure bC (c:Cf) (k:Nat) (X:Cx) (Z:Xs):uu where
 N:X.N=c.N
 nm:X.env.scope.names=c.nm
 kd:X.env.scope.kind=.function
 calm:X.calm=zO
 fn:c.f=zO->∀ x,X.fn x=zO
 ow:∀ x,x∈c.ow->X.fn x=zO
 nd:c.N.Nodup
 room:bV k X.A
 fs:∀ x n fn,c.fs.lookup x=some (n,fn)->∃ kk ps,nN X.prog X.w X.K X.mg X.base Z.cl kk x ps fn /\ ps.length=n /\ kk<=k
 gl:∀ x v,c.gl.lookup x=some v->∃ t,X.mg x=some (.int v t)
 bl:∀ x,x∈c.bl->X.mg x=zy
 ack:Passes (eB X.prog X.w) X Z.E
 ti:nJ X.K "int"
 tb:nJ X.K "bool"
 tt:nJ X.K "tuple"
 tl:nJ X.K "list"
 own:c.rx=zw->PassesOwn ze X.A X.env X.xe
 agZ:c.rx=zO->uo X Z.E /\ ∃ R,kY X.K X.mg R Z.cl
 acm:c.tr=zO->(∃ R,kY X.K X.mg R Z.cl) /\ Ei X.prog X.w X.K X.mg X.base Z.cl /\ 1<=k /\ X.stack=X.env::X.outer /\ X.env.frame=some X.env.locals
section
variable {o:Option Expr}
theorem fu:PD X T Z e az:=λ_ _ _ _ _ _ h=>by
 let#[_,_,_,_,_,h]:=h;exact h.elim
theorem iS:dX X T Z e az:=λ_ _ _ _ _ _ h=>by
 let#[_,_,_,_,_,h]:=h;exact h.elim
theorem G8:rP X T Z e az:=λ_ _ _ _ _ _ _ h=>by
 let#[_,_,_,_,_,h]:=h;exact h.elim
theorem Rb:cH X T Z es az:=λ_ _ _ _ _ _ _ h=>by
 let#[_,_,_,_,_,h]:=h;exact h.elim
theorem mK:pL X T Z tg e az:=λ_ _ _ _ _ _ h=>by
 let#[_,_,_,_,_,h]:=h;exact h.elim
noncomputable def vX:DG:=λ_ _ _=>zy
noncomputable def acn:pd:=λ_ _ _=>zy
theorem lJ:ku X T e vX:=λ_ _ _ _ _ _ _ _ _ h=>by
 let#[_,_,_,_,_,_,_,h]:=h;exact h.elim
theorem NO:sY X T es acn:=λ_ _ _ _ _ _ _ _ _ h=>by
 let#[_,_,_,_,_,_,_,h]:=h;exact h.elim
end
noncomputable def Cf.kd (c:Cf) (x:Str) (n:Nat):Bool:=match c.wk.lookup x with|some k=>k==n|none=>zw
def aco (c:Cf) (n:Nat):Expr->Bool
 |.Name x _=>c.kd x n
 |_=>zw
def ag0 (c:Cf) (es:List Expr):Option Nat:=es.findIdx? (aco c 4)
noncomputable def Cf.ix (c:Cf) (x:Str):Option Nat:=c.N.findIdx? λy=>decide (y=x)
theorem Cf.W5 {c:Cf}(h:c.ix x=some i):c.N[i]?=some x:=by
 let#[h1,h2,_]:=List.findIdx?_eq_some_iff_getElem.mp h;rw[cU h1,of_decide_eq_true h2]
def Cf.xA (c:Cf) (x:Str):Bool:=(decide (c.nm.lookup x=some .local)||decide (c.nm.lookup x=some .cell)||decide (c.nm.lookup x=some .free))&&!(x==("__debug__":Str))&&!(x==("__classdict__":Str))
def Cf.uK (c:Cf) (x:Str):Bool:=decide (c.nm.lookup x=some .globalImplicit)&&!(x==("__debug__":Str))&&decide (x≠("__name__":Str))
def Cf.xC (c:Cf) (x:Str):Bool:=(decide (c.nm.lookup x=some .local)||decide (c.nm.lookup x=some .cell))&&(c.f||decide (x∈c.ow)||decide (c.nm.lookup x=some .local))
def Cf.cY (c:Cf) (x:Str):Bool:=c.uK x&&decide (x∈c.bl)
section
variable {c:Cf} {k:Nat} 
theorem bC.acp (O:bC c k X Z) (h:c.xA x=zO):rD X.env.scope x /\ (x==("__debug__":Str))=zw /\ (x==("__classdict__":Str))=zw:=by
 erw[Cf.xA,ao,uR,decide_eq_true_eq,qr]at h;unfold rD;rw[O.nm];exact#[or_assoc.mp h.1.1,h.1.2,h.2]
theorem bC.gb (O:bC c k X Z) (h:c.uK x=zO):Gl X x /\ (x==("__debug__":Str))=zw /\ x≠("__name__":Str):=by
 erw[Cf.uK,ao,decide_eq_true_eq,qr]at h;unfold Gl Env.kindOf;rw[O.nm];exact#[h.1.1,h.1.2,h.2]
theorem bC.lo (O:bC c k X Z) (h:c.xC x=zO):Loc X.env.scope x /\ (X.fn x=zO \/ X.env.scope.names.lookup x=some .local):=by
 erw[Cf.xC,ao,uR,decide_eq_true_eq]at h;unfold Loc;rw[O.nm];exact#[h.1,h.2.imp (λz=>z.elim (λz=>O.fn z x) (O.ow x)) id]
theorem bC.blt (O:bC c k X Z) (h:c.cY x=zO):Gl X x /\ (x==("__debug__":Str))=zw /\ x≠("__name__":Str) /\ X.mg x=zy:=by
 erw[Cf.cY,ao,decide_eq_true_eq]at h;let#[a,b,d]:=O.gb h.1;exact#[a,b,d,O.bl x h.2]
theorem bC.at (O:bC c k X Z) (h:c.ix x=some i):X.N[i]?=some x:=by rw[O.N];exact c.W5 h
theorem bC.vY (O:bC c k X Z):X.N.Nodup:=by rw[O.N];exact O.nd
theorem bC.u0 (O:bC c k X Z):X.A.units+100<cLine:=by have:=O.room.un;lia
theorem bC.u1 (O:bC c k X Z):X.A.units+1<cLine:=by have:=O.room.un;lia
def Iw (c:Cf) (fz:Bool) (x:Str):DE W:=match c.ix x with
 |some i=>if c.xA x then (if fz&&c.bx.contains x then kX i else dV i) else az
 | none=>match c.gl.lookup x with
   |some v=>if c.uK x then dC (.int v) else az
   |none=>az
theorem DN (O:bC c k X Z) (fz:Bool):PD X T Z zcq (Iw c fz x):=by
 unfold Iw;split
 .ext i e;split
  .ext h;let#[a,b,d]:=O.acp h;split
   .exact Tk i (O.at e) a b d
   .exact SK i (O.at e) a b d
  .exact fu
 .split
  .ext v e;split
   .ext h;let#[a,b,_]:=O.gb h;exact OK a (O.gl x v e) b
   .exact fu
  .exact fu
end
section
variable {c:Cf} {k:Nat} {f:Expr -> DE W} {t:Expr -> DE Bool} {g:Expr -> DG}
def tW (f:Expr->DE W):List Expr->DE zan
 |[]=>ff
 |e::es=>if a7 e then fc (f e) (tW f es) else az
theorem lA (h:∀ e,PD X T Z e (f e)):∀ es,cH X T Z es (tW f es)
 |[]=>jb
 | e::es=>by
   unfold tW;split
   .ext n;exact j6 (h e) (lA h es) n
   .exact Rb
def W6 (f:Expr->DE W):List Expr->DE W
 |[]=>az
 |[a]=>f a
 |a::r=>gI (f a) (W6 f r)
theorem G9 (h:∀ e,PD X T Z e (f e)):∀ es,PD X T Z (.BoolOp .And es pos) (W6 f es)
 |[]=>fu
 |[a]=>ST (h a)
 |a::b::r=>SU (h a) (G9 h (b::r))
def W7 (f:Expr->DE Bool):List Expr->DE Bool
 |[]=>az
 |[a]=>f a
 |a::r=>qG (f a) (W7 f r)
theorem DO (h:∀ e,dX X T Z e (t e)):∀ es,rP X T Z (.BoolOp .And es pos) (W7 t es)
 |[]=>G8
 |[a]=>LY (h a)
 |a::b::r=>Oj (h a) (DO h (b::r))
def W8 (f:Expr->DE Bool):List Expr->DE Bool
 |[]=>az
 |[a]=>f a
 |a::r=>aZ (f a) (W8 f r)
theorem Ja (h:∀ e,dX X T Z e (t e)):∀ es,rP X T Z (.BoolOp .Or es pos) (W8 t es)
 |[]=>G8
 |[a]=>Oi (h a)
 |a::b::r=>SS (h a) (Ja h (b::r))
def Iy (g:Expr->DG):List Expr->pd
 |[]=>jm
 |e::es=>if a7 e then fT (g e) (Iy g es) else acn
theorem NP (h:∀ e,ku X T e (g e)):∀ es,sY X T es (Iy g es)
 |[]=>L6
 | e::es=>by
   unfold Iy;split
   .ext n;exact Ts (h e) (NP h es) n
   .exact NO
end
def acq:Operator->Option (D->D->Option Res)
 |.Add=>some fR|.Sub=>some eD|.Mult=>some bX|.FloorDiv=>some HN|.Mod=>some kC|.Pow=>some pM
 |_=>zy
def vZ:CmpOp->Option (D->D->Option Res)
 |.Eq=>some ck|.NotEq=>some bc|.Lt=>some kD|.LtE=>some b9|.Gt=>some qJ|.GtE=>some pf|.In=>some (inD zw)|.NotIn=>some (inD zO)
 |_=>zy
theorem Rc {op:Operator}(h:acq op=some g):∃ q,aO X (binaryOp op) q /\ bS q g:=by
 cases op<;>cases h
 .exact#[_,Ow,ae0]
 .exact#[_,Sl,ae1]
 .exact#[_,OE,afv]
 .exact#[_,So,ae3]
 .exact#[_,Sq,ae4]
 .exact#[_,NZ,ae2]
theorem lK (hu:X.A.units+100<cLine) (h:vZ op=some g):∃ q,aO X (compareOp op) q /\ bS q g:=by
 cases op<;>cases h
 .exact#[_,Tg hu,aft]
 .exact#[_,Th hu,afu]
 .exact#[_,S4 zb,ae5]
 .exact#[_,Tj zb,afw]
 .exact#[_,UG,ae6]
 .exact#[_,UH,ae7]
 .exact#[_,Jm.or (Tt hu),okIn zw]
 .exact#[_,BF.or (JF hu),okIn zO]
def W9:List (Str×(Bool×(String×(List D->Option Res)))):=
 [("len",zw, "len",ay),("all",zw, "all",bj),("any",zw, "any",xh),("sorted",zw, "sorted",kE),("max",zw, "max",maxD),("min",zw, "min",minD),
  ("tuple",zO, "tuple",ph),("list",zO, "list",nK)]
def acr (X:Cx) (x:Str) (p:Bool×(String×(List D->Option Res))):uu:=
 match p with
 |(false,id,g)=>bootBuiltins x=some zcf /\ ∃ q,dD X zcf q /\ hU q g
 |(true,id,g)=>bootBuiltins x=some (.type id) /\ ∃ q,dD X (.type id) q /\ hU q g
theorem jr {α:Type}{P:Str->α->uu}:∀ {l:List (Str×α)}{x:Str}{a:α},(∀ p∈l,P p.1 p.2)->l.lookup x=some a->P x a
 |[],_,_,_,e=>by cases e
 | (y,b)::r,x,a,h,e=>by
   rw[eW]at e;cases hx:x==y with
   |true=>
     rw[hx]at e;cases e;have:x=y:=by simpa using hx
     subst this;exact h _ (bK ..)
   |false=>
     rw[hx]at e;exact jr (λp m=>h p (bL _ m)) e
theorem Re (hc:X.calm=zO) (hu:X.A.units+100<cLine) {p:Bool×(String×(List D->Option Res))}(h:W9.lookup x=some p):acr X x p:=by
 refine jr (P:=acr X) (λp m=>?_) h;erw[W9,aH,dq,or_false]at m;rcases m with rfl|rfl|rfl|rfl|rfl|rfl|rfl|rfl
 .exact#[by decide +kernel,_,mf,ae9]
 .exact#[by decide +kernel,_,Jv hc,afc]
 .exact#[by decide +kernel,_,JI hc,af2]
 .exact#[by decide +kernel,_,Fj hu,afP]
 .exact#[by decide +kernel,_,Jh hc,aff]
 .exact#[by decide +kernel,_,Ji hc,afg]
 .exact#[by decide +kernel,_,AS,afd]
 .exact#[by decide +kernel,_,BG,afe]
noncomputable def Xa:List (Str×String):=[("int","int"),("bool","bool"),("tuple","tuple"),("list","list")]
theorem DP {c:Cf}{k:Nat}(O:bC c k X Z) {n:String}(h:Xa.lookup x=some n):nJ X.K n /\ bootBuiltins x=some (.type n):=by
 refine jr (P:=λx n=>nJ X.K n /\ bootBuiltins x=some (.type n)) (λp m=>?_) h;erw[Xa,aH,dq,or_false]at m;rcases m with rfl|rfl|rfl|rfl
 .exact#[O.ti,by decide +kernel]
 .exact#[O.tb,by decide +kernel]
 .exact#[O.tt,by decide +kernel]
 .exact#[O.tl,by decide +kernel]
noncomputable def ED:Expr->Bool
 |.Call ..=>zw
 |_=>zO
theorem jw {o:Expr}{a:Str}{env:Env}{whole:Sem kz}(h:ED o=zO):attributeBase o a env whole=whole:=by
 cases o<;>first|rfl|cases h
noncomputable def plainT:Expr->Bool
 |.BoolOp ..|.UnaryOp ..|.IfExp ..|.Compare ..=>zw
 |_=>zO
theorem Bv {env:Env}(h:plainT e=zO) (whole:Sem kz):PySem.isTrue e env whole=(do let v <-whole;standAt e.pos;holding [v] (truthy v)):=by
 cases e<;>first|rfl|cases h
noncomputable def v7:Expr->Bool
 |.Set ..=>zw
 |_=>zO
theorem iY {env:Env}(h:v7 e=zO) (x:kz):foldedSetIterable e env x=pure x:=by
 cases e<;>first|rfl|cases h
noncomputable def wa:Expr->Bool
 |.ListComp ..|.SetComp ..|.DictComp ..=>zO
 |_=>zw
theorem mL {t:Option Expr}{l:Nat}{env:Env}(h:wa e=zw):swapsWith e t l env=pure zw:=by
 cases e<;>first|rfl|cases h
noncomputable def EE:Expr->Bool
 |.Slice ..=>zw
 |_=>zO
section
variable {a b o:Expr} {mb mc:DE W} {p:Pos}
theorem AL (h:EE b=zO):Hv b:=λ_ _=>by
 cases b<;>first|rfl|cases h
theorem Rf (h:EE b=zO):HR b:=λ_ _=>by
 cases b<;>first|rfl|cases h
theorem acs {env:Env}(h:a7 e=zO):((backTo pos (starEach [e] env)).all (λx=>!x.1)&&(backToKw pos (keywordEach [] env)).all (λx=>x.1.isSome)&&decide zbj)=zO:=by
 rw[fJ h];rfl
theorem acu {env:Env}{f:Expr}(h:a7 e=zO) (hf:a7 f=zO):((backTo pos (starEach [e,f] env)).all (λx=>!x.1)&&(backToKw pos (keywordEach [] env)).all (λx=>x.1.isSome)&&decide ([e,f].length+([]:List Keyword).length+(if ([]:List Keyword).isEmpty then 0 else 1)<30))=zO:=by
 rw[fJ h,fJ hf];rfl
theorem Rg (hu:X.A.units+1<cLine) (hi:PD X T Z e mb) (ho:PD X T Z o ma) (hm:behindInMarks .In o=zw):dX X T Z (.Compare e [.In] [o] pos) (dB (rT zw mb ma)):=
 PT.imp (Sc (Me hu hi ho) hm) λσ H Q h=>RI (UK h)
end
section
variable {c:Cf} {k:Nat} {p:Pos} {f:Expr -> DE W} {o:Expr}
def xD (c:Cf) (f:Expr->DE W) (bo:Bool) (x:Str) (es:List Expr):DE W:=
 match c.fs.lookup x with
 | some (n,fn)=>(match es with
   |[]=>az
   |e::es=>if c.uK x&&eS (e::es) then (match ag0 c (e::es) with|some j=>uG fn n j (tW f (e::es))|none=>fj fn n (tW f (e::es))) else az)
 | none=>match W9.lookup x with
   | some (_,_,g)=>(match es with
     |[]=>az
     |e::es=>if c.cY x&&eS (e::es) then dN bo g (tW f (e::es)) else az)
   |none=>az
theorem lL (O:bC c k X Z) (h:∀ e,PD X T Z e (f e)) (bo:Bool) (es:List Expr):PD X T Z (.Call (.Name x p) es [] pos) (xD c f bo x es):=by
 unfold xD;split
 .ext n fn e;split
  .exact fu
  .split
   .ext a as q;rw[ao]at q;let#[g1,g2,_]:=O.gb q.1;let#[kk,ps,hh,hn,hk]:=O.fs x n fn e;split
    .exact TJ hh O.room hk g1 O.ack (lA h _) q.2 hn g2
    .exact US hh O.room hk g1 O.ack (lA h _) q.2 hn g2
   .exact fu
 .split
  .ext ty id g e;split
   .exact fu
   .split
    .ext a as q;rw[ao]at q;let#[g1,g2,g3,g4]:=O.blt q.1;have b:=Re O.calm O.u0 e;cases ty with
     |false=>
       let#[b1,qq,b2,b3]:=b;exact Mp bo b2 b3 g1 g4 b1 (lA h _) q.2 g3 g2
     |true=>
       let#[b1,qq,b2,b3]:=b;exact Tr bo b2 b3 g1 g4 b1 (lA h _) q.2 g3 g2
    .exact fu
  .exact fu
noncomputable def Iz (c:Cf):Expr->Bool
 |.Name x _=>decide (x=c.Iu)
 |_=>zw
def Xc (c:Cf) (f:Expr->DE W) (bo:Bool) (x:Str) (es:List Expr):DE W:=
 if x="isinstance" then (match es with
  | [a,.Name t _]=>(match Xa.lookup t with
    |some n=>if c.cY "isinstance"&&c.cY t&&a7 a then f7 n (f a) else az
    |none=>az)
  |[a,.Tuple [.Name t _,.Name u _] _ _]=>if t="bool" /\ u="tuple" then (if c.cY "isinstance"&&c.cY "bool"&&c.cY "tuple"&&a7 a then WK (f a) else az) else az
  |_=>az)
 else if x="repr" then (match es with
  |[a]=>if c.cY "repr"&&a7 a then rR (f a) else az
  |_=>az)
 else match es with
  |[.Call (.Attribute o n ap) [] [] cp]=>if x="list" /\ n="values" then (if c.cY "list"&&ED o&&(ap.endLine==cp.line) then xn bo (f o) else az) else xD c f bo x es
  | [a]=>if x="min" then (if c.cY "min"&&a7 a then dN bo Et (fc (f a) ff) else az) else if x="max" then (if c.cY "max"&&a7 a then dN bo Eu (fc (f a) ff) else az)
    else if x="len" /\ Iz c a=zO then (if c.cY "len"&&a7 a then qN (f a) else az) else xD c f bo x es
  |_=>xD c f bo x es
theorem AM (O:bC c k X Z) (h:∀ e,PD X T Z e (f e)) (bo:Bool) (es:List Expr):PD X T Z (.Call (.Name x p) es [] pos) (Xc c f bo x es):=by
 unfold Xc;split
 .ext hx;subst hx;rcases es with _|⟨a,_|⟨e,es⟩⟩<;>try exact fu
  cases e<;>try exact fu
  .ext t tp;cases es<;>try exact fu
   try dsimp only
   split
   .ext n e;split
    .ext q;erw[ao]at q;let#[g1,g2,g3,g4]:=O.blt q.1.1;let#[j1,j2,j3,j4]:=O.blt q.1.2;let#[y1,y2]:=DP O e;exact UT y1 g1 g4 j1 j4 y2 (h a) q.2 j3 j2
    .exact fu
   .exact fu
  .rename_i ts _ _;rcases ts with _|⟨t,_|⟨u,_|_⟩⟩<;>cases es<;>try exact fu
   all_goals (cases t<;>try exact fu)
   all_goals (cases u<;>try exact fu)
   try dsimp only
   split
   .ext e;let#[rfl,rfl]:=e;split
    .ext q;erw[ao]at q;let#[g1,g2,g3,g4]:=O.blt q.1.1.1;let#[j1,j2,j3,j4]:=O.blt q.1.1.2;let#[i1,i2,i3,i4]:=O.blt q.1.2;let#[y1,y2]:=DP O (x:="bool") (n:="bool") za;exact JN y1 g1 g4 j1 j4 i1 i4 (h a) (fJ q.2 _ _)
    .exact fu
   .exact fu
 .split
  .ext hx;subst hx;split
   .ext a;split
    .ext q;rw[ao]at q;let#[g1,g2,g3,g4]:=O.blt q.1;exact OD O.room g1 g4 (h a) (fJ q.2 _ _)
    .exact fu
   .exact fu
  .have one:∀ a,PD X T Z (.Call (.Name x p) [a] [] pos) (if x="min" then (if c.cY "min"&&a7 a then dN bo Et (fc (f a) ff) else az) else if x="max" then (if c.cY "max"&&a7 a then dN bo Eu (fc (f a) ff) else az) else if x="len" /\ Iz c a=zO then (if c.cY "len"&&a7 a then qN (f a) else az) else xD c f bo x [a]):=λa=>by
    split
    .ext hx;subst hx;split
     .ext q;rw[ao]at q;let#[g1,g2,g3,g4]:=O.blt q.1;exact Mp bo (JL O.calm) (abE _) g1 g4 z7 (j6 (h a) jb q.2) (by simp[eS,q.2]) g3 g2
     .exact fu
    .split
     .ext hx;subst hx;split
      .ext q;rw[ao]at q;let#[g1,g2,g3,g4]:=O.blt q.1;exact Mp bo (JM O.calm) (abE _) g1 g4 z7 (j6 (h a) jb q.2) (by simp[eS,q.2]) g3 g2
      .exact fu
     .split
      .ext hx;let#[rfl,_]:=hx;split
       .ext q;rw[ao]at q;let#[g1,g2,g3,g4]:=O.blt q.1;exact OG g1 g4 (h a) (fJ q.2 _ _)
       .exact fu
      .exact lL O h bo _
   rcases es with _|⟨a,_|⟨b,es⟩⟩
   .exact lL O h bo _
   rotate_left
   .cases a<;>try exact lL O h bo _
    ext g as ks cp;cases g<;>try exact lL O h bo _
    cases as<;>cases ks<;>exact lL O h bo _
   cases a<;>try exact one _
   ext g as ks cp;cases g<;>try exact one _
   ext o n ap;cases as<;>cases ks<;>try exact one _
   try dsimp only
   split
   .ext hx;let#[rfl,rfl]:=hx;split
    .ext q;erw[ao]at q;let#[g1,g2,g3,g4]:=O.blt q.1.1;exact Pc bo O.calm g1 g4 (h o) (jw q.1.2) q.2
    .exact fu
   .exact lL O h bo _
def Xd (c:Cf) (f:Expr->DE W) (x k g:Str) (a:Expr):DE W:=
 if x="min" /\ k="key" /\ g="len" then (if c.cY "min"&&c.cY "len"&&a7 a then dN zw Er (fc (f a) ff) else az) else az
theorem Rh (O:bC c k X Z) (h:∀ e,PD X T Z e (f e)) {n g:Str}(a:Expr) {q kp:Pos}:PD X T Z (.Call (.Name x p) [a] [#[some n,.Name g q,kp]] pos) (Xd c f x n g a):=by
 unfold Xd;split
 .ext hx;let#[rfl,rfl,rfl]:=hx;split
  .ext q;erw[ao]at q;let#[g1,g2,g3,g4]:=O.blt q.1.1;let#[j1,j2,j3,j4]:=O.blt q.1.2;exact JK O.calm g1 g4 j1 j4 (j6 (h a) jb q.2) (fJ q.2 _ _)
  .exact fu
 .exact fu
def Xe (f:Expr->DE W) (o:Expr) (m:Str) (es:List Expr):DE W:=match es with
 |[e]=>if a7 e then (if m="extend" then tO (f o) (f e) else if m="append" then kU (f o) (f e) else az) else az
 |[e,g]=>if a7 e=zO /\ a7 g=zO /\ m="setdefault" then uB (f o) (f e) (f g) else az
 |_=>az
theorem Ri (h:∀ e,PD X T Z e (f e)) {m:Str}(es:List Expr) (hb:ED o=zO) (hl:zcz=zO):PD X T Z (.Call (.Attribute o m apos) es [] pos) (Xe f o m es):=by
 unfold Xe;split
 .ext e;split
  .ext n;split
   .ext z;subst z;exact JT (h o) (h e) (jw hb) (acs n) hl (fJ n _ _)
   .split
    .ext z;subst z;exact JB (h o) (h e) (jw hb) (acs n) hl (fJ n _ _)
    .exact fu
  .exact fu
 .ext e g;split
  .ext q;let#[n1,n2,rfl]:=q;exact OU (h o) (h e) (h g) n1 n2 (jw hb) (acu n1 n2) hl (by rw[fJ n1,fJ n2];rfl)
  .exact fu
 .exact fu
end
noncomputable def Xf (on names:List (Str×NameKind)):List (Str×NameKind):=names.map λ(n,k)=>if k==NameKind.free&&on.lookup n==some .cell then zcX else (n,k)
noncomputable def IC:Nat->Expr->List Str
 |_,.Name x _=>[x]
 |n+1,.Tuple es _ _=>es.flatMap (IC n)
 |_,_=>[]
def Cf.cN (c:Cf) (tg:Expr) (sc:Scope):List Str:=IC 4 tg++c.N.filter λx=>decide (sc.names.lookup x=some .free)
def Cf.src (c:Cf) (tg:Expr) (sc:Scope):List zaw:=(IC 4 tg).map (λ_=>zy)++(c.N.filter λx=>decide (sc.names.lookup x=some .free)).map c.ix
def Cf.inner (c:Cf) (tg:Expr) (sc:Scope):Cf:={ c with N:=c.cN tg sc,nm:=Xf c.nm sc.names,f:=zw,bx:=[],rx:=zw,tr:=zw,ow:=(IC 4 tg).filter λx=>decide (sc.names.lookup x=some .cell) }
def Cf.xE (c:Cf) (tg:Expr) (sc:Scope):Bool:=Wz c.N { kind:=.function,names:=c.nm,isGenerator:=zw,isCoroutine:=zw } sc (c.cN tg sc) (c.src tg sc)&&decide (c.cN tg sc).Nodup
section
variable {c:Cf} {k:Nat} {sc:Scope}
theorem bC.inner (O:bC c k X Z) (h:c.xE tg sc=zO):nZ X (c.cN tg sc) (c.src tg sc) sc /\ ∀ cl s H C fp,bC (c.inner tg sc) k (X.comp (c.cN tg sc) sc cl s H C fp) #[E0,Z.cl]:=by
 unfold Cf.xE at h;rw[ao,decide_eq_true_eq]at h;have S:nZ X (c.cN tg sc) (c.src tg sc) sc:=Fi (XN:=c.N) (sc:={ kind:=.function,names:=c.nm,isGenerator:=zw,isCoroutine:=zw }) (λx=>by unfold Env.kindOf;rw[O.nm]) O.N h.1;refine#[S,λcl s H C fp=>#[rfl,?_,S.kind,O.calm,λz=>(by cases z),λx m=>(kh.mp m).2,h.2,O.room,O.fs,O.gl,O.bl,BJ,O.ti,O.tb,O.tt,O.tl,λ_=>PassesOwn.never,λz=>(by cases z),λz=>(by cases z)]];show (relabel sc X.env).names=Xf c.nm sc.names;unfold relabel Xf Env.kindOf;rw[O.kd,O.nm];simp
end
structure Cm where
 e:Cf->Bool->Bool->Expr->DE W
 t:Cf->Expr->DE Bool
 g:Cf->Expr->DG
 s:Cf->Stmt->ah
structure Good (m:Cm):uu where
 e:∀ {c:Cf}{k:Nat}{X:Cx}{Z:Xs},bC c k X Z->∀ {T:Fr}(bo fz:Bool) (e:Expr),PD X T Z e (m.e c bo fz e)
 t:∀ {c:Cf}{k:Nat}{X:Cx}{Z:Xs},bC c k X Z->∀ {T:Fr}(e:Expr),dX X T Z e (m.t c e)
 g:∀ {c:Cf}{k:Nat}{X:Cx}{Z:Xs},bC c k X Z->∀ {T:Fr}(e:Expr),ku X T e (m.g c e)
 s:∀ {c:Cf}{k:Nat}{X:Cx}{Z:Xs},bC c k X Z->∀ {T:Fr}(st:Stmt),cM X T Z st (m.s c st)
section
variable (m:Cm) (c:Cf)
def cI (tg it:Expr):DE zan:=match it with
 |.Call (.Name x _) [a] [] _=>
   if x="range" then (if c.cY "range"&&a7 a then cw (fc zF ff) else az)
   else if x="enumerate" then (match tg with
    |.Tuple ..=>if c.cY "enumerate"&&a7 a then WI (fc zF ff) else az
    |_=>az)
   else ax (m.e c zw zO it)
 |.Call (.Name x _) [a,b] [] _=>
   if x="range" then (if c.cY "range"&&a7 a&&a7 b then ur (fc zF (fc zak ff)) else az)
   else if x="zip" then (if c.cY "zip"&&a7 a&&a7 b then HY (fc zF (fc zak ff)) else az)
   else ax (m.e c zw zO it)
 |_=>ax (m.e c zw zO it)
def cF (ifs:List Expr):DE Bool:=match ifs with
 |[]=>fG
 |[t]=>m.t c t
 |_=>az
def EF (bo:Bool) (elt tg it:Expr) (ifs:List Expr) (sc:Scope):DE W:=
 if c.xE tg sc&&v7 it then fI bo (c.src tg sc) (cI m c tg it) (m.g (c.inner tg sc) tg) (cF m (c.inner tg sc) ifs) (m.e (c.inner tg sc) zw zw elt) else az
noncomputable def cq (a b:Expr):Expr:=.Tuple [a,b] 0 #[0,0,0,0]
def Xg (bo:Bool) (elt:Expr) (gs:List Comprehension) (sc:Scope):DE W:=match gs with
 |[⟨tg,it,ifs,0⟩]=>if c.cY "sorted"&&c.xE tg sc&&v7 it then qX bo (c.src tg sc) (cI m c tg it) (m.g (c.inner tg sc) tg) (cF m (c.inner tg sc) ifs) (kG (m.e (c.inner tg sc) zw zw elt)) else az
 | [⟨tg,it,ifs,0⟩,⟨pS,vO,Xh,0⟩]=>if c.cY "sorted"&&c.xE (cq tg pS) sc&&v7 it&&v7 vO then qX bo (c.src (cq tg pS) sc) (cI m c tg it) (m.g zcM tg) (cF m zcM ifs)
     (vQ (cI m zcM pS vO) (m.g zcM pS) (cF m zcM Xh) (kG (m.e zcM zw zw elt))) else az
 |_=>az
noncomputable def EG:Expr->Bool
 |.Name x _=>c.dc.contains x
 |_=>zw
def cO (o:Option Expr):DE (Option Int):=match o with
 |none=>cS
 |some e=>cc zbY
def EH (a:Expr) (op:CmpOp) (b:Expr):DE W:=
 if EG c b then (match op with
  |.In=>if behindInMarks .In b=zw then rT zw zF zak else az
  |_=>az)
 else match vZ op with
  |some g=>if behindInMarks op b=zw then d2 zw g zF zak else az
  |none=>az
def Xi (a:Expr) (op cj:CmpOp) (b d:Expr):DE W:=match vZ op,vZ cj with
 |some g,some g'=>if lastMarks [op,cj] [b,d]=zw then d3 g g' zF zak (m.e c zw zw d) else az
 |_,_=>az
def Xj (bo:Bool) (a b:Expr):DE W:=match b with
 |.Slice lo hi none _=>cx bo zF (cO m c lo) (cO m c hi)
 |.Slice none none (some (.UnaryOp .USub (.Constant (.int i) _ _) _)) _=>if i=1 then rQ bo zF else az
 |b=>if EE b then (if Iz c a then Ea zF zak else if EG c a then rS zF zak else d2 zw ak zF zak) else az
def Xk (bo:Bool) (ks:List (Option Expr)) (vs:List Expr):DE W:=match ks,vs with
 |[],[]=>qO bo []
 |[some (.Constant (.int k) _ _)],[.Constant (.int v) _ _]=>qO bo [(.inl k,.int v)]
 | [some (.Constant (.int k) _ _)],[.Name x _]=>(match c.ix x with
   |some i=>if c.xA x then El bo k i else az
   |none=>az)
 |_,_=>az
def Xl (v:Const):DE W:=match v with
 |.int i=>dC zaS
 |.bool b=>dC (.bl b)
 |.none=>dC .non
 |.str x=>dC (.str x)
 |_=>az
def Xm (op:UnaryOp) (a:Expr):DE W:=match op with
 |.USub=>eE zF
 |.Not=>yT zF
 |_=>az
def Xn (op:BoolOp) (es:List Expr):DE W:=match op with
 |.And=>W6 (m.e c zw zw) es
 |.Or=>az
def acv (a:Expr) (ops:List CmpOp) (bs:List Expr):DE W:=match ops,bs with
 |[op],[b]=>EH m c a op b
 |[op,cj],[b,d]=>Xi m c a op cj b d
 |_,_=>az
def acw (x:Str) (es:List Expr) (ks:List Keyword):DE W:=match es,ks with
 |[a],[⟨some n,.Name g _,_⟩]=>Xd c (m.e c zw zw) x n g a
 |_,_=>az
def ID (bo:Bool) (f:Expr) (es:List Expr) (ks:List Keyword) (pos:Pos):DE W:=match f with
 | .Name x _=>(match ks with
   | []=>(match es with
     |[.SetComp elt gs sc _]=>if x="sorted" then Xg m c bo elt gs sc else az
     |es=>Xc c (m.e c zw zw) bo x es)
   |k::ks=>acw m c x es (k::ks))
 | .Attribute o n apos=>(match ks with
   | []=>if aco c 3 o then (match es with
     |[e,g]=>if ED o&&zcz&&a7 e&&a7 g&&decide (n="setdefault") then uE (m.e c zw zw o) zbY (m.e c zw zw g) else az
     |_=>az)
     else if ED o&&zcz then Xe (m.e c zw zw) o n es else az
   |_::_=>az)
 |_=>az
def Xo (bo:Bool) (elt:Expr) (gs:List Comprehension) (sc:Scope):DE W:=match gs with
 |[⟨tg,it,ifs,0⟩]=>EF m c bo elt tg it ifs sc
 |_=>az
def sE (bo fz:Bool) (e:Expr):DE W:=match e with
 |.Constant v _ _=>Xl v
 |.Name x _=>Iw c fz x
 |.Tuple es _ _=>if bo then Ic (tW (m.e c zO zw) es) else fV (tW (m.e c zw zw) es)
 |.List es _=>fO bo (tW (m.e c zw zw) es)
 |.Dict ks vs _=>Xk c bo ks vs
 | .BinOp a op b _=>(match acq op with
   |some g=>d2 bo g zF zak
   |none=>az)
 |.UnaryOp op a _=>Xm m c op a
 |.BoolOp op es _=>Xn m c op es
 |.Compare a ops bs _=>acv m c a ops bs
 |.IfExp t a b _=>kq (m.t c t) zF zak
 |.Subscript a b _=>Xj m c bo a b
 |.Call f es ks pos=>ID m c bo f es ks pos
 |.ListComp elt gs sc _=>Xo m c bo elt gs sc
 |_=>az
def sT (e:Expr):DE Bool:=match e with
 |.BoolOp .And es _=>W7 (m.t c) es
 |.BoolOp .Or es _=>W8 (m.t c) es
 |.UnaryOp .Not a _=>aG (m.t c a)
 |.Compare a [op] [b] _=>if EG c b then dB (EH m c a op b) else (match vZ op with
  |some g=>if behindInMarks op b=zw then dB (d2 zw g zF zak) else az
  |none=>az)
 | .Compare a [op,cj] [b,d] _=>(match vZ op,vZ cj with
   |some g,some g'=>if lastMarks [op,cj] [b,d]=zw then dB (d3 g g' zF zak (m.e c zw zw d)) else az
   |_,_=>az)
 |.Name x _=>vC (Iw c zw x)
 |e=>if plainT e then dB zbY else az
def sG (tg:Expr):DG:=match tg with
 | .Name x _=>(match c.ix x with
   |some i=>if c.xC x then fg i else vX
   |none=>vX)
 |.Tuple es _ _=>if eS es then iV es.length (Iy (m.g c) es) else vX
 |.Subscript o i _=>if EE i then tH (m.e c zw zw o) (m.e c zw zw i) else vX
 |_=>vX
end
section
variable {m:Cm} {c:Cf} {k:Nat} (G:Good m) (O:bC c k X Z)
include G O
theorem oD (tg it:Expr):pL X T Z tg it (cI m c tg it):=by
 cases it<;>try exact mw zY
 ext f es ks pos;cases f<;>try exact mw zY
 ext x p;rcases es with _|⟨a,_|⟨b,_|_⟩⟩<;>cases ks<;>try exact mw zY
 .unfold cI;dsimp only;split
  .ext z;subst z;split
   .ext q;rw[ao]at q;let#[g1,g2,g3,g4]:=O.blt q.1;exact D8 g1 g4 (j6 zbV jb q.2) (fJ q.2 _ _)
   .exact mK
  .split
   .ext z;subst z;split
    .split
     .ext q;rw[ao]at q;let#[g1,g2,g3,g4]:=O.blt q.1;exact Ms g1 g4 (j6 zbV jb q.2) (fJ q.2 _ _)
     .exact mK
    .exact mK
   .exact mw zY
 .unfold cI;dsimp only;split
  .ext z;subst z;split
   .ext q;erw[ao]at q;let#[#[q,n1],n2]:=q;let#[g1,g2,g3,g4]:=O.blt q;exact D9 g1 g4 (j6 zbV (j6 (G.e O _ _ b) jb n2) n1) (by rw[fJ n1,fJ n2];rfl) (fJ n2 _ _)
   .exact mK
  .split
   .ext z;subst z;split
    .ext q;erw[ao]at q;let#[#[q,n1],n2]:=q;let#[g1,g2,g3,g4]:=O.blt q;exact OJ g1 g4 (j6 zbV (j6 (G.e O _ _ b) jb n2) n1) (by rw[fJ n1,fJ n2];rfl) (fJ n2 _ _)
    .exact mK
   .exact mw zY
theorem Bw (ifs:List Expr):PF X ifs (kT T Z (cF m c ifs)):=by
 unfold cF;split
 .exact Ou
 .exact Ov (G.t O _)
 .exact λ_ _ _ _ _ _ h=>by let#[_,_,_,_,_,h]:=h;exact h.elim
theorem NQ (bo:Bool) (elt tg it:Expr) (ifs:List Expr) (sc:Scope) (pos:Pos):PD X T Z (.ListComp elt [#[tg,it,ifs,0]] sc pos) (EF m c bo elt tg it ifs sc):=by
 unfold EF;split
 .ext q;rw[ao]at q;let#[S,OO]:=O.inner q.1;exact Gp bo O.calm S (oD G O tg it) (λ_ _ _ _ _ _=>G.g zaZ tg) (λ_ _ _ _ _ _=>Bw G zaZ ifs) (λ_ _ _ _ _ _=>G.e zaZ _ _ elt) (λx=>iY q.2 x)
 .exact fu
theorem Uj (bo:Bool) (elt:Expr) (gs:List Comprehension) (sc:Scope) (p aV pos:Pos):PD X T Z (.Call (.Name "sorted" p) [.SetComp elt gs sc aV] [] pos) (Xg m c bo elt gs sc):=by
 unfold Xg;split
 .ext tg it ifs;split
  .ext q;erw[ao]at q;let#[g1,g2,g3,g4]:=O.blt q.1.1;let#[S,OO]:=O.inner q.1.2;exact JR bo O.calm g1 g4 S (oD G O tg it) (λ_ _ _ _ _=>G.g zaZ tg) (λ_ _ _ _ _=>Bw G zaZ ifs) (λ_ _ _ _ _=>G.e zaZ _ _ elt) (λx=>iY q.2 x)
  .exact fu
 .ext tg it ifs pS vO Xh;split
  .ext q;erw[ao]at q;let#[g1,g2,g3,g4]:=O.blt q.1.1.1;let#[S,OO]:=O.inner q.1.1.2;exact JS bo O.calm g1 g4 S (oD G O tg it) (λ_ _ _ _ _=>G.g zaZ tg) (λ_ _ _ _ _=>Bw G zaZ ifs) (λ_ _ _ _ _=>oD G zaZ pS vO) (λ_ _ _ _ _=>G.g zaZ pS) (λ_ _ _ _ _=>Bw G zaZ Xh) (λ_ _ _ _ _=>G.e zaZ _ _ elt) (λx=>iY q.1.2 x) (λ_ x=>iY q.2 x)
  .exact fu
 .exact fu
theorem NR (a:Expr) (op:CmpOp) (b:Expr) (pos:Pos):PD X T Z zcr (EH m c a op b):=by
 unfold EH;split
 .split
  .split
   .ext q;exact Tv O.u1 zbV (G.e O _ _ b) q
   .exact fu
  .exact fu
 .split
  .ext g e;let#[q,h1,h2]:=lK O.u0 e;split
   .ext z;exact SQ h1 h2 zbV (G.e O _ _ b) z
   .exact fu
  .exact fu
theorem NS (a:Expr) (op cj:CmpOp) (b d:Expr) (pos:Pos):PD X T Z (.Compare a [op,cj] [b,d] pos) (Xi m c a op cj b d):=by
 unfold Xi;split
 .ext g g' e e';let#[q,h1,h2]:=lK O.u0 e;let#[q',Xp,Xq]:=lK O.u0 e';split
  .ext z;exact LX h1 Xp h2 Xq zbV (G.e O _ _ b) (G.e O _ _ d) z
  .exact fu
 .exact fu
theorem RX (o:Option Expr):yW X T Z o (cO m c o):=by
 unfold cO;split
 .exact Ta
 .exact Ma zY
theorem Rj (bo:Bool) (a b:Expr) (pos:Pos):PD X T Z (.Subscript a b pos) (Xj m c bo a b):=by
 have ag1:∀ b,EE b=zO->PD X T Z (.Subscript a b pos) (if Iz c a then Ea zF zak else if EG c a then rS zF zak else d2 zw ak zF zak):=λb n=>by
  split
  .exact Tl zbV zY (AL n)
  .split
   .exact OR O.u1 zbV zY (Rf n)
   .exact UJ Sz ae8 zbV zY (AL n)
 cases b<;>try exact ag1 _ bz
 rename_i lo hi st _;rcases st with _|st
 .exact Mb bo zbV (RX G O _) (RX G O _)
 cases st<;>try exact fu
 rename_i op e _;cases op<;>try exact fu
 cases e<;>try exact fu
 rename_i v _ _;cases v<;>try exact fu
 cases lo<;>cases hi<;>try exact fu
 unfold Xj;try dsimp only
 split
 .ext z;subst z;exact Tc bo zbV
 .exact fu
omit G in
theorem Rk (bo:Bool) (ks:List (Option Expr)) (vs:List Expr) (pos:Pos):PD X T Z (.Dict ks vs pos) (Xk c bo ks vs):=by
 rcases ks with _|⟨_|k,_|_⟩<;>rcases vs with _|⟨v,vs⟩<;>try exact fu
 .exact OH bo
 all_goals (cases k<;>try exact fu)
 all_goals (rename_i k _ _;cases k<;>try exact fu)
 cases v<;>try exact fu
 .rename_i v _ _;cases v<;>try exact fu
  cases vs<;>try exact fu
  exact OI bo
 .cases vs<;>try exact fu
  unfold Xk;try dsimp only
  split
  .ext i e;split
   .ext h;refine OW bo i ?_;have:=O.at e;erw[Cf.xA,ao,uR,decide_eq_true_eq,qr]at h;erw[WE,ao,uR,decide_eq_true_eq,qr,O.nm];exact#[#[#[this,h.1.1],h.1.2],h.2]
   .exact fu
  .exact fu
omit G O in
theorem Rm (v:Const) (k:Nat) (pos:Pos):PD X T Z (.Constant v k pos) (Xl v):=by
 unfold Xl;split
 .exact SL
 .exact UI
 .exact SM
 .exact SN
 .exact fu
theorem Uk (op:UnaryOp) (a:Expr) (pos:Pos):PD X T Z (.UnaryOp op a pos) (Xm m c op a):=by
 unfold Xm;split
 .exact Td zY
 .exact SV zY
 .exact fu
theorem Ul (op:BoolOp) (es:List Expr) (pos:Pos):PD X T Z (.BoolOp op es pos) (Xn m c op es):=by
 unfold Xn;split
 .exact G9 (G.e O _ _) _
 .exact fu
theorem Um (a:Expr) (ops:List CmpOp) (bs:List Expr) (pos:Pos):PD X T Z (.Compare a ops bs pos) (acv m c a ops bs):=by
 rcases ops with _|⟨op,_|⟨cj,_|_⟩⟩<;>rcases bs with _|⟨b,_|⟨d,_|_⟩⟩<;>try exact fu
 .exact NR G O _ _ _ _
 .exact NS G O _ _ _ _ _ _
theorem Uo (x:Str) (p:Pos) (es:List Expr) (ks:List Keyword) (pos:Pos):PD X T Z (.Call (.Name x p) es ks pos) (acw m c x es ks):=by
 rcases es with _|⟨a,_|_⟩<;>rcases ks with _|⟨⟨_|n,v,_⟩,ks⟩<;>try exact fu
 all_goals (cases v<;>try exact fu)
 all_goals (cases ks<;>try exact fu)
 exact Rh O (G.e O _ _) _
theorem Uq (bo:Bool) (f:Expr) (es:List Expr) (ks:List Keyword) (pos:Pos):PD X T Z (.Call f es ks pos) (ID m c bo f es ks pos):=by
 cases f<;>try exact fu
 .cases ks<;>try exact fu
  unfold ID;try dsimp only
  split
  .rcases es with _|⟨e,_|⟨g,_|_⟩⟩<;>try exact fu
   try dsimp only
   split
   .ext q;erw[ao,decide_eq_true_eq]at q;let#[#[#[#[q1,q2],n1],n2],rfl]:=q;exact MN O.u1 zY zY zY #[jw q1,acu n1 n2,q2,by rw[fJ n1,fJ n2];rfl]
   .exact fu
  .split
   .ext q;rw[ao]at q;exact Ri (G.e O _ _) _ q.1 q.2
   .exact fu
 .cases ks
  .rcases es with _|⟨a,es⟩<;>try exact AM O (G.e O _ _) bo _
   cases a<;>try exact AM O (G.e O _ _) bo _
   cases es<;>try exact AM O (G.e O _ _) bo _
   unfold ID;try dsimp only
   split
   .ext z;subst z;exact Uj G O bo _ _ _ _ _ _
   .exact fu
  .exact Uo G O _ _ _ _ _
theorem Ur (bo:Bool) (elt:Expr) (gs:List Comprehension) (sc:Scope) (pos:Pos):PD X T Z (.ListComp elt gs sc pos) (Xo m c bo elt gs sc):=by
 unfold Xo;split
 .exact NQ G O bo _ _ _ _ _ _
 .exact fu
theorem VD (bo fz:Bool) (e:Expr):PD X T Z e (sE m c bo fz e):=by
 cases e<;>try exact fu
 .exact Ul G O _ _ _
 .unfold sE;dsimp only;split
  .ext g e;let#[q,h1,h2]:=Rc (X:=X) e;exact SO bo h1 h2 zY zY
  .exact fu
 .exact Uk G O _ _ _
 .exact SW (G.t O _) zY zY
 .exact Rk O bo _ _ _
 .exact Ur G O bo _ _ _ _
 .exact Um G O _ _ _ _
 .exact Uq G O bo _ _ _ _
 .exact Rm _ _ _
 .exact Rj G O bo _ _ _
 .exact DN O fz
 .exact SY bo (lA (G.e O _ _) _)
 .cases bo
  .exact SX (lA (G.e O _ _) _)
  .exact OY (lA (G.e O _ _) _)
theorem VE (e:Expr):dX X T Z e (sT m c e):=by
 cases e<;>try exact Of zY (λw=>Bv bz w)
 .rename_i op _ _;cases op
  .exact RG (DO (G.t O) _)
  .exact RG (Ja (G.t O) _)
 .rename_i op _ _;cases op<;>try exact iS
  exact Ol (G.t O _)
 .exact iS
 .ext a ops bs pos;rcases ops with _|⟨op,_|⟨cj,_|_⟩⟩<;>rcases bs with _|⟨b,_|⟨d,_|_⟩⟩<;>try exact iS
  .unfold sT;dsimp only;split
   .ext h;unfold EH;rw[if_pos h];split
    .split
     .ext q;exact Rg O.u1 zbV (G.e O _ _ b) q
     .exact iS
    .exact iS
   .split
    .ext g e;let#[q,h1,h2]:=lK O.u0 e;split
     .ext z;exact Og h1 h2 zY zY z
     .exact iS
    .exact iS
  .unfold sT;dsimp only;split
   .ext g g' e e';let#[q,h1,h2]:=lK O.u0 e;let#[q',Xp,Xq]:=lK O.u0 e';split
    .ext z;exact Jr h1 Xp h2 Xq zY zY zY z
    .exact iS
   .exact iS
 .exact Oh (DN O zw) (λw=>Bv bz w)
theorem VF (tg:Expr):ku X T tg (sG m c tg):=by
 unfold sG;split
 .split
  .ext i e;split
   .ext h;let#[a,b]:=O.lo h;exact L5 i O.vY (O.at e) a b
   .exact lJ
  .exact lJ
 .split
  .ext h;exact UU O.calm (NP (G.g O) _) h bz
  .exact lJ
 .split
  .ext o i pos h;exact OF (Z:=Z) (G.e O _ _ o) (G.e O _ _ i) (λv=>by cases i<;>first|rfl|cases h)
  .exact lJ
 .exact lJ
end
end L2.DL
namespace L2
theorem PS.dh {t:TS}(h:PS X.dh st t):PS X st t:=λpins s σ H D I hw=>
 cC (h pins s σ H D (I.qy _) hw) (λ_ _ q=>q.sQ) λ_ _ z=>False.elim z
end L2
namespace L2.DL
open PySem.W
section
variable {m:ah}
theorem NT (h:cM X.dh T #[E0,Z.cl] st m):cM X T Z st (aR m):=
 PS.imp (PS.dh h) λD σ H=>x4 λF r env bx R h=>by
  refine#[F,r,env,bx,R,?_];unfold aR at h;cases e:m env bx with
  |exc c bx1=>rw[e]at h;exact h.elim
  |nx env1 bx1=>rw[e]at h;exact h
  |rt w bx1=>rw[e]at h;exact h
  |bk env1 bx1=>rw[e]at h;exact h
  |ct env1 bx1=>rw[e]at h;exact h
  |bad=>rw[e]at h;exact h
end
section
variable {env:Env} {y:Str} {px py pt kQ:Pos} {kt k2:Nat} {a b:Expr}
theorem Rn (hk:env.blockKind=.function) (hx:env.kindOf x=some .local) (hy:env.kindOf y=some .local) (hl:(px.line==py.line)=zO) (pq:x≠y) (na:a7 a=zO) (nb:a7 b=zO)
 (nf:([a,b].all (foldedForSure 8))=zw) (nc:([a,b].all (constantsAlone 8))=zw) :
 swappedStores [.Tuple [.Name x px,.Name y py] kt pt] zch env=pure (some [x,y]):=by
 have qd:px.line=py.line:=by simpa using hl
 have hd:([x,y]:List Str).eraseDups.length=2:=by
  have:(y==x)=zw:=by simpa using Ne.symm pq
  simp[List.eraseDups_cons,this]
 have hp:∀ (x:Str) (p:Pos),(Expr.Name x p).pos=p:=λ_ _=>rfl;unfold swappedStores;erw[hk,hx,hy,qd,sC,Y1,ng,KD,bp,kK,Y2,kM,E8,hp,nf,nc];simp[qd,hd,ng,hx,hy,nf,nc];rintro(h|h)
 .cases a<;>first|(cases h;done)|cases na
 .cases b<;>first|(cases h;done)|cases nb
theorem Ro (hk:env.blockKind=.function) (na:a7 a=zO) (nb:a7 b=zO) (h:(env.kindOf x==some .local&&env.kindOf y==some .local)=zw) :
 swappedStores [.Tuple [.Name x px,.Name y py] kt pt] zch env=pure zy:=by
 have hp:∀ (x:Str) (p:Pos),(Expr.Name x p).pos=p:=λ_ _=>rfl;unfold swappedStores;erw[hk,sC,Y1,bp,kK,Y2,kM,E8,hp];rw[Km]at h;rcases h with h|h
 .erw[ng,KD,h,sv];by_cases q:(env.kindOf y==some .local&&py.line==px.line)=zO
  .simp[q]
  .simp[q]
 .erw[ng,KD,h,sv];by_cases z:env.kindOf x=some .local<;>simp[z]
end
def uL (f:Stmt->ah):List Stmt->ah
 |[]=>aF
 |[s]=>f s
 |s::r=>fm (f s) (uL f r)
theorem jZ {X:Cx}{Z:Xs}{T:Fr}{f:Stmt->ah}(h:∀ s,cM X T Z s (f s)):∀ b,pb X T Z b (uL f b)
 |[]=>On
 |[s]=>Oo (h s)
 |s::a::r=>L3 (h s) (jZ h (a::r))
noncomputable def Xr:Expr->Expr->Bool
 |.Tuple ..,.Tuple ..|.List ..,.Tuple ..=>zw
 |_,_=>zO
theorem RY {env:Env}(h:Xr tg e=zO):swappedStores [tg] e env=pure zy:=by
 cases tg with
 |Tuple es n p=>cases e<;>first|rfl|cases h
 |List es p=>cases e<;>first|rfl|cases h
 |_=>rfl
def Xt (c:Cf) (x:Str) (tp cp:Pos) (sc:Scope):Bool:=c.nm.lookup x==some .local&&tp.line==cp.line&&!(sc.names.any λ(n,k)=>n==x&&(k==.local||k==.cell))
section
variable {c:Cf} {k:Nat} 
theorem bC.block (O:bC c k X Z):X.env.blockKind=.function:=by unfold Env.blockKind;rw[O.kd];rfl
theorem Rp (O:bC c k X Z) {gs:List Comprehension}{sc:Scope}{cp tp:Pos}{l:Nat}:swapsWith (.ListComp elt gs sc cp) (some (.Name x tp)) l X.env=pure (Xt c x tp cp sc):=by
 have h:swapsWith (.ListComp elt gs sc cp) (some (.Name x tp)) l X.env=pure (X.env.blockKind==.function&&X.env.kindOf x==some .local&&tp.line==cp.line&&!(sc.names.any λ(n,k)=>n==x&&(k==.local||k==.cell))):=rfl;rw[h,O.block];unfold Env.kindOf Xt;rw[O.nm];rfl
noncomputable def Cf.dh (c:Cf):Cf:={ c with rx:=zw,tr:=zw }
noncomputable def Cf.qE (c:Cf):Cf:={ c with rx:=zO,tr:=zw }
theorem bC.dh (O:bC c k X Z):bC c.dh k X.dh #[E0,Z.cl]:=
 #[O.N,O.nm,O.kd,O.calm,O.fn,O.ow,O.nd,O.room,O.fs,O.gl,O.bl,BJ,O.ti,O.tb,O.tt,O.tl,λ_=>PassesOwn.never,λz=>(by cases z),λz=>(by cases z)]
theorem bC.qE (O:bC c k X Z) (h:c.tr=zO) (pn:List (Addr×Obj)) (E:XK):bC c.qE k (X.qE pn E) #[E,Z.cl]:=
 #[O.N,O.nm,O.kd,O.calm,O.fn,O.ow,O.nd,O.room,O.fs,O.gl,O.bl,Bc.passes,O.ti,O.tb,O.tt,O.tl,λz=>(by cases z),λ_=>#[Bc,(O.acm h).1],λz=>(by cases z)]
end
theorem j5 {t:Expr}{l:Nat}{env:Env}(h:wa e=zw):swapsWithSole [t] e l env=pure zw:=mL (t:=some t) h
section
variable (m:Cm) (c:Cf)
noncomputable def ag2:Expr->Bool
 |.Dict [] [] _=>zO
 |_=>zw
def Xu (x:Str) (e:Expr):ah:=match c.ix x with
 | some i=>if c.xC x then (match e with
   |.ListComp elt [⟨tg,it,ifs,0⟩] sc _=>if c.xE tg sc&&v7 it then fK (EF m c (c.bx.contains x) elt tg it ifs sc) (fg i) else dY
   |e=>if wa e then dY else fK (if c.kd x 3&&ag2 e then Ik else m.e c (c.bx.contains x) zw e) (fg i)) else dY
 |none=>dY
def acx (c:Cf) (x y:Str) (px py:Pos) (a b:Expr):Bool:=a7 a&&a7 b&&decide (x≠y)&&c.xC x&&c.xC y&&(if c.nm.lookup x==some .local&&c.nm.lookup y==some .local then px.line==py.line&&!([a,b].all (foldedForSure 8))&&!([a,b].all (constantsAlone 8)) else zO)
def Xv (x y:Str) (px py:Pos) (a b:Expr):ah:=match c.ix x,c.ix y with
 |some i,some j=>if acx c x y px py a b then nG i j (fc (m.e c (c.bx.contains x) zw a) (fc (m.e c (c.bx.contains y) zw b) ff)) else dY
 |_,_=>dY
def Xw (tg e:Expr):ah:=match tg,e with
 |.Name x _,e=>Xu m c x e
 |.Tuple [.Name x px,.Name y py] _ _,.Tuple [a,b] _ _=>Xv m c x y px py a b
 |.Subscript o i p,e=>if wa e then dY else if EG c o then uA (m.e c zw zw o) (m.e c zw zw i) zbY else fK zbY (m.g c (.Subscript o i p))
 |tg,e=>if !wa e&&a7 tg&&Xr tg e then fK zbY (m.g c tg) else dY
def acy (f:Cf->ah):ah:=if c.rx then aR (f c.dh) else f c
def acz (e:Option Expr):ah:=match e with
 | some (.Call (.Name x _) [a] [] _)=>(match uz.findIdx? λy=>decide (y=x) with
   |some i=>if c.rx&&decide (i<17)&&a7 a&&c.uK x then Ej i zF else dY
   |none=>dY)
 |_=>dY
def acA (body:List Stmt) (hs:List ExceptHandler):ah:=match hs with
 | [.ExceptHandler (some (.Name r _)) (some n) [.Return (some (.Call (.Name w _) [.Name n' _] [] _)) _] _]=>(match c.ix n with
   |some i=>if c.tr&&decide (r="RimeError")&&decide (w="_law_word")&&decide (n=n')&&c.uK "RimeError"&&c.uK "_law_word"&&c.xA n&&decide (c.nm.lookup n=some .local) then vL (uL (m.s c.qE) body) else dY
   |none=>dY)
 |_=>dY
def sS (st:Stmt):ah:=match st with
 |.Assign [tg] e _=>Xw m c tg e
 |.Return (some e) _=>fN (m.e c c.rb (!c.rb) e)
 |.Expr e _=>if wa e then dY else gy zbY
 |.If t a b _=>aC (m.t c t) (uL (m.s c) a) (uL (m.s c) b)
 |.For tg it body [] _=>if v7 it then acy c λc=>iB (cI m c tg it) (m.g c tg) (uL (m.s c) body) else dY
 |.While t body [] _=>if c.rx then dY else hV (m.t c t) (uL (m.s c) body) 2000
 |.Raise e none _=>acz m c e
 |.Try body hs [] [] _=>acA m c body hs
 |_=>dY
end
section
variable {m:Cm} {c:Cf} {k:Nat} (G:Good m) (O:bC c k X Z)
include G O
theorem Rq (x:Str) (e:Expr) (tp pos:Pos):cM X T Z (.Assign [.Name x tp] e pos) (Xu m c x e):=by
 unfold Xu;split
 .ext i hi;split
  .ext hl;let#[l1,l2]:=O.lo hl;split
   .ext elt tg it ifs sc cp;split
    .ext q;unfold EF;rw[if_pos q];rw[ao]at q;let#[S,OO]:=O.inner q.1;have sw:=Rp O (elt:=elt) (gs:=[#[tg,it,ifs,0]]) (sc:=sc) (cp:=cp) (tp:=tp) (x:=x) (l:=pos.line);cases hb:Xt c x tp cp sc with
     |true=>
       rw[hb]at sw;exact Mo i _ O.calm S (oD G O tg it) (λ_ _ _ _ _ _=>G.g zaZ tg) (λ_ _ _ _ _ _=>Bw G zaZ ifs) (λ_ _ _ _ _ _=>G.e zaZ _ _ elt) O.vY (O.at hi) l1 sw l2 (λx=>iY q.2 x)
     |false=>
       rw[hb]at sw;exact Gk i (Gp _ O.calm S (oD G O tg it) (λ_ _ _ _ _ _=>G.g zaZ tg) (λ_ _ _ _ _ _=>Bw G zaZ ifs) (λ_ _ _ _ _ _=>G.e zaZ _ _ elt) (λx=>iY q.2 x)) O.vY (O.at hi) l1 sw l2
    .exact fM
   .split
    .exact fM
    .ext h;refine Gk i ?_ O.vY (O.at hi) l1 (mL (by simpa using h)) l2;split
     .ext q;rw[ao]at q;revert q;cases e with
      |Dict ks vs p=>cases ks<;>cases vs<;>first|(intro _;exact Pa)|(intro q;cases q.2)
      |_=>intro q;cases q.2
     .exact G.e O _ _ _
  .exact fM
 .exact fM
theorem Rs (x y:Str) (a b:Expr) (px py pt kQ pos:Pos) (kt k2:Nat):cM X T Z zaI (Xv m c x y px py a b):=by
 unfold Xv;split
 .ext i j hi hj;split
  .ext q;unfold acx at q;rw[ao,ao,ao,ao,ao,decide_eq_true_eq]at q;let#[#[#[#[#[na,nb],pq],hx],hy],q]:=q;have ps:cH X T Z [a,b] (fc (m.e c (c.bx.contains x) zw a) (fc (m.e c (c.bx.contains y) zw b) ff)):=j6 zbV (j6 (G.e O _ _ b) jb nb) na;have kx:X.env.kindOf x=c.nm.lookup x:=by unfold Env.kindOf;rw[O.nm]
   have ky:X.env.kindOf y=c.nm.lookup y:=by unfold Env.kindOf;rw[O.nm]
   by_cases h:(c.nm.lookup x==some NameKind.local&&c.nm.lookup y==some NameKind.local)=zO
   .rw[if_pos h]at q;erw[ao,qr]at q;rw[ao]at h;have h1:c.nm.lookup x=some .local:=by simpa using h.1
    have h2:c.nm.lookup y=some .local:=by simpa using h.2
    refine OQ i j O.calm O.vY ps (O.at hi) (O.at hj) (λz=>?_) (by rw[O.nm];exact h1) (by rw[O.nm];exact h2) (Rn O.block (kx.trans h1) (ky.trans h2) q.1.1 pq na nb q.1.2 q.2) (j5 bz);subst z;have:=(c.W5 hi).symm.trans (c.W5 hj);exact pq (Option.some.inj this)
   .let#[l1,l2]:=O.lo hx;let#[l3,l4]:=O.lo hy;refine Mt i j O.calm O.vY ps (O.at hi) (O.at hj) l1 l3 l2 l4 (j5 bz) (Ro O.block na nb ?_) bz bz bz bz bz;rw[kx,ky];simpa using h
  .exact fM
 .exact fM
theorem Ru (tg e:Expr) (pos:Pos):cM X T Z (.Assign [tg] e pos) (Xw m c tg e):=by
 have dflt:∀ tg e,cM X T Z (.Assign [tg] e pos) (if !wa e&&a7 tg&&Xr tg e then fK zbY (m.g c tg) else dY):=λtg e=>by
  split
  .ext q;erw[ao,qr]at q;exact Gj zY (G.g O _) (j5 q.1.1) (RY q.2) (by rw[lh q.1.2];rfl)
  .exact fM
 cases tg<;>try exact dflt _ _
 .unfold Xw;try dsimp only
  split
  .exact fM
  .ext h;split
   .exact Mr O.u1 zY zY zY (mL (by simpa using h))
   .exact Gj zY (G.g O _) (j5 (by simpa using h)) (RY bz) bz
 .exact Rq G O _ _ _ _
 .rename_i es _ _;rcases es with _|⟨x,_|⟨y,es⟩⟩<;>try exact dflt _ _
  all_goals (cases x<;>try exact dflt _ _)
  all_goals (cases y<;>try exact dflt _ _)
  all_goals (cases es<;>try exact dflt _ _)
  cases e<;>try exact dflt _ _
  rename_i vs _ _;rcases vs with _|⟨a,_|⟨b,vs⟩⟩<;>try exact dflt _ _
  cases vs<;>try exact dflt _ _
  exact Rs G O _ _ _ _ _ _ _ _ _ _ _
theorem VG (st:Stmt):cM X T Z st (sS m c st):=by
 cases st<;>try exact fM
 .rename_i v _;cases v<;>try exact fM
  exact Oq zY
 .rename_i ts _ _;rcases ts with _|⟨_,_|_⟩<;>try exact fM
  exact Ru G O _ _ _
 .rename_i tg it bd oe _;cases oe<;>try exact fM
  unfold sS;dsimp only;split
  .ext h;unfold acy;split
   .exact NT (Gm PassesOwn.never O.calm (oD G O.dh _ _) (G.g O.dh _) (jZ (G.s O.dh) _) (λx=>iY h x))
   .ext q;exact Gm (O.own (by simpa using q)) O.calm (oD G O _ _) (G.g O _) (jZ (G.s O) _) (λx=>iY h x)
  .exact fM
 .rename_i tt bd oe _;cases oe<;>try exact fM
  unfold sS;dsimp only;split
  .exact fM
  .ext q;exact Ju 2000 (O.own (by simpa using q)) (G.t O _) (jZ (G.s O) _)
 .exact S3 (G.t O _) (jZ (G.s O) _) (jZ (G.s O) _)
 .rename_i e ca _;cases ca<;>try exact fM
  rcases e with _|e<;>try exact fM
  cases e<;>try exact fM
  rename_i f es ks _;cases f<;>try exact fM
  rcases es with _|⟨a,_|_⟩<;>cases ks<;>try exact fM
  .unfold sS;try dsimp only
   unfold acz;try dsimp only
   split
   .ext i hi;split
    .ext q;erw[ao,decide_eq_true_eq]at q;let#[#[#[q1,q2],q3],q4]:=q;let#[l,R,E]:=O.agZ q1;let#[g1,g2,_]:=O.gb q4;let#[h1,h2,_]:=List.findIdx?_eq_some_iff_getElem.mp hi;refine JE i E O.calm l g1 (by rw[cU h1,of_decide_eq_true h2]) zY q2 ?_ g2;simp[eS,q3]
    .exact fM
   .exact fM
 .rename_i bd hs oe fb _;rcases hs with _|⟨⟨_|e,nm,bs,_⟩,hs⟩<;>cases oe<;>cases fb<;>try exact fM
  cases e<;>try exact fM
  rcases nm with _|n<;>try exact fM
  rcases bs with _|⟨s1,bs⟩<;>try exact fM
  cases s1<;>try exact fM
  rename_i v _;rcases v with _|v<;>try exact fM
  cases v<;>try exact fM
  rename_i f es ks _;cases f<;>try exact fM
  rcases es with _|⟨a,es⟩<;>try exact fM
  cases a<;>try exact fM
  cases es<;>cases ks<;>cases bs<;>cases hs<;>try exact fM
  .unfold sS;try dsimp only
   unfold acA;try dsimp only
   split
   .ext i hi;split
    .ext q;erw[ao,decide_eq_true_eq]at q;let#[#[#[#[#[#[#[q1,rfl],rfl],rfl],q5],q6],q7],q8]:=q;let#[#[R,E],W,hk,p9,hJ]:=O.acm q1;let#[v1,v2,v3]:=O.acp q7;exact ON i E W O.room hk p9 hJ bz (O.gb q5).1 (O.gb q6).1 O.vY (O.at hi) (by unfold Env.kindOf;rw[O.nm];exact q8) (λpn E=>jZ (G.s (O.qE q1 pn E)) _) v1 v2 v3
    .exact fM
   .exact fM
 .rename_i e _;unfold sS;dsimp only;split
  .exact fM
  .ext h;exact L4 zY (mL (by simpa using h))
end
def ag3 (m:Cm):Cm:=#[λc bo fz e=>sE m c bo fz e,λc e=>sT m c e,λc e=>sG m c e,λc st=>sS m c st]
def cm:Nat->Cm
 |0=>#[λ_ _ _ _=>az,λ_ _=>az,λ_ _=>vX,λ_ _=>dY]
 |n+1=>ag3 (cm n)
theorem lM:∀ n,Good (cm n)
 |0=>#[λ_ _ _ _ _=>fu,λ_ _ _=>iS,λ_ _ _=>lJ,λ_ _ _=>fM]
 |n+1=>#[λO _ bo fz e=>VD (lM n) O bo fz e,λO _ e=>VE (lM n) O e,λO _ e=>VF (lM n) O e,λO _ st=>VG (lM n) O st]
structure FI where
 x:Str
 ps:List Str
 N:List Str
 bx:List Str
 dc:List Str
 wk:List (Str×Nat)
 fl:Nat   -- 1: its list is a box as it is returned,2: may raise,4: has a try,8: calls itself
 st:Stmt
 fn:List W->List Bx->O W
structure Tx where
 Iu:Str
 gl:List (Str×Int)
 bl:List Str
noncomputable def FI.b (f:FI) (i:Nat):Bool:=f.fl / i % 2==1
noncomputable def IE (r:List FI):List zbR:=r.map λg=>(g.x,(g.ps.length,g.fn))
def FI.cf (t:Tx) (fs:List zbR) (f:FI):Cf:=
 { N:=f.N,nm:=(fH f.st).names,f:=zO,bx:=f.bx,dc:=f.dc,wk:=f.wk,Iu:=t.Iu,fs:=fs,gl:=t.gl,bl:=t.bl,rb:=f.b 1,rx:=f.b 2,tr:=f.b 4,ow:=[] }
def FI.body (t:Tx) (fs:List zbR) (f:FI):List W->List Bx->O W:=
 let m:=uL ((cm 40).s (f.cf t fs)) (gK f.st)
 aL f.N.length (if f.b 2 then m else aR m)
def FI.ok (f:FI):Bool:=decide ((fH f.st).kind=.function)&&!(fH f.st).isCoroutine&&!(fH f.st).isGenerator&&decide f.N.Nodup&&decide (f.N.take f.ps.length=f.ps) &&
 f.ps.all (λx=>decide ((fH f.st).names.lookup x=some .local)||decide ((fH f.st).names.lookup x=some .cell))&&(fH f.st).names.all λy=>decide (y.2≠.free)
theorem FI.scope {f:FI}(h:f.ok=zO):qa f.N f.ps (fH f.st):=by
 erw[FI.ok,ao,decide_eq_true_eq,cK,uR,qr]at h;let#[#[#[#[#[#[h1,h2],h3],h4],h5],h6],h7]:=h;exact#[h1,h2,h3,h4,h5,h6,λy m=>h7 y m]
def FI.Is (t:Tx) (r:List FI) (f:FI):uu:=
 (f.b 8=zw /\ f.fn=f.body t (IE r)) \/
 (f.b 8=zO /\ ∃ g:Nat->List W->List Bx->O W,(g 0=λ_ _=>.bad) /\ (∀ i,g (i+1)=f.body t ((f.x,(f.ps.length,g i))::IE r)) /\ f.fn=g 12)
noncomputable def Xx (t:Tx):List FI->uu
 |[]=>True
 |f::r=>f.Is t r /\ Xx t r
def pU:List FI->Nat
 |[]=>0
 |f::r=>pU r+(if f.b 8 then 13 else 1)
structure Xy (P:Program) (w:World) (K:PySem.W.Frag) (mg:Str->Option kz) (base:Heap) (cl:Nat->Addr) (t:Tx) (ex tr:Bool):uu where
 gl:∀ x v,t.gl.lookup x=some v->∃ u,mg x=some (.int v u)
 bl:∀ x,x∈t.bl->mg x=zy
 ti:nJ K "int"
 tb:nJ K "bool"
 tt:nJ K "tuple"
 tl:nJ K "list"
 ext:ex=zO->∃ R,kY K mg R cl
 hw:tr=zO->Ei P w K mg base cl
theorem DQ {t:Tx}{ex tr:Bool}(B:Xy P w K mg base cl t ex tr) {f:FI}(d:Def K mg f.x f.st f.ps) (ho:f.ok=zO) (hex:f.b 2=zO \/ f.b 4=zO->ex=zO) (IF:f.b 4=zO->tr=zO) (qz:f.b 2=zO->f.b 4=zw) {k:Nat}(hk:f.b 4=zO->1<=k)
 {fs:List zbR}(F:∀ x n fn,fs.lookup x=some (n,fn)->∃ kk ps,nN P w K mg base cl kk x ps fn /\ ps.length=n /\ kk<=k):nN P w K mg base cl (k+1) f.x f.ps (f.body t fs):=by
 have S:=FI.scope ho;unfold FI.body;cases h2:f.b 2 with
 |false=>
   refine Tp (k:=k) d S (λfa cdv A outer s H E n F0 hr=>jZ ((lM 40).s (k:=k) ?_) _);exact#[rfl,rfl,S.kind,rfl,λ_ _=>rfl,(λx m=>nomatch m),S.nd,hr,F,B.gl,B.bl,BJ,B.ti,B.tb,B.tt,B.tl,λ_=>PassesOwn.never,λz=>absurd (h2.symm.trans z) za,λz=>#[B.ext (hex (.inr z)),B.hw (IF z),hk z,rfl,rfl]]
 |true=>
   refine OP (k:=k) d S (λfa cdv A outer s H E n F0 hr=>jZ ((lM 40).s (k:=k) ?_) _);exact#[rfl,rfl,S.kind,rfl,λ_ _=>rfl,(λx m=>nomatch m),S.nd,hr,F,B.gl,B.bl,Co.passes,B.ti,B.tb,B.tt,B.tl,λz=>absurd (h2.symm.trans z) za,λ_=>#[Co,B.ext (hex (.inl h2))],λz=>absurd ((qz h2).symm.trans z) za]
def Xz (ex tr:Bool) (r:List FI) (f:FI):Bool:=f.ok&&(!(f.b 2||f.b 4)||ex)&&(!f.b 4||tr)&&!(f.b 2&&f.b 4)&&(!f.b 4||decide (1<=pU r))
def IG (ex tr:Bool):List FI->Bool
 |[]=>zO
 |f::r=>Xz ex tr r f&&IG ex tr r
theorem Rv {t:Tx}{ex tr:Bool}(B:Xy P w K mg base cl t ex tr):∀ (l:List FI),Xx t l->IG ex tr l=zO->(∀ f∈l,Def K mg f.x f.st f.ps)->∀ f∈l,∃ kk,nN P w K mg base cl kk f.x f.ps f.fn /\ kk<=pU l:=by
 intro l_;induction l_ with
 |nil=>exact λ_ _ _=>λf m=>nomatch m
 |cons f r aq=>
   intro A C D;let#[A1,A2]:=A;have C':(Xz ex tr r f&&IG ex tr r)=zO:=C;rw[ao]at C';have ih:=aq A2 C'.2 λg m=>D g (bL _ m);have F:∀ x n fn,(IE r).lookup x=some (n,fn)->∃ kk ps,nN P w K mg base cl kk x ps fn /\ ps.length=n /\ kk<=pU r:=λx n fn e=>by
    refine jr (P:=λx (p:Nat×(List W->List Bx->O W))=>∃ kk ps,nN P w K mg base cl kk x ps p.2 /\ ps.length=p.1 /\ kk<=pU r) (l:=IE r) (λp m=>?_) e;let#[g,ag4,rfl]:=bU.mp m;let#[kk,h1,h2]:=ih g ag4;exact#[kk,g.ps,h1,rfl,h2]
   have c1:=C'.1;erw[Xz,ao,uR,qr,Bool.or_eq_false_iff,Km,decide_eq_true_eq]at c1;let#[#[#[#[o1,o2],o3],o4],o5]:=c1;have hex:f.b 2=zO \/ f.b 4=zO->ex=zO:=λz=>by
    rcases o2 with⟨a,b⟩|a
    .rcases z with z|z
     .rw[a]at z;cases z
     .rw[b]at z;cases z
    .exact a
   have IF:f.b 4=zO->tr=zO:=λz=>by
    rcases o3 with a|a
    .rw[a]at z;cases z
    .exact a
   have qz:f.b 2=zO->f.b 4=zw:=λz=>by
    rcases o4 with a|a
    .rw[a]at z;cases z
    .exact a
   have hk:f.b 4=zO->1<=pU r:=λz=>by
    rcases o5 with a|a
    .rw[a]at z;cases z
    .exact a
   have df:=D f (bK ..);intro g m;rcases aH.mp m with rfl|m
   .rcases A1 with⟨a1,a2⟩|⟨a1,q,a2,a3,a4⟩
    .refine#[pU r+1,a2▸DQ B df o1 hex IF qz hk F,?_];show _<=pU r+(if g.b 8 then 13 else 1);split<;>lia
    .have hg:∀ i,nN P w K mg base cl (pU r+i+1) g.x g.ps (q i):=λi=>by
      induction i with
      |zero=>rw[a2];exact OL df
      |succ i hi=>
        rw[a3];refine DQ (k:=pU r+(i+1)) B df o1 hex IF qz (λz=>by lia) λx n fn e=>?_;rw[eW]at e;cases hx:x==g.x with
        |true=>
          rw[hx]at e;cases e;have:x=g.x:=by simpa using hx
          subst this;exact#[_,_,hi,rfl,by lia]
        |false=>
          rw[hx]at e;let#[kk,ps,h1,h2,h3]:=F x n fn e;exact#[kk,ps,h1,h2,by lia]
     refine#[pU r+12+1,a4▸hg 12,?_];show _<=pU r+(if g.b 8 then 13 else 1);rw[a1,if_pos rfl];lia
   .let#[kk,h1,h2]:=ih g m;refine#[kk,h1,br h2 ?_];show _<=pU r+(if f.b 8 then 13 else 1);lia
noncomputable def acB (o:Obj):Bool:=match o.cls with|.type n=>n == "list"|_=>zw
def IH (K:PySem.W.Frag):Bool:=K.all λp=>!acB p.2
theorem Li (h:IH K=zO) (e:K.lookup a=some o):o.cls≠.type "list":=by
 intro c;unfold IH at h;rw[cK]at h;have m:(a,o)∈K:=by
  clear h;induction K with
  |nil=>cases e
  |cons p K ih=>
    rw[eW]at e;cases q:a==p.1 with
    |true=>
      rw[q]at e;cases e;have:a=p.1:=by simpa using q
      subst this;exact bK ..
    |false=>
      rw[q]at e;exact bL _ (ih e)
 have:=h _ m;simp[acB,c]at this
theorem Us (nl:IH K=zO) (hO:QE H) (hS:ba K H a zb5) (hf:∃ bx',fn [.s ns] []=.val (.d zc2) bx') :
 qH cl 1 fn [.ref a] H (λv _=>v=.bl zO) λ_ _ _=>False:=by
 rcases hS with hS|⟨o,its,n,e1,e2,_⟩
 .rcases hS with hS|⟨o,hS⟩
  .rcases hO a with z|⟨o,xs,z⟩
   .rw[hS]at z;cases z
   .rw[hS]at z;cases z
  .let#[bx',hf]:=hf;refine#[H,[],[.s ns],[],#[Sub.refl H,λi w e=>by simp at e,rfl,.nil,λn c a e=>by simp at e,λa u e _=>e,λn a _ e=>by simp at e,au _,au _,λa u e=>.inl e],#[.ref a,[],rfl,#[a,o,rfl,hS],rfl],rfl,?_];rw[hf];intro F' r' v H' _ _ d;exact d
 .exact absurd e2 (Li nl e1)
noncomputable def tys:List String:=["NoneType","bool","int","str","tuple","list","dict"]
def II (K:PySem.W.Frag):Bool:=tys.all λS=>["int","bool","tuple","list"].all λT=>PySem.W.kitOne K (.type S) (.type T)==some (qf S T)
theorem B9 (h:II K=zO) {T:String}(m:T∈["int","bool","tuple","list"]):nJ K T:=by
 intro d;unfold II at h;rw[cK]at h;have m1:nI d∈tys:=by cases d<;>simp[nI,tys]
 have z:=h _ m1;rw[cK]at z;exact beq_iff_eq.mp (z _ m)
theorem Ut {h:Heap}{ps:List Str}{f:Addr}{oc:kz}{od an:Option Addr}{kV doc pm cdv ct:kz}(X:K.In h) (G:h.Ns mainGlobals mg)
 (a:PySem.W.nsIn K mainGlobals x=some (some zb1)) (l:K.lookup f=some #[oc,od,.func (PySem.W.fnOf x x (ja st) (gK st) (fH st) .none kV doc pm an cdv ct),pE])
 (c:PySem.W.codeIn K cdv x=zO) (k:PySem.W.keepIn K zb1=zO) (hb:∀ fd,hG K x x st f fd->Binds K fd ps []):Def K mg x st ps:=
 #[f,_,D6 l c k,PySem.W.mg_of X G a,hb _ (D6 l c k)]
theorem Uu {l:PySem.W.OpenLaw}{fa:Addr}{k:Nat}(cl:Nat->Addr) (xF:mg "law"=some (.ref fa)) (D:Def K mg "law" st ["_law_script"])
 (hB:∀ (fd:FuncData) (f:Addr),hG K "law" "law" st f fd->∀ (s:Shared) (u:kz),BindsTo s fd #[[u],[]] [("_law_script",u)])
 (H:∀ base:Heap,K.In base->base.Ns mainGlobals mg->nN l.prog w K mg base cl k "law" ["_law_script"] fn) :
 ∃ (cl:Nat->Addr) (fd:FuncData),zaL /\ ∀ base:Heap,K.In base->base.Ns mainGlobals mg->eM l.prog w K mg base (eB l.prog w) k fa fd ["_law_script"] (qH cl 1 fn):=by
 let#[f,fd,F,hm,_]:=D;rw[xF]at hm;cases hm;refine#[cl,fd,hB fd fa F,λbase hK hN=>?_];let#[f',aiY,ok,HJ,_,_,o,hl,hd]:=H base hK hN;rw[xF]at HJ;cases HJ;let#[o2,rK,hd2]:=F.obj;rw[hl]at rK;cases rK;rw[hd]at hd2;cases hd2;exact ok
theorem walk_d {l:PySem.W.OpenLaw}{q:Program}{loose:List Str}{XP:(Str->Option kz)->Heap->uu}{YP:World->Heap->uu}{d:DefRec}{K:Params->PySem.W.Frag}{k:Nat}{fn:List W->List Bx->O W}(hk:bV k callerA) (hn:l.most=some 63) (QC:d.params.defaults=[])
 (hY:∀ (w:World) (h:Heap),YP w h->(K w.params).In h) (nl:∀ w:World,IH (K w.params)=zO) (hf:∀ ns:List Int,ns.length<=63->∃ bx',fn [.s ns] []=.val (.d zc2) bx')
 (F:∀ (w:World) (mg:Str->Option kz) (fa:Addr) (h:Heap),(K w.params).In h->h.Ns mainGlobals mg->mg d.name=some (.ref fa) ->
  ∃ (cl:Nat->Addr) (fd:FuncData),zaL /\ ∀ base:Heap,(K w.params).In base->base.Ns mainGlobals mg->eM l.prog w (K w.params) mg base (eB l.prog w) k fa fd ["_law_script"] (qH cl 1 fn)) :
 PySem.W.WalkO q loose XP YP l.row.toRowW d [] (λf vs=>PySem.call f vs):=by
 refine aaB.aec hn QC λw s0 s1 mg mb fa o pm cd doc a vs ns G Y ho hd dg hmg QD hints hlen hg=>?_;have KX:=hY w _ Y;let#[cl,fd,hb,hF]:=F w mg fa _ KX G.T.g hmg;exact LL KX G.T.g G.T.b G.T.builtins G.T.nolimit hg QD hints (br hlen za) hk hF hb (λH hO hS=>Us (nl w) hO hS (hf ns hlen)) λH e s' z=>by
  let#[_,_,_,_,_,_,_,_,_,_,_,_,_,z]:=z;exact z
open PySem.W in
def IJ (K:Frag) (R C:Addr):Bool:=excIn K C QP "ValueError.__new__"&&(findIn K zbp "__getattribute__"==some (some (.builtin "BaseException.__getattribute__")))&&(findIn K zbp "__getattr__"==some zy) &&
 (findIn K zbp "__class__"==some (some zaK))&&(mroIn K C (.type "object")==some zO)&&(mroIn K C zce==some zO)&&(clsIn K C).isSome&&(kitOne K zbp (.type "ValueError")==some zO)&&(kitCls K zbp (.ref R)==some zO)
open PySem.W in
noncomputable def XA (K:Frag) (cs:List Addr):Bool:=(List.range 17).all λi=>(List.range 17).all λj=>kitOne K (.ref (cs.getD i 0)) (.ref (cs.getD j 0))==some (decide (i=j))
open PySem.W in
noncomputable def XB (K:Frag) (R:Addr):Bool:=(mroIn K R zce==some zO)&&(specialIn K zaK "__get__"==some (some zcC))&&(takesIn K zaK==some zO)
theorem NU {l:List Addr}(h:i<l.length):l.getD i 0∈l:=by
 rw[List.getD,cU h];exact uX h
open PySem.W in
theorem Uv {h:Heap}{R:Addr}{cs:List Addr}(X:K.In h) (G:h.Ns mainGlobals mg) (hl:cs.length=17) (eR:nsIn K mainGlobals "RimeError"=some (some (.ref R)))
 (e:∀ i x,uz[i]?=some x->nsIn K mainGlobals x=some (some (.ref (cs.getD i 0)))) (zi:nsIn K mainGlobals "isinstance"=some zy) (zv:nsIn K mainGlobals "ValueError"=some zy)
 (h1:cs.all (IJ K R)=zO) (h2:XA K cs=zO) (h3:XB K R=zO):kY K mg R (λi=>cs.getD i 0):=by
 unfold XB at h3;erw[ao,beq_iff_eq]at h3;let#[#[q1,q3],q4]:=h3;have hc:∀ i,i<17->IJ K R (cs.getD i 0)=zO:=λi hi=>by
  rw[cK]at h1;exact h1 _ (NU (by rw[hl];exact hi))
 erw[IJ,ao,beq_iff_eq]at hc;refine#[λi x hx=>mg_of X G (e i x hx),mg_of X G eR,KY X G zi,KY X G zv,λi hi=>(hc i hi).1.1.1.1.1.1.1.1,λi hi=>?_,λi j hi hj=>?_,λi hi=>(hc i hi).1.2,λi hi=>(hc i hi).2,q1]
 .let#[#[#[#[#[#[#[#[_,y2],y3],y4],y5],y6],y7],_],_]:=hc i hi;exact#[y2,y3,y4,q3,q4,y5,y6,y7]
 .unfold XA at h2;rw[cK]at h2;have z:=h2 i (List.mem_range.mpr hi);rw[cK]at z;exact beq_iff_eq.mp (z j (List.mem_range.mpr hj))
noncomputable def IK (K:Frag) (bl:List Str):Bool:=bl.all λx=>match nsIn K mainGlobals x with|some none=>zO|_=>zw
noncomputable def IL (K:Frag) (gl:List (Str×Int)):Bool:=gl.all λp=>match nsIn K mainGlobals p.1 with|some (some (.int v _))=>v==p.2|_=>zw
theorem FV {h:Heap}{bl:List Str}(X:K.In h) (G:h.Ns mainGlobals mg) (c:IK K bl=zO):∀ x,x∈bl->mg x=zy:=λx m=>by
 unfold IK at c;rw[cK]at c;have z:=c x m;split at z
 .next e=>exact KY X G e
 .cases z
theorem NV {h:Heap}{gl:List (Str×Int)}(X:K.In h) (G:h.Ns mainGlobals mg) (c:IL K gl=zO):∀ x v,gl.lookup x=some v->∃ u,mg x=some (.int v u):=λx v e=>by
 unfold IL at c;rw[cK]at c;refine jr (P:=λx (v:Int)=>∃ u,mg x=some (.int v u)) (l:=gl) (λp m=>?_) e;have z:=c p m;split at z
 .next v u e=>
  have:v=p.2:=by simpa using z
  subst this;exact#[u,mg_of X G e]
 .cases z
theorem VH {h:Heap}{t:Tx}{ex tr:Bool}(X:K.In h) (G:h.Ns mainGlobals mg) (z:IK K t.bl=zO) (g:IL K t.gl=zO) (y:II K=zO)
 (e:ex=zO->∃ R,kY K mg R cl) (hw:tr=zO->Ei P w K mg base cl):Xy P w K mg base cl t ex tr:=
 #[NV X G g,FV X G z,B9 y zf,B9 y zf,B9 y zf,B9 y zf,e,hw]
theorem Rw {l:PySem.W.OpenLaw}{fa:Addr}{k:Nat}(cl:Nat->Addr) (xF:mg "law"=some (.ref fa)) (D:Def K mg "law" st ["_law_script"])
 (hB:∀ (fd:FuncData) (f:Addr),hG K "law" "law" st f fd->∀ (s:Shared) (u:kz),BindsTo s fd #[[u],[]] [("_law_script",u)])
 (H:∀ base:Heap,K.In base->base.Ns mainGlobals mg->∃ kk,nN l.prog w K mg base cl kk "law" ["_law_script"] fn /\ kk<=k) :
 ∃ (cl:Nat->Addr) (fd:FuncData),zaL /\ ∀ base:Heap,K.In base->base.Ns mainGlobals mg->eM l.prog w K mg base (eB l.prog w) k fa fd ["_law_script"] (qH cl 1 fn):=
 Uu cl xF D hB λbase a b=>by
  let#[kk,#[f,fd,ok,r],le]:=H base a b;exact#[f,fd,ok.mono le,r]
def bq (K:Frag) (x:Str) (st:Stmt):uu:=∃ (f:Addr) (oc:kz) (od:Option Addr) (kV dc pm:kz) (an:Option Addr) (cd ct:kz) (sl:Array (Option kz)),nsIn K mainGlobals x=some (some zb1) /\
 K.lookup f=some #[oc,od,.func (fnOf x x (ja st) (gK st) (fH st) .none kV dc pm an cd ct),sl] /\ codeIn K cd x=zO /\ keepIn K zb1=zO
theorem dIn_mk {K:Frag}{x:Str}{st:Stmt}{f:Addr}{oc:kz}{od:Option Addr}{kV dc pm:kz}{an:Option Addr}{cd ct:kz}{sl:Array (Option kz)}(a:nsIn K mainGlobals x=some (some zb1))
 (l:K.lookup f=some #[oc,od,.func (fnOf x x (ja st) (gK st) (fH st) .none kV dc pm an cd ct),sl]) (c:codeIn K cd x=zO) (k:keepIn K zb1=zO):bq K x st:=#[f,oc,od,kV,dc,pm,an,cd,ct,sl,a,l,c,k]
noncomputable def XC (a:Arguments) (ps:List Str):Bool:=a.posonlyargs.isEmpty&&a.vararg.isNone&&a.kwonlyargs.isEmpty&&a.kwarg.isNone&&decide (a.args.map (·.arg)=ps)&&decide ps.Nodup
theorem Ai {β:Type}{f g:Str->Option β}:∀ {l:List Str},(∀ n∈l,f n=g n)->l.filterMap f=l.filterMap g:=by
 intro l_;induction l_ with
 |nil=>exact λ_=>rfl
 |cons n l aq=>(intro h;rw[ng,ng,h n (bK ..),aq λm q=>h m (bL _ q)])
theorem DR:∀ {ps:List Str}{us:List kz},us.length=ps.length->ps.Nodup->(∀ n∈ps,((ps.zip us).lookup n).isNone=zw) /\ ps.filterMap (λn=>((ps.zip us).lookup n).map (n,·))=ps.zip us
 |[],_,_,_=>#[(λ_ h=>nomatch h),rfl]
 |p::ps,[],h,_=>by cases h
 | p::ps,u::us,h,nd=>by
   let#[n1,n2]:=sI.mp nd;let#[a,b]:=DR (ps:=ps) (us:=us) (by simpa using h) n2;have ne:∀ n∈ps,(n==p)=zw:=λn m=>beq_eq_false_iff_ne.mpr λz=>n1 (z▸m);refine#[λn m=>?_,?_]
   .rw[wy,eW];cases q:n==p with
    |true=>rfl
    |false=>
      rcases aH.mp m with z|z
      .rw[z]at q;simp at q
      .exact a n z
   .rw[wy,List.filterMap_cons_some (b:=(p,u)) (by simp[eW])];congr 1;refine Eq.trans ?_ b;exact Ai λn m=>by rw[eW,ne n m]
theorem FW {a:Arguments}{b:List Stmt}{sc:Scope}{ps:List Str}(h:XC a ps=zO) (kV doc pm:kz) (an:Option Addr) (cdv ct:kz) (us:List kz) (hl:us.length=ps.length) :
 bindArgs (fnOf x x a b sc .none kV doc pm an cdv ct) #[us,[]]=pure (ps.zip us):=by
 let#[po,ar,va,ko,kd,kw,df]:=a;erw[XC,ao,decide_eq_true_eq,List.isEmpty_iff,Option.isNone_iff_eq_none]at h;let#[#[#[#[#[rfl,rfl],rfl],rfl],rfl],nd]:=h;let#[z1,z2]:=DR hl nd;erw[bindArgs,fnOf];have m0:∀ l:List Str,(∀ n∈l,n∈ar.map (·.arg))->l.filter (λn=>(((ar.map (·.arg)).zip us).lookup n).isNone)=[]:=λl h=>List.filter_eq_nil_iff.mpr λn m=>by rw[z1 n (h n m)];decide
 have n0:(do notAStandIn Value.none;pure (zy:Option (Array kz)))=pure zy:=rfl;erw[wz,E4,hZ,yh,pure_bind,seqItems?,n0,hl,gt_iff_lt,eJ,decide_false,sv,wu,if_false,KH,List.drop_nil,kK,Kn,ua,List.drop_length,Kv,m0 _ λ_ h=>h,YR,Bool.not_true,z2]
noncomputable def AllIn (K:Frag):List FI->uu
 |[]=>True
 |f::r=>bq K f.x f.st /\ AllIn K r
theorem acC {K:Frag}{h:Heap}{mg:Str->Option kz}(X:K.In h) (G:h.Ns mainGlobals mg):∀ {l:List FI},AllIn K l->(l.all λf=>XC (ja f.st) f.ps)=zO->∀ f∈l,Def K mg f.x f.st f.ps
 |[],_,_=>λ_ m=>nomatch m
 | g::r,d,q=>λf m=>by
   rw[eK,ao]at q;rcases aH.mp m with rfl|m
   .let#[f,oc,od,kV,dc,pm,an,cd,ct,sl,a,l,c,k]:=d.1;exact Ut X G a l c k λfd F=>F.binds (FW q.1)
   .exact acC X G d.2 q.2 f m
end L2.DL
namespace K54
open L2 L2.DL
noncomputable section
def top (i:Nat):Stmt:=PySem.Challenge.pw_rimehold_k54_moves_refused.main.body.getD i (.Pass #[0,0,0,0])
noncomputable def tx:L2.DL.Tx:=#["_law_script",[("COLDEST",3),("MOST_MOVES",10),("MOST_RINGS",30)],["all","any","bool","enumerate","int","isinstance","len","list","max","min","range","repr","set","sorted","tuple","zip"]]
def i0:FI:=#["_law_pot",["_law_cell"],["_law_cell","_law_number","_law_j","_law_more"],[],[],[],1,top 53,K1.jQ]
def i1:FI:=#["_law_take",["_law_pot_here","_law_far"],["_law_pot_here","_law_far","_law_found"],[],[],[],0,top 54,K1.fk]
def i2:FI:=#["_law_house",["_law_pot_here"],["_law_pot_here","_law_rooms","_law_kinds","_law_turn","_law_rates","_law_apart","_law_one","_law_other"],["_law_apart","_law_kinds"],[],[],0,top 59,aM.jf]
def i3:FI:=#["_law_cell_at",["_law_script","_law_k"],["_law_script","_law_k"],[],[],[],0,top 52,K1.iD]
def i4:FI:=#["_law_moves",["_law_pot_here","_law_house_here"],["_law_pot_here","_law_house_here","_law_rooms","_law_found","_law_turn","_law_one","_law_other"],["_law_found"],[],[],0,top 62,aM.jg]
def i5:FI:=#["_law_odd",["_law_pot_here"],["_law_pot_here","_law_some"],[],[],[],0,top 57,K1.fY]
def i6:FI:=#["_law_whole",["_law_thing"],["_law_thing"],[],[],[],0,top 55,K1.gz]
def i7:FI:=#["_law_within",["_law_thing","_law_low","_law_high"],["_law_thing","_law_low","_law_high"],[],[],[],0,top 56,K1.gE]
def i8:FI:=#["_law_is_house",["_law_thing"],["_law_thing","_law_rooms","_law_kinds","_law_apart","_law_hold","_law_one","_law_pairs"],["_law_pairs"],[],[],0,top 61,K54.gO]
def i9:FI:=#["is_tuple",["thing","fewest","most"],["thing","fewest","most"],[],[],[],0,top 22,K1.gk]
def ag5:FI:=#["is_whole",["thing"],["thing"],[],[],[],0,top 20,K1.iX]
def ag6:FI:=#["is_within",["thing","least","greatest"],["thing","least","greatest"],[],[],[],0,top 21,K1.gh]
def i12:FI:=#["are_rooms",["thing"],["thing"],[],[],[],0,top 28,K1.jc]
def ag7:FI:=#["are_rates",["thing"],["thing"],[],[],[],0,top 31,K1.jO]
def ag8:FI:=#["is_kind",["thing"],["thing"],[],[],[],0,top 30,K1.lX]
def ag9:FI:=#["are_kinds",["thing"],["thing"],[],[],[],0,top 29,K1.jd]
def aha:FI:=#["is_rising",["things"],["things"],[],[],[],0,top 23,K1.jN]
def ahb:FI:=#["is_pair_apart",["thing","many"],["thing","many"],[],[],[],0,top 33,K1.ig]
def ahc:FI:=#["are_apart",["thing","many"],["thing","many"],[],[],[],0,top 32,K1.gZ]
def ahd:FI:=#["is_house",["thing"],["thing","rooms","kinds","apart","hold"],[],[],[],0,top 27,K1.li]
def ahe:FI:=#["need_house",["thing"],["thing"],[],[],[],2,top 34,K2.iQ]
def ahf:FI:=#["is_room",["house","thing"],["house","thing"],[],[],[],0,top 35,K2.gX]
def ahg:FI:=#["is_move",["house","thing"],["house","thing"],[],[],[],0,top 44,aM.jR]
def ahh:FI:=#["are_moves",["house","thing"],["house","thing"],[],[],[],0,top 43,aM.jS]
def ahi:FI:=#["need_moves",["house","thing"],["house","thing"],[],[],[],2,top 42,aJ.fP]
def ahj:FI:=#["rooms_named",["moves"],["moves"],[],[],[],0,top 46,cX.gu]
def ahk:FI:=#["rings_of",["moves"],["moves","rings","paths","longer","path","following"],["longer","paths","rings"],[],[("rings",3)],1,top 47,cX.ju]
def ahl:FI:=#["meets",["rooms","ring"],["rooms","ring"],[],[],[],0,top 49,aJ.mD]
def ahm:FI:=#["fewest_of_each",["house","rings"],["house","rings","sets","room","meeting"],[],[],[],0,top 48,aJ.gj]
def ahn:FI:=#["in_turn",["rooms","moves"],["rooms","moves","told","waiting","blocked"],["told"],[],[],0,top 50,cX.jn]
def aho:FI:=#["openings",["house","moves"],["house","moves","rings","twice","once"],[],[],[("rings",4)],3,top 39,K54.ie]
def ahp:FI:=#["is_row",["house","moves","thing"],["house","moves","thing","first","last","place","room"],["first","last"],["first","last"],[],2,top 40,K54.im]
def ahq:FI:=#["need_number",["thing"],["thing"],[],[],[],2,top 24,aJ.iE]
def ahr:FI:=#["is_ring",["house","moves","thing"],["house","moves","thing"],[],[],[],0,top 45,K54.jU]
def ahs:FI:=#["are_rings",["house","moves","many","thing"],["house","moves","many","thing"],[],[],[],2,top 41,K54.gQ]
def aht:FI:=#["_law_told",["_law_way","_law_house_here","_law_moves_here","_law_thing"],["_law_way","_law_house_here","_law_moves_here","_law_thing","_law_found","_law_e"],[],[],[],4,top 63,K54.fX]
def ahu:FI:=#["_law_bent",["_law_pot_here","_law_thing"],["_law_pot_here","_law_thing","_law_way","_law_at"],[],[],[],8,top 58,K1.gF 12]
def ahv:FI:=#["_law_are_moves",["_law_house_here","_law_thing"],["_law_house_here","_law_thing","_law_one"],[],[],[],0,top 64,K54.gn]
def XD:FI:=#["law",["_law_script"],["_law_script","_law_k","_law_pot_here","_law_house_here","_law_moves_here","_law_rooms","_law_at","_law_things","_law_odds","_law_odd_here","_law_thing","_law_one","_law_due","_law_kept","_law_beside","_law_words"],["_law_things"],[],[],0,top 65,K54.BM]
def IM:List FI:=[XD,ahv,ahu,aht,ahs,ahr,ahq,ahp,aho,ahn,ahm,ahl,ahk,ahj,ahi,ahh,ahg,ahf,ahe,ahd,ahc,ahb,aha,ag9,ag8,ag7,i12,ag6,ag5,i9,i8,i7,i6,i5,i4,i3,i2,i1,i0]
theorem Uw:Xx tx IM:=#[.inl #[rfl,by kernel_rfl],.inl #[rfl,by kernel_rfl],.inr #[rfl,K1.gF,rfl,λ_=>by kernel_rfl,rfl],.inl #[rfl,by kernel_rfl],.inl #[rfl,by kernel_rfl],.inl #[rfl,by kernel_rfl],.inl #[rfl,by kernel_rfl],.inl #[rfl,by kernel_rfl],.inl #[rfl,by kernel_rfl],.inl #[rfl,by kernel_rfl],.inl #[rfl,by kernel_rfl],.inl #[rfl,by kernel_rfl],.inl #[rfl,by kernel_rfl],.inl #[rfl,by kernel_rfl],.inl #[rfl,by kernel_rfl],.inl #[rfl,by kernel_rfl],.inl #[rfl,by kernel_rfl],.inl #[rfl,by kernel_rfl],.inl #[rfl,by kernel_rfl],.inl #[rfl,by kernel_rfl],.inl #[rfl,by kernel_rfl],.inl #[rfl,by kernel_rfl],.inl #[rfl,by kernel_rfl],.inl #[rfl,by kernel_rfl],.inl #[rfl,by kernel_rfl],.inl #[rfl,by kernel_rfl],.inl #[rfl,by kernel_rfl],.inl #[rfl,by kernel_rfl],.inl #[rfl,by kernel_rfl],.inl #[rfl,by kernel_rfl],.inl #[rfl,by kernel_rfl],.inl #[rfl,by kernel_rfl],.inl #[rfl,by kernel_rfl],.inl #[rfl,by kernel_rfl],.inl #[rfl,by kernel_rfl],.inl #[rfl,by kernel_rfl],.inl #[rfl,by kernel_rfl],.inl #[rfl,by kernel_rfl],.inl #[rfl,by kernel_rfl],trivial]
theorem Ux:IG zO zO IM=zO:=by kernel_rfl
end
end K54
namespace K54.Wd
open L2 L2.DL PySem.W
abbrev sj:Stmt:=PySem.Challenge.pw_rimehold_k54_moves_refused.main.body.getD 60 (.Pass #[0,0,0,0])
theorem NW {l:Addr}{o:HO}(h:H l=zy):kR H (upd H l o):=λb u e=>by rw[fA (fQ e h)];exact e
noncomputable def uM (i n:Nat):List V:=(List.range n).map λj=>V.bl (decide (i=j))
theorem DS (i n:Nat):(uM i n).all eA=zO:=by
 rw[cK];intro x hx;let#[j,_,rfl]:=bU.mp hx;rfl
theorem Lj:∀ i,i<17->(uM i 17).countP (λz=>dR z zc2)=1:=by decide
theorem Uy:∀ i,i<17->(uM i 17)[i]?=some zc2:=by decide
theorem Uz:∀ i,i<17->∀ m,m<i->(uM i 17)[m]?=some zag:=by decide
theorem IP:qa ["_law_e","_law_some","_law_words"] ["_law_e"] (fH sj):=#[rfl,rfl,rfl,by decide +kernel,rfl,by decide +kernel,by decide +kernel]
theorem Lk:bootBuiltins "ValueError"=some (.type "ValueError"):=by decide +kernel
def cT (i:Nat):Stmt:=(gK sj).getD i (.Pass #[0,0,0,0])
theorem AN {env:Env}(es:List Expr) (p pos':Pos) (line:Nat):swapsWith (.List es p) (some (.Name x pos')) line env=pure zw:=by rfl
section
variable {R:Addr} {c:Nat -> Addr} {f:Addr} {cdv:kz} {Hx:Hp} {E:XK}
abbrev XW (P:Program) (w:World) (K:Frag) (mg:Str->Option kz) (base:Heap) (f:Addr) (cdv:kz) (A:Around) (outer:List Env) (s:Shared) (H:Hp) (E:XK):Cx:=(yP qC P w K mg base ["_law_e","_law_some","_law_words"] "_law_word" (fH sj) f cdv A outer s H E).dh
theorem lN {H0:Hp}{l:Addr}{o:HO}(s:kR H0 H) (h:H0 l=zy):kR H0 (upd H l o):=λb u e=>by rw[fA (fQ e h)];exact s b u e
def EI:Expr->Option Nat
 |.Call (.Name f _) [.Name y _,.Name z _] [] _=>if f="isinstance" /\ y="_law_e" then uz.findIdx? λw=>decide (w=z) else zy
 |_=>zy
theorem UA (h:EI e=some j):∃ p1 p2 z p3 p4,e=.Call (.Name "isinstance" p1) [.Name "_law_e" p2,.Name z p3] [] p4 /\ uz[j]?=some z:=by
 cases e<;>try cases h
 rename_i f es ks _;cases f<;>try cases h
 rcases es with _|⟨a,es⟩<;>try cases h
 cases a<;>try cases h
 rcases es with _|⟨b,es⟩<;>try cases h
 cases b<;>try cases h
 cases es<;>cases ks<;>try cases h
 unfold EI at h;dsimp only at h;split at h
 .ext q;let#[rfl,rfl]:=q;let#[h1,h2,_]:=List.findIdx?_eq_some_iff_getElem.mp h;exact#[_,_,_,_,_,rfl,by rw[cU h1,of_decide_eq_true h2]]
 .cases h
theorem VI:∀ z∈uz,(fH sj).names.lookup z=some .globalImplicit /\ (z==("__debug__":Str))=zw:=by decide +kernel
def ahw (c:Nat->Addr) (js:List Nat):TA:=λσ H Q=>∃ a i,σ[0]?=some (some za3) /\ i<17 /\ H a=some (.ext (eO a (c i))) /\ Q (js.map λj=>.bl (decide (i=j))) H
theorem Ca (T:kY K mg R c):∀ {es:List Expr}{js:List Nat},es.map EI=js.map some->PA zaF es (ahw c js)
 |[],[],_=>PA.imp ic λ_ _ _ ⟨_,_,_,_,_,q⟩=>q
 |[],_::_,h=>by simp at h
 |_::_,[],h=>by simp at h
 | e::es,j::js,h=>by
   rw[bh,bh,List.cons.injEq]at h;have ih:=Ca T h.2;let#[p1,p2,z,p3,p4,rfl,hz]:=UA h.1;let#[g1,g2]:=VI z (yc hz);exact PA.imp (f8 (iU lB (by rfl) T.inst KN (f8 (pv 0) (f8 (oJ (v:=.ref (c j)) g1 (T.m j z hz) bz g2) ic))) ih) λσ H Q ⟨a,i,h0,hi,ha,q⟩=>#[_,h0,_,_,_,_,_,rfl,.exc ha (T.ek i hi),rfl,T.kt i j hi (List.getElem?_eq_some_iff.mp hz).1,a,i,h0,hi,ha,q]
theorem w0 (T:kY K mg R c) (hi:i<17) {H0:Hp}(ha:H0 a=some (.ext (eO a (c i)))):∃ t,PS zaF (cT 0) t /\ ∀ D,
 (∀ l H',H0 l=zy->kR H0 H'->H' l=some (.lst ([0,1,2,3].map λj=>.bl (decide (i=j))))->D.nx za1 H')->t D [some za3,zy,zy] H0:=by
 have e:∃ p es q r,cT 0=.Assign [.Name "_law_some" p] (.List es q) r /\ es.map EI=[0,1,2,3].map some:=#[_,_,_,_,rfl,by kernel_rfl];let#[p,es,q,r,h,he]:=e;rw[h];exact#[_,BA (i:=1) IP.nd bz (Or.inl bz) (o8 (Ca T he)) (AN _ _ _ _),λD k=>#[a,i,rfl,hi,ha,by show 4<=sizeLine;decide,λl n=>k l _ n (NW n) fE]]
theorem w1 (T:kY K mg R c) (hi:i<17) {H0:Hp}(ha:H0 a=some (.ext (eO a (c i)))) (n:Nat) {js:List Nat}(h4:js.length<=4) (e:∃ p x es q q' r,cT n=.Assign [.Name "_law_some" p] (.BinOp (.Name "_law_some" x) .Add (.List es q) q') r /\ es.map EI=js.map some):∃ t,PS zaF (cT n) t /\ ∀ D H l xs,kR H0 H->H0 l=zy->H l=some zb0->xs.length<=100 ->
 (∀ p H',H0 p=zy->kR H0 H'->H' p=some (.lst (xs++js.map λj=>.bl (decide (i=j))))->D.nx [some za3,some (.ref p),zy] H')->t D za1 H:=by
 let#[p,x,es,q,q',r,h,he]:=e;rw[h];refine#[_,BA (i:=1) IP.nd bz (Or.inl bz) (Lx D5 (pv 1) (o8 (Ca T he))),λD H l xs sm hn hl hx k=>?_];refine#[_,rfl,a,i,rfl,hi,sm _ _ ha,by rw[aS];exact br h4 za,λl2 n2=>?_];refine#[l,l2,xs,_,rfl,rfl,by rw[fA (fQ hl n2)];exact hl,fE,aaD zS |> rf,λp np=>?_];have s2:=lN (o:=.lst (js.map λj=>.bl (decide (i=j)))) sm (sm.free n2);have mp:H0 p=zy:=s2.free np;exact k p _ mp (lN s2 mp) fE
theorem w4 (T:kY K mg R c) (hi:i<17) {H0:Hp}(ha:H0 a=some (.ext (eO a (c i)))):∃ t,PS zaF (cT 4) t /\ ∀ D H l xs,kR H0 H->H0 l=zy->H l=some zb0->xs.length<=100 ->
 (∀ H',kR H0 H'->H' l=some (.lst (xs++[.bl (decide (i=16))]))->D.nx za1 H')->t D za1 H:=by
 refine#[_,FZ (Ci yn Zz ZA mO (pv 1) (f8 (iU lB (by rfl) T.inst KN (f8 (pv 0) (f8 (oJ (v:=.ref (c 16)) bz (T.m 16 _ bz) bz) ic))) ic)),λD H l xs sm hn hl hx k=>?_];exact#[_,rfl,.inl #[rfl,_,ba.of hl],_,rfl,_,_,_,_,_,rfl,.exc (sm _ _ ha) (T.ek i hi),rfl,T.kt i 16 hi za,l,xs,_,rfl,rfl,hl,aaD zb,k _ (lN sm hn) fE]
theorem w5 (T:kY K mg R c) (hi:i<17) {H0:Hp}(ha:H0 a=some (.ext (eO a (c i)))):∃ t,PS zaF (cT 5) t /\ ∀ D H l,kR H0 H->H l=some (.lst (uM i 17)) ->
 D.nx za1 H->t D za1 H:=by
 refine#[_,(RC (PW.pt (Rz (Ga RE (Ci yn PySem.F.slot_list_count PySem.F.type_list_count LT (pv 1) (f8 Lm ic)) mM (adV _)) (Lo (Lp (Ln (iU lB (by rfl) T.inst KN (f8 (pv 0) (f8 (oK (v:=.ty "ValueError") bz T.afS Lk bz) ic)))))))) (oM (By DT)) FY),λD H l sm hl k=>?_];refine#[_,rfl,.inl #[rfl,_,ba.of hl],l,_,_,rfl,rfl,hl,DS i 17,rfl,rfl,_,rfl,?_];rw[Lj i hi];refine aaE ?_;exact#[_,rfl,_,_,_,_,_,rfl,.exc (sm _ _ ha) (T.ek i hi),rfl,T.kv i hi,_,rfl,aaE k]
theorem w6 (T:kY K mg R c) {H0:Hp}:∃ t,PS zaF (cT 6) t /\ ∀ D H l,kR H0 H ->
 (∀ l2 H',H l2=zy->H'=upd H l2 (.lst ((qT.take 12).map V.str))->D.nx [some za3,some (.ref l),some (.ref l2)] H')->t D za1 H:=by
 have e:∃ p es q r,cT 6=.Assign [.Name "_law_words" p] (.List es q) r /\ es.map aaR=(qT.take 12).map some:=#[_,_,_,_,rfl,rfl];let#[p,es,q,r,h,he]:=e;rw[h];refine#[_,BA (i:=2) (x:="_law_words") IP.nd bz (Or.inl bz) (o8 (Gg he)) (AN _ _ _ _),λD H l sm k=>?_];exact#[by decide,λl2 n2=>k l2 _ n2 bz]
theorem w7 (T:kY K mg R c) (hi:i<17) {H0:Hp}:∃ t,PS zaF (cT 7) t /\ ∀ D H l l2,kR H0 H->H l=some (.lst (uM i 17))->H l2=some (.lst ((qT.take 12).map V.str)) ->
 (∀ H',kR H0 H'->D.rt (.str (wordOf i)) H')->t D [some za3,some (.ref l),some (.ref l2)] H:=by
 refine#[_,(By (LG BD (Lx D5 (pv 2) (o8 (Gg (xs:=qT.drop 12) bz))) (Ci yn PySem.F.slot_list_index PySem.F.type_list_index LU (pv 1) (f8 Lm ic)) (λ_ _=>rfl))),λD H l l2 sm hl h2 k=>?_];refine#[_,rfl,by decide,λl3 n3=>?_];refine#[l2,l3,_,_,rfl,rfl,by rw[fA (fQ h2 n3)];exact h2,fE,by decide,λp np=>?_];have m3:H0 l3=zy:=sm.free n3;have s3:=lN (o:=.lst ((qT.drop 12).map V.str)) sm m3;have mp:H0 p=zy:=s3.free np;have lp:l≠p:=by
  intro z;rw[<-z,fA (fQ hl n3),hl]at np;cases np
 have qd:(upd (upd H l3 (.lst ((qT.drop 12).map V.str))) p (.lst ((qT.take 12).map V.str++(qT.drop 12).map V.str))) l=some (.lst (uM i 17)):=by rw[fA lp,fA (fQ hl n3)];exact hl
 refine#[_,rfl,.inl #[rfl,_,ba.of qd],l,_,_,i,rfl,rfl,qd,DS i 17,rfl,?_,?_,?_,p,_,_,_,rfl,rfl,ba.of fE,N6 (j:=i) (v:=.str (wordOf i)) ?_,k _ (lN s3 mp)]
 .exact hi
 .intro z e;rw[Uy i hi]at e;cases e;rfl
 .intro m z hm e;rw[Uz i hi m hm]at e;cases e;rfl
 .have:∀ i,i<17->((qT.take 12).map V.str++(qT.drop 12).map V.str)[i]?=some (.str (wordOf i)):=by decide
  exact this i hi
theorem ahx:gK sj=[cT 0,cT 1,cT 2,cT 3,cT 4,cT 5,cT 6,cT 7]:=rfl
end
section
variable {R:Addr} {c:Nat -> Addr} {f:Addr}
theorem Rx (F:hG K "_law_word" "_law_word" sj f fd) (T:kY K mg R c):yO P w K mg base qC 1 f fd ["_law_e"] (abt c):=by
 refine F.kS IP (λvs H Q E h=>?_) (λcdv A outer s H vs Q E hr h=>?_)
 .let#[a,i,rfl,_]:=h;rfl
 .let#[a,i,rfl,hi,ha,q]:=h;rw[ahx];let#[t0,p0,r0]:=w0 (P:=P) (w:=w) (K:=K) (mg:=mg) (base:=base) (f:=f) (cdv:=cdv) (A:=A) (outer:=outer) (s:=s) (Hx:=H) (E:=E) T hi ha;let#[t1,p1,r1]:=w1 (P:=P) (w:=w) (K:=K) (mg:=mg) (base:=base) (f:=f) (cdv:=cdv) (A:=A) (outer:=outer) (s:=s) (Hx:=H) (E:=E) T hi ha 1 (js:=[4,5,6,7]) za #[_,_,_,_,_,_,rfl,by kernel_rfl];let#[t2,p2,r2]:=w1 (P:=P) (w:=w) (K:=K) (mg:=mg) (base:=base) (f:=f) (cdv:=cdv) (A:=A) (outer:=outer) (s:=s) (Hx:=H) (E:=E) T hi ha 2 (js:=[8,9,10,11]) za #[_,_,_,_,_,_,rfl,by kernel_rfl];let#[t3,p3,r3]:=w1 (P:=P) (w:=w) (K:=K) (mg:=mg) (base:=base) (f:=f) (cdv:=cdv) (A:=A) (outer:=outer) (s:=s) (Hx:=H) (E:=E) T hi ha 3 (js:=[12,13,14,15]) za #[_,_,_,_,_,_,rfl,by kernel_rfl];let#[t4,p4,r4]:=w4 (P:=P) (w:=w) (K:=K) (mg:=mg) (base:=base) (f:=f) (cdv:=cdv) (A:=A) (outer:=outer) (s:=s) (Hx:=H) (E:=E) T hi ha;let#[t5,p5,r5]:=w5 (P:=P) (w:=w) (K:=K) (mg:=mg) (base:=base) (f:=f) (cdv:=cdv) (A:=A) (outer:=outer) (s:=s) (Hx:=H) (E:=E) T hi ha;let#[t6,p6,r6]:=w6 (P:=P) (w:=w) (K:=K) (mg:=mg) (base:=base) (f:=f) (cdv:=cdv) (A:=A) (outer:=outer) (s:=s) (Hx:=H) (E:=E) (a:=a) (H0:=H) T;let#[t7,p7,r7]:=w7 (P:=P) (w:=w) (K:=K) (mg:=mg) (base:=base) (f:=f) (cdv:=cdv) (A:=A) (outer:=outer) (s:=s) (Hx:=H) (E:=E) (a:=a) (H0:=H) T hi;generalize cT 0=x0 at p0 ⊢;generalize cT 1=x1 at p1 ⊢;generalize cT 2=x2 at p2 ⊢;generalize cT 3=x3 at p3 ⊢;generalize cT 4=x4 at p4 ⊢;generalize cT 5=x5 at p5 ⊢;generalize cT 6=x6 at p6 ⊢;generalize cT 7=x7 at p7 ⊢;refine#[_,iT p0 (iT p1 (iT p2 (iT p3 (iT p4 (iT p5 (iT p6 (oM p7))))))),?_];refine r0 _ λl1 H1 n1 s1 e1=>?_;refine r1 _ _ _ _ s1 n1 e1 zf λl2 H2 n2 s2 e2=>?_;refine r2 _ _ _ _ s2 n2 e2 zf λl3 H3 n3 s3 e3=>?_;refine r3 _ _ _ _ s3 n3 e3 zf λl4 H4 n4 s4 e4=>?_;refine r4 _ _ _ _ s4 n4 e4 zf λH5 s5 e5=>?_;have XF:H5 l4=some (.lst (uM i 17)):=e5;refine r5 _ _ _ s5 XF ?_;refine r6 _ _ _ s5 λl6 H6 n6 e6=>?_;subst e6;have m6:H l6=zy:=s5.free n6;refine r7 _ _ _ _ (lN s5 m6) (by rw[fA (fQ XF n6)];exact XF) fE λH7 s7=>q H7 s7
end
end K54.Wd
namespace K54
open L2 L2.DL PySem.W
theorem UB {l:PySem.W.OpenLaw}{w:World}{K:Frag}{h:Heap}{mg:Str->Option kz}{fa:Addr}(X:K.In h) (G:h.Ns mainGlobals mg) (xF:mg "law"=some (.ref fa))
 (z0:IK K tx.bl=zO) (g0:IL K tx.gl=zO) (y1:II K=zO)
 (d0:bq K "_law_pot" (top 53))
 (d1:bq K "_law_take" (top 54))
 (d2:bq K "_law_house" (top 59))
 (d3:bq K "_law_cell_at" (top 52))
 (d4:bq K "_law_moves" (top 62))
 (d5:bq K "_law_odd" (top 57))
 (d6:bq K "_law_whole" (top 55))
 (d7:bq K "_law_within" (top 56))
 (d8:bq K "_law_is_house" (top 61))
 (d9:bq K "is_tuple" (top 22))
 (ahy:bq K "is_whole" (top 20))
 (ahz:bq K "is_within" (top 21))
 (ahA:bq K "are_rooms" (top 28))
 (ahB:bq K "are_rates" (top 31))
 (ahC:bq K "is_kind" (top 30))
 (ahD:bq K "are_kinds" (top 29))
 (ahE:bq K "is_rising" (top 23))
 (ahF:bq K "is_pair_apart" (top 33))
 (ahG:bq K "are_apart" (top 32))
 (ahH:bq K "is_house" (top 27))
 (ahI:bq K "need_house" (top 34))
 (ahJ:bq K "is_room" (top 35))
 (ahK:bq K "is_move" (top 44))
 (ahL:bq K "are_moves" (top 43))
 (ahM:bq K "need_moves" (top 42))
 (ahN:bq K "rooms_named" (top 46))
 (ahO:bq K "rings_of" (top 47))
 (ahP:bq K "meets" (top 49))
 (ahQ:bq K "fewest_of_each" (top 48))
 (ahR:bq K "in_turn" (top 50))
 (ahS:bq K "openings" (top 39))
 (ahT:bq K "is_row" (top 40))
 (ahU:bq K "need_number" (top 24))
 (ahV:bq K "is_ring" (top 45))
 (ahW:bq K "are_rings" (top 41))
 (ahX:bq K "_law_told" (top 63))
 (ahY:bq K "_law_bent" (top 58))
 (ahZ:bq K "_law_are_moves" (top 64))
 (ah0:bq K "law" (top 65))
 {R c0 c1 c2 c3 c4 c5 c6 c7 c8 c9 xG xH xI xK xM xO xQ:Addr}
 (eR:nsIn K mainGlobals "RimeError"=some (some (.ref R)))
 (e0:nsIn K mainGlobals "NoHouse"=some (some (.ref c0)))
 (e1:nsIn K mainGlobals "NoOuts"=some (some (.ref c1)))
 (e2:nsIn K mainGlobals "NoRoom"=some (some (.ref c2)))
 (e3:nsIn K mainGlobals "NoHour"=some (some (.ref c3)))
 (e4:nsIn K mainGlobals "NoPages"=some (some (.ref c4)))
 (e5:nsIn K mainGlobals "NoLot"=some (some (.ref c5)))
 (e6:nsIn K mainGlobals "NoAsks"=some (some (.ref c6)))
 (e7:nsIn K mainGlobals "NoNumber"=some (some (.ref c7)))
 (e8:nsIn K mainGlobals "NoMoves"=some (some (.ref c8)))
 (e9:nsIn K mainGlobals "NoEach"=some (some (.ref c9)))
 (ah1:nsIn K mainGlobals "NoOrder"=some (some (.ref xG)))
 (ah2:nsIn K mainGlobals "NoPage"=some (some (.ref xH)))
 (ah3:nsIn K mainGlobals "NoOut"=some (some (.ref xI)))
 (ah4:nsIn K mainGlobals "Twice"=some (some (.ref xK)))
 (ah5:nsIn K mainGlobals "Missing"=some (some (.ref xM)))
 (ah6:nsIn K mainGlobals "TooMany"=some (some (.ref xO)))
 (ah7:nsIn K mainGlobals "NoDeed"=some (some (.ref xQ)))
 (zi:nsIn K mainGlobals "isinstance"=some zy) (zv:nsIn K mainGlobals "ValueError"=some zy)
 (h1:([c0,c1,c2,c3,c4,c5,c6,c7,c8,c9,xG,xH,xI,xK,xM,xO,xQ]:List Addr).all (IJ K R)=zO) (h2:XA K ([c0,c1,c2,c3,c4,c5,c6,c7,c8,c9,xG,xH,xI,xK,xM,xO,xQ]:List Addr)=zO) (h3:XB K R=zO)
 {fW:Addr}{ah8 ah9:Option Addr}{aia:Array (Option kz)}{aib aic aid aie acD aif:kz}(aW:nsIn K mainGlobals "_law_word"=some (some (.ref fW))) (lW:K.lookup fW=some #[aib,ah8,.func (fnOf "_law_word" "_law_word" (ja Wd.sj) (gK Wd.sj) (fH Wd.sj) .none aic aid aie ah9 acD aif),aia]) (gW:codeIn K acD "_law_word"=zO) (kW:keepIn K (.ref fW)=zO) :
 ∃ (cl:Nat->Addr) (fd:FuncData),zaL /\ ∀ base:Heap,K.In base->base.Ns mainGlobals mg->eM l.prog w K mg base (eB l.prog w) 51 fa fd ["_law_script"] (qH cl 1 K54.BM):=by
 have DF:=acC X G (l:=IM) #[ah0,ahZ,ahY,ahX,ahW,ahV,ahU,ahT,ahS,ahR,ahQ,ahP,ahO,ahN,ahM,ahL,ahK,ahJ,ahI,ahH,ahG,ahF,ahE,ahD,ahC,ahB,ahA,ahz,ahy,d9,d8,d7,d6,d5,d4,d3,d2,d1,d0,trivial] (by kernel_rfl);refine Rw (λi=>([c0,c1,c2,c3,c4,c5,c6,c7,c8,c9,xG,xH,xI,xK,xM,xO,xQ]:List Addr).getD i 0) xF (DF XD (bK ..)) (λfd f F s u=>?_) λbase _ _=>?_
 .let#[#[oc,od,kV,doc,pm,an,cdv,ct,pE,rfl,_,_],_]:=F;exact .of_eq bz
 .have ext:kY K mg R (λi=>([c0,c1,c2,c3,c4,c5,c6,c7,c8,c9,xG,xH,xI,xK,xM,xO,xQ]:List Addr).getD i 0):=Uv X G bz eR (λi x hx=>by
   match i,hx with
   |0,hx=>cases hx;exact e0
   |1,hx=>cases hx;exact e1
   |2,hx=>cases hx;exact e2
   |3,hx=>cases hx;exact e3
   |4,hx=>cases hx;exact e4
   |5,hx=>cases hx;exact e5
   |6,hx=>cases hx;exact e6
   |7,hx=>cases hx;exact e7
   |8,hx=>cases hx;exact e8
   |9,hx=>cases hx;exact e9
   |10,hx=>cases hx;exact ah1
   |11,hx=>cases hx;exact ah2
   |12,hx=>cases hx;exact ah3
   |13,hx=>cases hx;exact ah4
   |14,hx=>cases hx;exact ah5
   |15,hx=>cases hx;exact ah6
   |16,hx=>cases hx;exact ah7
   |n+17,hx=>simp[uz]at hx) zi zv h1 h2 h3
  have hw:Ei l.prog w K mg base (λi=>([c0,c1,c2,c3,c4,c5,c6,c7,c8,c9,xG,xH,xI,xK,xM,xO,xQ]:List Addr).getD i 0):=by
   have F:=D6 (st:=Wd.sj) lW gW kW;exact#[fW,_,Wd.Rx F ext,mg_of X G aW,kW,F.binds (ps:=["_law_e"]) λ_ _ _ _ _ _ us hl=>match us,hl with|[_],_=>rfl]
  exact Rv (VH X G z0 g0 y1 (λ_=>#[R,ext]) (λ_=>hw)) IM Uw Ux DF XD (bK ..)
end K54
end
structure PySem.W.Fast:Prop where(tw3696525422837938289 tw5477534380480248558 tw11593880542663750162 tw10408938225777052118 tw9671526949126448531 tw10731497246126455570 tw15180563503726466647 tw10067170639777345675 tw6338421086652555333 tw1620174258028073073 tw14454061605773648747 tw7271358537451066582 tw15161341392910900939 tw12681081026773922169 tw4761657048584112111 tw15632855845648289324 tw17969320221991914340 tw1523656111050386782 tw333833879021747060 tw10022516100296570990 tw2334663779465950605 tw11837166082310315217 tw11203032629021933898 tw9492241508839166273 tw12897059826893661764 tw17494147866221260304 tw16950418803148857035 tw13611423332610099415 tw3804994385937252600 tw13657062159565578522 tw6614819414294677440 tw5712323500626962171 tw16552380160693679058 tw4799761790178574772 tw8468232251802558589 tw15101593932260127796 tw9213708540448290040 tw1439127345911119471 tw10706185957557852739 tw12427121695298711380 tw12016625965249140320 tw9276499877102539995 tw3781939930130115014 tw10109672934258995446 tw3134788895538858875 tw10287728996813027331 tw4005388690068640054 tw2205622736990918414 tw1314812077999926562 tw5719197503422207816 tw8028345871844160625 tw12059417882641333687 tw16669618375593903936 tw13447721547578721164 tw15916410661331995484 tw13180349933768173811 tw11303679029117279412 tw15874838327281766266 tw14274388151700577008 tw5534130447764052894 tw16167791480961891368 tw139297785824248030 tw16697716996289460271 tw15765374537583732291 tw18423109009931463193 tw5324284642695346325 tw18412252257515409317 tw2801720807228960669 tw7098733840944701238 tw1700207607256043951 tw12051250095807684455 tw9450576061299841098 tw8901839330114559025 tw12545587093919636917 tw6927901352353280355 tw17378127800216475308 tw10912025860759520615 tw9601116458647527596 tw6040691381124359948 tw2694479675847149495 tw9438361543139738259 tw10808239517214395611 tw11884503972879223316 tw17521541436919544439 tw11748177978004469877 tw11169857214073835953 tw13431989742874315527 tw13667064172399413736 tw14142940269003091311 tw14201394250683150615 tw7658322602205091243 tw4543790631960253621 tw16368945400809477236 tw4162241775515264954 tw11673180662000182517 tw3850661782850930952 tw1550919810435517757 tw9113776082768916342 tw15618778854167528401 tw1893711136287416181 tw3035774855648861294 tw17977836389904534672 tw6081300304253549349 tw7072971447893047242 tw1892392545086490355 tw5938642944849922792 tw13287952197041971153 tw16187690165649873383 tw6151494356193847699 tw5473343225565778419 tw3355410245945930364 tw10516110949784461836 tw11285561777165803777 tw6305258425202601167 tw9209627014601347434 tw4228016849228910197 tw7037310612964137486 tw8152183293591288121 tw10158145428469109507 tw14471345993361425012 tw3720265703225971705 tw15235283102369833141 tw8518315819413241354 tw1957951680309629406 tw7026103072398355481 tw4885621196183215451 tw9536859860950046760 tw14393134234564808234 tw13305856498998628011 tw9582959836674964050 tw6723074847951892715 tw1783731572136931619 tw914006323256516378 tw9807138941639000549 tw9039244489281441208 tw1355852011160020016 tw1497995760714226053 tw12365125791890082133 tw18086671363415080699 tw325766238384259336 tw13280040592455055166 tw7872498657297453443 tw12007361526967505578 tw12871338526703076865 tw10488162398647337417 tw11893257081598645684 tw13717241752262247766 tw2838124584241309332 tw422474436470609233 tw5775429110285083781 tw12768724363641975750 tw15121851501554542663 tw17024452082966570913 tw2050639273826983779 tw823462758880667746 tw1096221651716620048 tw14469909884748078212 tw11324429848092511195 tw17999487494511873412 tw8888733308330922187 tw3464391076953114571 tw7890197550487927861 tw15458761119032731092 tw5270739011983699620 tw5525195539387301365 tw13741857655040693639 tw3267836055288776706 tw8516267753055636884 tw12599080954321947221 tw7229418207675276156 tw7450809323085604218 tw1736992547233400297 tw7156626728128335164 tw4412746930181875683 tw7750784576254998722 tw2998903740924652030 tw14755974426260498723 tw14869482710262850693 tw11391864939692694843 tw426332506122196233 tw5802192086612929269 tw4115926681243255376 tw2634540309462393943 tw4428817455380305863 tw10818512813471819352 tw1265372536195595059 tw9136998399933620259 tw13732777049221041833 tw5373380794105530479 tw6213325215845310943 tw577467878996124261 tw7902431745737958478 tw10013641026163114706 tw4449999828239821314 tw17390446133021572421 tw13900279196190547201 tw1820999802695899987 tw11005645078555425101 tw5896248478539646947 tw341946763446351310 tw1424196426130772949 tw10538902475137306142 tw3295073698818664851 tw14949653308857429295 tw17788584959742719891 tw10961201131249865423 tw2346971568765553655 tw14740255778945922007 tw18283204096538229315 tw16739886239160681162 tw4204275367801555620 tw13814431526290035618 tw12912493425527689480 tw9204473990331514165 tw16912492668637408898 tw8281190567341169009 tw769959017651178219 tw5583004278400094165 tw6963285901664153541 tw3552391992736530521 tw9178133359393573640 tw6078453464344419194 tw15468694501275907323 tw8544612303993760641 tw15052324979158663311 tw3439050406291314064 tw12687014693151952992 tw13873855937580250634 tw4672754237497937920 tw1313311815757758575 tw13800760371663870038 tw13392677971196399429 tw11054843896593502124 tw3195463356318862590 tw5879566041084990502 tw12348745162072584886 tw9261273349769995872 tw7440023985786077940 tw5498599023060976131 tw6188461231574252185 tw10586536867261839662 tw7578451405055584511 tw14350387290708565672 tw17257617941320135198 tw16669830016362879741 tw2880231775854598731 tw758705188453911952 tw18307060460574918545 tw5683672016332793392 tw13899813435482204830 tw5904380033680821137 tw18215564055727952510 tw4034703305112328225 tw8227439985264934245 tw786015929657805213 tw5983899768410240735 tw11595416729218670324 tw14547714202336992751 tw2161352907157368656 tw11189562454616691004 tw7216944924659611960 tw6194462257984508859 tw9426303071310685218 tw13334006398599583569 tw6263690957153867558 tw7698091712731274440 tw12947669151522658144 tw1527450108920078222 tw17116139597005440892 tw11367153580089284411 tw5588279250337701487 tw7577923858689820356 tw7888967015209921885 tw5235268955517600365 tw820365672193167459 tw2431344558811364842 tw11366147064192626054 tw5449682785466276571 tw2006633118511773237 tw16854991125811386558 tw5495011948896378037 tw14449987718947476548 tw16398024450580113817 tw15203209202097526369 tw10200993662143495994 tw438246402100584789 tw1576273297805022491 tw195791290161501674 tw4650838851905894727 tw7012057959420157926 tw11879427621301045580 tw10240463381104058867 tw755209686715769949 tw9831179053127606965 tw13915008861247061741 tw7370338961763492317 tw11808316651815107756 tw17959821439286428440 tw16771186182098401987 tw18363157306145742964 tw11752228031798008308 tw9293239861119008242 tw1580163292161227419 tw2766130635229015600 tw16194300726543957462 tw6247117518813918980 tw16825753351912710349 tw658399092705455619 tw11791779744995400509 tw7543070800853162976 tw7099815535294274734 tw16618495977464848866 tw10729927826847200494 tw12364438965944483358 tw5547086363236322276 tw7889550517268058650 tw18417618529737872075 tw18431343940946237935 tw16823472613562919407 tw9256730907627839136 tw16264028928389730041 tw13744447069968693144 tw1006446081840833117 tw14617852672614637068 tw15822888327170212160 tw2227748240587872297 tw12069510630973057186 tw8680281594556654467 tw17338567168430879177 tw12562541270697964115 tw10839686917238022323 tw17485300683096763812 tw3780690679974831162 tw2698397323039873858 tw8709832507978215066 tw107458521267650411 tw1008879815175168761 tw1904424496754343032 tw5029339767241533794 tw2251376700897104113 tw6877759493233486911 tw968103179010809187 tw6725258049964111470 tw8601615339328008797 tw13669894891914834074 tw15297979111347094919 tw5173881056579040570 tw4770614089717666469 tw16611985072231276496 tw14141756690477686401 tw11505460176137871457 tw7329293875347774260 tw8385917262421018364 tw4970844117908832491 tw14249713525857620611 tw16900172737905279855 tw10585953438829861622:True)
open_top hdk54 for PySem.Challenge.rw_rimehold_k54_moves_refused

set_option maxRecDepth 100000 in
set_option maxHeartbeats 0 in
theorem PySem.Challenge.cw_rimehold_k54_moves_refused_holds : PySem.Challenge.rw_rimehold_k54_moves_refused.Holds :=
 hdk54 (by
 k_fill
 refine L2.DL.walk_d (l:=PySem.Challenge.rw_rimehold_k54_moves_refused) (k:=51) (fn:=K54.BM) ⟨rfl,by decide,by decide,rfl⟩ rfl rfl (λw h Y=>PySem.W.kIn_of Y) ?kq_nl (λns h=>K54.law_true ns (by lia)) ?kq_F
 case kq_nl =>
  intro w;kernel_rfl
 case kq_F =>
  intro w mg fa h KX G hmg
  refine' K54.UB KX G hmg ?kq_z0 ?kq_g0 ?kq_y1 ?_ ?_ ?_ ?_ ?_ ?_ ?_ ?_ ?_ ?_ ?_ ?_ ?_ ?_ ?_ ?_ ?_ ?_ ?_ ?_ ?_ ?_ ?_ ?_ ?_ ?_ ?_ ?_ ?_ ?_ ?_ ?_ ?_ ?_ ?_ ?_ ?_ ?_ ?_ ?kq_eR ?kq_e0 ?kq_e1 ?kq_e2 ?kq_e3 ?kq_e4 ?kq_e5 ?kq_e6 ?kq_e7 ?kq_e8 ?kq_e9 ?kq_e10 ?kq_e11 ?kq_e12 ?kq_e13 ?kq_e14 ?kq_e15 ?kq_e16 ?kq_zi ?kq_zv ?kq_h1 ?kq_h2 ?kq_h3 ?kq_aW ?kq_lW ?kq_gW ?kq_kW
  (case kq_z0=>kernel_rfl)
  (case kq_g0=>kernel_rfl)
  (case kq_y1=>kernel_rfl)
  (case kq_eR=>k_is)
  (case kq_e0=>k_is)
  (case kq_e1=>k_is)
  (case kq_e2=>k_is)
  (case kq_e3=>k_is)
  (case kq_e4=>k_is)
  (case kq_e5=>k_is)
  (case kq_e6=>k_is)
  (case kq_e7=>k_is)
  (case kq_e8=>k_is)
  (case kq_e9=>k_is)
  (case kq_e10=>k_is)
  (case kq_e11=>k_is)
  (case kq_e12=>k_is)
  (case kq_e13=>k_is)
  (case kq_e14=>k_is)
  (case kq_e15=>k_is)
  (case kq_e16=>k_is)
  (case kq_zi=>k_is)
  (case kq_zv=>k_is)
  (case kq_h1=>kernel_rfl)
  (case kq_h2=>kernel_rfl)
  (case kq_h3=>kernel_rfl)
  (case kq_aW=>k_is)
  (case kq_lW=>k_is)
  (case kq_gW=>k_is)
  (case kq_kW=>k_is)
  any_goals exact L2.DL.dIn_mk (by k_is) (by k_is) (by k_is) (by k_is)
 )
